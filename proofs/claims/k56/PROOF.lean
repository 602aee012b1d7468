import PyProof.Rows.All
import Wide.All
import OpenK.AllK
import Wide.FinOn
import Lean
import PyProof.EqAt
import PyProof.EqKinds
import PyProof.TupleCall
import KE.KSortKey
import KE.KLam
import KE.KNestM
import PySem.Challenge.RW_relaid_k56_whole_one_strand
set_option compiler.extract_closed false
open PySem.Heap (get?_push_of_some get?_push_size lt_size)
open PySem.W (Frag callWith_K codeIn emptyDict excIn exmOne findCls findIn fnOf handedIn hasDictIn hideAll instObj isFn keepIn kia_one kitOne lookIn makesIn methodCall_KW mg_of mroIn nsIn of_hideAll plainGet plainGet_of plainOver readsIn specialIn takerIn takesIn)
open List (all_eq_true append_nil cons_append drop_left ext_getElem? filter_append filter_cons flatMap_append flatMap_cons foldl forall_mem_cons forall_mem_nil getD_eq_getElem?_getD getElem?_append_left getElem?_append_right getElem?_map getElem?_range getElem?_set_ne getElem_idxOf getElem_inj idxOf_lt_length_iff length_append length_cons length_drop length_filter_le length_map length_range length_replicate length_set length_take map_append map_congr_left map_cons map_map mem_append mem_append_left mem_append_right mem_cons mem_cons_of_mem mem_cons_self mem_filter mem_flatMap mem_map mem_of_getElem? mem_of_mem_take mem_range mem_singleton nil_append nodup_append nodup_cons nodup_iff_pairwise_ne nodup_range not_mem_nil pairwise_cons pairwise_flatMap pairwise_lt_range pairwise_map perm_ext_iff_of_nodup range_succ replicate size_toArray sum_append sum_cons sum_nil take_append_drop take_append_getElem take_length)
open Array (length_toList)
open PyProof.Rows (boot_isinstance boot_list boot_min boot_sorted boot_sum boot_tuple callWith_type1)
open Option (isSome_iff_exists map_some)
open PySem (mem_of_lookup slot_list_append type_list_append)
open PySem.F (plainAttrs_list slot_dict_get slot_list_index type_list_index)
set_option Elab.async false
set_option linter.all false
set_option maxRecDepth 100000
set_option maxHeartbeats 4000000
theorem gE{α:Type u}{l:List α}{i:Nat}(h:i<l.length):l[i]?=some l[i]:=List.getElem?_eq_getElem h
theorem gS{α:Type u}{l:List α}{i:Nat}{a:α}(h:l[i]?=some a):i<l.length:=(List.getElem?_eq_some_iff.mp h).1
namespace L2
open PySem PySem.Spec PyProof.Rows
noncomputable abbrev Key:=Sum Int Str
noncomputable def Jhi:Key->Value->Bool
 | .inl k,v=>Value.isInt k v
 | .inr x,v=>Value.isStrOf x v
noncomputable def keyH(w:World):Key->Int
 | .inl k=>hashInt k
 | .inr x=>hashStr w x
theorem J1y:∀{k:Key} {v:Value},Jhi k v=true->(∃i t,k=Sum.inl i/\v=Value.int i t)\/(∃x t,k=Sum.inr x/\v=Value.str x t)
 | .inl i,v,h=>by
  obtain⟨t,e⟩:=Value.isInt_shape (k:=i) (v:=v) h;exact .inl ⟨i,t,rfl,e⟩
 | .inr x,v,h=>by
  obtain⟨t,e⟩:=Value.isStrOf_shape (x:=x) (v:=v) h;exact .inr ⟨x,t,rfl,e⟩
theorem Jkf(i:Int)(t:Tok):Jhi (.inl i) (.int i t)=true:=by simp[Jhi,Value.isInt]
theorem Jke(x:Str)(t:Tok):Jhi (.inr x) (.str x t)=true:=by simp[Jhi,Value.isStrOf]
theorem key_ll(a b:Int):decide ((Sum.inl a:Key)=Sum.inl b)=(a==b):=by
 grind
theorem key_rr(a b:Str):decide ((Sum.inr a:Key)=Sum.inr b)=decide (a=b):=by
 grind
theorem key_lr(a:Int)(b:Str):decide ((Sum.inl a:Key)=Sum.inr b)=false:=decide_eq_false (fun q=>nomatch q)
theorem key_rl(a:Str)(b:Int):decide ((Sum.inr a:Key)=Sum.inl b)=false:=decide_eq_false (fun q=>nomatch q)
noncomputable def J27(prog:Program)(w:World):PySem.KeyKind prog w Key where
 is:=Jhi
 hash:=keyH w
 inj:=fun v a b f hb=>by
  rcases J1y f with⟨i,t,rfl,rfl⟩|⟨x,t,rfl,rfl⟩
  ·rcases J1y hb with⟨j,u,rfl,e⟩|⟨y,u,rfl,e⟩
   ·injection e with e1 _;rw[e1]
   ·exact nomatch e
  ·rcases J1y hb with⟨j,u,rfl,e⟩|⟨y,u,rfl,e⟩
   ·exact nomatch e
   ·injection e with e1 _;rw[e1]
 byValue:=fun k v h=>by
  rcases J1y h with⟨i,t,rfl,rfl⟩|⟨x,t,rfl,rfl⟩ <;> rfl
 pyHash:=fun c h=>by
  rcases J1y c with⟨i,t,rfl,rfl⟩|⟨x,t,rfl,rfl⟩
  ·exact wpAny_pyHash_int h
  ·exact wpAny_pyHash_str h
 eqBool:=fun d c h=>by
  rcases J1y d with⟨i,t,rfl,rfl⟩|⟨x,t,rfl,rfl⟩
  ·rcases J1y c with⟨j,u,rfl,rfl⟩|⟨y,u,rfl,rfl⟩
   ·rw[key_ll] at h;exact wpAny_eqBool_int h
   ·rw[key_lr] at h;exact SeqAt.EqAt.int_str i t y u _ _ _ _ h
  ·rcases J1y c with⟨j,u,rfl,rfl⟩|⟨y,u,rfl,rfl⟩
   ·rw[key_rl] at h;exact SeqAt.EqAt.str_int x t j u _ _ _ _ h
   ·rw[key_rr] at h;exact wpAny_eqBool_str h
 «strs»:=fun k x t v h=>by
  rcases J1y h with⟨i,u,rfl,e⟩|⟨y,u,rfl,e⟩
  ·exact nomatch e
  ·injection e with e1 _
   subst e1;cases v <;> rfl
theorem Jef(prog:Program)(w:World)(i:Int)(t:Tok):(J27 prog w).is (.inl i) (.int i t)=true:=Jkf i t
theorem Jee(prog:Program)(w:World)(x:Str)(t:Tok):(J27 prog w).is (.inr x) (.str x t)=true:=Jke x t
inductive V where
 | non|bl (b:Bool)|int (i:Int)|str (x:Str)|byt (b:Array UInt8)|flt (b:UInt64)|ref (a:Addr)|ty (n:String)
 deriving DecidableEq
noncomputable def RelV:V->Value->Prop
 | .non,u=>u=Value.none
 | .bl b,u=>u=Value.bool b
 | .int i,u=>∃t,u=Value.int i t
 | .str x,u=>∃t,u=Value.str x t
 | .byt b,u=>∃t,u=Value.bytes b t
 | .flt b,u=>∃t,u=Value.float b t
 | .ref a,u=>u=Value.ref a
 | .ty n,u=>u=Value.type n
noncomputable abbrev Vals:List V->List Value->Prop:=Paired RelV
theorem Vals.length(r:Vals xs us):xs.length=us.length:=Paired.length r
theorem Vals.get:∀{xs:List V} {us:List Value} {i:Nat} {x:V},Vals xs us->xs[i]?=some x->∃u,us[i]?=some u/\RelV x u
 | _,_,_,_,.nil,e=>by simp at e
 | _,_,0,_,.cons r _,e=>by simp at e;subst e;exact⟨_,rfl,r⟩
 | _,_,i+1,x,.cons _ t,e=>by
  obtain⟨u,b,a⟩:=Vals.get (i:=i) (x:=x) t (by simpa using e);exact⟨u,by assumption,a⟩
theorem Vals.set(r:RelV x u):∀{xs:List V} {us:List Value} (i:Nat),Vals xs us->Vals (xs.set i x) (us.set i u)
 | _,_,_,.nil=>.nil
 | _,_,0,.cons _ t=>.cons r t
 | _,_,i+1,.cons q t=>.cons q (Vals.set r i t)
theorem Vals.append:∀{xs ys:List V} {us ws:List Value},Vals xs us->Vals ys ws->Vals (xs++ys) (us++ws)
 | _,_,_,_,.nil,s=>s
 | _,_,_,_,.cons r t,s=>.cons r (Vals.append t s)
theorem Vals.take:∀{xs:List V} {us:List Value} (n:Nat),Vals xs us->Vals (xs.take n) (us.take n)
 | _,_,0,_=>.nil
 | _,_,_+1,.nil=>.nil
 | _,_,n+1,.cons r t=>.cons r (Vals.take n t)
theorem Vals.drop:∀{xs:List V} {us:List Value} (n:Nat),Vals xs us->Vals (xs.drop n) (us.drop n)
 | _,_,0,r=>r
 | _,_,_+1,.nil=>.nil
 | _,_,n+1,.cons _ t=>Vals.drop n t
noncomputable def RelO:Option V->Option Value->Prop
 | some v,some u=>RelV v u
 | none,none=>True
 | _,_=>False
noncomputable def KV{κ:Type}:List (κ×V)->List (κ×Value)->Prop:=Paired fun(p:κ×V) (q:κ×Value)=>p.1=q.1/\RelV p.2 q.2
noncomputable def kV:Key->V
 | .inl i=>.int i
 | .inr x=>.str x
inductive HO where
  | lst (xs:List V)
  | tup (xs:List V)
  | dK (kvs:List (Key×V))|dT (kvs:List (List Key×V))
  | set (S:Int->Bool) (n:Nat)
  | ins (C dx:Addr) (fs:List (Str×V))
  | own (x:Addr)
  | xd (fs:List (Str×V))
  | met (f x:Addr)
  | rng (lo hi:Int)
  | frz (o:Obj) (u:HO)
  | tbl (ps:Array Value)
  | ext (φ:Heap->Prop)
noncomputable abbrev Hp:=Addr->Option HO
noncomputable def upd(H:Hp)(a:Addr)(o:HO):Hp:=fun b=>if b=a then some o else H b
theorem J7 :upd H a o a=some o:=by unfold upd;rw[if_pos rfl]
theorem Jh(h:b≠a):upd H a o b=H b:=by unfold upd;rw[if_neg h]
theorem Jdi :upd (upd H a o) a u=upd H a u:=by
 funext b;unfold upd;split <;> rfl
theorem Job{H:Hp}(h:H a=some o)(h':H b=some u)(d:o≠u):a≠b:=by
 intro e;subst e;rw[h] at h';exact d (Option.some.inj h')
theorem Jb{H:Hp}(h:H a=some o)(h':H b=none):a≠b:=by
 lia
section
variable(P:Program)(w:World)
noncomputable def TupX(h:Heap)(a:Addr)(b:Array Value):Prop:=∃o,h.get? a=some o/\(o.cls=.type "tuple"/\o.dict=none)/\∃n,o.data=.seq b n
theorem TupX.tup(x:TupX h a items):IsTup h a items:=by obtain⟨o,e,c,r⟩:=x;exact⟨o,e,c.1,r⟩
theorem TupX.lt(x:TupX h a items):a<h.objs.size:=by obtain⟨_,e,_⟩:=x;exact lt_size e
theorem TupX.new(h:Heap)(a:Array Value):TupX (h.push { cls:=.type "tuple",data:=.seq a }) h.objs.size a:=⟨_,get?_push_size _ rfl,⟨rfl,rfl⟩,_,rfl⟩
noncomputable def J2j(H:Hp)(h:Heap)(a:Addr):HO->Prop
 | .lst xs=>xs.length<=sizeLine/\∃(its:List Value) (n:Nat),Vals xs its/\h.get? a=some { cls:=.type "list",data:=.seq its.toArray n }
 | .tup xs=>xs.length<=sizeLine/\∃its:List Value,Vals xs its/\TupX h a its.toArray
 | .dK kvs=>kvs.length<=sizeLine/\(a==sysModules)=false/\∃vs,KV kvs vs/\h.DictOf (J27 P w) a vs
 | .dT kvs=>kvs.length<=sizeLine/\(a==sysModules)=false/\∃xs:List (List Key×Addr×Value),
   Paired (fun(p:List Key×V) (q:List Key×Addr×Value)=>p.1=q.1/\H q.2.1=some (.tup (p.1.map kV))/\RelV p.2 q.2.2) kvs xs/\
   ∃o es ep,h.get? a=some o/\o.ExactDict/\o.data=.dict es ep/\es.toList=xs.map (entryOfKey (tupleKind (J27 P w)))/\(xs.map (·.1)).Nodup
 | .set S n=>h.SetOf (intKind P w) a S n
 | .ins C dx fs=>H dx=some (.own a)/\fs.length<=1000/\dx≠a/\h.get? a=some (instObj C dx)/\
   ∃mA,h.Ns1 dx mA/\(∀f,RelO (fs.lookup f) (mA f))/\PySem.Within mA (fs.map (·.1))
 | .own _=>∃o,h.get? a=some o
 | .xd fs=>∃mA,h.Ns1 a mA/\∀f,RelO (fs.lookup f) (mA f)
 | .rng lo hi=>∃t u v,h.get? a=some { cls:=.type "range",data:=.fields #[.int lo t,.int hi u,.int 1 v] }
 | .frz o u=>h.get? a=some o/\J2j H h a u
 | .tbl ps=>h.get? a=some { cls:=.none,data:=.fields ps }
 | .met f x=>h.get? a=some (PySem.W.methodObj (.ref f) (.ref x))
 | .ext φ=>φ h/\(∃o,h.get? a=some o)/\∀h1 h2:Heap,φ h1->(∀o,h1.get? a=some o->h2.get? a=some o)->φ h2
noncomputable def HOk(H:Hp)(h:Heap):Prop:=∀a o,H a=some o->J2j P w H h a o
end
section
variable{P:Program}{w:World}{H H':Hp}{h h':Heap}{a:Addr}{o:HO}
theorem J2j.lt(x:J2j P w H h a o):a<h.objs.size:=by
 cases o with
 | lst xs=>obtain⟨_,_,_,_,e⟩:=x;exact lt_size e
 | tup xs=>obtain⟨_,_,_,p⟩:=x;exact p.lt
 | dK kvs=>obtain⟨_,_,_,_,o,_,_,e,_⟩:=x;exact lt_size e
 | dT kvs=>obtain⟨_,_,_,_,o,_,_,e,_⟩:=x;exact lt_size e
 | set S n=>obtain⟨o,_,_,_,e,_⟩:=x;exact lt_size e
 | ins C dx fs=>obtain⟨_,_,_,e,_⟩:=x;exact lt_size e
 | own y=>obtain⟨_,e⟩:=x;exact lt_size e
 | xd fs=>obtain⟨_,⟨_,_,_,e,_⟩,_⟩:=x;exact lt_size e
 | rng lo hi=>obtain⟨_,_,_,e⟩:=x;exact lt_size e
 | frz ob u=>obtain⟨e,_⟩:=x;exact lt_size e
 | tbl ps=>exact lt_size (show h.get? a=some _ from x)
 | met f y=>exact lt_size (show h.get? a=some _ from x)
 | ext φ=>obtain⟨_,⟨_,e⟩,_⟩:=x;exact lt_size e
theorem Paired.mapP :∀{c:List α} {l₂:List β},Paired F c l₂->(∀a b,F a b->G a b)->Paired G c l₂
 | _,_,.nil,_=>.nil
 | _,_,.cons r t,f=>.cons (f _ _ r) (Paired.mapP t f)
theorem J2j.stay(x:J2j P w H h a o)(k:∀b u,(b=a\/H b=some (.own a))->h.get? b=some u->h'.get? b=some u)(A:∀b,H b=some (.own a)->H' b=some (.own a))(s:∀b xs,H b=some (.tup xs)->H' b=some (.tup xs)):J2j P w H' h' a o:=by
 induction o with
 | lst xs=>obtain⟨z,j,n,r,e⟩:=x;exact⟨z,j,n,r,k _ _ (.inl rfl) e⟩
 | tup xs=>obtain⟨z,j,r,g,e,c⟩:=x;exact⟨z,j,r,g,k _ _ (.inl rfl) e,c⟩
 | dK kvs=>obtain⟨z,y,vs,r,g,i,ep,e,c⟩:=x;exact⟨z,y,vs,r,g,i,ep,k _ _ (.inl rfl) e,c⟩
 | dT kvs =>
  obtain⟨z,y,xs,r,g,i,ep,e,c⟩:=x;exact⟨z,y,xs,Paired.mapP r fun p q z=>⟨z.1,s _ _ z.2.1,z.2.2⟩,g,i,ep,k _ _ (.inl rfl) e,c⟩
 | set S n=>obtain⟨g,i,ep,t,e,c⟩:=x;exact⟨g,i,ep,t,k _ _ (.inl rfl) e,c⟩
 | ins C dx fs =>
  obtain⟨d,z,ne,e,m,⟨l,i,ep,B,c⟩,r⟩:=x;exact⟨A _ d,z,ne,k _ _ (.inl rfl) e,m,⟨l,i,ep,k _ _ (.inr d) B,c⟩,r⟩
 | own y=>obtain⟨g,e⟩:=x;exact⟨g,k _ _ (.inl rfl) e⟩
 | xd fs=>obtain⟨m,⟨l,i,ep,e,c⟩,r⟩:=x;exact⟨m,⟨l,i,ep,k _ _ (.inl rfl) e,c⟩,r⟩
 | rng lo hi=>obtain⟨t,u,v,e⟩:=x;exact⟨t,u,v,k _ _ (.inl rfl) e⟩
 | frz g u ih=>obtain⟨e,q⟩:=x;exact⟨k _ _ (.inl rfl) e,ih q⟩
 | tbl ps =>
  have e:=x;exact k a _ (.inl rfl) e
 | met f y =>
  have e:=x;exact k a _ (.inl rfl) e
 | ext φ=>obtain⟨p,⟨o,e⟩,st⟩:=x;exact⟨st _ _ p fun o q=>k _ _ (.inl rfl) q,⟨o,k _ _ (.inl rfl) e⟩,st⟩
theorem HOk.lt(x:HOk P w H h)(e:H a=some o):a<h.objs.size:=(x a o e).lt
theorem HOk.fresh(x:HOk P w H h)(e:h.objs.size<=a):H a=none:=by
 cases q:H a with
 | none=>rfl
 | some u=>exact absurd (Nat.lt_of_lt_of_le (x.lt q) e) (Nat.lt_irrefl _)
theorem HOk.kept(x:HOk P w H h)(k:∀b u,h.get? b=some u->h'.get? b=some u):HOk P w H h':=fun a o e =>
 (x a o e).stay (fun b u _ q=>k b u q) (fun _ q=>q) fun _ _ q=>q
theorem HOk.laid(x:HOk P w H h)(k:∀b u,h.get? b=some u->h'.get? b=some u)(f:h.objs.size<=a)(new:J2j P w (upd H a o) h' a o):HOk P w (upd H a o) h':=fun b u e=>by
 have d:=x.fresh f;by_cases hb:b=a
 ·subst hb;rw[J7] at e;cases e;exact new
 ·rw[Jh hb] at e;exact(x b u e).stay (fun c v _ q=>k c v q) (fun c q=>by rw[Jh (Jb q d)];exact q) fun c xs q=>by rw[Jh (Jb q d)];exact q
end
noncomputable def Rd(H:Hp)(a:Addr)(u:HO):Prop:=H a=some u\/∃o,H a=some (.frz o u)
theorem Rd.ok(r:Rd H a u)(x:HOk P w H h):J2j P w H h a u:=by
 rcases r with r|⟨o,r⟩
 ·exact x a u r
 ·obtain⟨_,q⟩:=x a _ r;exact q
noncomputable def Mut:Option HO->Prop
 | some (.lst _)=>True
 | some (.dK _)=>True
 | some (.dT _)=>True
 | some (.set _ _)=>True
 | some (.ins _ _ _)=>True
 | some (.ext _)=>True
 | _=>False
section
variable{P:Program}{w:World}{H:Hp}{h h':Heap}{x e:Addr}{o':HO}
theorem HOk.write(ok:HOk P w H h)(mu:Mut (H x))(l:e=x\/H e=some (.own x))(k:∀b u,b≠e->h.get? b=some u->h'.get? b=some u)(i:∃u,h'.get? e=some u)(new:J2j P w (upd H x o') h' x o'):HOk P w (upd H x o') h':=fun b u q=>by
 have d:∀c y,H c=some (.own y)->c≠x:=fun c y r z=>by subst z;rw[r] at mu;exact mu
 have f:∀c xs,H c=some (.tup xs)->c≠x:=fun c xs r z=>by subst z;rw[r] at mu;exact mu
 by_cases hb:b=x
 ·subst hb;rw[J7] at q;cases q;exact new
 ·rw[Jh hb] at q;by_cases a:b=e
  ·have j:H b=some (.own x):=by
    rcases l with z|z
    ·exact absurd (a.trans z) hb
    ·rw[a];exact z
   rw[q] at j;cases j;obtain⟨v,m⟩:=i;exact⟨v,by rw[a];exact m⟩
  ·refine(ok b u q).stay (fun c v g r=>k c v ?_ r) (fun c r=>by rw[Jh (d c b r)];exact r) fun c xs r=>by rw[Jh (f c xs r)];exact r
   rcases g with rfl|g
   ·exact a
   ·rintro rfl;rcases l with z|z
    ·exact d c b g z
    ·rw[g] at z;cases z;exact hb rfl
end
structure Un(fs ex:List Addr)(H H':Hp)(h h':Heap):Prop where
 keep:∀b o,h.get? b=some o->H b=none->b ∉ fs->b ∉ ex->h'.get? b=some o
 slot:∀b o,h.get? b=some o->H b=none->b∈fs->b ∉ ex->∃sl,h'.get? b=some { o with slots:=sl }
 free:∀b o,h.get? b=some o->H b=none->b ∉ ex->H' b=none
 there:∀b o,h.get? b=some o->b ∉ ex->∃o',h'.get? b=some o'
 tups:∀b xs,H b=some (.tup xs)->H' b=some (.tup xs)
 frzs:∀b o u,H b=some (.frz o u)->H' b=some (.frz o u)
 tbls:∀b ps,H b=some (.tbl ps)->∃more,H' b=some (.tbl (ps++more))
section
variable{fs fs' ex ex':List Addr}{H H1 H2:Hp}{h h1 h2 h':Heap}{a x e:Addr}{o:HO}
theorem Un.any(u:Un fs ex H H1 h h1)(q:h.get? b=some ob)(n:H b=none)(a:b ∉ ex):∃c,h1.get? b=some { ob with slots:=c }:=by
 by_cases hb:b∈fs
 ·exact u.slot b ob q n hb a
 ·exact⟨ob.slots,u.keep b ob q n hb a⟩
theorem Un.kept(k:∀b u,h.get? b=some u->h'.get? b=some u):Un fs ex H H h h':=
 ⟨fun b a q _ _ _=>k b a q,fun b a q _ _ _=>⟨a.slots,k b a q⟩,fun _ _ _ n _=>n,fun b a q _=>⟨a,k b a q⟩,fun _ _ q=>q,fun _ _ _ q=>q,fun _ ps q=>⟨#[],by rw[q];simp⟩⟩
theorem Un.refl:Un fs ex H H h h:=Un.kept fun _ _ q=>q
theorem Un.laid(k:∀b u,h.get? b=some u->h'.get? b=some u)(d:h.objs.size<=a)(c:H a=none):Un fs ex H (upd H a o) h h' where
 keep:=fun b u q _ _ _=>k b u q
 slot:=fun b u q _ _ _=>⟨u.slots,k b u q⟩
 free:=fun b u q n _=>by rw[Jh (Nat.ne_of_lt (Nat.lt_of_lt_of_le (lt_size q) d))];exact n
 there:=fun b u q _=>⟨u,k b u q⟩
 tups:=fun b xs q=>by rw[Jh (Jb q c)];exact q
 frzs:=fun b u xs q=>by rw[Jh (Jb q c)];exact q
 tbls:=fun b ps q=>⟨#[],by rw[Jh (Jb q c),q];simp⟩
theorem Un.write(mu:Mut (H x))(g:e=x\/H e=some (.own x))(k:∀b u,b≠e->h.get? b=some u->h'.get? b=some u)(d:∃u,h'.get? e=some u):Un fs ex H (upd H x o) h h':=by
 have f:∀b,H b=none->b≠x:=fun b n z=>by subst z;rw[n] at mu;exact mu
 have hb:∀b,H b=none->b≠e:=fun b n z=>by
  simp_all
 have c:∀b u,H b=some u->¬ Mut (some u)->b≠x:=fun b u q nm z=>by subst z;rw[q] at mu;exact nm mu
 refine⟨fun b u q n _ _=>k b u (hb b n) q,fun b u q n _ _=>⟨u.slots,k b u (hb b n) q⟩,fun b u q n _=>by rw[Jh (f b n)];exact n,fun b u q _=>?_,
  fun b xs q=>by rw[Jh (c b _ q fun z=>z)];exact q,fun b u xs q=>by rw[Jh (c b _ q fun z=>z)];exact q,fun b ps q=>⟨#[],by rw[Jh (c b _ q fun z=>z),q];simp⟩⟩
 by_cases a:b=e
 ·subst a;exact d
 ·exact⟨u,k b u a q⟩
end
noncomputable def trk(h:Heap)(H:Hp):List Addr:=(List.range h.objs.size).filter fun a=>(H a).isSome
noncomputable def hidT(h:Heap)(H:Hp):Heap:=hideAll h (trk h H)
theorem Jkq(h:Heap)(H:Hp):(hidT h H).objs.size=h.objs.size:=PySem.W.hideAll_size _ _
theorem Jbf(e:h.get? b=some o)(n:H b=none):(hidT h H).get? b=some o:=
 PySem.W.hideAll_get _ e fun a=>by
  have q:=(mem_filter.mp a).2;rw[n] at q;simp at q
theorem Jry(e:(hidT h H).get? b=some o):h.get? b=some o/\H b=none:=by
 have a:=of_hideAll (trk h H) e;refine⟨a,?_⟩
 cases q:H b with
 | none=>rfl
 | some x =>
  have c:b∈trk h H:=mem_filter.mpr ⟨mem_range.mpr (lt_size a),by simp[q]⟩;have z:(hidT h H).get? b=none:=PySem.W.hideAll_none (trk h H) c;rw[z] at e;cases e
structure Mod(K:Frag)(mg:Str->Option Value)(base:Heap):Prop where
 kin:K.In base
 glob:base.Ns mainGlobals mg
 blt:∃mb,base.Ns builtinsNs mb/\∀x:Str,x≠"__name__"->mb x=bootBuiltins x
 nolimit:base.NoLimit
structure Cx where
 prog:Program
 w:World
 K:Frag
 mg:Str->Option Value
 base:Heap
 A:Around
 N:List Str
 s₀:Shared
 H₀:Hp
 env:Env
 outer:List Env
 stack:List Env
 ex:List Addr
 fn:Str->Bool
 calm:Bool
 pn:List (Addr×Obj)
 xe:Value->Shared->Prop
noncomputable def frs(l:List Env):List Addr:=l.filterMap (·.frame)
noncomputable abbrev Cx.fs(X:Cx):List Addr:=frs X.outer
noncomputable def Vis(a:Scope)(x:Str):Prop:=a.names.lookup x=some .local\/a.names.lookup x=some .cell\/a.names.lookup x=some .free
noncomputable def Loc(a:Scope)(x:Str):Prop:=a.names.lookup x=some .local\/a.names.lookup x=some .cell
noncomputable def Look(env:Env)(h:Heap)(m:Str->Option Value)(x:Str)(u:Value):Prop:=
 (env.kindOf x=some .local/\m x=some u)\/((env.kindOf x=some .cell\/env.kindOf x=some .free)/\∃c,env.cells.lookup x=some c/\h.IsCell c (some u))
structure Cx.Ok(X:Cx):Prop where
 mod:Mod X.K X.mg X.base
 kind:X.env.scope.kind=.function
 glob:X.env.globals=mainGlobals
 blt:X.env.builtins=builtinsNs
 above:X.s₀.heap.objs.size<=X.env.locals
 inj:∀x y c,X.env.cells.lookup x=some c->X.env.cells.lookup y=some c->x=y
 has:∀x,(X.env.kindOf x=some .cell\/X.env.kindOf x=some .free)->∃c,X.env.cells.lookup x=some c
 cab:∀x c,X.fn x=true->X.env.cells.lookup x=some c->X.s₀.heap.objs.size<=c
 hd:X.calm=true->X.A.handled=none
 frames:X.A.frames=some X.stack
 stk:X.stack=X.outer\/(X.stack=X.env::X.outer/\X.env.frame=some X.env.locals)
 exf:∀b∈X.ex,b≠X.env.locals/\∀x c,X.env.cells.lookup x=some c->c≠b
 bs:∀b o,X.base.get? b=some o->X.s₀.heap.get? b=some o/\X.H₀ b=none
 bsz:X.base.objs.size<=X.s₀.heap.objs.size
 noex:∀b o,X.base.get? b=some o->b ∉ X.ex
 exfs:∀b∈X.ex,b ∉ X.fs
 funs:X.s₀.heap.FunFrames X.base X.outer
 frf:∀b∈X.fs,X.H₀ b=none
structure Inv(X:Cx)(pins:List (Addr×Obj))(σ:List (Option V))(H:Hp)(s:Shared):Prop where
 ok:X.Ok
 os:s.os=X.s₀.os
 bare:AllBare s.gens
 base:Un X.fs X.ex X.H₀ H X.s₀.heap s.heap
 loc:∃m,s.heap.Ns X.env.locals m/\∀(i:Nat) (x:Str) (v:V),X.N[i]?=some x->σ[i]?=some (some v)->Vis X.env.scope x->∃u,RelV v u/\Look X.env s.heap m x u
 cell:∀x c,X.env.cells.lookup x=some c->∃v,s.heap.IsCell c v
 free:H X.env.locals=none
 freeC:∀x c,X.env.cells.lookup x=some c->H c=none
 pin:∀p∈X.pn++pins,s.heap.get? p.1=some p.2/\H p.1=none/\p.1≠X.env.locals/\p.1 ∉ X.fs/\∀v,p.2.data≠.cell v
 hok:HOk X.prog X.w H s.heap
 len:σ.length=X.N.length
section
variable{X:Cx}{pins:List (Addr×Obj)}{σ:List (Option V)}{H H':Hp}{s:Shared}{h':Heap}
theorem Cx.Ok.nofr(ok:X.Ok)(e:X.base.get? b=some o):b ∉ X.fs:=fun hb=>by
 have:=(ok.funs.mem hb).1
 grind
theorem Inv.bs(I:Inv X pins σ H s):∀b o,X.base.get? b=some o->s.heap.get? b=some o/\H b=none:=fun b o e =>
 ⟨I.base.keep b o (I.ok.bs b o e).1 (I.ok.bs b o e).2 (I.ok.nofr e) (I.ok.noex b o e),I.base.free b o (I.ok.bs b o e).1 (I.ok.bs b o e).2 (I.ok.noex b o e)⟩
theorem Inv.bk(I:Inv X pins σ H s):∀b o,X.base.get? b=some o->s.heap.get? b=some o:=fun b o e=>(I.bs b o e).1
theorem Inv.mod(I:Inv X pins σ H s):Mod X.K X.mg X.base:=I.ok.mod
theorem Inv.kIn(I:Inv X pins σ H s):X.K.In s.heap:=I.ok.mod.kin.keeps I.bk
theorem Inv.fr(I:Inv X pins σ H s):∃m,Fr X.base X.env.locals s.heap m:=
 let ⟨m,hn,_⟩:=I.loc
 ⟨m,hn,I.bk,Nat.le_trans I.ok.bsz I.ok.above⟩
theorem Inv.lt(I:Inv X pins σ H s):X.env.locals<s.heap.objs.size:=by obtain⟨_,a,_⟩:=I.loc;exact a.lt
theorem Inv.sz(I:Inv X pins σ H s):X.s₀.heap.objs.size<=s.heap.objs.size:=Nat.le_trans I.ok.above (Nat.le_of_lt I.lt)
theorem Inv.nofs(I:Inv X pins σ H s)(h:s.heap.objs.size<=a):a ∉ X.fs:=fun hb=>by
 obtain⟨_,o,b,_⟩:=I.ok.funs.mem hb;exact absurd (Nat.lt_of_lt_of_le (lt_size b) (Nat.le_trans I.sz h)) (Nat.lt_irrefl _)
theorem Inv.cne(I:Inv X pins σ H s):∀x c,X.env.cells.lookup x=some c->c≠X.env.locals:=fun x c e z=>by
 obtain⟨v,o,f,hd⟩:=I.cell x c e;obtain⟨m,⟨d,g,ep,a,b,_⟩,_⟩:=I.loc
 grind
theorem Inv.funs(I:Inv X pins σ H s):s.heap.FunFrames X.base X.outer:=by
 have all:∀(l:List Env),(∀b∈frs l,b∈X.fs)->X.s₀.heap.FunFrames X.base l->s.heap.FunFrames X.base l:=by
  intro l
  induction l with
  | nil=>intro _ _;trivial
  | cons env r ih =>
   intro d i;obtain⟨j,⟨L,o,a,h,g,hd⟩,f⟩:=i;have c:=d L (by unfold frs;rw[List.filterMap_cons,a];exact mem_cons_self);obtain⟨m,e⟩:=I.base.slot L o g (I.ok.frf L c) c fun z=>I.ok.exfs L z c;exact⟨j,⟨L,_,a,h,e,hd⟩,ih (fun b hb=>d b (by unfold frs;rw[List.filterMap_cons,a];exact mem_cons_of_mem _ hb)) f⟩
 exact all X.outer (fun _ hb=>hb) I.ok.funs
theorem Inv.stack(I:Inv X pins σ H s):s.heap.FunFrames X.base X.stack:=by
 rcases I.ok.stk with e|⟨e,hf⟩
 ·rw[e];exact I.funs
 ·rw[e];obtain⟨m,a,_⟩:=I.loc;refine .cons (by rw[I.ok.kind];decide) hf a ?_ I.funs;exact Heap.get?_none_of_le (Nat.le_trans I.ok.bsz I.ok.above)
theorem Inv.stkSub(I:Inv X pins σ H s):∀b∈frs X.stack,b∈X.env.locals::X.fs:=fun b hb=>by
 rcases I.ok.stk with e|⟨e,hf⟩
 ·simp_all
 ·rw[e] at hb;unfold frs at hb;rw[List.filterMap_cons,hf] at hb;exact hb
theorem Inv.stkFree(I:Inv X pins σ H s):∀b∈frs X.stack,H b=none:=fun b hb=>by
 rcases mem_cons.mp (I.stkSub b hb) with e|hb
 ·rw[e];exact I.free
 ·obtain⟨_,o,a,_⟩:=I.ok.funs.mem hb;exact I.base.free b o a (I.ok.frf b hb) fun z=>I.ok.exfs b z hb
theorem Inv.step{ch:List Addr}(I:Inv X pins σ H s)(g:∀b∈ch,(b∈X.ex\/X.s₀.heap.objs.size<=b)/\b≠X.env.locals/\(∀x c,X.env.cells.lookup x=some c->c≠b)/\∀p∈X.pn++pins,p.1≠b)(keep:∀b o,b≠X.env.locals->b ∉ X.fs->b ∉ ch->s.heap.get? b=some o->H b=none->h'.get? b=some o)(slot:∀b o,b≠X.env.locals->b∈X.fs->b ∉ ch->s.heap.get? b=some o->H b=none->∃G,h'.get? b=some { o with slots:=G })(free:∀b o,b ∉ ch->s.heap.get? b=some o->H b=none->H' b=none)(there:∀b o,b ∉ ch->s.heap.get? b=some o->∃B,h'.get? b=some B)(tups:∀b xs,H b=some (.tup xs)->H' b=some (.tup xs))(frzs:∀b o u,H b=some (.frz o u)->H' b=some (.frz o u))(tbls:∀b ps,H b=some (.tbl ps)->∃D,H' b=some (.tbl (ps++D)))(ns:∀m,s.heap.Ns X.env.locals m->h'.Ns X.env.locals m)(hok:HOk X.prog X.w H' h')(Q:AllBare g'):
  Inv X pins σ H' { s with heap:=h',gens:=g',drawn:=d',toks:=t' }:=by
 have C:∀b o,X.s₀.heap.get? b=some o->b≠X.env.locals:=fun b o e=>Nat.ne_of_lt (Nat.lt_of_lt_of_le (lt_size e) I.ok.above);have j:∀b o,X.s₀.heap.get? b=some o->b ∉ X.ex->b ∉ ch:=fun b o e a hb=>by
  rcases(g b hb).1 with z|z
  ·exact a z
  ·exact absurd (Nat.lt_of_lt_of_le (lt_size e) z) (Nat.lt_irrefl _)
 have h:∀x c,X.env.cells.lookup x=some c->∀v,s.heap.IsCell c v->h'.IsCell c v:=fun x c e v R=>by
  obtain⟨o,A,hd⟩:=R;have f:=fun z=>(g c z).2.2.1 x c e rfl;by_cases L:c∈X.fs
  ·obtain⟨G,q⟩:=slot c o (I.cne x c e) L f A (I.freeC x c e);exact⟨_,q,hd⟩
  ·exact⟨o,keep c o (I.cne x c e) L f A (I.freeC x c e),hd⟩
 refine⟨I.ok,I.os,Q,⟨fun b o e n hb a=>?_,fun b o e n hb a=>?_,fun b o e n a=>?_,fun b o e a=>?_,fun b xs e=>tups b xs (I.base.tups b xs e),fun b o xs e=>frzs b o xs (I.base.frzs b o xs e),fun b ps e=>?_⟩,?_,fun x c e=>?_,?_,fun x c e=>?_,fun p K=>?_,hok,I.len⟩
 ·exact keep b o (C b o e) hb (j b o e a) (I.base.keep b o e n hb a) (I.base.free b o e n a)
 ·obtain⟨G,y⟩:=I.base.slot b o e n hb a;obtain⟨F,E⟩:=slot b _ (C b o e) hb (j b o e a) y (I.base.free b o e n a);exact⟨F,E⟩
 ·obtain⟨B,y⟩:=I.base.there b o e a;exact free b B (j b o e a) y (I.base.free b o e n a)
 ·obtain⟨B,y⟩:=I.base.there b o e a;exact there b B (j b o e a) y
 ·obtain⟨N,y⟩:=I.base.tbls b ps e;obtain⟨M,E⟩:=tbls b _ y;exact⟨N++M,by rw[E,Array.append_assoc]⟩
 ·obtain⟨m,O,P⟩:=I.loc;refine⟨m,ns m O,fun i x v y E S=>?_⟩;obtain⟨u,r,l⟩:=P i x v y E S;refine⟨u,r,?_⟩;rcases l with l|⟨k,c,e,z⟩
  ·exact .inl l
  ·exact .inr ⟨k,c,e,h x c e _ z⟩
 ·obtain⟨v,z⟩:=I.cell x c e;exact⟨v,h x c e v z⟩
 ·obtain⟨m,⟨o,_,_,A,_⟩,_⟩:=I.loc;exact free _ o (fun z=>(g _ z).2.1 rfl) A I.free
 ·obtain⟨v,o,A,hd⟩:=I.cell x c e;exact free c o (fun z=>(g c z).2.2.1 x c e rfl) A (I.freeC x c e)
 ·obtain⟨e,n,ne,J,d⟩:=I.pin p K;have f:=fun z=>(g p.1 z).2.2.2 p K rfl;exact⟨keep p.1 p.2 ne J f e n,free p.1 p.2 f e n,ne,J,d⟩
theorem Inv.un(I:Inv X pins σ H s)(u:Un X.fs [] H H' s.heap h')(hok:HOk X.prog X.w H' h'):Inv X pins σ H' { s with heap:=h',toks:=t' }:=by
 obtain⟨m,⟨o,q,ep,f,r⟩,_⟩:=id I.loc;obtain⟨j,i⟩:=u.any f I.free (by simp);exact I.step (g':=s.gens) (d':=s.drawn) (ch:=[]) (fun _ z=>nomatch z) (fun b o _ hb _ e n=>u.keep b o e n hb (by simp)) (fun b o _ hb _ e n=>u.slot b o e n hb (by simp)) (fun b o _ e n=>u.free b o e n (by simp)) (fun b o _ e=>u.there b o e (by simp)) u.tups u.frzs u.tbls (fun p h=>by
  obtain⟨l,c,d,a,g⟩:=h;rw[f] at a;cases a;exact⟨_,c,d,i,g⟩) hok I.bare
theorem Inv.call(I:Inv X pins σ H s)(u:Un (frs X.stack) ch H H' s.heap h')(hok:HOk X.prog X.w H' h')(v:AllBare g')(f:∀b∈ch,(b∈X.ex\/X.s₀.heap.objs.size<=b)/\b≠X.env.locals/\(∀x c,X.env.cells.lookup x=some c->c≠b)/\∀p∈X.pn++pins,p.1≠b):
  Inv X pins σ H' { s with heap:=h',gens:=g',drawn:=d',toks:=t' }:=by
 obtain⟨m,⟨o,C,ep,j,r⟩,_⟩:=id I.loc;obtain⟨y,g⟩:=u.any j I.free fun z=>(f _ z).2.1 rfl;exact I.step (ch:=ch) f (fun b o g hb a e n=>u.keep b o e n (fun z=>(mem_cons.mp (I.stkSub b z)).elim g hb) a) (fun b o _ _ a e n=>u.any e n a) (fun b o a e n=>u.free b o e n a) (fun b o a e=>u.there b o e a) u.tups u.frzs u.tbls (fun B q=>by
  obtain⟨A,h,i,d,l⟩:=q;rw[j] at d;cases d;exact⟨_,h,i,g,l⟩) hok v
theorem Inv.turned{t':Nat}{it:Addr}(I:Inv X pins σ H s)(k:∀b o,b≠it->s.heap.get? b=some o->h'.get? b=some o)(h:H it=none)(f:it≠X.env.locals)(w:it∈X.ex\/X.s₀.heap.objs.size<=it)(l:∀x c,X.env.cells.lookup x=some c->c≠it)(j:∀p∈X.pn++pins,p.1≠it):Inv X pins σ H { s with heap:=h',toks:=t' }:=by
 have d:∀b u,H b=some u->b≠it:=fun b u e z=>by rw[z,h] at e;cases e
 refine I.step (g':=s.gens) (d':=s.drawn) (ch:=[it]) (fun b hb=>?_) (fun b o _ _ a e _=>k b o (fun z=>a (by simp[z])) e) (fun b o _ _ a e _=>⟨o.slots,k b o (fun z=>a (by simp[z])) e⟩) (fun _ _ _ _ n=>n)
  (fun b o a e=>⟨o,k b o (fun z=>a (by simp[z])) e⟩) (fun _ _ e=>e) (fun _ _ _ e=>e) (fun b ps e=>⟨#[],by rw[e];simp⟩) (fun m i=>?_) (fun b u e=>?_) I.bare
 ·have e:b=it:=by simpa using hb
  subst e;exact⟨w,f,l,j⟩
 ·obtain⟨o,y,ep,g,r⟩:=i;exact⟨o,y,ep,k _ o (Ne.symm f) g,r⟩
 ·refine(I.hok b u e).stay (fun c v a q=>k c v ?_ q) (fun _ q=>q) fun _ _ q=>q;rcases a with z|z
  ·rw[z];exact d b u e
  ·exact d c _ z
theorem Inv.tok(I:Inv X pins σ H s)(t:Nat):Inv X pins σ H { s with toks:=t }:=I.un (h':=s.heap) (t':=t) Un.refl I.hok
theorem Inv.kept(I:Inv X pins σ H s)(k:∀b u,s.heap.get? b=some u->h'.get? b=some u):Inv X pins σ H { s with heap:=h',toks:=t' }:=I.un (Un.kept k) (I.hok.kept k)
theorem Inv.laid(I:Inv X pins σ H s)(k:∀b u,s.heap.get? b=some u->h'.get? b=some u)(c:s.heap.objs.size<=a)(new:J2j X.prog X.w (upd H a o) h' a o):
  Inv X pins σ (upd H a o) { s with heap:=h',toks:=t' }:=I.un (Un.laid k c (I.hok.fresh c)) (I.hok.laid k c new)
theorem Inv.write(I:Inv X pins σ H s)(mu:Mut (H x))(c:e=x\/H e=some (.own x))(k:∀b u,b≠e->s.heap.get? b=some u->h'.get? b=some u)(a:∃u,h'.get? e=some u)(new:J2j X.prog X.w (upd H x o) h' x o):Inv X pins σ (upd H x o) { s with heap:=h',toks:=t' }:=I.un (Un.write mu c k a) (I.hok.write mu c k a new)
theorem Inv.pins_of(I:Inv X pins σ H s)(h:∀p∈pins',s.heap.get? p.1=some p.2/\H p.1=none/\p.1≠X.env.locals/\p.1 ∉ X.fs/\∀v,p.2.data≠.cell v):Inv X pins' σ H s:=
 ⟨I.ok,I.os,I.bare,I.base,I.loc,I.cell,I.free,I.freeC,fun p a=>(mem_append.mp a).elim (fun z=>I.pin p (mem_append_left _ z)) (h p),I.hok,I.len⟩
theorem Jb6{N:List Str}(c:N.Nodup){i:Nat}(a:N[i]?=some x)(b:N[j]?=some x):i=j:=by
 obtain⟨g,e⟩:=List.getElem?_eq_some_iff.mp a;obtain⟨f,d⟩:=List.getElem?_eq_some_iff.mp b;exact(getElem_inj c).mp (e.trans d.symm)
theorem J85(I:Inv X pins σ H s)(hN:X.N.Nodup)(hi:X.N[i]?=some x)(C:Loc X.env.scope x)(r:RelV v u)(h:∀s',Inv X pins (σ.set i (some v)) H s'->(∃a,Heap.SameBut a s.heap s'.heap/\(a=X.env.locals\/X.env.cells.lookup x=some a))->Q () s')(hf:X.fn x=true\/X.env.scope.names.lookup x=some .local:=by first|exact .inl rfl|exact .inr rfl|assumption):wpAny M A (storeName X.env x u) Q E s:=by
 obtain⟨m,hn,hl⟩:=id I.loc;have P:(X.env.scope.kind == .class || (X.env.scope.kind == .module&&X.env.locals != X.env.globals))=false:=by rw[I.ok.kind];rfl
 have O:i<σ.length:=by rw[I.len];exact(gS hi)
 have cne:=I.cne;have g:∀{a:Addr} {h':Heap},(∃o,s.heap.get? a=some o/\H a=none)->Heap.SameBut a s.heap h'->HOk X.prog X.w H h':=fun {a h'} ha f b ob e=>by
  obtain⟨_,_,D⟩:=ha;refine(I.hok b ob e).stay (fun c T B q=>(f.2 c ?_).trans q) (fun _ q=>q) fun _ _ q=>q;rintro rfl;rcases B with rfl|B
  ·rw[D] at e;cases e
  ·rw[D] at B;cases B
 rcases C with hk|hk
 ·refine wpAny_storeName_local hk hn (fun h' ab f=>?_) P;obtain⟨oL,_,_,aa,_⟩:=id hn;refine h _ ⟨I.ok,I.os,I.bare,⟨fun b o e n hb C=>?_,fun b o e n hb C=>?_,I.base.free,fun b o e C=>?_,I.base.tups,I.base.frzs,I.base.tbls⟩,⟨_,ab,fun j y U l F e3=>?_⟩,fun y c e=>?_,I.free,I.freeC,fun p hp=>?_,g ⟨oL,aa,I.free⟩ f,by simpa using I.len⟩ ⟨_,f,.inl rfl⟩
  ·exact(f.2 b (Nat.ne_of_lt (Nat.lt_of_lt_of_le (lt_size e) I.ok.above))).trans (I.base.keep b o e n hb C)
  ·obtain⟨Y,l⟩:=I.base.slot b o e n hb C;exact⟨Y,(f.2 b (Nat.ne_of_lt (Nat.lt_of_lt_of_le (lt_size e) I.ok.above))).trans l⟩
  ·obtain⟨o',l⟩:=I.base.there b o e C;exact⟨o',(f.2 b (Nat.ne_of_lt (Nat.lt_of_lt_of_le (lt_size e) I.ok.above))).trans l⟩
  ·by_cases G:j=i
   ·subst G;rw[hi] at l;cases l;rw[List.getElem?_set_self O] at F;cases F;exact⟨u,r,.inl ⟨hk,by simp⟩⟩
   ·rw[getElem?_set_ne (Ne.symm G)] at F;obtain⟨W,Z,q⟩:=hl j y U l F e3;refine⟨W,Z,?_⟩;rcases q with⟨k,e⟩|⟨k,c,e,z⟩
    ·refine .inl ⟨k,?_⟩;have:y≠x:=fun e=>G (Jb6 hN l (e▸hi));simp[this,e]
    ·exact .inr ⟨k,c,e,z.sameBut f (cne y c e)⟩
  ·obtain⟨T,z⟩:=I.cell y c e;exact⟨T,z.sameBut f (cne y c e)⟩
  ·obtain⟨e,n,ne,nf,d⟩:=I.pin p hp;exact⟨(f.2 p.1 ne).trans e,n,ne,nf,d⟩
 ·have J:X.fn x=true:=by
   rcases hf with z|z
   ·exact z
   ·rw[z] at hk;cases hk
  obtain⟨c,B⟩:=I.ok.has x (.inl hk);obtain⟨T,z⟩:=I.cell x c B;refine wpAny_storeName_cell I.ok.kind hk B z (fun h' S f=>?_);obtain⟨oc,L,K⟩:=id z;refine h { s with heap:=h' } ⟨I.ok,I.os,I.bare,⟨fun b o e n hb C=>?_,fun b o e n hb C=>?_,I.base.free,fun b o e C=>?_,I.base.tups,I.base.frzs,I.base.tbls⟩,⟨m,hn.sameBut f (Ne.symm (cne x c B)),fun j y U l F e3=>?_⟩,fun y c' e=>?_,I.free,I.freeC,fun p hp=>?_,g ⟨oc,L,I.freeC x c B⟩ f,by simpa using I.len⟩ ⟨c,f,.inr B⟩
  ·exact(f.2 b (Nat.ne_of_lt (Nat.lt_of_lt_of_le (lt_size e) (I.ok.cab x c J B)))).trans (I.base.keep b o e n hb C)
  ·obtain⟨Y,l⟩:=I.base.slot b o e n hb C;exact⟨Y,(f.2 b (Nat.ne_of_lt (Nat.lt_of_lt_of_le (lt_size e) (I.ok.cab x c J B)))).trans l⟩
  ·obtain⟨o',l⟩:=I.base.there b o e C;exact⟨o',(f.2 b (Nat.ne_of_lt (Nat.lt_of_lt_of_le (lt_size e) (I.ok.cab x c J B)))).trans l⟩
  ·by_cases G:j=i
   ·subst G;rw[hi] at l;cases l;rw[List.getElem?_set_self O] at F;cases F;exact⟨u,r,.inr ⟨.inl hk,c,B,S⟩⟩
   ·rw[getElem?_set_ne (Ne.symm G)] at F;obtain⟨W,Z,q⟩:=hl j y U l F e3;refine⟨W,Z,?_⟩;rcases q with q|⟨k,c',e,z'⟩
    ·exact .inl q
    ·refine .inr ⟨k,c',e,z'.sameBut f ?_⟩;rintro rfl;exact G (Jb6 hN l (I.ok.inj _ _ _ e B▸hi))
  ·by_cases R:c'=c
   ·subst R;exact⟨_,S⟩
   ·obtain⟨w2,z2⟩:=I.cell y c' e;exact⟨w2,z2.sameBut f R⟩
  ·obtain⟨e,n,ne,nf,d⟩:=I.pin p hp;refine⟨(f.2 p.1 ?_).trans e,n,ne,nf,d⟩;intro q;rw[q,L] at e;have q':=Option.some.inj e;exact d T (by rw[<- q'];exact K)
theorem Jak{M:Model}{A:Around}{E:Value->Shared->Prop}{i:Nat}{x:Str}{v:V}{u:Value}{Q:Unit->Shared->Prop}(I:Inv X pins σ H s)(c:X.N.Nodup)(hi:X.N[i]?=some x)(a:Loc X.env.scope x)(r:RelV v u)(h:∀s',Inv X pins (σ.set i (some v)) H s'->Q () s')(b:X.fn x=true\/X.env.scope.names.lookup x=some .local:=by first|exact .inl rfl|exact .inr rfl|assumption):wpAny M A (storeName X.env x u) Q E s:=
 J85 I c hi a r (fun s' d _=>h s' d) b
theorem Inv.call'(I:Inv X pins σ H s)(d:s'.os=s.os)(u:Un (frs X.stack) ch H H' s.heap s'.heap)(hok:HOk X.prog X.w H' s'.heap)(f:AllBare s'.gens)(a:∀b∈ch,(b∈X.ex\/X.s₀.heap.objs.size<=b)/\b≠X.env.locals/\(∀x c,X.env.cells.lookup x=some c->c≠b)/\∀p∈X.pn++pins,p.1≠b):Inv X pins σ H' s':=by
 obtain⟨h',g',d',t',g⟩:=s';have e:=d;subst e;exact I.call (g':=g') (t':=t') (d':=d') u hok f a
end
noncomputable abbrev XK:=Value->Option Addr->Hp->Prop
noncomputable abbrev St:=List (Option V)
noncomputable abbrev VK:=V->Hp->Prop
noncomputable abbrev TE:=St->Hp->VK->Prop
noncomputable abbrev TT:=St->Hp->(Bool->Hp->Prop)->Prop
noncomputable abbrev TA:=St->Hp->(List V->Hp->Prop)->Prop
structure Ends where
 nx:St->Hp->Prop
 rt:VK
 bk:St->Hp->Prop:=fun _ _=>False
 ct:St->Hp->Prop:=fun _ _=>False
noncomputable abbrev TS:=Ends->St->Hp->Prop
noncomputable def EP(X:Cx)(pins:List (Addr×Obj))(σ:St)(Q:VK)(u:Value)(s':Shared):Prop:=∃v a,Inv X pins σ a s'/\RelV v u/\Q v a
noncomputable def TP(X:Cx)(pins:List (Addr×Obj))(σ:St)(Q:Bool->Hp->Prop)(b:Bool)(s':Shared):Prop:=∃a,Inv X pins σ a s'/\Q b a
noncomputable def AP(X:Cx)(pins:List (Addr×Obj))(σ:St)(Q:List V->Hp->Prop)(us:List Value)(s':Shared):Prop:=∃vs a,Inv X pins σ a s'/\Vals vs us/\Q vs a
noncomputable def SP(X:Cx)(pins:List (Addr×Obj))(D:Ends)(f:Flow)(s':Shared):Prop:=
 match f with
 | .next=>∃σ' H',Inv X pins σ' H' s'/\D.nx σ' H'
 | .brk=>∃σ' H',Inv X pins σ' H' s'/\D.bk σ' H'
 | .cont=>∃σ' H',Inv X pins σ' H' s'/\D.ct σ' H'
 | .ret u=>∃v σ' H',Inv X pins σ' H' s'/\RelV v u/\D.rt v H'
noncomputable def PE(X:Cx)(e:Expr)(t:TE):Prop:=
 ∀(pins:List (Addr×Obj)) (s:Shared) (σ:St) (H:Hp) (Q:VK),Inv X pins σ H s->t σ H Q->wpAny (model X.prog X.w) X.A (eval e X.env) (EP X pins σ Q) X.xe s
noncomputable def PT(X:Cx)(e:Expr)(t:TT):Prop:=
 ∀(pins:List (Addr×Obj)) (s:Shared) (σ:St) (H:Hp) (Q:Bool->Hp->Prop),Inv X pins σ H s->t σ H Q->wpAny (model X.prog X.w) X.A (isTrue e X.env (eval e X.env)) (TP X pins σ Q) X.xe s
noncomputable def PW(X:Cx)(e:Expr)(t:TT):Prop:=
 ∀(whole:Sem Value) (pins:List (Addr×Obj)) (s:Shared) (σ:St) (H:Hp) (Q:Bool->Hp->Prop),Inv X pins σ H s->t σ H Q->wpAny (model X.prog X.w) X.A (isTrue e X.env whole) (TP X pins σ Q) X.xe s
theorem PW.pt(h:PW X e t):PT X e t:=h _
noncomputable def PA(X:Cx)(a:List Expr)(t:TA):Prop:=
 ∀(pos:Pos) (pins:List (Addr×Obj)) (s:Shared) (σ:St) (H:Hp) (Q:List V->Hp->Prop),Inv X pins σ H s->t σ H Q->wpAny (model X.prog X.w) X.A (spliced (backTo pos (starEach a X.env))) (AP X pins σ Q) X.xe s
noncomputable def PS(X:Cx)(st:Stmt)(t:TS):Prop:=
 ∀(pins:List (Addr×Obj)) (s:Shared) (σ:St) (H:Hp) (D:Ends),Inv X pins σ H s->t D σ H->wpAny (model X.prog X.w) X.A (exec st X.env) (SP X pins D) X.xe s
noncomputable def PSs(X:Cx)(st:List Stmt)(t:TS):Prop:=
 ∀(pins:List (Addr×Obj)) (s:Shared) (σ:St) (H:Hp) (D:Ends),Inv X pins σ H s->t D σ H->wpAny (model X.prog X.w) X.A (execs st X.env) (SP X pins D) X.xe s
theorem thn(h:wpAny M A t Q E s)(b:∀a s,Q a s->Q' a s):wpAny M A t Q' E s:=wpAny_mono h b fun _ _ x=>x
section
variable{X:Cx}
inductive tVarR(i:Nat)(σ:St)(H:Hp)(Q:VK):Prop
 | mk(v:_)(_:σ[i]?=some (some v))(_:Q v H)
noncomputable def tVar(i:Nat):TE:=fun σ H Q=>tVarR i σ H Q
noncomputable def tC(v:V):TE:=fun _ H Q=>Q v H
theorem pe_var(g:X.N[i]?=some x)(b:Vis X.env.scope x)(hd:(x==("__debug__":Str))=false:=by decide)(a:(x==("__classdict__":Str))=false:=by decide):PE X (.Name x pos) (tVar i):=by
 intro pins s σ H Q I h;obtain⟨v,e,h⟩:=h;obtain⟨m,d,f⟩:=I.loc;obtain⟨u,r,l⟩:=f i x v g e b;have fin:EP X pins σ Q u s:=⟨v,H,I,r,h⟩;rcases l with⟨hk,hm⟩|⟨hk,c,hc,hcell⟩
 ·exact wpAny_Name (wpAny_loadName_local I.ok.kind hk d hm fin) hd
 ·rcases hk with hk|hk
  ·exact wpAny_Name (wpAny_loadName_cell I.ok.kind hk hc hcell fin) hd
  ·exact wpAny_Name (wpAny_loadName_free I.ok.kind hk hc hcell fin a) hd
theorem J9 :PE X (.Constant (.int i) j pos) (tC (.int i)):=fun _ _ _ H _ I h=>wpAny_Constant_int ⟨.int i,H,I.tok _,⟨_,rfl⟩,h⟩
theorem J5i :PE X (.Constant (.bool b) j pos) (tC (.bl b)):=fun _ _ _ H _ I h=>Constant_bool ⟨.bl b,H,I,rfl,h⟩
theorem J6e :PE X (.Constant .none j pos) (tC .non):=fun _ _ _ H _ I h=>Constant_none ⟨.non,H,I,rfl,h⟩
theorem J35 :PE X (.Constant (.str x) j pos) (tC (.str x)):=fun _ _ _ H _ I h=>Calls.Constant_str ⟨.str x,H,I.tok _,⟨_,rfl⟩,h⟩
noncomputable def Gl(X:Cx)(x:Str):Prop:=X.env.kindOf x=some .globalImplicit
theorem J5w(I:Inv X pins σ H s)(b:Gl X x)(a:X.mg x=some u)(h:Q u s)(hd:(x==("__debug__":Str))=false:=by decide):wpAny (model X.prog X.w) X.A (eval (.Name x pos) X.env) Q E s :=
 Calls.Name_function_global I.ok.kind b (Calls.loadGlobal_global (by rw[I.ok.glob];exact I.mod.glob.keeps I.bk) a h) hd
theorem J8n(I:Inv X pins σ H s)(d:Gl X x)(c:X.mg x=none)(a:bootBuiltins x=some u)(h:Q u s)(b:x≠"__name__":=by decide)(hd:(x==("__debug__":Str))=false:=by decide):wpAny (model X.prog X.w) X.A (eval (.Name x pos) X.env) Q E s:=by
 obtain⟨mb,f,e⟩:=I.mod.blt;exact Calls.Name_function_global I.ok.kind d (Calls.loadGlobal_builtin (by rw[I.ok.glob];exact I.mod.glob.keeps I.bk) c (by rw[I.ok.blt];exact f.keeps I.bk) ((e x b).trans a) h) hd
theorem Jb2(b:Gl X x)(a:X.mg x=some u)(r:RelV v u)(hd:(x==("__debug__":Str))=false:=by decide):PE X (.Name x pos) (tC v) :=
 fun _ _ _ H _ I h=>J5w I b a ⟨v,H,I,r,h⟩ hd
theorem Jj1(d:Gl X x)(c:X.mg x=none)(a:bootBuiltins x=some u)(r:RelV v u)(b:x≠"__name__":=by decide)(hd:(x==("__debug__":Str))=false:=by decide):PE X (.Name x pos) (tC v) :=
 fun _ _ _ H _ I h=>J8n I d c a ⟨v,H,I,r,h⟩ b hd
variable{a b:Expr}{ta tb:TE}{pos:Pos}
noncomputable def PC(X:Cx)(e:CmpOp)(a b:Expr)(t:TE):Prop:=
 ∀(pins:List (Addr×Obj)) (s:Shared) (σ:St) (H:Hp) (Q:VK),Inv X pins σ H s->t σ H Q->
  wpAny (model X.prog X.w) X.A (eval a X.env) (fun v d=>wpAny (model X.prog X.w) X.A (eval b X.env) (fun u c=>wpAny (model X.prog X.w) X.A (compareOp e v u) (EP X pins σ Q) X.xe c) X.xe d) X.xe s
theorem Jo8(b:Expr)(h:op≠.In)(d:op≠.NotIn):behindInMarks op b=false:=by
 have c:(op==CmpOp.In)=false:=by grind
 have a:(op==CmpOp.NotIn)=false:=by grind
 cases b <;> simp[behindInMarks,c,a]
noncomputable def tIsN(a:TE):TE:=fun σ H Q=>a σ H fun x b=>Q (.bl (decide (x=.non))) b
theorem RelV.none_iff(r:RelV x v):(v==Value.none)=decide (x=.non):=by
 cases x with
 | non=>cases r;rfl
 | bl _=>cases r;rfl
 | int _=>obtain⟨t,rfl⟩:=r;rfl
 | str _=>obtain⟨t,rfl⟩:=r;rfl
 | byt _=>obtain⟨t,rfl⟩:=r;rfl
 | flt _=>obtain⟨t,rfl⟩:=r;rfl
 | ref _=>cases r;rfl
 | ty _=>cases r;rfl
theorem pc_isN(d:PE X a ta):PC X .Is a (.Constant .none j pos') (tIsN ta):=by
 intro pins s σ H Q I h;refine thn (d pins s σ H _ I h) fun v i e=>?_;obtain⟨x,g,f,b,c⟩:=e;exact Constant_none (is_none_gen ⟨.bl _,g,f,by rw[b.none_iff];rfl,c⟩)
inductive tBR(Q:Bool->Hp->Prop)(x:V)(a:Hp):Prop
 | mk(c:_)(_:x=.bl c)(_:Q c a)
noncomputable def tB(t:TE):TT:=fun σ H Q=>t σ H fun x a=>tBR Q x a
theorem pt_cmp{e:CmpOp}{t:TE}(h:PC X e a b t)(f:behindInMarks e b=false:=by first|exact Jo8 _ (by decide) (by decide)|rfl):PT X (.Compare a [e] [b] pos) (tB t):=by
 intro pins s σ H Q I hw;refine wpAny_isTrue_Compare1 (thn (h pins s σ H _ I hw) fun v r f=>thn f fun u p l=>thn l fun c o j=>?_) f;obtain⟨x,n,m,g,i⟩:=j;obtain⟨d,rfl,q⟩:=i;cases g;exact wpAny_truthy_bool ⟨n,m,q⟩
theorem J2x{e:Expr}{t:TE}(h:PE X e t)(c:∀whole,isTrue e X.env whole=(do let v <- whole;standAt e.pos;holding [v] (truthy v)):=by intro _;rfl):PT X e (tB t):=by
 intro pins s σ H Q I hw;refine isTrue_plain (thn (h pins s σ H _ I hw) fun v j f=>?_) (c _);obtain⟨x,i,g,a,b⟩:=f;obtain⟨d,rfl,q⟩:=b;cases a;exact wpAny_truthy_bool ⟨i,g,q⟩
variable{tA tB':TT}{rest:List Expr}
noncomputable def tAnd(t u:TT):TT:=fun σ H Q=>t σ H fun c a=>if c=true then u σ a Q else Q false a
noncomputable def tOr(t u:TT):TT:=fun σ H Q=>t σ H fun c a=>if c=true then Q true a else u σ a Q
noncomputable def tNot(t:TT):TT:=fun σ H Q=>t σ H fun c a=>Q (!c) a
theorem J5o(b:PT X a tA):PW X (.BoolOp .And [a] pos) tA:=by
 intro d pins s σ H Q I h;refine isTrue_and (thn (b pins s σ H Q I h) fun c f e=>?_)
 cases c with
 | true=>exact isTrue_and_nil e
 | false=>exact e
theorem Jca(b:PT X a tA):PW X (.BoolOp .Or [a] pos) tA:=by
 intro d pins s σ H Q I h;refine isTrue_or (thn (b pins s σ H Q I h) fun c f e=>?_)
 cases c with
 | false=>exact isTrue_or_nil e
 | true=>exact e
theorem J8d(j:PT X a tA)(hb:PW X (.BoolOp .And (b::rest) pos) tB'):PW X (.BoolOp .And (a::b::rest) pos) (tAnd tA tB'):=by
 intro g pins s σ H Q I h;refine isTrue_and (thn (j pins s σ H _ I h) fun c i l=>?_);obtain⟨f,e,d⟩:=l
 cases c with
 | true=>exact hb g pins i σ f Q e d
 | false=>exact⟨f,e,d⟩
theorem Jdy(j:PT X a tA)(hb:PW X (.BoolOp .Or (b::rest) pos) tB'):PW X (.BoolOp .Or (a::b::rest) pos) (tOr tA tB'):=by
 intro g pins s σ H Q I h;refine isTrue_or (thn (j pins s σ H _ I h) fun c i l=>?_);obtain⟨f,e,d⟩:=l
 cases c with
 | true=>exact⟨f,e,d⟩
 | false=>exact hb g pins i σ f Q e d
theorem Jcb(b:PT X a tA):PT X (.UnaryOp .Not a pos) (tNot tA):=by
 intro pins s σ H Q I h;exact isTrue_not (b pins s σ H (fun c d=>Q (!c) d) I h)
inductive tAndVR(tb:TE)(σ:St)(Q:VK)(x:V)(a:Hp):Prop
 | mk(c:_)(_:x=.bl c)(_:if c=true then tb σ a Q else Q (.bl false) a)
noncomputable def tAndV(a tb:TE):TE:=fun σ H Q=>a σ H fun x b=>tAndVR tb σ Q x b
inductive tOrVR(tb:TE)(σ:St)(Q:VK)(x:V)(a:Hp):Prop
 | mk(c:_)(_:x=.bl c)(_:if c=true then Q (.bl true) a else tb σ a Q)
noncomputable def tOrV(a tb:TE):TE:=fun σ H Q=>a σ H fun x b=>tOrVR tb σ Q x b
inductive tNotVR(Q:VK)(x:V)(a:Hp):Prop
 | mk(c:_)(_:x=.bl c)(_:Q (.bl (!c)) a)
noncomputable def tNotV(a:TE):TE:=fun σ H Q=>a σ H fun x b=>tNotVR Q x b
theorem Jj0(h:PE X a t):PE X (.BoolOp op [a] pos) t:=fun pins s σ H Q I hw=>BoolOp_one (h pins s σ H Q I hw)
theorem pe_and(j:PE X a ta)(hb:PE X (.BoolOp .And (b::rest) pos) tb):PE X (.BoolOp .And (a::b::rest) pos) (tAndV ta tb):=by
 intro pins s σ H Q I h;refine BoolOp_and (thn (j pins s σ H _ I h) fun v g l=>?_);obtain⟨x,f,e,i,d⟩:=l;obtain⟨c,rfl,d⟩:=d;cases i;refine wpAny_truthy_bool ?_
 cases c with
 | true=>exact hb pins g σ f Q e d
 | false=>exact⟨.bl false,f,e,rfl,d⟩
theorem pe_or(j:PE X a ta)(hb:PE X (.BoolOp .Or (b::rest) pos) tb):PE X (.BoolOp .Or (a::b::rest) pos) (tOrV ta tb):=by
 intro pins s σ H Q I h;refine BoolOp_or (thn (j pins s σ H _ I h) fun v g l=>?_);obtain⟨x,f,e,i,d⟩:=l;obtain⟨c,rfl,d⟩:=d;cases i;refine wpAny_truthy_bool ?_
 cases c with
 | false=>exact hb pins g σ f Q e d
 | true=>exact⟨.bl true,f,e,rfl,d⟩
theorem pe_not(e:PE X a ta):PE X (.UnaryOp .Not a pos) (tNotV ta):=by
 intro pins s σ H Q I h;refine UnaryOp_ (thn (e pins s σ H _ I h) fun v j f=>?_);obtain⟨x,i,g,d,b⟩:=f;obtain⟨c,rfl,b⟩:=b;cases d;exact not_of (wpAny_truthy_bool ⟨.bl (!c),i,g,rfl,b⟩)
noncomputable def tIf(t:TT)(b tb:TE):TE:=fun σ H Q=>t σ H fun c a=>if c=true then b σ a Q else tb σ a Q
theorem J3a(j:PT X c tA)(l:PE X a ta)(hb:PE X b tb):PE X (.IfExp c a b pos) (tIf tA ta tb):=by
 intro pins s σ H Q I h;refine wpAny_IfExp (thn (j pins s σ H _ I h) fun d e m=>?_);obtain⟨i,g,f⟩:=m
 cases d with
 | true=>exact l pins e σ i Q g f
 | false=>exact hb pins e σ i Q g f
end
noncomputable def SqL(K:Frag)(H:Hp)(a:Addr)(xs:List V):Prop:=
 Rd H a (.lst xs)\/
  ∃(o:Obj) (b:Array Value) (n:Nat),K.lookup a=some o/\o.cls=.type "list"/\o.dict=none/\o.data=.seq b n/\b.size<=sizeLine/\Vals xs b.toList
noncomputable def SqT(K:Frag)(H:Hp)(a:Addr)(xs:List V):Prop:=
 Rd H a (.tup xs)\/
  ∃(o:Obj) (b:Array Value) (n:Nat),K.lookup a=some o/\o.cls=.type "tuple"/\o.data=.seq b n/\b.size<=sizeLine/\Vals xs b.toList
noncomputable def absV:Value->Option V
 | .none=>some .non
 | .bool b=>some (.bl b)
 | .int i _=>some (.int i)
 | .str x _=>some (.str x)
 | .bytes b _=>some (.byt b)
 | .float b _=>some (.flt b)
 | .ref a=>some (.ref a)
 | .type n=>some (.ty n)
 | _=>none
theorem RelV.abs(r:RelV x u):absV u=some x:=by
 cases x with
 | non=>cases r;rfl
 | bl _=>cases r;rfl
 | int _=>obtain⟨t,rfl⟩:=r;rfl
 | str _=>obtain⟨t,rfl⟩:=r;rfl
 | byt _=>obtain⟨t,rfl⟩:=r;rfl
 | flt _=>obtain⟨t,rfl⟩:=r;rfl
 | ref _=>cases r;rfl
 | ty _=>cases r;rfl
theorem RelV.inj(r:RelV x u)(q:RelV y u):x=y:=Option.some.inj (r.abs.symm.trans q.abs)
theorem Vals.inj:∀{xs ys:List V} {us:List Value},Vals xs us->Vals ys us->xs=ys
 | _,_,_,.nil,.nil=>rfl
 | _,_,_,.cons r t,.cons r' t'=>by rw[r.inj r',Vals.inj t t']
section
variable{X:Cx}{pins:List (Addr×Obj)}{σ:St}{H:Hp}{s:Shared}{a:Addr}{xs ys:List V}
theorem SqL.of{K:Frag}(h:H a=some (.lst xs)):SqL K H a xs:=.inl (.inl h)
theorem SqT.of{K:Frag}(h:H a=some (.tup xs)):SqT K H a xs:=.inl (.inl h)
theorem Inv.list(I:Inv X pins σ H s)(h:SqL X.K H a xs):∃b:List Value,Vals xs b/\PlainL s.heap a b.toArray/\xs.length<=sizeLine:=by
 rcases h with h|⟨o,b,n,hk,hc,hd,hs,hz,r⟩
 ·obtain⟨z,b,n,r,e⟩:=h.ok I.hok;exact⟨b,r,⟨_,n,e,rfl,rfl,rfl⟩,z⟩
 ·refine⟨b.toList,r,⟨o,n,I.kIn a o hk,hc,hd,by simpa using hs⟩,?_⟩;have e:=r.length
  grind
theorem Inv.tuple(I:Inv X pins σ H s)(h:SqT X.K H a xs):∃b:List Value,Vals xs b/\IsTup s.heap a b.toArray/\xs.length<=sizeLine:=by
 rcases h with h|⟨o,b,n,hk,hc,hs,hz,r⟩
 ·obtain⟨z,b,r,p⟩:=h.ok I.hok;exact⟨b,r,p.tup,z⟩
 ·refine⟨b.toList,r,⟨o,I.kIn a o hk,hc,n,by simpa using hs⟩,?_⟩;have e:=r.length;simp only[length_toList] at e;lia
theorem Inv.list_inj(I:Inv X pins σ H s)(h:SqL X.K H a xs)(h':SqL X.K H a ys):xs=ys:=by
 obtain⟨b,r,⟨o,n,e,_,_,d⟩,_⟩:=I.list h;obtain⟨its',c,⟨f,g,i,_,_,d'⟩,_⟩:=I.list h';have:b=its':=by simp_all
 subst this;exact r.inj c
theorem Inv.tuple_inj(I:Inv X pins σ H s)(h:SqT X.K H a xs)(h':SqT X.K H a ys):xs=ys:=by
 obtain⟨b,r,⟨o,e,_,n,d⟩,_⟩:=I.tuple h;obtain⟨its',c,⟨f,i,_,g,d'⟩,_⟩:=I.tuple h';have:b=its':=by simp_all
 subst this;exact r.inj c
end
noncomputable abbrev Cx.wish(X:Cx)(E:Value->Shared->Prop):Cx:={ X with xe:=E }
noncomputable abbrev Cx.nox(X:Cx):Cx:=X.wish fun _ _=>False
theorem Cx.Ok.wish{X:Cx}(ok:X.Ok)(E:Value->Shared->Prop):(X.wish E).Ok:=
 ⟨ok.mod,ok.kind,ok.glob,ok.blt,ok.above,ok.inj,ok.has,ok.cab,ok.hd,ok.frames,ok.stk,ok.exf,ok.bs,ok.bsz,ok.noex,ok.exfs,ok.funs,ok.frf⟩
theorem Cx.Ok.unwish{X:Cx}(ok:(X.wish E).Ok):X.Ok:=
 ⟨ok.mod,ok.kind,ok.glob,ok.blt,ok.above,ok.inj,ok.has,ok.cab,ok.hd,ok.frames,ok.stk,ok.exf,ok.bs,ok.bsz,ok.noex,ok.exfs,ok.funs,ok.frf⟩
section
variable{X:Cx}{pins:List (Addr×Obj)}{σ:St}{H:Hp}{s:Shared}{E:Value->Shared->Prop}
theorem Inv.wish(I:Inv X pins σ H s)(E:Value->Shared->Prop):Inv (X.wish E) pins σ H s:=⟨I.ok.wish E,I.os,I.bare,I.base,I.loc,I.cell,I.free,I.freeC,I.pin,I.hok,I.len⟩
theorem Inv.unwish(I:Inv (X.wish E) pins σ H s):Inv X pins σ H s:=⟨I.ok.unwish,I.os,I.bare,I.base,I.loc,I.cell,I.free,I.freeC,I.pin,I.hok,I.len⟩
theorem SP.unwish(h:SP (X.wish E) pins D f s'):SP X pins D f s':=by
 cases f with
 | next=>obtain⟨σ',a,I,q⟩:=h;exact⟨σ',a,I.unwish,q⟩
 | brk=>obtain⟨σ',a,I,q⟩:=h;exact⟨σ',a,I.unwish,q⟩
 | cont=>obtain⟨σ',a,I,q⟩:=h;exact⟨σ',a,I.unwish,q⟩
 | ret u=>obtain⟨v,σ',a,I,r,q⟩:=h;exact⟨v,σ',a,I.unwish,r,q⟩
theorem PSs.nox{st:List Stmt}(h:PSs X.nox st t):PSs X st t:=fun pins s σ H D I hw =>
 wpAny_mono (h pins s σ H D (I.wish _) hw) (fun _ _ q=>q.unwish) fun _ _ z=>False.elim z
end
section
variable{X:Cx}{st:Stmt}{rest:List Stmt}{t u:TS}{e:Expr}{te:TE}{pos:Pos}
noncomputable def tNext:TS:=fun D σ H=>D.nx σ H
noncomputable def tSeq(t u:TS):TS:=fun D σ H=>t { D with nx:=u D } σ H
theorem Jo:PSs X [] tNext:=fun _ _ σ H _ I h=>wpAny_execs_nil ⟨σ,H,I,h⟩
theorem J1(c:PS X st t)(b:PSs X rest u):PSs X (st::rest) (tSeq t u):=by
 intro pins s σ H D I h;refine wpAny_execs_cons (thn (c pins s σ H { D with nx:=u D } I h) fun f a q=>?_)
 cases f with
 | next =>
  obtain⟨σ',e,d,q⟩:=q;exact b pins a σ' e D d q
 | ret v=>exact q
 | brk=>exact q
 | cont=>exact q
theorem J4(a:PS X st t):PSs X [st] t:=by
 intro pins s σ H D I h;refine wpAny_execs_cons (thn (a pins s σ H D I h) fun f b q=>?_)
 cases f with
 | next=>exact wpAny_execs_nil q
 | ret v=>exact q
 | brk=>exact q
 | cont=>exact q
theorem Inv.quiet(I:Inv X pins σ H s):interactive X.env=false:=by simp[interactive,I.ok.kind]
noncomputable def tDrop(a:TE):TS:=fun D σ H=>a σ H fun _ b=>D.nx σ b
theorem J1f(c:PE X e te)(b:swapsWith e none pos.line X.env=pure false:=by rfl):PS X (.Expr e pos) (tDrop te):=by
 intro pins s σ H D I h;exact wpAny_Expr_any (thn (c pins s σ H _ I h) fun v i d=>by obtain⟨x,g,f,j,a⟩:=d;exact⟨σ,g,f,a⟩) I.quiet b
noncomputable def tRet(a:TE):TS:=fun D σ H=>a σ H D.rt
theorem Jf(c:PE X e te):PS X (.Return (some e) pos) (tRet te):=by
 intro pins s σ H D I h;exact wpAny_Return_some (thn (c pins s σ H _ I h) fun v i d=>by obtain⟨x,g,f,a,b⟩:=d;exact⟨x,σ,g,f,a,b⟩)
noncomputable def tIfS(c:TT)(t u:TS):TS:=fun D σ H=>c σ H fun b a=>if b=true then t D σ a else u D σ a
theorem J1b(j:PT X c tc)(l:PSs X a t)(hb:PSs X b u):PS X (.If c a b pos) (tIfS tc t u):=by
 intro pins s σ H D I h;refine wpAny_If (thn (j pins s σ H _ I h) fun d e m=>?_);obtain⟨i,g,f⟩:=m
 cases d with
 | true=>exact l pins e σ i D g f
 | false=>exact hb pins e σ i D g f
noncomputable def tNever:TS:=fun _ _ _=>False
theorem J1q:PS X st tNever:=fun _ _ _ _ _ _ h=>h.elim
end
noncomputable abbrev TG:=V->St->Hp->(St->Hp->Prop)->Prop
noncomputable abbrev TGs:=List V->St->Hp->(St->Hp->Prop)->Prop
noncomputable def PG(X:Cx)(a:Expr)(t:TG):Prop:=
 ∀(pins:List (Addr×Obj)) (s:Shared) (σ:St) (H:Hp) (v:V) (u:Value) (Q:St->Hp->Prop),Inv X pins σ H s->RelV v u->t v σ H Q->
  wpAny (model X.prog X.w) X.A (assign a X.env u) (fun _ s'=>∃σ' b,Inv X pins σ' b s'/\Q σ' b) X.xe s
noncomputable def PGs(X:Cx)(ts:List Expr)(t:TGs):Prop:=
 ∀(pins:List (Addr×Obj)) (s:Shared) (σ:St) (H:Hp) (vs:List V) (us:List Value) (Q:St->Hp->Prop),Inv X pins σ H s->Vals vs us->t vs σ H Q->
  wpAny (model X.prog X.w) X.A (assignInOrder ((assignEach ts X.env).map (·.2)) us) (fun _ s'=>∃σ' a,Inv X pins σ' a s'/\Q σ' a) X.xe s
noncomputable abbrev TSet:=V->V->V->Hp->(Hp->Prop)->Prop
noncomputable def PSet(X:Cx)(t:TSet):Prop:=
 ∀(pins:List (Addr×Obj)) (s:Shared) (σ:St) (H:Hp) (o i v:V) (a b u:Value) (Q:Hp->Prop),Inv X pins σ H s->RelV o a->RelV i b->RelV v u->t o i v H Q->
  wpAny (model X.prog X.w) X.A (setItem a b u) (fun _ s'=>∃c,Inv X pins σ c s'/\Q c) X.xe s
section
variable{X:Cx}{pos:Pos}
noncomputable def J8r(i:Nat):TG:=fun v σ H Q=>Q (σ.set i (some v)) H
theorem J5q{i:Nat}{x:Str}(c:X.N.Nodup)(hi:X.N[i]?=some x)(a:Loc X.env.scope x)(b:X.fn x=true\/X.env.scope.names.lookup x=some .local:=by first|exact .inl rfl|exact .inr rfl|assumption):PG X (.Name x pos) (J8r i):=by
 intro pins s σ H v u Q I r h;exact wpAny_assign_Name (Jak I c hi a r (fun s' d=>⟨_,H,d,h⟩) b)
noncomputable def gNil:TGs:=fun vs σ H Q=>vs=[]/\Q σ H
inductive gConsR(t:TG)(u:TGs)(vs:List V)(σ:St)(H:Hp)(Q:St->Hp->Prop):Prop
 | mk(v r:_)(_:vs=v::r)(_:t v σ H fun σ' a=>u r σ' a Q)
noncomputable def Jks(t:TG)(u:TGs):TGs:=fun vs σ H Q=>gConsR t u vs σ H Q
theorem J71:PGs X [] gNil:=by
 intro pins s σ H vs us Q I r h;obtain⟨e,h⟩:=h;exact assignInOrder_nil ⟨σ,H,I,h⟩
theorem J2b(g:PG X e t)(f:PGs X es u)(c:(assignEach (e::es) X.env).map (·.2)=assign e X.env::(assignEach es X.env).map (·.2):=by rfl):PGs X (e::es) (Jks t u):=by
 intro pins s σ H vs us Q I r h;obtain⟨v,m,i,h⟩:=h;subst i
 cases r with
 | cons r rr =>
  rw[c];refine assignInOrder_cons (thn (g pins s σ H _ _ _ I r h) fun _ a d=>?_);obtain⟨σ1,l,j,b⟩:=d;exact f pins a σ1 l _ _ Q j rr b
inductive gTupR(K:Frag)(n:Nat)(t:TGs)(v:V)(σ:St)(H:Hp)(Q:St->Hp->Prop):Prop
 | mk(a xs:_)(_:v=.ref a)(_:SqT K H a xs)(_:xs.length=n)(_:t xs σ H Q)
noncomputable def gTup(K:Frag)(n:Nat)(t:TGs):TG:=fun v σ H Q=>gTupR K n t v σ H Q
theorem J9v(p:X.calm=true)(h:PGs X es t)(l:(assignEach es X.env).length=n:=by rfl)(c:(assignEach es X.env).findIdx? (·.1)=none:=by rfl):PG X (.Tuple es k pos) (gTup X.K n t):=by
 intro pins s σ H v u Q I r hw;obtain⟨a,xs,q,j,m,hw⟩:=hw;subst q;cases r;obtain⟨f,d,i,y⟩:=I.tuple j;refine assign_Tuple_tuple (I.ok.hd p) i (by simp[l,<- m,d.length]) c fun h' g=>?_;have w:=I.kept (t':=s.toks) fun b o e=>g b o (Nat.ne_of_lt (lt_size e)) e;exact h pins _ σ H xs _ Q w (by simp_all) hw
noncomputable def gSub(a b:TE)(t:TSet):TG:=fun v σ H Q=>a σ H fun o e=>b σ e fun i d=>t o i v d fun c=>Q σ c
theorem Jfp{o i:Expr}{d e:TE}{t:TSet}(w:PE X o d)(hi:PE X i e)(q:PSet X t)(z:∀v,assign (.Subscript o i pos) X.env v=(do
   let a <- holding [v] (eval o X.env);let b <- holding [v,a] (eval i X.env)
   standAt pos
   holding [v,a,b] (setItem a b v)
   release [v,a,b] []):=by intro _;rfl):PG X (.Subscript o i pos) (gSub d e t):=by
 intro pins s σ H v u Q I r h;rw[z];refine wpAny_bind (wpAny_holding (thn (w pins s σ H _ I h) fun a g c=>?_));obtain⟨x,F,C,l,p⟩:=c;refine wpAny_bind (wpAny_holding (thn (hi pins g σ F _ C p) fun b f c=>?_));obtain⟨y,E,B,j,n⟩:=c;refine wpAny_bind (wpAny_standAt (wpAny_bind (wpAny_holding (thn (q pins f σ E x y v a b u _ B l j r n) fun _ G c=>?_))));obtain⟨D,A,m⟩:=c;exact wpAny_release ⟨σ,D,A,m⟩
noncomputable def tAsg(a:TE)(g:TG):TS:=fun D σ H=>a σ H fun x b=>g x σ b D.nx
theorem Jfn(i:PE X e te)(f:PG X tg g)(d:swapsWithSole [tg] e pos.line X.env=pure false:=by rfl)(hw:swappedStores [tg] e X.env=pure none:=by rfl)(l:(assignEach [tg] X.env).map (·.2)=[assign tg X.env]:=by rfl):PS X (.Assign [tg] e pos) (tAsg te g):=by
 intro pins s σ H D I h;refine wpAny_Assign_stores (thn (i pins s σ H _ I h) fun v a j=>?_) d hw;obtain⟨x,n,m,b,c⟩:=j;rw[l];exact thn (f pins a σ n x v _ m b c) fun _ o q=>q
theorem ps_set{i:Nat}{x:Str}{e:Expr}{b:TE}{a:Pos}(m:X.N.Nodup)(hi:X.N[i]?=some x)(f:Loc X.env.scope x)(l:PE X e b)(g:swapsWith e (some (.Name x a)) pos.line X.env=pure false:=by rfl)(j:X.fn x=true\/X.env.scope.names.lookup x=some .local:=by first|exact .inl rfl|exact .inr rfl|assumption):
  PS X (.Assign [.Name x a] e pos) (tAsg b (J8r i)):=by
 intro pins s σ H D I h;refine wpAny_Assign_Name (thn (l pins s σ H _ I h) fun v u n=>?_) g;obtain⟨y,q,p,c,d⟩:=n;exact Jak p m hi f c (fun r o=>⟨_,q,o,d⟩) j
end
section
variable{X:Cx}{pos:Pos}
noncomputable def tWhile(c:TT)(tb:TS):TS:=fun D σ H=>∃W:Nat->St->Hp->Prop,(∃m,W m σ H)/\∀m σ H,W m σ H->
 c σ H fun b d=>if b=true then ∃N:St->Hp->Prop,(∀σ' e,N σ' e->∃a,a<m/\W a σ' e)/\tb { D with nx:=N,ct:=N,bk:=D.nx } σ d else D.nx σ d
theorem Jfm(o:PassesOwn (model X.prog X.w) X.A X.env X.xe)(G:PT X c tc)(hb:PSs X body tb):PS X (.While c body [] pos) (tWhile tc tb):=by
 intro pins s σ H D I h;obtain⟨W,⟨F,B⟩,turn⟩:=h;refine wpAny_While (codeAny_whileLoop (fun n s'=>∃σ' y,Inv X pins σ' y s'/\W n σ' y) ?_ F ⟨σ,H,I,B⟩);rintro n E ⟨σ1,u,K,z⟩;refine wpAny_passesOwn o (thn (G pins E σ1 u _ K (turn n σ1 u z)) fun b C J=>?_);obtain⟨r,q,e⟩:=J
 cases b with
 | true =>
  obtain⟨N,p,e⟩:=e;refine wpAny_passesOwn o (thn (hb pins C σ1 r _ q e) fun f L d=>?_)
  cases f with
  | next =>
   obtain⟨σ3,a,m,i⟩:=d;obtain⟨j,l,g⟩:=p σ3 a i;exact⟨j,l,σ3,a,m,g⟩
  | cont =>
   obtain⟨σ3,a,m,i⟩:=d;obtain⟨j,l,g⟩:=p σ3 a i;exact⟨j,l,σ3,a,m,g⟩
  | brk=>exact d
  | ret v=>exact d
 | false =>
  exact wpAny_execs_nil ⟨σ1,r,q,e⟩
end
structure It where
 go:Nat->Hp->Prop
 yld:Nat->Hp->V->Hp->Prop
 stop:Nat->Hp->Prop
noncomputable def FpOk(X:Cx)(pins:List (Addr×Obj))(H:Hp)(b:Addr):Prop:=
 H b=none/\b≠X.env.locals/\b ∉ X.fs/\(b∈X.ex\/X.s₀.heap.objs.size<=b)/\(∀x c,X.env.cells.lookup x=some c->c≠b)/\∀p∈X.pn++pins,p.1≠b
theorem Inv.fpOk(I:Inv X pins σ H s)(hb:s.heap.objs.size<=b)(d:H' b=none):FpOk X pins H' b:=by
 refine⟨d,Nat.ne_of_gt (Nat.lt_of_lt_of_le I.lt hb),I.nofs hb,.inr (Nat.le_trans I.sz hb),fun x c e z=>?_,fun p a z=>?_⟩
 ·obtain⟨v,q⟩:=I.cell x c e;exact absurd (Nat.lt_of_lt_of_le q.lt (by rw[z];exact hb)) (Nat.lt_irrefl _)
 ·exact absurd (Nat.lt_of_lt_of_le (lt_size (I.pin p a).1) (by rw[z];exact hb)) (Nat.lt_irrefl _)
structure Turn(P:Program)(w:World)(K:Frag)(tg:Expr)(J:It)(fp:List Addr)(it:Addr)(tn:Nat->Heap->Prop):Prop where
 mem:it∈fp
 obj:∀i h,tn i h->∀b∈fp,∃o,h.get? b=some o/\∀v,o.data≠.cell v
 keep:∀i h h',tn i h->(∀b∈fp,∀o,h.get? b=some o->h'.get? b=some o)->tn i h'
 item:∀(X:Cx),X.prog=P->X.w=w->X.K=K->X.calm=true->∀(i:Nat) (pins:List (Addr×Obj)) (s:Shared) (σ:St) (H:Hp) (E:Value->Shared->Prop),Inv X pins σ H s->(∀b∈fp,FpOk X pins H b)->tn i s.heap->J.go i H->
  wpAny (model P w) X.A (pyNext (.ref it)) (fun r s1=>∃u,r=some u/\
   wpAny (model P w) X.A (letOwnedTupleGo tg (.ref it) u) (fun _ s2=>∃x H',Inv X pins σ H' s2/\RelV x u/\J.yld i H x H'/\tn (i+1) s2.heap/\∀b∈fp,H' b=none) E s1) E s
 done:∀(X:Cx),X.prog=P->X.w=w->X.K=K->X.calm=true->∀(i:Nat) (pins:List (Addr×Obj)) (s:Shared) (σ:St) (H:Hp) (E:Value->Shared->Prop),Inv X pins σ H s->(∀b∈fp,FpOk X pins H b)->tn i s.heap->J.stop i H->
  wpAny (model P w) X.A (pyNext (.ref it)) (fun r s1=>r=none/\Inv X pins σ H s1) E s
 self:∀(A:Around) (i:Nat) (s:Shared) (Q:Value->Shared->Prop) (E:Value->Shared->Prop),tn i s.heap->Q (.ref it) s->wpAny (model P w) A (pyIter (.ref it)) Q E s
noncomputable abbrev TI:=St->Hp->(It->Hp->Prop)->Prop
noncomputable def PIE(X:Cx)(pins:List (Addr×Obj))(σ:St)(g:Expr)(R:It->Hp->Prop)(a:Value)(e:Shared):Prop:=
 ∃(it:Addr) (f:List Addr) (d:Nat->Heap->Prop) (J:It) (c:Hp),a=.ref it/\Inv X pins σ c e/\Turn X.prog X.w X.K g J f it d/\d 0 e.heap/\(∀b∈f,FpOk X pins c b)/\R J c
noncomputable def PI(X:Cx)(c a:Expr)(b:TI):Prop:=
 ∀(pins:List (Addr×Obj)) (s:Shared) (σ:St) (H:Hp) (R:It->Hp->Prop),Inv X pins σ H s->b σ H R->
  wpAny (model X.prog X.w) X.A (eval a X.env) (fun v d=>wpAny (model X.prog X.w) X.A (pyIter v) (PIE X pins σ c R) X.xe d) X.xe s
theorem go_of(b : s.heap.get? it = some o)(d : o.cls = .type n)(hd : o.data = .fields vs)(c : ["enumerate", "zip", "dict_itemiterator", "dict_reverseitemiterator", "odict_iterator", "itertools.zip_longest", "itertools.pairwise"].contains n = false)(a : Q () s): wpAny M A (letOwnedTupleGo tg (.ref it) u) Q E s := by
  cases tg <;> first
    | exact wpAny_pure a
    | (cases u <;> first
        | exact wpAny_pure a
        | (refine wpAny_bind (wpAny_load b ?_)
           rw[d, hd];show wpAny M A (if (["enumerate", "zip", "dict_itemiterator", "dict_reverseitemiterator", "odict_iterator", "itertools.zip_longest", "itertools.pairwise"].contains n&&vs[0]?==some (rawInt _)) = true then _ else _) Q E s;rw[if_neg (by intro h; rw[c, Bool.false_and] at h; cases h)];exact wpAny_pure a))
noncomputable def Itl(K:Frag)(a:Addr):It:=
 ⟨fun i H=>∃xs x,SqL K H a xs/\xs[i]?=some x,fun i H x b=>b=H/\∀xs,SqL K H a xs->xs[i]?=some x,fun i H=>∃xs,SqL K H a xs/\xs.length<=i⟩
noncomputable def Itt(K:Frag)(a:Addr):It:=
 ⟨fun i H=>∃xs x,SqT K H a xs/\xs[i]?=some x,fun i H x b=>b=H/\∀xs,SqT K H a xs->xs[i]?=some x,fun i H=>∃xs,SqT K H a xs/\xs.length<=i⟩
noncomputable def Itr(lo:Int)(n:Nat):It:=⟨fun i _=>i<n,fun i H x a=>a=H/\x=.int (lo+i),fun i _=>n<=i⟩
theorem Ji0{P:Program}{w:World}{K:Frag}{J:Expr}(a it:Addr):Turn P w K J (Itl K a) [it] it (fun i h=>h.IsListIter it a i) where
 mem:=by simp
 obj:=fun i h st b hb=>by
  have e:b=it:=by simpa using hb
  subst e;obtain⟨o,e,c,d⟩:=st;exact⟨o,e,fun v z=>by rw[d] at z;cases z⟩
 keep:=fun i h h' st k=>st.at fun o e=>k it (by simp) o e
 item:=by
  intro X r hw y G i pins s σ H E I j st q;subst r hw y;obtain⟨xs,x,g,n⟩:=q;obtain⟨m,l,p,N⟩:=I.list g;obtain⟨u,Q,M⟩:=l.get n;obtain⟨F,D,R,C,B,A⟩:=j it (by simp);refine wpAny_pyNext_list_item st p.isList (x:=u) (by simpa using Q) fun h' f L=>?_;have T:Inv X pins σ H { s with heap:=h' }:=I.turned (t':=s.toks) (fun b o hb e=>(L.2 b hb).trans e) F D C B A;obtain⟨o,e,c,d⟩:=id f;exact⟨u,rfl,go_of (s:={ s with heap:=h' }) e c d (by decide) ⟨x,H,T,M,⟨rfl,fun ys O=>by rw[I.list_inj O g];exact n⟩,f,fun b hb=>(j b hb).1⟩⟩
 done:=by
  intro X r hw y G i pins s σ H E I j st q;subst r hw y;obtain⟨xs,g,n⟩:=q;obtain⟨m,l,p,N⟩:=I.list g;obtain⟨F,D,R,C,B,A⟩:=j it (by simp);have U:=l.length;exact wpAny_pyNext_list_end (I.ok.hd G) st p.isList (by simp;lia) fun h' S=>⟨rfl,I.turned (t':=s.toks) (fun b o hb e=>S b o hb e) F D C B A⟩
 self:=fun _ _ _ _ _ st h=>wpAny_pyIter_listiter st h
theorem Jgs{P:Program}{w:World}{K:Frag}{J:Expr}(a it:Addr):Turn P w K J (Itt K a) [it] it (fun i h=>h.IsTupleIter it a i) where
 mem:=by simp
 obj:=fun i h st b hb=>by
  have e:b=it:=by simpa using hb
  subst e;obtain⟨o,e,c,d⟩:=st;exact⟨o,e,fun v z=>by rw[d] at z;cases z⟩
 keep:=fun i h h' st k=>st.at fun o e=>k it (by simp) o e
 item:=by
  intro X r hw y G i pins s σ H E I l st q;subst r hw y;obtain⟨xs,x,j,n⟩:=q;obtain⟨f,m,p,N⟩:=I.tuple j;obtain⟨u,Q,M⟩:=m.get n;obtain⟨F,D,R,C,B,A⟩:=l it (by simp);refine wpAny_pyNext_tuple_item st (show s.heap.IsTuple a f.toArray from p) (x:=u) (by simpa using Q) fun h' g L=>?_;have T:Inv X pins σ H { s with heap:=h' }:=I.turned (t':=s.toks) (fun b o hb e=>(L.2 b hb).trans e) F D C B A;obtain⟨o,e,c,d⟩:=id g;exact⟨u,rfl,go_of (s:={ s with heap:=h' }) e c d (by decide) ⟨x,H,T,M,⟨rfl,fun ys O=>by rw[I.tuple_inj O j];exact n⟩,g,fun b hb=>(l b hb).1⟩⟩
 done:=by
  intro X r hw y G i pins s σ H E I l st q;subst r hw y;obtain⟨xs,j,n⟩:=q;obtain⟨f,m,p,N⟩:=I.tuple j;obtain⟨F,D,R,C,B,A⟩:=l it (by simp);have U:=m.length;exact wpAny_pyNext_tuple_end (I.ok.hd G) st (show s.heap.IsTuple a f.toArray from p) (by simp;lia) fun h' S=>⟨rfl,I.turned (t':=s.toks) (fun b o hb e=>S b o hb e) F D C B A⟩
 self:=fun _ _ _ _ _ st h=>wpAny_pyIter_tupleiter st h
theorem Jgu{K:Frag}(it:Addr)(lo:Int)(n:Nat):Turn P w K tg (Itr lo n) [it] it (fun i h=>IsRangeIter h it (lo+(i:Nat)*1) ((n:Int)-(i:Nat)) 1) where
 mem:=by simp
 obj:=fun i h st b hb=>by
  simp_all
 keep:=fun i h h' st k=>k it (by simp) _ st
 item:=by
  intro X q hw r f i pins s σ H E I c st d;subst q hw r;obtain⟨p,m,z,l,j,g⟩:=c it (by simp);have W:=Walks.range (prog:=X.prog) (w:=X.w) (I.ok.hd f) it lo 1 n;refine W.item i s _ _ d st fun v h' tk y a u=>?_;obtain⟨t,rfl⟩:=y;have B:Inv X pins σ H { s with heap:=h',toks:=tk }:=I.turned (fun b o hb e=>u b o (by simpa using hb) e) p m l j g;refine⟨_,rfl,go_of (s:={ s with heap:=h',toks:=tk }) (n:="range_iterator") a rfl rfl (by decide) ⟨.int (lo+i),H,B,⟨t,?_⟩,⟨rfl,rfl⟩,a,fun b hb=>(c b hb).1⟩⟩;rw[Int.mul_one]
 done:=by
  intro X q hw r f i pins s σ H E I c st d;obtain⟨p,m,z,l,j,g⟩:=c it (by simp);exact wpAny_pyNext_range_end (I.ok.hd f) st (by have:n<=i:=d;lia) fun h' A=>⟨rfl,I.turned (t':=s.toks) (fun b o hb e=>A b o hb e) p m l j g⟩
 self:=fun _ _ _ _ _ st h=>wpAny_pyIter_rangeiter st h
section
variable{X:Cx}{tg:Expr}
inductive iListR(K:Frag)(R:It->Hp->Prop)(x:V)(b:Hp):Prop
 | mk(a:_)(_:x=.ref a)(_:(∃xs,SqL K b a xs))(_:R (Itl K a) b)
noncomputable def iList(K:Frag)(tl:TE):TI:=fun σ H R=>tl σ H fun x a=>iListR K R x a
inductive iTupR(K:Frag)(R:It->Hp->Prop)(x:V)(b:Hp):Prop
 | mk(a:_)(_:x=.ref a)(_:(∃xs,SqT K b a xs))(_:R (Itt K a) b)
noncomputable def iTup(K:Frag)(tl:TE):TI:=fun σ H R=>tl σ H fun x a=>iTupR K R x a
theorem J2e{l:Expr}{tl:TE}(m:PE X l tl):PI X tg l (iList X.K tl):=by
 intro pins s σ H R I h;refine thn (m pins s σ H _ I h) fun v c n=>?_;obtain⟨x,r,d,f,g⟩:=n;obtain⟨a,e,⟨xs,j⟩,q⟩:=g;subst e;cases f;obtain⟨i,u,p,w⟩:=d.list j;refine wpAny_pyIter_list p.isList ?_;refine⟨c.heap.objs.size,[c.heap.objs.size],_,_,r,rfl,d.kept (t':=c.toks) fun b o e=>get?_push_of_some _ e,Ji0 a _,⟨_,get?_push_size _ rfl,rfl,rfl⟩,fun b hb=>?_,q⟩;have e:b=c.heap.objs.size:=by simpa using hb
 subst e;exact d.fpOk (Nat.le_refl _) (d.hok.fresh (Nat.le_refl _))
theorem J7b{l:Expr}{tl:TE}(m:PE X l tl):PI X tg l (iTup X.K tl):=by
 intro pins s σ H R I h;refine thn (m pins s σ H _ I h) fun v c n=>?_;obtain⟨x,r,d,g,i⟩:=n;obtain⟨a,e,⟨xs,j⟩,q⟩:=i;subst e;cases g;obtain⟨f,u,p,w⟩:=d.tuple j;refine wpAny_pyIter_tuple (show c.heap.IsTuple a f.toArray from p) ?_;refine⟨c.heap.objs.size,[c.heap.objs.size],_,_,r,rfl,d.kept (t':=c.toks) fun b o e=>get?_push_of_some _ e,Jgs a _,⟨_,get?_push_size _ rfl,rfl,rfl⟩,fun b hb=>?_,q⟩;have e:b=c.heap.objs.size:=by simpa using hb
 subst e;exact d.fpOk (Nat.le_refl _) (d.hok.fresh (Nat.le_refl _))
theorem Jn6{lo:Int}(I:Inv X pins σ H s)(g:-(2^62)<=lo)(f:lo<2^62)(d:-(2^62)<=hi)(c:hi<2^62)(q:R (Itr lo (hi-lo).toNat) H):wpAny (model X.prog X.w) X.A (pyIter (.ref s.heap.objs.size)) (PIE X pins σ tg R) E { s with heap:=s.heap.push { cls:=.type "range",data:=.fields #[.int lo t,.int hi u,.int 1 v] },toks:=tk }:=by
 refine wpAny_pyIter_range (IsRange.new ..) (small_one g f d c) ?_;have a:Inv X pins σ H { s with heap:=s.heap.push { cls:=.type "range",data:=.fields #[.int lo t,.int hi u,.int 1 v] },toks:=tk }:=I.kept fun b o e=>get?_push_of_some _ e;refine⟨(s.heap.push { cls:=.type "range",data:=.fields #[.int lo t,.int hi u,.int 1 v] }).objs.size,[(s.heap.push { cls:=.type "range",data:=.fields #[.int lo t,.int hi u,.int 1 v] }).objs.size],_,_,H,rfl,
  a.kept (t':=tk) fun b o e=>get?_push_of_some _ e,Jgu _ lo (hi-lo).toNat,?_,fun b hb=>?_,q⟩
 ·have i:lo+((0:Nat):Int)*1=lo:=by simp
  have h:(((hi-lo).toNat:Nat):Int)-((0:Nat):Int)=Builtin.Range.rangeSize lo hi 1:=by rw[rangeSize_one];split <;> lia
  rw[i,h];exact get?_push_size _ rfl
 ·have e:b=(s.heap.push { cls:=.type "range",data:=.fields #[.int lo t,.int hi u,.int 1 v] }).objs.size:=by simpa using hb
  subst e;exact a.fpOk (Nat.le_refl _) (a.hok.fresh (Nat.le_refl _))
inductive iRng1R(R:It->Hp->Prop)(vs:List V)(a:Hp):Prop
 | mk(j:Int)(_:vs=[.int j])(_:-(2^62)<=j)(_:j<2^62)(_:R (Itr 0 j.toNat) a)
noncomputable def iRng1(a:TA):TI:=fun σ H R=>a σ H fun vs b=>iRng1R R vs b
theorem J6d(i:Gl X "range")(g:X.mg "range"=none)(l:PA X [a] ta)(f:starEach [a] X.env=[(false,eval a X.env)]:=by rfl):PI X tg (.Call (.Name "range" p) [a] [] pos) (iRng1 ta):=by
 intro pins s σ H R I h;refine Call_ (J8n I i g boot_range (callWith_type1 (thn (l pos pins s σ H _ I h) fun us o m=>?_) f rfl));obtain⟨vs,u,n,c,b⟩:=m;obtain⟨j,e,b,d,q⟩:=b;subst e
 cases c with
 | cons r rr =>
  cases rr;obtain⟨t,rfl⟩:=r;exact call_range_1 (Jn6 n (by lia) (by lia) b d (by simp_all))
noncomputable def tFor(c:TI)(g:TG)(tb:TS):TS:=fun D σ H=>c σ H fun J e=>∃W:Nat->Nat->St->Hp->Prop,(∃m,W 0 m σ e)/\∀i m σ H,W i m σ H->
 (J.stop i H/\D.nx σ H)\/(J.go i H/\∃N:St->Hp->Prop,(∀σ' a,N σ' a->∃b,b<m/\W (i+1) b σ' a)/\∀x a,J.yld i H x a->g x σ a fun σ2 d=>tb { D with nx:=N,ct:=N,bk:=D.nx } σ2 d)
noncomputable def Jcc(a:List Addr)(h:Heap):List (Addr×Obj):=a.filterMap fun b=>(h.get? b).map fun o=>(b,o)
theorem J5b(hb:b∈fp)(e:h.get? b=some o):(b,o)∈Jcc fp h:=List.mem_filterMap.mpr ⟨b,hb,by rw[e];rfl⟩
theorem Jk1(a:p∈Jcc fp h):p.1∈fp/\h.get? p.1=some p.2:=by
 obtain⟨b,hb,e⟩:=List.mem_filterMap.mp a
 cases q:h.get? b with
 | none=>simp_all
 | some o =>
  rw[q] at e;have c:=Option.some.inj e;subst c;exact⟨hb,q⟩
theorem Inv.pinned(I:Inv X pins σ H s)(g:∀b∈fp,FpOk X pins H b)(f:∀b∈fp,∃o,s.heap.get? b=some o/\∀v,o.data≠.cell v):Inv X (pins++Jcc fp s.heap) σ H s:=
 I.pins_of fun p c=>(mem_append.mp c).elim (fun z=>I.pin p (mem_append_right _ z)) fun z=>by
  obtain⟨hb,e⟩:=Jk1 z;obtain⟨j,i,h,_⟩:=g p.1 hb;obtain⟨o,a,d⟩:=f p.1 hb;rw[e] at a;cases a;exact⟨e,j,i,h,d⟩
theorem Inv.unpinned(I:Inv X (pins++pl) σ H s):Inv X pins σ H s:=I.pins_of fun p a=>I.pin p (mem_append_right _ (mem_append_left _ a))
theorem J30(E:PassesOwn (model X.prog X.w) X.A X.env X.xe)(Y:X.calm=true)(hi:PI X tg iter wi)(hg:PG X tg g)(hb:PSs X body tb)(hs:∀x,foldedSetIterable iter X.env x=pure x:=by intro _;rfl):PS X (.For tg iter body [] pos) (tFor wi g tb):=by
 intro pins s σ H D I h;refine wpAny_For (thn (hi pins s σ H _ I h) fun v s1 h1=>thn h1 fun aa s2 h2=>?_) hs;obtain⟨it,G,R,J,H2,e,I2,T,L,Z,W,⟨m0,w0⟩,turn⟩:=h2;subst e;have a:∀{p:Hp},(∀b∈G,p b=none)->∀b∈G,FpOk X pins p b:=fun hn b hb=>⟨hn b hb,(Z b hb).2⟩;refine codeAny_forLoop_any (fun n s'=>∃i σ' p,Inv X pins σ' p s'/\R i s'.heap/\(∀b∈G,p b=none)/\W i n σ' p) ?_ m0 ⟨0,σ,H2,I2,L,fun b hb=>(Z b hb).1,w0⟩;rintro n U ⟨i,σ3,K,I3,B,F,w3⟩;rcases turn i n σ3 K w3 with⟨stop,qn⟩|⟨go,N,hN,step⟩
 ·refine wpAny_passesOwn E (thn (T.done X rfl rfl rfl Y i pins U σ3 K X.xe I3 (a F) B stop) fun r s4 z=>?_);obtain⟨O,I4⟩:=z;subst O;exact wpAny_execs_nil ⟨σ3,K,I4,qn⟩
 ·refine wpAny_passesOwn E (thn (T.item X rfl rfl rfl Y i pins U σ3 K X.xe I3 (a F) B go) fun r s4 z=>?_);obtain⟨u,O,h4⟩:=z;subst O;refine wpAny_passesOwn E (thn h4 fun _ S z=>?_);obtain⟨x,H5,I5,r5,y5,y,P⟩:=z;have Q:=I5.pinned (a P) (T.obj _ _ y);refine wpAny_passesOwn E (thn (hg _ S σ3 H5 x u _ Q r5 (step x H5 y5)) fun _ s6 z=>?_);obtain⟨σ6,H6,I6,q6⟩:=z;refine wpAny_passesOwn E (thn (hb _ s6 σ6 H6 _ I6 q6) fun f M q=>?_);have c:∀{σ7:St} {l:Hp},Inv X (pins++Jcc G S.heap) σ7 l M->N σ7 l->∃m,m<n/\∃i σ' p,Inv X pins σ' p M/\R i M.heap/\(∀b∈G,p b=none)/\W i m σ' p:=fun {σ7 l} j C=>by
   obtain⟨m',hm,w7⟩:=hN σ7 l C;refine⟨m',hm,i+1,σ7,l,j.unpinned,T.keep _ _ _ y fun b hb o e=>(j.pin (b,o) (mem_append_right _ (mem_append_right _ (J5b hb e)))).1,fun b hb=>?_,w7⟩;obtain⟨o,e,d⟩:=T.obj _ _ y b hb;exact(j.pin (b,o) (mem_append_right _ (mem_append_right _ (J5b hb e)))).2.1
  cases f with
  | next=>obtain⟨σ7,l,j,C⟩:=q;exact c j C
  | cont=>obtain⟨σ7,l,j,C⟩:=q;exact c j C
  | brk=>obtain⟨σ7,l,j,q⟩:=q;exact⟨σ7,l,j.unpinned,q⟩
  | ret v=>obtain⟨x7,σ7,l,j,r7,q⟩:=q;exact⟨x7,σ7,l,j.unpinned,r7,q⟩
end
theorem J3o{K:Frag}{g:TG}{tb:TS}{D:Ends}(b:Nat->St->Hp->Prop)(o:b 0 σ H)(n:∀i σ H,i<=xs.length->b i σ H->SqL K H a xs)(l:∀i x σ H,xs[i]?=some x->b i σ H->g x σ H fun σ2 f=>tb { D with nx:=b (i+1),ct:=b (i+1),bk:=D.nx } σ2 f)(hd:∀σ H,b xs.length σ H->D.nx σ H):
  ∃W:Nat->Nat->St->Hp->Prop,(∃m,W 0 m σ H)/\∀i m σ H,W i m σ H->
   ((Itl K a).stop i H/\D.nx σ H)\/((Itl K a).go i H/\∃N:St->Hp->Prop,(∀σ' c,N σ' c->∃h,h<m/\W (i+1) h σ' c)/\∀x c,(Itl K a).yld i H x c->g x σ c fun σ2 f=>tb { D with nx:=N,ct:=N,bk:=D.nx } σ2 f):=by
 refine⟨fun i m σ H=>m=xs.length-i/\i<=xs.length/\b i σ H,⟨xs.length,by simp,Nat.zero_le _,o⟩,?_⟩;rintro i m σ H ⟨rfl,hi,p⟩;have q:=n i σ H hi p;by_cases d:i<xs.length
 ·refine .inr ⟨⟨xs,xs[i],q,by simp[d]⟩,b (i+1),fun σ' c j=>⟨xs.length-(i+1),by lia,rfl,d,j⟩,fun x c y=>?_⟩;obtain⟨e,y⟩:=y;subst e;exact l i x σ _ (y xs q) p
 ·have e:i=xs.length:=by lia
  subst e;exact .inl ⟨⟨xs,q,Nat.le_refl _⟩,hd σ H p⟩
theorem J8t{K:Frag}{g:TG}{tb:TS}{D:Ends}(b:Nat->St->Hp->Prop)(o:b 0 σ H)(n:∀i σ H,i<=xs.length->b i σ H->SqT K H a xs)(l:∀i x σ H,xs[i]?=some x->b i σ H->g x σ H fun σ2 f=>tb { D with nx:=b (i+1),ct:=b (i+1),bk:=D.nx } σ2 f)(hd:∀σ H,b xs.length σ H->D.nx σ H):
  ∃W:Nat->Nat->St->Hp->Prop,(∃m,W 0 m σ H)/\∀i m σ H,W i m σ H->
   ((Itt K a).stop i H/\D.nx σ H)\/((Itt K a).go i H/\∃N:St->Hp->Prop,(∀σ' c,N σ' c->∃h,h<m/\W (i+1) h σ' c)/\∀x c,(Itt K a).yld i H x c->g x σ c fun σ2 f=>tb { D with nx:=N,ct:=N,bk:=D.nx } σ2 f):=by
 refine⟨fun i m σ H=>m=xs.length-i/\i<=xs.length/\b i σ H,⟨xs.length,by simp,Nat.zero_le _,o⟩,?_⟩;rintro i m σ H ⟨rfl,hi,p⟩;have q:=n i σ H hi p;by_cases d:i<xs.length
 ·refine .inr ⟨⟨xs,xs[i],q,by simp[d]⟩,b (i+1),fun σ' c j=>⟨xs.length-(i+1),by lia,rfl,d,j⟩,fun x c y=>?_⟩;obtain⟨e,y⟩:=y;subst e;exact l i x σ _ (y xs q) p
 ·have e:i=xs.length:=by lia
  subst e;exact .inl ⟨⟨xs,q,Nat.le_refl _⟩,hd σ H p⟩
theorem J8u{lo:Int}{n:Nat}{g:TG}{tb:TS}{D:Ends}{σ:St}{H:Hp}(b:Nat->St->Hp->Prop)(l:b 0 σ H)(j:∀i σ H,i<n->b i σ H->g (.int (lo+i)) σ H fun σ2 d=>tb { D with nx:=b (i+1),ct:=b (i+1),bk:=D.nx } σ2 d)(hd:∀σ H,b n σ H->D.nx σ H):
  ∃W:Nat->Nat->St->Hp->Prop,(∃m,W 0 m σ H)/\∀i m σ H,W i m σ H->
   ((Itr lo n).stop i H/\D.nx σ H)\/((Itr lo n).go i H/\∃N:St->Hp->Prop,(∀σ' c,N σ' c->∃f,f<m/\W (i+1) f σ' c)/\∀x c,(Itr lo n).yld i H x c->g x σ c fun σ2 d=>tb { D with nx:=N,ct:=N,bk:=D.nx } σ2 d):=by
 refine⟨fun i m σ H=>m=n-i/\i<=n/\b i σ H,⟨n,by simp,Nat.zero_le _,l⟩,?_⟩;rintro i m σ H ⟨rfl,hi,p⟩;by_cases a:i<n
 ·refine .inr ⟨a,b (i+1),fun σ' c h=>⟨n-(i+1),by lia,rfl,a,h⟩,fun x c y=>?_⟩;obtain⟨e,y⟩:=y;subst e y;exact j i σ _ a p
 ·have e:i=n:=by lia
  subst e;exact .inl ⟨Nat.le_refl _,hd σ H p⟩
noncomputable abbrev R2:=V->V->Hp->VK->Prop
noncomputable def OpR(X:Cx)(f:Value->Value->Sem Value)(r:R2):Prop:=
 ∀(pins:List (Addr×Obj)) (s:Shared) (σ:St) (H:Hp) (x y:V) (v u:Value) (Q:VK),Inv X pins σ H s->RelV x v->RelV y u->r x y H Q->
  wpAny (model X.prog X.w) X.A (f v u) (EP X pins σ Q) X.xe s
noncomputable def UnR(X:Cx)(f:Value->Sem Value)(r:V->Hp->VK->Prop):Prop:=
 ∀(pins:List (Addr×Obj)) (s:Shared) (σ:St) (H:Hp) (x:V) (v:Value) (Q:VK),Inv X pins σ H s->RelV x v->r x H Q->
  wpAny (model X.prog X.w) X.A (f v) (EP X pins σ Q) X.xe s
noncomputable def J3w(X:Cx)(f:Value)(r:List V->Hp->VK->Prop):Prop:=
 ∀(pins:List (Addr×Obj)) (s:Shared) (σ:St) (H:Hp) (xs:List V) (us:List Value) (Q:VK),Inv X pins σ H s->Vals xs us->r xs H Q->
  wpAny (model X.prog X.w) X.A (call f us) (EP X pins σ Q) X.xe s
noncomputable def TruR(X:Cx)(r:V->Hp->(Bool->Hp->Prop)->Prop):Prop:=
 ∀(pins:List (Addr×Obj)) (s:Shared) (σ:St) (H:Hp) (x:V) (v:Value) (Q:Bool->Hp->Prop),Inv X pins σ H s->RelV x v->r x H Q->
  wpAny (model X.prog X.w) X.A (truthy v) (TP X pins σ Q) X.xe s
noncomputable def tOp(r:R2)(a tb:TE):TE:=fun σ H Q=>a σ H fun x c=>tb σ c fun y b=>r x y b Q
noncomputable def tUn(r:V->Hp->VK->Prop)(a:TE):TE:=fun σ H Q=>a σ H fun x b=>r x b Q
inductive rIR(C:Int->Int->Prop)(g:Int->Int->V)(x y:V)(H:Hp)(Q:VK):Prop
 | mk(i j:_)(_:x=.int i)(_:y=.int j)(_:C i j)(_:Q (g i j) H)
noncomputable def rI(C:Int->Int->Prop)(g:Int->Int->V):R2:=fun x y H Q=>rIR C g x y H Q
inductive rI0R(g:Int->Int->V)(x y:V)(H:Hp)(Q:VK):Prop
 | mk(i j:_)(_:x=.int i)(_:y=.int j)(_:Q (g i j) H)
noncomputable def rI0(g:Int->Int->V):R2:=fun x y H Q=>rI0R g x y H Q
inductive rUR(g:Int->V)(x:V)(H:Hp)(Q:VK):Prop
 | mk(i:_)(_:x=.int i)(_:Q (g i) H)
noncomputable def rU(g:Int->V):V->Hp->VK->Prop:=fun x H Q=>rUR g x H Q
section
variable{X:Cx}{a b c:Expr}{ta tb tc:TE}{pos:Pos}
theorem binT(r:PE X a ta)(hb:PE X b tb){σ:St}{R:V->V->Hp->Prop}(I:Inv X pins σ H s)(h:ta σ H fun x g=>tb σ g fun y c=>R x y c){f:Value->Value->Sem Value}(q:∀v u d x y c,Inv X pins σ c d->RelV x v->RelV y u->R x y c->wpAny (model X.prog X.w) X.A (f v u) Q X.xe d):
  wpAny (model X.prog X.w) X.A (eval a X.env) (fun v j=>wpAny (model X.prog X.w) X.A (eval b X.env) (fun u i=>wpAny (model X.prog X.w) X.A (f v u) Q X.xe i) X.xe j) X.xe s:=by
 refine thn (r pins s σ H _ I h) fun v l e=>?_;obtain⟨x,g,B,n,p⟩:=e;refine thn (hb pins l σ g _ B p) fun u d e=>?_;obtain⟨y,c,z,m,o⟩:=e;exact q v u d x y c z n m o
theorem Ji(f:OpR X (binaryOp op) r)(g:PE X a ta)(hb:PE X b tb):PE X (.BinOp a op b pos) (tOp r ta tb):=by
 intro pins s σ H Q I h;exact wpAny_BinOp (binT g hb I h fun v u c x y j i e d q=>f pins c σ j x y v u Q i e d q)
theorem Jaz(e:UnR X (unaryOp op) r)(f:PE X a ta):PE X (.UnaryOp op a pos) (tUn r ta):=by
 intro pins s σ H Q I h;exact UnaryOp_ (thn (f pins s σ H _ I h) fun v b g=>by obtain⟨x,j,i,c,d⟩:=g;exact e pins b σ j x v Q i c d)
theorem opI{g:Int->Int->Int}(a:∀(i j:Int) (t u:Tok) (s:Shared) (Q:Value->Shared->Prop) (E:Value->Shared->Prop),C i j->Q (.int (g i j) s.toks) { s with toks:=s.toks+1 }->wpAny (model X.prog X.w) X.A (f (.int i t) (.int j u)) Q E s):
  OpR X f (rI C fun i j=>.int (g i j)):=by
 intro pins s σ H x y v u Q I c b h;obtain⟨i,j,rfl,rfl,d,q⟩:=h;obtain⟨t,rfl⟩:=c;obtain⟨t',rfl⟩:=b;exact a i j t t' s _ _ d ⟨.int (g i j),H,I.tok _,⟨_,rfl⟩,q⟩
theorem opI0{g:Int->Int->Int}(a:∀(i j:Int) (t u:Tok) (s:Shared) (Q:Value->Shared->Prop) (E:Value->Shared->Prop),Q (.int (g i j) s.toks) { s with toks:=s.toks+1 }->wpAny (model X.prog X.w) X.A (f (.int i t) (.int j u)) Q E s):
  OpR X f (rI0 fun i j=>.int (g i j)):=by
 intro pins s σ H x y v u Q I c b h;obtain⟨i,j,rfl,rfl,q⟩:=h;obtain⟨t,rfl⟩:=c;obtain⟨t',rfl⟩:=b;exact a i j t t' s _ _ ⟨.int (g i j),H,I.tok _,⟨_,rfl⟩,q⟩
theorem opB0{g:Int->Int->Bool}(a:∀(i j:Int) (t u:Tok) (s:Shared) (Q:Value->Shared->Prop) (E:Value->Shared->Prop),Q (.bool (g i j)) s->wpAny (model X.prog X.w) X.A (f (.int i t) (.int j u)) Q E s):
  OpR X f (rI0 fun i j=>.bl (g i j)):=by
 intro pins s σ H x y v u Q I c b h;obtain⟨i,j,rfl,rfl,q⟩:=h;obtain⟨t,rfl⟩:=c;obtain⟨t',rfl⟩:=b;exact a i j t t' s _ _ ⟨.bl (g i j),H,I,rfl,q⟩
noncomputable def CDiv(i j:Int):Prop:=0<j/\j<1073741824
noncomputable def CPow(i j:Int):Prop:=0<=j/\j<=1000000/\i.natAbs<2^64
noncomputable def CMul(i j:Int):Prop:=(-(2^64)<i/\i<2^64)\/(-(2^64)<j/\j<2^64)
theorem CMul.ok(h:CMul i j):IntMulOk i j:=by
 rcases h with⟨h1,h2⟩|⟨h1,h2⟩
 ·exact .of_left (intBits_le_64 h1 h2)
 ·exact .of_right (intBits_le_64 h1 h2)
theorem J13:OpR X (binaryOp .Add) (rI0 fun i j=>.int (i+j)):=opI0 fun _ _ _ _ _ _ _ q=>add_int q
theorem J1i:OpR X (binaryOp .Sub) (rI0 fun i j=>.int (i-j)):=opI0 fun _ _ _ _ _ _ _ q=>sub_int q
theorem J9x:OpR X (binaryOp .Mult) (rI CMul fun i j=>.int (i*j)):=opI fun _ _ _ _ _ _ _ a q=>mul_int q a.ok
theorem J3t:OpR X (binaryOp .FloorDiv) (rI CDiv fun i j=>.int (i/j)):=opI fun i j _ _ _ _ _ a q=>by
 have c:=a.1;have b:=a.2;exact floordiv_int (by lia) (by rw[Int.fdiv_eq_ediv_of_nonneg i (by lia)];exact q) (.inl (PyProof.noPylong_small (by lia)))
theorem J25:OpR X (binaryOp .Mod) (rI (fun _ j=>0<j) fun i j=>.int (i%j)):=opI fun i j _ _ _ _ _ a q=>by
 exact mod_int' (by lia) (by rw[Int.fmod_eq_emod_of_nonneg i (by lia)];exact q)
theorem J9w:OpR X (binaryOp .Pow) (rI CPow fun i j=>.int (i^j.toNat)):=opI fun _ _ _ _ _ _ _ a q=>pow_int_small a.1 a.2.1 a.2.2 q
theorem unI{g:Int->Int}(a:∀(i:Int) (t:Tok) (s:Shared) (Q:Value->Shared->Prop) (E:Value->Shared->Prop),Q (.int (g i) s.toks) { s with toks:=s.toks+1 }->wpAny (model X.prog X.w) X.A (f (.int i t)) Q E s):
  UnR X f (rU fun i=>.int (g i)):=by
 intro pins s σ H x v Q I b h;obtain⟨i,rfl,q⟩:=h;obtain⟨t,rfl⟩:=b;exact a i t s _ _ ⟨.int (g i),H,I.tok _,⟨_,rfl⟩,q⟩
theorem J64:UnR X (unaryOp .USub) (rU fun i=>.int (-i)):=unI fun _ _ _ _ _ q=>neg_int q
end
noncomputable def scal:V->V->Bool
 | .non,.non=>true|.non,.int _=>true|.int _,.non=>true|.non,.bl _=>true|.bl _,.non=>true|.non,.str _=>true|.str _,.non=>true
 | .int _,.int _=>true|.bl _,.bl _=>true|.str _,.str _=>true|.byt _,.byt _=>true
 | .int _,.str _=>true|.str _,.int _=>true|.bl _,.str _=>true|.str _,.bl _=>true
 | _,_=>false
noncomputable def rEq:R2:=fun x y H Q=>scal x y=true/\Q (.bl (decide (x=y))) H
noncomputable def rNe:R2:=fun x y H Q=>scal x y=true/\Q (.bl (!decide (x=y))) H
theorem Jlg :decide (V.int i=V.int j)=(i==j):=by
 rw[Bool.eq_iff_iff];simp
theorem Jq3 :decide (V.bl i=V.bl j)=(i==j):=by
 rw[Bool.eq_iff_iff];simp
theorem Jlf :decide (V.str i=V.str j)=(i==j):=by
 rw[Bool.eq_iff_iff];simp
theorem Jlh :decide (V.byt i=V.byt j)=(i.toList==j.toList):=by
 rw[Bool.eq_iff_iff];cases i;cases j;simp
section
variable{X:Cx}{a b c:Expr}{ta tb tc:TE}{pos:Pos}
theorem J1e(I:Inv X pins σ H s)(q:Q (.bl k) H)(e:k=k'):EP X pins σ Q (.bool k') s:=by
 subst e;exact⟨.bl k,H,I,rfl,q⟩
theorem J40:OpR X (compareOp .Eq) rEq:=by
 intro pins s σ H x y v u Q I c a h;obtain⟨b,q⟩:=h
 cases x with
 | non =>
  cases c
  cases y with
  | non=>cases a;exact PySem.EqNone.eq_none_none (J1e I q (by simp))
  | bl j=>cases a;exact PySem.EqNone.eq_none_bool (J1e I q (by simp))
  | int j=>obtain⟨t',rfl⟩:=a;exact PySem.EqNone.eq_none_int (J1e I q (by simp))
  | str j=>obtain⟨t',rfl⟩:=a;exact PySem.EqNone.eq_none_str (J1e I q (by simp))
  | _=>exact absurd (show false=true from b) Bool.false_ne_true
 | bl i =>
  cases c
  cases y with
  | non=>cases a;exact PySem.EqNone.eq_bool_none (J1e I q (by simp))
  | bl j=>cases a;exact eq_bool (J1e I q Jq3)
  | str j=>obtain⟨t',rfl⟩:=a;exact PySem.EqMixed.eq_bool_str (J1e I q (by simp))
  | _=>exact absurd (show false=true from b) Bool.false_ne_true
 | int i =>
  obtain⟨t,rfl⟩:=c
  cases y with
  | non=>cases a;exact PySem.EqNone.eq_int_none (J1e I q (by simp))
  | int j=>obtain⟨t',rfl⟩:=a;exact eq_int (J1e I q Jlg)
  | str j=>obtain⟨t',rfl⟩:=a;exact PySem.EqMixed.eq_int_str (J1e I q (by simp))
  | _=>exact absurd (show false=true from b) Bool.false_ne_true
 | str i =>
  obtain⟨t,rfl⟩:=c
  cases y with
  | non=>cases a;exact PySem.EqNone.eq_str_none (J1e I q (by simp))
  | bl j=>cases a;exact PySem.EqMixed.eq_str_bool (J1e I q (by simp))
  | int j=>obtain⟨t',rfl⟩:=a;exact PySem.EqMixed.eq_str_int (J1e I q (by simp))
  | str j=>obtain⟨t',rfl⟩:=a;exact eq_str (J1e I q Jlf)
  | _=>exact absurd (show false=true from b) Bool.false_ne_true
 | byt i =>
  obtain⟨t,rfl⟩:=c
  cases y with
  | byt j=>obtain⟨t',rfl⟩:=a;exact PySem.W.eq_bytes (J1e I q Jlh)
  | _=>exact absurd (show false=true from b) Bool.false_ne_true
 | _=>cases y <;> exact absurd (show false=true from b) Bool.false_ne_true
theorem J72:OpR X (compareOp .NotEq) rNe:=by
 intro pins s σ H x y v u Q I c a h;obtain⟨b,q⟩:=h
 cases x with
 | non =>
  cases c
  cases y with
  | non=>cases a;exact PySem.EqNone.ne_none_none (J1e I q (by simp))
  | bl j=>cases a;exact PySem.EqNone.ne_none_bool (J1e I q (by simp))
  | int j=>obtain⟨t',rfl⟩:=a;exact PySem.EqNone.ne_none_int (J1e I q (by simp))
  | str j=>obtain⟨t',rfl⟩:=a;exact PySem.EqNone.ne_none_str (J1e I q (by simp))
  | _=>exact absurd (show false=true from b) Bool.false_ne_true
 | bl i =>
  cases c
  cases y with
  | non=>cases a;exact PySem.EqNone.ne_bool_none (J1e I q (by simp))
  | bl j=>cases a;exact ne_bool (J1e I q (congrArg not Jq3))
  | str j=>obtain⟨t',rfl⟩:=a;exact PySem.EqMixed.ne_bool_str (J1e I q (by simp))
  | _=>exact absurd (show false=true from b) Bool.false_ne_true
 | int i =>
  obtain⟨t,rfl⟩:=c
  cases y with
  | non=>cases a;exact PySem.EqNone.ne_int_none (J1e I q (by simp))
  | int j=>obtain⟨t',rfl⟩:=a;exact ne_int (J1e I q (congrArg not Jlg))
  | str j=>obtain⟨t',rfl⟩:=a;exact PySem.EqMixed.ne_int_str (J1e I q (by simp))
  | _=>exact absurd (show false=true from b) Bool.false_ne_true
 | str i =>
  obtain⟨t,rfl⟩:=c
  cases y with
  | non=>cases a;exact PySem.EqNone.ne_str_none (J1e I q (by simp))
  | bl j=>cases a;exact PySem.EqMixed.ne_str_bool (J1e I q (by simp))
  | int j=>obtain⟨t',rfl⟩:=a;exact PySem.EqMixed.ne_str_int (J1e I q (by simp))
  | str j=>obtain⟨t',rfl⟩:=a;exact ne_str (J1e I q (congrArg not Jlf))
  | _=>exact absurd (show false=true from b) Bool.false_ne_true
 | byt i =>
  obtain⟨t,rfl⟩:=c
  cases y with
  | byt j=>obtain⟨t',rfl⟩:=a;exact PySem.W.ne_bytes (J1e I q (congrArg not Jlh))
  | _=>exact absurd (show false=true from b) Bool.false_ne_true
 | _=>cases y <;> exact absurd (show false=true from b) Bool.false_ne_true
theorem J9l:OpR X (compareOp .Lt) (rI0 fun i j=>.bl (decide (i<j))):=opB0 fun _ _ _ _ _ _ _ q=>lt_int q
theorem op_le:OpR X (compareOp .LtE) (rI0 fun i j=>.bl (decide (i<=j))):=opB0 fun _ _ _ _ _ _ _ q=>le_int q
theorem J73:OpR X (compareOp .Gt) (rI0 fun i j=>.bl (decide (j<i))):=opB0 fun _ _ _ _ _ _ _ q=>gt_int q
theorem Jrf:OpR X (compareOp .GtE) (rI0 fun i j=>.bl (decide (j<=i))):=opB0 fun _ _ _ _ _ _ _ q=>ge_int q
theorem op_isN:OpR X (compareOp .Is) (fun x y H Q=>y=.non/\Q (.bl (decide (x=.non))) H):=by
 intro pins s σ H x y v u Q I a b h;obtain⟨rfl,q⟩:=h;cases b;refine is_none_gen (J1e I q ?_);cases x <;> first
  | (cases a;rfl)
  | (obtain⟨t,rfl⟩:=a;rfl)
theorem Jrc:OpR X (compareOp .IsNot) (fun x y H Q=>y=.non/\Q (.bl (!decide (x=.non))) H):=by
 intro pins s σ H x y v u Q I a b h;obtain⟨rfl,q⟩:=h;cases b;refine isnot_none_gen (J1e I q ?_);cases x <;> first
  | (cases a;rfl)
  | (obtain⟨t,rfl⟩:=a;rfl)
theorem Jp(b:Expr)(h:op≠.In:=by decide)(d:op≠.NotIn:=by decide):behindInMarks op b=false:=by
 have c:(op==CmpOp.In)=false:=by grind
 have a:(op==CmpOp.NotIn)=false:=by grind
 cases b <;> simp[behindInMarks,c,a]
theorem J4w(f:OpR X (compareOp op) r)(i:PE X a ta)(hb:PE X b tb)(g:behindInMarks op b=false):PE X (.Compare a [op] [b] pos) (tOp r ta tb):=by
 intro pins s σ H Q I h;exact wpAny_Compare1 (binT i hb I h fun v u c x y l j e d q=>f pins c σ l x y v u Q j e d q) g
inductive tTestR(Q:Bool->Hp->Prop)(x:V)(a:Hp):Prop
 | mk(k:_)(_:x=.bl k)(_:Q k a)
noncomputable def tTest(t:TE):TT:=fun σ H Q=>t σ H fun x a=>tTestR Q x a
theorem Jl(p:OpR X (compareOp op) r)(w:PE X a ta)(hb:PE X b tb)(q:behindInMarks op b=false):PT X (.Compare a [op] [b] pos) (tTest (tOp r ta tb)):=by
 intro pins s σ H Q I h;refine wpAny_isTrue_Compare1 (thn (w pins s σ H _ I h) fun v g d=>?_) q;obtain⟨x,F,C,l,o⟩:=d;refine thn (hb pins g σ F _ C o) fun u f d=>?_;obtain⟨y,E,B,j,n⟩:=d;refine thn (p pins f σ E x y v u _ B l j n) fun c G d=>?_;obtain⟨z,D,A,i,k,e,m⟩:=d;subst e;cases i;exact wpAny_truthy_bool ⟨D,A,m⟩
noncomputable def TruV(K:Frag)(x:V)(H:Hp)(k:Bool):Prop:=
 match x with
 | .non=>k=false
 | .bl b=>k=b
 | .int i=>k=(i != 0)
 | .str y=>y.length<=sizeLine/\k=((y.length:Int) != 0)
 | .byt y=>y.size<=sizeLine/\k=((y.size:Int) != 0)
 | .ref p=>(∃xs,SqL K H p xs/\k=!xs.isEmpty)\/(∃xs,SqT K H p xs/\k=!xs.isEmpty)\/∃kvs,H p=some (.dK kvs)/\k=!kvs.isEmpty
 | _=>False
theorem Jhj(r:KV kvs vs):(!vs.isEmpty)=!kvs.isEmpty:=by
 cases r <;> rfl
theorem Ja3(r:Vals xs its):(!its.toArray.isEmpty)=!xs.isEmpty:=by
 cases r <;> simp
theorem Ja2:(sizeLine:Nat)<2^63:=by decide
theorem tru_ok:TruR X (fun x H Q=>∃k,TruV X.K x H k/\Q k H):=by
 intro pins s σ H x v Q I d h;obtain⟨k,e,q⟩:=h;have o:=Ja2;have n:=sizeLine_eq
 cases x with
 | non =>
  cases d;have a:=e;subst a;exact truthy_none ⟨H,I,q⟩
 | bl b =>
  cases d;have a:=e;subst a;exact wpAny_truthy_bool ⟨H,I,q⟩
 | int i =>
  obtain⟨t,rfl⟩:=d;have a:=e;subst a;exact PySem.P.truthy_int ⟨H,I,q⟩
 | str y =>
  obtain⟨t,rfl⟩:=d;obtain⟨j,a⟩:y.length<=sizeLine/\k=((y.length:Int) != 0):=e;subst a;exact PySem.P.truthy_str (by lia) ⟨H,I.tok _,q⟩
 | byt y =>
  obtain⟨t,rfl⟩:=d;obtain⟨j,a⟩:y.size<=sizeLine/\k=((y.size:Int) != 0):=e;subst a;exact PySem.W.truthy_bytes (by lia) ⟨H,I.tok _,q⟩
 | ref p =>
  cases d;have a:(∃xs,SqL X.K H p xs/\k=!xs.isEmpty)\/(∃xs,SqT X.K H p xs/\k=!xs.isEmpty)\/∃kvs,H p=some (.dK kvs)/\k=!kvs.isEmpty:=e;rcases a with⟨xs,hx,a⟩|⟨xs,hx,a⟩|⟨kvs,hx,a⟩
  ·subst a;obtain⟨f,r,pl,g⟩:=I.list hx;have c:=r.length;exact wpAny_truthy_list pl.isList (by simp only[size_toArray];lia) ⟨H,I.tok _,by rw[Ja3 r];exact q⟩
  ·subst a;obtain⟨f,r,pl,g⟩:=I.tuple hx;have c:=r.length;exact truthy_tuple pl (by simp only[size_toArray];lia) ⟨H,I.tok _,by rw[Ja3 r];exact q⟩
  ·subst a;obtain⟨g,l,vs,r,m⟩:kvs.length<=sizeLine/\(p==sysModules)=false/\∃vs,KV kvs vs/\s.heap.DictOf (J27 X.prog X.w) p vs:=I.hok p _ hx;have c:kvs.length=vs.length:=Paired.length r;exact wpAny_truthy_dict l m (by lia) ⟨H,I.tok _,by rw[Jhj r];exact q⟩
 | _=>exact(show False from e).elim
theorem Jnd(g:PE X a ta)(f:∀whole,isTrue a X.env whole=(do let v <- whole;standAt a.pos;holding [v] (truthy v))):
  PT X a (fun σ H Q=>ta σ H fun x b=>∃k,TruV X.K x b k/\Q k b):=by
 intro pins s σ H Q I h;exact isTrue_plain (thn (g pins s σ H _ I h) fun v c i=>by obtain⟨x,l,j,d,e⟩:=i;exact tru_ok pins c σ l x v Q j d e) (f _)
theorem J6v(r:Vals [x] us):∃u,us=[u]/\RelV x u:=by
 cases r with
 | cons r1 r2=>cases r2;exact⟨_,rfl,r1⟩
theorem Jm0(r:Vals [x,y] us):∃u a,us=[u,a]/\RelV x u/\RelV y a:=by
 cases r with
 | cons r1 r2 =>
  cases r2 with
  | cons r3 r4=>cases r4;exact⟨_,_,rfl,r1,r3⟩
theorem Jp0:J3w X (.builtin "abs") (fun xs H Q=>∃i,xs=[.int i]/\Q (.int (if i<0 then -i else i)) H):=by
 intro pins s σ H xs us Q I r h;obtain⟨i,rfl,q⟩:=h;obtain⟨u,rfl,t,rfl⟩:=J6v r;exact call_abs_int fun u tk=>⟨.int (if i<0 then -i else i),H,I.tok _,⟨_,rfl⟩,q⟩
theorem Jls(b:X.calm=true):J3w X (.builtin "max") (fun xs H Q=>∃i j,xs=[.int i,.int j]/\Q (.int (if j>i then j else i)) H):=by
 intro pins s σ H xs us Q I r h;obtain⟨i,j,rfl,q⟩:=h;obtain⟨u,c,rfl,⟨t,rfl⟩,⟨t',rfl⟩⟩:=Jm0 r;refine max_two_ints (I.ok.hd b) fun h' tk k=>⟨_,H,I.kept k,?_,q⟩;by_cases a:j>i
 ·rw[if_pos a,if_pos a];exact⟨_,rfl⟩
 ·rw[if_neg a,if_neg a];exact⟨_,rfl⟩
theorem J9g(b:X.calm=true):J3w X (.builtin "min") (fun xs H Q=>∃i j,xs=[.int i,.int j]/\Q (.int (if j<i then j else i)) H):=by
 intro pins s σ H xs us Q I r h;obtain⟨i,j,rfl,q⟩:=h;obtain⟨u,c,rfl,⟨t,rfl⟩,⟨t',rfl⟩⟩:=Jm0 r;refine min_two_ints (I.ok.hd b) fun h' tk k=>⟨_,H,I.kept k,?_,q⟩;by_cases a:j<i
 ·rw[if_pos a,if_pos a];exact⟨_,rfl⟩
 ·rw[if_neg a,if_neg a];exact⟨_,rfl⟩
end
structure ObjM(h:Heap)(x dx C:Addr)(mA:Str->Option Value):Prop where
 obj:h.get? x=some (instObj C dx)
 ns:h.Ns1 dx mA
 ne:dx≠x
theorem Jk7{h:Heap}(n:h.Ns1 dx mA):∃c,h.get? dx=some c/\∀name,lookIn name c=some (mA name):=by
 obtain⟨o,d,ep,g,hd,j,_,i⟩:=n;refine⟨o,g,fun name=>?_⟩;have e:=i name;unfold nsFind findBy at e;rw[<- Array.find?_toList] at e;unfold lookIn;rw[hd];dsimp only;split
 ·rename_i y q;rw[q] at e;exact congrArg some e
 ·rename_i q;rw[q] at e;have a:d.toList.any (·.refKey)=false:=by
   rw[List.any_eq_false];intro y f;obtain⟨z,t,b⟩:=j y (Array.mem_toList_iff.mp f);simp[DictEntry.refKey,b]
  have l:¬ d.toList.any (·.refKey)=true:=by rw[a];exact Bool.false_ne_true
  rw[if_neg l];exact congrArg some e
theorem ObjM.look(I:ObjM h x dx C mA):∃a,PySem.W.InstAt h x (instObj C dx) C (some a)/\∀name,lookIn name a=some (mA name):=
 let ⟨a,ho,hl⟩:=Jk7 I.ns
 ⟨a,⟨I.obj,rfl,rfl,ho⟩,hl⟩
section
variable{prog:Program}{w:World}{A:Around}{E:Value->Shared->Prop}{s:Shared}{K:Frag}{x dx C f:Addr}{mA:Str->Option Value}{name:Str}{v:Value}
theorem Jsa(X:K.In s.heap)(I:ObjM s.heap x dx C mA)(e:plainGet K C name=true)(d:hasDictIn K C=true)(f:findIn K (.ref C) name=some none)(b:mA name=some v)(a:handedIn v=true)(h:Q v { s with toks:=s.toks+1 }):
  wpAny (model prog w) A (getAttr (.ref x) name expr) Q E s:=by
 obtain⟨g,J,c⟩:=I.look;exact PySem.W.get_value X J (plainGet_of e).1 (PySem.W.findObj_own d f rfl (by rw[c,b])) a h
theorem Joq(X:K.In s.heap)(I:ObjM s.heap x dx C mA)(a:plainGet K C name=true)(g:findIn K (.ref C) name=some (some (.ref f)))(d:isFn K (.ref f)=true)(c:mA name=none)(h:Q (.ref f,[.ref x]) s):
  wpAny (model prog w) A (getMethod (.ref x) name pl) Q E s:=by
 obtain⟨b,J,e⟩:=I.look;exact PySem.W.method_fn X J (plainGet_of a).1 (plainGet_of a).2 g (beq_iff_eq.mp d) (by show(lookIn name b).map (·.isSome)=some false;rw[e,c];rfl) h
theorem Jqi(X:K.In s.heap)(I:ObjM s.heap x dx C mA)(m:findIn K (.ref C) "__setattr__"=some (some (.builtin "object.__setattr__")))(n:plainOver K C=true)(l:takerIn K C name=some none)(o:hasDictIn K C=true)(hw:PySem.Within mA ns)(hsz:ns.length<=sizeLine)(h:∀h',ObjM h' x dx C (fun y=>if y=name then some v else mA y)->Heap.SameBut dx s.heap h'->Q () { s with heap:=h',toks:=s.toks+2 }):
  wpAny (model prog w) A (setAttr (.ref x) name v) Q E s:=by
 obtain⟨z,J,D⟩:=I.look;refine PySem.W.set_plain X J m (PySem.W.osa_open (s:={ s with toks:=s.toks+1 }) (r:=none) X J n l fun b=>?_);obtain⟨F,p,g⟩:=PySem.W.any_some o;have j:=I.obj;refine wpAny_bind (wpAny_pure (wpAny_bind (wpAny_bind (wpAny_loadPart j (wpAny_bind (PySem.W.Looks.here (s:={ s with toks:=s.toks+1 }) (PySem.W.looks_clsIn X p) ?_))))));rw[g];refine wpAny_pure (a:=some dx) (wpAny_bind (wpAny_pure (wpAny_bind ?_)));refine wpAny_nsSet1 (s:={ s with toks:=s.toks+1 }) I.ns fun h' d c=>?_;obtain⟨B,q,u,e,f,i⟩:=d.count (PySem.Within.cons name v hw);refine wpAny_bind (wpAny_lookBehind e (by rw[f];exact pastItsLine_dict (Nat.le_trans i (by grind))) ?_);exact wpAny_pure (h _ ⟨(c.2 _ (Ne.symm I.ne)).trans I.obj,d,I.ne⟩ c)
theorem Jod(X:K.In s.heap)(a:makesIn K C=true)(hi:findIn K (.ref C) "__init__"=some (some (.ref f)))(b:PySem.W.typeIn K (.ref f)=some (.type "function"))(h:codeAny (model prog w) (A.under (.builtin "type.__call__" ⟨.ref C::vs,kw⟩)) (.call (.ref f) ⟨.ref (s.heap.objs.size+1)::vs,kw⟩) (PySem.W.InitBack (s.heap.objs.size+1) R)
   { s with heap:=(s.heap.push emptyDict).push (instObj C s.heap.objs.size) }):
  codeAny (model prog w) A (.call (.ref C) ⟨vs,kw⟩) R s:=by
 exact PySem.W.make_core (PySem.W.makes_of X a) (PySem.W.looks_findIn X hi) (fun self=>PySem.W.bind_fn X self b) (.inl rfl) h
end
noncomputable def putF(f:Str)(v:V):List (Str×V)->List (Str×V)
 | []=>[(f,v)]
 | (g,x)::r=>if g=f then (g,v)::r else (g,x)::putF f v r
theorem J4g(f g:Str)(v:V):∀fs ,(putF f v fs).lookup g=if g=f then some v else fs.lookup g
 | []=>by
  show List.lookup g [(f,v)]=_;by_cases h:g=f
  ·have hb:=beq_iff_eq.mpr h;simp only[List.lookup,hb,if_pos h]
  ·have hb:=beq_eq_false_iff_ne.mpr h;simp only[List.lookup,hb,if_neg h]
 | (k,x)::r=>by
  have b:=J4g f g v r;rw[show putF f v ((k,x)::r)=(if k=f then (k,v)::r else (k,x)::putF f v r) from rfl];by_cases a:k=f
  ·rw[if_pos a];by_cases h:g=k
   ·have hb:=beq_iff_eq.mpr h;simp only[List.lookup,hb,if_pos (h.trans a)]
   ·have hb:=beq_eq_false_iff_ne.mpr h;simp only[List.lookup,hb,if_neg (fun e:g=f=>h (e.trans a.symm))]
  ·rw[if_neg a];by_cases h:g=k
   ·have hb:=beq_iff_eq.mpr h;simp only[List.lookup,hb,if_neg (fun e =>a (h.symm.trans e))]
   ·have hb:=beq_eq_false_iff_ne.mpr h;simp only[List.lookup,hb];exact b
theorem J8o(f:Str)(v:V):∀fs ,f∈(putF f v fs).map (·.1)/\∀g,g∈fs.map (·.1)->g∈(putF f v fs).map (·.1)
 | []=>⟨by simp[putF],fun g h=>by simp at h⟩
 | (k,x)::r=>by
  obtain⟨b,a⟩:=J8o f v r;rw[show putF f v ((k,x)::r)=(if k=f then (k,v)::r else (k,x)::putF f v r) from rfl]
  grind
theorem J1x(f:Str)(v:V):∀fs ,(putF f v fs).length<=fs.length+1
 | []=>by simp[putF]
 | (k,x)::r=>by
  have a:=J1x f v r;rw[show putF f v ((k,x)::r)=(if k=f then (k,v)::r else (k,x)::putF f v r) from rfl]
  grind
theorem RelO.some_of(r:RelO (some v) o):∃u,o=some u/\RelV v u:=by
 cases o with
 | none=>exact(show False from r).elim
 | some u=>exact⟨u,rfl,r⟩
theorem RelO.none_of(r:RelO none o):o=none:=by
 cases o with
 | none=>rfl
 | some u=>exact(show False from r).elim
theorem Jkr(r:RelV v u):handedIn u=true:=by
 cases v with
 | non=>cases (show u=Value.none from r);rfl
 | bl b=>cases (show u=Value.bool b from r);rfl
 | int i=>obtain⟨t,e⟩:=(show ∃t,u=Value.int i t from r);cases e;rfl
 | str x=>obtain⟨t,e⟩:=(show ∃t,u=Value.str x t from r);cases e;rfl
 | byt b=>obtain⟨t,e⟩:=(show ∃t,u=Value.bytes b t from r);cases e;rfl
 | flt b=>obtain⟨t,e⟩:=(show ∃t,u=Value.float b t from r);cases e;rfl
 | ref a=>cases (show u=Value.ref a from r);rfl
 | ty n=>cases (show u=Value.type n from r);rfl
section
variable{P:Program}{w:World}{H H':Hp}{h h':Heap}{a C dx:Addr}{fs fs':List (Str×V)}
theorem Jbe(hok:HOk P w H h)(e:H a=some (.ins C dx fs)):∃b,ObjM h a dx C b/\(∀f,RelO (fs.lookup f) (b f))/\PySem.Within b (fs.map (·.1))/\fs.length<=1000/\H dx=some (.own a):=by
 obtain⟨d,z,ne,c,b,n,r,q⟩:=(show J2j P w H h a (.ins C dx fs) from hok a _ e);exact⟨b,⟨c,n,ne⟩,r,q,z,d⟩
end
structure Cls(K:Frag)(C:Addr):Prop where
 pg:plainGet K C Str.empty=true
 hd:hasDictIn K C=true
 po:plainOver K C=true
 sa:findIn K (.ref C) "__setattr__"=some (some (.builtin "object.__setattr__"))
theorem Cls.get{K:Frag}(c:Cls K C)(f:Str):plainGet K C f=true:=c.pg
noncomputable def J18(K:Frag)(C:Addr)(f:Str):Prop:=findIn K (.ref C) f=some none
theorem J18.taker{K:Frag}(n:J18 K C f):takerIn K C f=some none:=by
 unfold takerIn;rw[show findIn K (.ref C) f=some none from n];rfl
structure Meth(K:Frag)(C:Addr)(m:Str)(f:Addr):Prop where
 at_:findIn K (.ref C) m=some (some (.ref f))
 fn:isFn K (.ref f)=true
 kp:keepIn K (.ref f)=true
section
variable{X:Cx}{pins:List (Addr×Obj)}{σ:St}{H:Hp}{s:Shared}{a C dx:Addr}{fs:List (Str×V)}{f:Str}{v:V}{A:Around}{E:Value->Shared->Prop}
theorem Jhk(I:Inv X pins σ H s)(e:H a=some (.ins C dx fs))(c:Cls X.K C)(n:J18 X.K C f)(l:fs.lookup f=some v)(h:∀u s',Inv X pins σ H s'->RelV v u->Q u s'):wpAny (model X.prog X.w) A (getAttr (.ref a) f b) Q E s:=by
 obtain⟨g,O,r,_,_,_⟩:=Jbe I.hok e;obtain⟨u,i,d⟩:=RelO.some_of (v:=v) (o:=g f) (by rw[<- l];exact r f);exact Jsa I.kIn O (c.get f) c.hd n i (Jkr d) (h u _ (I.tok _) d)
theorem Ja4(I:Inv X pins σ H s)(e:H a=some (.ins C dx fs))(c:Cls X.K C)(k:Meth X.K C m g)(l:fs.lookup m=none)(h:Q (.ref g,[.ref a]) s):wpAny (model X.prog X.w) A (getMethod (.ref a) m pl) Q E s:=by
 obtain⟨d,O,r,_,_,_⟩:=Jbe I.hok e;have b:=RelO.none_of (by rw[<- l];exact r m);exact Joq I.kIn O (c.get m) k.at_ k.fn b h
theorem Jgv(I:Inv X pins σ H s)(e:H a=some (.ins C dx fs))(c:Cls X.K C)(n:J18 X.K C f)(F:fs.length<1000)(p:RelV y u)(h:∀s',Inv X pins σ (upd H a (.ins C dx (putF f y fs))) s'->Q () s'):wpAny (model X.prog X.w) A (setAttr (.ref a) f u) Q E s:=by
 obtain⟨j,O,r,i,_,l⟩:=Jbe I.hok e;have v:(fs.map (·.1)).length<=sizeLine:=by rw[length_map,sizeLine_eq];lia
 refine Jqi I.kIn O c.sa c.po n.taker c.hd i v fun h' d m=>h _ ?_;have hd:∃o,h'.get? dx=some o:=by obtain⟨o,_,_,D,_⟩:=d.ns;exact⟨o,D⟩
 refine I.write (x:=a) (e:=dx) (by rw[e];exact True.intro) (.inr l) (fun b q hb z=>(m.2 b hb).trans z) hd ?_;refine⟨by rw[Jh O.ne];exact l,?_,O.ne,d.obj,_,d.ns,fun g=>?_,fun g B=>?_⟩
 ·have:=J1x f y fs;lia
 ·show RelO ((putF f y fs).lookup g) (if g=f then some u else j g);rw[J4g];by_cases q:g=f
  ·rw[if_pos q,if_pos q];exact p
  ·rw[if_neg q,if_neg q];exact r g
 ·by_cases q:g=f
  ·rw[q];exact(J8o f y fs).1
  ·refine(J8o f y fs).2 g (i g fun z=>B ?_);show(if g=f then some u else j g)=none;rw[if_neg q];exact z
theorem Inv.made(I:Inv X pins σ H s):Inv X pins σ (upd (upd H s.heap.objs.size (.own (s.heap.objs.size+1))) (s.heap.objs.size+1) (.ins C s.heap.objs.size []))
  { s with heap:=(s.heap.push emptyDict).push (instObj C s.heap.objs.size) }:=by
 have c:(s.heap.push emptyDict).get? s.heap.objs.size=some emptyDict:=get?_push_size s.heap rfl;have h:((s.heap.push emptyDict).push (instObj C s.heap.objs.size)).get? (s.heap.objs.size+1)=some (instObj C s.heap.objs.size):=by
  have:=get?_push_size (s.heap.push emptyDict) (o:=instObj C s.heap.objs.size) rfl;rwa [Heap.size_push] at this
 have g:(s.heap.push emptyDict).Ns s.heap.objs.size (fun _=>none):=⟨emptyDict,#[],_,c,rfl,(fun e f=>absurd f (by simp)),fun _=>rfl⟩;have i:=I.laid (a:=s.heap.objs.size) (o:=.own (s.heap.objs.size+1)) (h':=s.heap.push emptyDict) (t':=s.toks) (fun b u q=>get?_push_of_some _ q) (Nat.le_refl _) ⟨_,c⟩;refine i.laid (a:=s.heap.objs.size+1) (o:=.ins C s.heap.objs.size []) (t':=s.toks) (fun b u q=>get?_push_of_some _ q) (Nat.le_of_eq (Heap.size_push _ _)) ?_;have ne:s.heap.objs.size≠s.heap.objs.size+1:=Nat.ne_of_lt (Nat.lt_succ_self _);refine⟨by rw[Jh ne,J7],Nat.zero_le _,ne,h,fun _=>none,(Heap.Ns1.of_empty g).at fun o q=>get?_push_of_some _ q,fun _=>True.intro,fun y d=>absurd rfl d⟩
theorem Jsf(hb:attributeBase e f env (eval e env)=eval e env)(h:wpAny (model prog w) A (eval e env) (fun o a=>wpAny (model prog w) A (getAttr o f true) Q E a) E s):wpAny (model prog w) A (eval (.Attribute e f pos) env) Q E s:=
 Attribute_any_ h (by rw[arm_eval_Attribute,hb])
end
inductive tFldR(K:Frag)(f:Str)(Q:VK)(x:V)(b:Hp):Prop
 | mk(a C c fs v:_)(_:x=.ref a)(_:b a=some (.ins C c fs))(_:Cls K C)(_:J18 K C f)(_:fs.lookup f=some v)(_:Q v b)
noncomputable def tFld(K:Frag)(a:TE)(f:Str):TE:=fun σ H Q=>a σ H fun x b=>tFldR K f Q x b
inductive sFldR(K:Frag)(f:Str)(D:Ends)(σ:St)(y x:V)(c:Hp):Prop
 | mk(a C b fs:_)(_:x=.ref a)(_:c a=some (.ins C b fs))(_:Cls K C)(_:J18 K C f)(_:fs.length<1000)(_:D.nx σ (upd c a (.ins C b (putF f y fs))))
noncomputable def sFld(K:Frag)(b a:TE)(f:Str):TS:=fun D σ H=>a σ H fun y d=>b σ d fun x c=>sFldR K f D σ y x c
section
variable{X:Cx}{o e value:Expr}{f:Str}{pos pos' tpos:Pos}{ta tv:TE}
theorem Ja(g:PE X e ta)(hb:attributeBase e f X.env (eval e X.env)=eval e X.env:=by rfl):PE X (.Attribute e f pos) (tFld X.K ta f):=by
 intro pins s σ H Q I h;refine Jsf hb (thn (g pins s σ H _ I h) fun u y i=>?_);obtain⟨x,p,o,b,a,C,z,fs,v,ex,j,c,n,l,q⟩:=i;subst ex;obtain rfl:u=Value.ref a:=b;exact Jhk o j c n l fun r w m d=>⟨v,p,m,d,q⟩
theorem J1o(r:PE X o ta)(m:PE X value tv)(p:swapsWith value (some (.Attribute o f pos')) pos.line X.env=pure false):PS X (.Assign [.Attribute o f pos'] value pos) (sFld X.K ta tv f):=by
 intro pins s σ H D I h;refine plainObj_wpAny_Assign_Attribute (thn (m pins s σ H _ I h) fun u d b=>?_) p;obtain⟨y,B,A,e,q⟩:=b;refine thn (r pins d σ B _ A q) fun j F b=>?_;obtain⟨x,J,z,g,a,C,G,fs,ex,v,c,n,l,i⟩:=b;subst ex;obtain rfl:j=Value.ref a:=g;exact Jgv z v c n l e fun E w=>⟨σ,_,w,i⟩
end
section
variable{X:Cx}{pins:List (Addr×Obj)}{σ:St}{H:Hp}{s:Shared}{A:Around}{E Q:Value->Shared->Prop}{c:Value}{b:Bool}
inductive TyOf(K:Frag)(H:Hp):V->Value->Prop where
 | non:TyOf K H .non (.type "NoneType")
 | bl (x:Bool):TyOf K H (.bl x) (.type "bool")
 | int (i:Int):TyOf K H (.int i) (.type "int")
 | str (x:Str):TyOf K H (.str x) (.type "str")
 | flt (x:UInt64):TyOf K H (.flt x) (.type "float")
 | lst {a:Addr} {xs:List V} (e:H a=some (.lst xs)):TyOf K H (.ref a) (.type "list")
 | frz {a:Addr} {o:Obj} {xs:List V} (e:H a=some (.frz o (.lst xs))):TyOf K H (.ref a) (.type "list")
 | tup {a:Addr} {xs:List V} (e:H a=some (.tup xs)):TyOf K H (.ref a) (.type "tuple")
 | dK {a:Addr} {kvs:List (Key×V)} (e:H a=some (.dK kvs)):TyOf K H (.ref a) (.type "dict")
 | dT {a:Addr} {kvs:List (List Key×V)} (e:H a=some (.dT kvs)):TyOf K H (.ref a) (.type "dict")
 | ins {a C dx:Addr} {fs:List (Str×V)} (e:H a=some (.ins C dx fs)) (cl:Cls K C) (ha:findIn K (.ref C) "__class__"=some (some (.builtin "object.__class__")))
   (hn:specialIn K (.builtin "object.__class__") "__get__"=some (some (.builtin "getset_descriptor.__get__"))) (htk:takesIn K (.builtin "object.__class__")=some true)
   (hm:mroIn K C (.type "object")=some true):TyOf K H (.ref a) (.ref C)
theorem Jkm(I:Inv X pins σ H s)(d:RelV x u)(j:TyOf X.K H x t)(e:kitOne X.K t c=some b)(h:∀tk,Q (.bool b) { s with toks:=tk }):
  wpAny (model X.prog X.w) A (call (.builtin "isinstance") [u,c]) Q E s:=by
 cases j with
 | non=>cases (show u=Value.none from d);exact kia_one PySem.W.kitx_none I.kIn True.intro e (fun z=>nomatch z) h
 | bl y=>cases (show u=Value.bool y from d);exact kia_one PySem.W.kitx_bool I.kIn True.intro e (fun z=>nomatch z) h
 | int i=>obtain⟨t,q⟩:=(show ∃t,u=Value.int i t from d);cases q;exact kia_one PySem.W.kitx_int I.kIn True.intro e (fun z=>nomatch z) h
 | str y=>obtain⟨t,q⟩:=(show ∃t,u=Value.str y t from d);cases q;exact kia_one PySem.W.kitx_str I.kIn True.intro e (fun z=>nomatch z) h
 | flt y=>obtain⟨t,q⟩:=(show ∃t,u=Value.float y t from d);cases q;exact kia_one PySem.W.kitx_float I.kIn True.intro e (fun z=>nomatch z) h
 | @lst a xs ea =>
  cases (show u=Value.ref a from d);obtain⟨_,_,n,_,f⟩:=(show J2j X.prog X.w H s.heap a (.lst xs) from I.hok a _ ea);exact kia_one PySem.W.kitx_list I.kIn ⟨_,f,rfl⟩ e (fun z=>nomatch z) h
 | @frz a ob xs ea =>
  cases (show u=Value.ref a from d);obtain⟨_,_,_,n,_,f⟩:=(show J2j X.prog X.w H s.heap a (.frz ob (.lst xs)) from I.hok a _ ea);exact kia_one PySem.W.kitx_list I.kIn ⟨_,f,rfl⟩ e (fun z=>nomatch z) h
 | @tup a xs ea =>
  cases (show u=Value.ref a from d);obtain⟨_,_,_,p⟩:=(show J2j X.prog X.w H s.heap a (.tup xs) from I.hok a _ ea);obtain⟨o,f,g,_⟩:=p;exact kia_one PySem.W.kitx_tuple I.kIn ⟨o,f,g.1⟩ e (fun z=>nomatch z) h
 | @dK a kvs ea =>
  cases (show u=Value.ref a from d);obtain⟨_,_,vs,_,p⟩:=(show J2j X.prog X.w H s.heap a (.dK kvs) from I.hok a _ ea);obtain⟨o,l,ep,f,g,_⟩:=p;exact kia_one PySem.W.kitx_dict I.kIn ⟨o,f,g.1⟩ e (fun z=>nomatch z) h
 | @dT a kvs ea =>
  cases (show u=Value.ref a from d);obtain⟨_,_,xs,_,o,l,ep,f,g,_⟩:=(show J2j X.prog X.w H s.heap a (.dT kvs) from I.hok a _ ea);exact kia_one PySem.W.kitx_dict I.kIn ⟨o,f,g.1⟩ e (fun z=>nomatch z) h
 | @ins a C dx fs ea cl ha hn htk hm =>
  cases (show u=Value.ref a from d);obtain⟨r,O,_⟩:=Jbe I.hok ea;obtain⟨m,J,_⟩:=O.look;exact kia_one (PySem.W.kitx_own (cl.get _) cl.hd ha hn htk hm) I.kIn J e (fun z=>nomatch z) h
end
structure Room(k:Nat)(A:Around):Prop where
 hd:A.handled=none
 dp:A.depth+3*k+5<recursionLimit
 un:A.units+16*k+200<cLine
theorem Room.mono(r:Room k A)(h:j<=k):Room j A:=⟨r.hd,by have:=r.dp;lia,by have:=r.un;lia⟩
theorem Room.deeper(r:Room (k+1) A)(env:Env):Room k (A.deeper env):=
 ⟨r.hd,by have:=r.dp;show A.depth+1+3*k+5<_;lia,by have:=r.un;show A.units+3+16*k+200<_;lia⟩
theorem Room.in1{k:Nat}{A:Around}(r:Room (k+1) A):Room k A.in1:=
 ⟨r.hd,by have:=r.dp;show A.depth+3*k+5<_;lia,by have:=r.un;show A.units+1+16*k+200<_;lia⟩
theorem Jhe{A:Around}:(A.under (.builtin "type.__call__" ⟨.ref C::us,kw⟩)).depth=A.depth+1:=by
 rfl
theorem Jhd{A:Around}:(A.under (.builtin "type.__call__" ⟨.ref C::us,kw⟩)).units=A.units+1:=by
 rfl
theorem Room.make(r:Room (k+1) A)(C:Addr)(us:List Value)(a:List (Str×Value)):Room k (A.under (.builtin "type.__call__" ⟨.ref C::us,a⟩)) :=
 ⟨r.hd,by have:=r.dp;rw[Jhe];lia,by have:=r.un;rw[Jhd];lia⟩
theorem Room.depth(r:Room k A):A.depth<recursionLimit:=by have:=r.dp;lia
theorem Room.units(r:Room k A):A.units+64<cLine:=by have:=r.un;lia
theorem Room.units0(r:Room k A):A.units<cLine:=by have:=r.un;lia
noncomputable def tNil:TA:=fun _ H Q=>Q [] H
noncomputable def Jm3(b:TE)(a:TA):TA:=fun σ H Q=>b σ H fun x d=>a σ d fun xs c=>Q (x::xs) c
section
variable{X:Cx}{e:Expr}{es:List Expr}{te:TE}{t:TA}{pos:Pos}
theorem J3:PA X [] tNil:=fun _ _ _ _ H Q I h=>Calls.spliced_nil ⟨[],H,I,.nil,h⟩
theorem J0(l:PE X e te)(j:PA X es t)(i:starEach (e::es) X.env=(false,eval e X.env)::starEach es X.env:=by rfl):PA X (e::es) (Jm3 te t):=by
 intro pos pins s σ H Q I h;rw[i];refine Calls.spliced_cons (thn (l pins s σ H _ I h) fun u b a=>?_);obtain⟨x,p,n,d,g⟩:=a;exact thn (j pos pins b σ p _ n g) fun us q a=>by obtain⟨xs,o,m,c,f⟩:=a;exact⟨x::xs,o,m,.cons d c,f⟩
noncomputable def tTup(t:TA):TE:=fun σ H Q=>t σ H fun xs a=>xs.length<=sizeLine/\∀p,a p=none->Q (.ref p) (upd a p (.tup xs))
noncomputable def tLst(t:TA):TE:=fun σ H Q=>t σ H fun xs a=>xs.length<=sizeLine/\∀p,a p=none->Q (.ref p) (upd a p (.lst xs))
theorem J2g(h:PA X es t):PE X (.Tuple es x1 pos) (tTup t):=by
 intro pins s σ H Q I d;refine wpAny_Tuple_spliced (thn (h pos pins s σ H _ I d) fun us a g=>?_);obtain⟨xs,i,c,r,z,q⟩:=g;refine⟨by rw[<- r.length];exact z,?_⟩;have f:=c.hok.fresh (Nat.le_refl _);refine⟨.ref a.heap.objs.size,upd i a.heap.objs.size (.tup xs),c.laid (t':=a.toks) (fun b u e=>get?_push_of_some _ e) (Nat.le_refl _) ?_,rfl,q _ f⟩;exact⟨z,us,r,⟨_,get?_push_size _ rfl,⟨rfl,rfl⟩,_,rfl⟩⟩
theorem J2h(h:PA X es t):PE X (.List es pos) (tLst t):=by
 intro pins s σ H Q I d;refine wpAny_List_spliced (thn (h pos pins s σ H _ I d) fun us a g=>?_);obtain⟨xs,i,c,r,z,q⟩:=g;refine⟨by rw[<- r.length];exact z,?_⟩;have f:=c.hok.fresh (Nat.le_refl _);refine⟨.ref a.heap.objs.size,upd i a.heap.objs.size (.lst xs),c.laid (t':=a.toks) (fun b u e=>get?_push_of_some _ e) (Nat.le_refl _) ?_,rfl,q _ f⟩;exact⟨z,us,0,r,get?_push_size _ rfl⟩
end
noncomputable abbrev Sp:=List V->Hp->VK->XK->Prop
noncomputable abbrev CXT:=List Env->Hp->Shared->XK->Value->Shared->Prop
structure Env0(P:Program)(w:World)(K:Frag)(mg:Str->Option Value)(base:Heap)(A:Around)(outer:List Env)(s:Shared)(H:Hp):Prop where
 frames:A.frames=some outer
 mod:Mod K mg base
 bs:∀b o,base.get? b=some o->s.heap.get? b=some o/\H b=none
 bsz:base.objs.size<=s.heap.objs.size
 funs:s.heap.FunFrames base outer
 frf:∀b∈frs outer,H b=none
 hok:HOk P w H s.heap
 bare:AllBare s.gens
noncomputable def CE(outer:List Env)(P:Program)(w:World)(H:Hp)(s:Shared)(Q:VK)(u:Value)(s':Shared):Prop:=
 ∃v a,s'.os=s.os/\AllBare s'.gens/\Un (frs outer) [] H a s.heap s'.heap/\HOk P w a s'.heap/\RelV v u/\Q v a
noncomputable def CR(CX:CXT)(outer:List Env)(P:Program)(w:World)(H:Hp)(s:Shared)(Q:VK)(E:XK)(r:Result)(s':Shared):Prop:=
 match r with
 | .ok (.ret u)=>CE outer P w H s Q u s'
 | .ok _=>False
 | .error e=>CX outer H s E e s'
structure FnOk(P:Program)(w:World)(K:Frag)(mg:Str->Option Value)(base:Heap)(CX:CXT)(k:Nat)(f:Addr)(fd:FuncData)(ps:List Str)(sp:Sp):Prop where
 len:∀vs H Q E,sp vs H Q E->vs.length=ps.length
 run:∀(A:Around) (outer:List Env) (s:Shared) (H:Hp) (args:Args) (us:List Value) (vs:List V) (Q:VK) (E:XK),Room k A->Env0 P w K mg base A outer s H->BindsTo s fd args (ps.zip us)->Vals vs us->sp vs H Q E->
  codeAny (model P w) A (.call (.ref f) args) (CR CX outer P w H s Q E) s
theorem Env0.make{K:Frag}(e:Env0 P w K mg base A outer s H)(C:Addr)(us:List Value)(a:List (Str×Value)):
  Env0 P w K mg base (A.under (.builtin "type.__call__" ⟨.ref C::us,a⟩)) outer s H:=⟨by first|exact e.frames|grind,e.mod,e.bs,e.bsz,e.funs,e.frf,e.hok,e.bare⟩
theorem Env0.in1{P:Program}{w:World}{K:Frag}{mg:Str->Option Value}{base:Heap}{A:Around}{outer:List Env}{s:Shared}{H:Hp}(e:Env0 P w K mg base A outer s H):
  Env0 P w K mg base A.in1 outer s H:=⟨e.frames,e.mod,e.bs,e.bsz,e.funs,e.frf,e.hok,e.bare⟩
section
variable{X:Cx}{pins:List (Addr×Obj)}{σ:St}{H:Hp}{s s':Shared}
theorem Inv.env0(I:Inv X pins σ H s):Env0 X.prog X.w X.K X.mg X.base X.A X.stack s H:=
 ⟨I.ok.frames,I.ok.mod,I.bs,Nat.le_trans I.ok.bsz I.sz,I.stack,I.stkFree,I.hok,I.bare⟩
theorem Inv.after(I:Inv X pins σ H s)(h:CE X.stack X.prog X.w H s Q u s'):EP X pins σ Q u s':=by
 obtain⟨v,e,os,bare,un,hok,r,q⟩:=h;obtain⟨c,g,d,t,a⟩:=s';obtain rfl:a=s.os:=os;exact⟨v,e,I.call (h':=c) (g':=g) (d':=d) (t':=t) (ch:=[]) un hok bare (fun b z=>absurd z (by simp)),r,q⟩
end
noncomputable def Jm4(sp:Sp)(dvs:List V)(E:XK)(t:TA):TE:=fun σ H Q=>t σ H fun vs a=>sp (vs++dvs) a Q E
noncomputable def tMake(C:Addr)(sp:Sp)(dvs:List V)(E:XK)(t:TA):TE:=fun σ H Q=>t σ H fun vs b=>∀x a,b x=none->b a=none->a≠x->
 sp (.ref x::(vs++dvs)) (upd (upd b a (.own x)) x (.ins C a [])) (fun v c=>v=.non/\Q (.ref x) c) E
noncomputable def J2z(K:Frag)(fd:FuncData)(ps:List Str)(a:List Value):Prop:=
 ∀(s:Shared) (us:List Value),K.In s.heap->(us++a).length=ps.length->BindsTo s fd ⟨us,[]⟩ (ps.zip (us++a))
theorem J2z.all{K:Frag}(h:∀us ,us.length=ps.length->bindArgs fd ⟨us,[]⟩=pure (ps.zip us)):J2z K fd ps []:=fun s us _ a=>by
 rw[append_nil] at a ⊢;exact .of_eq (h us a)
noncomputable def J46(CX:CXT)(X:Cx)(E:XK):Prop:=∀(pins:List (Addr×Obj)) (σ:St) (H:Hp) (s:Shared) (e:Value) (s':Shared),Inv X pins σ H s->CX X.stack H s E e s'->X.xe e s'
section
variable{X:Cx}{CX:CXT}{k:Nat}{f C:Addr}{fd:FuncData}{ps:List Str}{sp:Sp}{dvs:List V}{ds:List Value}{E:XK}{x m:Str}{p pos apos:Pos}{e o:Expr}{es:List Expr}{ta:TE}{t:TA}
theorem Jfk(F:FnOk X.prog X.w X.K X.mg X.base CX k f fd ps sp)(d:Room k X.A)(hb:J2z X.K fd ps ds)(hd:Vals dvs ds)(c:J46 CX X E)(I:Inv X pins σ H s)(r:Vals vs us)(h:sp (vs++dvs) H Q E):wpAny (model X.prog X.w) X.A (call (.ref f) us) (EP X pins σ Q) X.xe s:=by
 have b:=r.append hd;have g:(us++ds).length=ps.length:=by rw[<- b.length];exact F.len _ _ _ _ h
 refine wpAny_call (codeAny_mono (F.run X.A X.stack s H ⟨us,[]⟩ (us++ds) (vs++dvs) Q E d I.env0 (hb s us I.kIn g) b h) fun r s' a=>?_)
 cases r with
 | error e=>exact c pins σ H s e s' I a
 | ok fl =>
  cases fl with
  | ret u=>exact I.after a
  | next=>exact False.elim a
  | brk=>exact False.elim a
  | cont=>exact False.elim a
theorem Jra(F:FnOk X.prog X.w X.K X.mg X.base CX k f fd ps sp)(g:Room k X.A)(l:Gl X x)(i:X.mg x=some (.ref f))(j:keepIn X.K (.ref f)=true)(hb:J2z X.K fd ps ds)(hd:Vals dvs ds)(d:J46 CX X E)(n:PA X (e::es) t)(b:(x==("__debug__":Str))=false:=by decide)(m:starEach (e::es) X.env=(false,eval e X.env)::starEach es X.env:=by rfl)(a:(backTo pos (starEach es X.env)).any (·.1)=false:=by rfl):
  PE X (.Call (.Name x p) (e::es) [] pos) (Jm4 sp dvs E t):=by
 intro pins s σ H Q I h;refine wpAny_Call_Name_kw (J5w I l i ?_ b);refine callWith_K (h₀:=X.base) I.ok.mod.kin j (thn (n pos pins s σ H _ I h) fun us u o=>?_) m a;obtain⟨vs,v,c,r,q⟩:=o;refine⟨c.kIn,?_⟩;exact Jfk F g hb hd d c r q
structure Mk(K:Frag)(C f:Addr):Prop where
 makes:makesIn K C=true
 init:findIn K (.ref C) "__init__"=some (some (.ref f))
 fn:isFn K (.ref f)=true
 kp:keepIn K (.ref C)=true
theorem Jn0{pins:List (Addr×Obj)}{σ:St}{H:Hp}{s:Shared}{Q:VK}{us:List Value}{vs:List V}(M:Mk X.K C f)(F:FnOk X.prog X.w X.K X.mg X.base CX k f fd ps sp)(m:Room (k+1) X.A)(hb:J2z X.K fd ps ds)(hd:Vals dvs ds)(l:J46 CX X E)(I:Inv X pins σ H s)(r:Vals vs us)(h:∀x b,H x=none->H b=none->b≠x->sp (.ref x::(vs++dvs)) (upd (upd H b (.own x)) x (.ins C b [])) (fun v q=>v=.non/\Q (.ref x) q) E):
  wpAny (model X.prog X.w) X.A (call (.ref C) us) (EP X pins σ Q) X.xe s:=by
 have g:=h (s.heap.objs.size+1) s.heap.objs.size (I.hok.fresh (Nat.le_succ _)) (I.hok.fresh (Nat.le_refl _)) (Nat.ne_of_lt (Nat.lt_succ_self _));have c:=Inv.made (C:=C) I;have d:Vals (V.ref (s.heap.objs.size+1)::(vs++dvs)) (Value.ref (s.heap.objs.size+1)::(us++ds)):=.cons rfl (r.append hd);have n:(Value.ref (s.heap.objs.size+1)::us++ds).length=ps.length:=by
  have e:=d.length;rw[F.len _ _ _ _ g] at e;exact e.symm
 refine wpAny_call (Jod (f:=f) I.kIn M.makes M.init (beq_iff_eq.mp M.fn) (codeAny_mono (F.run _ X.stack _ _ ⟨Value.ref (s.heap.objs.size+1)::us,[]⟩ (Value.ref (s.heap.objs.size+1)::(us++ds)) _ _ E (m.make C us [])
  (c.env0.make C us []) (hb _ (Value.ref (s.heap.objs.size+1)::us) c.kIn n) d g) fun r s' a=>?_))
 cases r with
 | error e=>exact l pins σ _ _ e s' c a
 | ok fl =>
  cases fl with
  | ret u =>
   obtain⟨v,y,p,i,o,j⟩:=c.after a;subst o;exact⟨i,⟨V.ref (s.heap.objs.size+1),y,p,rfl,j⟩⟩
  | next=>exact False.elim a
  | brk=>exact False.elim a
  | cont=>exact False.elim a
theorem J5r(M:Mk X.K C f)(F:FnOk X.prog X.w X.K X.mg X.base CX k f fd ps sp)(g:Room (k+1) X.A)(j:Gl X x)(i:X.mg x=some (.ref C))(hb:J2z X.K fd ps ds)(hd:Vals dvs ds)(d:J46 CX X E)(m:PA X (e::es) t)(b:(x==("__debug__":Str))=false:=by decide)(l:starEach (e::es) X.env=(false,eval e X.env)::starEach es X.env:=by rfl)(a:(backTo pos (starEach es X.env)).any (·.1)=false:=by rfl):
  PE X (.Call (.Name x p) (e::es) [] pos) (tMake C sp dvs E t):=by
 intro pins s σ H Q I h;refine wpAny_Call_Name_kw (J5w I j i ?_ b);refine callWith_K (h₀:=X.base) I.ok.mod.kin M.kp (thn (m pos pins s σ H _ I h) fun us o n=>?_) l a;obtain⟨vs,u,c,r,q⟩:=n;refine⟨c.kIn,?_⟩;exact Jn0 M F g hb hd d c r q
end
structure Jr(N P:List Str)(sc:Scope):Prop where
 kind:sc.kind=.function
 co:sc.isCoroutine=false
 gen:sc.isGenerator=false
 nd:N.Nodup
 pre:N.take P.length=P
 par:∀x∈P,sc.names.lookup x=some .local\/sc.names.lookup x=some .cell
 nofree:∀y∈sc.names,y.2≠.free
theorem Jd6{b:Str->Option NameKind}:∀{a:List (Str×Value)} {m:Str->Option Value},(∀v,(x,v) ∉ a)->bindL b a m x=m x
 | [],_,_=>rfl
 | (n,v)::r,m,h=>by
  unfold bindL;rw[Jd6 fun w hw=>h w (mem_cons_of_mem _ hw)];split
  ·have:x≠n:=by rintro rfl;exact h v mem_cons_self
   simp[this]
  ·rfl
theorem Jd8{b:Str->Option NameKind}:∀{a:List (Str×Value)} {m:Str->Option Value},(∀v,(x,v) ∉ a)->bindC b a m x=m x
 | [],_,_=>rfl
 | (n,v)::r,m,h=>by
  unfold bindC;rw[Jd8 fun w hw=>h w (mem_cons_of_mem _ hw)];split
  ·rfl
  ·have:x≠n:=by rintro rfl;exact h v mem_cons_self
   simp[this]
theorem Jd7{a:Str->Option NameKind}:∀{P:List Str} {vs:List Value} {i:Nat} {m:Str->Option Value},P.Nodup->P[i]?=some x->vs[i]?=some v->a x=some .local->
  bindL a (P.zip vs) m x=some v
 | [],_,_,_,_,h,_,_=>by simp at h
 | _::_,[],_,_,_,_,h,_=>by simp at h
 | p::P,w::vs,0,m,nd,h1,h2,hk=>by
  simp at h1 h2;subst h1;subst h2;show bindL a ((p,w)::P.zip vs) m p=_;unfold bindL;rw[Jd6 fun v b=>(nodup_cons.mp nd).1 (List.of_mem_zip b).1,if_pos hk];simp
 | p::P,w::vs,i+1,m,nd,h1,h2,hk=>by
  show bindL a ((p,w)::P.zip vs) m x=_;exact Jd7 (i:=i) (nodup_cons.mp nd).2 (by simpa using h1) (by assumption) hk
theorem Jd9{a:Str->Option NameKind}:∀{P:List Str} {vs:List Value} {i:Nat} {m:Str->Option Value},P.Nodup->P[i]?=some x->vs[i]?=some v->a x≠some .local->
  bindC a (P.zip vs) m x=some v
 | [],_,_,_,_,h,_,_=>by simp at h
 | _::_,[],_,_,_,_,h,_=>by simp at h
 | p::P,w::vs,0,m,nd,h1,h2,hk=>by
  simp at h1 h2;subst h1;subst h2;show bindC a ((p,w)::P.zip vs) m p=_;unfold bindC;rw[Jd8 fun v b=>(nodup_cons.mp nd).1 (List.of_mem_zip b).1,if_neg hk];simp
 | p::P,w::vs,i+1,m,nd,h1,h2,hk=>by
  show bindC a ((p,w)::P.zip vs) m x=_;exact Jd9 (i:=i) (nodup_cons.mp nd).2 (by simpa using h1) (by assumption) hk
noncomputable def start(N:List Str)(vs:List V):St:=vs.map some++replicate (N.length-vs.length) none
noncomputable def cxOf(CX:CXT)(P:Program)(w:World)(K:Frag)(mg:Str->Option Value)(base:Heap)(N:List Str)(qual:Str)(a:Scope)(f:Addr)(c:Value)(A:Around)(outer:List Env)(s:Shared)(H:Hp)(E:XK):Cx where
 prog:=P
 w:=w
 K:=K
 mg:=mg
 base:=base
 A:=A.deeper (envOfC qual a s.heap.objs.size f c)
 N:=N
 s₀:=s
 H₀:=H
 env:=envOfC qual a s.heap.objs.size f c
 outer:=outer
 stack:=envOfC qual a s.heap.objs.size f c::outer
 ex:=[]
 calm:=true
 fn:=fun _=>true
 pn:=[]
 xe:=fun e s'=>wpAny (model P w) (A.deeper (envOfC qual a s.heap.objs.size f c)) (leaving (envOfC qual a s.heap.objs.size f c) e) (fun _ b=>CX outer H s E e b) (fun d b=>CX outer H s E d b) s'
theorem Jgj{a:Scope}(h:a.names.lookup x=some .cell):∃c,(cellsFrom n a.names []).lookup x=some c:=by
 have q:=PySem.W.cellsFrom_some a.names n [] (.inl h);exact isSome_iff_exists.mp q
theorem Jkn{K:Frag}(S:Jr N ps scope)(hd:A.handled=none)(g:Env0 P w K mg base A outer s H)(J:vs.length=ps.length)(r:Vals vs us)(x:InCallC s s.heap.objs.size (bindL (envOfC qual scope s.heap.objs.size f cd).kindOf (ps.zip us) fun _=>none) (cellsFrom (s.heap.objs.size+1) scope.names []) (bindC (envOfC qual scope s.heap.objs.size f cd).kindOf (ps.zip us) fun _=>none) s1):
  Inv (cxOf CX P w K mg base N qual scope f cd A outer s H E) [] (start N vs) H s1:=by
 have G:ps.length<=N.length:=by have:=congrArg List.length S.pre;rw[length_take] at this;lia
 obtain⟨B,tk,rfl,D⟩:=x.done;have j:∀b ,b ∉ (cxOf CX P w K mg base N qual scope f cd A outer s H E).ex:=fun b z=>absurd (show b∈([]:List Addr) from z) (by simp);refine⟨⟨g.mod,S.kind,rfl,rfl,Nat.le_refl _,fun y z c B d=>?_,fun y l=>?_,fun y c _ h=>?_,fun _=>hd,Around.frames_deeper g.frames,.inr ⟨rfl,rfl⟩,fun b z=>absurd z (j b),g.bs,g.bsz,fun b _ _=>j b,fun b z=>absurd z (j b),g.funs,g.frf⟩,
  rfl,g.bare,Un.kept D,⟨_,x.toInCall.ns,fun i y v B d L=>?_⟩,fun y c h=>⟨_,x.cell y c h⟩,g.hok.fresh (Nat.le_refl _),fun y c h=>?_,fun p o=>absurd (show p∈([]:List (Addr×Obj)) from o) (by simp),g.hok.kept D,?_⟩
 ·exact name_of_addr x.apart (mem_of_lookup B) (mem_of_lookup d)
 ·have l:=l;rcases l with l|l
  ·exact Jgj l
  ·exact absurd rfl (S.nofree _ (mem_of_lookup l))
 ·exact Nat.le_of_lt (x.above y c (mem_of_lookup h))
 ·have hi:i<vs.length:=by
   unfold start at d;by_cases hi:i<vs.length
   ·exact hi
   ·rw[getElem?_append_right (by simpa using hi)] at d;rw[List.getElem?_replicate] at d;split at d <;> cases d
  have I:vs[i]?=some v:=by
   unfold start at d;rw[getElem?_append_left (by simpa using hi),getElem?_map] at d
   cases e:vs[i]? with
   | none=>rw[e] at d;cases d
   | some a=>rw[e] at d;cases d;rfl
  obtain⟨u,C,F⟩:=r.get I;have o:ps[i]?=some y:=by
   rw[<- S.pre,List.getElem?_take_of_lt (by lia)];exact B
  have m:ps.Nodup:=by rw[<- S.pre];exact S.nd.sublist (List.take_sublist _ _)
  refine⟨u,F,?_⟩;rcases S.par y (mem_of_getElem? o) with k|k
  ·exact .inl ⟨k,Jd7 m o C k⟩
  ·obtain⟨c,e⟩:=Jgj (n:=s.heap.objs.size+1) k;refine .inr ⟨.inl k,c,e,?_⟩;have q:=x.cell y c e;rw[Jd9 m o C (by show scope.names.lookup y≠_;rw[k];decide)] at q;exact q
 ·exact g.hok.fresh (Nat.le_of_lt (x.above y c (mem_of_lookup h)))
 ·unfold start;show _=N.length;rw[length_append,length_map,length_replicate];lia
theorem Jor{K:Frag}{kV:Value}(C:K.lookup f=some ⟨oc,od,.func (fnOf name qual params body scope dV kV doc pm an cdv ct),osl⟩)(p:codeIn K cdv qual=true)(S:Jr N ps scope)(len:∀vs H Q E,sp vs H Q E->vs.length=ps.length)(d:∀(A:Around) (outer:List Env) (s:Shared) (H:Hp) (vs:List V) (Q:VK) (E:XK),Room k (A.deeper (envOfC qual scope s.heap.objs.size f cdv))->sp vs H Q E->
   ∃t,PSs (cxOf CX P w K mg base N qual scope f cdv A outer s H E) body t/\t { nx:=fun _ a=>Q .non a,rt:=Q } (start N vs) H):
  FnOk P w K mg base CX (k+1) f (fnOf name qual params body scope dV kV doc pm an cdv ct) ps sp:=by
 refine⟨len,fun A outer s H args us vs Q E m i hb r h=>?_⟩;have L:=len _ _ _ _ h;have B:=i.mod.kin.keeps fun b o e=>(i.bs b o e).1;have l:=i.mod.nolimit.keeps fun b o e=>(i.bs b o e).1;have c:∀y∈ps.zip us,scope.names.lookup y.1=some .local\/(scope.names.lookup y.1=some .cell/\((cellsFrom (s.heap.objs.size+1) scope.names []).lookup y.1).isSome=true):=fun O D=>by
  obtain⟨n,v⟩:=O;rcases S.par n (List.of_mem_zip D).1 with q|q
  ·exact .inl q
  ·exact .inr ⟨q,PySem.W.cellsFrom_some _ _ _ (.inl q)⟩
 refine codeAny_call_function m.depth (B _ _ C) rfl S.co S.gen rfl (PySem.W.codeRec_of B p) (hb _ _ _ _ ?_);refine wpAny_newFunctionEnv_cells S.kind c fun env M z x=>?_;subst M;refine⟨l.keeps x.toInCall.keep,codeAny_func ?_⟩;obtain⟨t,F,G⟩:=d A outer s H vs Q E (m.deeper _) h;have I:Inv (cxOf CX P w K mg base N qual scope f cdv A outer s H E) [] (start N vs) H z:=Jkn S m.hd i L r x;refine wpAny_mono (F [] z (start N vs) H _ I G) (fun R s' g=>?_) fun e s' g=>g;have fin:∀{σ':St} {a:Hp} {v:V} {u:Value},Inv (cxOf CX P w K mg base N qual scope f cdv A outer s H E) [] σ' a s'->RelV v u->Q v a->CE outer P w H s Q u s':=
  fun {σ' a v u} J j q=>⟨v,a,J.os,J.bare,J.base,J.hok,j,q⟩
 cases R with
 | ret u =>
  obtain⟨v,σ',a,J,j,q⟩:=g;exact fin J j q
 | next =>
  obtain⟨σ',a,J,q⟩:=g;exact fin (v:=V.non) (u:=Value.none) J rfl q
 | brk =>
  obtain⟨_,_,_,q⟩:=g;exact False.elim q
 | cont =>
  obtain⟨_,_,_,q⟩:=g;exact False.elim q
section
variable{X:Cx}{x:Str}{p pos:Pos}{e:Expr}{es:List Expr}{t:TA}{id T:String}{r:List V->Hp->VK->Prop}
noncomputable def tCB(r:List V->Hp->VK->Prop)(t:TA):TE:=fun σ H Q=>t σ H fun vs a=>r vs a Q
theorem J1r(n:J3w X (.builtin id) r)(l:Gl X x)(j:X.mg x=none)(g:bootBuiltins x=some (.builtin id))(o:PA X (e::es) t)(i:x≠"__name__":=by decide)(b:(x==("__debug__":Str))=false:=by decide)(m:starEach (e::es) X.env=(false,eval e X.env)::starEach es X.env:=by rfl)(a:(backTo pos (starEach es X.env)).any (·.1)=false:=by rfl):PE X (.Call (.Name x p) (e::es) [] pos) (tCB r t):=by
 intro pins s σ H Q I h;refine wpAny_Call_Name_kw (J8n I l j g ?_ i b);exact PyProof.Rows.callWith_builtin1 (thn (o pos pins s σ H _ I h) fun us c q=>by obtain⟨vs,v,u,d,f⟩:=q;exact n pins c σ v vs us Q u d f) m a
theorem J3h(n:J3w X (.type T) r)(l:Gl X x)(j:X.mg x=none)(g:bootBuiltins x=some (.type T))(o:PA X (e::es) t)(i:x≠"__name__":=by decide)(b:(x==("__debug__":Str))=false:=by decide)(m:starEach (e::es) X.env=(false,eval e X.env)::starEach es X.env:=by rfl)(a:(backTo pos (starEach es X.env)).any (·.1)=false:=by rfl):PE X (.Call (.Name x p) (e::es) [] pos) (tCB r t):=by
 intro pins s σ H Q I h;refine wpAny_Call_Name_kw (J8n I l j g ?_ i b);exact callWith_type1 (thn (o pos pins s σ H _ I h) fun us c q=>by obtain⟨vs,v,u,d,f⟩:=q;exact n pins c σ v vs us Q u d f) m a
end
end L2
namespace HT
open PySem PyProof.Rows
section
variable{prog:Program}{w:World}{A:Around}{E:Value->Shared->Prop}{s:Shared}
noncomputable def sIx(n d:Nat):Option Int->Nat
 | none=>d
 | some v=>if v<0 then (v+(n:Int)).toNat else min v.toNat n
theorem sIx_none(n d:Nat):sIx n d none=d:=rfl
theorem sIx_nat(n d k:Nat):sIx n d (some (k:Int))=min k n:=by
 rfl
theorem sIx_le(n d:Nat)(hd:d<=n)(o:Option Int):sIx n d o<=n:=by
 cases o with
 | none=>exact hd
 | some v =>
  show(if v<0 then (v+(n:Int)).toNat else min v.toNat n)<=n
  grind
theorem Jlp(v:Int)(n d:Nat):(if v<0 then max (v+(n:Int)) 0 else min v (n:Int))=((sIx n d (some v):Nat):Int):=by
 show(if v<0 then max (v+(n:Int)) 0 else min v (n:Int))=(((if v<0 then (v+(n:Int)).toNat else min v.toNat n):Nat):Int)
 grind
theorem Jhx(lo hi:Option Int)(n:Nat):Builtin.Slice.sliceAdjust lo hi 1 (n:Int)=(((sIx n 0 lo:Nat):Int),((sIx n n hi:Nat):Int)):=by
 refine Prod.ext ?_ ?_
 ·cases lo with
  | none=>rfl
  | some v=>exact Jlp v n 0
 ·cases hi with
  | none=>rfl
  | some v=>exact Jlp v n n
theorem Jh2(i j:Nat):Builtin.Slice.slicePlaces (i:Int) (j:Int) 1=j-i:=by
 unfold Builtin.Slice.slicePlaces
 grind
theorem J9r(p:IsPart v o)(h:Q o s):wpAny (model prog w) A (Builtin.Slice.slicePartIndex v) Q E s:=by
 cases p with
 | none=>exact slicePart_none h
 | int i t=>exact slicePart_int h
theorem J7l{lo:Option Int}{n:Nat}(d:s.heap.IsSliceOf sl vl vu .none)(pl:IsPart vl lo)(c:IsPart vu hi)(h:Q (((sIx n 0 lo:Nat):Int),1,sIx n n hi-sIx n 0 lo) s):wpAny (model prog w) A (Builtin.Slice.sliceApplied (.ref sl) (pure (n:Int))) Q E s:=by
 obtain⟨os,a,e,b⟩:=id d;refine wpAny_bind (wpAny_bind (wpAny_field a b (x:=vl) rfl (wpAny_bind (wpAny_field a b (x:=vu) rfl (wpAny_bind (wpAny_field a b (x:=.none) rfl (wpAny_pure ?_)))))));refine wpAny_bind (slicePart_none ?_);refine wpAny_bind (J9r pl (wpAny_bind (J9r c (wpAny_bind (wpAny_pure ?_)))));show wpAny _ _ (match Builtin.Slice.sliceAdjust lo hi 1 (n:Int) with|(lo,hi)=>pure (lo,(1:Int),Builtin.Slice.slicePlaces lo hi 1)) _ _ s;rw[Jhx lo hi n];show wpAny _ _ (pure (((sIx n 0 lo:Nat):Int),(1:Int),Builtin.Slice.slicePlaces ((sIx n 0 lo:Nat):Int) ((sIx n n hi:Nat):Int) 1)) _ _ s;rw[Jh2];exact wpAny_pure h
theorem Jnf(xs:Array Value)(i k:Nat):((List.range k).filterMap fun(m:Nat)=>xs[((i:Int)+(m:Int)*1).toNat]?).toArray=((xs.toList.drop i).take k).toArray:=by
 have e:(fun(m:Nat)=>xs[((i:Int)+(m:Int)*1).toNat]?)=fun m=>xs[i+m]?:=by
  funext m
  have:((i:Int)+(m:Int)*1).toNat=i+m:=by lia
  rw[this]
 rw[e];have:=pick_run xs i k;rw[List.filterMap_map] at this;have a:((fun x=>xs[x]?)∘fun x=>i+x)=fun m=>xs[i+m]?:=rfl;rw[a] at this;rw[this]
theorem getItem_tuple_cut{lo:Option Int}(b:IsTup s.heap t items)(g:s.heap.IsSliceOf sl vl vu .none)(pl:IsPart vl lo)(i:IsPart vu hi)(hw:¬ (sIx items.size 0 lo=0/\sIx items.size items.size hi=items.size))(h:Q (.ref s.heap.objs.size) { s with heap:=s.heap.push { cls:=.type "tuple",data:=.seq ((items.toList.drop (sIx items.size 0 lo)).take (sIx items.size items.size hi-sIx items.size 0 lo)).toArray } })(hsz:items.size<=sizeLine):wpAny (model prog w) A (getItem (.ref t) (.ref sl)) Q E s:=by
 have a:sizeOk (.seq ((items.toList.drop (sIx items.size 0 lo)).take (sIx items.size items.size hi-sIx items.size 0 lo)).toArray):=by
  show((items.toList.drop (sIx items.size 0 lo)).take (sIx items.size items.size hi-sIx items.size 0 lo)).toArray.size<=sizeLine;rw[size_toArray,length_take,length_drop,length_toList];lia
 have l:sIx items.size items.size hi<=items.size:=sIx_le _ _ (Nat.le_refl _) hi;obtain⟨os,c,e,j⟩:=id g;have f:s.TypeIs (.ref sl) "slice":=⟨os,c,e⟩;unfold getItem
 try with_reducible refine wpAny_holding ?_
 refine wpAny_bind (wpAny_sequenceKey b.typeIs (by decide) ?_);refine wpAny_bind (wpAny_callSpecial?_slot (name:=Str.ofString "__getitem__") b.typeIs PyProof.Rows.slot_tuple_getitem
  (wpAny_call_entry PyProof.Rows.slot_tuple_getitem b.typeIs entry_tuple_getitem ?_ (args_tuple_getitem _ _)))
 show wpAny _ _ (Builtin.Tuple.tupleItemsOf (.ref t) >>= _) _ _ s;refine wpAny_bind (tupleItemsOf_ b ?_);refine wpAny_bind (wpAny_typeOf f ?_);refine wpAny_bind (J7l g pl i ?_);have d:¬ ((((sIx items.size 0 lo:Nat):Int)==0&&(1:Int)==1&&(sIx items.size items.size hi-sIx items.size 0 lo)==items.size)=true):=by
  grind
 show wpAny _ _ (if (((sIx items.size 0 lo:Nat):Int)==0&&(1:Int)==1&&(sIx items.size items.size hi-sIx items.size 0 lo)==items.size)=true then _ else _) _ _ s;rw[if_neg d,Jnf]
 first
  | exact wpAny_bind (m:=Builtin.Tuple.tupleExact _) (wpAny_newObj_type (wpAny_pure ⟨_,rfl,wpAny_pure h⟩) a)
  | grind
  | exact wpAny_bind (wpAny_bind (m:=Builtin.Tuple.tupleExact _) (wpAny_newObj_type (wpAny_pure (wpAny_pure ⟨_,rfl,wpAny_pure h⟩)) a))
  | exact wpAny_bind (wpAny_bind (m:=Builtin.Tuple.tupleExact _) (wpAny_newObj_type (wpAny_pure ⟨_,rfl,wpAny_pure h⟩) a))
end
end HT
namespace L2
open PySem PySem.Spec PyProof.Rows
noncomputable abbrev TO:=St->Hp->(Option Int->Hp->Prop)->Prop
noncomputable def PO(X:Cx)(e:Option Expr)(t:TO):Prop:=
 ∀(pins:List (Addr×Obj)) (s:Shared) (σ:St) (H:Hp) (Q:Option Int->Hp->Prop),Inv X pins σ H s->t σ H Q->
  wpAny (model X.prog X.w) X.A (evalPart e X.env) (fun u s'=>∃o a,Inv X pins σ a s'/\IsPart u o/\Q o a) X.xe s
noncomputable def Jqa:TO:=fun _ H Q=>Q none H
inductive tPartR(Q:Option Int->Hp->Prop)(x:V)(a:Hp):Prop
 | mk(i:_)(_:x=.int i)(_:Q (some i) a)
noncomputable def tPart(t:TE):TO:=fun σ H Q=>t σ H fun x a=>tPartR Q x a
theorem J2c :∀{us:List Value},Vals (ns.map V.int) us->IntsAre us ns:=by
 induction ns with
 | nil=>intro us r;cases r;exact .nil
 | cons n ns ih =>
  intro us r
  cases r with
  | cons r1 r2 =>
   obtain⟨t,e⟩:=r1;subst e;exact .cons n t (ih r2)
section
variable{X:Cx}{e:Expr}{te:TE}{lo hi:Option Expr}{tl th:TO}{pos p2:Pos}
theorem Je1:PO X none Jqa:=by
 intro pins s σ H Q I h;exact wpAny_pure ⟨none,H,I,.none,h⟩
theorem Je0(h:PE X e te):PO X (some e) (tPart te):=by
 intro pins s σ H Q I hw;refine thn (h pins s σ H _ I hw) fun u g c=>?_;obtain⟨x,f,d,a,b⟩:=c;obtain⟨i,rfl,q⟩:=b;obtain⟨t,rfl⟩:=a;exact⟨some i,f,d,.int i t,q⟩
noncomputable def SlR(X:Cx)(r:V->Option Int->Option Int->Hp->VK->Prop):Prop:=
 ∀(pins:List (Addr×Obj)) (s:Shared) (σ:St) (H:Hp) (x:V) (v b a:Value) (lo hi:Option Int) (c:Addr) (Q:VK),Inv X pins σ H s->RelV x v->s.heap.IsSliceOf c b a .none->IsPart b lo->IsPart a hi->r x lo hi H Q->
  ∃T id,typeLookup (.type T) "__getitem__"=pure (some (.builtin id))/\s.TypeIs v T/\wpAny (model X.prog X.w) X.A (getItem v (.ref c)) (EP X pins σ Q) X.xe s
noncomputable def tSl(r:V->Option Int->Option Int->Hp->VK->Prop)(b:TE)(tl a:TO):TE:=fun σ H Q=>b σ H fun x e=>tl σ e fun l d=>a σ d fun u c=>r x l u c Q
theorem Jb0(A:SlR X r)(D:PE X e te)(B:PO X lo tl)(y:PO X hi th):PE X (.Subscript e (.Slice lo hi none p2) pos) (tSl r te tl th):=by
 intro pins s σ H Q I h;refine Subscript_ (thn (D pins s σ H _ I h) fun v j c=>?_);obtain⟨x,M,K,m,p⟩:=c;refine wpAny_Slice (thn (B pins j σ M _ K p) fun f i c=>?_);obtain⟨l,L,J,pl,o⟩:=c;refine thn (y pins i σ L _ J o) fun d a c=>?_;obtain⟨u,g,G,w,n⟩:=c;refine wpAny_pure ?_;have F:Inv X pins σ g { a with heap:=a.heap.push { cls:=.type "slice",data:=.fields #[f,d,.none] } }:=G.kept (t':=a.toks) fun b N q=>get?_push_of_some _ q;obtain⟨T,id,E,z,C⟩:=A pins { a with heap:=a.heap.push { cls:=.type "slice",data:=.fields #[f,d,.none] } } σ g x v f d l u a.heap.objs.size Q F m (Heap.IsSliceOf.new ..) pl w n;exact tail_any (ops:=[.ref a.heap.objs.size,v]) z E C (by rfl)
noncomputable def cutV(xs:List V)(lo hi:Option Int):List V:=(xs.drop (HT.sIx xs.length 0 lo)).take (HT.sIx xs.length xs.length hi-HT.sIx xs.length 0 lo)
theorem J9d(xs:List V)(lo hi:Option Int):(cutV xs lo hi).length<=xs.length:=by
 unfold cutV;rw[length_take,length_drop];lia
inductive rSlTR(K:Frag)(x:V)(lo hi:Option Int)(H:Hp)(Q:VK):Prop
 | mk(a xs:_)(_:x=.ref a)(_:SqT K H a xs)(_:¬ (HT.sIx xs.length 0 lo=0/\HT.sIx xs.length xs.length hi=xs.length))(_:∀p,H p=none->Q (.ref p) (upd H p (.tup (cutV xs lo hi))))
noncomputable def rSlT(K:Frag):V->Option Int->Option Int->Hp->VK->Prop:=fun x lo hi H Q=>rSlTR K x lo hi H Q
theorem sl_tup:SlR X (rSlT X.K):=by
 intro pins s σ H x v n m lo hi p Q I g l pl i h;obtain⟨a,xs,rfl,j,hw,q⟩:=h;cases g;obtain⟨d,r,f,e⟩:=I.tuple j;have c:d.toArray.size=xs.length:=by exact r.length.symm
 refine⟨"tuple",_,PyProof.Rows.slot_tuple_getitem.lookup,f.typeIs,?_⟩;refine HT.getItem_tuple_cut f l pl i (by rw[c];exact hw) ?_ (by rw[c];exact e);rw[c];refine⟨.ref s.heap.objs.size,_,I.laid (t':=s.toks) (o:=.tup (cutV xs lo hi)) (fun b u q=>get?_push_of_some _ q) (Nat.le_refl _) ?_,rfl,q _ (I.hok.fresh (Nat.le_refl _))⟩;exact⟨Nat.le_trans (J9d xs lo hi) e,_,(r.drop (HT.sIx xs.length 0 lo)).take (HT.sIx xs.length xs.length hi-HT.sIx xs.length 0 lo),TupX.new _ _⟩
end
noncomputable def ixN(n:Nat)(i:Int):Option Nat:=if 0<=i then (if i<n then some i.toNat else none) else if -(n:Int)<=i then some (i+n).toNat else none
noncomputable def atI{α:Type}(xs:List α)(i:Int):Option α:=(ixN xs.length i).bind fun j=>xs[j]?
theorem Jkj(h:ixN n i=some j):seqIndex? i n=some j/\j<n/\-(n:Int)<=i/\i<n:=by
 unfold ixN at h;by_cases b:0<=i
 ·rw[if_pos b] at h;by_cases a:i<n
  ·rw[if_pos a] at h;have e:=Option.some.inj h;exact⟨by rw[seqIndex_of b a,e],by lia,by lia,a⟩
  ·rw[if_neg a] at h;cases h
 ·rw[if_neg b] at h;by_cases a:-(n:Int)<=i
  ·rw[if_pos a] at h;have e:=Option.some.inj h;exact⟨by rw[seqIndex_neg (by lia) a,e],by lia,a,by lia⟩
  ·rw[if_neg a] at h;cases h
theorem Jlv(h:atI xs i=some v):∃j,seqIndex? i xs.length=some j/\xs[j]?=some v/\j<xs.length/\-(xs.length:Int)<=i/\i<xs.length:=by
 unfold atI at h
 cases e:ixN xs.length i with
 | none=>simp_all
 | some j =>
  rw[e] at h;obtain⟨d,c,b,a⟩:=Jkj e;exact⟨j,d,h,c,b,a⟩
theorem Je{xs:List α}{j:Nat}{v:α}(h:xs[j]?=some v):atI xs (j:Int)=some v:=by
 have a:=(gS h);have e:ixN xs.length (j:Int)=some j:=by
  unfold ixN;rw[if_pos (by lia),if_pos (by lia)];simp
 unfold atI;rw[e];exact h
theorem atI_last{α:Type}(xs:List α)(v:α):atI (xs++[v]) (-1)=some v:=by
 have a:(xs++[v]).length=xs.length+1:=by simp
 have e:ixN (xs++[v]).length (-1)=some xs.length:=by
  unfold ixN;rw[a,if_neg (by decide),if_pos (by lia)]
  congr 1
  lia
 unfold atI;rw[e];show(xs++[v])[xs.length]?=some v;simp
noncomputable def Jlx(b:Expr):Prop:=∀o i,subscripted b false o i=operate [o,i] (getItem o i)
noncomputable def IxR(X:Cx)(r:R2):Prop:=
 ∀(b a:Expr) (pins:List (Addr×Obj)) (s:Shared) (σ:St) (H:Hp) (x y:V) (v u:Value) (Q:VK),Inv X pins σ H s->RelV x v->RelV y u->r x y H Q->
  subscripted a false v u=operate [v,u] (getItem v u)->wpAny (model X.prog X.w) X.A (subscriptTail b a v u) (EP X pins σ Q) X.xe s
noncomputable def MtR(X:Cx)(id:String)(r:V->List V->Hp->VK->Prop):Prop:=
 ∀(pins:List (Addr×Obj)) (s:Shared) (σ:St) (H:Hp) (x:V) (xs:List V) (v:Value) (us:List Value) (Q:VK),Inv X pins σ H s->RelV x v->Vals xs us->r x xs H Q->
  wpAny (model X.prog X.w) X.A (call (.builtin id) (v::us)) (EP X pins σ Q) X.xe s
section
variable{X:Cx}{a b:Expr}{ta tb:TE}{pos:Pos}
theorem Jt(g:IxR X r)(i:PE X a ta)(hb:PE X b tb)(f:Jlx b:=by exact fun _ _=>rfl):PE X (.Subscript a b pos) (tOp r ta tb):=by
 intro pins s σ H Q I h;exact Subscript_ (binT i hb I h fun v u c x y l j e d q=>g a b pins c σ l x y v u Q j e d q (f _ _))
inductive rIxLR(K:Frag)(x y:V)(H:Hp)(Q:VK):Prop
 | mk(p xs i v:_)(_:x=.ref p)(_:y=.int i)(_:SqL K H p xs)(_:atI xs i=some v)(_:Q v H)
noncomputable def rIxL(K:Frag):R2:=fun x y H Q=>rIxLR K x y H Q
inductive rIxTR(K:Frag)(x y:V)(H:Hp)(Q:VK):Prop
 | mk(p xs i v:_)(_:x=.ref p)(_:y=.int i)(_:SqT K H p xs)(_:atI xs i=some v)(_:Q v H)
noncomputable def rIxT(K:Frag):R2:=fun x y H Q=>rIxTR K x y H Q
theorem J4z:IxR X (rIxL X.K):=by
 intro b c pins s σ H x y v u Q I o n h g;obtain⟨p,xs,i,z,rfl,rfl,A,C,q⟩:=h;cases o;obtain⟨t,rfl⟩:=n;obtain⟨e,r,pl,G⟩:=I.list A;obtain⟨j,a,F,L,E,D⟩:=Jlv C;obtain⟨w,m,d⟩:=r.get F;have B:=r.length;have J:=Ja2;have fin:EP X pins σ Q w s:=⟨z,H,I,d,q⟩;by_cases l:0<=i
 ·have f:i.toNat=j:=by
   rw[seqIndex_of l D] at a;exact Option.some.inj a
  exact item_listR pl.isList l (by lia) (by rw[f];simpa using m) fin g
 ·have f:(i+(e.toArray.size:Int)).toNat=j:=by
   rw[seqIndex_neg (by lia) E] at a;rw[size_toArray,<- B];exact Option.some.inj a
  exact subscriptTail_builtinR (x:=w) pl.isList.typeIs slot_list_getitem.lookup
   (wpAny_getItem_list_neg (Q:=fun r s'=>r=w/\EP X pins σ Q r s') pl.isList (by lia) (by rw[size_toArray] <;> lia) (by lia) (by rw[f];simpa using m) ⟨rfl,fin⟩) g
theorem Jm:IxR X (rIxT X.K):=by
 intro a b pins s σ H x y v u Q I e d h g;obtain⟨p,xs,i,z,rfl,rfl,l,m,q⟩:=h;cases e;obtain⟨t,rfl⟩:=d;obtain⟨f,r,pl,A⟩:=I.tuple l;obtain⟨j,G,n,F,E,D⟩:=Jlv m;obtain⟨w,o,c⟩:=r.get n;have C:=r.length;have B:=Ja2;have fin:EP X pins σ Q w s:=⟨z,H,I,c,q⟩;exact subscriptTail_builtinR (x:=w) pl.typeIs slot_tuple_getitem.lookup
  (getItem_tuple (j:=j) (Q:=fun r s'=>r=w/\EP X pins σ Q r s') pl (by lia) (by lia) (by simp_all) (by simpa using o) ⟨rfl,fin⟩) g
theorem Jhc(a:List Value)(n j:Nat)(u:Value):Obj.mapSeq (·.setIfInBounds j u) { cls:=.type "list",data:=.seq a.toArray n }={ cls:=.type "list",data:=.seq (a.set j u).toArray n }:=by
 simp[Obj.mapSeq]
theorem Inv.lst(I:Inv X pins σ H s)(h:H p=some (.lst xs)):
  ∃(a:List Value) (n:Nat),Vals xs a/\s.heap.get? p=some { cls:=.type "list",data:=.seq a.toArray n }/\xs.length<=sizeLine:=by
 obtain⟨z,a,n,r,e⟩:=I.hok p _ h;exact⟨a,n,r,e,z⟩
theorem Inv.lstUpd{a:List Value}(I:Inv X pins σ H s)(h:H p=some (.lst xs))(g:s.heap.get? p=some { cls:=.type "list",data:=.seq a.toArray n })(c:f { cls:=.type "list",data:=.seq a.toArray n }={ cls:=.type "list",data:=.seq its'.toArray n' })(r:Vals ys its')(d:ys.length<=sizeLine)(t:Nat):
  Inv X pins σ (upd H p (.lst ys)) { s with heap:=s.heap.update p f,toks:=t }:=by
 have e:(s.heap.update p f).get? p=some { cls:=.type "list",data:=.seq its'.toArray n' }:=by
  rw[Heap.get?_update_self f g (by rw[c] <;> rfl),c]
 refine I.write (x:=p) (e:=p) (by rw[h];trivial) (.inl rfl) (fun b u hb q=>(Heap.get?_update_other _ _ (Ne.symm hb)).trans q) ⟨_,e⟩ ?_;exact⟨d,its',n',r,e⟩
inductive rSetLR(o i v:V)(H:Hp)(Q:Hp->Prop):Prop
 | mk(p xs k j:_)(_:o=.ref p)(_:i=.int k)(_:H p=some (.lst xs))(_:ixN xs.length k=some j)(_:Q (upd H p (.lst (xs.set j v))))
noncomputable def rSetL:V->V->V->Hp->(Hp->Prop)->Prop:=fun o i v H Q=>rSetLR o i v H Q
theorem J7p:PSet X rSetL:=by
 intro pins s σ H o i v D E u Q I z A y h;obtain⟨p,xs,k,j,rfl,rfl,f,C,q⟩:=h;cases z;obtain⟨t,rfl⟩:=A;obtain⟨a,n,r,c,B⟩:=I.lst f;obtain⟨b,G,l,g⟩:=Jkj C;have d:=r.length;have F:=Ja2;have w:Inv X pins σ (upd H p (.lst (xs.set j v))) { s with heap:=s.heap.update p (Obj.mapSeq (·.setIfInBounds j u)) }:=
  I.lstUpd f c (Jhc a n j u) (r.set y j) (by rw[length_set];exact B) s.toks
 by_cases m:0<=k
 ·have e:k.toNat=j:=by
   rw[seqIndex_of m g] at b;exact Option.some.inj b
  exact PySem.W.ki_setAt c m (by lia) (by rw[size_toArray,<- d];exact g) (by rw[e];exact⟨_,w,q⟩)
 ·have e:(k+(a.toArray.size:Int)).toNat=j:=by
   rw[seqIndex_neg (by lia) l] at b;rw[size_toArray,<- d];exact Option.some.inj b
  exact PySem.W.ki_setBack c (by lia) (by rw[size_toArray,<- d];exact l) (by lia) (by rw[e];exact⟨_,w,q⟩)
theorem Jc1(lo hi:Option Int)(n:Nat):(sliceBounds lo hi none n).1=((HT.sIx n 0 lo:Nat):Int)/\(sliceBounds lo hi none n).2.1=((HT.sIx n n hi:Nat):Int)/\(sliceBounds lo hi none n).2.2=1:=by
 refine⟨?_,?_,rfl⟩
 ·cases lo with
  | none=>simp[sliceBounds,HT.sIx]
  | some i =>
   simp only[sliceBounds,HT.sIx,Option.getD_none,show(1:Int)>0 by decide,if_true];by_cases h:i<0
   ·simp only[h,if_true] <;> lia
   ·simp only[h,if_false] <;> lia
 ·cases hi with
  | none=>simp[sliceBounds,HT.sIx]
  | some i =>
   simp only[sliceBounds,HT.sIx,Option.getD_none,show(1:Int)>0 by decide,if_true];by_cases h:i<0
   ·simp only[h,if_true] <;> lia
   ·simp only[h,if_false] <;> lia
theorem Jap(a:List Value)(lo hi:Option Int):slicePick a.toArray lo hi none=((a.drop (HT.sIx a.length 0 lo)).take (HT.sIx a.length a.length hi-HT.sIx a.length 0 lo)).toArray:=by
 obtain⟨d,c,b⟩:=Jc1 lo hi a.toArray.size;unfold slicePick;rw[d,c,b];simp only[sliceRange_one,pick_run,size_toArray] <;> rfl
inductive rSlLR(K:Frag)(x:V)(lo hi:Option Int)(H:Hp)(Q:VK):Prop
 | mk(a xs:_)(_:x=.ref a)(_:SqL K H a xs)(_:∀p,H p=none->Q (.ref p) (upd H p (.lst (cutV xs lo hi))))
noncomputable def rSlL(K:Frag):V->Option Int->Option Int->Hp->VK->Prop:=fun x lo hi H Q=>rSlLR K x lo hi H Q
theorem Jij:SlR X (rSlL X.K):=by
 intro pins s σ H x v n m lo hi p Q I e l pl f h;obtain⟨a,xs,rfl,j,q⟩:=h;cases e;obtain⟨g,r,d,i⟩:=I.list j;have c:=r.length;refine⟨"list",_,slot_list_getitem.lookup,d.isList.typeIs,?_⟩;refine wpAny_getItem_list_slice d.isList l pl f .none (by simp) ?_ (by grind);rw[Jap,<- c];refine⟨.ref s.heap.objs.size,_,I.laid (t':=s.toks) (o:=.lst (cutV xs lo hi)) (fun b u q=>get?_push_of_some _ q) (Nat.le_refl _) ?_,rfl,q _ (I.hok.fresh (Nat.le_refl _))⟩;exact⟨Nat.le_trans (J9d xs lo hi) i,_,0,(r.drop (HT.sIx xs.length 0 lo)).take (HT.sIx xs.length xs.length hi-HT.sIx xs.length 0 lo),get?_push_size _ rfl⟩
noncomputable def J5l:V->Bool
 | .non=>true
 | .bl _=>true
 | .int _=>true
 | .str _=>true
 | _=>false
noncomputable def eqV:V->V->Bool
 | .non,.non=>true
 | .bl a,.bl b=>a==b
 | .bl a,.int b=>(if a then 1 else 0)==b
 | .int a,.bl b=>a==(if b then 1 else 0)
 | .int a,.int b=>a==b
 | .str a,.str b=>a==b
 | _,_=>false
theorem Jgg(d:RelV y u)(c:RelV x v)(f:J5l y=true)(e:J5l x=true):SeqAt.EqAt A s u v (eqV y x):=by
 cases y with
 | non =>
  cases d
  cases x with
  | non=>cases c;exact SeqAt.EqAt.same _
  | bl b=>cases c;exact SeqAt.EqAt.none_bool b
  | int b=>obtain⟨t,rfl⟩:=c;exact SeqAt.EqAt.none_int b t
  | str b=>obtain⟨t,rfl⟩:=c;exact SeqAt.EqAt.none_str b t
  | _=>exact absurd (show false=true from e) Bool.false_ne_true
 | bl a =>
  cases d
  cases x with
  | non=>cases c;exact SeqAt.EqAt.bool_none a
  | bl b=>cases c;exact SeqAt.EqAt.bool_bool a b
  | int b=>obtain⟨t,rfl⟩:=c;exact SeqAt.EqAt.bool_int a b t
  | str b=>obtain⟨t,rfl⟩:=c;exact SeqAt.EqAt.bool_str a b t
  | _=>exact absurd (show false=true from e) Bool.false_ne_true
 | int a =>
  obtain⟨t',rfl⟩:=d
  cases x with
  | non=>cases c;exact SeqAt.EqAt.int_none a t'
  | bl b=>cases c;exact SeqAt.EqAt.int_bool a t' b
  | int b=>obtain⟨t,rfl⟩:=c;exact SeqAt.EqAt.int_int a t' b t
  | str b=>obtain⟨t,rfl⟩:=c;exact SeqAt.EqAt.int_str a t' b t
  | _=>exact absurd (show false=true from e) Bool.false_ne_true
 | str a =>
  obtain⟨t',rfl⟩:=d
  cases x with
  | non=>cases c;exact SeqAt.EqAt.str_none a t'
  | bl b=>cases c;exact SeqAt.EqAt.str_bool a t' b
  | int b=>obtain⟨t,rfl⟩:=c;exact SeqAt.EqAt.str_int a t' b t
  | str b=>obtain⟨t,rfl⟩:=c;exact SeqAt.EqAt.str_str a t' b t
  | _=>exact absurd (show false=true from e) Bool.false_ne_true
 | _=>exact absurd (show false=true from f) Bool.false_ne_true
noncomputable def eqU(x:V)(u:Value):Bool:=match u with
 | .none=>eqV .non x
 | .bool b=>eqV (.bl b) x
 | .int i _=>eqV (.int i) x
 | .str z _=>eqV (.str z) x
 | _=>false
theorem Jq1(r:RelV y u)(f:J5l y=true):eqU x u=eqV y x:=by
 cases y with
 | non=>cases r;rfl
 | bl b=>cases r;rfl
 | int i=>obtain⟨t,rfl⟩:=r;rfl
 | str z=>obtain⟨t,rfl⟩:=r;rfl
 | _=>exact absurd (show false=true from f) Bool.false_ne_true
theorem J9j :∀{xs:List V} {us:List Value},Vals xs us->xs.all J5l=true->us.any (eqU x)=xs.any fun y=>eqV y x
 | _,_,.nil,_=>rfl
 | y::xs,u::us,.cons r t,f=>by
  rw[List.all_cons,Bool.and_eq_true] at f;rw[List.any_cons,List.any_cons,Jq1 r f.1,J9j t f.2]
theorem J6j(b:RelV x v)(c:J5l x=true):∀{xs:List V} {us:List Value},Vals xs us->xs.all J5l=true->∀u∈us,SeqAt.EqAt A s u v (eqU x u)
 | _,_,.nil,_=>fun u a=>by cases a
 | y::xs,u::us,.cons r t,f=>fun d a=>by
  rw[List.all_cons,Bool.and_eq_true] at f;rcases mem_cons.mp a with rfl|a
  ·rw[Jq1 r f.1];exact Jgg r b f.1 c
  ·exact J6j b c t f.2 d a
noncomputable def inV(x:V)(xs:List V):Bool:=xs.any fun y=>eqV y x
inductive rInR(K:Frag)(neg:Bool)(x y:V)(H:Hp)(Q:VK):Prop
 | mk(p xs:_)(_:y=.ref p)(_:(SqL K H p xs\/SqT K H p xs))(_:J5l x=true)(_:xs.all J5l=true)(_:Q (.bl (if neg then !inV x xs else inV x xs)) H)
noncomputable def rIn(K:Frag)(neg:Bool):R2:=fun x y H Q=>rInR K neg x y H Q
theorem Jj4:OpR X (compareOp .In) (rIn X.K false):=by
 intro pins s σ H x y v u Q I c e h;obtain⟨p,xs,rfl,b,d,fs,q⟩:=h;cases e;rcases b with b|b
 ·obtain⟨a,r,pl,f⟩:=I.list b;refine SeqAt.in_listAt (eqU x) pl.isList (fun w hw=>J6j c d r fs w (by simpa using hw)) ⟨.bl _,H,I,rfl,?_⟩;rw[show a.toArray.any (eqU x)=a.any (eqU x) by simp,J9j r fs];exact q
 ·obtain⟨a,r,pl,f⟩:=I.tuple b;refine SeqAt.in_tupleAt (eqU x) pl (fun w hw=>J6j c d r fs w (by simpa using hw)) ⟨.bl _,H,I,rfl,?_⟩;rw[show a.toArray.any (eqU x)=a.any (eqU x) by simp,J9j r fs];exact q
theorem J7d:OpR X (compareOp .NotIn) (rIn X.K true):=by
 intro pins s σ H x y v u Q I c e h;obtain⟨p,xs,rfl,b,d,fs,q⟩:=h;cases e;rcases b with b|b
 ·obtain⟨a,r,pl,f⟩:=I.list b;refine SeqAt.notIn_listAt (eqU x) pl.isList (fun w hw=>J6j c d r fs w (by simpa using hw)) ⟨.bl _,H,I,rfl,?_⟩;rw[show a.toArray.any (eqU x)=a.any (eqU x) by simp,J9j r fs];exact q
 ·obtain⟨a,r,pl,f⟩:=I.tuple b;refine SeqAt.notIn_tupleAt (eqU x) pl (fun w hw=>J6j c d r fs w (by simpa using hw)) ⟨.bl _,H,I,rfl,?_⟩;rw[show a.toArray.any (eqU x)=a.any (eqU x) by simp,J9j r fs];exact q
theorem Ju:J3w X (.builtin "len") (fun xs H Q=>∃p ys,xs=[.ref p]/\(SqL X.K H p ys\/SqT X.K H p ys)/\Q (.int ys.length) H):=by
 intro pins s σ H xs us Q I r h;obtain⟨p,ys,rfl,b,q⟩:=h;obtain⟨u,rfl,e⟩:=J6v r;cases e;have g:=Ja2;rcases b with b|b
 ·obtain⟨d,c,pl,f⟩:=I.list b;have a:=c.length;exact Calls.call_len_list pl.isList (by simp only[size_toArray] <;> lia) ⟨.int ys.length,H,I.tok _,⟨s.toks+1,by rw[size_toArray,a]⟩,q⟩
 ·obtain⟨d,c,pl,f⟩:=I.tuple b;have a:=c.length;exact len_tuple pl (by simp only[size_toArray] <;> lia) ⟨.int ys.length,H,I.tok _,⟨s.toks+1,by rw[size_toArray,a]⟩,q⟩
theorem Jd5:J3w X (.type "list") (fun xs H Q=>∃p ys,xs=[.ref p]/\(SqL X.K H p ys\/SqT X.K H p ys)/\∀l,H l=none->Q (.ref l) (upd H l (.lst ys))):=by
 intro pins s σ H xs us Q I r h;obtain⟨p,ys,rfl,f,q⟩:=h;obtain⟨u,rfl,v⟩:=J6v r;cases v;have fin:∀(a:List Value),Vals ys a->ys.length<=sizeLine->∀(h':Heap) (c':Nat),(∀b m,s.heap.get? b=some m->h'.get? b=some m)->
   h'.get? s.heap.objs.size=some { cls:=.type "list",dict:=none,data:=.seq a.toArray c',slots:=#[] }->EP X pins σ Q (.ref s.heap.objs.size) { s with heap:=h' }:=fun a c d h' c' kp e =>
  ⟨.ref s.heap.objs.size,_,I.laid (t':=s.toks) kp (Nat.le_refl _) (show J2j X.prog X.w _ h' _ (.lst ys) from⟨d,a,c',c,e⟩),rfl,q _ (I.hok.fresh (Nat.le_refl _))⟩
 rcases f with f|f
 ·obtain⟨a,c,pl,d⟩:=I.list f;have g:=c.length;obtain⟨o,i,j,n,hd⟩:=pl.isList;exact call_list_seq p (.inl rfl) i j hd (fun h' c' kp e=>fin a c d h' c' kp e) (by simp only[size_toArray] <;> lia)
 ·obtain⟨a,c,pl,d⟩:=I.tuple f;have g:=c.length;obtain⟨o,i,j,n,hd⟩:=pl;exact call_list_seq p (.inr rfl) i j hd (fun h' c' kp e=>fin a c d h' c' kp e) (by simp only[size_toArray] <;> lia)
theorem Jbn:J3w X (.type "tuple") (fun xs H Q=>∃p ys,xs=[.ref p]/\((SqL X.K H p ys/\∀l,H l=none->Q (.ref l) (upd H l (.tup ys)))\/(SqT X.K H p ys/\Q (.ref p) H))):=by
 intro pins s σ H xs us Q I r h;obtain⟨p,ys,rfl,h⟩:=h;obtain⟨u,rfl,i⟩:=J6v r;cases i;rcases h with⟨hq,q⟩|⟨hq,q⟩
 ·obtain⟨a,c,pl,d⟩:=I.list hq;have f:=c.length;refine call_tuple_list pl.isList (fun h' kp=>?_) (by simp only[size_toArray] <;> lia);have g:=I.kept (t':=s.toks) kp;have j:=
   g.laid (t':=s.toks) (fun b o e=>get?_push_of_some _ e) (Nat.le_refl _) (show J2j X.prog X.w _ _ _ (.tup ys) from⟨d,a,c,TupX.new _ _⟩)
  exact⟨.ref h'.objs.size,_,j,rfl,q _ (g.hok.fresh (Nat.le_refl _))⟩
 ·obtain⟨a,c,pl,d⟩:=I.tuple hq;exact call_tuple_same pl ⟨.ref p,H,I,rfl,q⟩
noncomputable def tyV(K:Frag)(T:String)(x:V)(H:Hp):Prop:=match x with
 | .str _=>T="str"
 | .int _=>T="int"
 | .ref p=>(T="list"/\∃xs,SqL K H p xs)\/(T="tuple"/\∃o,K.lookup p=some o/\o.cls=.type "tuple"/\o.dict=none)\/
   (T="dict"/\((∃kvs,H p=some (.dK kvs))\/∃kvs,H p=some (.dT kvs)))\/(T="set"/\∃S n,H p=some (.set S n))
 | _=>False
theorem tyV_is(I:Inv X pins σ H s)(r:RelV x v)(b:tyV X.K T x H):
  s.TypeIs v T/\∀a,v=.ref a->∃f,s.heap.get? a=some f/\f.dict=none:=by
 cases x with
 | str z =>
  obtain⟨t,rfl⟩:=r;cases (show T="str" from b);exact⟨typeIs_str s z t,fun _ e=>nomatch e⟩
 | int i =>
  obtain⟨t,rfl⟩:=r;cases (show T="int" from b);exact⟨typeIs_int s i t,fun _ e=>nomatch e⟩
 | ref p =>
  cases r;rcases b with⟨rfl,xs,hq⟩|⟨rfl,o,hk,hc,hd⟩|⟨rfl,hk⟩|⟨rfl,S,n,hk⟩
  ·obtain⟨g,_,pl,_⟩:=I.list hq;refine⟨pl.isList.typeIs,fun a e=>?_⟩;cases e;obtain⟨o,n,e,c,hd,_⟩:=pl;exact⟨o,e,hd⟩
  ·refine⟨⟨o,I.kIn p o hk,hc⟩,fun a e=>?_⟩;cases e;exact⟨o,I.kIn _ o hk,hd⟩
  ·have z:∃o,s.heap.get? p=some o/\o.ExactDict:=by
    rcases hk with⟨kvs,hk⟩|⟨kvs,hk⟩
    ·obtain⟨_,_,_,_,o,_,_,e,ex,_⟩:=I.hok p _ hk;exact⟨o,e,ex⟩
    ·obtain⟨_,_,_,_,o,_,_,e,ex,_⟩:=I.hok p _ hk;exact⟨o,e,ex⟩
   obtain⟨o,e,ex⟩:=z;refine⟨⟨o,e,ex.1⟩,fun a d=>?_⟩;cases d;exact⟨o,e,ex.2.1⟩
  ·obtain⟨o,_,_,_,e,ex,_⟩:=I.hok p _ hk;refine⟨⟨o,e,ex.1⟩,fun a d=>?_⟩;cases d;exact⟨o,e,ex.2.1⟩
 | _=>exact False.elim b
noncomputable def tBM(K:Frag)(T:String)(r:V->List V->Hp->VK->Prop)(b:TE)(t:TA):TE:=fun σ H Q=>b σ H fun x a=>tyV K T x a/\t σ a fun xs c=>r x xs c Q
variable{o e:Expr}{es:List Expr}{to:TE}{t:TA}{name:Str}{apos cpos:Pos}{T id:String}{r:V->List V->Hp->VK->Prop}
theorem J5s(y:PlainAttrs T)(slot:Slot T name id)(f:typeOf (.builtin id)=pure (.type "method_descriptor"))(B:MtR X id r)(A:PE X o to)(C:PA X (e::es) t)(b:attributeBase o name X.env (eval o X.env)=eval o X.env:=by rfl)(c:((backTo cpos (starEach (e::es) X.env)).all (fun x=>!x.1)&&(backToKw cpos (keywordEach [] X.env)).all (fun x=>x.1.isSome)
   && decide ((e::es).length+([]:List Keyword).length+(if ([]:List Keyword).isEmpty then 0 else 1)<30))=true:=by rfl)(a:(apos.endLine==cpos.line)=true:=by rfl)(z:starEach (e::es) X.env=(false,eval e X.env)::starEach es X.env:=by rfl)(d:(backTo cpos (starEach es X.env)).any (·.1)=false:=by rfl):
  PE X (.Call (.Attribute o name apos) (e::es) [] cpos) (tBM X.K T r to t):=by
 intro pins s σ H Q I h;refine wpAny_Call_method_late b c a rfl (thn (A pins s σ H _ I h) fun v p g=>?_);obtain⟨x,J,l,i,m,w⟩:=g;obtain⟨E,D⟩:=tyV_is l i m;refine⟨T,id,y,slot,f,E,D,?_⟩;have j:=C cpos pins p σ J _ l w;rw[z] at j ⊢;refine Calls.callWith_builtin (by assumption) (Calls.evalArgs_plain ?_);exact thn j fun us n g=>by obtain⟨vs,G,F,q,u⟩:=g;exact B pins n σ G x vs v us Q F i q u
end
noncomputable def MtM(X:Cx)(id:String)(r:V->List V->Hp->VK->Prop):Prop:=
 ∀(pins:List (Addr×Obj)) (s:Shared) (σ:St) (H:Hp) (x:V) (xs:List V) (v:Value) (us:List Value) (Q:VK),Inv X pins σ H s->RelV x v->Vals xs us->r x xs H Q->
  wpAny (model X.prog X.w) X.A (call (.builtin id) (v::us)) (EP X pins σ Q) X.xe s
theorem Vals.one:∀{x:V} {us:List Value},Vals [x] us->∃u,us=[u]/\RelV x u:=fun r=>J6v r
theorem Vals.rep(h:Vals xs us):∀k ,Vals (replicate k xs).flatten (replicate k us).flatten
 | 0=>.nil
 | k+1=>by
  exact Vals.append h (Vals.rep h k)
theorem J8v(a:List Value):∀(k:Nat) (acc:List Value),
  foldl (fun c b=>c++b) acc.toArray (replicate k a.toArray)=(acc++(replicate k a).flatten).toArray
 | 0,acc=>by simp
 | k+1,acc=>by
  have e:acc.toArray++a.toArray=(acc++a).toArray:=by simp
  have d:(acc++a)++(replicate k a).flatten=acc++(replicate (k+1) a).flatten:=by
   rw[List.replicate_succ,List.flatten_cons,List.append_assoc]
  rw[<- d,<- J8v a k (acc++a),<- e,List.replicate_succ,List.foldl_cons]
section
variable{X:Cx}{pins:List (Addr×Obj)}{σ:St}{H:Hp}{s:Shared}{l b:Addr}{xs ys zs:List V}
theorem Inv.lset{a:List Value}(I:Inv X pins σ H s)(h:H l=some (.lst xs))(e:s.heap.get? l=some { cls:=.type "list",data:=.seq a.toArray n })(g:f a.toArray=its'.toArray)(c:Vals ys its')(b:ys.length<=sizeLine):
  Inv X pins σ (upd H l (.lst ys)) { s with heap:=s.heap.update l (Obj.mapSeq f),toks:=t' }:=by
 have q:=PySem.IsL.update e f;rw[g] at q;refine I.write (x:=l) (e:=l) (by rw[h];exact trivial) (.inl rfl) (fun i u hb d=>(Heap.get?_update_other s.heap (Obj.mapSeq f) (Ne.symm hb)).trans d) ⟨_,q⟩ ?_;exact⟨b,its',_,c,q⟩
theorem Inv.lnew(I:Inv X pins σ H s)(b:Vals ys its)(a:ys.length<=sizeLine):
  Inv X pins σ (upd H s.heap.objs.size (.lst ys)) { s with heap:=s.heap.push { cls:=.type "list",data:=.seq its.toArray },toks:=t' } :=
 I.laid (fun _ _ q=>get?_push_of_some _ q) (Nat.le_refl _) ⟨a,its,0,b,get?_push_size _ rfl⟩
theorem Inv.fresh(I:Inv X pins σ H s):H s.heap.objs.size=none:=I.hok.fresh (Nat.le_refl _)
theorem Inv.lstM(I:Inv X pins σ H s)(b:H l=some (.lst xs)):xs.length<=sizeLine/\∃(a:List Value) (n:Nat),Vals xs a/\xs.length=a.length/\s.heap.get? l=some { cls:=.type "list",data:=.seq a.toArray n }:=by
 obtain⟨z,a,n,r,e⟩:=I.hok l _ b;exact⟨z,a,n,r,r.length,e⟩
theorem Jfu(h:n<=sizeLine):Builtin.List.listTooLong n=false:=by
 unfold Builtin.List.listTooLong
 grind
end
section
variable{X:Cx}
inductive Jna(x:V)(vs:List V)(H:Hp)(Q:VK):Prop
 | mk(l xs y:_)(_:x=.ref l)(_:vs=[y])(_:H l=some (.lst xs))(_:xs.length<sizeLine)(_:Q .non (upd H l (.lst (xs++[y]))))
noncomputable def Jr8:V->List V->Hp->VK->Prop:=fun x vs H Q=>Jna x vs H Q
theorem J26:MtM X "list.append" Jr8:=by
 intro pins s σ H x vs v us Q I c d h;obtain⟨l,xs,y,rfl,rfl,b,g,q⟩:=h;cases c;obtain⟨u,rfl,f⟩:=d.one;obtain⟨z,a,n,r,i,e⟩:=I.lstM b;refine call_meets F.slot_list_append ⟨_,e,rfl⟩ F.entry_list_append (F.args_list_append_2 _ _) (PySem.list_append l a.toArray n u (by grind)) ⟨e,?_⟩;refine⟨.non,_,I.lset (its':=a++[u]) b e (by simp) (r.append (.cons f .nil)) ?_,rfl,q⟩;rw[length_append,List.length_singleton];lia
inductive Jn9(x:V)(vs:List V)(H:Hp)(Q:VK):Prop
 | mk(l b xs a:_)(_:x=.ref l)(_:vs=[.ref b])(_:H l=some (.lst xs))(_:H b=some (.lst a))(_:xs.length+a.length<=sizeLine)(_:Q .non (upd H l (.lst (xs++a))))
noncomputable def Jr7:V->List V->Hp->VK->Prop:=fun x vs H Q=>Jn9 x vs H Q
theorem Jcf:MtM X "list.extend" Jr7:=by
 intro pins s σ H x vs v us Q I g i h;obtain⟨l,b,xs,A,rfl,rfl,f,w,C,q⟩:=h;cases g;obtain⟨u,rfl,j⟩:=i.one;cases j;obtain⟨z,c,n,r,D,e⟩:=I.lstM f;obtain⟨B,a,o,m,p,y⟩:=I.lstM w;have hsz:c.toArray.size+a.toArray.size<=sizeLine:=by grind
 have d:¬ (!c.toArray.isEmpty&&Builtin.List.listTooLong (c.toArray.size+a.toArray.size))=true:=by
  rw[Jfu hsz,Bool.and_false];exact Bool.false_ne_true
 refine call_meets F.slot_list_extend ⟨_,e,rfl⟩ F.entry_list_extend (F.args_list_extend_2 _ _)
  (AutoSeq1.list_extend_list_list_0 l c.toArray n b a.toArray o d (by grind) (by lia)) ⟨e,y,?_⟩
 refine⟨.non,_,I.lset (its':=c++a) f e (by simp) (r.append m) ?_,rfl,q⟩;rw[length_append];lia
inductive rCatR(x y:V)(H:Hp)(Q:VK):Prop
 | mk(l b xs a:_)(_:x=.ref l)(_:y=.ref b)(_:H l=some (.lst xs))(_:H b=some (.lst a))(_:xs.length+a.length<=sizeLine)(_:∀p,H p=none->Q (.ref p) (upd H p (.lst (xs++a))))
noncomputable def rCat:R2:=fun x y H Q=>rCatR x y H Q
theorem Jfr:OpR X (binaryOp .Add) rCat:=by
 intro pins s σ H x y v u Q I f d h;obtain⟨l,b,xs,w,rfl,rfl,j,m,C,q⟩:=h;cases f;cases d;obtain⟨z,c,n,r,D,e⟩:=I.lstM j;obtain⟨A,a,B,g,i,p⟩:=I.lstM m;refine PySem.P.add_list e p ?_ (by simp_all);have o:c.toArray++a.toArray=(c++a).toArray:=by simp
 rw[o];exact⟨.ref _,_,I.lnew (t':=s.toks) (r.append g) (by rw[length_append];lia),rfl,q _ I.fresh⟩
inductive rRepR(x y:V)(H:Hp)(Q:VK):Prop
 | mk(l k xs:_)(_:x=.ref l)(_:y=.int k)(_:H l=some (.lst xs))(_:-(2^63)<=k)(_:k<2^63)(_:xs.length*k.toNat<=sizeLine)(_:∀p,H p=none->Q (.ref p) (upd H p (.lst (replicate k.toNat xs).flatten)))
noncomputable def rRep:R2:=fun x y H Q=>rRepR x y H Q
theorem Jkb{α:Type}(xs:List α)(k:Nat):(replicate k xs).flatten.length=k*xs.length:=by
 simp_all
theorem Jj3:OpR X (binaryOp .Mult) rRep:=by
 intro pins s σ H x y v u Q I A w h;obtain⟨l,k,xs,rfl,rfl,C,E,D,p,q⟩:=h;cases A;obtain⟨t,rfl⟩:=w;obtain⟨z,b,n,r,B,e⟩:=I.lstM C;have f:b.toArray.size*k.toNat<=sizeLine:=by rw[size_toArray,<- B];exact p
 have i:¬ b.toArray.size*k.toNat>(2^63-1)/8:=by
  have:(sizeLine:Nat)<=(2^63-1)/8:=by decide
  lia
 have g:¬ (!Builtin.List.listFitsIndex k)=true:=by
  rw[fitsIndex_both E D];exact Bool.false_ne_true
 have c:¬ Builtin.List.listTooLong (b.toArray.size*k.toNat)=true:=by
  rw[Jfu f];exact Bool.false_ne_true
 have d:foldl (fun o j=>o++j) #[] (replicate (if b.toArray.isEmpty=true then 0 else k.toNat) b.toArray)=(replicate k.toNat b).flatten.toArray:=by
  have G:∀m ,foldl (fun o j=>o++j) #[] (replicate m b.toArray)=(replicate m b).flatten.toArray:=fun m=>by
   have:=J8v b m [];exact this
  rw[G]
  cases b with
  | nil=>simp
  | cons a r'=>rw[if_neg (by simp)]
 refine wpAny_binaryOp_repeat_ref (T:="list") (U:="int") (by decide) ⟨_,e,rfl⟩ (fun s'=>typeIs_int s' k t) noFill_list_mul F.fills_int_mul F.slot_int_rmul repeat_list F.slot_int_index.lookup
  (call_meets F.slot_int_rmul (typeIs_int s k t) F.entry_int_rmul (F.args_int_rmul_2 _ _) (int___rmul___int_list k t l b.toArray n)
   ⟨e,rfl,⟨_,e,rfl⟩,call_meets F.slot_list_mul ⟨_,e,rfl⟩ F.entry_list_mul (F.args_list_mul_2 _ _) (AutoListH.list___mul___list_int_3 l b.toArray n k t g i c) ⟨e,?_⟩⟩)
 rw[d];exact⟨.ref _,_,I.lnew (t':=s.toks) (r.rep k.toNat) (by rw[Jkb,Nat.mul_comm];exact p),rfl,q _ I.fresh⟩
end
section
variable{prog:Program}{w:World}{A:Around}{E:Value->Shared->Prop}{s:Shared}
set_option maxRecDepth 100000 in
end
end L2
namespace Att
open PySem PySem.W PySem.Calls PyProof.Rows
theorem J8p :∀(ns:List Int) (vs:List Value),WellAll P h vs (ns.map WData.int)->IntsAre vs ns:=by
 intro ns
 induction ns with
 | nil =>
  intro vs w;cases w;exact .nil
 | cons n ns ih =>
  intro vs w
  cases w with
  | cons a b =>
   cases a;exact .cons _ _ (ih _ b)
theorem Jim{l:OpenLaw}{n:Nat}(p:l.most=some n){P:Params}{h:Heap}{args:List WData}{b:List Value}(c:l.row.toRowW.claim.pre args=true)(i:WellAll P h b args):
  ∃a vs ns,b=[Value.ref a]/\args=[WData.list (ns.map WData.int)]/\h.get? a=some { cls:=.type "list",data:=.seq vs.toArray }/\IntsAre vs ns/\ns.length<=n:=by
 have j:WShape.hasAll [] args [.list .int]=true:=(pre_splitW c).1;have m:l.pre.holds [] { args:=args }=true:=(pre_splitW c).2;obtain⟨d,r,rfl,v,u⟩:=hasAllW_cons j;obtain rfl:=hasAllW_nil u;obtain⟨xs,rfl,s⟩:=hasW_list v;obtain⟨ns,rfl⟩:=items_int s;have e:ns.length<=n:=by
  unfold OpenLaw.pre at m;have g:(WTm.not (.lt (.lit (.int (n:Int))) (.len (.arg 0)))).holds [] { args:=[.list (ns.map .int)] }=true:=by
   have g:=(holds_andW m).1;rw[p] at g;exact g
  have f:=condW_of g (w_not (w_lt w_lit (w_len_list (w_arg rfl))));rw[length_map] at f;refine Nat.le_of_not_lt fun q=>?_;have o:(n:Int)<((ns.length:Nat):Int):=by lia
  first
   | (rw[decide_eq_true o] at f;exact absurd f (by decide))
   | (simp at f;lia)
 cases i with
 | cons w1 w2 =>
  cases w2
  cases w1 with
  | list ho hall=>exact⟨_,_,ns,rfl,rfl,ho,J8p ns _ hall,e⟩
theorem Jix(l:OpenLaw)(args:List WData):l.row.toRowW.claim.post args (.bool true) args=true:=
 postW_of (r:=l.row.toRowW) (X:=(true==true))
  (show WShape.has [] (.bool true) .bool=true by rfl)
  (show(WTm.eq .res (.lit (.bool true))).value [] { args:=args,res:=some (.bool true),after:=args }=some (.bool (true==true)) from w_eq_bool (w_res rfl) w_lit) rfl
theorem attach_call{l:OpenLaw}(F:l.most=some n)(v:d.params.defaults=[])(call:∀(w:World) (s₀ b:Shared) (mg mb:Str->Option Value) (j:Addr) (o:Obj) (p m e:Value) (a:Addr) (vs:List Value) (ns:List Int),
   Ground q loose [] XP w s₀ mg mb b.heap->YP w b.heap->
   b.heap.get? j=some o->o.data=.func (docDef d.name d.params d.body d.scope p m e)->b.heap.CodeRec m d.name->mg d.name=some (.ref j)->
   b.heap.get? a=some { cls:=.type "list",data:=.seq vs.toArray }->IntsAre vs ns->ns.length<=n->b.gens=#[]->
   codeAny (model l.prog w) callerA (.call (.ref j) ⟨[.ref a],[]⟩) (fun r s'=>r=.ok (.ret (.bool true))/\OldK b.heap s'.heap/\s'.os=b.os/\AllBare s'.gens) b):
  WalkO q loose XP YP l.row.toRowW d [] (fun f vs=>PySem.call f vs):=by
 intro w s₀ b mg mb G Y j o p m e N kV E hd y B u J args z O g A C s I;obtain rfl:N=.none:=Dflts.none B v;obtain rfl:kV=.none:=Dflts.noKw B;obtain⟨a,vs,ns,rfl,rfl,h,c,i⟩:=Jim F g s;refine enter_call (codeAny_mono (call w s₀ b mg mb j o p m e a vs ns G Y E (fd_plain hd) y u h c i J) fun r s' D=>?_);obtain⟨rfl,M,L,K⟩:=D;exact⟨.inl ⟨.bool true,.bool true,[],rfl,fun _=>rfl,.bool true,Jix l _,fun _=>⟨List.Pairwise.nil,fun _ H=>(nomatch H)⟩⟩,M,L,K⟩
end Att
namespace L2
open PySem PySem.Spec PyProof.Rows
theorem J62:∀{vs:List Value} {ns:List Int},IntsAre vs ns->Vals (ns.map V.int) vs
 | _,_,.nil=>.nil
 | _,_,.cons n t h=>.cons ⟨t,rfl⟩ (J62 h)
noncomputable def Jc(s:Stmt)(j:Nat):Stmt:=match s with
 | .ClassDef _ _ _ body _ _ _ _ _ _ _=>body.getD j (.Pass ⟨0,0,0,0⟩)
 | _=>.Pass ⟨0,0,0,0⟩
noncomputable def J2p(s:Stmt):Arguments:=match s with
 | .FunctionDef _ a _ _ _ _ _ _ _ _=>a
 | _=>{ posonlyargs:=[],args:=[],vararg:=none,kwonlyargs:=[],kw_defaults:=[],kwarg:=none,defaults:=[] }
noncomputable def J1g(s:Stmt):List Stmt:=match s with
 | .FunctionDef _ _ b _ _ _ _ _ _ _=>b
 | _=>[]
noncomputable def Jd(s:Stmt):Scope:=match s with
 | .FunctionDef _ _ _ _ _ _ sc _ _ _=>sc
 | _=>{ kind:=.function,names:=[],isGenerator:=false,isCoroutine:=false }
noncomputable abbrev CX0:CXT:=fun _ _ _ _ _ _=>False
noncomputable abbrev E0:XK:=fun _ _ _=>False
theorem Jj :J46 CX0 X E0:=fun _ _ _ _ _ _ _ h=>h.elim
structure Fun(K:Frag)(x qual:Str)(st:Stmt)(f:Addr)(fd:FuncData):Prop where
 ex:∃(oc:Value) (od:Option Addr) (kV doc pm:Value) (an:Option Addr) (cdv ct:Value) (osl:Array (Option Value)),
  fd=fnOf x qual (J2p st) (J1g st) (Jd st) .none kV doc pm an cdv ct/\K.lookup f=some ⟨oc,od,.func fd,osl⟩/\codeIn K cdv qual=true
 kp:keepIn K (.ref f)=true
section
variable{P:Program}{w:World}{K:Frag}{mg:Str->Option Value}{base:Heap}
theorem Fun.ok{st:Stmt}(F:Fun K x qual st f fd)(S:Jr N ps (Jd st))(len:∀vs H Q E,sp vs H Q E->vs.length=ps.length)(b:∀(a:Value) (A:Around) (outer:List Env) (s:Shared) (H:Hp) (vs:List V) (Q:VK) (E:XK),Room k (A.deeper (envOfC qual (Jd st) s.heap.objs.size f a))->sp vs H Q E->
   ∃t,PSs (cxOf CX0 P w K mg base N qual (Jd st) f a A outer s H E).nox (J1g st) t/\t { nx:=fun _ l=>Q .non l,rt:=Q } (start N vs) H):FnOk P w K mg base CX0 (k+1) f fd ps sp:=by
 obtain⟨o,n,kV,j,m,p,a,ct,e,rfl,g,d⟩:=F.ex;refine Jor g d S len fun A outer s H vs Q E i c=>?_;obtain⟨t,h,q⟩:=b a A outer s H vs Q E i c;exact⟨t,h.nox,q⟩
theorem Jcp{st:Stmt}{kV:Value}(l:K.lookup f=some ⟨oc,od,.func (fnOf x qual (J2p st) (J1g st) (Jd st) .none kV doc pm an cdv ct),osl⟩)(c:codeIn K cdv qual=true)(k:keepIn K (.ref f)=true):Fun K x qual st f (fnOf x qual (J2p st) (J1g st) (Jd st) .none kV doc pm an cdv ct):=⟨⟨oc,od,kV,doc,pm,an,cdv,ct,osl,rfl,l,c⟩,k⟩
end
theorem Joo(a:Room k A):A.units+1<cLine:=Nat.lt_of_le_of_lt (Nat.add_le_add_left (by decide:1<=64) _) a.units
theorem Js(h:n<=1000):n<sizeLine:=Nat.lt_of_le_of_lt h (by decide)
section
variable{X:Cx}
theorem pv(i:Nat){x:Str}{pos:Pos}(c:X.N[i]?=some x:=by rfl)(b:Vis X.env.scope x:=by first|exact Or.inl rfl|exact Or.inr (Or.inl rfl)|exact Or.inr (Or.inr rfl))(hd:(x==("__debug__":Str))=false:=by decide)(a:(x==("__classdict__":Str))=false:=by decide):PE X (.Name x pos) (tVar i):=pe_var c b hd a
end
theorem iteF{A:Prop}(h:B):if false=true then A else B:=by
 simp_all
theorem iteT{A:Prop}(h:A):if true=true then A else B:=by
 simp_all
theorem Jcl{A:Prop}[Decidable c](a:c)(h:B):if (!decide c)=true then A else B:=by
 simp_all
noncomputable def Same(H a:Hp):Prop:=∀b o,H b=some o->a b=some o
theorem Same.refl(H:Hp):Same H H:=fun _ _ h=>h
theorem Same.trans(a:Same H H1)(b:Same H1 H2):Same H H2:=fun c o h=>b c o (a c o h)
theorem Same.free(e:Same H H')(h:H' l=Option.none):H l=Option.none:=by
 cases q:H l with
 | none=>rfl
 | some o =>
  rw[e l o q] at h;cases h
theorem Same.seq{K:Frag}(e:Same H H')(h:SqL K H a xs):SqL K H' a xs:=by
 rcases h with(h|⟨o,h⟩)|h
 ·exact .inl (.inl (e _ _ h))
 ·exact .inl (.inr ⟨o,e _ _ h⟩)
 ·exact .inr h
noncomputable abbrev Cx.block(X:Cx)(N:List Str)(a:Scope)(cl:List (Str×Addr))(C:Addr)(b:List Addr)(s:Shared)(H:Hp):Cx:=
 { X with N:=N,s₀:=s,H₀:=H,env:=compEnvC a cl C X.env,outer:=X.stack,stack:=X.stack,ex:=b,fn:=fun _=>false,pn:=[],xe:=fun _ _=>False }
theorem J8c{env:Env}:∀{names:List (Str×NameKind)} {x:Str} {k:NameKind},(names.map fun(n,k)=>if (k==NameKind.free&&env.scope.kind == .function&&env.kindOf n==some .cell) then (n,NameKind.cell) else (n,k)).lookup x=some k->
  k=.cell\/k=.free->(∀p∈names,p.2≠.cell)->∃p∈names,p.1=x/\p.2=.free
 | [],_,_,h,_,_=>by simp at h
 | (n,q)::r,x,k,h,hk,hc=>by
  have d:=@J8c env r x k;have f:q≠.cell:=hc (n,q) mem_cons_self;rw[map_cons] at h;by_cases c:x=n
  ·subst c;by_cases e:(q==NameKind.free&&env.scope.kind == .function&&env.kindOf x==some .cell)=true
   ·simp only[Bool.and_eq_true] at e;exact⟨(x,q),mem_cons_self,rfl,by simpa using e.1.1⟩
   ·have a:List.lookup x ((x,q)::List.map (fun(n,k)=>if (k==NameKind.free&&env.scope.kind == .function&&env.kindOf n==some .cell) then (n,NameKind.cell) else (n,k)) r)=some k:=by
     simpa only [e,if_false,Bool.false_eq_true] using h
    rw[List.lookup_cons_self] at a;cases a;rcases hk with hk|hk
    ·exact absurd hk f
    ·exact⟨(x,q),mem_cons_self,rfl,hk⟩
  ·have hb:(x==n)=false:=by simpa using c
   have h':(List.map (fun(n,k)=>if (k==NameKind.free&&env.scope.kind == .function&&env.kindOf n==some .cell) then (n,NameKind.cell) else (n,k)) r).lookup x=some k:=by
    by_cases e:(q==NameKind.free&&env.scope.kind == .function&&env.kindOf n==some .cell)=true
    ·simp only[e,if_true,List.lookup_cons,hb] at h;exact h
    ·simp only[e,if_false,Bool.false_eq_true,List.lookup_cons,hb] at h;exact h
   obtain⟨p,b,g,a⟩:=d h' hk fun p b=>hc p (mem_cons_of_mem _ b);exact⟨p,mem_cons_of_mem _ b,g,a⟩
noncomputable def capv(σ:St)(js:List Nat):St:=js.map fun j=>(σ[j]?).join
theorem Jgk{k:Nat}(h:(capv σ js)[k]?=some (some v)):∃j,js[k]?=some j/\σ[j]?=some (some v):=by
 unfold capv at h;rw[getElem?_map] at h
 cases e:js[k]? with
 | none=>rw[e] at h;cases h
 | some j =>
  rw[e] at h;refine⟨j,rfl,?_⟩
  cases e2:σ[j]? with
  | none=>rw[map_some,e2] at h;cases h
  | some o=>simp_all
section
variable{X:Cx}{elt iter:Expr}{x y:Str}{px py:Pos}{scope:Scope}{cl:List (Str×Addr)}{pos spos:Pos}{wi:TI}{te:TE}{caps:List Str}{js:List Nat}{i:Nat}
theorem Jgn(I:Inv X pins σ H s)(m:s.heap.objs.size<=C)(j:∀b∈fp,FpOk X pins H b)(u:∀b∈fp,b<s.heap.objs.size)(f:scope.kind=.function)(g:∀p∈scope.names,p.2≠.cell)(d:∀p∈cl,X.env.cells.lookup p.1=some p.2)(i:∀p∈scope.names,p.2=.free->∃c,cl.lookup p.1=some c):
  (X.block (x::caps) scope cl C fp s H).Ok where
 mod:=I.ok.mod
 kind:=f
 glob:=I.ok.glob
 blt:=I.ok.blt
 above:=m
 inj:=fun a b c l r=>I.ok.inj a b c (d _ (mem_of_lookup l)) (d _ (mem_of_lookup r))
 has:=fun a h=>by
  have h':(∃k,(relabel scope X.env).names.lookup a=some k/\(k=.cell\/k=.free)):=by
   rcases h with h|h
   ·exact⟨_,h,.inl rfl⟩
   ·exact⟨_,h,.inr rfl⟩
  obtain⟨k,l,q⟩:=h';obtain⟨p,n,w,v⟩:=J8c l q g;rw[<- w];exact i p n v
 cab:=fun _ _ h=>nomatch h
 hd:=I.ok.hd
 frames:=I.ok.frames
 stk:=.inl rfl
 exf:=fun b hb=>⟨Nat.ne_of_lt (Nat.lt_of_lt_of_le (u b hb) m),fun a c e=>(j b hb).2.2.2.2.1 a c (d _ (mem_of_lookup e))⟩
 bs:=I.bs
 bsz:=Nat.le_trans I.ok.bsz I.sz
 noex:=fun b o e hb=>by
  rcases(j b hb).2.2.2.1 with z|z
  ·exact I.ok.noex b o e z
  ·exact absurd (Nat.lt_of_lt_of_le (lt_size e) (Nat.le_trans I.ok.bsz z)) (Nat.lt_irrefl _)
 exfs:=fun b hb z=>by
  rcases mem_cons.mp (I.stkSub b z) with e|e
  ·exact(j b hb).2.1 e
  ·exact(j b hb).2.2.1 e
 funs:=I.stack
 frf:=I.stkFree
end
section
variable{X:Cx}
noncomputable abbrev SqI(K:Frag)(H:Hp)(p:Addr)(xs:List V):Prop:=SqL K H p xs\/SqT K H p xs
theorem J7y(hi:IntsAre its ns):∃xs:Array (Int×Tok),its.toArray=intItems xs/\preSum (numAt xs) xs.size=ns.sum/\ns=xs.toList.map (·.1):=by
 obtain⟨xs,a⟩:=hi.allInts.items;have b:ns=xs.toList.map (·.1):=by
  rw[<- nums_intItems,<- a];exact(show numsOf its.toArray.toList=ns from hi.numsOf).symm
 refine⟨xs,a,?_,b⟩;rw[preSum_eq,List.take_of_length_le (by simp),b]
theorem J1z(l:X.calm=true):J3w X (.builtin "sum") (fun xs H Q=>∃(p:Addr) (ns:List Int),xs=[.ref p]/\SqI X.K H p (ns.map V.int)/\Q (.int ns.sum) H):=by
 intro pins s σ H xs us Q I r h;obtain⟨p,ns,rfl,b,q⟩:=h;obtain⟨u,rfl,i⟩:=J6v r;cases i;have g:=I.ok.hd l;rcases b with b|b
 ·obtain⟨a,c,pl,j⟩:=I.list b;obtain⟨xs,d,f,_⟩:=J7y (J2c c);refine sum_intListG g (d▸pl.isList) fun h' tk t' e=>?_;rw[f];exact⟨.int ns.sum,H,I.kept e,⟨t',rfl⟩,q⟩
 ·obtain⟨a,c,pl,j⟩:=I.tuple b;obtain⟨xs,d,f,_⟩:=J7y (J2c c);refine PySem.W.ktm_sumG g (d▸(show s.heap.IsTuple p a.toArray from pl)) fun h' tk t' e=>?_;rw[f];exact⟨.int ns.sum,H,I.kept e,⟨t',rfl⟩,q⟩
theorem Jch(m:A.handled=none)(c:s.heap.IsTuple l (intItems xs))(d:0<xs.size)(h:∀v h' tk,(intItems xs)[argBest (fun i j=>decide (numAt xs i<numAt xs j)) (xs.size-1)]?=some v->(∀b o,s.heap.get? b=some o->h'.get? b=some o)->Q v { s with heap:=h',toks:=tk }):
  wpAny (model prog w) A (call (.builtin "min") [.ref l]) Q E s:=by
 obtain⟨o,f,q,n,hd⟩:=id c;have a:=Nat.ne_of_lt (lt_size f);refine call_min_walk (wpAny_pyIter_tuple c ?_);refine⟨s.heap.objs.size,_,_,_,_,_,_,rfl,Walks.tuple (A:=A.in1) m _ l a (intItems xs),⟨⟨_,get?_push_size _ rfl,rfl,rfl⟩,c.at fun o e=>get?_push_of_some _ e⟩,fun b hb=>?_,by simpa [intItems] using d,CmpOf.ints_lt (numAt xs) (fun _ _=>intItems_at),fun v h' tk p g=>?_⟩
 ·rcases mem_cons.mp hb with rfl|hb
  ·exact lt_size (get?_push_size _ rfl)
  ·obtain rfl:=mem_singleton.mp hb;exact lt_size (get?_push_of_some _ f)
 ·refine h v h' tk (by simpa [intItems] using p) fun b o e=>g b o (fun hb=>absurd (lt_size e) ((mem_singleton.mp hb)▸Nat.lt_irrefl _)) (get?_push_of_some _ e)
theorem Jgp(b:ns=xs.toList.map (·.1))(hsz:0<xs.size):
  numAt xs (argBest (fun i j=>decide (numAt xs i<numAt xs j)) (xs.size-1))∈ns/\∀a∈ns,numAt xs (argBest (fun i j=>decide (numAt xs i<numAt xs j)) (xs.size-1))<=a:=by
 obtain⟨f,e⟩:=argBest_lt (numAt xs) (xs.size-1);refine⟨?_,fun a c=>?_⟩
 ·rw[b,numAt_eq];exact getD_mem (by rw[length_map,length_toList];lia)
 ·rw[b] at c;obtain⟨j,d,rfl⟩:=mem_getD c;rw[length_map,length_toList] at d;rw[<- numAt_eq];exact e j (by lia)
theorem Jgl(y:X.calm=true):J3w X (.builtin "min") (fun xs H Q=>∃(p:Addr) (ns:List Int),xs=[.ref p]/\SqI X.K H p (ns.map V.int)/\0<ns.length/\∀M,M∈ns->(∀a∈ns,M<=a)->Q (.int M) H):=by
 intro pins s σ H xs us Q I r h;obtain⟨p,ns,rfl,d,b,q⟩:=h;obtain⟨u,rfl,o⟩:=J6v r;cases o;have n:=I.ok.hd y;rcases d with d|d
 ·obtain⟨c,f,pl,w⟩:=I.list d;obtain⟨xs,g,_,e⟩:=J7y (J2c f);have hsz:0<xs.size:=by rw[e,length_map,length_toList] at b;exact b
  refine min_intList n (g▸pl.isList) hsz fun v h' tk i j=>?_;obtain⟨t,rfl⟩:=intItems_at i;obtain⟨m,l⟩:=Jgp e hsz;exact⟨.int _,H,I.kept j,⟨t,rfl⟩,q _ m l⟩
 ·obtain⟨c,f,pl,w⟩:=I.tuple d;obtain⟨xs,g,_,e⟩:=J7y (J2c f);have hsz:0<xs.size:=by rw[e,length_map,length_toList] at b;exact b
  refine Jch n (g▸(show s.heap.IsTuple p c.toArray from pl)) hsz fun v h' tk i j=>?_;obtain⟨t,rfl⟩:=intItems_at i;obtain⟨m,l⟩:=Jgp e hsz;exact⟨.int _,H,I.kept j,⟨t,rfl⟩,q _ m l⟩
end
section
variable{prog:Program}{w:World}{A:Around}{E:Value->Shared->Prop}{s:Shared}
theorem Jbj(c:s.heap.IsTuple l vs.toArray)(h:Q vs { s with heap:=(s.heap.push (seqObj "list" #[] 0)).update s.heap.objs.size (Obj.mapSeq (· ++ vs.toArray)) })(hsz:vs.length<=sizeLine):
  wpAny (model prog w) A (collect (.ref l)) Q E s:=by
 obtain⟨o,b,d,n,hd⟩:=id c;unfold collect;refine wpAny_bind (wpAny_runValue (codeAny_builtin entry_proto_collect' ?_));show wpAny _ _ (do again (.builtin "list.__iadd__" ⟨[<- newList [],.ref l],[]⟩)) _ _ s;refine wpAny_bind (wpAny_newList (wpAny_pure ⟨Code.quiet_builtin _ (by decide +kernel),codeAny_builtin entry_list_iadd' ?_⟩));show wpAny _ _ (Builtin.List.listExtendWith (.ref s.heap.objs.size) (.ref l) (.ref s.heap.objs.size)) _ _ { s with heap:=s.heap.push (seqObj "list" #[] 0) };unfold Builtin.List.listExtendWith;have a:(s.heap.push (seqObj "list" #[] 0)).get? l=some o:=get?_push_of_some _ b;refine wpAny_bind (wpAny_typeOf (T:="tuple") ⟨o,a,d⟩ ?_);rw[if_pos (by simp_all)];refine wpAny_bind (listItems_at a hd ?_);refine wpAny_bind (listItems_at (xs:=#[]) (n:=0) (get?_push_size _ rfl) rfl ?_);refine wpAny_bind (listUpdate_at (xs:=#[]) (n:=0) (get?_push_size _ rfl) rfl ?_ (Nat.zero_le _) (by grind));refine wpAny_pure ?_;refine wpAny_bind (wpAny_load (get?_update_seq (get?_push_size _ rfl) _) ?_);show wpAny _ _ (pure ((#[]:Array Value)++vs.toArray).toList) Q E _;rw[show((#[]:Array Value)++vs.toArray).toList=vs by simp];exact wpAny_pure h
theorem Jc0(d:s.heap.IsTuple l vs.toArray)(e:IntsAre vs ns)(c:vs.length<64)(h:∀(out:Array Value) (a:List Int),IntsAre out.toList a->a.Perm ns->a.Pairwise (·<=·)->Q (.ref (s.heap.objs.size+1)) { s with heap:=sortedAll s.heap vs out }):
  wpAny (model prog w) A (call (.builtin "sorted") [.ref l]) Q E s:=by
 refine Calls.call_function_entry kind_sorted plain_sorted entry_sorted (args_sorted1 _) ?_;refine wpAny_bind (m:=checkCount "sorted" 1 1 _) (wpAny_pure ?_);refine wpAny_bind (Jbj d ?_ (Nat.le_of_lt (Nat.lt_of_lt_of_le c (by decide))));refine wpAny_bind (wpAny_newList ?_);have hsz:((s.heap.push (seqObj "list" #[] 0)).update s.heap.objs.size (Obj.mapSeq (· ++ vs.toArray))).objs.size=s.heap.objs.size+1:=by
  simp_all
 have b:(((s.heap.push (seqObj "list" #[] 0)).update s.heap.objs.size (Obj.mapSeq (· ++ vs.toArray))).push (seqObj "list" vs.toArray 0)).get? (s.heap.objs.size+1)=some (seqObj "list" vs.toArray 0):=by
  rw[<- hsz];exact get?_push_size _ rfl
 rw[hsz];refine wpAny_bind (wpAny_holding (wpAny_call_entry slot_list_sort ⟨_,b,rfl⟩ entry_list_sort (list_sort_tree b e c fun out a i g f=>⟨_,rfl,?_⟩) (args_list_sort _)));exact wpAny_pure ⟨_,rfl,h out a i g f⟩
end
section
variable{X:Cx}
theorem Jeq:J3w X (.builtin "sorted") (fun xs H Q=>∃(p:Addr) (ns:List Int),xs=[.ref p]/\SqI X.K H p (ns.map V.int)/\ns.length<64/\∀l (c:List Int),H l=none->c.Perm ns->c.Pairwise (·<=·)->Q (.ref l) (upd H l (.lst (c.map V.int)))):=by
 intro pins s σ H xs us Q I r h;obtain⟨p,ns,rfl,g,w,q⟩:=h;obtain⟨u,rfl,n⟩:=J6v r;cases n;have fin:∀(d:List Value) (out:Array Value) (c:List Int),IntsAre out.toList c->c.Perm ns->c.Pairwise (·<=·)->EP X pins σ Q (.ref (s.heap.objs.size+1)) { s with heap:=sortedAll s.heap d out }:=fun d out c z m y=>by
  obtain⟨e,v⟩:=sortedAll_at s.heap d out;have i:(c.map V.int).length<=sizeLine:=by
   rw[length_map,m.length_eq];exact Nat.le_of_lt (Js (by lia))
  refine⟨.ref _,_,I.laid (t':=s.toks) (a:=s.heap.objs.size+1) (o:=.lst (c.map V.int)) (fun b o e=>sortedAll_old e) (Nat.le_succ _) ⟨i,out.toList,e,J62 z,v⟩,rfl,q _ c (I.hok.fresh (Nat.le_succ _)) m y⟩
 rcases g with g|g
 ·obtain⟨d,f,pl,i⟩:=I.list g;have j:=f.length;rw[length_map] at j;exact sorted_ints pl.isList (J2c f) (by lia) (fin d)
 ·obtain⟨d,f,pl,i⟩:=I.tuple g;have j:=f.length;rw[length_map] at j;exact Jc0 (show s.heap.IsTuple p d.toArray from pl) (J2c f) (by lia) (fin d)
theorem J6t:J3w X (.type "range") (fun xs H Q=>∃j:Int,xs=[.int j]/\∀r,H r=none->Q (.ref r) (upd H r (.rng 0 j))):=by
 intro pins s σ H xs us Q I r h;obtain⟨j,rfl,q⟩:=h;obtain⟨u,rfl,t,rfl⟩:=J6v r;refine call_range_1 ?_;exact⟨.ref s.heap.objs.size,_,I.laid (o:=.rng 0 j) (fun b o e=>get?_push_of_some _ e) (Nat.le_refl _) ⟨_,_,_,get?_push_size _ rfl⟩,rfl,q _ (I.hok.fresh (Nat.le_refl _))⟩
theorem J48{f:Nat->Int}:∀{n:Nat} {us:List Value},us.length=n->(∀(i:Nat) (v:Value),us[i]?=some v->∃t,v=Value.int (f i) t)->Vals ((List.range n).map fun i=>V.int (f i)) us:=by
 intro n us b h
 induction n generalizing f us with
 | zero=>cases us with
  | nil=>exact .nil
  | cons a r=>simp at b
 | succ n ih=>cases us with
  | nil=>simp at b
  | cons a r =>
   obtain⟨t,e⟩:=h 0 a rfl;subst e;rw[List.range_succ_eq_map,map_cons,map_map];exact .cons ⟨t,rfl⟩ (ih (f:=fun i=>f (i+1)) (by simpa using b) fun i v e=>h (i+1) v (by simpa using e))
theorem J3d(w:X.calm=true):J3w X (.type "list") (fun xs H Q=>∃(r:Addr) (n:Nat),xs=[.ref r]/\H r=some (.rng 0 (n:Int))/\n<=1000/\∀l,H l=none->Q (.ref l) (upd H l (.lst (((List.range n).map fun(i:Nat)=>(i:Int)).map V.int)))):=by
 intro pins s σ H xs us Q I r h;obtain⟨p,n,rfl,g,j,q⟩:=h;simp only[map_map,Function.comp_def] at q;obtain⟨u,rfl,d⟩:=J6v r;cases d;obtain⟨t,u,v,e⟩:=I.hok p _ g;refine call_list_range (I.ok.hd w) (show IsRange s.heap p 0 (n:Int) 1 t u v from e) (small_one (by lia) (by lia) (by lia) (by lia)) (by rw[rangeSize_one];split <;> lia) (n:=n) (by lia) fun h' tk b c' m c a=>?_;have f:Vals ((List.range n).map fun(i:Nat)=>V.int (i:Int)) b.toList:=J48 (by exact a.1) fun i v e=>by
  obtain⟨t,rfl⟩:=a.2 i v (by simpa using e);exact⟨t,by simp⟩
 refine⟨.ref s.heap.objs.size,_,I.laid (o:=.lst ((List.range n).map fun(i:Nat)=>V.int (i:Int))) m (Nat.le_refl _) ⟨?_,b.toList,c',f,by simpa using c⟩,rfl,q _ (I.hok.fresh (Nat.le_refl _))⟩;rw[length_map,length_range];exact Nat.le_of_lt (Js j)
noncomputable def Kin(xs ys:List V):Prop:=∀a∈xs,∀b∈ys,J5l a=true/\J5l b=true/\eqV a b=decide (a=b)
theorem Kin.ints(ns c:List Int):Kin (ns.map V.int) (c.map V.int):=fun a d b hb=>by
 obtain⟨i,_,rfl⟩:=mem_map.mp d;obtain⟨j,_,rfl⟩:=mem_map.mp hb;refine⟨rfl,rfl,?_⟩;show(i==j)=decide (V.int i=V.int j);by_cases e:i=j
 ·simp_all
 ·simp_all
noncomputable def eAt(xs ys:List V)(j:Nat):Bool:=match xs[j]?,ys[j]? with
 | some a,some b=>eqV a b
 | _,_=>true
theorem Jsg(c:xs.length=ys.length)(d:Kin xs ys):((List.range xs.length).all (eAt xs ys))=decide (xs=ys):=by
 rw[Bool.eq_iff_iff,all_eq_true,decide_eq_true_iff];constructor
 ·intro h;apply ext_getElem?;intro j;by_cases a:j<xs.length
  ·have f:=gE a;have e:=gE (c▸a);have:=h j (mem_range.mpr a);unfold eAt at this;rw[f,e] at this;have k:=(d _ (List.getElem_mem a) _ (List.getElem_mem (c▸a))).2.2;have this:eqV xs[j] (ys[j]'(c▸a))=true:=this;rw[k,decide_eq_true_iff] at this;rw[f,e,this]
  grind
 ·rintro rfl j a;have b:=mem_range.mp a;unfold eAt;rw[gE b];have k:=(d _ (List.getElem_mem b) _ (List.getElem_mem b)).2.2;show eqV _ _=true;rw[k];simp
theorem Jq2(r:Vals xs its)(c:Vals ys its2)(h:Kin xs ys)(j:Nat)(l:j<its.toArray.size)(i:j<its2.toArray.size):SeqAt.EqAt A s its.toArray[j] its2.toArray[j] (eAt xs ys j):=by
 have l1:=r.length;have o:=c.length;rw[size_toArray] at l i;have e:xs[j]?=some (xs[j]'(by lia)):=gE (by lia);have d:ys[j]?=some (ys[j]'(by lia)):=gE (by lia);obtain⟨u,q,g⟩:=r.get e;obtain⟨v,p,f⟩:=c.get d;have b:its.toArray[j]=u:=by
  simp_all
 have a:its2.toArray[j]=v:=by
  simp_all
 obtain⟨n,m,_⟩:=h _ (List.getElem_mem (by lia:j<xs.length)) _ (List.getElem_mem (by lia:j<ys.length));unfold eAt;rw[e,d,b,a];exact Jgg g f n m
inductive rNeLR(K:Frag)(x y:V)(H:Hp)(Q:VK):Prop
 | mk(p q xs ys:_)(_:x=.ref p)(_:y=.ref q)(_:SqL K H p xs)(_:SqL K H q ys)(_:Kin xs ys)(_:Q (.bl (!decide (xs=ys))) H)
noncomputable def rNeL(K:Frag):R2:=fun x y H Q=>rNeLR K x y H Q
theorem op_neL(f:X.A.units<cLine):OpR X (compareOp .NotEq) (rNeL X.K):=by
 intro pins s σ H x y v u Q I m l h;obtain⟨p,q,xs,ys,rfl,rfl,w,o,i,b⟩:=h;cases m;cases l;obtain⟨n,r,pl,_⟩:=I.list w;obtain⟨d,c,a,_⟩:=I.list o;have l1:=r.length;have C:=c.length;by_cases g:xs.length=ys.length
 ·refine SeqAt.RcNeAt.lists pl.isList a.isList (by rw[size_toArray,size_toArray];lia) f (fun j B z=>Jq2 r c i j B z) _ _ _ _ ?_;rw[size_toArray,<- l1,Jsg g i];exact⟨.bl _,H,I,rfl,b⟩
 ·refine SeqAt.RcNeAt.lists_lengths pl.isList a.isList (by simp;lia) f _ _ _ _ ?_;rw[decide_eq_false (fun e=>g (congrArg List.length e))] at b;exact⟨.bl true,H,I,rfl,b⟩
theorem J9h(l:f=.builtin "isinstance"):J3w X f (fun xs H Q=>∃(x c:V) (t a:Value) (b:Bool),xs=[x,c]/\RelV c a/\(∀v,RelV c v->v=a)/\TyOf X.K H x t/\kitOne X.K t a=some b/\Q (.bl b) H):=by
 subst l;intro pins s σ H xs us Q I r h;obtain⟨x,c,t,a,b,rfl,m,d,g,e,q⟩:=h;obtain⟨u,v,rfl,j,i⟩:=Jm0 r;obtain rfl:=d v i;exact Jkm I j g e fun tk=>⟨.bl b,H,I.tok tk,rfl,q⟩
end
theorem J7m:fillsNumberSlot (.type "tuple") "mul"=pure false :=
 PySem.fillsNumberSlot_seq (id:="tuple.__mul__") (r:=some (.builtin "tuple.__rmul__")) F.slot_tuple_mul.lookup (by rfl) F.slot_tuple_rmul.lookup (by rfl)
theorem Jc6:seqRepeat? (.type "tuple")=pure (some (.builtin "tuple.__mul__")):=by
 rfl
theorem J9n(a:Int)(t:Tok)(l:Addr)(b:Array Value)(n:Nat)(dd:Option Addr)(c:Array (Option Value)):
  Meets (Builtin.«int.__rmul__» ⟨[.int a t,.ref l],[]⟩) (fun _ R s=>s.heap.get? l=some { cls:=.type "tuple",dict:=dd,data:=.seq b n,slots:=c }/\R (.ok (.ret Value.notImplemented)) s) :=
 .of_wp fun prog w A R s h=>by obtain⟨d,h⟩:=h;wp_walk;exact⟨_,rfl,h⟩
theorem Jdk(l:Addr)(a:Array Value)(n:Nat)(dd:Option Addr)(b:Array (Option Value))(t:Tok):
  Meets (Builtin.«tuple.__mul__» ⟨[.ref l,.int 1 t],[]⟩) (fun _ R s=>s.heap.get? l=some { cls:=.type "tuple",dict:=dd,data:=.seq a n,slots:=b }/\R (.ok (.ret (.ref l))) { s with heap:=s.heap,toks:=s.toks }) :=
 .of_wp fun prog w A R s h=>by
  obtain⟨c,h⟩:=h
  wp_walk using AutoSeq1.wpAny_loadPart' c;exact⟨_,rfl,h⟩
theorem Jdj(l:Addr)(a:Array Value)(n:Nat)(dd:Option Addr)(i:Array (Option Value))(k:Int)(t:Tok)(y:1<k)(v:k<2^63)(b:a.isEmpty=false)(hsz:a.size*k.toNat<=sizeLine):
  Meets (Builtin.«tuple.__mul__» ⟨[.ref l,.int k t],[]⟩) (fun _ R s=>s.heap.get? l=some { cls:=.type "tuple",dict:=dd,data:=.seq a n,slots:=i }/\
   R (.ok (.ret (.ref s.heap.objs.size))) { s with heap:=s.heap.push { cls:=.type "tuple",data:=.seq ((replicate k.toNat a).foldl (· ++ ·) #[]) },toks:=s.toks }) :=
 .of_wp fun prog w A R s h=>by
  obtain⟨u,g,d,tk,os⟩:=s;obtain⟨c,h⟩:=h;have B:=AutoSeq1.idx_int;have z:=AutoSeq1.sub_tuple_tuple;have r:¬ (decide (k < -(2^63)) || decide (k>=2^63))=true:=by simp;lia
  have q:¬ (a.isEmpty || k==1)=true:=by rw[b];simp;lia
  have p:¬ (decide (k<=0) || a.isEmpty)=true:=by rw[b];simp;lia
  have f:(a.size:Int)*k=((a.size*k.toNat:Nat):Int):=by
   rw[Int.natCast_mul,Int.toNat_of_nonneg (by lia)]
  have j:(sizeLine:Nat)<=(2^63-1)/8:=by decide
  have o:¬ ((a.size:Int)*k>(2^63-1)/8):=by rw[f];lia
  have m:¬ Builtin.Tuple.tupleTooMany ((a.size:Int)*k)=true:=by
   unfold Builtin.Tuple.tupleTooMany;rw[f,decide_eq_true_iff];lia
  have e:((replicate k.toNat a).foldl (· ++ ·) #[]).size<=sizeLine:=by
   rw[AutoSeq1.size_joined];simp;rw[Nat.mul_comm];exact hsz
  wp_walk using AutoSeq1.wpAny_loadPart' c
  refine wpAny_ite_false (decide_eq_false r) ?_
  wp_walk using AutoSeq1.wpAny_loadPart' c
  refine wpAny_ite_false (decide_eq_false q) ?_;refine wpAny_ite_false (decide_eq_false p) ?_;refine wpAny_ite_false (decide_eq_false o) ?_;refine wpAny_ite_false (decide_eq_false m) ?_
  wp_walk using AutoSeq1.wpAny_loadPart' c
  exact⟨_,rfl,h⟩
section
variable{X:Cx}
inductive rRepTR(x y:V)(H:Hp)(Q:VK):Prop
 | mk(l:Addr)(k:Int)(xs:List V)(_:x=.ref l)(_:y=.int k)(_:H l=some (.tup xs))(_:xs≠[])(_:1<=k)(_:k<2^63)(_:xs.length*k.toNat<=sizeLine)(_:(k=1->Q (.ref l) H))(_:(1<k->∀p,H p=none->Q (.ref p) (upd H p (.tup (replicate k.toNat xs).flatten))))
noncomputable def rRepT:R2:=fun x y H Q=>rRepTR x y H Q
theorem Jj2:OpR X (binaryOp .Mult) rRepT:=by
 intro pins s σ H x y v u Q I C B h;obtain⟨l,k,xs,rfl,rfl,J,j,M,K,m,E,D⟩:=h;cases C;obtain⟨t,rfl⟩:=B;obtain⟨c,r,pl,G⟩:=I.tuple (SqT.of J);obtain⟨⟨cls,dd,data,g⟩,d,w,n,hd⟩:=id pl;simp only at w hd;subst w hd;have p:=r.length;refine wpAny_binaryOp_repeat_ref (T:="tuple") (U:="int") (by decide) ⟨_,d,rfl⟩ (fun s'=>typeIs_int s' k t) J7m F.fills_int_mul F.slot_int_rmul Jc6 F.slot_int_index.lookup
  (call_meets F.slot_int_rmul (typeIs_int s k t) F.entry_int_rmul (F.args_int_rmul_2 _ _) (J9n k t l c.toArray n dd g) ⟨d,rfl,⟨_,d,rfl⟩,?_⟩)
 by_cases e:k=1
 ·subst e;exact call_meets F.slot_tuple_mul ⟨_,d,rfl⟩ F.entry_tuple_mul (F.args_tuple_mul_2 _ _) (Jdk l c.toArray n dd g t) ⟨d,⟨.ref l,H,I,rfl,E rfl⟩⟩
 ·have i:c.toArray.isEmpty=false:=by
   cases c with
   | nil=>exact absurd (List.length_eq_zero_iff.mp (by simpa using p)) j
   | cons a r'=>rfl
  refine call_meets F.slot_tuple_mul ⟨_,d,rfl⟩ F.entry_tuple_mul (F.args_tuple_mul_2 _ _) (Jdj l c.toArray n dd g k t (by lia) K i (by rw[size_toArray,<- p];exact m)) ⟨d,?_⟩;have f:foldl (fun A z=>A++z) #[] (replicate k.toNat c.toArray)=(replicate k.toNat c).flatten.toArray:=by
   have:=J8v c k.toNat [];rw[nil_append] at this;exact this
  rw[f];refine⟨.ref _,_,I.laid (t':=s.toks) (o:=.tup (replicate k.toNat xs).flatten) (fun b L q=>get?_push_of_some _ q) (Nat.le_refl _) ⟨?_,_,r.rep k.toNat,⟨_,get?_push_size _ rfl,⟨rfl,rfl⟩,_,rfl⟩⟩,rfl,D (by lia) _ (I.hok.fresh (Nat.le_refl _))⟩;rw[Jkb,Nat.mul_comm];exact m
end
section
variable{X:Cx}
@[irreducible] noncomputable def rTup(K:Frag):List V->Hp->VK->Prop:=fun xs H Q=>∃p ys,xs=[.ref p]/\((SqL K H p ys/\∀l,H l=none->Q (.ref l) (upd H l (.tup ys)))\/(SqT K H p ys/\Q (.ref p) H))
theorem J1s:J3w X (.type "tuple") (rTup X.K):=by
 unfold rTup;exact Jbn
end
section
variable{prog:Program}{w:World}{A:Around}{E:Value->Shared->Prop}{z:Shared}
theorem J8j(c:z.heap.IsTupleIter nu tu j)(e:z.heap.IsTuple tu xs)(d:xs[j]?=some y)(f:∀g,g.IsTupleIter nu tu (j+1)->Heap.SameBut nu z.heap g->Q y { z with heap:=g }):wpAny (model prog w) A (Builtin.SmallTypes.nextOf (.ref nu)) Q E z:=by
 obtain⟨on,a,cn,dn⟩:=id c;obtain⟨i,b,_,l,h⟩:=e;refine wpAny_bind (wpAny_callSpecial?_slot (name:=Str.ofString "__next__") c.typeIs F.slot_tuple_iterator_next (wpAny_call_entry F.slot_tuple_iterator_next c.typeIs F.entry_tuple_iterator_next ?_ (F.args_tuple_iterator_next_1 _)));show wpAny _ _ (field (.ref nu) 0 >>= _) _ _ z;refine wpAny_bind (wpAny_field a dn (x:=.ref tu) rfl ?_);refine wpAny_bind (wpAny_field a dn (x:=.int j 0) rfl ?_);refine wpAny_bind (wpAny_seqItems b h ?_);simp only[Int.toNat_natCast,d];refine wpAny_bind (wpAny_setField a dn (by simp) (wpAny_pure ⟨y,rfl,wpAny_pure (f _ ?_ (Heap.SameBut.update ..))⟩));exact⟨_,Heap.get?_update_self _ a (Obj.isFreed_of_fields (Obj.data_mapFields dn _)),(Obj.cls_mapFields ..).trans cn,by rw[Obj.data_mapFields dn];simp[rawInt]⟩
theorem J9m(i:A.handled=none)(d:z.heap.IsTupleIter nu tu j)(h:z.heap.IsTuple tu xs)(f:xs[j]?=none)(l:∀g e,Heap.ExtBut nu z.heap g->(∃o,g.get? e=some o/\o.cls=.type "StopIteration")->E (.ref e) { z with heap:=g }):wpAny (model prog w) A (Builtin.SmallTypes.nextOf (.ref nu)) Q E z:=by
 obtain⟨on,b,cn,dn⟩:=id d;obtain⟨p,c,_,q,n⟩:=h;unfold Builtin.SmallTypes.nextOf;refine wpAny_bind (wpAny_callSpecial?_slot (name:=Str.ofString "__next__") d.typeIs F.slot_tuple_iterator_next (wpAny_call_entry F.slot_tuple_iterator_next d.typeIs F.entry_tuple_iterator_next ?_ (F.args_tuple_iterator_next_1 _)));show wpAny _ _ (field (.ref nu) 0 >>= _) _ _ z;refine wpAny_bind (wpAny_field b dn (x:=.ref tu) rfl ?_);refine wpAny_bind (wpAny_field b dn (x:=.int j 0) rfl ?_);refine wpAny_bind (wpAny_seqItems c n ?_);simp only[Int.toNat_natCast,f];refine wpAny_bind (wpAny_rule (wpAny_bind (wpAny_setField b dn (by simp) ?_)));refine wpAny_bind ?_;refine wpAny_bind (m:=firstArgMember _ _) (wpAny_of_eq (a:=Value.none) (by rfl) ?_);refine wpAny_newObj_type ?_ (by size_fits);refine wpAny_bind (wpAny_handled ?_)
 first|grind|rw[i]
 refine wpAny_bind (wpAny_pure (wpAny_throw ?_));exact l _ _ (((Heap.SameBut.update ..).extBut.push _).push _) ⟨_,get?_push_size _ rfl,rfl⟩
theorem Jla{St:Heap->Prop}{Q:Value->Shared->Prop}(I:IsEnum z.heap en nu j old)(l:en≠nu)(a:∀g g' ,St g->(∀o,g.get? nu=some o->g'.get? nu=some o)->St g')(NX:∀(A':Around) (E':Value->Shared->Prop) (S:Value->Shared->Prop),(∀g,St g->Heap.SameBut nu z.heap g->S y { z with heap:=g })->wpAny (model prog w) A' (Builtin.SmallTypes.nextOf (.ref nu)) S E' z)(T:∀g,IsEnumOut g en nu ((j:Int)+1) y z.heap.objs.size->St g->g.get? z.heap.objs.size=some { cls:=.type "tuple",data:=.seq #[.int j z.toks,y] }->g.objs.size=z.heap.objs.size+1->
   (∀b o,b≠en->b≠nu->z.heap.get? b=some o->g.get? b=some o)->Q (.ref z.heap.objs.size) { z with heap:=g,toks:=z.toks+1 }):
  wpAny (model prog w) A (Builtin.«enumerate.__next__» ⟨[.ref en],[]⟩) (fun fin s'=>∃v,fin=.done (.ret v)/\Q v s') E z:=by
 obtain⟨u,p,d,tk,os⟩:=z;show wpAny _ _ (field (.ref en) 2 >>= _) _ _ _;refine wpAny_bind (wpAny_field I rfl (x:=.ref nu) rfl (wpAny_bind (NX _ _ _ fun B F h=>?_)));have h :=h;have M :=(h.2 en l).trans I;show wpAny _ _ (field (.ref en) 3 >>= _) _ _ ⟨B,p,d,tk,os⟩;refine wpAny_bind (wpAny_field M rfl (x:=rawInt j) rfl ?_);show wpAny _ _ (field (.ref en) 4 >>= _) _ _ ⟨B,p,d,tk,os⟩;refine wpAny_bind (wpAny_field M rfl (x:=.none) rfl ?_);show wpAny _ _ (mkInt j >>= _) _ _ ⟨B,p,d,tk,os⟩;refine wpAny_bind (wpAny_mkInt ?_);show wpAny _ _ (setField (.ref en) 3 (rawInt ((j:Int)+1)) >>= _) _ _ ⟨B,p,d,tk+1,os⟩;refine wpAny_bind (wpAny_setField_rec M (by simp) fun W L f=>?_);have f :=f;have L :=L;show wpAny _ _ (setField (.ref en) 4 .none >>= _) _ _ ⟨W,p,d,tk+1,os⟩;refine wpAny_bind (wpAny_setField_rec L (by simp) fun n K c=>?_);have c :=c;have K :=K;show wpAny _ _ (newTuple [.int j tk,y] >>= _) _ _ ⟨n,p,d,tk+1,os⟩;refine wpAny_bind (wpAny_newTuple ?_);have D :=a _ _ F fun o e=>c.extBut _ _ (Ne.symm l) (f.extBut _ _ (Ne.symm l) e);have C:IsEnum (n.push { cls:=.type "tuple",data:=.seq #[.int j tk,y] }) en nu ((j:Int)+1) old:=get?_push_of_some _ K;have q:St (n.push { cls:=.type "tuple",data:=.seq #[.int j tk,y] }):=a _ _ D fun o e=>get?_push_of_some _ e;have G:n.objs.size=u.objs.size:=by rw[c.1,f.1,h.1]
 have H:en<u.objs.size:=lt_size I;have O:(n.push { cls:=.type "tuple",data:=.seq #[.int j tk,y] }).get? u.objs.size=some { cls:=.type "tuple",data:=.seq #[.int j tk,y] }:=by rw[<- G];exact get?_push_size _ rfl
 have N:(n.push { cls:=.type "tuple",data:=.seq #[.int j tk,y] }).objs.size=u.objs.size+1:=by rw[Heap.size_push,G]
 have P:∀b o,b≠en->b≠nu->u.get? b=some o->(n.push { cls:=.type "tuple",data:=.seq #[.int j tk,y] }).get? b=some o:=fun b o m J e =>
  get?_push_of_some _ (c.extBut b o m (f.extBut b o m (h.extBut b o J e)))
 generalize n.push { cls:=.type "tuple",data:=.seq #[.int j tk,y] }=g₄ at C q O N P;show wpAny _ _ (Builtin.SmallTypes.ownedTupleIsFree (.ref en) >>= _) _ _ ⟨g₄,p,d,tk+1,os⟩;rw[G];refine wpAny_bind ?_
 ·unfold Builtin.SmallTypes.ownedTupleIsFree;refine wpAny_bind (wpAny_field C rfl (x:=.none) rfl (wpAny_pure ?_));simp only[if_true];refine wpAny_bind (wpAny_rule (wpAny_bind (wpAny_field C rfl (x:=old) rfl (wpAny_bind (wpAny_setField_rec C (by simp) fun U Z i=>?_)))));have i:Heap.SameBut en g₄ U:=i;refine wpAny_bind ?_
  ·refine wpAny_bind (wpAny_setField_rec Z (by simp) fun g₆ Y s=>?_);refine wpAny_setField_rec Y (by simp) fun R X r=>?_;have up:∀b o,b≠en->g₄.get? b=some o->R.get? b=some o:=fun b o m e=>r.extBut b o m (s.extBut b o m (i.extBut b o m e));exact wpAny_bind (wpAny_letGo (wpAny_pure ⟨_,rfl,T R X (a _ _ q fun o e=>up _ _ (Ne.symm l) e) (up _ _ (Nat.ne_of_gt H) O) (by rw[r.1,s.1,i.1,N]) fun b o m J e=>up b o m (P b o m J e)⟩))
theorem Jhp{j:Nat}(f:IsEnum z.heap en nu j old)(n:z.heap.IsTupleIter nu tu j)(m:z.heap.IsTuple tu xs)(l:xs[j]?=some y)(e:en≠nu)(p:∀g,IsEnumOut g en nu ((j:Int)+1) y z.heap.objs.size->g.IsTupleIter nu tu (j+1)->g.get? z.heap.objs.size=some { cls:=.type "tuple",data:=.seq #[.int j z.toks,y] }->g.objs.size=z.heap.objs.size+1->
   (∀b o,b≠en->b≠nu->z.heap.get? b=some o->g.get? b=some o)->Q (some (.ref z.heap.objs.size)) { z with heap:=g,toks:=z.toks+1 }):
  wpAny (model prog w) A (pyNext (.ref en)) Q E z:=by
 have i:z.TypeIs (.ref en) "enumerate":=⟨_,f,rfl⟩;exact wpAny_bind (wpAny_attempt (wpAny_callSpecial?_slot (name:=Str.ofString "__next__") i F.slot_enumerate_next (wpAny_call_entry F.slot_enumerate_next i F.entry_enumerate_next
   (Jla (St:=fun g=>g.IsTupleIter nu tu (j+1)) f e (fun g g' st k=>let ⟨o,ho,r⟩:=st;⟨o,k o ho,r⟩) (fun u s q h=>J8j n m l h) fun g a b c d k=>wpAny_pure (p g a b c d k)) (F.args_enumerate_next_1 _))))
theorem Jlc{j:Nat}(m:A.handled=none)(d:IsEnum z.heap en nu j old)(l:z.heap.IsTupleIter nu tu j)(h:z.heap.IsTuple tu xs)(f:xs[j]?=none)(p:∀g,Heap.ExtBut nu z.heap g->Q none { z with heap:=g }):wpAny (model prog w) A (pyNext (.ref en)) Q E z:=by
 have e:z.TypeIs (.ref en) "enumerate":=⟨_,d,rfl⟩;refine wpAny_bind (wpAny_attempt (wpAny_callSpecial?_slot (name:=Str.ofString "__next__") e F.slot_enumerate_next (wpAny_call_entry F.slot_enumerate_next e F.entry_enumerate_next ?_ (F.args_enumerate_next_1 _))));show wpAny _ _ (field (.ref en) 2 >>= _) _ _ _;refine wpAny_bind (wpAny_field d rfl (x:=.ref nu) rfl (wpAny_bind (J9m m l h f fun g x c a=>?_)));obtain⟨o,i,n⟩:=a;exact wpAny_bind (wpAny_isInstance (T:="StopIteration") (b:=true) ⟨o,i,n⟩ isSubtype_stop (wpAny_pure (p _ c)))
theorem Jlb(l:Addr)(xs:Array Value)(n:Nat)(e:Option Addr)(i:Array (Option Value)):
  Meets (Builtin.«enumerate.__new__» ⟨[.type "enumerate",.ref l],[]⟩) (fun _ R s=>s.heap.get? l=some { cls:=.type "tuple",dict:=e,data:=.seq xs n,slots:=i }/\
   R (.ok (.ret (.ref (s.heap.push { cls:=.type "tuple_iterator",data:=.fields #[.ref l,.int 0 0] }).objs.size)))
    { s with heap:=(s.heap.push { cls:=.type "tuple_iterator",data:=.fields #[.ref l,.int 0 0] }).push { cls:=.type "enumerate",data:=.fields #[.none,.bool false,.ref s.heap.objs.size,rawInt 0,.none,.none] } }) :=
 .of_wp fun prog w A R s h=>by
  obtain⟨j,g,d,tk,os⟩:=s;obtain⟨b,h⟩:=h;have f:=sub_enumerate;have a:Heap.IsTuple (Shared.heap ⟨j,g,d,tk,os⟩) l xs:=⟨_,b,rfl,n,rfl⟩
  wp_walk using AutoSeq1.wpAny_loadPart' b
  refine wpAny_stack_any fun st=>wpAny_pure ?_;split
  ·rename_i c _ _ _ _ _;cases (c==Value.type "enumerate") <;> (wp_walk using AutoSeq1.wpAny_loadPart' b,wpAny_pyIter_tuple a;exact⟨_,rfl,h⟩)
  ·(wp_walk using AutoSeq1.wpAny_loadPart' b,wpAny_pyIter_tuple a;exact⟨_,rfl,h⟩)
theorem Jhu{l:Addr}{xs:Array Value}{Q:Value->Shared->Prop}(m:z.heap.IsTuple l xs)(h:∀g,IsEnum g (z.heap.objs.size+1) z.heap.objs.size 0 .none->g.IsTupleIter z.heap.objs.size l 0->g.objs.size=z.heap.objs.size+2->(∀b o,z.heap.get? b=some o->g.get? b=some o)->Q (.ref (z.heap.objs.size+1)) { z with heap:=g }):
  wpAny (model prog w) A (call (.type "enumerate") [.ref l]) Q E z:=by
 obtain⟨⟨c,e,p,i⟩,j,d,n,hd⟩:=m;have d:c=.type "tuple":=d;have hd:p=.seq xs n:=hd;subst d hd;refine callType_new F.called_enumerate (by decide) (F.typeCall_enumerate_1 _) (F.newCall_enumerate_1 _) (fun obj=>F.args_object_init_2 obj _) F.entry_enumerate_new (Jlb l xs n e i) ⟨j,?_⟩;have a:(z.heap.push { cls:=.type "tuple_iterator",data:=.fields #[.ref l,.int 0 0] }).objs.size=z.heap.objs.size+1:=Heap.size_push ..;show _/\_;rw[a];have f:IsEnum ((z.heap.push { cls:=.type "tuple_iterator",data:=.fields #[.ref l,.int 0 0] }).push { cls:=.type "enumerate",data:=.fields #[.none,.bool false,.ref z.heap.objs.size,rawInt 0,.none,.none] }) (z.heap.objs.size+1) z.heap.objs.size 0 .none:=by
  have q:=get?_push_size (z.heap.push { cls:=.type "tuple_iterator",data:=.fields #[.ref l,.int 0 0] }) (o:={ cls:=.type "enumerate",data:=.fields #[.none,.bool false,.ref z.heap.objs.size,rawInt 0,.none,.none] }) rfl;rw[a] at q;exact q
 exact⟨⟨_,f,rfl⟩,h _ f ⟨_,get?_push_of_some _ (get?_push_size _ rfl),rfl,rfl⟩ (by rw[Heap.size_push,a]) fun b o q=>get?_push_of_some _ (get?_push_of_some _ q)⟩
end
section
variable{X:Cx}{pins:List (Addr×Obj)}{σ:St}{H:Hp}{s:Shared}{h':Heap}
theorem Inv.turned2{t':Nat}{f d p:Addr}{o:HO}(I:Inv X pins σ H s)(k:∀b u,b≠f->b≠d->s.heap.get? b=some u->h'.get? b=some u)(i:FpOk X pins H f)(h:FpOk X pins H d)(B:s.heap.objs.size<=p)(G:∃u,h'.get? f=some u)(F:∃u,h'.get? d=some u)(new:J2j X.prog X.w (upd H p o) h' p o):Inv X pins σ (upd H p o) { s with heap:=h',toks:=t' }:=by
 have y:H p=none:=I.hok.fresh B;have lt:∀b u,s.heap.get? b=some u->b≠p:=fun b u e=>Nat.ne_of_lt (Nat.lt_of_lt_of_le (lt_size e) B);have l:∀b u,H b=some u->b≠f:=fun b u e z=>by rw[z,i.1] at e;cases e
 have j:∀b u,H b=some u->b≠d:=fun b u e z=>by rw[z,h.1] at e;cases e
 have g:∀b,b ∉ [f,d]->b≠f/\b≠d:=fun b hb=>⟨fun z=>hb (by simp[z]),fun z=>hb (by simp[z])⟩;refine I.step (g':=s.gens) (d':=s.drawn) (ch:=[f,d]) (fun b hb=>?_) (fun b u _ _ a e _=>k b u (g b a).1 (g b a).2 e) (fun b u _ _ a e _=>⟨u.slots,k b u (g b a).1 (g b a).2 e⟩) (fun b u a e n=>by rw[Jh (lt b u e)];exact n)
  (fun b u a e=>⟨u,k b u (g b a).1 (g b a).2 e⟩) (fun b xs e=>by rw[Jh (Jb e y)];exact e) (fun b u v e=>by rw[Jh (Jb e y)];exact e) (fun b ps e=>⟨#[],by rw[Jh (Jb e y),e];simp⟩) (fun m D=>?_) (fun b u e=>?_) I.bare
 ·have hb:b=f\/b=d:=by simpa using hb
  rcases hb with rfl|rfl
  ·exact⟨i.2.2.2.1,i.2.1,i.2.2.2.2.1,i.2.2.2.2.2⟩
  ·exact⟨h.2.2.2.1,h.2.1,h.2.2.2.2.1,h.2.2.2.2.2⟩
 ·obtain⟨A,E,ep,C,r⟩:=D;exact⟨A,E,ep,k _ A (Ne.symm i.2.1) (Ne.symm h.2.1) C,r⟩
 ·by_cases hb:b=p
  ·subst hb;rw[J7] at e;cases e;exact new
  ·rw[Jh hb] at e;refine(I.hok b u e).stay (fun c v a q=>k c v ?_ ?_ q) (fun c q=>by rw[Jh (Jb q y)];exact q) fun c xs q=>by rw[Jh (Jb q y)];exact q
   ·rcases a with q|q
    ·rw[q];exact l b u e
    ·exact l c _ q
   ·rcases a with q|q
    ·rw[q];exact j b u e
    ·exact j c _ q
end
noncomputable def Ite(K:Frag)(a:Addr):It:=
 ⟨fun i H=>∃xs x,SqT K H a xs/\xs[i]?=some x,fun i H v b=>∃p x,v=.ref p/\H p=none/\b=upd H p (.tup [.int (i:Int),x])/\∀xs,SqT K H a xs->xs[i]?=some x,fun i H=>∃xs,SqT K H a xs/\xs.length<=i⟩
theorem Ji1{P:Program}{w:World}{K:Frag}{C:List Expr}{kk:Nat}{tp:Pos}(a f d:Addr)(q:f≠d):Turn P w K (.Tuple C kk tp) (Ite K a) [f,d] f (fun i h=>(∃c,IsEnum h f d (i:Int) c)/\h.IsTupleIter d a i) where
 mem:=by simp
 obj:=fun i h st b hb=>by
  obtain⟨⟨c,j⟩,o,l,_,d2⟩:=st;have hb:b=f\/b=d:=by simpa using hb
  rcases hb with rfl|rfl
  ·exact⟨_,j,fun v z=>by
    have z':Data.fields _=Data.cell v:=z;cases z'⟩
  ·exact⟨_,l,fun v z=>by rw[d2] at z;cases z⟩
 keep:=fun i h h' st k=>by
  obtain⟨⟨c,j⟩,o,l,r⟩:=st;exact⟨⟨c,k f (by simp) _ j⟩,o,k d (by simp) _ l,r⟩
 item:=by
  intro X S hw T hc i pins s σ H E I B st N;subst S hw T;obtain⟨⟨c,j⟩,l⟩:=st;obtain⟨xs,x,F,Y⟩:=N;obtain⟨m,r,pl,hz⟩:=I.tuple F;obtain⟨u,hu,ru⟩:=r.get Y;have U:=B f (by simp);have f2:=B d (by simp);refine Jhp j l (show s.heap.IsTuple a m.toArray from pl) (y:=u) (by simpa using hu) q fun g o1 n1 t1 z1 k1=>?_;refine⟨_,rfl,?_⟩;have Z:f<s.heap.objs.size:=lt_size j;refine wpAny_letOwnedTupleGo_enum o1 fun G e3 n=>?_;have n:Heap.SameBut f g G:=n;have W:G.IsTupleIter d a (i+1):=n1.extBut n.extBut (Ne.symm q);have L:∀b o,b≠f->b≠d->s.heap.get? b=some o->G.get? b=some o:=fun b o h1 h2 e=>(n.2 b h1).trans (k1 b o h1 h2 e);have t2:G.get? s.heap.objs.size=some { cls:=.type "tuple",data:=.seq #[.int i s.toks,u] }:=(n.2 _ (Nat.ne_of_gt Z)).trans t1;obtain⟨on,M,_⟩:=id W;have J:=I.turned2 (t':=s.toks+1) (o:=.tup [.int (i:Int),x]) (p:=s.heap.objs.size) L U f2 (Nat.le_refl _) ⟨_,e3⟩ ⟨_,M⟩
   ⟨(by show 2<=sizeLine;decide),[.int i s.toks,u],.cons ⟨_,rfl⟩ (.cons ru .nil),⟨_,t2,⟨rfl,rfl⟩,_,rfl⟩⟩
  have O:H s.heap.objs.size=none:=I.hok.fresh (Nat.le_refl _);have D:((i+1:Nat):Int)=(i:Int)+1:=by omega
  refine⟨.ref s.heap.objs.size,_,J,rfl,⟨_,x,rfl,O,rfl,fun ys hy=>?_⟩,⟨⟨u,by rw[D];exact e3⟩,W⟩,fun b hb=>?_⟩
  ·rw[<- I.tuple_inj F hy];exact Y
  ·have R:b<s.heap.objs.size:=by
    have hb:b=f\/b=d:=by simpa using hb
    rcases hb with rfl|rfl
    ·exact Z
    ·obtain⟨o,ho,_⟩:=l;exact lt_size ho
   rw[Jh (Nat.ne_of_lt R)];exact(B b hb).1
 done:=by
  intro X S hw T hc i pins s σ H E I B st N;subst S hw T;obtain⟨⟨c,j⟩,l⟩:=st;obtain⟨xs,F,hl⟩:=N;obtain⟨m,r,pl,hz⟩:=I.tuple F;obtain⟨f0,U,f2,f3,f4,f5⟩:=B d (by simp);refine Jlc (I.ok.hd hc) j l (show s.heap.IsTuple a m.toArray from pl) (by have:=r.length;simp;omega) fun g eb=>⟨rfl,I.turned (t':=s.toks) (fun b o hb e=>eb b o hb e) f0 U f3 f4 f5⟩
 self:=fun A i s Q E st h=>by
  obtain⟨⟨c,j⟩,_⟩:=st;exact wpAny_pyIter_enum j h
section
variable{X:Cx}
inductive iEnumR(K:Frag)(R:It->Hp->Prop)(vs:List V)(b:Hp):Prop
 | mk(a:_)(_:vs=[.ref a])(_:(∃xs,SqT K b a xs))(_:R (Ite K a) b)
noncomputable def iEnum(K:Frag)(a:TA):TI:=fun σ H R=>a σ H fun vs b=>iEnumR K R vs b
theorem Je2{f:List Expr}{y:Nat}{tp:Pos}{a:Expr}{l:TA}{p pos:Pos}(C:Gl X "enumerate")(B:X.mg "enumerate"=none)(D:PA X [a] l)(z:starEach [a] X.env=[(false,eval a X.env)]:=by rfl):PI X (.Tuple f y tp) (.Call (.Name "enumerate" p) [a] [] pos) (iEnum X.K l):=by
 intro pins s σ H R I h;refine Call_ (J8n I C B boot_enumerate (callWith_type1 (thn (D pos pins s σ H _ I h) fun us c E=>?_) z rfl));obtain⟨vs,n,i,v,w⟩:=E;obtain⟨a,e,⟨xs,A⟩,q⟩:=w;subst e;obtain⟨u,rfl,o⟩:=J6v v;cases o;obtain⟨j,r,pl,L⟩:=i.tuple A;refine Jhu (show c.heap.IsTuple a j.toArray from pl) fun g m F J k1=>?_;have G:Inv X pins σ n { c with heap:=g }:=i.kept (t':=c.toks) k1;refine wpAny_pyIter_enum m ?_;refine⟨_,_,_,_,n,rfl,G,Ji1 a _ _ (Nat.succ_ne_self _),⟨⟨.none,m⟩,F⟩,fun b hb=>?_,q⟩;have hb:b=c.heap.objs.size+1\/b=c.heap.objs.size:=by simpa using hb
 have d:c.heap.objs.size<=b:=by
  rcases hb with e|e
  ·rw[e];exact Nat.le_succ _
  ·rw[e];exact Nat.le_refl _
 exact i.fpOk d (i.hok.fresh d)
theorem Jga{K:Frag}{g:TG}{tb:TS}{D:Ends}(b:Nat->St->Hp->Prop)(s:b 0 σ H)(r:∀i σ H,i<=xs.length->b i σ H->SqT K H a xs)(n:∀i x σ H p,xs[i]?=some x->b i σ H->H p=none->g (.ref p) σ (upd H p (.tup [.int (i:Int),x])) fun σ2 f=>tb { D with nx:=b (i+1),ct:=b (i+1),bk:=D.nx } σ2 f)(hd:∀σ H,b xs.length σ H->D.nx σ H):
  ∃W:Nat->Nat->St->Hp->Prop,(∃m,W 0 m σ H)/\∀i m σ H,W i m σ H->
   ((Ite K a).stop i H/\D.nx σ H)\/((Ite K a).go i H/\∃N:St->Hp->Prop,(∀σ' c,N σ' c->∃h,h<m/\W (i+1) h σ' c)/\∀x c,(Ite K a).yld i H x c->g x σ c fun σ2 f=>tb { D with nx:=N,ct:=N,bk:=D.nx } σ2 f):=by
 refine⟨fun i m σ H=>m=xs.length-i/\i<=xs.length/\b i σ H,⟨xs.length,by simp,Nat.zero_le _,s⟩,?_⟩;rintro i m σ H ⟨rfl,hi,p⟩;have q:=r i σ H hi p;by_cases d:i<xs.length
 ·refine .inr ⟨⟨xs,xs[i],q,by simp[d]⟩,b (i+1),fun σ' c l=>⟨xs.length-(i+1),by omega,rfl,d,l⟩,fun v c y=>?_⟩;obtain⟨j,x,rfl,o,rfl,y⟩:=y;exact n i x σ H j (y xs q) p o
 ·have e:i=xs.length:=by omega
  subst e;exact .inl ⟨⟨xs,q,Nat.le_refl _⟩,hd σ H p⟩
end
def bmV:List Value:=[.type "ValueError",.type "Exception",.type "BaseException",.type "object"]
theorem J2j.has(x:J2j P w H h a o):∃u,h.get? a=some u:=by
 cases o with
 | lst xs=>obtain⟨_,_,_,_,e⟩:=x;exact⟨_,e⟩
 | tup xs=>obtain⟨_,_,_,b,e,_⟩:=x;exact⟨_,e⟩
 | dK kvs=>obtain⟨_,_,_,_,o,_,_,e,_⟩:=x;exact⟨_,e⟩
 | dT kvs=>obtain⟨_,_,_,_,o,_,_,e,_⟩:=x;exact⟨_,e⟩
 | set S n=>obtain⟨o,_,_,_,e,_⟩:=x;exact⟨_,e⟩
 | ins C dx fs=>obtain⟨_,_,_,e,_⟩:=x;exact⟨_,e⟩
 | own y=>exact x
 | xd fs=>obtain⟨_,⟨_,_,_,e,_⟩,_⟩:=x;exact⟨_,e⟩
 | rng lo hi=>obtain⟨_,_,_,e⟩:=x;exact⟨_,e⟩
 | frz b u=>obtain⟨e,_⟩:=x;exact⟨_,e⟩
 | tbl ps=>exact⟨_,(show h.get? a=some _ from x)⟩
 | met f y=>exact⟨_,(show h.get? a=some _ from x)⟩
 | ext φ=>obtain⟨_,e,_⟩:=x;exact e
theorem HOk.over{B:Heap}(ok:HOk P w H h)(t:∀b o,H b=some o->∃u,B.get? b=some u)(k:B.StaysIn h)(f:B.StaysIn h'):HOk P w H h':=fun b u e=>by
 refine(ok b u e).stay (fun c v g q=>?_) (fun _ q=>q) fun _ _ q=>q;have a:∃x,B.get? c=some x:=by
  rcases g with z|z
  ·rw[z];exact t b u e
  ·exact t c _ z
 obtain⟨x,d⟩:=a;have:=k c x d;rw[q] at this;cases this;exact f c _ d
noncomputable def Exc1(P:Program)(w:World):CXT:=fun outer H s E e s'=>∃(c:Addr) (cls:Value) (a:Hp) (B:Heap) (d:Value),e=.ref c/\s'.os=s.os/\AllBare s'.gens/\Heap.FlyingW B outer c cls d s'.heap/\
 Un (frs outer) [] H a s.heap s'.heap/\HOk P w a s'.heap/\a c=none/\s.heap.get? c=none/\(∀b o,a b=some o->∃u,B.get? b=some u)/\(∀b u,s.heap.get? b=some u->b ∉ frs outer->∃v,B.get? b=some v)/\E cls none a
section
variable{P:Program}{w:World}{K:Frag}{mg:Str->Option Value}{base:Heap}{N:List Str}{qual:Str}{scope:Scope}{f:Addr}{cd:Value}{A:Around}{outer:List Env}{s0:Shared}{H0:Hp}{E:XK}{pins:List (Addr×Obj)}{σ:St}{H:Hp}{s:Shared}
theorem Jfv{h:Heap}(x:h.FunFrames B l)(hb:b∈frs l):∃o,h.get? b=some o/\∀vs,o.data≠.fields vs:=(x.mem hb).2
theorem Jg9(a:env.frame=some L):b∈frs (env::l)↔b=L\/b∈frs l:=by
 unfold frs;rw[List.filterMap_cons,a];simp
theorem Jq7(I:Inv (cxOf (Exc1 P w) P w K mg base N qual scope f cd A outer s0 H0 E) pins σ H s)(l:Heap.MadeExcOf s.heap h' ea cls args)(q:E cls none H):
  (cxOf (Exc1 P w) P w K mg base N qual scope f cd A outer s0 H0 E).xe (.ref ea) { s with heap:=h' }:=by
 have fr:=I.stack;have y:∀env∈(envOfC qual scope s0.heap.objs.size f cd::outer),∀b,env.frame=some b->b∈frs (envOfC qual scope s0.heap.objs.size f cd::outer):=fun env F b hb=>List.mem_filterMap.mpr ⟨env,F,hb⟩;have C:∀{b:Addr},b∈frs (envOfC qual scope s0.heap.objs.size f cd::outer)↔b=s0.heap.objs.size\/b∈frs outer:=Jg9 rfl;have c:∀b u,s.heap.get? b=some u->b ∉ frs (envOfC qual scope s0.heap.objs.size f cd::outer)->(hideAll s.heap (frs (envOfC qual scope s0.heap.objs.size f cd::outer))).get? b=some u:=fun b u e n=>PySem.W.hideAll_get _ e n;have nL:∀b u,s0.heap.get? b=some u->b≠s0.heap.objs.size:=fun b u e=>Nat.ne_of_lt (lt_size e);have B:=fun b u e n z=>(C.mp z).elim (nL b u e) n;refine wpAny_leaves_madeW (base:=hideAll s.heap (frs (envOfC qual scope s0.heap.objs.size f cd::outer))) (h:=s.heap) (L:=s0.heap.objs.size) I.ok.frames rfl (fun b o z=>of_hideAll _ z) (PySem.W.funFrames_hide fr y) l fun j t d tup J m=>?_;have up:∀b o,s.heap.get? b=some o->b∈frs (envOfC qual scope s0.heap.objs.size f cd::outer)->∃r,j.get? b=some { o with slots:=r }:=fun b o e hb=>by
  obtain⟨g,D,nd⟩:=Jfv fr hb;rw[e] at D;cases D;exact m b o (l.keeps b o e) nd
 have there:∀b o,s.heap.get? b=some o->∃g,j.get? b=some g:=fun b o e=>by
  by_cases hb:b∈frs (envOfC qual scope s0.heap.objs.size f cd::outer)
  ·obtain⟨r,z⟩:=up b o e hb;exact⟨_,z⟩
  ·exact⟨o,d.1 b o (c b o e hb)⟩
 have trk:∀b o,H b=some o->∃u,(hideAll s.heap (frs (envOfC qual scope s0.heap.objs.size f cd::outer))).get? b=some u:=fun b o e=>by
  obtain⟨u,v⟩:=(I.hok b o e).has;refine⟨u,c b u v fun z=>?_⟩;have:=I.stkFree b z;rw[e] at this;cases this
 refine⟨ea,cls,H,_,_,rfl,I.os,I.bare,d,⟨fun b o e n hb _=>?_,fun b o e n hb _=>?_,fun b o e n hb=>I.base.free b o e n hb,fun b o e _=>?_,I.base.tups,I.base.frzs,I.base.tbls⟩,I.hok.over trk (fun b o z=>of_hideAll _ z) d.1,?_,?_,trk,fun b u e n=>?_,q⟩
 ·exact d.1 b o (c b o (I.base.keep b o e n hb (by simp[cxOf])) (B b o e hb))
 ·obtain⟨r,i⟩:=I.base.slot b o e n hb (by simp[cxOf]);obtain⟨p,G⟩:=up b _ i (C.mpr (.inr hb));exact⟨p,G⟩
 ·obtain⟨g,i⟩:=I.base.there b o e (by simp[cxOf]);exact there b g i
 ·cases z:H ea with
  | none=>rfl
  | some o =>
   obtain⟨u,v⟩:=(I.hok ea o z).has;have a:=l.new;rw[v] at a;cases a
 ·cases z:s0.heap.get? ea with
  | none=>rfl
  | some o =>
   obtain⟨g,i⟩:=I.base.there ea o z (by simp[cxOf]);have a:=l.new;rw[i] at a;cases a
 ·obtain⟨g,i⟩:=I.base.there b u e (by simp[cxOf]);exact⟨g,c b g i (B b u e n)⟩
theorem J8g:J46 (Exc1 P w) (cxOf (Exc1 P w) P w K mg base N qual scope f cd A outer s0 H0 E) E:=by
 rintro pins σ H s e s' I ⟨G,cls,Y,B,X,rfl,os,bare,F,un,hok,C,new,trk,h,q⟩;have p:∀{b:Addr},b∈frs (envOfC qual scope s0.heap.objs.size f cd::outer)↔b=s0.heap.objs.size\/b∈frs outer:=Jg9 rfl;have m:∀b u,s0.heap.get? b=some u->b ∉ frs outer->b ∉ frs (envOfC qual scope s0.heap.objs.size f cd::outer):=fun b u e n z=>(p.mp z).elim (Nat.ne_of_lt (lt_size e)) n;have a:=F;have un:=un;have h:=h;refine wpAny_leaves_onW (L:=s0.heap.objs.size) I.ok.frames rfl a fun D g j=>?_;have stay:∀b o,s.heap.get? b=some o->b ∉ frs (envOfC qual scope s0.heap.objs.size f cd::outer)->∀d,s'.heap.get? b=some d->D.get? b=some d:=fun b o e n d W=>by
  obtain⟨v,O⟩:=h b o e n;have:=a.1 b v O;rw[W] at this;cases this;exact g.1 b _ O
 refine⟨G,cls,Y,B,X,rfl,os.trans I.os,bare,g,⟨fun b o e n hb _=>?_,fun b o e n hb _=>?_,fun b o e n _=>?_,fun b o e _=>?_,fun b xs e=>un.tups b xs (I.base.tups b xs e),fun b o u e=>un.frzs b o u (I.base.frzs b o u e),fun b ps e=>?_⟩,hok.over trk a.1 g.1,C,?_,trk,fun b u e n=>?_,q⟩
 ·have c:=I.base.keep b o e n hb (by simp[cxOf]);have y:=I.base.free b o e n (by simp[cxOf]);exact stay b o c (m b o e hb) o (un.keep b o c y (m b o e hb) (by simp))
 ·obtain⟨R,c⟩:=I.base.slot b o e n hb (by simp[cxOf]);have y:=I.base.free b o e n (by simp[cxOf]);obtain⟨Q,i⟩:=un.slot b _ c y (p.mpr (.inr hb)) (by simp);obtain⟨d,r,nd⟩:=Jfv a.2.2.1 (p.mpr (.inr hb));rw[i] at r;cases r;obtain⟨l,J⟩:=j b _ i nd;exact⟨l,J⟩
 ·obtain⟨d,c⟩:=I.base.there b o e (by simp[cxOf]);exact un.free b d c (I.base.free b o e n (by simp[cxOf])) (by simp)
 ·obtain⟨d,c⟩:=I.base.there b o e (by simp[cxOf]);obtain⟨M,i⟩:=un.there b d c (by simp);by_cases hb:b∈frs outer
  ·obtain⟨S,r,nd⟩:=Jfv a.2.2.1 (p.mpr (.inr hb));obtain⟨R,J⟩:=j b S r nd;exact⟨_,J⟩
  ·exact⟨M,stay b d c (m b o e hb) M i⟩
 ·obtain⟨U,c⟩:=I.base.tbls b ps e;obtain⟨T,i⟩:=un.tbls b _ c;exact⟨U++T,by rw[i,Array.append_assoc]⟩
 ·cases z:s0.heap.get? G with
  | none=>rfl
  | some o =>
   obtain⟨d,c⟩:=I.base.there G o z (by simp[cxOf]);rw[c] at new;cases new
 ·obtain⟨d,c⟩:=I.base.there b u e (by simp[cxOf]);exact h b d c (m b u e n)
theorem Je4 :J46 (Exc1 P w) X E0:=by
 rintro pins σ H s e s' I ⟨_,_,_,_,_,_,_,_,_,_,_,_,_,_,_,q⟩;exact False.elim q
theorem Jsb(X:K.In h)(q:excIn K C bmB nid=true):
  ∃bm N nm a bs hdct sn sub ab col dd k0 k1 k2 k3 k5 mN,h.get? C=some (excClassObj nm a C N bs bm hdct sn sub ab col dd k0 k1 k2 k3 k5 nid)/\h.Ns N mN/\mN "__init__"=none/\OwnTail h bmB bm:=by
 unfold excIn at q;split at q
 ·rename_i dd cdd sl ho;split at q
  ·rename_i C' bm k0 k1 k2 k3 n k5 hm hs;simp only[Bool.and_eq_true,beq_iff_eq,Bool.not_eq_true'] at q;obtain⟨⟨⟨⟨⟨rfl,rfl⟩,d⟩,e⟩,b⟩,c⟩:=q;obtain⟨nm,bs,f,ns,a,hd,sn,sub,ab,col,g⟩:=cdd;dsimp only at hm d b c;subst hm d;obtain⟨l⟩:=sl;subst hs;exact⟨bm,ns,nm,a,bs,hd,sn,sub,ab,col,dd,k0,k1,k2,k3,k5,_,X _ _ ho,.of_isNs (PySem.W.isNs_of_in X b),PySem.W.nsMap_none_of_in X b c,PySem.W.tail_of_in X e⟩
  ·cases q
 ·cases q
theorem Jne(l:Gl (cxOf (Exc1 P w) P w K mg base N qual scope f cd A outer s0 H0 E) x)(c:mg x=some (.ref C))(q:excIn K C bmV "ValueError.__new__"=true)(d:(x==("__debug__":Str))=false:=by decide):
  PS (cxOf (Exc1 P w) P w K mg base N qual scope f cd A outer s0 H0 E) (.Raise (some (.Call (.Name x np) [.Constant (.str msg) j p1] [] cpos)) none pos) (fun D σ H=>E (.ref C) none H):=by
 intro pins s σ H D I h;obtain⟨bm,v,nm,g,bs,hdct,sn,sub,ab,col,dd,k0,k1,k2,k3,k5,mN,n,m,b,T⟩:=Jsb (I.ok.mod.kin) q;refine wpAny_Raise_call_subT (C:=C) (nm:=nm) (q:=g) (N:=v) (bs:=bs) (bm:=bm) (hdct:=hdct) (sn:=sn) (sub:=sub) (ab:=ab) (col:=col) (dd:=dd) (k0:=k0) (k1:=k1) (k2:=k2) (k3:=k3) (k5:=k5)
  PySem.F.excBase_ValueError (mN:=mN) (T.hasType PySem.F.excBase_ValueError.hasBase) (I.ok.hd rfl) rfl b (J5w I l c ⟨rfl,?_⟩ d)
 refine Calls.evalArgs_plain (thn ((J0 (J35 (X:=cxOf (Exc1 P w) P w K mg base N qual scope f cd A outer s0 H0 E)) J3) cpos pins s σ H (fun vs y=>y=H/\vs.length=1) I ⟨rfl,rfl⟩) fun us z o=>?_);obtain⟨vs,B,a,r,u,p⟩:=o;subst u;have i:us.length<=sizeLine:=by rw[<- r.length,p];decide
 exact⟨rfl,i,a.bk _ _ n,m.keeps a.bk,T.keeps a.bk,fun h' e c=>Jq7 a c h⟩
end
theorem ps_nox{st:Stmt}(h:PS X.nox st t):PS X st t:=fun pins s σ H D I hw =>
 wpAny_mono (h pins s σ H D (I.wish _) hw) (fun _ _ z=>z.unwish) fun _ _ z=>False.elim z
noncomputable def excO(a:Addr)(cls:Value):HO:=.ext fun h=>∃o,h.get? a=some o/\o.cls=cls
noncomputable def Cx.caught(X:Cx)(a:Addr):Cx:={ X with A:=X.A.mark (some (.ref a)),calm:=false,xe:=fun _ _=>False }
noncomputable def Ends.unset(D:Ends)(i:Nat):Ends:={ nx:=fun σ H=>D.nx (σ.set i none) H,rt:=D.rt,bk:=fun σ H=>D.bk (σ.set i none) H,ct:=fun σ H=>D.ct (σ.set i none) H }
section
variable{X:Cx}{pins:List (Addr×Obj)}{σ:St}{H:Hp}{s:Shared}{ea:Addr}
theorem Cx.Ok.caught(ok:X.Ok)(a:Addr):(X.caught a).Ok:=
 ⟨ok.mod,ok.kind,ok.glob,ok.blt,ok.above,ok.inj,ok.has,ok.cab,(fun z=>Bool.noConfusion z),ok.frames,ok.stk,ok.exf,ok.bs,ok.bsz,ok.noex,ok.exfs,ok.funs,ok.frf⟩
theorem Inv.caught(I:Inv X pins σ H s)(a:Addr):Inv (X.caught a) pins σ H s:=⟨I.ok.caught a,I.os,I.bare,I.base,I.loc,I.cell,I.free,I.freeC,I.pin,I.hok,I.len⟩
theorem Inv.uncaught(I:Inv (X.caught ea) pins σ H s)(ok:X.Ok):Inv X pins σ H s:=⟨ok,I.os,I.bare,I.base,I.loc,I.cell,I.free,I.freeC,I.pin,I.hok,I.len⟩
theorem J63{M:Model}{A:Around}{E:Value->Shared->Prop}{i:Nat}{x:Str}{pos:Pos}{Q:Unit->Shared->Prop}(I:Inv X pins σ H s)(Z:X.N.Nodup)(hi:X.N[i]?=some x)(Y:X.env.scope.names.lookup x=some .local)(h:∀s',Inv X pins (σ.set i none) H s'->Q () s'):wpAny M A (do bindName X.env x .none;unbindBehindTheSuite X.env x pos) Q E s:=by
 obtain⟨m,G,W⟩:=id I.loc;have r:(X.env.scope.kind == .class || (X.env.scope.kind == .module&&X.env.locals != X.env.globals))=false:=by rw[I.ok.kind];rfl
 have D:i<σ.length:=by rw[I.len];exact(gS hi)
 have cne:=I.cne;obtain⟨oL,_,_,U,_⟩:=id G;refine wpAny_nameGoes_keeps Y G r fun h' v B f=>?_;have nL:∀b o,X.s₀.heap.get? b=some o->b≠X.env.locals:=fun b o e=>Nat.ne_of_lt (Nat.lt_of_lt_of_le (lt_size e) I.ok.above);refine h _ ⟨I.ok,I.os,I.bare,⟨fun b o e n hb l=>?_,fun b o e n hb l=>?_,I.base.free,fun b o e l=>?_,I.base.tups,I.base.frzs,I.base.tbls⟩,⟨_,B,fun j y J g w e3=>?_⟩,fun y c e=>?_,I.free,I.freeC,fun p T=>?_,fun b P e=>?_,by simpa using I.len⟩
 ·exact(f.2 b (nL b o e)).trans (I.base.keep b o e n hb l)
 ·obtain⟨L,g⟩:=I.base.slot b o e n hb l;exact⟨L,(f.2 b (nL b o e)).trans g⟩
 ·obtain⟨R,g⟩:=I.base.there b o e l;exact⟨R,(f.2 b (nL b o e)).trans g⟩
 ·by_cases C:j=i
  ·subst C;rw[List.getElem?_set_self D] at w;cases w
  ·rw[getElem?_set_ne (Ne.symm C)] at w;obtain⟨K,O,q⟩:=W j y J g w e3;refine⟨K,O,?_⟩;rcases q with⟨k,e⟩|⟨k,c,e,z⟩
   ·refine .inl ⟨k,?_⟩;have:y≠x:=fun e=>C (Jb6 Z g (e▸hi));simp[this,e]
   ·exact .inr ⟨k,c,e,z.sameBut f (cne y c e)⟩
 ·obtain⟨F,z⟩:=I.cell y c e;exact⟨F,z.sameBut f (cne y c e)⟩
 ·obtain⟨e,n,ne,S,d⟩:=I.pin p T;exact⟨(f.2 p.1 ne).trans e,n,ne,S,d⟩
 ·refine(I.hok b P e).stay (fun c F u q=>(f.2 c ?_).trans q) (fun _ q=>q) fun _ _ q=>q;rintro rfl;have a:=I.free;rcases u with z|u
  ·rw[<- z,a] at e;cases e
  ·rw[a] at u;cases u
theorem land{f:Shared}{p:Hp}{B:Heap}{cls G:Value}{h':Heap}(I:Inv X pins σ H s)(L:f.os=s.os)(bare:AllBare f.gens)(h:Heap.FlyingW B X.stack ea cls G f.heap)(un:Un (frs X.stack) [] H p s.heap f.heap)(hok:HOk X.prog X.w p f.heap)(a:p ea=none)(new:s.heap.get? ea=none)(trk:∀b o,p b=some o->∃u,B.get? b=some u)(D:∀b u,s.heap.get? b=some u->b ∉ frs X.stack->∃v,B.get? b=some v)(d:Heap.FlyingW B X.stack ea cls G h')(up:f.heap.UpToSlots h'):
  Inv X pins σ (upd p ea (excO ea cls)) { f with heap:=h' }:=by
 have C:∀b o,s.heap.get? b=some o->b≠ea:=fun b o e z=>by rw[z,new] at e;cases e
 have slots:∀b o,b∈frs X.stack->f.heap.get? b=some o->∃A,h'.get? b=some { o with slots:=A }:=fun b o hb e=>by
  obtain⟨g,r,nd⟩:=Jfv h.2.2.1 hb;rw[e] at r;cases r;exact up b o e nd
 have stay:∀b o,s.heap.get? b=some o->b ∉ frs X.stack->∀g,f.heap.get? b=some g->h'.get? b=some g:=fun b o e n g r=>by
  obtain⟨v,F⟩:=D b o e n;have:=h.1 b v F;rw[r] at this;cases this;exact d.1 b _ F
 refine I.call' (s':={ f with heap:=h' }) (ch:=[]) L ⟨fun b o e n hb _=>?_,fun b o e n hb _=>?_,fun b o e n _=>?_,fun b o e _=>?_,fun b xs e=>?_,fun b o u e=>?_,fun b ps e=>?_⟩ (fun b u e=>?_) bare (fun _ z=>nomatch z)
 ·exact stay b o e hb o (un.keep b o e n hb (by simp))
 ·obtain⟨A,i⟩:=un.slot b o e n hb (by simp);obtain⟨y,l⟩:=slots b _ hb i;exact⟨y,l⟩
 ·rw[Jh (C b o e)];exact un.free b o e n (by simp)
 ·obtain⟨g,i⟩:=un.there b o e (by simp);by_cases hb:b∈frs X.stack
  ·obtain⟨A,l⟩:=slots b g hb i;exact⟨_,l⟩
  ·exact⟨g,stay b o e hb g i⟩
 ·have q:=un.tups b xs e;rw[Jh (Jb q a)];exact q
 ·have q:=un.frzs b o u e;rw[Jh (Jb q a)];exact q
 ·obtain⟨m,q⟩:=un.tbls b ps e;exact⟨m,by rw[Jh (Jb q a)];exact q⟩
 ·have j:=hok.over trk h.1 d.1;by_cases hb:b=ea
  ·subst hb;rw[J7] at e;cases e;obtain⟨E,i,l⟩:=d.there;exact⟨⟨E,i,l⟩,⟨E,i⟩,fun N M ⟨o1,K,J⟩ k=>⟨o1,k o1 K,J⟩⟩
  ·rw[Jh hb] at e;exact(j b u e).stay (fun c v _ q=>q) (fun c q=>by rw[Jh (Jb q a)];exact q) fun c xs q=>by rw[Jh (Jb q a)];exact q
noncomputable def Jp3(K:Frag)(c:Value)(i:Nat)(tb:Addr->TS)(D:Ends)(σ:St):XK:=fun cls _ b=>exmOne K cls c=some true/\∀a,b a=none->tb a (D.unset i) (σ.set i (some (.ref a))) (upd b a (excO a cls))
variable{i:Nat}{n cx:Str}{c:Value}{b₀:Stmt}{suite:List Stmt}{hpos np:Pos}{tb:Addr->TS}{D:Ends}
theorem Jlq{e:Value}{E:Shared}(d:X.stack=X.env::X.outer)(T:X.env.frame=some X.env.locals)(S:Gl X cx)(R:X.mg cx=some c)(J:X.N.Nodup)(hi:X.N[i]?=some n)(r:X.env.scope.names.lookup n=some .local)(hb:∀a,PSs (X.caught a) (b₀::suite) (tb a))(I:Inv X pins σ H s)(x:Exc1 X.prog X.w X.stack H s (Jp3 X.K c i tb D σ) e E)(U:(cx==("__debug__":Str))=false:=by decide):
  wpAny (model X.prog X.w) X.A (noteFrame e X.env) (fun _ s₂=>wpAny (model X.prog X.w) X.A (setFlight e none) (fun _ s₃=>wpAny (model X.prog X.w) X.A (handleBy e X.env [.ExceptHandler (some (.Name cx np)) (some n) (b₀::suite) hpos]) (SP X pins D) X.xe s₃) X.xe s₂) X.xe E:=by
 obtain⟨a,cls,H',B,Z,rfl,os,bare,l,un,hok,g,new,trk,F,hx,q⟩:=x;have fr:X.A.frames=some (X.env::X.outer):=by rw[<- d];exact I.ok.frames
 have O:Heap.FlyingW B (X.env::X.outer) a cls Z E.heap:=by rw[<- d];exact l
 refine wpAny_looks_onW fr T O fun h2 G C=>?_;refine wpAny_landsW G fun Y b y=>?_;have j:Heap.FlyingW B X.stack a cls Z Y:=by rw[d];exact b
 have I3:Inv X pins σ (upd H' a (excO a cls)) { E with heap:=Y }:=land I os bare l un hok g new trk F j (C.trans y);refine wpAny_handleBy_cons (codeAny_handlers_test ?_) (by intro q;cases q);refine J5w (X:=X.caught a) (I3.caught a) S R ?_ U;have LT:PySem.W.Looks (model X.prog X.w) Y (typeOf (.ref a)) cls:=by
  obtain⟨ob,e1,e2⟩:=b.there;exact e2▸(PySem.W.Looks.ld e1).andThen .now
 refine(PySem.W.exm_one (M:=model X.prog X.w) I3.kIn LT hx).here ?_;refine codeAny_handlers_suite_as ?_;refine lands_againW b fun h4 L P=>?_;have h:Heap.FlyingW B X.stack a cls Z h4:=by rw[d];exact L
 have I4:Inv X pins σ (upd H' a (excO a cls)) { E with heap:=h4 }:=land I os bare l un hok g new trk F h ((C.trans y).trans P);refine Jak (X:=X.caught a) (I4.caught a) J hi (.inl r) (v:=.ref a) rfl (fun s5 I5=>?_) (.inr r);refine wpAny_mono (hb a pins s5 _ _ (D.unset i) I5 (q a g)) (fun fl s6 z=>?_) fun _ _ z=>False.elim z
 cases fl with
 | next=>obtain⟨σ',p,o,f⟩:=z;exact J63 (o.uncaught I.ok) J hi r fun Q m=>⟨_,p,m,f⟩
 | brk=>obtain⟨σ',p,o,f⟩:=z;exact J63 (o.uncaught I.ok) J hi r fun Q m=>⟨_,p,m,f⟩
 | cont=>obtain⟨σ',p,o,f⟩:=z;exact J63 (o.uncaught I.ok) J hi r fun Q m=>⟨_,p,m,f⟩
 | ret u=>obtain⟨v,σ',p,o,r6,f⟩:=z;exact J63 (o.uncaught I.ok) J hi r fun Q m=>⟨v,_,p,m,r6,f⟩
end
section
variable{X:Cx}{k:Nat}{f:Addr}{fd:FuncData}{ps:List Str}{sp:Sp}{dvs:List V}{ds:List Value}{x n cx:Str}{i:Nat}{p pos cpos epos hpos np:Pos}{e:Expr}{es:List Expr}{t:TA}{c:Value}{b₀:Stmt}{suite:List Stmt}{tb:Addr->TS}
noncomputable def tTryc(K:Frag)(sp:Sp)(dvs:List V)(c:Value)(i:Nat)(t:TA)(tb:Addr->TS):TS:=fun D σ H=>t σ H fun vs b=>sp (vs++dvs) b (fun _ a=>D.nx σ a) (Jp3 K c i tb D σ)
theorem Jr9(F:FnOk X.prog X.w X.K X.mg X.base (Exc1 X.prog X.w) k f fd ps sp)(O:Room k X.A)(S:Gl X x)(P:X.mg x=some (.ref f))(R:keepIn X.K (.ref f)=true)(hb:J2z X.K fd ps ds)(hd:Vals dvs ds)(U:PA X.nox (e::es) t)(j:X.stack=X.env::X.outer)(B:X.env.frame=some X.env.locals)(y:Gl X cx)(m:X.mg cx=some c)(W:X.N.Nodup)(hi:X.N[i]?=some n)(o:X.env.scope.names.lookup n=some .local)(g:∀J,PSs (X.caught J) (b₀::suite) (tb J))(d:(cx==("__debug__":Str))=false:=by decide)(M:swapsWith (.Call (.Name x p) (e::es) [] cpos) none epos.line X.env=pure false:=by rfl)(C:(x==("__debug__":Str))=false:=by decide)(T:starEach (e::es) X.env=(false,eval e X.env)::starEach es X.env:=by rfl)(l:(backTo cpos (starEach es X.env)).any (·.1)=false:=by rfl):
  PS X (.Try [.Expr (.Call (.Name x p) (e::es) [] cpos) epos] [.ExceptHandler (some (.Name cx np)) (some n) (b₀::suite) hpos] [] [] pos) (tTryc X.K sp dvs c i t tb):=by
 intro pins s σ H D I h;refine wpAny_Try_except (wpAny_execs_cons (wpAny_Expr_any ?_ I.quiet M));refine wpAny_Call_Name_kw (J5w I S P ?_ C);refine callWith_K (h₀:=X.base) I.ok.mod.kin R (wpAny_mono (U cpos pins s σ H _ (I.wish _) h) (fun us E ⟨vs,H1,a,r,q⟩=>⟨a.kIn,?_⟩) fun _ _ z=>False.elim z) T l;have a:=a.unwish;have G:Vals (vs++dvs) (us++ds):=r.append hd;have Q:(us++ds).length=ps.length:=by rw[<- G.length];exact F.len _ _ _ _ q
 refine wpAny_call (codeAny_mono (F.run X.A X.stack E H1 ⟨us,[]⟩ (us++ds) (vs++dvs) _ _ O a.env0 (hb E us a.kIn Q) G q) fun r s' b=>?_)
 cases r with
 | error e=>exact Jlq j B y m W hi o g a b d
 | ok fl =>
  cases fl with
  | ret u =>
   obtain⟨v,Z,Y,_,L⟩:=a.after b;exact wpAny_execs_nil (wpAny_execs_nil (show SP X pins D .next s' from⟨σ,Z,Y,L⟩))
  | next=>exact False.elim b
  | brk=>exact False.elim b
  | cont=>exact False.elim b
end
theorem Fun.okX{K:Frag}{st:Stmt}(F:Fun K x qual st f fd)(S:Jr N ps (Jd st))(len:∀vs H Q E,sp vs H Q E->vs.length=ps.length)(b:∀(a:Value) (A:Around) (outer:List Env) (s:Shared) (H:Hp) (vs:List V) (Q:VK) (E:XK),Room k (A.deeper (envOfC qual (Jd st) s.heap.objs.size f a))->sp vs H Q E->
   ∃t,PSs (cxOf (Exc1 P w) P w K mg base N qual (Jd st) f a A outer s H E) (J1g st) t/\t { nx:=fun _ j=>Q .non j,rt:=Q } (start N vs) H):FnOk P w K mg base (Exc1 P w) (k+1) f fd ps sp:=by
 obtain⟨n,m,kV,i,l,o,a,ct,e,rfl,g,d⟩:=F.ex;exact Jor g d S len fun A outer s H vs Q E h c=>b a A outer s H vs Q E h c
structure XCls(K:Frag)(D:Addr):Prop where
 ga:findIn K (.ref D) "__getattribute__"=some (some (.builtin "BaseException.__getattribute__"))
 no:findIn K (.ref D) "__getattr__"=some none
 cl:findIn K (.ref D) "__class__"=some (some (.builtin "object.__class__"))
 get:specialIn K (.builtin "object.__class__") "__get__"=some (some (.builtin "getset_descriptor.__get__"))
 tk:takesIn K (.builtin "object.__class__")=some true
 mo:mroIn K D (.type "object")=some true
 mb:mroIn K D (.type "BaseException")=some true
 hd:hasDictIn K D=true
section
open PySem.W
variable{prog:Program}{w:World}{A:Around}{E:Value->Shared->Prop}{K:Frag}{x D:Addr}{hh:Heap}{g:Array GenState}{d:Drawn}{t:Nat}{os:OsState}
theorem x_find{M:Model}(X:K.In hh)(W:XCls K D):Looks M hh (Builtin.ObjectAttr.find (.ref x) (.ref D) "__class__") (.bind (.builtin "getset_descriptor.__get__") (.builtin "object.__class__")):=by
 have d:=looks_findIn (M:=M) X W.cl;have c:Looks M hh (Builtin.ObjectAttr.getOf (some (.builtin "object.__class__"))) (some (.builtin "getset_descriptor.__get__")):=looks_specialIn X W.get;have b:=looks_takesIn (M:=M) X W.tk;have a:Looks M hh (Builtin.ObjectAttr.dataDescriptor? (some (.builtin "object.__class__")) (some (.builtin "getset_descriptor.__get__"))) (some (.builtin "getset_descriptor.__get__",.builtin "object.__class__")):=b.andThen .now;exact d.andThen (c.andThen (a.andThen (Looks.tag .now)))
theorem x_get{R:Result->Shared->Prop}{tp:Value}(X:K.In hh)(W:XCls K D)(p:∃o,hh.get? x=some o/\o.cls=.ref D)(h:R (.ok (.ret (.ref D))) ⟨hh,g,d,t,os⟩):
  codeAny (model prog w) A (.call (.builtin "getset_descriptor.__get__") ⟨[.builtin "object.__class__",.ref x,tp],[]⟩) R ⟨hh,g,d,t,os⟩:=by
 obtain⟨o,b,a⟩:=p;have f:Looks (model prog w) hh (typeOf (.ref x)) (.ref D):=a▸(Looks.ld b).andThen .now;have e:=looks_mroIn (M:=model prog w) X W.mo;have c:=KF.slot_gs.check (M:=model prog w) (A:=A);refine codeAny_call_builtin KF.slot_gs.plain KF.entry_gs ?_;refine KF.slot_gs.check _ _ _ _ _ _ _ _ KF.type_class (KF.args_gs ..) ?_;unfold Builtin.«getset_descriptor.__get__»;unfold Builtin.Getset_descriptor.descrGet;rw[dga_obj];apply wpAny_bind;apply wpAny_pure;unfold Builtin.Getset_descriptor.descrGetter Builtin.Getset_descriptor.descrCheckInstance;unfold Builtin.Getset_descriptor.descrNameAndClass isInstance;simp only[KF.owner_class]
 repeat lk
 refine⟨Code.quiet_builtin _ (by decide +kernel),?_⟩;refine codeAny_builtin KF.entry_class ?_;unfold Builtin.«object.__class__»;unfold shownTypeOf
 repeat lk
 exact h
theorem Jq8{Q:Option Value->Shared->Prop}(X:K.In hh)(W:XCls K D)(p:∃o,hh.get? x=some o/\o.cls=.ref D)(h:Q (some (.ref D)) ⟨hh,g,d,t+1,os⟩):
  wpAny (model prog w) A (getAttr? (.ref x) "__class__") Q E ⟨hh,g,d,t,os⟩:=by
 have e:=p;obtain⟨o,c,a⟩:=e;have b:Looks (model prog w) hh (typeOf (.ref x)) (.ref D):=a▸(Looks.ld c).andThen .now;have v:=looks_findIn (M:=model prog w) X W.ga;have u:=looks_findIn (M:=model prog w) X W.no;have z:=x_find (x:=x) (M:=model prog w) X W;have s:=looks_mroIn (M:=model prog w) X W.mb;have l:=PySem.F.attrBase_ValueError.ga.bind (.ref x);unfold getAttr? getAttrBy?;unfold getAttrBy;apply wpAny_bind;apply wpAny_mkText;apply wpAny_bind;apply wpAny_attempt;apply wpAny_holding;apply wpAny_bind;refine b.at ?_;apply wpAny_bind;refine v.at ?_;have f:(Value.builtin "BaseException.__getattribute__" == Value.builtin "object.__getattribute__")=false:=by decide +kernel
 show wpAny _ _ (if (onTheHeap (Value.ref D)&&Value.builtin "BaseException.__getattribute__" == Value.builtin "object.__getattribute__")=true then _ else _) _ _ _;rw[f,Bool.and_false,if_neg Bool.false_ne_true];unfold getAttrByItsOwn hookBefore;apply wpAny_bind;show wpAny _ _ (if onTheHeap (Value.ref D)=true then _ else _) _ _ _;rw[if_pos (show onTheHeap (Value.ref D)=true from rfl)];refine u.at ?_;apply wpAny_bind;apply wpAny_attempt;apply wpAny_holding;unfold callGetattribute;rw[Bool.false_and,if_neg Bool.false_ne_true];unfold boundAndCalled;rw[l];apply wpAny_bind;apply wpAny_pure;refine wpAny_call (codeAny_call_builtin PySem.F.attrBase_ValueError.ga.plain PySem.F.entry_bexc_ga ?_);have j:builtinKind "BaseException.__getattribute__"=some .slot:=by decide +kernel
 have i:splitId "BaseException.__getattribute__"=some ("BaseException","__getattribute__"):=by decide +kernel
 have y:=PySem.F.args_bexc_ga (.ref x) (.str "__class__" t);have r:Looks (model prog w) hh (isInstance (.ref x) (.type "BaseException")) true:=b.andThen s;simp only[checkBuiltinCall,j,i];apply wpAny_bind;refine r.at ?_
 repeat (first|assumption|wp_step)
 rw[a];have q:Looks (model prog w) hh (Builtin.ObjectAttr.getOf (some (.builtin "object.__class__"))) (some (.builtin "getset_descriptor.__get__")):=looks_specialIn X W.get;have n:=looks_takesIn (M:=model prog w) X W.tk;have m:Looks (model prog w) hh (Builtin.ObjectAttr.dataDescriptor? (some (.builtin "object.__class__")) (some (.builtin "getset_descriptor.__get__"))) (some (.builtin "getset_descriptor.__get__",.builtin "object.__class__")):=n.andThen .now;refine(looks_findIn (M:=model prog w) X W.cl).at ?_;apply wpAny_bind;refine q.at ?_;apply wpAny_bind;refine m.at ?_
 repeat (first|assumption|wp_step)
 refine x_get X W p ?_
 repeat (first|assumption|wp_step)
theorem Jly{M:Model}(X:K.In hh)(W:XCls K D):Looks M hh (isType (.ref D)) true:=by
 obtain⟨b,a,_⟩:=any_some W.hd;unfold clsIn at a;split at a
 next ho =>
  intro e c d s' k q;unfold isType loadHead;apply wpAny_bind;exact wpAny_loadPart (k _ _ (X _ _ ho)) (wpAny_pure q)
 next=>cases a
theorem Jol(W:XCls K D):KitX K (.ref x) (.ref D) (fun h=>∃o,h.get? x=some o/\o.cls=.ref D) where
 ty:=fun _ _ _ f=>by obtain⟨_,d,c⟩:=f;exact c▸(Looks.ld d).andThen .now
 it:=fun _ _ X _=>Jly X W
 ne:=fun h tp dd e n i X a=>by
  obtain⟨r,b,_⟩:=any_some W.hd;apply Bool.eq_false_iff.mpr;intro q;cases beq_iff_eq.mp q;unfold clsIn at b;split at b
  next ho=>have z:=X _ _ ho;rw[a] at z;cases z
  next=>cases b
 ca:=fun {_ _ _ _ _ s} X p k=>by
  obtain⟨j,l,m,g,o0⟩:=s;exact Jq8 X W p k
end
theorem Jht{X:Cx}{f:Value}(m:f=.builtin "isinstance"):J3w X f (fun xs H Q=>∃(a D:Addr) (c:V) (d:Value) (b:Bool),xs=[.ref a,c]/\RelV c d/\(∀v,RelV c v->v=d)/\H a=some (excO a (.ref D))/\XCls X.K D/\kitOne X.K (.ref D) d=some b/\Q (.bl b) H):=by
 subst m;intro pins s σ H xs us Q I r h;obtain⟨a,D,c,d,b,rfl,n,g,e,W,l,q⟩:=h;obtain⟨u,v,rfl,j,i⟩:=Jm0 r;cases (show u=Value.ref a from j);obtain rfl:=g v i;have:=I.hok a _ e;exact kia_one (Jol W) I.kIn this.1 l (fun z=>nomatch z) fun tk=>⟨.bl b,H,I.tok tk,rfl,q⟩
noncomputable def PTs(X:Cx)(a:List Expr)(t:TT):Prop:=
 ∀(pins:List (Addr×Obj)) (s:Shared) (σ:St) (H:Hp) (Q:Bool->Hp->Prop),Inv X pins σ H s->t σ H Q->
  wpAny (model X.prog X.w) X.A (forIn a true fun c r=>if r=true then do let ok <- isTrue c X.env (eval c X.env);pure (ForInStep.yield ok) else pure (ForInStep.yield r)) (TP X pins σ Q) X.xe s
noncomputable def tYes:TT:=fun _ H Q=>Q true H
theorem J3s :PTs X [] tYes:=fun _ s σ H Q I h=>wpAny_tests_nil ⟨H,I,h⟩
theorem Jaw(h:PT X c t):PTs X [c] t:=fun pins s σ H Q I q=>wpAny_tests_one (h pins s σ H Q I q)
theorem J5m(J:Nat->Shared->Prop)(turn:∀n s,J n s->wpAny (model prog w) A (pyNext it) (fun r d=>match r with
   | none=>R (.ok .next) d
   | some v=>wpAny (model prog w) A (letOwnedTupleGo target it v) (fun _ a=>wpAny (model prog w) A (assign target env v) (fun _ i =>
     wpAny (model prog w) A (forIn ifs true fun c r=>if r=true then do let ok <- isTrue c env (eval c env);pure (ForInStep.yield ok) else pure (ForInStep.yield r)) (fun ok b =>
      if ok=true then wpAny (model prog w) A (eval elt env) (fun x g =>
       wpAny (model prog w) A (call (.builtin "list.append") [acc,x]) (fun _ f=>∃m,m<n/\J m f) (fun _ _=>False) g) (fun _ _=>False) b
      else ∃m,m<n/\J m b) (fun _ _=>False) i) (fun _ _=>False) a) (fun _ _=>False) d) (fun _ _=>False) s)(n:Nat)(h:J n s):codeAny (model prog w) A (.compLoop (.ListComp elt [⟨target,iter,ifs,0⟩] scope pos) 0 it acc env) R s:=by
 refine codeAny_loop rfl J (fun n s u=>?_) n h;refine wpAny_noted ?_;rw[compTurn_list];refine wpAny_bind (wpAny_standAt (wpAny_bind (wpAny_mono (turn n s u) (fun r d l=>?_) fun _ _ h'=>False.elim h')))
 cases r with
 | none=>exact wpAny_pure l
 | some v =>
  refine wpAny_bind (wpAny_mono l (fun _ a e=>?_) fun _ _ h'=>False.elim h');refine wpAny_bind (wpAny_mono e (fun _ i q=>wpAny_bind (wpAny_mono q (fun ok b j=>?_) fun _ _ h'=>False.elim h')) fun _ _ h'=>False.elim h')
  cases ok with
  | false=>exact wpAny_pure ⟨rfl,j⟩
  | true =>
   exact wpAny_bind (wpAny_bind (wpAny_mono j (fun x g p=>wpAny_bind (wpAny_mono p (fun _ f o=>wpAny_pure (wpAny_pure ⟨rfl,o⟩)) fun _ _ h'=>False.elim h')) fun _ _ h'=>False.elim h'))
noncomputable def LCW(J:It)(j:TT)(h:TE)(σ:St)(js:List Nat)(Q:VK)(l:Hp)(d:Addr):Prop:=∃W:Nat->Nat->List V->Hp->Prop,(∃m,W 0 m [] (upd l d (.lst [])))/\
 ∀i m ys a,W i m ys a->a d=some (.lst ys)/\((J.stop i a/\Q (.ref d) a)\/(J.go i a/\ys.length<sizeLine/\∀v g,J.yld i a v g->
  j (some v::capv σ js) g fun b f=>if b=true then h (some v::capv σ js) f fun y e=>e d=some (.lst ys)/\∃c,c<m/\W (i+1) c (ys++[y]) (upd e d (.lst (ys++[y])))
   else ∃c,c<m/\W (i+1) c ys f))
noncomputable def tLC(b:TI)(e:TT)(c:TE)(js:List Nat):TE:=fun σ H Q=>b σ H fun J a=>∀d,a d=none->LCW J e c σ js Q a d
section
variable{X:Cx}{elt iter:Expr}{ifs:List Expr}{x y:Str}{px py:Pos}{scope:Scope}{cl:List (Str×Addr)}{pos spos:Pos}{wi:TI}{tc:TT}{te:TE}{caps:List Str}{js:List Nat}{i:Nat}
noncomputable def LCWg(g:TG)(n:Nat)(J:It)(o:TT)(l:TE)(σ:St)(js:List Nat)(Q:VK)(q:Hp)(d:Addr):Prop:=∃W:Nat->Nat->List V->Hp->Prop,(∃m,W 0 m [] (upd q d (.lst [])))/\
 ∀i m ys a,W i m ys a->a d=some (.lst ys)/\((J.stop i a/\Q (.ref d) a)\/(J.go i a/\ys.length<sizeLine/\∀v j,J.yld i a v j->∀e:List (Option V),e.length=n->
  g v (e++capv σ js) j fun σ' p=>∃c:List (Option V),c.length=n/\σ'=c++capv σ js/\o σ' p fun bb h=>if bb=true then l σ' h fun y f=>f d=some (.lst ys)/\∃b,b<m/\W (i+1) b (ys++[y]) (upd f d (.lst (ys++[y])))
   else ∃b,b<m/\W (i+1) b ys h))
theorem J5f(hc:X.calm=true)(hp:PI X tgt iter wi)(hg:∀(C:Addr) (i:List Addr) (s:Shared) (H:Hp),PG (X.block (x::(xr++caps)) scope cl C i s H) tgt g)(he:∀(C:Addr) (i:List Addr) (s:Shared) (H:Hp),PE (X.block (x::(xr++caps)) scope cl C i s H) elt te)(ht:∀(C:Addr) (i:List Addr) (s:Shared) (H:Hp),PTs (X.block (x::(xr++caps)) scope cl C i s H) ifs tc)(E:∀p∈scope.names,p.2≠.cell)(U:∀p∈scope.names,p.2=.local->scope.names.lookup p.1=some .local)(l:∀p∈cl,X.env.cells.lookup p.1=some p.2)(aa:∀p∈scope.names,p.2=.free->∃c,cl.lookup p.1=some c)(ak:caps.length=js.length)(ag:∀(k:Nat) (c:Str),caps[k]?=some c->∃(j:Nat) (a:Addr),js[k]?=some j/\X.N[j]?=some c/\X.env.scope.names.lookup c=some .cell/\cl.lookup c=some a/\(relabel scope X.env).names.lookup c=some .cell)(af:closureFor scope X.env=pure cl)(z:scope.kind=.function)(hs:∀v,foldedSetIterable iter X.env v=pure v)(I:Inv X pins σ H s)(h:wi σ H R)(hR:∀J H1,R J H1->∀d,H1 d=none->LCWg g (xr.length+1) J tc te σ js Q H1 d)(fin:∀(d:Addr) (n:Hp) (s5:Shared) (C:Addr),Inv X pins σ n s5->Q (.ref d) n->(∃m,s5.heap.Ns C m)->FpOk X pins n C->compPost (model X.prog X.w) X.A X.xe use QV (.ref d) C (.ok .next) s5):
  wpAny (model X.prog X.w) X.A (comprehension (.ListComp elt [⟨tgt,iter,ifs,0⟩] scope pos) scope X.env p0 (newList []) false (eval iter X.env) use) QV X.xe s:=by
 refine wpAny_comprehension_free (cl:=cl) (use:=use) (Q:=QV) rfl hs af z U (thn (hp pins s σ H _ I h) fun v s1 h1=>thn h1 fun a1 f h2=>?_);obtain⟨it,i,tn,J,S,e,M,T,ad,f2,h3⟩:=h2;subst e;have al :=M.hok.fresh (Nat.le_refl _);obtain⟨W,⟨m0,w0⟩,hW⟩:=hR _ _ h3 f.heap.objs.size al;refine wpAny_newObj_type (wpAny_newFunctionEnv E (by intro y hy;simp at hy) (fun h₁ P F=>?_) z);dsimp only at P F ⊢;generalize hH2:f.heap.push { cls:=.type "list",dict:=none,data:=.seq ([]:List Value).toArray }=G at P F ⊢;have hC:G.objs.size=f.heap.objs.size+1:=by rw[<- hH2,Heap.size_push]
 have an:f.heap.objs.size≠G.objs.size:=by rw[hC];exact Nat.ne_of_lt (Nat.lt_succ_self _)
 have B:f.heap.objs.size<=G.objs.size:=by rw[hC];exact Nat.le_succ _
 have K:=fun b o e=>F.extBut b o (by rw[hC];exact Nat.ne_of_lt (Nat.lt_succ_of_lt (lt_size e))) (get?_push_of_some _ (hH2▸get?_push_of_some _ e));have am:=F.extBut _ _ an (get?_push_of_some _ (hH2▸get?_push_size _ rfl));have fl:∀b∈i,b<f.heap.objs.size:=fun b hb=>by
  obtain⟨o,e,_⟩:=T.obj _ _ ad b hb;exact lt_size e
 have av:=fun Z=>Nat.lt_irrefl _ (fl _ Z);have aj:HOk X.prog X.w (upd S f.heap.objs.size (.lst [])) h₁:=M.hok.laid K (Nat.le_refl _) ⟨Nat.zero_le _,[],0,.nil,am⟩;have az:∀tk,Inv (X.block (x::(xr++caps)) scope cl G.objs.size i f S) [] (replicate (xr.length+1) none++capv σ js) (upd S f.heap.objs.size (.lst [])) { f with heap:=h₁,toks:=tk }:=fun tk=>by
  refine⟨Jgn M B f2 fl z E l aa,rfl,M.bare,Un.laid K (Nat.le_refl _) al,⟨_,P,fun k q v e1 e2 e3=>?_⟩,fun q c e=>?_,?_,fun q c e=>?_,fun p hp=>absurd hp (by simp),aj,?_⟩
  ·by_cases hk:k<xr.length+1
   ·rw[getElem?_append_left (by rw[length_replicate];exact hk),List.getElem?_replicate,if_pos hk] at e2;cases e2
   ·obtain⟨k,rfl⟩:∃k',k=xr.length+1+k':=⟨k-(xr.length+1),by omega⟩;have ay:caps[k]?=some q:=by
     have e1:(x::(xr++caps))[xr.length+1+k]?=some q:=e1;rw[show xr.length+1+k=(xr.length+k)+1 by omega,List.getElem?_cons_succ,getElem?_append_right (by omega),show xr.length+k-xr.length=k by omega] at e1;exact e1
    have ax:(capv σ js)[k]?=some (some v):=by
     rw[getElem?_append_right (by rw[length_replicate];omega),length_replicate,show xr.length+1+k-(xr.length+1)=k by omega] at e2;exact e2
    obtain⟨j,a,q1,q2,q3,q4,q5⟩:=ag k q ay;obtain⟨j',r1,r2⟩:=Jgk ax;rw[q1] at r1;cases r1;obtain⟨m,Z,hl⟩:=M.loc;obtain⟨u,ru,lu⟩:=hl j q v q2 r2 (.inr (.inl q3));refine⟨u,ru,.inr ⟨.inl q5,a,q4,?_⟩⟩;rcases lu with⟨k1,_⟩|⟨_,c,ec,o,ho,hd⟩
    ·have ai:X.env.scope.names.lookup q=some .local:=k1;rw[q3] at ai;cases ai
    ·have:=l _ (mem_of_lookup q4);rw[ec] at this;cases this;exact⟨o,K _ _ ho,hd⟩
  ·obtain⟨v,o,ho,hd⟩:=M.cell q c (l _ (mem_of_lookup e));exact⟨v,o,K _ _ ho,hd⟩
  ·show upd S f.heap.objs.size (.lst []) G.objs.size=none;rw[Jh an.symm];exact M.hok.fresh B
  ·have ec:=l _ (mem_of_lookup e);obtain⟨v,o,ho,hd⟩:=M.cell q c ec;rw[Jh (Nat.ne_of_lt (lt_size ho))];exact M.freeC q c ec
  ·show(replicate (xr.length+1) none++capv σ js).length=(x::(xr++caps)).length;unfold capv;simp[ak];omega
 have O:∀{n:Hp},(∀b∈i,n b=none)->∀b∈i,FpOk (X.block (x::(xr++caps)) scope cl G.objs.size i f S) [] n b:=fun hn b hb =>
  ⟨hn b hb,Nat.ne_of_lt (Nat.lt_of_lt_of_le (fl b hb) B),(Jgn (x:=x) (caps:=xr++caps) M B f2 fl z E l aa).exfs b hb,.inl hb,fun q c e=>(f2 b hb).2.2.2.2.1 q c (l _ (mem_of_lookup e)),fun p hp=>absurd hp (by simp)⟩
 have Y:∀tk,codeAny (model X.prog X.w) X.A (.compLoop (.ListComp elt [⟨tgt,iter,ifs,0⟩] scope pos) 0 (.ref it) (.ref f.heap.objs.size) (compEnvC scope cl G.objs.size X.env))
   (compPost (model X.prog X.w) X.A X.xe use QV (.ref f.heap.objs.size) G.objs.size) { f with heap:=h₁,toks:=tk }:=fun tk=>by
  refine J5m (fun m s'=>∃(k:Nat) (ou:List (Option V)) (ys:List V) (n:Hp),ou.length=xr.length+1/\Inv (X.block (x::(xr++caps)) scope cl G.objs.size i f S) [] (ou++capv σ js) n s'/\tn k s'.heap/\(∀b∈i,n b=none)/\W k m ys n) ?_ m0
   ⟨0,_,[],_,length_replicate,az tk,T.keep _ _ _ ad fun b hb o e=>K b o e,fun b hb=>by
    rw[Jh (show b≠f.heap.objs.size from fun e=>av (by rw[<- e];exact hb))];exact(f2 b hb).1,w0⟩
  rintro m s3 ⟨k,ou,ys,n,ar,I3,ah,ao,w3⟩;obtain⟨hd,au⟩:=hW k m ys n w3;rcases au with⟨stop,q⟩|⟨go,hz,step⟩
  ·refine thn (T.done (X.block (x::(xr++caps)) scope cl G.objs.size i f S) rfl rfl rfl hc k [] s3 _ _ (fun _ _=>False) I3 (O ao) ah stop) fun r s4 L=>?_;obtain⟨hr,I4⟩:=L;subst hr;have J5:Inv X pins σ n s4:=M.call' (ch:=i) I4.os I4.base I4.hok I4.bare fun b hb=>⟨(f2 b hb).2.2.2.1,(f2 b hb).2.1,(f2 b hb).2.2.2.2.1,(f2 b hb).2.2.2.2.2⟩;exact fin _ n s4 _ J5 q (by obtain⟨m,q,_⟩:=I4.loc;exact⟨m,q⟩) (M.fpOk B I4.free)
  ·refine thn (T.item (X.block (x::(xr++caps)) scope cl G.objs.size i f S) rfl rfl rfl hc k [] s3 _ _ (fun _ _=>False) I3 (O ao) ah go) fun r s4 L=>?_;obtain⟨u,hr,h4⟩:=L;subst hr;refine thn h4 fun _ s5 L=>?_;obtain⟨v,H5,I5,r5,y5,ac,aw⟩:=L;have a0:=I5.pinned (O aw) (T.obj _ _ ac);refine thn (hg _ _ _ _ _ s5 _ _ _ u _ a0 r5 (step v H5 y5 ou ar)) fun _ s6 L=>?_;obtain⟨σ6,H6,I6,ov,aq,q6,stp⟩:=L;subst q6;refine thn (ht _ _ _ _ _ s6 _ _ _ I6 stp) fun ok s7 L=>?_;obtain⟨H7,I7,q7⟩:=L;have back:∀{s8:Shared} {H8:Hp} {ab:List V} {D:Nat},Inv (X.block (x::(xr++caps)) scope cl G.objs.size i f S) ([]++Jcc i s5.heap) (ov++capv σ js) H8 s8->D<m->W (k+1) D ab H8->
     ∃D,D<m/\∃(k:Nat) (ou:List (Option V)) (ys:List V) (n:Hp),ou.length=xr.length+1/\Inv (X.block (x::(xr++caps)) scope cl G.objs.size i f S) [] (ou++capv σ js) n s8/\tn k s8.heap/\(∀b∈i,n b=none)/\W k D ys n:=fun {s8 H8 ab D} I8 Z w8=>by
    refine⟨D,Z,k+1,ov,ab,H8,aq,I8.unpinned,T.keep _ _ _ ac fun b hb o e=>(I8.pin (b,o) (mem_append_right _ (mem_append_right _ (J5b hb e)))).1,fun b hb=>?_,w8⟩;obtain⟨o,e,d⟩:=T.obj _ _ ac b hb;exact(I8.pin (b,o) (mem_append_right _ (mem_append_right _ (J5b hb e)))).2.1
   cases ok with
   | false =>
    have ae:∃D,D<m/\W (k+1) D ys H7:=by
     have:=q7;rwa [if_neg (by decide)] at this
    obtain⟨D,Z,w8⟩:=ae;exact back I7 Z w8
   | true =>
    have ae:te (ov++capv σ js) H7 fun y H5=>H5 f.heap.objs.size=some (.lst ys)/\∃D,D<m/\W (k+1) D (ys++[y]) (upd H5 f.heap.objs.size (.lst (ys++[y]))):=by
     have:=q7;rwa [if_pos rfl] at this
    refine(show wpAny _ _ _ _ _ _ from thn (he _ _ _ _ _ s7 _ _ _ I7 ae) fun u8 s8 L=>?_);obtain⟨v8,H8,I8,r8,as,D,Z,w8⟩:=L;refine thn (J26 (X:=X.block (x::(xr++caps)) scope cl G.objs.size i f S) _ s8 _ _ (.ref f.heap.objs.size) [v8] (.ref f.heap.objs.size) [u8]
     (fun _ n=>n=upd H8 f.heap.objs.size (.lst (ys++[v8]))) I8 rfl (.cons r8 .nil) ⟨f.heap.objs.size,_,v8,rfl,rfl,as,hz,rfl⟩) fun _ s9 L=>?_
    obtain⟨_,H9,I9,_,q9⟩:=L;subst q9;exact back I9 Z w8
 have ap:tn 0 h₁:=T.keep _ _ _ ad fun b hb o e=>K b o e;exact codeAny_compStart_list (Y _) (T.self X.A 0 _ _ _ ap (Y _))
theorem Jd4(Y:X.calm=true)(T:PI X (.Name x px) iter wi)(U:∀(C:Addr) (z:List Addr) (s:Shared) (H:Hp),PE (X.block (x::caps) scope cl C z s H) elt te)(R:∀(C:Addr) (z:List Addr) (s:Shared) (H:Hp),PTs (X.block (x::caps) scope cl C z s H) ifs tc)(g:∀p∈scope.names,p.2≠.cell)(b:∀p∈scope.names,p.2=.local->scope.names.lookup p.1=some .local)(E:(x::caps).Nodup)(q:∀p∈cl,X.env.cells.lookup p.1=some p.2)(u:∀p∈scope.names,p.2=.free->∃c,cl.lookup p.1=some c)(r:caps.length=js.length)(l:∀(k:Nat) (c:Str),caps[k]?=some c->∃(j:Nat) (a:Addr),js[k]?=some j/\X.N[j]?=some c/\X.env.scope.names.lookup c=some .cell/\cl.lookup c=some a/\(relabel scope X.env).names.lookup c=some .cell)(f:closureFor scope X.env=pure cl)(e:scope.kind=.function)(P:scope.names.lookup x=some .local)(S:∀v,foldedSetIterable iter X.env v=pure v)(I:Inv X pins σ H s)(h:tLC wi tc te js σ H Q)(fin:∀(d:Addr) (F:Hp) (B:Shared) (C:Addr),Inv X pins σ F B->Q (.ref d) F->(∃m,B.heap.Ns C m)->FpOk X pins F C->compPost (model X.prog X.w) X.A X.xe use QV (.ref d) C (.ok .next) B):
  wpAny (model X.prog X.w) X.A (comprehension (.ListComp elt [⟨.Name x px,iter,ifs,0⟩] scope pos) scope X.env p0 (newList []) false (eval iter X.env) use) QV X.xe s:=by
 have n:(relabel scope X.env).names.lookup x=some .local:=lookup_relabel_local P;refine J5f (xr:=[]) Y T (fun C z s H=>J5q (X:=X.block (x::caps) scope cl C z s H) (i:=0) (pos:=px) E rfl (.inl n) (.inr n)) U R g b q u r l f e S I h (fun J H1 Z d hd=>?_) fin;obtain⟨W,L,G⟩:=Z d hd;refine⟨W,L,fun i m ys K w=>⟨(G i m ys K w).1,(G i m ys K w).2.imp id fun⟨go,O,st⟩=>⟨go,O,fun v H3 y M D=>?_⟩⟩⟩
 match M,D with
 | [o],_=>exact⟨[some v],rfl,rfl,st v H3 y⟩
noncomputable def J4m(X:Cx)(a:Scope)(cl:List (Str×Addr))(caps:List Str)(js:List Nat):Bool:=
 (caps.zip js).all fun q=>X.N[q.2]?==some q.1&&X.env.scope.names.lookup q.1==some .cell&&(cl.lookup q.1).isSome&&(relabel a X.env).names.lookup q.1==some .cell
theorem J4m.get(b:caps.length=js.length)(h:J4m X scope cl caps js=true):∀(k:Nat) (c:Str),caps[k]?=some c->∃(j:Nat) (a:Addr),js[k]?=some j/\X.N[j]?=some c/\X.env.scope.names.lookup c=some .cell/\cl.lookup c=some a/\(relabel scope X.env).names.lookup c=some .cell:=fun k c e=>by
 have d:=(gS e);have f:=gE (b▸d);have n:(c,js[k]'(b▸d))∈caps.zip js:=by
  refine List.mem_iff_getElem?.mpr ⟨k,?_⟩;rw[List.getElem?_zip_eq_some];exact⟨e,f⟩
 have:=all_eq_true.mp h _ n;simp only[Bool.and_eq_true,beq_iff_eq] at this;obtain⟨⟨⟨m,l⟩,i⟩,g⟩:=this;obtain⟨a,o⟩:=isSome_iff_exists.mp i;exact⟨_,a,f,m,l,o,g⟩
noncomputable def J3n(a:Scope)(cl:List (Str×Addr)):Bool:=a.names.all fun p=>p.2 != .free || (cl.lookup p.1).isSome
theorem J3n.get(h:J3n scope cl=true):∀p∈scope.names,p.2=.free->∃c,cl.lookup p.1=some c:=fun p a e=>by
 have:=all_eq_true.mp h p a;exact isSome_iff_exists.mp (by simp_all)
theorem Jb1(G:X.calm=true)(E:PI X (.Name x px) iter wi)(i:closureFor scope X.env=pure cl)(B:∀(C:Addr) (c:List Addr) (s:Shared) (H:Hp),PTs (X.block (x::caps) scope cl C c s H) ifs tc)(F:∀(C:Addr) (c:List Addr) (s:Shared) (H:Hp),PE (X.block (x::caps) scope cl C c s H) elt te)(j:∀p∈scope.names,p.2≠.cell:=by decide +kernel)(a:∀p∈scope.names,p.2=.local->scope.names.lookup p.1=some .local:=by decide +kernel)(y:(x::caps).Nodup:=by decide +kernel)(n:∀p∈cl,X.env.cells.lookup p.1=some p.2:=by repeat (first|exact forall_mem_nil _|refine forall_mem_cons.mpr ⟨rfl,?_⟩))(r:J3n scope cl=true:=by rfl)(f:caps.length=js.length:=by rfl)(l:J4m X scope cl caps js=true:=by rfl)(g:scope.kind=.function:=by rfl)(A:scope.names.lookup x=some .local:=by rfl)(D:∀v,foldedSetIterable iter X.env v=pure v:=by intro _;rfl):
  PE X (.ListComp elt [⟨.Name x px,iter,ifs,0⟩] scope pos) (tLC wi tc te js):=by
 intro pins s σ H Q I h;refine Jd4 (use:=none) G E F B j a y n (J3n.get r) f (J4m.get f l) i g A D I h fun d L z C K q J c=>?_;obtain⟨m,u⟩:=J;exact⟨m,u,fun h' w=>⟨.ref d,L,K.turned (h':=h') (t':=z.toks) (it:=C) (fun b o hb e=>(w.2 b hb).trans e) c.1 c.2.1 c.2.2.2.1 c.2.2.2.2.1 c.2.2.2.2.2,rfl,q⟩⟩
noncomputable def Jp4(t:TE)(i:Nat):TS:=fun D σ H=>t σ H fun v a=>D.nx (σ.set i (some v)) a
theorem ps_lc(W:X.N.Nodup)(hi:X.N[i]?=some y)(K:Loc X.env.scope y)(T:X.calm=true)(Q:PI X (.Name x px) iter wi)(m:closureFor scope X.env=pure cl)(M:∀(C:Addr) (c:List Addr) (s:Shared) (H:Hp),PTs (X.block (x::caps) scope cl C c s H) ifs tc)(S:∀(C:Addr) (c:List Addr) (s:Shared) (H:Hp),PE (X.block (x::caps) scope cl C c s H) elt te)(n:∀p∈scope.names,p.2≠.cell:=by decide +kernel)(f:∀p∈scope.names,p.2=.local->scope.names.lookup p.1=some .local:=by decide +kernel)(F:(x::caps).Nodup:=by decide +kernel)(u:∀p∈cl,X.env.cells.lookup p.1=some p.2:=by repeat (first|exact forall_mem_nil _|refine forall_mem_cons.mpr ⟨rfl,?_⟩))(w:J3n scope cl=true:=by rfl)(g:caps.length=js.length:=by rfl)(r:J4m X scope cl caps js=true:=by rfl)(R:X.fn y=true\/X.env.scope.names.lookup y=some .local:=by first|exact .inl rfl|exact .inr rfl|assumption)(B:swapsWith (.ListComp elt [⟨.Name x px,iter,ifs,0⟩] scope pos) (some (.Name y py)) spos.line X.env=pure true:=by rfl)(l:scope.kind=.function:=by rfl)(L:scope.names.lookup x=some .local:=by rfl)(O:∀v,foldedSetIterable iter X.env v=pure v:=by intro _;rfl):
  PS X (.Assign [.Name y py] (.ListComp elt [⟨.Name x px,iter,ifs,0⟩] scope pos) spos) (Jp4 (tLC wi tc te js) i):=by
 intro pins s σ H D I h;rw[exec_Assign_Name_used _ _ _ _ B];refine wpAny_bind (wpAny_standAt (wpAny_bind ?_));show wpAny _ X.A (do let _ <- comprehension (.ListComp elt [⟨.Name x px,iter,ifs,0⟩] scope pos) scope X.env _ (newList []) false (eval iter X.env) (some (assign (.Name y py) X.env))) _ _ s;refine wpAny_bind (wpAny_mono (Jd4 (use:=some (assign (.Name y py) X.env)) (QV:=fun _ s'=>SP X pins D .next s') T Q S M n f F u (J3n.get w) g (J4m.get g r) m l L O I h fun d H' s5 C J5 q Y c=>?_)
  (fun _ s' P=>wpAny_pure (wpAny_pure P)) fun _ _ e=>e)
 obtain⟨J,z⟩:=Y;refine wpAny_assign_Name ?_;refine J85 J5 W hi K (v:=.ref d) rfl (fun G I6 j=>?_) R;obtain⟨a,sa,U⟩:=j;have Z:a≠C:=by
  rcases U with e|e
  ·rw[e];exact Ne.symm c.2.1
  ·exact c.2.2.2.2.1 y a e
 exact⟨J,z.sameBut sa (Ne.symm Z),fun h' E=>⟨_,H',I6.turned (h':=h') (t':=G.toks) (it:=C) (fun b o hb e=>(E.2 b hb).trans e) c.1 c.2.1 c.2.2.2.1 c.2.2.2.2.1 c.2.2.2.2.2,q⟩⟩
end
theorem Jbd{J:It}{D:TT}{C:TE}{Q:VK}(n:Nat)(g:Nat->Bool)(f:Nat->V)(hd:H1 d=none)(O:n<=1000)(A:∀i H,i<n->Same H1 H->J.go i H)(z:∀H,Same H1 H->J.stop n H)(w:Nat->V)(K:∀i H v c,i<n->Same H1 H->J.yld i H v c->c=H/\v=w i)(L:∀i H F,i<n->Same H1 H->(∀c,Same H c->F (g i) c)->D (some (w i)::capv σ js) H F)(N:∀i H G,i<n->g i=true->Same H1 H->(∀c,Same H c->G (f i) c)->C (some (w i)::capv σ js) H G)(M:∀c,Same H1 c->c d=some (.lst (((List.range n).filter g).map f))->Q (.ref d) c):
  ∃W:Nat->Nat->List V->Hp->Prop,(∃m,W 0 m [] (upd H1 d (.lst [])))/\
   ∀i m ys h,W i m ys h->h d=some (.lst ys)/\((J.stop i h/\Q (.ref d) h)\/(J.go i h/\ys.length<sizeLine/\∀v q,J.yld i h v q->
    D (some v::capv σ js) q fun b s=>if b=true then C (some v::capv σ js) s fun y B=>B d=some (.lst ys)/\∃p,p<m/\W (i+1) p (ys++[y]) (upd B d (.lst (ys++[y])))
     else ∃p,p<m/\W (i+1) p ys s)):=by
 have s0:∀o,Same H1 (upd H1 d o):=fun o b u e=>by rw[Jh (Jb e hd)];exact e
 refine⟨fun i m ys H=>m=n-i/\i<=n/\ys=((List.range i).filter g).map f/\Same H1 H/\H d=some (.lst ys),⟨n,rfl,Nat.zero_le _,rfl,s0 _,J7⟩,?_⟩;rintro i m ys h ⟨rfl,hi,rfl,j,r⟩;refine⟨r,?_⟩;by_cases a:i<n
 ·refine .inr ⟨A i h a j,?_,fun v q I=>?_⟩
  ·have P:(((List.range i).filter g).map f).length<=i:=by
    rw[length_map];exact Nat.le_trans (length_filter_le _ _) (by rw[length_range];exact Nat.le_refl _)
   exact Js (by omega)
  ·obtain⟨rfl,rfl⟩:=K i h v q a j I;refine L i q _ a j fun s l=>?_
   cases hg:g i with
   | false =>
    refine⟨n-(i+1),by omega,rfl,a,?_,j.trans l,l _ _ r⟩;rw[range_succ,filter_append,map_append];simp[hg]
   | true =>
    refine N i s _ a hg (j.trans l) fun B E=>⟨E _ _ (l _ _ r),n-(i+1),by omega,rfl,a,?_,?_,J7⟩
    ·rw[range_succ,filter_append,map_append];simp[hg]
    ·intro b u e;rw[Jh (Jb e hd)];exact E _ _ (l _ _ (j _ _ e))
 ·have e:i=n:=by omega
  subst e;exact .inl ⟨z h j,M h j r⟩
theorem Same.tup{K:Frag}(e:Same H H')(h:SqT K H a xs):SqT K H' a xs:=by
 rcases h with(h|⟨o,h⟩)|h
 ·exact .inl (.inl (e _ _ h))
 ·exact .inl (.inr ⟨o,e _ _ h⟩)
 ·exact .inr h
theorem Jfo{α:Type}(G:α->Bool)(F:α->V):∀xs:List α,
  ((List.range xs.length).filter fun i=>match xs[i]? with|some v=>G v|none=>false).map (fun i=>match xs[i]? with|some v=>F v|none=>V.non)=(xs.filter G).map F
 | []=>rfl
 | a::r=>by
  have b:=Jfo G F r;rw[length_cons,List.range_succ_eq_map,filter_cons,List.filter_map,filter_cons];have e:(fun i=>match (a::r)[i]? with|some v=>G v|none=>false)∘Nat.succ=fun i=>match r[i]? with|some v=>G v|none=>false:=by
   funext i;simp
  have c:(fun i=>match (a::r)[i]? with|some v=>F v|none=>V.non)∘Nat.succ=fun i=>match r[i]? with|some v=>F v|none=>V.non:=by
   rfl
  cases hg:G a with
  | true =>
   simp_all
  | false =>
   simp_all
section
variable{α:Type}{K:Frag}{a:Addr}{H1:Hp}{tc:TT}{te:TE}{σ:St}{js:List Nat}{Q:VK}{d:Addr}
theorem Jpw(e:α->V)(xs:List α)(G:α->Bool)(F:α->V)(m:xs.length<=1000)(hd:H1 d=none)(c:∀i H,i<xs.length->Same H1 H->J.go i H)(b:∀H,Same H1 H->J.stop xs.length H)(j:∀i H v a,i<xs.length->Same H1 H->J.yld i H v a->a=H/\(xs.map e)[i]?=some v)(p:∀v∈xs,∀H f,Same H1 H->(∀a,Same H a->f (G v) a)->tc (some (e v)::capv σ js) H f)(r:∀v∈xs,∀H g,G v=true->Same H1 H->(∀a,Same H a->g (F v) a)->te (some (e v)::capv σ js) H g)(l:∀a,Same H1 a->a d=some (.lst ((xs.filter G).map F))->Q (.ref d) a):LCW J tc te σ js Q H1 d:=by
 refine Jbd xs.length (fun i=>match xs[i]? with|some v=>G v|none=>false) (fun i=>match xs[i]? with|some v=>F v|none=>V.non) hd m c b (fun i=>((xs.map e)[i]?).getD .non)
  (fun i H v a hi s y=>?_) (fun i H f hi s k=>?_) (fun i H g hi q s k=>?_) (fun a s h=>?_)
 ·obtain⟨o,n⟩:=j i H v a hi s y;exact⟨o,by rw[n];rfl⟩
 ·simp_all
 ·simp_all
 ·rw[Jfo] at h;exact l a s h
theorem Jpv(e:α->V)(xs:List α)(G:α->Bool)(F:α->V)(c:SqT K H1 a (xs.map e))(l:xs.length<=1000)(hd:H1 d=none)(h:∀v∈xs,∀H f,Same H1 H->(∀b,Same H b->f (G v) b)->tc (some (e v)::capv σ js) H f)(m:∀v∈xs,∀H g,G v=true->Same H1 H->(∀b,Same H b->g (F v) b)->te (some (e v)::capv σ js) H g)(j:∀b,Same H1 b->b d=some (.lst ((xs.filter G).map F))->Q (.ref d) b):LCW (Itt K a) tc te σ js Q H1 d:=
 Jpw e xs G F l hd (fun i H hi s=>⟨_,_,s.tup c,by rw[getElem?_map,gE hi];rfl⟩) (fun H s=>⟨_,s.tup c,by simp_all⟩)
  (fun i H v b hi s y=>⟨y.1,y.2 _ (s.tup c)⟩) h m j
theorem lc_lst(e:α->V)(xs:List α)(G:α->Bool)(F:α->V)(c:SqL K H1 a (xs.map e))(l:xs.length<=1000)(hd:H1 d=none)(h:∀v∈xs,∀H f,Same H1 H->(∀b,Same H b->f (G v) b)->tc (some (e v)::capv σ js) H f)(m:∀v∈xs,∀H g,G v=true->Same H1 H->(∀b,Same H b->g (F v) b)->te (some (e v)::capv σ js) H g)(j:∀b,Same H1 b->b d=some (.lst ((xs.filter G).map F))->Q (.ref d) b):LCW (Itl K a) tc te σ js Q H1 d:=
 Jpw e xs G F l hd (fun i H hi s=>⟨_,_,s.seq c,by rw[getElem?_map,gE hi];rfl⟩) (fun H s=>⟨_,s.seq c,by simp_all⟩)
  (fun i H v b hi s y=>⟨y.1,y.2 _ (s.seq c)⟩) h m j
theorem lc_rng(lo:Int)(n:Nat)(G:Nat->Bool)(F:Nat->V)(g:n<=1000)(hd:H1 d=none)(e:∀i,i<n->∀H b,Same H1 H->(∀a,Same H a->b (G i) a)->tc (some (.int (lo+i))::capv σ js) H b)(j:∀i,i<n->∀H c,G i=true->Same H1 H->(∀a,Same H a->c (F i) a)->te (some (.int (lo+i))::capv σ js) H c)(f:∀a,Same H1 a->a d=some (.lst (((List.range n).filter G).map F))->Q (.ref d) a):LCW (Itr lo n) tc te σ js Q H1 d:=
 Jbd n G F hd g (fun i H hi _=>hi) (fun H _=>Nat.le_refl _) (fun i=>.int (lo+i)) (fun i H v a hi _ y=>y) (fun i H b hi s k=>e i hi H b s k) (fun i H c hi h s k=>j i hi H c h s k) f
end
theorem J41{α:Type}(xs:List α):xs.filter (fun _=>true)=xs:=List.filter_eq_self.mpr fun _ _=>rfl
theorem J6f(d:IxR X r)(e:PE X a ta)(hb:PE X b tb)(c:Jlx b:=by intro _ _;rfl):PE X (.Subscript a b pos) (tOp r ta tb):=Jt d e hb c
section
variable{X:Cx}
noncomputable def CBig(i j:Int):Prop:=i.natAbs<2^4000/\j.natAbs<2^4000
theorem Jgo(h:k.natAbs<2^4000):Builtin.Int.intBits k<=2^20:=by
 unfold Builtin.Int.intBits;split
 ·exact Nat.zero_le _
 ·have:k.natAbs.log2<4000:=by
   rcases Nat.eq_zero_or_pos k.natAbs with h0|hp
   ·rw[h0];decide
   ·exact(Nat.log2_lt (Nat.ne_of_gt hp)).mpr h
  grind
theorem J5t:OpR X (binaryOp .Mult) (rI CBig fun i j=>.int (i*j)):=opI fun _ _ _ _ _ _ _ a q=>mul_int q (.of_bits (Jgo a.1) (Jgo a.2))
noncomputable def Jsj(i j:Int):Prop:=0<j/\j.natAbs<2^4000
theorem J7t:OpR X (binaryOp .FloorDiv) (rI Jsj fun i j=>.int (i/j)):=opI fun i j _ _ _ _ _ a q=>by
 have d:=a.1;have b:=a.2;refine floordiv_int (by lia) (by rw[Int.fdiv_eq_ediv_of_nonneg i (by lia)];exact q) (.inl (PyProof.noPylong_of_log2 ?_));have c:j.natAbs≠0:=by lia
 have:=(Nat.log2_lt c).mpr b;lia
inductive Jn8(K:Frag)(x:V)(vs:List V)(H:Hp)(Q:VK):Prop
 | mk(l:Addr)(ns:List Int)(k:Int)(_:x=.ref l)(_:vs=[.int k])(_:SqL K H l (ns.map V.int))(_:k∈ns)(_:Q (.int (ns.idxOf k:Nat)) H)
noncomputable def Jr6(K:Frag):V->List V->Hp->VK->Prop:=fun x vs H Q=>Jn8 K x vs H Q
theorem J8k:MtM X "list.index" (Jr6 X.K):=by
 intro pins s σ H x vs v us Q I m o h;obtain⟨l,ns,k,rfl,rfl,z,w,q⟩:=h;cases m;obtain⟨B,rfl,⟨t,rfl⟩⟩:=o.one;obtain⟨a,p,pl,r⟩:=I.list z;have hi:=J2c p;have b:=hi.length;obtain⟨⟨cls,dd,data,i⟩,f,g,n,hd⟩:=id pl.isList;simp only at g hd;subst g hd;have e:=idxOf_lt_length_iff.mpr w;have A:=Ja2;rw[length_map] at r;refine call_meets slot_list_index ⟨_,f,rfl⟩ PySem.F.entry_list_index (PySem.F.args_list_index_2 _ _)
  (SeqAt.list_indexAt l a.toArray n dd i (.int k t) (isInt k) (ns.idxOf k) (by simpa [b] using e) (by lia) ?_ ?_) ⟨f,fun y u=>(eq_isInt k t hi y (by simpa using u)).at _ _,⟨.int _,H,I.tok _,⟨_,rfl⟩,q⟩⟩
 ·show isInt k a[ns.idxOf k]=true;rw[isInt_at k hi _ (by lia) e];simpa using getElem_idxOf e
 ·intro j d c;show isInt k a[j]=false;rw[isInt_at k hi j (by simpa using d) (by lia)];exact ne_of_lt_idxOf c _
end
noncomputable def HasM(P:Program)(w:World)(K:Frag)(mg:Str->Option Value)(base:Heap)(CX:CXT)(k:Nat)(m:Str)(ps:List Str)(sp:Sp)(C:Addr):Prop:=
 ∃f fd,Cls K C/\Meth K C m f/\FnOk P w K mg base CX k f fd ps sp/\J2z K fd ps []
inductive Jqb(m:Str)(cls:ι->Addr)(sp:ι->Sp)(E:XK)(t:TA)(σ:St)(Q:VK)(x:V)(b:Hp):Prop
 | mk(a k c fs:_)(_:x=.ref a)(_:b a=some (.ins (cls k) c fs))(_:fs.lookup m=none)(_:t σ b fun vs d=>sp k (x::vs) d Q E)
noncomputable def Jp5{ι:Type}(m:Str)(cls:ι->Addr)(sp:ι->Sp)(E:XK)(a:TE)(t:TA):TE:=fun σ H Q=>a σ H fun x b=>Jqb m cls sp E t σ Q x b
section
variable{X:Cx}{CX:CXT}{k:Nat}{f:Addr}{fd:FuncData}{ps:List Str}{ι:Type}{cls:ι->Addr}{sp:ι->Sp}{spB:Sp}{dvs:List V}{ds:List Value}{E:XK}{x m b:Str}{p pos apos:Pos}{e o:Expr}{es:List Expr}{ta:TE}{t:TA}{B:Addr}{mc:Value}
theorem J7s(D:PE X o ta)(J:∀i,HasM X.prog X.w X.K X.mg X.base CX k m ps (sp i) (cls i))(C:Room k X.A)(z:J46 CX X E)(G:PA X (e::es) t)(b:starEach (e::es) X.env=(false,eval e X.env)::starEach es X.env:=by rfl)(d:(backTo pos (starEach es X.env)).any (·.1)=false:=by rfl)(B:eval (.Call (.Attribute o m apos) (e::es) [] pos) X.env=(do
   let ov <- eval o X.env
   standAt apos.atName
   let (f,first) <- holding [ov] (getMethod ov m pl)
   callWith pos f first (backTo pos (starEach (e::es) X.env)) (backToKw pos (keywordEach [] X.env))):=by rfl):
  PE X (.Call (.Attribute o m apos) (e::es) [] pos) (Jp5 m cls sp E ta t):=by
 intro pins s σ H Q I h;refine methodCall_KW (pl:=pl) (thn (D pins s σ H _ I h) fun u v g=>?_) B;obtain⟨x,M,p,y,a,i,P,fs,ex,L,l,q⟩:=g;subst ex;obtain rfl:u=Value.ref a:=y;obtain⟨f,fd,c,j,F,hb⟩:=J i;refine Ja4 p L c j l ?_;refine callWith_K (first:=[.ref a]) (h₀:=X.base) I.ok.mod.kin j.kp (thn (G pos pins v σ M _ p q) fun us N g=>?_) b d;obtain⟨vs,R,n,r,O⟩:=g;refine⟨n.kIn,?_⟩;exact Jfk (us:=.ref a::us) (vs:=.ref a::vs) (dvs:=[]) F C hb .nil z n (.cons rfl r) (by simp_all)
theorem J8f(p:PE X o ta)(r:∀i,HasM X.prog X.w X.K X.mg X.base CX k m ps (sp i) (cls i))(n:Room k X.A)(g:J46 CX X E)(j:eval (.Call (.Attribute o m apos) [] [] pos) X.env=(do
   let ov <- eval o X.env
   standAt apos.atName
   let (f,first) <- holding [ov] (getMethod ov m pl)
   callWith pos f first (backTo pos (starEach [] X.env)) (backToKw pos (keywordEach [] X.env))):=by rfl):
  PE X (.Call (.Attribute o m apos) [] [] pos) (Jp5 m cls sp E ta tNil):=by
 intro pins s σ H Q I h;refine methodCall_KW (pl:=pl) (thn (p pins s σ H _ I h) fun u z v=>?_) j;obtain⟨x,C,b,e,a,i,B,fs,ex,y,l,q⟩:=v;subst ex;obtain rfl:u=Value.ref a:=e;obtain⟨f,fd,c,d,F,hb⟩:=r i;refine Ja4 b y c d l ?_;exact PySem.W.callWith_K0 (first:=[.ref a]) b.kIn d.kp (Jfk (us:=[.ref a]) (vs:=[.ref a]) (dvs:=[]) F n hb .nil g b (.cons rfl .nil) q)
structure Jsk(K:Frag)(B:Addr)(m:Str)(f:Addr):Prop where
 sp:specialIn K (.ref B) "__getattribute__"=some (some (.builtin "type.__getattribute__"))
 rd:readsIn K B (.type "type")=true
 fd:findCls K (.ref B) (.type "type") m=some (.val (.ref f))
 kp:keepIn K (.ref f)=true
theorem Jrb(M:Jsk X.K B m f)(g:Gl X b)(d:X.mg b=some (.ref B))(F:FnOk X.prog X.w X.K X.mg X.base CX k f fd ps spB)(q:Room k X.A)(hb:J2z X.K fd ps ds)(hd:Vals dvs ds)(n:J46 CX X E)(u:PA X (e::es) t)(i:(b==("__debug__":Str))=false:=by decide)(a:starEach (e::es) X.env=(false,eval e X.env)::starEach es X.env:=by rfl)(c:(backTo pos (starEach es X.env)).any (·.1)=false:=by rfl)(o:eval (.Call (.Attribute (.Name b p) m apos) (e::es) [] pos) X.env=(do
   let ov <- eval (.Name b p) X.env
   standAt apos.atName
   let (f,first) <- holding [ov] (getMethod ov m pl)
   callWith pos f first (backTo pos (starEach (e::es) X.env)) (backToKw pos (keywordEach [] X.env))):=by rfl):
  PE X (.Call (.Attribute (.Name b p) m apos) (e::es) [] pos) (Jm4 spB dvs E t):=by
 intro pins s σ H Q I h;refine methodCall_KW (pl:=pl) (J5w I g d ?_ i) o;refine PySem.W.method_cls I.kIn M.sp (PySem.W.cls_value I.kIn M.rd M.fd rfl ?_);have y:=I.tok (s.toks+1);refine callWith_K (first:=[]) (h₀:=X.base) I.ok.mod.kin M.kp (thn (u pos pins _ σ H _ y h) fun us z v=>?_) a c;obtain⟨vs,C,j,r,l⟩:=v;refine⟨j.kIn,?_⟩;exact Jfk (us:=us) (vs:=vs) F q hb hd n j r l
end
noncomputable def Its(lo c:Int)(n:Nat):It:=⟨fun i _=>i<n,fun i H x a=>a=H/\x=.int (lo+(i:Nat)*c),fun i _=>n<=i⟩
theorem Jgt{K:Frag}(a:Addr)(lo c:Int)(n:Nat):Turn P w K tg (Its lo c n) [a] a (fun i h=>IsRangeIter h a (lo+(i:Nat)*c) ((n:Int)-(i:Nat)) c) where
 mem:=by simp
 obj:=fun i h st b hb=>by
  simp_all
 keep:=fun i h h' st k=>k a (by simp) _ st
 item:=by
  intro X u hw y j i pins s σ H E I g st f;subst u hw y;obtain⟨r,q,B,p,m,l⟩:=g a (by simp);refine(Walks.range (prog:=X.prog) (w:=X.w) (I.ok.hd j) a lo c n).item i s _ _ f st fun v h' tk A d z=>?_;obtain⟨t,rfl⟩:=A;have J:Inv X pins σ H { s with heap:=h',toks:=tk }:=I.turned (fun b o hb e=>z b o (by simpa using hb) e) r q p m l;exact⟨_,rfl,go_of (s:={ s with heap:=h',toks:=tk }) (n:="range_iterator") d rfl rfl (by decide) ⟨.int (lo+(i:Nat)*c),H,J,⟨t,rfl⟩,⟨rfl,rfl⟩,d,fun b hb=>(g b hb).1⟩⟩
 done:=by
  intro X u hw y j i pins s σ H E I g st f;obtain⟨r,q,B,p,m,l⟩:=g a (by simp);have f:n<=i:=f;exact wpAny_pyNext_range_end (I.ok.hd j) st (by lia) fun h' C=>⟨rfl,I.turned (t':=s.toks) (fun b o hb e=>C b o hb e) r q p m l⟩
 self:=fun _ _ _ _ _ st h=>wpAny_pyIter_rangeiter st h
theorem J57(d:0<c)(a b:Int):Builtin.Range.rangeSize a b c=if a<b then (b-a-1)/c+1 else 0:=by
 unfold Builtin.Range.rangeSize;rw[if_pos (show c>0 from d)]
theorem Jdl(h:0<=a)(g:a<=1000)(hb:-1<=b)(f:b<=1000)(d:0<c)(e:c<=1000):Builtin.Range.small a b c=true:=by
 unfold Builtin.Range.small;rw[J57 d];have j:0<=(if a<b then (b-a-1)/c+1 else 0)/\(if a<b then (b-a-1)/c+1 else 0)<=1001:=by
  split
  ·have l:0<=(b-a-1)/c:=Int.ediv_nonneg (by lia) (by lia);have i:(b-a-1)/c<=b-a-1:=Int.ediv_le_self _ (by lia);lia
  ·lia
 generalize (if a<b then (b-a-1)/c+1 else 0)=n at *;simp only[Builtin.Range.rangeFitsLong,Bool.and_eq_true,Bool.or_eq_true,decide_eq_true_eq,show c>0 from d,if_true];refine⟨?_,?_⟩ <;> lia
inductive Js7(R:It->Hp->Prop)(vs:List V)(d:Hp):Prop
 | mk(a b c:Int)(_:vs=[.int a,.int b,.int c])(_:(0<=a/\a<=1000/\-1<=b/\b<=1000/\0<c/\c<=1000))(_:R (Its a c (Builtin.Range.rangeSize a b c).toNat) d)
noncomputable def iSteps(a:TA):TI:=fun σ H R=>a σ H fun vs b=>Js7 R vs b
section
variable{X:Cx}{tg:Expr}
theorem Jnh(D:Gl X "range")(C:X.mg "range"=none)(E:PA X [a,b,c] ta)(B:starEach [a,b,c] X.env=[(false,eval a X.env),(false,eval b X.env),(false,eval c X.env)]:=by rfl)(g:starEach [b,c] X.env=[(false,eval b X.env),(false,eval c X.env)]:=by rfl):
  PI X tg (.Call (.Name "range" p) [a,b,c] [] pos) (iSteps ta):=by
 intro pins s σ H R I h;refine Call_ (J8n I D C boot_range (callWith_type1 (thn (E pos pins s σ H _ I h) fun us f F=>?_) (by rw[B,g]) (by rw[g];rfl)));obtain⟨vs,u,K,v,l⟩:=F;obtain⟨i,j,c,e,⟨l,A,z,y,n,w⟩,q⟩:=l;subst e
 cases v with
 | cons r rr =>
  cases rr with
  | cons r' rr =>
   cases rr with
   | cons r'' rr =>
    cases rr;obtain⟨t,rfl⟩:=r;obtain⟨t',rfl⟩:=r';obtain⟨d,rfl⟩:=r'';refine call_range_3 (by lia) ?_ (Or.inl (PyProof.noPylong_small (by lia)));have m:Inv X pins σ u { f with heap:=f.heap.push { cls:=.type "range",data:=.fields #[.int i t,.int j t',.int c d] },toks:=f.toks }:=K.kept fun b o e=>get?_push_of_some _ e;refine wpAny_pyIter_range (IsRange.new ..) (Jdl l A z y n w) ?_;refine⟨(f.heap.push { cls:=.type "range",data:=.fields #[.int i t,.int j t',.int c d] }).objs.size,[(f.heap.push { cls:=.type "range",data:=.fields #[.int i t,.int j t',.int c d] }).objs.size],_,_,u,rfl,
     m.kept (t':=f.toks) fun b o e=>get?_push_of_some _ e,Jgt _ i c (Builtin.Range.rangeSize i j c).toNat,?_,fun b hb=>?_,q⟩
    ·have J:i+((0:Nat):Int)*c=i:=by simp
     have G:(((Builtin.Range.rangeSize i j c).toNat:Nat):Int)-((0:Nat):Int)=Builtin.Range.rangeSize i j c:=by
      have:0<=Builtin.Range.rangeSize i j c:=by
       rw[J57 n];split
       ·have:=Int.ediv_nonneg (show 0<=j-i-1 by lia) (show 0<=c by lia);lia
       ·lia
      lia
     show IsRangeIter _ _ (i+((0:Nat):Int)*c) ((((Builtin.Range.rangeSize i j c).toNat:Nat):Int)-((0:Nat):Int)) c;rw[J,G];exact get?_push_size _ rfl
    ·obtain rfl:b=(f.heap.push { cls:=.type "range",data:=.fields #[.int i t,.int j t',.int c d] }).objs.size:=by simpa using hb
     exact m.fpOk (Nat.le_refl _) (m.hok.fresh (Nat.le_refl _))
end
theorem lc_stp(lo c:Int)(n:Nat)(F:Nat->V)(j:n<=1000)(hd:H1 d=none)(f:∀i,i<n->∀H b,Same H1 H->(∀a,Same H a->b true a)->tc (some (.int (lo+(i:Nat)*c))::capv σ js) H b)(l:∀i,i<n->∀H e,Same H1 H->(∀a,Same H a->e (F i) a)->te (some (.int (lo+(i:Nat)*c))::capv σ js) H e)(g:∀a,Same H1 a->a d=some (.lst ((List.range n).map F))->Q (.ref d) a):LCW (Its lo c n) tc te σ js Q H1 d:=
 Jbd n (fun _=>true) F hd j (fun i H hi _=>hi) (fun H _=>Nat.le_refl _) (fun i=>.int (lo+(i:Nat)*c)) (fun i H v a hi _ y=>y) (fun i H b hi s k=>f i hi H b s k) (fun i H e hi _ s k=>l i hi H e s k)
  (fun a s h=>g a s (by rw[J41] at h;exact h))
theorem Jm6(d:0<c)(h:i<(Builtin.Range.rangeSize a b c).toNat):a+(i:Int)*c<b:=by
 rw[J57 d] at h;split at h
 ·have e:(i:Int)<=(b-a-1)/c:=by lia
  have f:=Int.mul_le_of_le_ediv d e;lia
 ·simp at h
theorem Ji6{b c:Int}(d:0<c):(Builtin.Range.rangeSize a b c).toNat<=(b-a).toNat:=by
 rw[J57 d];split
 ·have e:(b-a-1)/c<=b-a-1:=Int.ediv_le_self _ (by lia);lia
 ·simp
theorem J84(k:Nat)(f:Nat->β->Sem (ForInStep β))(I:Nat->β->Shared->Prop)(Q:β->Shared->Prop)(turn:∀i b s,i<k->I i b s->wpAny M A (f i b) (fun r s'=>match r with|.yield b'=>I (i+1) b' s'|.done b'=>Q b' s') E s)(fin:∀b s,I k b s->Q b s)(b:β)(h:I 0 b s):wpAny M A (forIn ([0:k]:Std.Legacy.Range) b f) Q E s:=by
 rw[Std.Legacy.Range.forIn_eq_forIn_range'];simp only[ Nat.div_one];refine wpAny_forIn_list _ (fun a b s'=>∃i,a=List.range' i (k-i)/\i<=k/\I i b s') _ ?_ ?_ _ _ ⟨0,by simp,Nat.zero_le _,h⟩
 ·rintro x a b s' ⟨i,j,hi,l⟩;have g:i<k:=by
   rcases Nat.lt_or_ge i k with q|q
   ·exact q
   ·rw[Nat.sub_eq_zero_of_le q] at j;simp at j
  obtain⟨rfl,c⟩:x=i/\a=List.range' (i+1) (k-(i+1)):=by
   have e:k-i=(k-(i+1))+1:=by omega
   rw[e,List.range'_succ] at j;injection j with h1 h2
   exact⟨h1,h2⟩
  refine wpAny_mono (turn x b s' g l) (fun r m d=>?_) fun _ _ z=>z
  cases r with
  | done b'=>exact d
  | yield b'=>exact⟨x+1,c,g,d⟩
 ·grind
theorem Jah(l:Addr)(a:Array Value)(n:Nat)(dd:Option Addr)(p:Array (Option Value))(x:Value)(e:Value->Bool)(j:Nat)(z:j<a.size)(hit:e a[j]=true)(o:∀m (hm:m<a.size),m<j->e a[m]=false):
  Meets (Builtin.«tuple.index» ⟨[.ref l,x],[]⟩)
   (fun A R s=>s.heap.get? l=some { cls:=.type "tuple",dict:=dd,data:=.seq a n,slots:=p }/\(∀y,y∈a->SeqAt.EqAt A.in1 s y x (e y))/\R (.ok (.ret (.int j s.toks))) { s with toks:=s.toks+1 }) :=
 .of_wp fun prog w A R s h=>by
  obtain⟨r,g,d,tk,os⟩:=s;obtain⟨u,v,h⟩:=h
  wp_walk using AutoSeq1.wpAny_loadPart' u,J84 _ _ (fun i b s'=>b=(none,())/\s'=⟨r,g,d,tk,os⟩/\i<=j) _
  case turn =>
   rintro i b s' hi ⟨rfl,rfl,f⟩;have c:i<a.size:=by simpa using hi
   dsimp only;rw[Array.getElem?_eq_getElem c];refine wpAny_bind (v _ (Array.getElem_mem c) prog w _ _ ?_);rcases Nat.lt_or_ge i j with q|q
   ·rw[o i c q]
    wp_walk
    exact⟨rfl,rfl,q⟩
   ·have:i=j:=by omega
    subst this;rw[hit]
    wp_walk
    exact⟨_,rfl,h⟩
  case fin =>
   rintro b s' ⟨rfl,rfl,f⟩;exfalso;simp at f;omega
  case h=>exact⟨rfl,rfl,Nat.zero_le _⟩
inductive Jn7(x:V)(vs:List V)(H:Hp)(Q:VK):Prop
 | mk(l:Addr)(ns:List Int)(k:Int)(_:x=.ref l)(_:vs=[.int k])(_:H l=some (.tup (ns.map V.int)))(_:k∈ns)(_:Q (.int (ns.idxOf k:Nat)) H)
noncomputable def Jr5:V->List V->Hp->VK->Prop:=fun x vs H Q=>Jn7 x vs H Q
theorem Jk6 :MtM X "tuple.index" Jr5:=by
 intro pins s σ H x vs v us Q I i m h;obtain⟨l,ns,k,rfl,rfl,w,r,q⟩:=h;cases i;obtain⟨z,rfl,⟨t,rfl⟩⟩:=m.one;obtain⟨a,o,pl,A⟩:=I.tuple (SqT.of w);have hi:=J2c o;have b:=hi.length;obtain⟨⟨cls,dd,data,g⟩,f,u,n,hd⟩:=id pl;subst u hd;have e:=idxOf_lt_length_iff.mpr r;refine call_meets PySem.F.slot_tuple_index ⟨_,f,rfl⟩ PySem.F.entry_tuple_index (PySem.F.args_tuple_index_2 _ _)
  (Jah l a.toArray n dd g (.int k t) (isInt k) (ns.idxOf k) (by simpa [b] using e) ?_ ?_) ⟨f,fun y p=>(eq_isInt k t hi y (by simpa using p)).at _ _,⟨.int _,H,I.tok _,⟨_,rfl⟩,q⟩⟩
 ·show isInt k a[ns.idxOf k]=true;rw[isInt_at k hi _ (by omega) e];simpa using getElem_idxOf e
 ·intro j d c;show isInt k a[j]=false;rw[isInt_at k hi j (by simpa using d) (by omega)];exact ne_of_lt_idxOf c _
noncomputable def tBMT(r:V->List V->Hp->VK->Prop)(b:TE)(t:TA):TE:=fun σ H Q=>b σ H fun x a=>(∃p xs,x=.ref p/\a p=some (.tup xs))/\t σ a fun xs c=>r x xs c Q
theorem pe_bmT{id:String}(slot:Slot "tuple" name id)(g:typeOf (.builtin id)=pure (.type "method_descriptor"))(J:MtR X id r)(G:PE X o to)(K:PA X (e::es) t)(c:attributeBase o name X.env (eval o X.env)=eval o X.env:=by rfl)(d:((backTo cpos (starEach (e::es) X.env)).all (fun x=>!x.1)&&(backToKw cpos (keywordEach [] X.env)).all (fun x=>x.1.isSome)
   && decide ((e::es).length+([]:List Keyword).length+(if ([]:List Keyword).isEmpty then 0 else 1)<30))=true:=by rfl)(b:(apos.endLine==cpos.line)=true:=by rfl)(D:starEach (e::es) X.env=(false,eval e X.env)::starEach es X.env:=by rfl)(f:(backTo cpos (starEach es X.env)).any (·.1)=false:=by rfl):
  PE X (.Call (.Attribute o name apos) (e::es) [] cpos) (tBMT r to t):=by
 intro pins s σ H Q I h;refine wpAny_Call_method_late c d b rfl (thn (G pins s σ H _ I h) fun v j i=>?_);obtain⟨x,n,m,z,q,B⟩:=i;obtain⟨p,xs,rfl,E⟩:=q;obtain rfl:v=Value.ref p:=z;obtain⟨_,C,_,o,L,⟨M,R⟩,_⟩:=(show J2j X.prog X.w n j.heap p (.tup xs) from m.hok p _ E);refine⟨"tuple",id,PySem.F.plainAttrs_tuple,slot,g,⟨o,L,M⟩,fun a P=>by simp_all,?_⟩;have l:=K cpos pins j σ n _ m B;rw[D] at l ⊢;refine Calls.callWith_builtin (by assumption) (Calls.evalArgs_plain ?_);exact thn l fun us u i=>by obtain⟨vs,O,N,y,A⟩:=i;exact J pins u σ O (.ref p) vs (.ref p) us Q N rfl y A
section
variable{X:Cx}
theorem Jg3(K:Frag)(h:X.K=K:=by rfl):IxR X (rIxL K):=by subst h;exact J4z
theorem J5x(K:Frag)(h:X.K=K:=by rfl):IxR X (rIxT K):=by subst h;exact Jm
theorem J7c(K:Frag)(a:PE X e ta)(h:X.K=K:=by rfl)(hb:attributeBase e f X.env (eval e X.env)=eval e X.env:=by rfl):PE X (.Attribute e f pos) (tFld K ta f):=by subst h;exact Ja a hb
theorem Jlr(K:Frag)(a:X.calm=true:=by rfl)(h:X.K=K:=by rfl):J3w X (.builtin "sum") (fun xs H Q=>∃(p:Addr) (ns:List Int),xs=[.ref p]/\SqI K H p (ns.map V.int)/\Q (.int ns.sum) H):=by subst h;exact J1z a
theorem Jbo(K:Frag)(h:X.K=K:=by rfl):J3w X (.builtin "len") (fun xs H Q=>∃p ys,xs=[.ref p]/\(SqL K H p ys\/SqT K H p ys)/\Q (.int ys.length) H):=by subst h;exact Ju
end
noncomputable def Alk1(K:Frag)(H:Hp)(x y:V):Prop:=(x=y/\J5l x=true)\/∃(a b:Addr) (c:List V),x=.ref a/\y=.ref b/\SqT K H a c/\SqT K H b c/\c.all J5l=true
structure AlkL(K:Frag)(H:Hp)(xs ys:List V):Prop where
 len:xs.length=ys.length
 at_:∀(j:Nat) (a b:V),xs[j]?=some a->ys[j]?=some b->Alk1 K H a b
theorem AlkL.flat{K:Frag}{H:Hp}{xs:List V}(h:xs.all J5l=true):AlkL K H xs xs:=⟨rfl,fun j a b d c=>by
 rw[d] at c;cases c;exact .inl ⟨rfl,all_eq_true.mp h _ (mem_of_getElem? d)⟩⟩
theorem Jgf{x:V}(h:J5l x=true):eqV x x=true:=by
 cases x with
 | non=>rfl
 | bl a=>cases a <;> rfl
 | int a=>show(a==a)=true;exact beq_self_eq_true _
 | str a=>show(a==a)=true;exact beq_self_eq_true _
 | _=>cases h
theorem J6n{xs:List V}{b:List Value}(r:Vals xs b){j:Nat}(h:j<b.toArray.size):∃a,xs[j]?=some a/\RelV a b.toArray[j]:=by
 have l1:=r.length;have h':j<b.length:=by rw[size_toArray] at h;exact h
 have d:xs[j]?=some (xs[j]'(by lia)):=gE (by lia);obtain⟨u,f,e⟩:=r.get d;have c:b.toArray[j]=u:=by
  have:=gE h';rw[f] at this;simpa using (Option.some.inj this).symm
 exact⟨_,d,by rw[c];exact e⟩
theorem Jl9{A:Around}{s:Shared}{c:List V}{e d:List Value}(l:Vals c e)(i:Vals c d)(o:c.all J5l=true)(j:Nat)(q:j<e.toArray.size)(p:j<d.toArray.size):SeqAt.EqAt A s e.toArray[j] d.toArray[j] true:=by
 obtain⟨a,h,n⟩:=J6n l q;obtain⟨b,g,m⟩:=J6n i p;rw[h] at g;cases g;have f:=all_eq_true.mp o _ (mem_of_getElem? h);have:=Jgg (A:=A) (s:=s) n m f f;rw[Jgf f] at this;exact this
theorem Jlw{X:Cx}{pins:List (Addr×Obj)}{σ:St}{H:Hp}{s:Shared}(I:Inv X pins σ H s){A:Around}(y:A.units<cLine){a b:V}{u v:Value}(n:RelV a u)(m:RelV b v)(h:Alk1 X.K H a b):SeqAt.EqAt A s u v true:=by
 rcases h with⟨rfl,f⟩|⟨p,q,zs,rfl,rfl,z1,z2,hf⟩
 ·have:=Jgg (A:=A) (s:=s) n m f f;rw[Jgf f] at this;exact this
 ·cases (show u=Value.ref p from n);cases (show v=Value.ref q from m);by_cases c:p=q
  ·rw[c];exact SeqAt.EqAt.same _
  ·obtain⟨g,l,l1,_⟩:=I.tuple z1;obtain⟨d,i,w,_⟩:=I.tuple z2;have r:=l.length;have o:=i.length;refine SeqAt.EqAt.of_refs c ?_;have:=SeqAt.RcAt.tuples (A:=A) (s:=s) (e:=fun _=>true) (show s.heap.IsTuple p g.toArray from l1) (show s.heap.IsTuple q d.toArray from w) y (fun j B z=>Jl9 l i hf j B z);have e:((List.range (min g.toArray.size d.toArray.size)).all (fun _=>true)&&g.toArray.size==d.toArray.size)=true:=by
    rw[size_toArray,size_toArray,<- r,<- o];simp
   rw[e] at this;exact this
theorem Jbq{X:Cx}{pins:List (Addr×Obj)}{σ:St}{H:Hp}{s:Shared}(I:Inv X pins σ H s){A:Around}(l:A.units<cLine){xs ys:List V}{d c:List Value}(f:Vals xs d)(e:Vals ys c)(h:AlkL X.K H xs ys)(j:Nat)(n:j<d.toArray.size)(m:j<c.toArray.size):SeqAt.EqAt A s d.toArray[j] c.toArray[j] true:=by
 obtain⟨a,p,i⟩:=J6n f n;obtain⟨b,o,g⟩:=J6n e m;exact Jlw I l i g (h.at_ j a b p o)
inductive rAlkR(K:Frag)(r:Bool)(x y:V)(H:Hp)(Q:VK):Prop
 | mk(p q xs ys:_)(_:x=.ref p)(_:y=.ref q)(_:((SqL K H p xs/\SqL K H q ys)\/(SqT K H p xs/\SqT K H q ys)))(_:AlkL K H xs ys)(_:Q (.bl r) H)
noncomputable def rAlk(K:Frag)(r:Bool):R2:=fun x y H Q=>rAlkR K r x y H Q
theorem Jrg{X:Cx}(n:X.A.units+1<cLine):OpR X (compareOp .Eq) (rAlk X.K true):=by
 intro pins s σ H x y v u Q I z w h;obtain⟨p,q,xs,ys,rfl,rfl,f,l,o⟩:=h;cases z;cases w;have len:=l.len;rcases f with⟨hp,hq⟩|⟨hp,hq⟩
 ·obtain⟨b,r,pl,_⟩:=I.list hp;obtain⟨a,d,c,_⟩:=I.list hq;have l1:=r.length;have m:=d.length;refine SeqAt.eq_listAt (e:=fun _=>true) pl.isList c.isList (by rw[size_toArray,size_toArray];lia) (by lia) (fun j i g=>Jbq I n r d l j i g) ?_;have e:((List.range b.toArray.size).all fun _=>true)=true:=by simp
  rw[e];exact⟨.bl true,H,I,rfl,o⟩
 ·obtain⟨b,r,pl,_⟩:=I.tuple hp;obtain⟨a,d,c,_⟩:=I.tuple hq;have l1:=r.length;have m:=d.length;refine SeqAt.eq_tupleAt (e:=fun _=>true) (show s.heap.IsTuple p b.toArray from pl) (show s.heap.IsTuple q a.toArray from c) (by lia) (fun j i g=>Jbq I n r d l j i g) ?_;have e:((List.range (min b.toArray.size a.toArray.size)).all (fun _=>true)&&b.toArray.size==a.toArray.size)=true:=by
   rw[size_toArray,size_toArray,<- l1,<- m,len];simp
  rw[e];exact⟨.bl true,H,I,rfl,o⟩
theorem Jre{X:Cx}(n:X.A.units+1<cLine):OpR X (compareOp .NotEq) (rAlk X.K false):=by
 intro pins s σ H x y v u Q I z w h;obtain⟨p,q,xs,ys,rfl,rfl,f,l,o⟩:=h;cases z;cases w;have len:=l.len;rcases f with⟨hp,hq⟩|⟨hp,hq⟩
 ·obtain⟨b,r,pl,_⟩:=I.list hp;obtain⟨a,d,c,_⟩:=I.list hq;have l1:=r.length;have m:=d.length;refine SeqAt.RcNeAt.lists (e:=fun _=>true) pl.isList c.isList (by rw[size_toArray,size_toArray];lia) (by lia) (fun j i g=>Jbq I n r d l j i g) _ _ _ _ ?_;have e:((List.range b.toArray.size).all fun _=>true)=true:=by simp
  rw[e];exact⟨.bl false,H,I,rfl,o⟩
 ·obtain⟨b,r,pl,_⟩:=I.tuple hp;obtain⟨a,d,c,_⟩:=I.tuple hq;have l1:=r.length;have m:=d.length;refine SeqAt.RcNeAt.tuples (e:=fun _=>true) (show s.heap.IsTuple p b.toArray from pl) (show s.heap.IsTuple q a.toArray from c) (by lia) (fun j i g=>Jbq I n r d l j i g) _ _ _ _ ?_;have e:((List.range (min b.toArray.size a.toArray.size)).all (fun _=>true)&&b.toArray.size==a.toArray.size)=true:=by
   rw[size_toArray,size_toArray,<- l1,<- m,len];simp
  rw[e];exact⟨.bl false,H,I,rfl,o⟩
structure Refs(Pr:Addr->Nat->Prop)(xs:List V)(n:Nat):Prop where
 len:xs.length=n
 at_:∀i,i<n->∃q,xs[i]?=some (.ref q)/\Pr q i
theorem Refs.nil :Refs Pr [] 0:=⟨rfl,fun i h=>absurd h (Nat.not_lt_zero _)⟩
theorem Refs.snoc(h:Refs Pr xs n)(a:Pr q n):Refs Pr (xs++[.ref q]) (n+1):=by
 refine⟨by rw[length_append,h.len];rfl,fun i hi=>?_⟩;by_cases c:i<n
 ·obtain⟨p,e,b⟩:=h.at_ i c;exact⟨p,by rw[getElem?_append_left (by rw[h.len];exact c)];exact e,b⟩
 ·have e:i=n:=by lia
  subst e;refine⟨q,?_,a⟩;rw[getElem?_append_right (by rw[h.len];exact Nat.le_refl _),h.len,Nat.sub_self];rfl
theorem Refs.mono(h:Refs Pr xs n)(m:∀q i,i<n->Pr q i->Pr' q i):Refs Pr' xs n:=
 ⟨h.len,fun i hi=>by obtain⟨q,e,p⟩:=h.at_ i hi;exact⟨q,e,m q i hi p⟩⟩
noncomputable def Jp2(d:Addr)(H a:Hp):Prop:=∀b o,H b=some o->b≠d->a b=some o
end L2
namespace Rl
noncomputable def cellN(ns:List Int)(k:Nat):Int:=ns.getD k 0
theorem Jp6 :∀(xs:List Int),(∀a∈xs,a<=b)->xs.sum<=(xs.length:Int)*b
 | [],_=>by simp
 | x::xs,h=>by
  have e:=h x mem_cons_self;have d:=Jp6 xs fun a c=>h a (mem_cons_of_mem _ c);rw[sum_cons,length_cons]
  grind
noncomputable def J5g(ls:List Int)(os:List Nat):Nat->List Int×Int
 | 0=>(replicate ls.length 0,0)
 | i+1=>((J5g ls os i).1.set (os.getD i 0) (J5g ls os i).2,(J5g ls os i).2+ls.getD (os.getD i 0) 0)
theorem J4o(ls:List Int)(os:List Nat):∀i,(J5g ls os i).1.length=ls.length
 | 0=>by simp[J5g]
 | i+1=>by
  show((J5g ls os i).1.set _ _).length=_;rw[length_set];exact J4o ls os i
noncomputable def firsts(ls:List Int)(os:List Nat):List Int:=(J5g ls os os.length).1
theorem J32(ls:List Int)(os:List Nat):(firsts ls os).length=ls.length:=J4o ls os _
theorem J8a:∀{xs ys:List Int},xs.Perm ys->xs.Pairwise (·<=·)->ys.Pairwise (·<=·)->xs=ys
 | [],ys,h,_,_=>(List.Perm.nil_eq h)
 | x::xs,[],h,_,_=>absurd h.length_eq (by simp)
 | x::xs,y::ys,h,hx,hy=>by
  have b:=pairwise_cons.mp hx;have a:=pairwise_cons.mp hy;have d:=h.mem_iff.mp mem_cons_self;have c:=h.mem_iff.mpr mem_cons_self;have e:x=y:=by
   grind
  subst e;rw[J8a h.cons_inv b.2 a.2]
noncomputable def natI(os:List Nat):List Int:=os.map fun(n:Nat)=>(n:Int)
theorem Jc8(n:Nat):(natI (List.range n)).Pairwise (·<=·):=by
 unfold natI;rw[pairwise_map];exact pairwise_lt_range.imp fun h=>by lia
theorem Jbz(a:os.Perm (List.range n))(c:ns'.Perm (natI os))(b:ns'.Pairwise (·<=·)):ns'=natI (List.range n):=
 J8a (c.trans (a.map _)) b (Jc8 n)
noncomputable def Jq(ls:List Int)(os:List Nat)(i:Nat):Int:=(J5g ls os i).2
theorem J33(ls:List Int)(os:List Nat):Jq ls os 0=0:=rfl
theorem J16(ls:List Int)(os:List Nat)(i:Nat):Jq ls os (i+1)=Jq ls os i+ls.getD (os.getD i 0) 0:=rfl
structure Ord(ls:List Int)(os:List Nat):Prop where
 pos:∀a∈ls,1<=a
 perm:os.Perm (List.range ls.length)
theorem Ord.range(h:Ord ls os):Ord ls (List.range ls.length):=⟨h.pos,List.Perm.refl _⟩
theorem Ord.len(h:Ord ls os):os.length=ls.length:=by rw[h.perm.length_eq,length_range]
theorem Ord.nodup(h:Ord ls os):os.Nodup:=h.perm.nodup_iff.mpr nodup_range
theorem J28{os:List Nat}(h:i<os.length):os.getD i 0∈os:=by
 simp_all
theorem Jcn{ls:List Int}(h:i<ls.length):ls.getD i 0∈ls:=by
 simp_all
theorem Ord.lt(h:Ord ls os)(hi:i<ls.length):os.getD i 0<ls.length:=
 mem_range.mp (h.perm.mem_iff.mp (J28 (by rw[h.len];exact hi)))
theorem Ord.one(h:Ord ls os)(a:j<ls.length):1<=ls.getD j 0:=h.pos _ (Jcn a)
theorem Ord.inj(h:Ord ls os)(hi:i<ls.length)(a:j<ls.length)(e:os.getD i 0=os.getD j 0):i=j:=by
 rw[getD_eq_getElem?_getD,getD_eq_getElem?_getD,gE (by rw[h.len];exact hi),gE (by rw[h.len];exact a)] at e;exact(getElem_inj h.nodup).mp e
theorem Ord.onto(h:Ord ls os)(a:j<ls.length):∃i,i<ls.length/\os.getD i 0=j:=by
 obtain⟨i,hi,e⟩:=List.getElem_of_mem (h.perm.mem_iff.mpr (mem_range.mpr a));refine⟨i,by rw[<- h.len];exact hi,?_⟩;rw[getD_eq_getElem?_getD,gE hi];exact e
theorem Ord.step(h:Ord ls os)(hi:i<ls.length):Jq ls os i<Jq ls os (i+1):=by
 have:=h.one (h.lt hi);rw[J16];lia
theorem Ord.mono(h:Ord ls os):∀{k:Nat},i<=k->k<=ls.length->Jq ls os i<=Jq ls os k
 | 0,h1,_=>by simp_all
 | k+1,h1,h2=>by
  by_cases e:i=k+1
  ·rw[e];exact Int.le_refl _
  ·have a:=h.mono (i:=i) (k:=k) (by lia) (by lia);have b:=h.step (i:=k) (by lia);lia
theorem Jdx(f:List Int)(p q:Nat)(v:Int)(a:p<f.length):(f.set p v).getD q 0=if q=p then v else f.getD q 0:=by
 rw[getD_eq_getElem?_getD,getD_eq_getElem?_getD];by_cases e:q=p
 ·simp_all
 ·rw[getElem?_set_ne (Ne.symm e),if_neg e]
theorem Ord.at(h:Ord ls os):∀{k:Nat},i<k->k<=ls.length->(J5g ls os k).1.getD (os.getD i 0) 0=Jq ls os i
 | 0,h1,_=>absurd h1 (Nat.not_lt_zero _)
 | k+1,h1,h2=>by
  show((J5g ls os k).1.set (os.getD k 0) (J5g ls os k).2).getD (os.getD i 0) 0=_;rw[Jdx _ _ _ _ (by rw[J4o];exact h.lt (by lia))];by_cases e:i=k
  ·subst e;rw[if_pos rfl];rfl
  ·rw[if_neg (fun q=>e (h.inj (by lia) (by lia) q))];exact h.at (by lia) (by lia)
theorem Ord.first(h:Ord ls os)(hi:i<ls.length):(firsts ls os).getD (os.getD i 0) 0=Jq ls os i:=by
 unfold firsts;rw[h.len];exact h.at hi (Nat.le_refl _)
theorem J3u(ls:List Int):(List.range ls.length).map (fun j=>ls.getD j 0)=ls:=by
 apply ext_getElem?;intro k;by_cases a:k<ls.length
 ·simp_all
 ·simp_all
theorem J4l(ls:List Int)(os:List Nat):∀i,i<=os.length->Jq ls os i=((os.take i).map fun j=>ls.getD j 0).sum
 | 0,_=>by rfl
 | i+1,h=>by
  rw[J16,J4l ls os i (by lia),List.take_succ,gE (by lia)];simp only[ map_append,sum_append,sum_nil];rw[getD_eq_getElem?_getD (l:=os),gE (by lia)];simp
theorem Jax{xs:List Int}(h:xs.Perm ys):xs.sum=ys.sum:=by
 induction h with
 | nil=>rfl
 | cons x _ ih=>simp_all
 | swap x y l=>rw[sum_cons,sum_cons,sum_cons,sum_cons];lia
 | trans _ _ a b=>exact a.trans b
theorem Ord.whole(h:Ord ls os):Jq ls os ls.length=ls.sum:=by
 rw[J4l ls os _ (by rw[h.len];exact Nat.le_refl _),List.take_of_length_le (by rw[h.len];exact Nat.le_refl _)];have p:(os.map fun j=>ls.getD j 0).Perm ((List.range ls.length).map fun j=>ls.getD j 0):=h.perm.map _;rw[Jax p,J3u]
noncomputable def Lies(fs ls:List Int)(x:Int)(j:Nat):Prop:=j<ls.length/\fs.getD j 0<=x/\x<fs.getD j 0+ls.getD j 0
theorem J51{S:Nat->Int}:∀(k:Nat),S 0<=x->x<S k->∃i,i<k/\S i<=x/\x<S (i+1)
 | 0,h0,h1=>by lia
 | k+1,h0,h1=>by
  by_cases e:x<S k
  ·obtain⟨i,hi,q⟩:=J51 k h0 e;exact⟨i,by lia,q⟩
  ·exact⟨k,by lia,by lia,h1⟩
theorem Ord.lies(h:Ord ls os)(hi:i<ls.length)(b:Jq ls os i<=x)(a:x<Jq ls os (i+1)):Lies (firsts ls os) ls x (os.getD i 0):=by
 refine⟨h.lt hi,?_,?_⟩
 ·rw[h.first hi];exact b
 ·rw[h.first hi];exact a
theorem Ord.lies_of(h:Ord ls os)(q:Lies (firsts ls os) ls x j):∃i,i<ls.length/\os.getD i 0=j/\Jq ls os i<=x/\x<Jq ls os (i+1):=by
 obtain⟨c,a,b⟩:=q;obtain⟨i,hi,e⟩:=h.onto c;subst e;rw[h.first hi] at a b;exact⟨i,hi,rfl,a,by assumption⟩
theorem Ord.exists(h:Ord ls os)(d:0<=x)(c:x<ls.sum):∃j,Lies (firsts ls os) ls x j:=by
 obtain⟨i,hi,a,b⟩:=J51 (S:=Jq ls os) ls.length (by assumption) (by rw[h.whole];exact c);exact⟨_,h.lies hi a b⟩
theorem Ord.unique(h:Ord ls os)(a:Lies (firsts ls os) ls x j)(b:Lies (firsts ls os) ls x k):j=k:=by
 obtain⟨i,hi,rfl,n,m⟩:=h.lies_of a;obtain⟨c,d,rfl,l,g⟩:=h.lies_of b;have:i=c:=by
  by_cases e:i<c
  ·have:=h.mono (i:=i+1) (k:=c) e (by lia);lia
  ·by_cases f:c<i
   ·have:=h.mono (i:=c+1) (k:=i) f (by lia);lia
   ·lia
 rw[this]
theorem Ord.inside(h:Ord ls os)(a:Lies (firsts ls os) ls x j):0<=x/\x<ls.sum:=by
 obtain⟨i,hi,rfl,e,d⟩:=h.lies_of a;have c:=h.mono (i:=0) (k:=i) (Nat.zero_le _) (by lia);have b:=h.mono (i:=i+1) (k:=ls.length) (by lia) (Nat.le_refl _);rw[h.whole] at b;rw[J33] at c;lia
noncomputable def J4f(ls:List Int)(ts:List Bool)(j:Nat)(off:Int)(fs:List Int):Int:=if ts.getD j false=true then fs.getD j 0+ls.getD j 0-1-off else fs.getD j 0+off
theorem Jcg(q:Lies fs ls x j):Lies gs ls (J4f ls ts j (x-fs.getD j 0) gs) j/\J4f ls ts j (J4f ls ts j (x-fs.getD j 0) gs-gs.getD j 0) fs=x:=by
 obtain⟨c,b,a⟩:=q;unfold Lies J4f
 grind
noncomputable def J2(ls:List Int)(row:List Nat):Int:=(row.map fun j=>ls.getD j 0).sum
theorem J5v(ls:List Int)(os:List Nat):Jq ls os os.length=J2 ls os:=by
 rw[J4l ls os _ (Nat.le_refl _),take_length];rfl
theorem J22(ls:List Int):J2 ls []=0:=rfl
theorem Jn(ls:List Int)(j:Nat)(os:List Nat):J2 ls (j::os)=ls.getD j 0+J2 ls os:=by
 rfl
theorem Jg(ls:List Int)(xs ys:List Nat):J2 ls (xs++ys)=J2 ls xs+J2 ls ys:=by
 unfold J2;rw[map_append,sum_append]
theorem J2r(h:xs.Perm ys):J2 ls xs=J2 ls ys:=Jax (h.map _)
theorem J17(h:∀j∈os,0<=ls.getD j 0):0<=J2 ls os:=by
 induction os with
 | nil=>exact Int.le_refl _
 | cons a r ih =>
  rw[Jn];have:=h a mem_cons_self;have:=ih fun j b=>h j (mem_cons_of_mem _ b);lia
theorem J6l(h:∀j∈os,1<=ls.getD j 0)(b:os≠[]):1<=J2 ls os:=by
 cases os with
 | nil=>exact absurd rfl b
 | cons a r =>
  rw[Jn];have:=h a mem_cons_self;have:=J17 (ls:=ls) (os:=r) fun j c=>by grind
  lia
theorem Jkc(h:∀j∈os,0<=ls.getD j 0)(b:j∈os):ls.getD j 0<=J2 ls os:=by
 induction os with
 | nil=>cases b
 | cons a r ih =>
  rw[Jn];have d:=h a mem_cons_self;have c:=J17 (ls:=ls) (os:=r) fun j b=>h j (mem_cons_of_mem _ b)
  grind
structure Row(ls:List Int)(os:List Nat):Prop where
 nd:os.Nodup
 lt:∀j∈os,j<ls.length
 pos:∀j∈os,1<=ls.getD j 0
theorem Row.inj(h:Row ls os)(hi:i<os.length)(a:j<os.length)(e:os.getD i 0=os.getD j 0):i=j:=by
 rw[getD_eq_getElem?_getD,getD_eq_getElem?_getD,gE hi,gE a] at e;exact(getElem_inj h.nd).mp e
theorem Row.at(h:Row ls os):∀{k:Nat},i<k->k<=os.length->(J5g ls os k).1.getD (os.getD i 0) 0=Jq ls os i
 | 0,h1,_=>absurd h1 (Nat.not_lt_zero _)
 | k+1,h1,h2=>by
  show((J5g ls os k).1.set (os.getD k 0) (J5g ls os k).2).getD (os.getD i 0) 0=_;rw[Jdx _ _ _ _ (by rw[J4o];exact h.lt _ (J28 (by lia)))];by_cases e:i=k
  ·subst e;rw[if_pos rfl];rfl
  ·rw[if_neg (fun q=>e (h.inj (by lia) (by lia) q))];exact h.at (by lia) (by lia)
theorem Row.first(h:Row ls os)(hi:i<os.length):(firsts ls os).getD (os.getD i 0) 0=Jq ls os i:=h.at hi (Nat.le_refl _)
theorem Row.step(h:Row ls os)(hi:i<os.length):Jq ls os i<Jq ls os (i+1):=by
 rw[J16];have:=h.pos _ (J28 hi);lia
theorem Row.mono(h:Row ls os):∀{k:Nat},i<=k->k<=os.length->Jq ls os i<=Jq ls os k
 | 0,h1,_=>by
  simp_all
 | k+1,h1,h2=>by
  by_cases e:i=k+1
  ·subst e;exact Int.le_refl _
  ·have a:=Row.mono h (i:=i) (k:=k) (by lia) (by lia);have b:=h.step (i:=k) (by lia);lia
noncomputable def AtR(ls:List Int)(os:List Nat)(y:Int)(i:Nat):Prop:=i<os.length/\Jq ls os i<=y/\y<Jq ls os (i+1)
theorem Row.exists(h:Row ls os)(d:0<=y)(c:y<J2 ls os):∃i,AtR ls os y i:=by
 rw[<- J5v] at c;obtain⟨i,hi,a,b⟩:=J51 (S:=Jq ls os) os.length (by assumption) c;exact⟨i,hi,a,b⟩
theorem Row.unique(h:Row ls os)(a:AtR ls os y i)(b:AtR ls os y k):i=k:=by
 obtain⟨j,g,f⟩:=a;obtain⟨e,d,c⟩:=b;rcases Nat.lt_trichotomy i k with q|q|q
 ·have:=h.mono (i:=i+1) (k:=k) (by lia) (by lia);lia
 ·exact q
 ·have:=h.mono (i:=k+1) (k:=i) (by lia) (by lia);lia
theorem Row.inside(h:Row ls os)(a:AtR ls os y i):0<=y/\y<J2 ls os:=by
 obtain⟨f,e,d⟩:=a;have c:=h.mono (i:=0) (k:=i) (by lia) (by lia);have b:=h.mono (i:=i+1) (k:=os.length) (by lia) (Nat.le_refl _);rw[J33] at c;rw[J5v] at b;lia
structure Rst where
 top:List Nat
 bot:List Nat
 ls:List Int
 ts:List Bool
structure Rst.Ok(r:Rst):Prop where
 row:Row r.ls r.top
 perm:r.bot.Perm r.top
 zl:∀j,j ∉ r.top->r.ls.getD j 0=0
 zt:∀j,j ∉ r.top->r.ts.getD j false=false
 len:r.ts.length=r.ls.length
 few:r.ls.length<=24
noncomputable def Rst.size(r:Rst):Int:=J2 r.ls r.top
theorem Rst.Ok.rowB{r:Rst}(h:r.Ok):Row r.ls r.bot:=⟨h.perm.nodup_iff.mpr h.row.nd,fun j a=>h.row.lt j (h.perm.mem_iff.mp a),fun j a=>h.row.pos j (h.perm.mem_iff.mp a)⟩
theorem Rst.Ok.sizeB{r:Rst}(h:r.Ok):J2 r.ls r.bot=r.size:=J2r h.perm
noncomputable def J36(r:Rst)(y z:Int):Prop:=∃i,AtR r.ls r.top y i/\z=J4f r.ls r.ts (r.top.getD i 0) (y-Jq r.ls r.top i) (firsts r.ls r.bot)
theorem Jfy{os:List Nat}(h:j∈os):∃k,k<os.length/\os.getD k 0=j:=by
 obtain⟨k,a,e⟩:=List.getElem_of_mem h;exact⟨k,a,by simp_all⟩
theorem Rst.Ok.goes(h:r.Ok)(g:J36 r y z):∃i k,AtR r.ls r.top y i/\AtR r.ls r.bot z k/\r.bot.getD k 0=r.top.getD i 0/\
  z-Jq r.ls r.bot k=(if r.ts.getD (r.top.getD i 0) false=true then r.ls.getD (r.top.getD i 0) 0-1-(y-Jq r.ls r.top i) else y-Jq r.ls r.top i):=by
 obtain⟨i,⟨c,e,b⟩,rfl⟩:=g;obtain⟨k,d,a⟩:=Jfy (h.perm.mem_iff.mpr (J28 c));have f:=h.rowB.first d;rw[a] at f;rw[J16] at b;refine⟨i,k,⟨c,e,by exact b⟩,?_,a,?_⟩
 ·unfold J4f;refine⟨d,?_,?_⟩
  ·rw[f];split <;> lia
  ·rw[J16,a,f];split <;> lia
 ·unfold J4f;rw[f];split <;> lia
theorem Rst.Ok.fun_(h:r.Ok)(a:J36 r y z)(b:J36 r y z'):z=z':=by
 obtain⟨i,hi,rfl⟩:=a;obtain⟨k,c,rfl⟩:=b;obtain rfl:=h.row.unique hi c;rfl
theorem Rst.Ok.inj(h:r.Ok)(a:J36 r y z)(b:J36 r y' z):y=y':=by
 obtain⟨i,k,hi,f,g,o1⟩:=h.goes a;obtain⟨m,l,d,c,e,j⟩:=h.goes b;obtain rfl:=h.rowB.unique f c;rw[g] at e;obtain rfl:=h.row.inj hi.1 d.1 e
 grind
theorem Rst.Ok.there(h:r.Ok)(b:0<=y)(a:y<r.size):∃z,J36 r y z:=by
 obtain⟨i,hi⟩:=h.row.exists b a;exact⟨_,i,hi,rfl⟩
theorem Rst.Ok.stays(h:r.Ok)(a:J36 r y z):0<=z/\z<r.size:=by
 obtain⟨i,k,_,b,_,_⟩:=h.goes a;have:=h.rowB.inside b;rw[h.sizeB] at this;exact this
theorem Jag(c:os.Perm (List.range ls.length))(pos:∀a∈ls,1<=a)(hts:ts.length=ls.length)(few:ls.length<=24):(Rst.mk (List.range ls.length) os ls ts).Ok where
 row:=⟨nodup_range,fun j b=>mem_range.mp b,fun j b=>pos _ (Jcn (mem_range.mp b))⟩
 perm:=c
 zl:=fun j b=>by
  grind
 zt:=fun j b=>by
  grind
 len:=hts
 few:=few
theorem Jgr(ls:List Int)(os:List Nat)(ts:List Bool):(Rst.mk (List.range ls.length) os ls ts).size=ls.sum:=by
 show((List.range ls.length).map fun j=>ls.getD j 0).sum=_;rw[J3u]
theorem J2m(h:k<n):(List.range n).getD k 0=k:=by
 simp_all
noncomputable def J6(row:List Nat)(a:Nat):List Nat:=row.drop (row.idxOf a+1)
noncomputable def withoutR(row:List Nat)(x:Nat):List Nat:=row.filter fun j=>decide (j≠x)
noncomputable def putR(row:List Nat)(w l:Nat)(a:Bool):List Nat:=
 (withoutR row l).take (if a=true then (withoutR row l).idxOf w else (withoutR row l).idxOf w+1)++[l]++(withoutR row l).drop (if a=true then (withoutR row l).idxOf w else (withoutR row l).idxOf w+1)
theorem J14 :j∈withoutR row x↔j∈row/\j≠x:=by
 unfold withoutR;rw[mem_filter,decide_eq_true_iff]
theorem J4e(h:row.Nodup)(x:Nat):(withoutR row x).Nodup:=h.filter _
theorem J47(h:row.Nodup)(c:x∈row):(withoutR row x).length+1=row.length:=by
 induction row with
 | nil=>cases c
 | cons a r ih =>
  obtain⟨g,f⟩:=nodup_cons.mp h;unfold withoutR;rw[filter_cons];by_cases e:a=x
  ·subst e;have:r.filter (fun j=>decide (j≠a))=r:=List.filter_eq_self.mpr fun j d=>decide_eq_true (fun q=>g (q▸d));rw[if_neg (by simp),this];rfl
  ·rw[if_pos (by simpa using e)];have b:=(mem_cons.mp c).resolve_left (fun q=>e q.symm);have:=ih f b;unfold withoutR at this;simp only[length_cons];lia
theorem J3l(h:row.Nodup)(a:x∈row):(x::withoutR row x).Perm row:=by
 refine(perm_ext_iff_of_nodup (nodup_cons.mpr ⟨fun q=>(J14.mp q).2 rfl,J4e h x⟩) h).mpr fun j=>?_;rw[mem_cons,J14];constructor
 ·rintro(rfl|q)
  ·exact a
  ·exact q.1
 ·intro q;by_cases e:j=x
  ·exact .inl e
  ·exact .inr ⟨q,e⟩
theorem J39(h:row.Nodup)(b:l∈row)(a:Bool):(putR row w l a).Perm row:=by
 unfold putR;generalize (if a=true then (withoutR row l).idxOf w else (withoutR row l).idxOf w+1)=n;refine List.Perm.trans ?_ (J3l h b);have e:l::withoutR row l=[l]++((withoutR row l).take n++(withoutR row l).drop n):=by simp_all
 rw[e,<- List.append_assoc];exact List.Perm.append_right _ List.perm_append_comm
theorem J4v(h:xs.Perm ys)(x:Nat):(withoutR xs x).Perm (withoutR ys x):=h.filter _
theorem Jx(f:List Int)(p q:Nat)(v:Int)(a:p<f.length):(f.set p v).getD q 0=if q=p then v else f.getD q 0:=Jdx f p q v a
theorem J2l(f:List Bool)(p q:Nat)(v:Bool)(a:p<f.length):(f.set p v).getD q false=if q=p then v else f.getD q false:=by
 rw[getD_eq_getElem?_getD,getD_eq_getElem?_getD];by_cases e:q=p
 ·simp_all
 ·rw[getElem?_set_ne (Ne.symm e),if_neg e]
inductive Stp where
 | home (a:Nat)|even (a b:Nat)|over (a b:Nat)|under (a b:Nat)|overs (a:Nat) (t:Int)|unders (a:Nat) (t:Int)
noncomputable def Stp.winner:Stp->Nat
 | .home a=>a|.even a _=>a|.over a _=>a|.under a _=>a|.overs a _=>a|.unders a _=>a
noncomputable def Stp.times:Stp->Int
 | .overs _ t=>t|.unders _ t=>t|_=>1
noncomputable def Stp.losers(r:Rst):Stp->List Nat
 | .home _=>[]|.even _ b=>[b]|.over _ b=>[b]|.under _ b=>[b]|.overs a _=>J6 r.bot a|.unders a _=>J6 r.top a
noncomputable def Stp.own:Stp->Bool
 | .even _ _=>true|.over _ _=>true|.overs _ _=>true|_=>false
noncomputable def J2d(r:Rst)(w l:Nat):List Bool:=r.ts.set l (r.ts.getD w false != r.ts.getD l false)
noncomputable def Stp.behind(r:Rst):Stp->Rst
 | .home a=>⟨withoutR r.top a,withoutR r.bot a,r.ls.set a 0,r.ts.set a false⟩
 | .even a b=>⟨withoutR r.top a,withoutR (putR r.bot a b false) a,r.ls.set a 0,(J2d r a b).set a false⟩
 | .over a b=>⟨r.top,putR r.bot a b (r.ts.getD a false),r.ls.set a (r.ls.getD a 0-r.ls.getD b 0),J2d r a b⟩
 | .under a b=>⟨putR r.top a b (r.ts.getD a false),r.bot,r.ls.set a (r.ls.getD a 0-r.ls.getD b 0),J2d r a b⟩
 | .overs a t=>⟨r.top,r.bot,r.ls.set a (r.ls.getD a 0-t*J2 r.ls (J6 r.bot a)),r.ts⟩
 | .unders a t=>⟨r.top,r.bot,r.ls.set a (r.ls.getD a 0-t*J2 r.ls (J6 r.top a)),r.ts⟩
noncomputable def J1n(r:Rst)(a:Nat)(row:List Nat):Int:=if r.ts.getD a false=true then 0 else (r.ls.getD a 0-1)/J2 r.ls (J6 row a)
noncomputable abbrev lastT(r:Rst):Nat:=r.top.getD (r.top.length-1) 0
noncomputable abbrev lastB(r:Rst):Nat:=r.bot.getD (r.bot.length-1) 0
noncomputable def nextN(r:Rst):Stp:=
 if lastT r=lastB r then .home (lastT r)
 else if r.ls.getD (lastT r) 0=r.ls.getD (lastB r) 0 then .even (lastT r) (lastB r)
 else if r.ls.getD (lastB r) 0<r.ls.getD (lastT r) 0 then
  (if 0<J1n r (lastT r) r.bot then .overs (lastT r) (J1n r (lastT r) r.bot) else .over (lastT r) (lastB r))
 else (if 0<J1n r (lastB r) r.top then .unders (lastB r) (J1n r (lastB r) r.top) else .under (lastB r) (lastT r))
theorem Rst.Ok.lens{r:Rst}(h:r.Ok):r.bot.length=r.top.length:=h.perm.length_eq
theorem Rst.Ok.mT(h:r.Ok)(ne:r.top≠[]):lastT r∈r.top:=J28 (by have:=List.length_pos_iff.mpr ne;lia)
theorem Rst.Ok.mB(h:r.Ok)(ne:r.top≠[]):lastB r∈r.top:=h.perm.mem_iff.mp (J28 (by have:=List.length_pos_iff.mpr ne;have:=h.lens;lia))
theorem J19{row:List Nat}(h:j∈row.drop n):j∈row:=List.mem_of_mem_drop h
theorem Jda(c:a∈row)(h:row.getD (row.length-1) 0≠a):J6 row a≠[]:=by
 have b:=idxOf_lt_length_iff.mpr c;intro e;have f:=List.drop_eq_nil_iff.mp e;have d:row.idxOf a=row.length-1:=by lia
 apply h;rw[<- d,getD_eq_getElem?_getD,gE b];exact getElem_idxOf b
theorem Rst.Ok.of_rows{r:Rst}(h:r.Ok){top bot:List Nat}{ls:List Int}{ts:List Bool}(b:top.Perm r.top)(hb:bot.Perm r.top)(d:ls.length=r.ls.length)(c:ts.length=r.ts.length)(pos:∀j∈r.top,1<=ls.getD j 0)(zl:∀j,j ∉ r.top->ls.getD j 0=0)(zt:∀j,j ∉ r.top->ts.getD j false=false):(Rst.mk top bot ls ts).Ok where
 row:=⟨b.nodup_iff.mpr h.row.nd,fun j a=>by rw[d];exact h.row.lt j (b.mem_iff.mp a),fun j a=>pos j (b.mem_iff.mp a)⟩
 perm:=hb.trans b.symm
 zl:=fun j a=>zl j fun q=>a (b.mem_iff.mpr q)
 zt:=fun j a=>zt j fun q=>a (b.mem_iff.mpr q)
 len:=by rw[d,c];exact h.len
 few:=by rw[d];exact h.few
theorem J6w(h:r.Ok)(a:l∈r.top):∀j,j ∉ r.top->(J2d r w l).getD j false=false:=fun j b=>by
 unfold J2d;rw[J2l _ _ _ _ (by rw[h.len];exact h.row.lt l a),if_neg (show ¬ j=l from fun e=>b (by rw[e];exact a))];exact h.zt j b
theorem Jar{r:Rst}(h:r.Ok)(c:a∈r.top):∀j,j ∉ r.top->(r.ls.set a v).getD j 0=0:=fun j b=>by
 rw[Jx _ _ _ _ (h.row.lt a c),if_neg (show ¬ j=a from fun e=>b (by rw[e];exact c))];exact h.zl j b
theorem Jaq{r:Rst}(h:r.Ok)(d:a∈r.top)(b:1<=v):∀j∈r.top,1<=(r.ls.set a v).getD j 0:=fun j c=>by
 rw[Jx _ _ _ _ (h.row.lt a d)];split
 ·exact b
 ·exact h.row.pos j c
theorem J31(r:Rst)(w l:Nat):(J2d r w l).length=r.ts.length:=by unfold J2d;rw[length_set]
theorem Rst.Ok.less{r:Rst}(h:r.Ok)(d:a∈r.top){bot:List Nat}{ts:List Bool}(hb:bot.Perm (withoutR r.top a))(c:ts.length=r.ts.length)(zt:∀j,j ∉ r.top->ts.getD j false=false)(f:ts.getD a false=false):(Rst.mk (withoutR r.top a) bot (r.ls.set a 0) ts).Ok where
 row:=⟨J4e h.row.nd a,fun j b=>by rw[length_set];exact h.row.lt j (J14.mp b).1,fun j b=>by
  rw[Jx _ _ _ _ (h.row.lt a d),if_neg (J14.mp b).2];exact h.row.pos j (J14.mp b).1⟩
 perm:=hb
 zl:=fun j b=>by
  show(r.ls.set a 0).getD j 0=0;rw[Jx _ _ _ _ (h.row.lt a d)];split
  ·rfl
  ·rename_i e;exact h.zl j fun q=>b (J14.mpr ⟨q,e⟩)
 zt:=fun j b=>by
  by_cases e:j=a
  ·subst e;exact f
  ·exact zt j fun q=>b (J14.mpr ⟨q,e⟩)
 len:=by rw[length_set,c];exact h.len
 few:=by rw[length_set];exact h.few
theorem Ji2{la:Int}(a:1<=s):(la-1)/s*s<=la-1:=Int.ediv_mul_le _ (by lia)
theorem J2q(h:r.Ok)(ne:r.top≠[]){p:Stp->Prop}(F:lastT r=lastB r->p (.home (lastT r)))(G:lastT r≠lastB r->r.ls.getD (lastT r) 0=r.ls.getD (lastB r) 0->p (.even (lastT r) (lastB r)))(A:lastT r≠lastB r->r.ls.getD (lastB r) 0<r.ls.getD (lastT r) 0->(r.ts.getD (lastT r) false=true\/r.ls.getD (lastT r) 0<=J2 r.ls (J6 r.bot (lastT r)))->p (.over (lastT r) (lastB r)))(z:lastT r≠lastB r->r.ls.getD (lastT r) 0<r.ls.getD (lastB r) 0->(r.ts.getD (lastB r) false=true\/r.ls.getD (lastB r) 0<=J2 r.ls (J6 r.top (lastB r)))->p (.under (lastB r) (lastT r)))(B:∀t,lastT r≠lastB r->r.ls.getD (lastB r) 0<r.ls.getD (lastT r) 0->r.ts.getD (lastT r) false=false->1<=t->1<=J2 r.ls (J6 r.bot (lastT r))->J2 r.ls (J6 r.bot (lastT r))<r.ls.getD (lastT r) 0->t=(r.ls.getD (lastT r) 0-1)/J2 r.ls (J6 r.bot (lastT r))->t*J2 r.ls (J6 r.bot (lastT r))<r.ls.getD (lastT r) 0->p (.overs (lastT r) t))(y:∀t,lastT r≠lastB r->r.ls.getD (lastT r) 0<r.ls.getD (lastB r) 0->r.ts.getD (lastB r) false=false->1<=t->1<=J2 r.ls (J6 r.top (lastB r))->J2 r.ls (J6 r.top (lastB r))<r.ls.getD (lastB r) 0->t=(r.ls.getD (lastB r) 0-1)/J2 r.ls (J6 r.top (lastB r))->t*J2 r.ls (J6 r.top (lastB r))<r.ls.getD (lastB r) 0->p (.unders (lastB r) t)):p (nextN r):=by
 unfold nextN;have mT:=h.mT ne;have mB:=h.mB ne;by_cases d:lastT r=lastB r
 ·rw[if_pos d];exact F d
 rw[if_neg d];by_cases C:r.ls.getD (lastT r) 0=r.ls.getD (lastB r) 0
 ·rw[if_pos C];exact G d C
 rw[if_neg C];have i:∀(row:List Nat) (a:Nat),a∈row->(∀j∈row,1<=r.ls.getD j 0)->row.getD (row.length-1) 0≠a->
   1<=J2 r.ls (J6 row a)/\(0<J1n r a row->r.ts.getD a false=false/\1<=J1n r a row/\J2 r.ls (J6 row a)<r.ls.getD a 0/\J1n r a row=(r.ls.getD a 0-1)/J2 r.ls (J6 row a)/\J1n r a row*J2 r.ls (J6 row a)<r.ls.getD a 0)/\
   (¬ 0<J1n r a row->r.ts.getD a false=true\/r.ls.getD a 0<=J2 r.ls (J6 row a)):=fun row a H D E=>by
  have g:1<=J2 r.ls (J6 row a):=J6l (fun j l=>D j (J19 l)) (Jda H E);refine⟨g,fun hw=>?_,fun hw=>?_⟩
  ·by_cases ct:r.ts.getD a false=true
   ·unfold J1n at hw;rw[if_pos ct] at hw;lia
   ·have e:J1n r a row=(r.ls.getD a 0-1)/J2 r.ls (J6 row a):=by unfold J1n;rw[if_neg ct]
    have J:=Ji2 (la:=r.ls.getD a 0) g;rw[e] at hw ⊢;refine⟨by simpa using ct,by lia,?_,rfl,by lia⟩;have I:J2 r.ls (J6 row a)*1<=J2 r.ls (J6 row a)*((r.ls.getD a 0-1)/J2 r.ls (J6 row a)):=Int.mul_le_mul_of_nonneg_left (by lia) (by lia);rw[Int.mul_comm (J2 r.ls (J6 row a)) ((r.ls.getD a 0-1)/J2 r.ls (J6 row a))] at I;lia
  ·by_cases ct:r.ts.getD a false=true
   ·exact .inl ct
   ·right;have e:J1n r a row=(r.ls.getD a 0-1)/J2 r.ls (J6 row a):=by unfold J1n;rw[if_neg ct]
    rw[e] at hw;by_cases q:r.ls.getD a 0<=J2 r.ls (J6 row a)
    ·exact q
    ·have:=(Int.le_ediv_iff_mul_le (a:=1) (b:=r.ls.getD a 0-1) (c:=J2 r.ls (J6 row a)) (by lia)).mpr (by lia);lia
 by_cases n:r.ls.getD (lastB r) 0<r.ls.getD (lastT r) 0
 ·rw[if_pos n];obtain⟨g,k1,k2⟩:=i r.bot (lastT r) (h.perm.mem_iff.mpr mT) (fun j l=>h.rowB.pos j l) (fun e=>d e.symm);by_cases f:0<J1n r (lastT r) r.bot
  ·rw[if_pos f];obtain⟨w,v,u,s,o⟩:=k1 f;exact B _ d n w v g u s o
  ·rw[if_neg f];exact A d n (k2 f)
 ·rw[if_neg n];have m:r.ls.getD (lastT r) 0<r.ls.getD (lastB r) 0:=by lia
  obtain⟨g,k1,k2⟩:=i r.top (lastB r) mB (fun j l=>h.row.pos j l) d;by_cases f:0<J1n r (lastB r) r.top
  ·rw[if_pos f];obtain⟨w,v,u,s,o⟩:=k1 f;exact y _ d m w v g u s o
  ·rw[if_neg f];exact z d m (k2 f)
theorem Rst.Ok.next(h:r.Ok)(ne:r.top≠[]):((nextN r).behind r).Ok:=by
 have mT:=h.mT ne;have mB:=h.mB ne;have f:=h.perm.mem_iff.mpr mT;have b:=h.perm.mem_iff.mpr mB;have a:=h.rowB.nd;refine J2q h ne (p:=fun s=>(s.behind r).Ok) (fun _=>?_) (fun d c=>?_) (fun d c _=>?_) (fun d c _=>?_) (fun t d c n m l _ i g=>?_) (fun t d c n m l _ i g=>?_)
 ·refine h.less mT (J4v h.perm _) (by rw[length_set]) (fun j e=>?_) ?_
  ·rw[J2l _ _ _ _ (by rw[h.len];exact h.row.lt _ mT)];split
   ·rfl
   ·exact h.zt j e
  ·rw[J2l _ _ _ _ (by rw[h.len];exact h.row.lt _ mT),if_pos rfl]
 ·refine h.less mT ((J4v (J39 a b false) _).trans (J4v h.perm _)) (by rw[length_set,J31]) (fun j e=>?_) ?_
  ·rw[J2l _ _ _ _ (by rw[J31,h.len];exact h.row.lt _ mT)];split
   ·rfl
   ·exact J6w h mB j e
  ·rw[J2l _ _ _ _ (by rw[J31,h.len];exact h.row.lt _ mT),if_pos rfl]
 ·exact h.of_rows (List.Perm.refl _) ((J39 a b _).trans h.perm) (by rw[length_set]) (J31 _ _ _) (Jaq h mT (by lia)) (Jar h mT) (J6w h mB)
 ·exact h.of_rows (J39 h.row.nd mT _) h.perm (by rw[length_set]) (J31 _ _ _) (Jaq h mB (by lia)) (Jar h mB) (J6w h mT)
 ·exact h.of_rows (List.Perm.refl _) h.perm (by rw[length_set]) rfl (Jaq h mT (by lia)) (Jar h mT) h.zt
 ·exact h.of_rows (List.Perm.refl _) h.perm (by rw[length_set]) rfl (Jaq h mB (by lia)) (Jar h mB) h.zt
theorem J7u:∀(n:Nat) (row:List Nat),row.Nodup->(∀j∈row,j<n)->row.length<=n
 | 0,row,_,h=>by
  cases row with
  | nil=>exact Nat.le_refl _
  | cons a r=>exact absurd (h a mem_cons_self) (Nat.not_lt_zero _)
 | n+1,row,nd,h=>by
  by_cases c:n∈row
  ·have d:=J47 nd c;have e:=J7u n (withoutR row n) (J4e nd n) fun j b=>by
    have:=h j (J14.mp b).1;have:=(J14.mp b).2;lia
   lia
  ·have:=J7u n row nd fun j b=>by
    have d:=h j b
    grind
   lia
theorem Row.len_le(h:Row ls row):row.length<=ls.length:=J7u _ _ h.nd h.lt
theorem take_snoc{ks:List Nat}{i:Nat}(h:i<ks.length):ks.take (i+1)=ks.take i++[ks.getD i 0]:=by
 rw[List.take_add_one,getD_eq_getElem?_getD,gE h];rfl
theorem J9q(h:row≠[]):row=row.dropLast++[row.getD (row.length-1) 0]:=by
 have a:=List.length_pos_iff.mpr h;have e:row.getD (row.length-1) 0=row.getLast h:=by
  rw[getD_eq_getElem?_getD,gE (by lia),List.getLast_eq_getElem];rfl
 rw[e];exact(List.dropLast_concat_getLast h).symm
theorem J1m(xs ys:List Nat)(x:Nat):withoutR (xs++ys) x=withoutR xs x++withoutR ys x:=by unfold withoutR;rw[filter_append]
theorem J1l(h:x ∉ xs):withoutR xs x=xs:=List.filter_eq_self.mpr fun j a=>decide_eq_true (fun e=>h (e▸a))
theorem J1v(x:Nat):withoutR [x] x=[]:=by unfold withoutR;simp
theorem J8q(t:List Nat)(h:a ∉ s):(s++a::t).idxOf a=s.length:=by
 grind
theorem J7g(ls:List Int)(p:Nat->Bool):∀os ,(∀j∈os,p j=false->ls.getD j 0=0)->J2 ls (os.filter p)=J2 ls os
 | [],_=>rfl
 | a::r,h=>by
  have b:=J7g ls p r fun j d=>h j (mem_cons_of_mem _ d);rw[filter_cons,Jn]
  cases c:p a with
  | true=>rw[if_pos rfl,Jn,b]
  | false=>rw[if_neg (by decide),b,h a mem_cons_self c,Int.zero_add]
theorem Rst.Ok.size_sum{r:Rst}(h:r.Ok):r.size=r.ls.sum:=by
 have b:J2 r.ls (List.range r.ls.length)=r.ls.sum:=by unfold J2;rw[J3u]
 rw[<- b,<- J7g r.ls (fun j=>decide (j∈r.top)) (List.range r.ls.length) fun j _ a=>h.zl j (of_decide_eq_false a)];refine J2r ?_;refine(perm_ext_iff_of_nodup h.row.nd (nodup_range.filter _)).mpr fun j=>?_;rw[mem_filter,mem_range,decide_eq_true_iff];exact⟨fun q=>⟨h.row.lt j q,q⟩,fun q=>q.2⟩
noncomputable def J2t(r:Rst):Stp->Prop
 | .home a=>a=lastT r/\a=lastB r
 | .even a b=>a=lastT r/\b=lastB r/\a≠b/\r.ls.getD a 0=r.ls.getD b 0
 | .over a b=>a=lastT r/\b=lastB r/\a≠b/\r.ls.getD b 0<r.ls.getD a 0
 | .under a b=>a=lastB r/\b=lastT r/\a≠b/\r.ls.getD b 0<r.ls.getD a 0
 | .overs a t=>a=lastT r/\a≠lastB r/\r.ts.getD a false=false/\1<=t/\1<=J2 r.ls (J6 r.bot a)/\t*J2 r.ls (J6 r.bot a)<r.ls.getD a 0
 | .unders a t=>a=lastB r/\a≠lastT r/\r.ts.getD a false=false/\1<=t/\1<=J2 r.ls (J6 r.top a)/\t*J2 r.ls (J6 r.top a)<r.ls.getD a 0
theorem J5j(h:r.Ok)(ne:r.top≠[]):J2t r (nextN r):=
 J2q h ne (p:=J2t r) (fun c=>⟨rfl,c⟩) (fun a b=>⟨rfl,rfl,a,b⟩) (fun a b _=>⟨rfl,rfl,a,b⟩) (fun a b _=>⟨rfl,rfl,fun e=>a e.symm,b⟩)
  (fun t a b i g f _ _ d=>⟨rfl,a,i,g,f,d⟩) (fun t a b i g f _ _ d=>⟨rfl,fun e=>a e.symm,i,g,f,d⟩)
theorem J2t.win(h:r.Ok)(ne:r.top≠[])(n:J2t r s):s.winner∈r.top:=by
 have mT:=h.mT ne;have mB:=h.mB ne
 cases s with
 | home a=>rw[ n.1];exact mT
 | even a b=>rw[ n.1];exact mT
 | over a b=>rw[ n.1];exact mT
 | under a b=>rw[ n.1];exact mB
 | overs a t=>rw[ n.1];exact mT
 | unders a t=>rw[ n.1];exact mB
theorem Rst.Ok.le_size{r:Rst}(h:r.Ok)(a:j∈r.top):r.ls.getD j 0<=r.size:=Jkc (fun j a=>by have:=h.row.pos j a;lia) a
theorem J2t.times(h:r.Ok)(ne:r.top≠[])(n:J2t r s)(i:r.size<=10^30):s.times.natAbs<=10^30:=by
 have hw:=h.le_size (n.win h ne);have c:∀{t l s:Int},1<=t->1<=s->t*s<l->t<=l:=fun {t l s} m g j=>by
  have:t*1<=t*s:=Int.mul_le_mul_of_nonneg_left g (by lia);lia
 cases s with
 | overs a t =>
  obtain⟨_,_,_,f,e,d⟩:=n;have:=c f e d;show t.natAbs<=10^30;have hw:r.ls.getD a 0<=r.size:=hw;lia
 | unders a t =>
  obtain⟨_,_,_,f,e,d⟩:=n;have:=c f e d;show t.natAbs<=10^30;have hw:r.ls.getD a 0<=r.size:=hw;lia
 | home a=>show(1:Int).natAbs<=10^30;decide
 | even a b=>show(1:Int).natAbs<=10^30;decide
 | over a b=>show(1:Int).natAbs<=10^30;decide
 | under a b=>show(1:Int).natAbs<=10^30;decide
theorem J2t.losers_lt(h:r.Ok)(ne:r.top≠[])(n:J2t r s):(∀j∈s.losers r,j∈r.top)/\(s.losers r).length<=24:=by
 have mT:=h.mT ne;have mB:=h.mB ne;have l1:=Nat.le_trans h.row.len_le h.few;have d:=Nat.le_trans h.rowB.len_le h.few
 cases s with
 | home a=>exact⟨fun j c=>absurd c (by simp[Stp.losers]),Nat.zero_le _⟩
 | even a b=>exact⟨fun j c=>by rw[mem_singleton.mp c,n.2.1];exact mB,by show 1<=24;decide⟩
 | over a b=>exact⟨fun j c=>by rw[mem_singleton.mp c,n.2.1];exact mB,by show 1<=24;decide⟩
 | under a b=>exact⟨fun j c=>by rw[mem_singleton.mp c,n.2.1];exact mT,by show 1<=24;decide⟩
 | overs a t=>exact⟨fun j c=>h.perm.mem_iff.mp (J19 c),by show(J6 r.bot a).length<=24;unfold J6;rw[length_drop];lia⟩
 | unders a t=>exact⟨fun j c=>J19 c,by show(J6 r.top a).length<=24;unfold J6;rw[length_drop];lia⟩
theorem Jcd{r:Rst}(h:r.Ok):∀{os:List Nat},os.Nodup->(∀j∈os,j∈r.top)->J2 r.ls os<=r.size:=fun {os} nd d=>by
 have e:J2 r.ls (r.top.filter fun j=>decide (j∈os))=J2 r.ls os:=J2r ((perm_ext_iff_of_nodup (h.row.nd.filter _) nd).mpr fun j=>by
  rw[mem_filter,decide_eq_true_iff];exact⟨fun q=>q.2,fun q=>⟨d j q,q⟩⟩)
 have f:∀(p:Nat->Bool) (row:List Nat),(∀j∈row,0<=r.ls.getD j 0)->J2 r.ls (row.filter p)<=J2 r.ls row:=by
  intro p row c
  induction row with
  | nil=>exact Int.le_refl _
  | cons a t ih =>
   rw[filter_cons,Jn];have i:=c a mem_cons_self;have g:=ih fun j b=>c j (mem_cons_of_mem _ b);split
   ·rw[Jn];lia
   ·lia
 rw[<- e];exact f _ _ fun j b=>by have:=h.row.pos j b;lia
theorem J2t.losers_nd(h:r.Ok){s:Stp}:(s.losers r).Nodup:=by
 cases s with
 | home a=>exact List.nodup_nil
 | even a b=>exact(by simp:[b].Nodup)
 | over a b=>exact(by simp:[b].Nodup)
 | under a b=>exact(by simp:[b].Nodup)
 | overs a t=>exact List.Sublist.nodup (List.drop_sublist _ _) h.rowB.nd
 | unders a t=>exact List.Sublist.nodup (List.drop_sublist _ _) h.row.nd
theorem Jk(ls:List Int)(v:Int):∀{row:List Nat},a ∉ row->J2 (ls.set a v) row=J2 ls row
 | [],_=>rfl
 | b::row,h=>by
  have c:a≠b:=fun e=>h (e▸mem_cons_self ..);rw[Jn,Jn,Jk ls v (row:=row) fun q=>h (mem_cons_of_mem _ q)];rw[getD_eq_getElem?_getD,getD_eq_getElem?_getD,getElem?_set_ne c]
theorem J4y(ls:List Int)(v:Int)(c:a<ls.length):∀{row:List Nat},row.Nodup->a∈row->J2 (ls.set a v) row=J2 ls row-ls.getD a 0+v
 | b::row,nd,h=>by
  rw[nodup_cons] at nd;rw[Jn,Jn];by_cases e:a=b
  ·subst e;rw[Jk ls v nd.1,Jx _ _ _ _ c,if_pos rfl];lia
  ·have d:=(mem_cons.mp h).resolve_left e;rw[J4y ls v c nd.2 d,Jx _ _ _ _ c,if_neg (fun q=>e q.symm)];lia
theorem J6k(nd:row.Nodup)(b:a∈row):J2 ls (withoutR row a)+ls.getD a 0=J2 ls row:=by
 rw[<- J2r (J3l nd b),Jn];lia
theorem J8i(row:List Nat)(a:Nat):a ∉ withoutR row a:=fun h=>(J14.mp h).2 rfl
noncomputable def Jhg(ls:List Int)(a:List Nat)(t:Int)(row:List Nat):Int:=(row.map fun j=>if j∈a then ls.getD j 0*(1+t) else ls.getD j 0).sum
theorem Jhf(ls:List Int)(a:List Nat)(t:Int)(j:Nat)(row:List Nat):Jhg ls a t (j::row)=(if j∈a then ls.getD j 0*(1+t) else ls.getD j 0)+Jhg ls a t row:=by
 rfl
theorem Jfz(ls:List Int)(a:List Nat)(t:Int):∀row ,Jhg ls a t row=J2 ls row+t*J2 ls (row.filter fun j=>decide (j∈a))
 | []=>by unfold Jhg;simp[J22]
 | j::row=>by
  rw[Jhf,Jn,Jfz ls a t row,filter_cons];by_cases c:j∈a
  ·rw[if_pos c,if_pos (decide_eq_true c),Jn,Int.mul_add,Int.mul_add,Int.mul_one,Int.mul_comm (ls.getD j 0) t];lia
  ·rw[if_neg c,if_neg (by simpa using c)];lia
theorem J8w{row:List Nat}(nd:row.Nodup)(a:los.Nodup)(b:∀j∈los,j∈row):(row.filter fun j=>decide (j∈los)).Perm los:=by
 refine(perm_ext_iff_of_nodup (nd.filter _) a).mpr fun j=>?_;rw[mem_filter,decide_eq_true_iff];exact⟨fun q=>q.2,fun q=>⟨b j q,q⟩⟩
noncomputable def Stp.isHome:Stp->Bool
 | .home _=>true|_=>false
noncomputable def Stp.drops:Stp->Bool
 | .home _=>true|.even _ _=>true|_=>false
theorem J1u(nd:row.Nodup)(b:a∈row):a ∉ J6 row a:=fun h=>by
 unfold J6 at h;obtain⟨i,hi,e⟩:=List.getElem_of_mem h;rw[List.getElem_drop] at e;have d:=idxOf_lt_length_iff.mpr b;have c:=getElem_idxOf d;have f:=(getElem_inj nd).mp (e.trans c.symm);lia
structure Down(r:Rst)(s:Stp):Prop where
 size:(s.behind r).size+s.times*J2 r.ls (s.losers r)+(if s.isHome=true then r.ls.getD s.winner 0 else 0)=r.size
 less:(s.behind r).size<r.size
 made:Jhg (s.behind r).ls (s.losers r) s.times (s.behind r).top=(s.behind r).size+s.times*J2 r.ls (s.losers r)
 sub:∀j∈(s.behind r).top,j∈r.top
 len:(s.behind r).top.length+(if s.drops=true then 1 else 0)=r.top.length
theorem J43{r l:Rst}(nd:l.top.Nodup)(c:los.Nodup)(d:∀j∈los,j∈l.top)(b:l.ls=r.ls.set a v)(e:a ∉ los):
  Jhg l.ls los t l.top=l.size+t*J2 r.ls los:=by
 rw[Jfz,J2r (J8w nd c d)];rw[b,Jk _ _ e,<- b];rfl
theorem Rst.Ok.down(h:r.Ok)(ne:r.top≠[]):Down r (nextN r):=by
 have n:=J5j h ne;have ok:=h.next ne;have w:=n.win h ne;have mT:=h.mT ne;have mB:=h.mB ne;have nd:=h.row.nd;have C:=h.rowB.nd;have m:=J2t.losers_nd h (s:=nextN r);have f:=h.row.lt;have pos:=h.row.pos;generalize nextN r=s at *
 cases s with
 | home a =>
  have d:a∈r.top:=w;have sz:((Stp.home a).behind r).size=J2 r.ls (withoutR r.top a):=Jk _ _ (J8i _ _);have e:=J6k (ls:=r.ls) nd d;have p:=pos a d;have y:r.size=J2 r.ls r.top:=rfl;refine⟨?_,by lia,?_,fun j c=>(J14.mp c).1,J47 nd d⟩
  ·show((Stp.home a).behind r).size+1*J2 r.ls []+(if true=true then r.ls.getD a 0 else 0)=r.size;rw[if_pos rfl,J22];lia
  ·exact J43 (a:=a) (v:=0) ok.row.nd m (fun j c=>nomatch c) rfl (fun q=>nomatch q)
 | even a b =>
  obtain⟨A,l,i,o⟩:=n;have d:a∈r.top:=w;have g:b∈r.top:=by rw[l];exact mB
  have sz:((Stp.even a b).behind r).size=J2 r.ls (withoutR r.top a):=Jk _ _ (J8i _ _);have e:=J6k (ls:=r.ls) nd d;have p:=pos a d;have y:r.size=J2 r.ls r.top:=rfl;have u:J2 r.ls [b]=r.ls.getD b 0:=by rw[Jn,J22,Int.add_zero]
  refine⟨?_,by lia,?_,fun j c=>(J14.mp c).1,J47 nd d⟩
  ·show((Stp.even a b).behind r).size+1*J2 r.ls [b]+(if false=true then r.ls.getD a 0 else 0)=r.size;rw[if_neg (by decide),u];lia
  ·refine J43 (a:=a) (v:=0) ok.row.nd m (fun j c=>?_) rfl (fun q=>?_)
   ·cases mem_singleton.mp c;exact J14.mpr ⟨g,fun e=>i e.symm⟩
   ·exact i (mem_singleton.mp q)
 | over a b =>
  obtain⟨A,l,i,o⟩:=n;have d:=w;have g:b∈r.top:=by rw[l];exact mB
  have sz:((Stp.over a b).behind r).size=J2 r.ls r.top-r.ls.getD a 0+(r.ls.getD a 0-r.ls.getD b 0):=J4y _ _ (f a d) nd d;have p:=pos b g;have y:r.size=J2 r.ls r.top:=rfl;have u:J2 r.ls [b]=r.ls.getD b 0:=by rw[Jn,J22,Int.add_zero]
  refine⟨?_,by lia,?_,fun j c=>c,rfl⟩
  ·show((Stp.over a b).behind r).size+1*J2 r.ls [b]+(if false=true then r.ls.getD a 0 else 0)=r.size;rw[if_neg (by decide),u];lia
  ·refine J43 (a:=a) (v:=r.ls.getD a 0-r.ls.getD b 0) ok.row.nd m (fun j c=>?_) rfl (fun q=>?_)
   ·cases mem_singleton.mp c;exact g
   ·exact i (mem_singleton.mp q)
 | under a b =>
  obtain⟨A,l,i,o⟩:=n;have d:a∈r.top:=w;have g:b∈r.top:=by rw[l];exact mT
  have z:=J39 nd (w:=a) g (r.ts.getD a false);have sz:((Stp.under a b).behind r).size=J2 r.ls r.top-r.ls.getD a 0+(r.ls.getD a 0-r.ls.getD b 0):=(J2r z).trans (J4y _ _ (f a d) nd d);have p:=pos b g;have y:r.size=J2 r.ls r.top:=rfl;have u:J2 r.ls [b]=r.ls.getD b 0:=by rw[Jn,J22,Int.add_zero]
  refine⟨?_,by lia,?_,fun j c=>z.mem_iff.mp c,z.length_eq⟩
  ·show((Stp.under a b).behind r).size+1*J2 r.ls [b]+(if false=true then r.ls.getD a 0 else 0)=r.size;rw[if_neg (by decide),u];lia
  ·refine J43 (a:=a) (v:=r.ls.getD a 0-r.ls.getD b 0) ok.row.nd m (fun j c=>?_) rfl (fun q=>?_)
   ·cases mem_singleton.mp c;exact z.mem_iff.mpr g
   ·exact i (mem_singleton.mp q)
 | overs a t =>
  obtain⟨A,l,i,o,D,E⟩:=n;have d:a∈r.top:=w;have B:a∈r.bot:=h.perm.mem_iff.mpr d;have sz:((Stp.overs a t).behind r).size=J2 r.ls r.top-r.ls.getD a 0+(r.ls.getD a 0-t*J2 r.ls (J6 r.bot a)):=J4y _ _ (f a d) nd d;have y:r.size=J2 r.ls r.top:=rfl;have p:1<=t*J2 r.ls (J6 r.bot a):=by
   have:=Int.mul_le_mul o D (by decide) (by lia);lia
  refine⟨?_,by lia,?_,fun j c=>c,rfl⟩
  ·show((Stp.overs a t).behind r).size+t*J2 r.ls (J6 r.bot a)+(if false=true then r.ls.getD a 0 else 0)=r.size;rw[if_neg (by decide)];lia
  ·exact J43 (a:=a) ok.row.nd m (fun j c=>h.perm.mem_iff.mp (J19 c)) rfl (J1u C B)
 | unders a t =>
  obtain⟨A,l,i,o,D,E⟩:=n;have d:a∈r.top:=w;have sz:((Stp.unders a t).behind r).size=J2 r.ls r.top-r.ls.getD a 0+(r.ls.getD a 0-t*J2 r.ls (J6 r.top a)):=J4y _ _ (f a d) nd d;have y:r.size=J2 r.ls r.top:=rfl;have p:1<=t*J2 r.ls (J6 r.top a):=by
   have:=Int.mul_le_mul o D (by decide) (by lia);lia
  refine⟨?_,by lia,?_,fun j c=>c,rfl⟩
  ·show((Stp.unders a t).behind r).size+t*J2 r.ls (J6 r.top a)+(if false=true then r.ls.getD a 0 else 0)=r.size;rw[if_neg (by decide)];lia
  ·exact J43 (a:=a) ok.row.nd m (fun j c=>J19 c) rfl (J1u nd d)
noncomputable def fS(f:Nat->Int)(row:List Nat):Int:=(row.map f).sum
theorem fS_nil(f:Nat->Int):fS f []=0:=rfl
theorem J3i(f:Nat->Int)(j:Nat)(row:List Nat):fS f (j::row)=f j+fS f row:=by rfl
theorem Jbh(h:xs.Perm ys):fS f xs=fS f ys:=Jax (h.map _)
theorem J80 :∀{row:List Nat},(∀j∈row,f j=g j)->fS f row=fS g row
 | [],_=>rfl
 | j::row,h=>by
  rw[J3i,J3i,h j mem_cons_self,J80 fun i hi=>h i (mem_cons_of_mem _ hi)]
theorem Jq0(f g:Nat->Int):∀row ,fS (fun j=>f j+g j) row=fS f row+fS g row
 | []=>rfl
 | j::row=>by
  rw[J3i,J3i,J3i,Jq0 f g row];lia
theorem Ja7(nd:row.Nodup)(b:a∈row):fS f (withoutR row a)+f a=fS f row:=by
 rw[<- Jbh (J3l nd b),J3i];lia
theorem fS_if(c:Int)(f:Nat->Int)(a:List Nat):∀row ,fS (fun j=>if j∈a then c*f j else 0) row=c*fS f (row.filter fun j=>decide (j∈a))
 | []=>by simp[fS_nil]
 | j::row=>by
  rw[J3i,fS_if c f a row,filter_cons];by_cases q:j∈a
  ·rw[if_pos q,if_pos (decide_eq_true q),J3i,Int.mul_add]
  ·simp_all
theorem Jct :∀{row:List Nat},(∀j∈row,0<=f j)->0<=fS f row
 | [],_=>Int.le_refl _
 | j::row,h=>by
  rw[J3i];have:=h j mem_cons_self;have:=Jct fun i hi=>h i (mem_cons_of_mem _ hi);lia
theorem Jpz :∀{row:List Nat},(∀j∈row,0<=f j)->∀{j:Nat},j∈row->f j<=fS f row
 | a::row,h,j,hj=>by
  rw[J3i];have c:=h a mem_cons_self;have b:=Jct fun i hi=>h i (mem_cons_of_mem _ hi);rcases mem_cons.mp hj with rfl|hj
  ·lia
  ·have:=Jpz (fun i hi=>h i (mem_cons_of_mem _ hi)) hj;lia
noncomputable def towB(s:Stp)(r:Rst)(T:List Int):List Int:=(List.range T.length).map fun j=>if j∈(s.behind r).top then (if j∈s.losers r then T.getD j 0+T.getD s.winner 0*s.times else T.getD j 0) else 0
theorem Jew(s:Stp)(r:Rst)(T:List Int):(towB s r T).length=T.length:=by unfold towB;rw[length_map,length_range]
theorem Jex(s:Stp)(r:Rst)(T:List Int)(h:j<T.length):(towB s r T).getD j 0=if j∈(s.behind r).top then (if j∈s.losers r then T.getD j 0+T.getD s.winner 0*s.times else T.getD j 0) else 0:=by
 unfold towB;rw[getD_eq_getElem?_getD,getElem?_map,getElem?_range h];rfl
noncomputable def wS(ls T:List Int)(row:List Nat):Int:=fS (fun j=>ls.getD j 0*T.getD j 0) row
theorem Ji7{r l:Rst}(nd:r.top.Nodup)(i:a∈r.top)(m:a<r.ls.length)(s:los.Nodup)(u:∀j∈los,j∈l.top)(B:a ∉ los)(g:l.ls=r.ls.set a v)(d:l.top.Nodup)(w:∀j∈l.top,T'.getD j 0=T.getD j 0+(if j∈los then T.getD a 0*t else 0))(b:l.top.Perm r.top\/(l.top.Perm (withoutR r.top a)/\v=0)):
  wS l.ls T' l.top=wS r.ls T r.top-r.ls.getD a 0*T.getD a 0+v*T.getD a 0+T.getD a 0*t*J2 r.ls los:=by
 have z:wS l.ls T' l.top=wS l.ls T l.top+T.getD a 0*t*J2 r.ls los:=by
  have c:wS l.ls T' l.top=fS (fun j=>l.ls.getD j 0*T.getD j 0+(if j∈los then (T.getD a 0*t)*l.ls.getD j 0 else 0)) l.top:=J80 fun j h=>by
   rw[w j h,Int.mul_add];by_cases q:j∈los
   ·rw[if_pos q,if_pos q,Int.mul_comm (l.ls.getD j 0) (T.getD a 0*t)]
   ·rw[if_neg q,if_neg q,Int.mul_zero]
  rw[c,Jq0,fS_if];have e:fS (fun j=>l.ls.getD j 0) (l.top.filter fun j=>decide (j∈los))=J2 r.ls los:=by
   rw[Jbh (J8w d s u)];show J2 l.ls los=_;rw[g,Jk _ _ B]
  rw[e];rfl
 have A:l.ls.getD a 0=v:=by rw[g,Jx _ _ _ _ m,if_pos rfl]
 have o:fS (fun j=>l.ls.getD j 0*T.getD j 0) (withoutR r.top a)=fS (fun j=>r.ls.getD j 0*T.getD j 0) (withoutR r.top a):=J80 fun j h=>by
  have q:=(J14.mp h).2;rw[g,Jx _ _ _ _ m,if_neg q]
 have n:=Ja7 (f:=fun j=>r.ls.getD j 0*T.getD j 0) nd i;have y:wS l.ls T l.top=wS r.ls T r.top-r.ls.getD a 0*T.getD a 0+v*T.getD a 0:=by
  rcases b with p|⟨p,rfl⟩
  ·have e:=Ja7 (f:=fun j=>l.ls.getD j 0*T.getD j 0) nd i;unfold wS;rw[Jbh p,<- e,o];simp only[A] at *;lia
  ·unfold wS;rw[Jbh p,o];simp only[Int.zero_mul] at *;lia
 rw[z,y]
theorem J6g(h:r.Ok)(ne:r.top≠[]):if (nextN r).drops=true then ((nextN r).behind r).top=withoutR r.top (nextN r).winner else ((nextN r).behind r).top.Perm r.top:=by
 refine J2q h ne (p:=fun s=>if s.drops=true then (s.behind r).top=withoutR r.top s.winner else (s.behind r).top.Perm r.top) (fun _=>?_) (fun _ _=>?_) (fun _ _ _=>?_) (fun _ _ _=>?_) (fun t _ _ _ _ _ _ _ _=>?_) (fun t _ _ _ _ _ _ _ _=>?_)
 ·rfl
 ·rfl
 ·exact List.Perm.refl _
 ·exact J39 h.row.nd (h.mT ne) _
 ·exact List.Perm.refl _
 ·exact List.Perm.refl _
structure LosP(r:Rst)(s:Stp):Prop where
 sub:∀j∈s.losers r,j∈(s.behind r).top
 no:s.winner ∉ s.losers r
 one:1<=s.times
 tl:s.isHome=false->r.ls.getD s.winner 0-s.times*J2 r.ls (s.losers r)=(s.behind r).ls.getD s.winner 0
 ls:(s.behind r).ls=r.ls.set s.winner ((s.behind r).ls.getD s.winner 0)
 zero:s.drops=true->(s.behind r).ls.getD s.winner 0=0
theorem Joa(h:r.Ok)(ne:r.top≠[]):LosP r (nextN r):=by
 have n:=J5j h ne;have w:=n.win h ne;have mT:=h.mT ne;have mB:=h.mB ne;have nd:=h.row.nd;have u:=h.rowB.nd;have y:=h.row.lt;generalize nextN r=s at *;have c:∀(v:Int),(r.ls.set s.winner v).getD s.winner 0=v:=fun v=>by rw[Jx _ _ _ _ (y _ w),if_pos rfl]
 have d:∀b,J2 r.ls [b]=r.ls.getD b 0:=fun b=>by rw[Jn,J22,Int.add_zero]
 cases s with
 | home a =>
  have c:∀(v:Int),(r.ls.set a v).getD a 0=v:=c;refine⟨fun j f=>(nomatch f),fun q=>(nomatch q),Int.le_refl _,fun q=>(nomatch q),?_,fun _=>c 0⟩;show r.ls.set a 0=r.ls.set a ((r.ls.set a 0).getD a 0);rw[c]
 | even a b =>
  obtain⟨o,i,g,m⟩:=n;have c:∀(v:Int),(r.ls.set a v).getD a 0=v:=c;have l:b∈r.top:=by rw[i];exact mB
  refine⟨fun j f=>?_,fun q=>g (mem_singleton.mp q),Int.le_refl _,fun _=>?_,?_,fun _=>c 0⟩
  ·cases mem_singleton.mp f;exact J14.mpr ⟨l,fun e=>g e.symm⟩
  ·show r.ls.getD a 0-1*J2 r.ls [b]=(r.ls.set a 0).getD a 0;rw[c,d];lia
  ·show r.ls.set a 0=r.ls.set a ((r.ls.set a 0).getD a 0);rw[c]
 | over a b =>
  obtain⟨o,i,g,m⟩:=n;have c:∀(v:Int),(r.ls.set a v).getD a 0=v:=c;have l:b∈r.top:=by rw[i];exact mB
  refine⟨fun j f=>?_,fun q=>g (mem_singleton.mp q),Int.le_refl _,fun _=>?_,?_,fun q=>nomatch q⟩
  ·cases mem_singleton.mp f;exact l
  ·show r.ls.getD a 0-1*J2 r.ls [b]=(r.ls.set a (r.ls.getD a 0-r.ls.getD b 0)).getD a 0;rw[c,d];lia
  ·show r.ls.set a _=r.ls.set a ((r.ls.set a (r.ls.getD a 0-r.ls.getD b 0)).getD a 0);rw[c]
 | under a b =>
  obtain⟨o,i,g,m⟩:=n;have c:∀(v:Int),(r.ls.set a v).getD a 0=v:=c;have l:b∈r.top:=by rw[i];exact mT
  have z:=J39 nd (w:=a) l (r.ts.getD a false);refine⟨fun j f=>?_,fun q=>g (mem_singleton.mp q),Int.le_refl _,fun _=>?_,?_,fun q=>nomatch q⟩
  ·cases mem_singleton.mp f;exact z.mem_iff.mpr l
  ·show r.ls.getD a 0-1*J2 r.ls [b]=(r.ls.set a (r.ls.getD a 0-r.ls.getD b 0)).getD a 0;rw[c,d];lia
  ·show r.ls.set a _=r.ls.set a ((r.ls.set a (r.ls.getD a 0-r.ls.getD b 0)).getD a 0);rw[c]
 | overs a t =>
  obtain⟨o,i,g,m,B,A⟩:=n;have c:∀(v:Int),(r.ls.set a v).getD a 0=v:=c;have p:a∈r.bot:=h.perm.mem_iff.mpr w;refine⟨fun j f=>h.perm.mem_iff.mp (J19 f),J1u u p,m,fun _=>?_,?_,fun q=>nomatch q⟩
  ·show r.ls.getD a 0-t*J2 r.ls (J6 r.bot a)=(r.ls.set a (r.ls.getD a 0-t*J2 r.ls (J6 r.bot a))).getD a 0;rw[c]
  ·show r.ls.set a _=r.ls.set a ((r.ls.set a (r.ls.getD a 0-t*J2 r.ls (J6 r.bot a))).getD a 0);rw[c]
 | unders a t =>
  obtain⟨o,i,g,m,B,A⟩:=n;have c:∀(v:Int),(r.ls.set a v).getD a 0=v:=c;refine⟨fun j f=>J19 f,J1u nd w,m,fun _=>?_,?_,fun q=>nomatch q⟩
  ·show r.ls.getD a 0-t*J2 r.ls (J6 r.top a)=(r.ls.set a (r.ls.getD a 0-t*J2 r.ls (J6 r.top a))).getD a 0;rw[c]
  ·show r.ls.set a _=r.ls.set a ((r.ls.set a (r.ls.getD a 0-t*J2 r.ls (J6 r.top a))).getD a 0);rw[c]
structure Tow(r:Rst)(T:List Int):Prop where
 len:T.length=r.ls.length
 pos:∀j∈r.top,1<=T.getD j 0
 sum:wS r.ls T r.top<=10^30
theorem Tow.le(h:r.Ok)(t:Tow r T)(a:j∈r.top):T.getD j 0<=10^30:=by
 have c:r.ls.getD j 0*T.getD j 0<=wS r.ls T r.top:=Jpz (f:=fun j=>r.ls.getD j 0*T.getD j 0) (fun i hi=>Int.mul_nonneg (by have:=h.row.pos i hi;lia) (by have:=t.pos i hi;lia)) a;have b:1*T.getD j 0<=r.ls.getD j 0*T.getD j 0:=Int.mul_le_mul_of_nonneg_right (h.row.pos j a) (by have:=t.pos j a;lia);have:=t.sum;lia
theorem J9o(h:r.Ok)(ne:r.top≠[])(b:T.length=r.ls.length)(a:j∈((nextN r).behind r).top):
  (towB (nextN r) r T).getD j 0=T.getD j 0+(if j∈(nextN r).losers r then T.getD (nextN r).winner 0*(nextN r).times else 0):=by
 rw[Jex _ _ _ (by rw[b];exact h.row.lt j ((h.down ne).sub j a)),if_pos a];split <;> lia
theorem Rst.Ok.stay(h:r.Ok)(ne:r.top≠[])(g:T.length=r.ls.length):
  wS ((nextN r).behind r).ls (towB (nextN r) r T) ((nextN r).behind r).top+(if (nextN r).isHome=true then r.ls.getD (nextN r).winner 0*T.getD (nextN r).winner 0 else 0)=wS r.ls T r.top:=by
 have n:=J5j h ne;have w:=n.win h ne;have L:=Joa h ne;have okl:=h.next ne;have b:=J2t.losers_nd h (s:=nextN r);have tp:=J6g h ne;have a:=fun j=>J9o (j:=j) h ne (T:=T) g;have e:=Ji7 (T:=T) (T':=towB (nextN r) r T) (t:=(nextN r).times) h.row.nd w (h.row.lt _ w) b L.sub L.no L.ls okl.row.nd (fun j f=>a j f) (by
  by_cases c:(nextN r).drops=true
  ·rw[if_pos c] at tp;exact .inr ⟨by rw[tp],L.zero c⟩
  ·rw[if_neg c] at tp;exact .inl tp)
 rw[e];by_cases c:(nextN r).isHome=true
 ·have d:(nextN r).drops=true:=by
   generalize nextN r=s at *;cases s <;> first|rfl|exact absurd c Bool.false_ne_true
  have l0:J2 r.ls ((nextN r).losers r)=0:=by
   generalize nextN r=s at *;cases s <;> first|rfl|exact absurd c Bool.false_ne_true
  rw[if_pos c,L.zero d,l0];lia
 ·rw[if_neg c];have t:=L.tl (by simpa using c);rw[<- t,Int.sub_mul,Int.mul_comm (T.getD (nextN r).winner 0) (nextN r).times,Int.mul_assoc,Int.mul_assoc,Int.mul_comm (T.getD (nextN r).winner 0) (J2 r.ls ((nextN r).losers r))];lia
theorem Tow.next(h:r.Ok)(ne:r.top≠[])(t:Tow r T):Tow ((nextN r).behind r) (towB (nextN r) r T):=by
 have L:=Joa h ne;have w:=(J5j h ne).win h ne;have b:=t.pos _ w;have st:=h.stay ne t.len;refine⟨?_,fun j a=>?_,?_⟩
 ·rw[Jew,t.len,L.ls,length_set]
 ·rw[J9o h ne t.len a];have:=t.pos j ((h.down ne).sub j a);have m:=Int.mul_le_mul b L.one (by decide) (by lia);split <;> lia
 ·have:=t.sum;have z:0<=r.ls.getD (nextN r).winner 0*T.getD (nextN r).winner 0:=Int.mul_nonneg (by have:=h.row.pos _ w;lia) (by lia);by_cases c:(nextN r).isHome=true
  ·rw[if_pos c] at st;lia
  ·rw[if_neg c] at st;lia
noncomputable def lg(x:Int):Nat:=Nat.log2 x.toNat
theorem lg_le(d:1<=x)(h:x<=y):lg x<=lg y:=by
 unfold lg;have c:x.toNat≠0:=by lia
 have b:y.toNat≠0:=by lia
 have a:=(Nat.le_log2 c (k:=x.toNat.log2)).mp (Nat.le_refl _);exact(Nat.le_log2 b).mpr (by lia)
theorem lg_dbl(i:1<=x)(g:1<=y)(h:lg x<=lg y)(f:x+y<=z):lg x+1<=lg z:=by
 unfold lg at *;have e:x.toNat≠0:=by lia
 have d:y.toNat≠0:=by lia
 have c:z.toNat≠0:=by lia
 have a:=(Nat.le_log2 e (k:=x.toNat.log2)).mp (Nat.le_refl _);have b:=(Nat.le_log2 d (k:=x.toNat.log2)).mp h;refine(Nat.le_log2 c).mpr ?_;rw[Nat.pow_succ];lia
theorem Joh(b:1<=x)(h:x<=10^30):lg x<=99:=by
 unfold lg;have a:x.toNat≠0:=by lia
 have:=(Nat.log2_lt a (k:=100)).mpr (by lia);lia
noncomputable def nS(f:Nat->Nat)(row:List Nat):Nat:=(row.map f).sum
theorem J74(f:Nat->Nat)(j:Nat)(row:List Nat):nS f (j::row)=f j+nS f row:=by rfl
theorem Jk3(h:xs.Perm ys):nS f xs=nS f ys:=by
 unfold nS
 grind
theorem Js1 :∀{row:List Nat},(∀j∈row,f j<=g j)->nS f row<=nS g row
 | [],_=>Nat.le_refl _
 | j::row,h=>by
  rw[J74,J74];have:=h j mem_cons_self;have:=Js1 fun i hi=>h i (mem_cons_of_mem _ hi);lia
theorem nS_lt :∀{row:List Nat},(∀j∈row,f j<=g j)->∀{b:Nat},b∈row->f b<g b->nS f row<nS g row
 | j::row,h,b,hb,hlt=>by
  rw[J74,J74];have c:=h j mem_cons_self;have a:=Js1 fun i hi=>h i (mem_cons_of_mem _ hi);rcases mem_cons.mp hb with rfl|hb
  ·lia
  ·have:=nS_lt (fun i hi=>h i (mem_cons_of_mem _ hi)) hb hlt;lia
theorem Ja0(nd:row.Nodup)(b:a∈row):nS f (withoutR row a)+f a=nS f row:=by
 rw[<- Jk3 (J3l nd b),J74];lia
theorem Jps :∀{row:List Nat},(∀j∈row,f j<=c)->nS f row<=row.length*c
 | [],_=>Nat.zero_le _
 | j::row,h=>by
  rw[J74,length_cons,Nat.succ_mul];have:=h j mem_cons_self;have:=Jps fun i hi=>h i (mem_cons_of_mem _ hi);lia
noncomputable abbrev fE(T:List Int)(row:List Nat):Nat:=nS (fun j=>100-lg (T.getD j 0)) row
noncomputable def need(ls:List Int):Int->List Nat->Nat
 | _,[]=>0
 | x,b::bs=>if x<=ls.getD b 0 then 1 else 1+need ls (x-ls.getD b 0) bs
theorem Jfw(ls:List Int):∀(x:Int) (bs:List Nat),need ls x bs<=bs.length
 | _,[]=>Nat.le_refl _
 | x,b::bs=>by
  unfold need;have:=Jfw ls (x-ls.getD b 0) bs;rw[length_cons]
  grind
theorem Jfx(ls:List Int)(ys:List Nat):∀(x:Int) (bs:List Nat),1<=x->x<=J2 ls bs->need ls x (bs++ys)=need ls x bs
 | x,[],h1,h2=>by rw[J22] at h2;lia
 | x,b::bs,h1,h2=>by
  rw[Jn] at h2;rw[cons_append];unfold need;by_cases c:x<=ls.getD b 0
  ·rw[if_pos c,if_pos c]
  ·rw[if_neg c,if_neg c,Jfx ls ys (x-ls.getD b 0) bs (by lia) (by lia)]
theorem J9z :∀(x:Int) {bs:List Nat},(∀j∈bs,ls.getD j 0=ls'.getD j 0)->need ls x bs=need ls' x bs
 | _,[],_=>rfl
 | x,b::bs,h=>by
  unfold need;rw[h b mem_cons_self,J9z (x-ls'.getD b 0) fun j a=>h j (mem_cons_of_mem _ a)]
noncomputable def mu(r:Rst):Stp->Nat
 | .over a _=>if r.ts.getD a false=true then (J6 r.bot a).length else need r.ls (r.ls.getD a 0) (J6 r.bot a).reverse
 | .under a _=>if r.ts.getD a false=true then (J6 r.top a).length else need r.ls (r.ls.getD a 0) (J6 r.top a).reverse
 | .overs _ _=>25
 | .unders _ _=>25
 | _=>0
theorem Jhw(row:List Nat)(a:Nat):(J6 row a).length<=row.length:=by unfold J6;rw[length_drop];lia
theorem J6h{ts:List Bool}(h:row.length<=24):(if ts.getD a false=true then (J6 row a).length else need ls (ls.getD a 0) (J6 row a).reverse)<=24:=by
 have c:=Jhw row a;have b:=Jfw ls (ls.getD a 0) (J6 row a).reverse
 grind
theorem Rst.Ok.len24{r:Rst}(h:r.Ok):r.top.length<=24/\r.bot.length<=24:=⟨Nat.le_trans h.row.len_le h.few,Nat.le_trans h.rowB.len_le h.few⟩
theorem mu_le(h:r.Ok)(s:Stp):mu r s<=25:=by
 obtain⟨d,c⟩:=h.len24
 cases s with
 | over a b=>exact Nat.le_succ_of_le (J6h c)
 | under a b=>exact Nat.le_succ_of_le (J6h d)
 | _=>first|exact Nat.le_refl _|exact Nat.zero_le _
theorem J79(t:List Nat)(h:a ∉ s):J6 (s++a::t) a=t:=by
 unfold J6;rw[J8q t h,show s++a::t=(s++[a])++t by simp,show s.length+1=(s++[a]).length by simp,drop_left]
theorem Jhv(nd:row.Nodup)(i:a∈row)(hb:row.getD (row.length-1) 0=b)(c:a≠b):
  ∃q,J6 row a=q++[b]/\J6 (putR row a b false) a=b::q/\J6 (putR row a b true) a=q/\a ∉ q:=by
 have g:row≠[]:=fun e=>by rw[e] at i;cases i
 have e:=J9q g;rw[hb] at e;generalize row.dropLast=d at e;subst e;have h:=(mem_append.mp i).resolve_right fun q=>c (mem_singleton.mp q);obtain⟨s,t,rfl⟩:=List.append_of_mem h;have m:=nodup_append.mp nd;have l:=nodup_append.mp m.1;have p:=nodup_cons.mp l.2.1;have f:=fun q=>l.2.2 a q a mem_cons_self rfl;have r:=fun q=>m.2.2 b q b (by simp) rfl;have at_:=p.1
 have j:withoutR (s++a::t++[b]) b=s++a::t:=by
  rw[J1m,J1v,append_nil];exact J1l r
 have o:(s++a::t).take (s.length+1)=s++[a]:=by
  rw[show s++a::t=(s++[a])++t by simp,show s.length+1=(s++[a]).length by simp,List.take_left]
 have n:(s++a::t).drop (s.length+1)=t:=by
  rw[show s++a::t=(s++[a])++t by simp,show s.length+1=(s++[a]).length by simp,drop_left]
 refine⟨t,?_,?_,?_,at_⟩
 ·rw[show s++a::t++[b]=s++a::(t++[b]) by simp];exact J79 _ f
 ·unfold putR;rw[j,J8q t f,if_neg (by decide),o,n];rw[show s++[a]++[b]++t=s++a::(b::t) by simp];exact J79 _ f
 ·unfold putR;rw[j,J8q t f,if_pos rfl,List.take_left,drop_left];refine J79 _ fun q=>?_;rcases mem_append.mp q with q|q
  ·exact f q
  ·exact c (mem_singleton.mp q)
theorem J4h(b:a∈row)(h:row.getD (row.length-1) 0≠a):row.getD (row.length-1) 0∈J6 row a:=by
 have c:=idxOf_lt_length_iff.mpr b;have g:=getElem_idxOf c;have d:row.length-1<row.length:=by lia
 have e:row.getD (row.length-1) 0=row[row.length-1]:=by simp_all
 rw[e] at h ⊢;have f:row.idxOf a≠row.length-1:=fun q=>h (by simp_all);unfold J6;refine List.mem_iff_getElem.mpr ⟨row.length-1-(row.idxOf a+1),by grind,?_⟩;rw[List.getElem_drop]
 congr 1
 lia
theorem Jbc(ls:List Int)(row:List Nat):J2 ls row.reverse=J2 ls row:=J2r (List.reverse_perm row)
theorem Jk5{ts ts':List Bool}(nd:row.Nodup)(u:a∈row)(hb:row.getD (row.length-1) 0=b)(d:a≠b)(f:a<ls.length)(s:1<=ls.getD b 0)(p:ls.getD b 0<ls.getD a 0)(r:ts.getD a false=true\/ls.getD a 0<=J2 ls (J6 row a))(n:ts'.getD a false=ts.getD a false):
  ((if ts'.getD a false=true then (J6 (putR row a b (ts.getD a false)) a).length else need (ls.set a (ls.getD a 0-ls.getD b 0)) ((ls.set a (ls.getD a 0-ls.getD b 0)).getD a 0) (J6 (putR row a b (ts.getD a false)) a).reverse) <
  (if ts.getD a false=true then (J6 row a).length else need ls (ls.getD a 0) (J6 row a).reverse))/\
  (ts'.getD a false=false->¬ J2 (ls.set a (ls.getD a 0-ls.getD b 0)) (J6 (putR row a b (ts.getD a false)) a)<(ls.set a (ls.getD a 0-ls.getD b 0)).getD a 0):=by
 obtain⟨q,g,m,l,h⟩:=Jhv nd u hb d;have i:(ls.set a (ls.getD a 0-ls.getD b 0)).getD a 0=ls.getD a 0-ls.getD b 0:=by rw[Jx _ _ _ _ f,if_pos rfl]
 rw[n,i];by_cases c:ts.getD a false=true
 ·rw[c,l,g];exact⟨by simp,fun e=>nomatch e⟩
 ·have c':ts.getD a false=false:=by simpa using c
  have v:=r.resolve_left c;rw[c',if_neg (by decide),if_neg (by decide),m,g];rw[g,Jg,Jn,J22] at v;constructor
  ·rw[List.reverse_cons,List.reverse_append,List.reverse_cons,List.reverse_nil,nil_append,cons_append,nil_append];have y:need ls (ls.getD a 0) (b::q.reverse)=1+need ls (ls.getD a 0-ls.getD b 0) q.reverse:=by
    rw[need,if_neg (by lia)]
   have w:need (ls.set a (ls.getD a 0-ls.getD b 0)) (ls.getD a 0-ls.getD b 0) (q.reverse++[b])=need ls (ls.getD a 0-ls.getD b 0) (q.reverse++[b]):=J9z _ fun j o=>by
    have:j≠a:=fun e=>by
     subst e;rcases mem_append.mp o with x|x
     ·exact h (List.mem_reverse.mp x)
     ·exact d (mem_singleton.mp x)
    rw[Jx _ _ _ _ f,if_neg this]
   rw[y,w,Jfx _ _ _ _ (by lia) (by rw[Jbc];lia)];lia
  ·rw[Jk _ _ (fun x=>by
    rcases mem_cons.mp x with x|x
    ·exact d x
    ·exact h x),Jn]
   lia
theorem J9p{x:Int}(c:1<=S)(a:t=(x-1)/S):x-t*S<=S:=by
 subst a;have d:=Int.emod_lt_of_pos (x-1) (show 0<S by lia);have b:=Int.mul_ediv_add_emod (x-1) S;rw[Int.mul_comm] at b;lia
theorem Jn1(h:r.Ok)(ne:r.top≠[]):(nextN r).drops=false->(nextN ((nextN r).behind r)).drops=false->
  ((nextN ((nextN r).behind r)).winner=(nextN r).winner/\mu ((nextN r).behind r) (nextN ((nextN r).behind r))<mu r (nextN r))\/(nextN r).winner∈(nextN ((nextN r).behind r)).losers ((nextN r).behind r):=by
 have okl:=h.next ne;have tp:=J6g h ne;have mT:=h.mT ne;have mB:=h.mB ne;have q:=h.perm.mem_iff.mpr mT;have C:=h.perm.mem_iff.mpr mB;have nd:=h.row.nd;have n:=h.rowB.nd;have i:=h.row.lt
 revert okl tp
 refine J2q h ne (p:=fun s=>(s.behind r).Ok->(if s.drops=true then (s.behind r).top=withoutR r.top s.winner else (s.behind r).top.Perm r.top)->s.drops=false->(nextN (s.behind r)).drops=false->
  ((nextN (s.behind r)).winner=s.winner/\mu (s.behind r) (nextN (s.behind r))<mu r s)\/s.winner∈(nextN (s.behind r)).losers (s.behind r))
  (fun _ _ _ e=>nomatch e) (fun _ _ _ _ e=>nomatch e) ?_ ?_ ?_ ?_
 ·intro m v u okl tp _;have tp:=tp;have b:((Stp.over (lastT r) (lastB r)).behind r).top≠[]:=fun e=>ne (by rw[e] at tp;exact tp.symm.eq_nil);have w:(J2d r (lastT r) (lastB r)).getD (lastT r) false=r.ts.getD (lastT r) false:=by
   unfold J2d;rw[J2l _ _ _ _ (by rw[h.len];exact i _ mB),if_neg m]
  have o:=Jk5 (ts':=J2d r (lastT r) (lastB r)) n q rfl m (i _ mT) (h.row.pos _ mB) v u w;refine J2q okl b (p:=fun s'=>s'.drops=false->(s'.winner=lastT r/\mu ((Stp.over (lastT r) (lastB r)).behind r) s'<mu r (.over (lastT r) (lastB r)))\/lastT r∈s'.losers ((Stp.over (lastT r) (lastB r)).behind r))
   (fun _ e=>nomatch e) (fun _ _ e=>nomatch e) ?_ ?_ ?_ ?_
  ·intro c f d _;exact .inl ⟨rfl,o.1⟩
  ·intro c f d _;exact .inr (mem_singleton.mpr rfl)
  ·intro t c f d l j g _ _ _;exact absurd g (o.2 d)
  ·intro t c f d l j g _ _ _;exact .inr (J4h (okl.mB b) c)
 ·intro m v u okl tp _;have tp:=tp;have b:((Stp.under (lastB r) (lastT r)).behind r).top≠[]:=fun e=>ne (by rw[e] at tp;exact tp.symm.eq_nil);have w:(J2d r (lastB r) (lastT r)).getD (lastB r) false=r.ts.getD (lastB r) false:=by
   unfold J2d;rw[J2l _ _ _ _ (by rw[h.len];exact i _ mT),if_neg (fun e=>m e.symm)]
  have o:=Jk5 (ts':=J2d r (lastB r) (lastT r)) nd mB rfl (fun e=>m e.symm) (i _ mB) (h.row.pos _ mT) v u w;refine J2q okl b (p:=fun s'=>s'.drops=false->(s'.winner=lastB r/\mu ((Stp.under (lastB r) (lastT r)).behind r) s'<mu r (.under (lastB r) (lastT r)))\/lastB r∈s'.losers ((Stp.under (lastB r) (lastT r)).behind r))
   (fun _ e=>nomatch e) (fun _ _ e=>nomatch e) ?_ ?_ ?_ ?_
  ·intro c f d _;exact .inr (mem_singleton.mpr rfl)
  ·intro c f d _;exact .inl ⟨rfl,o.1⟩
  ·intro t c f d l j g _ _ _;exact .inr (J4h (okl.perm.mem_iff.mpr (okl.mT b)) (fun e=>c e.symm))
  ·intro t c f d l j g _ _ _;exact absurd g (o.2 d)
 ·intro t m v u G z F y E okl tp _;have tp:=tp;have b:((Stp.overs (lastT r) t).behind r).top≠[]:=fun e=>ne (by rw[e] at tp;exact tp.symm.eq_nil);have D:=J9p z y;have A:((Stp.overs (lastT r) t).behind r).ls.getD (lastT r) 0=r.ls.getD (lastT r) 0-t*J2 r.ls (J6 r.bot (lastT r)):=by
   show(r.ls.set (lastT r) _).getD (lastT r) 0=_;rw[Jx _ _ _ _ (i _ mT),if_pos rfl]
  have B:J2 ((Stp.overs (lastT r) t).behind r).ls (J6 r.bot (lastT r))=J2 r.ls (J6 r.bot (lastT r)):=Jk _ _ (J1u n q);refine J2q okl b (p:=fun s'=>s'.drops=false->(s'.winner=lastT r/\mu ((Stp.overs (lastT r) t).behind r) s'<mu r (.overs (lastT r) t))\/lastT r∈s'.losers ((Stp.overs (lastT r) t).behind r))
   (fun _ e=>nomatch e) (fun _ _ e=>nomatch e) ?_ ?_ ?_ ?_
  ·intro c f d _;refine .inl ⟨rfl,Nat.lt_succ_of_le ?_⟩;exact J6h (ls:=((Stp.overs (lastT r) t).behind r).ls) (ts:=r.ts) (a:=lastT r) h.len24.2
  ·intro c f d _;exact .inr (mem_singleton.mpr rfl)
  ·intro t' c f d l j g _ _ _;have g:J2 ((Stp.overs (lastT r) t).behind r).ls (J6 r.bot (lastT r))<((Stp.overs (lastT r) t).behind r).ls.getD (lastT r) 0:=g;rw[ A] at g;lia
  ·intro t' c f d l j g _ _ _;exact .inr (J4h (okl.mB b) c)
 ·intro t m v u G z F y E okl tp _;have tp:List.Perm ((Stp.unders (lastB r) t).behind r).top r.top:=tp;have b:((Stp.unders (lastB r) t).behind r).top≠[]:=fun e=>ne (by rw[e] at tp;exact tp.symm.eq_nil);have D:=J9p z y;have A:((Stp.unders (lastB r) t).behind r).ls.getD (lastB r) 0=r.ls.getD (lastB r) 0-t*J2 r.ls (J6 r.top (lastB r)):=by
   show(r.ls.set (lastB r) _).getD (lastB r) 0=_;rw[Jx _ _ _ _ (i _ mB),if_pos rfl]
  have B:J2 ((Stp.unders (lastB r) t).behind r).ls (J6 r.top (lastB r))=J2 r.ls (J6 r.top (lastB r)):=Jk _ _ (J1u nd mB);refine J2q okl b (p:=fun s'=>s'.drops=false->(s'.winner=lastB r/\mu ((Stp.unders (lastB r) t).behind r) s'<mu r (.unders (lastB r) t))\/lastB r∈s'.losers ((Stp.unders (lastB r) t).behind r))
   (fun _ e=>nomatch e) (fun _ _ e=>nomatch e) ?_ ?_ ?_ ?_
  ·intro c f d _;exact .inr (mem_singleton.mpr rfl)
  ·intro c f d _;refine .inl ⟨rfl,Nat.lt_succ_of_le ?_⟩;exact J6h (ls:=((Stp.unders (lastB r) t).behind r).ls) (ts:=r.ts) (a:=lastB r) h.len24.1
  ·intro t' c f d l j g _ _ _;exact .inr (J4h (okl.perm.mem_iff.mpr (okl.mT b)) (fun e=>c e.symm))
  ·intro t' c f d l j g _ _ _;have g:J2 ((Stp.unders (lastB r) t).behind r).ls (J6 r.top (lastB r))<((Stp.unders (lastB r) t).behind r).ls.getD (lastB r) 0:=g;lia
noncomputable def Up(r:Rst)(T:List Int)(s:Stp):Prop:=s.drops=true\/∃b∈s.losers r,lg (T.getD b 0)<=lg (T.getD s.winner 0)
open Classical in
noncomputable def pot(r:Rst)(T:List Int):Nat:=
 if r.top=[] then 0 else (fE T r.top*102+(if Up r T (nextN r) then 0 else lg (T.getD (nextN r).winner 0)+1))*26+(if Up r T (nextN r) then 0 else mu r (nextN r))
theorem Tow.lg99(h:r.Ok)(t:Tow r T)(a:j∈r.top):lg (T.getD j 0)<=99:=Joh (t.pos j a) (t.le h a)
theorem pot_le(h:r.Ok)(t:Tow r T):pot r T<=6367451:=by
 unfold pot;by_cases c:r.top=[]
 ·simp_all
 rw[if_neg c];have e:fE T r.top<=r.top.length*100:=Jps fun j _=>by lia
 have d:=h.len24.1;have b:=t.lg99 h ((J5j h c).win h c);have a:=mu_le h (nextN r);split <;> lia
theorem up_lt{r:Rst}{T:List Int}(h:r.Ok)(ne:r.top≠[])(t:Tow r T):fE (towB (nextN r) r T) ((nextN r).behind r).top<=fE T r.top/\(Up r T (nextN r)->fE (towB (nextN r) r T) ((nextN r).behind r).top<fE T r.top):=by
 have L:=Joa h ne;have w:=(J5j h ne).win h ne;have l:=t.pos _ w;have tp:=J6g h ne;have okl:=h.next ne;have tl:=t.next h ne;have sub:=(h.down ne).sub;have one:T.getD (nextN r).winner 0<=T.getD (nextN r).winner 0*(nextN r).times:=by
  have:T.getD (nextN r).winner 0*1<=T.getD (nextN r).winner 0*(nextN r).times:=Int.mul_le_mul_of_nonneg_left L.one (by lia);lia
 have le:∀j∈((nextN r).behind r).top,T.getD j 0<=(towB (nextN r) r T).getD j 0:=fun j a=>by
  rw[J9o h ne t.len a];split <;> lia
 have mono:∀j∈((nextN r).behind r).top,100-lg ((towB (nextN r) r T).getD j 0)<=100-lg (T.getD j 0):=fun j a=>by
  have:=lg_le (t.pos j (sub j a)) (le j a);lia
 have m:=Js1 (f:=fun j=>100-lg ((towB (nextN r) r T).getD j 0)) (g:=fun j=>100-lg (T.getD j 0)) mono;by_cases c:(nextN r).drops=true
 ·rw[if_pos c] at tp;have e:=Ja0 (f:=fun j=>100-lg (T.getD j 0)) h.row.nd w;have g:=t.lg99 h w;rw[<- tp] at e;have:fE (towB (nextN r) r T) ((nextN r).behind r).top<fE T r.top:=by
   show nS _ _<nS _ _;rw[<- e];lia
  exact⟨Nat.le_of_lt this,fun _=>this⟩
 ·rw[if_neg c] at tp;have e:fE T ((nextN r).behind r).top=fE T r.top:=Jk3 tp;refine⟨by rw[<- e];exact m,fun u=>?_⟩;rcases u with u|⟨b,hb,hg⟩
  ·exact absurd u c
  rw[<- e];have i:=L.sub b hb;refine nS_lt mono i ?_;have n:=J9o h ne t.len i;rw[if_pos hb] at n;have d:=lg_dbl (z:=(towB (nextN r) r T).getD b 0) (t.pos b (sub b i)) l hg (by lia);have g:=tl.lg99 okl i;lia
theorem pot_lt(h:r.Ok)(ne:r.top≠[])(t:Tow r T):pot ((nextN r).behind r) (towB (nextN r) r T)<pot r T:=by
 obtain⟨y,p⟩:=up_lt h ne t;have okl:=h.next ne;have tl:=t.next h ne;have L:=Joa h ne;have w:=(J5j h ne).win h ne;unfold pot;rw[if_neg ne];have b:1<=fE T r.top:=by
  have e:=Ja0 (f:=fun j=>100-lg (T.getD j 0)) h.row.nd w;have g:=t.lg99 h w;show 1<=nS _ _;rw[<- e];lia
 by_cases c:((nextN r).behind r).top=[]
 ·rw[if_pos c];lia
 rw[if_neg c];have n:=(J5j okl c).win okl c;have g':=tl.lg99 okl n;have v:=mu_le okl (nextN ((nextN r).behind r));by_cases u:Up r T (nextN r)
 ·rw[ if_pos u];have:=p u;split <;> lia
 rw[if_neg u,if_neg u];by_cases a:Up ((nextN r).behind r) (towB (nextN r) r T) (nextN ((nextN r).behind r))
 ·rw[if_pos a,if_pos a];lia
 rw[if_neg a,if_neg a];have i:(nextN r).drops=false:=by
  cases q:(nextN r).drops
  ·rfl
  ·exact absurd (.inl q) u
 have s:(nextN ((nextN r).behind r)).drops=false:=by
  cases q:(nextN ((nextN r).behind r)).drops
  ·rfl
  ·exact absurd (.inl q) a
 have tp:=J6g h ne;rw[if_neg (by rw[i];decide)] at tp;have l:=tp.mem_iff.mpr w;have d:(towB (nextN r) r T).getD (nextN r).winner 0=T.getD (nextN r).winner 0:=by
  rw[J9o h ne t.len l,if_neg L.no];lia
 rcases Jn1 h ne i s with⟨e,m⟩|q
 ·rw[e,d];lia
 ·have o:¬ lg ((towB (nextN r) r T).getD (nextN r).winner 0)<=lg ((towB (nextN r) r T).getD (nextN ((nextN r).behind r)).winner 0):=fun x=>a (.inr ⟨_,q,x⟩);rw[d] at o;lia
noncomputable abbrev Cst:=Rst×List Int
noncomputable def chS(p:Cst):Cst:=((nextN p.1).behind p.1,towB (nextN p.1) p.1 p.2)
noncomputable def chN(p:Cst):Nat->Cst
 | 0=>p
 | k+1=>chS (chN p k)
noncomputable abbrev Band:=Int×Int×Int×Bool
noncomputable def bndB(p:Cst):List Band:=if (nextN p.1).isHome=true then [((chS p).1.size,p.1.ls.getD (nextN p.1).winner 0,p.2.getD (nextN p.1).winner 0,p.1.ts.getD (nextN p.1).winner false)] else []
noncomputable def bndN(p:Cst):Nat->List Band
 | 0=>[]
 | k+1=>bndN p k++bndB (chN p k)
theorem Jgm(p:Cst):(bndB p).length<=1:=by unfold bndB;split <;> simp
theorem J83(p:Cst):∀k,(bndN p k).length<=k
 | 0=>Nat.le_refl _
 | k+1=>by
  have b:=J83 p k;have a:=Jgm (chN p k);show(bndN p k++bndB (chN p k)).length<=k+1
  grind
noncomputable def Long(p:Cst)(k:Nat):Prop:=∀i<k,(chN p i).1.top≠[]
structure Cok(p:Cst):Prop where
 ok:p.1.Ok
 tow:Tow p.1 p.2
theorem Cok.next(h:Cok p)(ne:p.1.top≠[]):Cok (chS p):=⟨h.ok.next ne,h.tow.next h.ok ne⟩
theorem Cok.at_(h:Cok p):∀{k:Nat},Long p k->Cok (chN p k)
 | 0,_=>h
 | k+1,l=>(h.at_ fun i hi=>l i (by lia)).next (l k (by lia))
theorem Cok.short(h:Cok p):∀{k:Nat},Long p k->k+pot (chN p k).1 (chN p k).2<=pot p.1 p.2
 | 0,_=>by rw[Nat.zero_add];exact Nat.le_refl _
 | k+1,l=>by
  have b:=h.short (k:=k) fun i hi=>l i (by lia);have c:=h.at_ (k:=k) fun i hi=>l i (by lia);have a:pot (chS (chN p k)).1 (chS (chN p k)).2<_:=pot_lt c.ok (l k (by lia)) c.tow;show k+1+pot (chS (chN p k)).1 (chS (chN p k)).2<=_;lia
theorem Cok.few(h:Cok p)(l:Long p k):k<=6367451:=by
 have b:=h.short l;have a:=pot_le h.ok h.tow;lia
theorem Jky :∀{row:List Nat} {n:Nat},(∀j∈row,j<n)->wS ls (replicate n 1) row=J2 ls row
 | row,n,h=>J80 fun j a=>by
  simp_all
theorem Jbs(h:r.Ok)(a:r.size<=10^30):Cok (r,replicate r.ls.length 1):=⟨h,by
 refine⟨length_replicate,fun j b=>?_,?_⟩
 ·rw[getD_eq_getElem?_getD,List.getElem?_replicate,if_pos (h.row.lt j b)];exact Int.le_refl _
 ·rw[Jky h.row.lt];exact a⟩
theorem Cok.size30(h:Cok p):p.1.size<=10^30:=by
 have f:p.1.size<=wS p.1.ls p.2 p.1.top:=by
  show J2 _ _<=_;have:∀row ,(∀j∈row,j∈p.1.top)->J2 p.1.ls row<=wS p.1.ls p.2 row:=fun row=>by
   induction row with
   | nil=>intro _;exact Int.le_refl _
   | cons a row ih =>
    intro c;have d:=c a mem_cons_self;have f:=h.ok.row.pos a d;have e:=h.tow.pos a d;have i:p.1.ls.getD a 0*1<=p.1.ls.getD a 0*p.2.getD a 0:=Int.mul_le_mul_of_nonneg_left e (by lia);have g:=ih fun j b=>c j (mem_cons_of_mem _ b);rw[Jn];unfold wS at *;rw[J3i];lia
  exact this _ fun j b=>b
 have:=h.tow.sum;lia
end Rl
namespace L2
open PySem PySem.Spec PySem.Calls PyProof.Rows PySem.W
section
variable{X:Cx}{pins:List (Addr×Obj)}{σ:St}{H:Hp}{A:Around}{E:Value->Shared->Prop}{s:Shared}{a kS:Addr}{vs:List Value}{kz:List Int}{keys:Array Value}{e e1:Nat}{P:PySem.Fin->Shared->Prop}
theorem Jbg(I:Inv X pins σ H s){b:Addr}{h':Heap}{t':Nat}(f:FpOk X pins H b)(k:Heap.SameBut b s.heap h'):Inv X pins σ H { s with heap:=h',toks:=t' }:=
 I.turned (h':=h') (t':=t') (it:=b) (fun c o a e=>(k.2 c a).trans e) f.1 f.2.1 f.2.2.2.1 f.2.2.2.2.1 f.2.2.2.2.2
theorem Jc2{st:SortSt}(I:Inv X pins σ H s)(C:FpOk X pins H kS)(D:FpOk X pins H a)(u:s.heap.get? kS=some (seqObj "list" keys e))(v:s.heap.get? a=some (seqObj "list" #[] e1))(i:kS≠a)(q:IntsAre keys.toList kz)(p:kz.length=vs.length)(z:vs.length<64)(o:(arrOf st).Perm (keys.zip vs.toArray))(y:SortedTo (arrOf st) (arrOf st).size)(j:failedOf st=none)(h:∀h' tk out c,Inv X pins σ H { s with heap:=h',toks:=tk }->h'.get? a=some (seqObj "list" out c)->KskOut false kz vs out.toList->P (.done (.ret .none)) { s with heap:=h',toks:=tk }):
  wpAny (model X.prog X.w) A (ksk_tail a false e1 (.ref kS) st) P E s:=by
 have hsz:keys.size=vs.length:=by
  have B:=q.length;rw[length_toList] at B;omega
 have f:(arrOf st).size=vs.length:=by rw[o.size_eq,Array.size_zip,hsz,size_toArray,Nat.min_self]
 have g:(if false=true then ((arrOf st).map (·.2)).reverse else (arrOf st).map (·.2)).size=vs.length:=by
  simp only[Bool.false_eq_true,if_false,Array.size_map];exact f
 have n:=Heap.SameBut.update s.heap kS (Obj.mapSeq fun _=>(#[]:Array Value));have d:(s.heap.update kS (Obj.mapSeq fun _=>(#[]:Array Value))).get? a=some (seqObj "list" #[] e1):=(n.2 a i.symm).trans v;have r:=Heap.SameBut.update (s.heap.update kS (Obj.mapSeq fun _=>(#[]:Array Value))) a (Obj.mapSeq fun _=>if false=true then ((arrOf st).map (·.2)).reverse else (arrOf st).map (·.2));obtain⟨m,l⟩:∃m,((s.heap.update kS (Obj.mapSeq fun _=>(#[]:Array Value))).update a (Obj.mapSeq fun _=>if false=true then ((arrOf st).map (·.2)).reverse else (arrOf st).map (·.2))).get? a=some (seqObj "list" (if false=true then ((arrOf st).map (·.2)).reverse else (arrOf st).map (·.2)) m) :=
  ⟨_,get?_update_seq d fun _=>if false=true then ((arrOf st).map (·.2)).reverse else (arrOf st).map (·.2)⟩
 unfold ksk_tail
 try dsimp only
 refine wpAny_bind (listUpdate_at u rfl ?_ (by rw[hsz,sizeLine_eq];omega) (Nat.zero_le _));refine wpAny_bind (wpAny_letGo ?_);refine wpAny_bind (seqEpoch_at d rfl ?_);refine wpAny_bind (listUpdate_at d rfl ?_ (Nat.zero_le _) (Nat.le_trans (Nat.le_of_eq g) (by rw[sizeLine_eq];omega)));rw[j];simp only[bne_self_eq_false,Bool.false_eq_true,if_false];have F:Inv X pins σ H { s with heap:=s.heap.update kS (Obj.mapSeq fun _=>(#[]:Array Value)) }:=Jbg (t':=s.toks) I C n;exact wpAny_pure (h _ _ _ m (Jbg (t':=_) F D r) l (ksk_out (b:=false) q o y))
theorem Jmb(I:Inv X pins σ H s)(u:FpOk X pins H kS)(v:FpOk X pins H a)(p:s.heap.get? kS=some (seqObj "list" keys e))(q:s.heap.get? a=some (seqObj "list" #[] e1))(m:kS≠a)(n:IntsAre keys.toList kz)(d:kz.length=vs.length)(g:vs.length<64)(h:∀h' tk out c,Inv X pins σ H { s with heap:=h',toks:=tk }->h'.get? a=some (seqObj "list" out c)->KskOut false kz vs out.toList->P (.done (.ret .none)) { s with heap:=h',toks:=tk }):
  wpAny (model X.prog X.w) A (ksk_end a false vs.toArray e1 (.ref kS) keys) P E s:=by
 have hsz:keys.size=vs.length:=by
  have D:=n.length;rw[length_toList] at D;omega
 have f:(keys.zip vs.toArray).size=vs.length:=by rw[Array.size_zip,hsz,size_toArray,Nat.min_self]
 unfold ksk_end
 try dsimp only
 simp only[Bool.false_eq_true,if_false];by_cases l:vs.toArray.size<2
 ·rw[if_pos l,if_pos l];refine wpAny_bind (wpAny_pure ?_);rw[StateT.run_pure];refine wpAny_bind (wpAny_pure ?_)
  try dsimp only
  refine Jc2 (st:=SortSt.mk' general' (keys.zip vs.toArray) #[] 7 none) I u v p q m n d g (Array.Perm.refl _) ?_ rfl h;intro i j B z;have o:=z;rw[f] at o;rw[size_toArray] at l;have:i=j:=by omega
  subst this;exact Int.le_refl _
 ·rw[if_neg l,if_neg l];rw[size_toArray] at l;rw[ksk_kind n (by rw[hsz];omega)];refine wpAny_bind (wpAny_pure ?_);refine wpAny_bind (wpAny_mono (wpS_sortRuns (a₀:=keys.zip vs.toArray) (st:=SortSt.mk' oneType' (keys.zip vs.toArray) #[] 7 none)
   (Q:=fun _ b=>(arrOf b).Perm (keys.zip vs.toArray)/\failedOf b=none/\SortedTo (arrOf b) (keys.zip vs.toArray).size)
   (ksk_intKeys n) ⟨Array.Perm.refl _,rfl,rfl,rfl⟩ (by rw[f];omega) (by rw[f];exact g) fun b J G F=>⟨J,G,F⟩) ?_ fun _ _ e=>e)
  rintro⟨⟨⟩,b⟩ s' ⟨rfl,r,C,y⟩;exact Jc2 I u v p q m n d g r (by rw[r.size_eq];exact y) C h
noncomputable def Jet(X:Cx)(pins:List (Addr×Obj))(σ:St)(H:Hp)(A:Around)(f v:Value)(k:Int):Prop:=∀s',Inv X pins σ H s'->
 wpAny (model X.prog X.w) A (call f [v]) (fun r a=>∃t,r=.int k t/\Inv X pins σ H a/\∀b o,FpOk X pins H b->s'.heap.get? b=some o->a.heap.get? b=some o) (fun _ _=>False) s'
theorem Jil(I:Inv X pins σ H s)(C:FpOk X pins H kS)(K:FpOk X pins H a)(M:s.heap.get? kS=some (seqObj "list" #[] 0))(N:s.heap.get? a=some (seqObj "list" #[] e1))(r:kS≠a)(p:kz.length=vs.length)(B:vs.length<64)(turn:∀(i:Nat) (v:Value) (k:Int),vs[i]?=some v->kz[i]?=some k->Jet X pins σ H A f v k)(h:∀s' out c,Inv X pins σ H s'->s'.heap.get? a=some (seqObj "list" out c)->KskOut false kz vs out.toList->P (.done (.ret .none)) s'):
  wpAny (model X.prog X.w) A (ksk_rest a f false vs.toArray e1 (.ref kS)) P E s:=by
 unfold ksk_rest;refine wpAny_bind (wpAny_rule ?_)
 first
  | rw[List.forIn_toArray]
  | (rw[<- Array.forIn_toList];simp only[List.toList_toArray])
  | rw[<- Array.forIn_toList]
 refine wpAny_bind (ksk_fold (fun i s'=>∃d e,Inv X pins σ H s'/\s'.heap.get? kS=some (seqObj "list" d e)/\s'.heap.get? a=some (seqObj "list" #[] e1)/\IntsAre d.toList (kz.take i)) vs 0 s
  ⟨#[],0,I,M,N,by simpa using IntsAre.nil⟩ ?step ?done)
 case step =>
  rintro j x s' J ⟨d,e,F,b,m,n⟩;simp only[Nat.zero_add] at n ⊢;have hj:=(gS J);obtain⟨k,q⟩:∃k,kz[j]?=some k:=⟨_,gE (by omega)⟩;have hz:d.size<=vs.length:=by
   have S:=n.length;rw[length_toList,length_take] at S;omega
  refine wpAny_bind (wpAny_attempt (wpAny_mono (turn j x k J q s' F) (fun v l Q=>?_) fun _ _ R=>R.elim));obtain⟨g,rfl,Z,keep⟩:=Q
  try dsimp only
  have o:=keep _ _ C b;have u:=keep _ _ K m;have G:=Heap.SameBut.update l.heap kS (Obj.mapSeq (·.push (.int k g)));obtain⟨D,z⟩:∃D,(l.heap.update kS (Obj.mapSeq (·.push (.int k g)))).get? kS=some (seqObj "list" (d.push (.int k g)) D):=⟨_,get?_update_seq o (·.push (.int k g))⟩;have T:kz.take (j+1)=kz.take j++[k]:=by rw[List.take_add_one,q];simp
  have U:(d.push (Value.int k g)).toList=d.toList++[Value.int k g]:=by simp
  refine wpAny_bind (listUpdate_at o rfl ?_ (by rw[sizeLine_eq];omega) (Nat.le_trans (Nat.le_of_eq (Array.size_push ..)) (by rw[sizeLine_eq];omega)));exact wpAny_pure ⟨rfl,d.push (.int k g),D,Jbg (t':=l.toks) Z C G,z,(G.2 a r.symm).trans u,by rw[U,T];exact ksk_snoc n⟩
 case done =>
  rintro s' ⟨d,e,F,b,m,n⟩;have y:=by
   have W:kz.take (0+vs.length)=kz:=List.take_of_length_le (by omega);rw[W] at n;exact n
  refine wpAny_bind (listItems_at b rfl ?_);exact Jmb F C K b m r y p B fun h3 L out c Y O k3=>h _ out c Y O k3
theorem Jik(I:Inv X pins σ H s)(p:FpOk X pins H a)(l:s.heap.get? a=some (seqObj "list" vs.toArray n))(g:kz.length=vs.length)(m:vs.length<64)(turn:∀(i:Nat) (v:Value) (k:Int),vs[i]?=some v->kz[i]?=some k->Jet X pins σ H A f v k)(h:∀s' out c,Inv X pins σ H s'->s'.heap.get? a=some (seqObj "list" out c)->KskOut false kz vs out.toList->P (.done (.ret .none)) s'):
  wpAny (model X.prog X.w) A (ksk_tree a f false) P E s:=by
 have u :=lt_size l;have r:=Heap.SameBut.update s.heap a (Obj.mapSeq fun _=>(#[]:Array Value));obtain⟨q,d⟩:∃q,(s.heap.update a (Obj.mapSeq fun _=>(#[]:Array Value))).get? a=some (seqObj "list" #[] q):=⟨_,get?_update_seq l fun _=>#[]⟩;have j:((s.heap.update a (Obj.mapSeq fun _=>(#[]:Array Value))).push (seqObj "tuple" vs.toArray 0)).objs.size=s.heap.objs.size+1:=by rw[size_push',Heap.size_update]
 unfold ksk_tree;refine wpAny_bind (listItems_at l rfl ?_);refine wpAny_bind (listUpdate_at l rfl ?_ (by rw[size_toArray,sizeLine_eq];omega) (Nat.zero_le _));refine wpAny_bind (seqEpoch_at d rfl ?_);refine wpAny_bind (wpAny_newTuple ?_ (by show vs.length<=_;rw[sizeLine_eq];omega));refine wpAny_bind (wpAny_newList ?_ (Nat.zero_le _));refine wpAny_holding ?_;have B :=Jbg (t':=s.toks) I p r;have z:Inv X pins σ H { s with heap:=((s.heap.update a (Obj.mapSeq fun _=>(#[]:Array Value))).push (seqObj "tuple" vs.toArray 0)).push (seqObj "list" #[] 0) }:=B.kept (t':=s.toks) fun b o e=>get?_push_of_some _ (get?_push_of_some _ e);have y:FpOk X pins H ((s.heap.update a (Obj.mapSeq fun _=>(#[]:Array Value))).push (seqObj "tuple" vs.toArray 0)).objs.size:=by
  rw[j];exact I.fpOk (Nat.le_succ _) (I.hok.fresh (Nat.le_succ _))
 exact Jil (s:={ s with heap:=((s.heap.update a (Obj.mapSeq fun _=>(#[]:Array Value))).push (seqObj "tuple" vs.toArray 0)).push (seqObj "list" #[] 0) }) z y p (get?_push_size _ rfl)
  (get?_push_of_some _ (get?_push_of_some _ d)) (by rw[j];exact Nat.ne_of_gt (Nat.lt_succ_of_lt u)) g m turn h
end
noncomputable def Jot(X:Cx)(A:Around)(N:List Str)(qual:Str)(a:Scope)(f:Addr)(b:Value)(cl:List (Str×Addr))(s:Shared)(H:Hp):Cx where
 prog:=X.prog
 w:=X.w
 K:=X.K
 mg:=X.mg
 base:=X.base
 A:=A.deeper (envX qual a s.heap.objs.size f b cl)
 N:=N
 s₀:=s
 H₀:=H
 env:=envX qual a s.heap.objs.size f b cl
 outer:=X.stack
 stack:=envX qual a s.heap.objs.size f b cl::X.stack
 ex:=[]
 calm:=true
 fn:=fun _=>false
 pn:=[]
 xe:=fun _ _=>False
structure Jsi(X:Cx)(scope:Scope)(cl:List (Str×Addr))(x:Str)(caps:List Str)(js:List Nat):Prop where
 co:scope.isCoroutine=false
 gen:scope.isGenerator=false
 kind:scope.kind=.function
 cell:∀p∈scope.names,p.2≠.cell
 loc:scope.names.lookup x=some .local
 sub:∀p∈cl,X.env.cells.lookup p.1=some p.2
 has:∀p∈scope.names,p.2=.free->∃c,cl.lookup p.1=some c
 len:caps.length=js.length
 caps:∀(k:Nat) (c:Str),caps[k]?=some c->∃(j:Nat) (a:Addr),js[k]?=some j/\X.N[j]?=some c/\X.env.scope.names.lookup c=some .cell/\cl.lookup c=some a/\scope.names.lookup c=some .free
section
variable{X:Cx}{pins:List (Addr×Obj)}{σ:St}{H:Hp}{A:Around}{s:Shared}{name qual:Str}{params:Arguments}{body:Expr}{scope:Scope}{cl:List (Str×Addr)}{pm ctv:Value}{c' f:Addr}{x:Str}{caps:List Str}{js:List Nat}{te:TE}
theorem Js5(I:Inv X pins σ H s)(L:Jsi X scope cl x caps js)(Y:A.frames=some X.stack)(hd:A.handled=none)(r:RelV v u)(E:h₁.Ns s.heap.objs.size (fun y=>([(x,u)]:List (Str×Value)).reverse.lookup y))(C:Heap.SameBut s.heap.objs.size (s.heap.push { cls:=.type "frame",data:=.dict #[] }) h₁):
  Inv (Jot X A (x::caps) qual scope f (.ref c') cl s H) [] (some v::capv σ js) H { s with heap:=h₁,toks:=s.toks+1 }:=by
 have keep:=fun b o e=>C.extBut b o (Nat.ne_of_lt (lt_size e)) (get?_push_of_some _ e);have n:=I.env0;have d:∀b ,b ∉ (Jot X A (x::caps) qual scope f (.ref c') cl s H).ex:=fun b z=>absurd (show b∈([]:List Addr) from z) (by simp);refine⟨⟨n.mod,L.kind,rfl,rfl,Nat.le_refl _,fun a b c h1 Z=>?_,fun a h=>?_,(fun _ _ h=>nomatch h),fun _=>hd,Around.frames_deeper Y,.inr ⟨rfl,rfl⟩,fun b z=>absurd z (d b),n.bs,n.bsz,fun b _ _=>d b,fun b z=>absurd z (d b),n.funs,n.frf⟩,
  rfl,I.bare,Un.kept keep,⟨_,E,fun k q w i B e3=>?_⟩,fun q c e=>?_,I.hok.fresh (Nat.le_refl _),fun q c e=>?_,fun p U=>absurd (show p∈([]:List (Addr×Obj)) from U) (by simp),I.hok.kept keep,?_⟩
 ·exact I.ok.inj a b c (L.sub _ (mem_of_lookup h1)) (L.sub _ (mem_of_lookup Z))
 ·have h:=h;rcases h with h|h
  ·exact absurd rfl (L.cell _ (mem_of_lookup h))
  ·exact L.has _ (mem_of_lookup h) rfl
 ·cases k with
  | zero =>
   have i:some x=some q:=i;cases i;have B:=B;cases B;refine⟨u,r,.inl ⟨L.loc,?_⟩⟩;show(([(x,u)]:List (Str×Value)).reverse.lookup x)=some u;simp
  | succ k =>
   have i:(x::caps)[k+1]?=some q:=i;have G:=by simpa using i
   have F:=by simpa using B
   obtain⟨j,a,S,R,M,K,Q⟩:=L.caps k q G;obtain⟨j',J,P⟩:=Jgk F;rw[S] at J;cases J;obtain⟨m,hm,W⟩:=I.loc;obtain⟨N,O,T⟩:=W j q w R P (.inr (.inl M));refine⟨N,O,.inr ⟨.inr Q,a,K,?_⟩⟩;rcases T with⟨k1,_⟩|⟨_,c,ec,o,D,g⟩
   ·have l:X.env.scope.names.lookup q=some .local:=k1;rw[M] at l;cases l
   ·have:=L.sub _ (mem_of_lookup K);rw[ec] at this;cases this;exact⟨o,keep _ _ D,g⟩
 ·obtain⟨w,o,D,g⟩:=I.cell q c (L.sub _ (mem_of_lookup e));exact⟨w,o,keep _ _ D,g⟩
 ·exact I.freeC q c (L.sub _ (mem_of_lookup e))
 ·show(some v::capv σ js).length=(x::caps).length;unfold capv;simp[L.len]
theorem Joj{v:V}{u:Value}{k:Int}(I:Inv X pins σ H s)(L:Jsi X scope cl x caps js)(F:A.frames=some X.stack)(hd:A.handled=none)(a:A.depth<recursionLimit)(r:RelV v u)(D:s.heap.get? f=some (kla_obj name qual params body scope cl pm c' ctv))(n:s.heap.CodeRec (.ref c') qual)(c:bindArgs (kla_fn name qual params body scope cl pm (.ref c') ctv) ⟨[u],[]⟩=pure [(x,u)])(E:PE (Jot X A (x::caps) qual scope f (.ref c') cl s H) body te)(q:te (some v::capv σ js) H fun y i=>y=.int k/\i=H):
  wpAny (model X.prog X.w) A (call (.ref f) [u]) (fun r g=>∃t,r=.int k t/\Inv X pins σ H g/\∀b o,FpOk X pins H b->s.heap.get? b=some o->g.heap.get? b=some o) (fun _ _=>False) s:=by
 have j:s.heap.NoLimit:=I.env0.mod.nolimit.keeps fun b o e=>(I.env0.bs b o e).1;refine wpAny_call (kla_callFunE a D rfl L.co L.gen rfl n ?_);rw[c];refine wpAny_pure (wpAny_newFunctionEnv L.cell (fun y l=>by
  have l:y=(x,u):=by simpa using l
  rw[l];exact L.loc) (fun P m h=>⟨j.fresh _ h,?_⟩) L.kind)
 refine kla_codeExpr ?_;have J:=Js5 (qual:=qual) (f:=f) (c':=c') I L F hd r m h;refine wpAny_mono (E [] _ _ H _ J q) (fun z s' h'=>?_) fun _ _ h'=>h'.elim;obtain⟨y,i,d,B,G,K⟩:=h';rw[K] at d;rw[G] at B;obtain⟨t,rfl⟩:=B;obtain⟨N,S,C,O,R,M⟩:=I.after (Q:=fun y i=>y=.int k/\i=H) (u:=.int k t) (s':=s') ⟨.int k,H,d.os,d.bare,d.base,d.hok,⟨t,rfl⟩,rfl,rfl⟩;rw[M] at C;refine⟨t,rfl,C,fun b o p e=>d.base.keep b o e p.1 (fun z=>?_) (fun z=>absurd (show b∈([]:List Addr) from z) (by simp))⟩;rcases mem_cons.mp (I.stkSub b z) with z|z
 ·exact p.2.1 z
 ·exact p.2.2.1 z
end
structure J24(H:Hp)(P:Addr)(pos:Pos)(qual:Str):Prop where
 ex:∃ps,H P=some (.tbl ps)/\TriplesOk ps.toList/\∀cv,codeAmong pos ps.toList=some cv->∃c' oc vs t,cv=.ref c'/\H c'=some (.frz oc (.own c'))/\oc.data=.fields vs/\vs[1]?=some (.str qual t)
noncomputable def isTbl:HO->Bool
 | .tbl _=>true
 | _=>false
noncomputable def J3e(H a:Hp):Prop:=∀b u,H b=some u->isTbl u=false->a b=some u
structure Jbr(base:Heap)(mg:Str->Option Value)(P:Addr):Prop where
 ex:∃bm o,mg "__builtins__"=some (.ref bm)/\bm≠builtinsNs/\bm≠mainGlobals/\bm≠P/\base.get? bm=some o/\o.cls=.type "module"/\o.dict=some builtinsNs/\o.data=.plain
section
variable{X:Cx}{pins:List (Addr×Obj)}{σ:St}{H:Hp}{A:Around}{s:Shared}{params:Arguments}{body:Expr}{scope:Scope}{cl:List (Str×Addr)}{c P:Addr}{pos:Pos}
theorem Jok(I:Inv X pins σ H s)(U:defaultsOf params X.env=([],[]))(W:closureFor scope X.env=pure cl)(p:X.env.code=.ref c)(C:codeHdIn X.K c P=true)(B:Jbr X.base X.mg P)(T:J24 H P pos (X.env.qual ++ "<lambda>"))(h:∀f c' a g s',Inv X pins σ g s'->s'.heap.get? f=some (kla_obj "<lambda>" (X.env.qual ++ "<lambda>") params body scope cl ((X.mg "__name__").getD .none) c' a)->FpOk X pins g f->(∃D vs t,g c'=some (.frz D (.own c'))/\D.data=.fields vs/\vs[1]?=some (.str (X.env.qual ++ "<lambda>") t))->
   J3e H g->J24 g P pos (X.env.qual ++ "<lambda>")->(∀Q l i,Q≠P->J24 H Q l i->J24 g Q l i)->(∀b,b<s.heap.objs.size->H b=none->g b=none)->Q (.ref f) s'):
  wpAny (model X.prog X.w) A (eval (.Lambda params body scope pos) X.env) Q E s:=by
 obtain⟨ps,j,ht,hc⟩:=T.ex;obtain⟨bm,ob,b1,b2,b3,b4,b5,b6,b7,b8⟩:=B.ex;have KX:=I.env0.mod.kin.keeps fun b o e=>(I.env0.bs b o e).1;have G:s.heap.Ns mainGlobals X.mg:=by obtain⟨o,es,ep,e,r⟩:=I.env0.mod.glob;exact⟨o,es,ep,(I.env0.bs _ _ e).1,r⟩
 have y:=I.hok P _ j;have Y:s.heap.BuiltinsAt X.mg P:=⟨bm,ob,b1,b2,b3,b4,(I.env0.bs _ _ b5).1,b6,b7,b8⟩;have ab:mainGlobals≠P:=fun q=>by
  obtain⟨o,es,ep,e,hd,_⟩:=G;rw[q,y] at e;cases e;cases hd
 have CH:=codeHd_of_K KX C;refine kla_eval U ?_
 cases ca:codeAmong pos ps.toList with
 | none =>
  refine kla_makeFunction (mg:=X.mg) W I.ok.glob G p CH y ht ca ab Y fun c' a h' tk hx m S N M=>?_;obtain⟨c2,D,vs,t,e2,R,hd,hv⟩:=N;obtain rfl:c'=c2:=by cases e2;rfl
  have hn:=I.hok.fresh m;have ae:=Nat.ne_of_lt (Nat.lt_of_lt_of_le (lt_size y) m);obtain⟨g,eH⟩:∃g,g=upd (upd H c' (.frz D (.own c'))) P (.tbl (ps ++ #[rawInt pos.line,rawInt pos.col,.ref c'])):=⟨_,rfl⟩;have L:g P=some (.tbl (ps ++ #[rawInt pos.line,rawInt pos.col,.ref c'])):=by rw[eH,J7]
  have J:g c'=some (.frz D (.own c')):=by rw[eH,Jh ae.symm,J7]
  have oth:∀b,b≠P->b≠c'->g b=H b:=fun b n1 n2=>by rw[eH,Jh n1,Jh n2]
  have aa:∀b o,s.heap.get? b=some o->b≠c':=fun b o e=>Nat.ne_of_lt (Nat.lt_of_lt_of_le (lt_size e) m);have F:∀b u,H b=some u->b≠c':=fun b u e=>Jb e hn;have kp:∀b o,b≠P->s.heap.get? b=some o->(h'.push (kla_obj "<lambda>" (X.env.qual ++ "<lambda>") params body scope cl ((X.mg "__name__").getD .none) c' a)).get? b=some o:=fun b o n e=>get?_push_of_some _ (hx b o n e);have O:HOk X.prog X.w g (h'.push (kla_obj "<lambda>" (X.env.qual ++ "<lambda>") params body scope cl ((X.mg "__name__").getD .none) c' a)):=fun b u e=>by
   by_cases e1:b=P
   ·subst e1;rw[L] at e;cases e;exact get?_push_of_some _ M
   ·by_cases e2:b=c'
    ·subst e2;rw[J] at e;cases e;exact⟨get?_push_of_some _ R,_,get?_push_of_some _ R⟩
    ·rw[oth b e1 e2] at e;refine(I.hok b u e).stay (fun d v hd q=>kp d v ?_ q) (fun d q=>?_) fun d xs q=>?_
     ·rcases hd with rfl|hd
      ·exact e1
      ·intro z;rw[z,j] at hd;cases hd
     ·rw[oth d (fun z=>by rw[z,j] at q;cases q) (F _ _ q)];exact q
     ·rw[oth d (fun z=>by rw[z,j] at q;cases q) (F _ _ q)];exact q
  have un:Un X.fs [] H g s.heap (h'.push (kla_obj "<lambda>" (X.env.qual ++ "<lambda>") params body scope cl ((X.mg "__name__").getD .none) c' a)):=by
   refine⟨fun b o e n _ _=>kp b o (fun z=>by rw[z,j] at n;cases n) e,fun b o e n _ _=>⟨o.slots,kp b o (fun z=>by rw[z,j] at n;cases n) e⟩,fun b o e n _=>?_,fun b o e _=>?_,fun b xs e=>?_,fun b o u e=>?_,fun b qs e=>?_⟩
   ·rw[oth b (fun z=>by rw[z,j] at n;cases n) (aa b o e)];exact n
   ·by_cases z:b=P
    ·rw[z];exact⟨_,get?_push_of_some _ M⟩
    ·exact⟨o,kp b o z e⟩
   ·rw[oth b (fun z=>by rw[z,j] at e;cases e) (F _ _ e)];exact e
   ·rw[oth b (fun z=>by rw[z,j] at e;cases e) (F _ _ e)];exact e
   ·by_cases z:b=P
    ·rw[z,j] at e;cases e;exact⟨_,by rw[z];exact L⟩
    ·exact⟨#[],by rw[oth b z (F _ _ e),e];simp⟩
  have hsz:s.heap.objs.size<=h'.objs.size:=Nat.le_trans m (Nat.le_of_lt S);have ac:g h'.objs.size=none:=by
   rw[oth _ (Nat.ne_of_gt (Nat.lt_of_lt_of_le (lt_size y) hsz)) (Nat.ne_of_gt S)];exact I.hok.fresh hsz
  refine h _ c' a g _ (I.un (t':=tk) un O) (get?_push_size _ rfl) (I.fpOk hsz ac) ⟨D,vs,t,J,hd,hv⟩ (fun b u e z=>?_) ⟨_,L,?_,fun Z e=>?_⟩ (fun Q l i nQ TQ=>?_) (fun b hb n=>?_)
  ·rw[oth b (fun q=>by rw[q,j] at e;cases e;cases z) (F _ _ e)];exact e
  ·rw[Array.toList_append];exact TriplesOk_snoc _ _ _ _ ht
  ·rw[Array.toList_append] at e;have e':codeAmong pos (ps.toList++[rawInt pos.line,rawInt pos.col,.ref c'])=some Z:=e;rw[codeAmong_snoc _ ht ca] at e';cases e';exact⟨c',D,vs,t,rfl,J,hd,hv⟩
  ·obtain⟨qs,q1,q2,q3⟩:=TQ.ex;refine⟨qs,by rw[oth Q nQ (F _ _ q1)];exact q1,q2,fun Z e=>?_⟩;obtain⟨d,od,ws,t',r1,r2,r3,r4⟩:=q3 Z e;exact⟨d,od,ws,t',r1,by rw[oth d (fun z=>by rw[z,j] at r2;cases r2) (F _ _ r2)];exact r2,r3,r4⟩
  ·rw[oth b (fun z=>by rw[z,j] at n;cases n) (Nat.ne_of_lt (Nat.lt_of_lt_of_le hb m))];exact n
 | some Z =>
  obtain⟨c',D,vs,t,rfl,ad,hd,hv⟩:=hc Z ca;refine kla_makeFunctionHit (mg:=X.mg) W I.ok.glob G p CH y ht ca Y fun a h' tk hk hsz=>?_;have kp:∀b o,s.heap.get? b=some o->(h'.push (kla_obj "<lambda>" (X.env.qual ++ "<lambda>") params body scope cl ((X.mg "__name__").getD .none) c' a)).get? b=some o:=fun b o e=>get?_push_of_some _ (hk b o e);exact h _ c' a H _ (I.kept (t':=tk) kp) (get?_push_size _ rfl) (I.fpOk hsz (I.hok.fresh hsz)) ⟨D,vs,t,ad,hd,hv⟩ (fun b u e _=>e) T (fun _ _ _ _ T=>T) (fun _ _ n=>n)
end
section
variable{prog:Program}{w:World}{A:Around}{E:Value->Shared->Prop}{s:Shared}
theorem Jbk{n:Nat}(l:A.handled=none)(g:IsRange s.heap r 0 (n:Int) 1 t u v)(p:n<=1000)(h:∀h' tk (acc:Array Value),(∀b o,s.heap.get? b=some o->h'.get? b=some o)->ItemsOf (fun i v=>∃t,v=.int (0+(i:Int)*1) t) acc n->Q acc.toList { s with heap:=h',toks:=tk }):
  wpAny (model prog w) A (collect (.ref r)) Q E s:=by
 refine wpAny_bind (wpAny_runValue (codeAny_builtin PySem.F.entry_proto_collect ?_));refine wpAny_bind (wpAny_newObj_type ?_);refine wpAny_pure ⟨plainId_quiet PySem.F.plain_list_iadd _,codeAny_builtin PySem.F.entry_list_iadd ?_⟩;have m:(s.heap.push { cls:=.type "list",data:=.seq ([]:List Value).toArray }).get? s.heap.objs.size=some { cls:=.type "list",data:=.seq ([]:List Value).toArray }:=get?_push_size _ rfl;refine wpAny_extend_range (A:=A) (prog:=prog) (w:=w) (R:=fun(res:Result) s'=>match res with
  | .ok (.ret v)=>wpAny (model prog w) A (match v with
   | .ref a=>do
    let o <- load a
    match o.data with
    | .seq xs _=>pure xs.toList
    | _=>unsupported "internal:collect"
   | _=>unsupported "internal:collect") Q E s'
  | .ok _=>False
  | .error e=>E e s') (s:={ s with heap:=s.heap.push { cls:=.type "list",data:=.seq ([]:List Value).toArray } }) l (get?_push_of_some _ g) (small_one (a:=0) (b:=(n:Int)) (by omega) (by omega) (by omega) (by omega)) (n:=n) (by rw[rangeSize_one];grind) (by omega) s.heap.objs.size _ _ m fun h' tk d c' j f c=>?_
 refine wpAny_bind (wpAny_load f ?_);exact wpAny_pure (h h' tk d (fun b o e=>j b o (Nat.ne_of_lt (lt_size e)) (get?_push_of_some _ e)) c)
end
section
variable{X:Cx}{pins:List (Addr×Obj)}{σ:St}{H:Hp}{A:Around}{E:Value->Shared->Prop}{s:Shared}{vs:List Value}{kz:List Int}
theorem Jmc(j:kz.length=xs.length)(K:xs.length<64)(col:wpAny (model X.prog X.w) A.in1 (collect (.ref l)) (fun B a=>Vals xs B/\Inv X pins σ H a) E s)(turn:∀(i:Nat) (y:V) (v:Value) (k:Int),xs[i]?=some y->RelV y v->kz[i]?=some k->Jet X pins σ H A.in1.in1 (.ref f) v k)(h:∀s' D out c us,Vals xs us->Inv X pins σ H s'->FpOk X pins H D->X.s₀.heap.objs.size<=D->s'.heap.get? D=some (seqObj "list" out c)->KskOut false kz us out.toList->Q (.ref D) s'):
  wpAny (model X.prog X.w) A (call (.builtin "sorted") [.ref l] [(Str.ofString "key",.ref f)]) Q E s:=by
 refine call_function_entry_kw kind_sorted plain_sorted entry_sorted (ksk_s1 _ _) ?_;unfold Builtin.«sorted»;refine wpAny_bind (m:=checkCount "sorted" 1 1 _) (wpAny_pure ?_);refine wpAny_bind (wpAny_mono col (fun vs a J=>?_) fun _ _ x=>x);obtain⟨r,g⟩:=J;have N:=r.length;refine wpAny_bind (wpAny_newList ?_ (by rw[sizeLine_eq];omega));have d:(a.heap.push (seqObj "list" vs.toArray 0)).get? a.heap.objs.size=some (seqObj "list" vs.toArray 0):=get?_push_size _ rfl;have n:FpOk X pins H a.heap.objs.size:=g.fpOk (Nat.le_refl _) (g.hok.fresh (Nat.le_refl _));have I:X.s₀.heap.objs.size<=a.heap.objs.size:=g.sz;show wpAny _ _ _ _ _ { a with heap:=a.heap.push (seqObj "list" vs.toArray 0) };refine wpAny_bind (wpAny_holding (wpAny_call_entry_kw slot_list_sort ⟨_,d,rfl⟩ entry_list_sort ?body (ksk_l1 _ _)))
 case body =>
  show wpAny (model X.prog X.w) A.in1.in1 (Builtin.«list.sort» ⟨[.ref a.heap.objs.size],[(Str.ofString "key",.ref f)]⟩) _ _ _;rw[ksk_t1];refine Jik (s:={ a with heap:=a.heap.push (seqObj "list" vs.toArray 0) })
   (g.kept (t':=a.toks) fun b o e=>get?_push_of_some _ e) n d (show kz.length=vs.length by omega) (by omega) (fun i v k z L=>?_) fun s' out c M F G=>⟨_,rfl,?_⟩
  ·obtain⟨y,p⟩:∃y,xs[i]?=some y:=by
    have hi:i<vs.length:=(gS z);exact⟨xs[i]'(by omega),gE _⟩
   obtain⟨u,q,C⟩:=r.get p;rw[z] at q;cases q;exact turn i y v k p C L
  ·exact wpAny_pure ⟨_,rfl,h s' _ out c vs r M n I F G⟩
theorem Inv.adopt(I:Inv X pins σ H s)(f:FpOk X pins H D)(m:X.s₀.heap.objs.size<=D)(new:J2j X.prog X.w (upd H D o) s.heap D o):Inv X pins σ (upd H D o) s:=by
 obtain⟨C,B,F,E,A,y⟩:=f;have l:∀b u,H b=some u->b≠D:=fun b u e z=>by rw[z,C] at e;cases e
 have kp:∀b u,H b=some u->upd H D o b=some u:=fun b u e=>by rw[Jh (l b u e)];exact e
 refine⟨I.ok,I.os,I.bare,⟨I.base.keep,I.base.slot,fun b d q n r=>?_,I.base.there,fun b xs q=>kp _ _ (I.base.tups b xs q),fun b d u q=>kp _ _ (I.base.frzs b d u q),fun b ps q=>?_⟩,I.loc,I.cell,?_,fun x c e=>?_,fun p g=>?_,fun b u e=>?_,I.len⟩
 ·rw[Jh (Nat.ne_of_lt (Nat.lt_of_lt_of_le (lt_size q) m))];exact I.base.free b d q n r
 ·obtain⟨a,e⟩:=I.base.tbls b ps q;exact⟨a,kp _ _ e⟩
 ·rw[Jh (Ne.symm B)];exact I.free
 ·rw[Jh (A x c e)];exact I.freeC x c e
 ·obtain⟨j,i,h⟩:=I.pin p g;exact⟨j,by rw[Jh (y p g)];exact i,h⟩
 ·by_cases hb:b=D
  ·subst hb;rw[J7] at e;cases e;exact new
  ·rw[Jh hb] at e;exact(I.hok b u e).stay (fun c v _ q=>q) (fun c q=>kp _ _ q) fun c xs q=>kp _ _ q
end
theorem Jay{α β:Type}{f:α->β}{ps h:List β}(p:ps.Perm h):∀{z:List α},h=z.map f->∃c:List α,c.Perm z/\ps=c.map f:=by
 induction p with
 | nil =>
  intro z e
  cases z with
  | nil=>exact⟨[],.refl _,rfl⟩
  | cons a r=>cases e
 | cons x _ ih =>
  intro z e
  cases z with
  | nil=>cases e
  | cons a r =>
   obtain⟨o,n⟩:=List.cons.inj e;obtain⟨c,g,d⟩:=ih n;exact⟨a::c,.cons a g,by rw[map_cons,<- d,<- o]⟩
 | swap x y l =>
  intro z e
  match z,e with
  | [],e=>cases e
  | [a],e=>simp at e
  | a::b::r,e =>
   simp only[map_cons,List.cons.injEq] at e;exact⟨b::a::r,.swap _ _ _,by rw[map_cons,map_cons,e.1,e.2.1,e.2.2]⟩
 | trans _ _ ih1 ih2 =>
  intro z e;obtain⟨q,g,d⟩:=ih2 e;obtain⟨i,m,j⟩:=ih1 d;exact⟨i,m.trans g,j⟩
theorem Jbt:∀{ks:List Int} {xs:List V} {us:List Value},ks.length=xs.length->Vals xs us->
  ∃z:List (Int×V×Value),z.map (fun t=>(t.1,t.2.1))=ks.zip xs/\z.map (fun t=>(t.1,t.2.2))=ks.zip us/\∀t∈z,RelV t.2.1 t.2.2
 | [],[],_,_,.nil=>⟨[],rfl,rfl,fun _ h=>by simp at h⟩
 | k::ks,x::xs,u::us,hl,.cons r rs=>by
  obtain⟨z,d,c,b⟩:=Jbt (ks:=ks) (by simpa using hl) rs;refine⟨(k,x,u)::z,by simp[d],by simp[c],fun t a=>?_⟩;rcases mem_cons.mp a with rfl|a
  ·exact r
  ·exact b t a
theorem J7a:∀{z:List (Int×V×Value)},(∀t∈z,RelV t.2.1 t.2.2)->Vals ((z.map (fun t=>(t.1,t.2.1))).map Prod.snd) ((z.map (fun t=>(t.1,t.2.2))).map Prod.snd)
 | [],_=>.nil
 | a::r,h=>.cons (h a (mem_cons_self ..)) (J7a fun t b=>h t (mem_cons_of_mem _ b))
theorem kskV(f:ks.length=xs.length)(r:Vals xs us)(k:KskOut false ks us out):
  ∃ys:List (Int×V),ys.Perm (ks.zip xs)/\Vals (ys.map Prod.snd) out/\ys.Pairwise (fun p q=>p.1<=q.1):=by
 obtain⟨ps,c,rfl,b⟩:=k;obtain⟨z,j,i,g⟩:=Jbt f r;rw[<- i] at c;obtain⟨d,a,rfl⟩:=Jay c rfl;refine⟨d.map fun t=>(t.1,t.2.1),by rw[<- j];exact a.map _,J7a fun t e=>g t (a.mem_iff.mp e),?_⟩;rw[pairwise_map] at b ⊢;exact b.imp fun h=>by simp_all
noncomputable def SrtOf(H:Hp)(p:Addr)(xs:List V):Prop:=H p=some (.lst xs)\/∃n:Nat,H p=some (.rng 0 (n:Int))/\xs=(List.range n).map fun(i:Nat)=>V.int (i:Int)
noncomputable def srtR(P:Addr)(pos:Pos)(qual:Str)(js:List Nat)(h:TE)(σ:St)(Q:VK)(v:V)(f:Hp):Prop:=∃(p:Addr) (xs:List V) (ks:List Int),v=.ref p/\SrtOf f p xs/\xs.length<64/\ks.length=xs.length/\J24 f P pos qual/\
 (∀d,J3e f d->∀(i:Nat) (y:V) (k:Int),xs[i]?=some y->ks[i]?=some k->h (some y::capv σ js) d fun z j=>z=.int k/\j=d)/\
 ∀d l (ys:List (Int×V)),J3e f d->J24 d P pos qual->(∀g e c,g≠P->J24 f g e c->J24 d g e c)->d l=none->ys.Perm (ks.zip xs)->ys.Pairwise (fun a b=>a.1<=b.1)->Q (.ref l) (upd d l (.lst (ys.map Prod.snd)))
noncomputable def tSortK(P:Addr)(pos:Pos)(qual:Str)(js:List Nat)(a b:TE):TE:=fun σ H Q=>b σ H (srtR P pos qual js a σ Q)
section
variable{X:Cx}{params:Arguments}{body e1:Expr}{scope:Scope}{cl:List (Str×Addr)}{c P:Addr}{lpos kp p pos:Pos}{x:Str}{caps:List Str}{js:List Nat}{te t1:TE}
theorem Jfq(hc:X.calm=true)(hr:Room 1 X.A)(hg:Gl X "sorted")(hm:X.mg "sorted"=none)(r:defaultsOf params X.env=([],[]))(Z:closureFor scope X.env=pure cl)(g:X.env.code=.ref c)(C:codeHdIn X.K c P=true)(B:Jbr X.base X.mg P)(L:Jsi X scope cl x caps js)(j:∀u pm aa a,bindArgs (kla_fn "<lambda>" (X.env.qual ++ "<lambda>") params body scope cl pm aa a) ⟨[u],[]⟩=pure [(x,u)])(he:∀A f c' s H,PE (Jot X A (x::caps) (X.env.qual ++ "<lambda>") scope f (.ref c') cl s H) body te)(h1:PE X F t1)(U:starEach [F] X.env=(false,eval F X.env)::starEach [] X.env:=by rfl):
  PE X (.Call (.Name "sorted" p) [F] [⟨some "key",.Lambda params body scope lpos,kp⟩] pos) (tSortK P lpos (X.env.qual ++ "<lambda>") js te t1):=by
 intro pins s σ H Q I h;refine wpAny_Call_Name_kw (J8n I hg hm rfl ?_ (by decide) (by decide));refine PyProof.Rows.callWith_kw ?_ (by rw[U];rfl) (by rw[U];rfl);refine thn ((J0 h1 J3 U) pos pins s σ H (fun vs H1=>match vs with
  | [v]=>srtR P lpos (X.env.qual ++ "<lambda>") js te σ Q v H1
  | _=>False) I h) fun us s1 ⟨vs,H1,I1,R,S⟩=>?_
 match vs,R,S with
 | [v],R,S =>
  obtain⟨q,xs,ks,rfl,w,E,hk,T,ht,fin⟩:=S;obtain⟨u,rfl,rx⟩:=J6v R;cases rx;refine kws_cons (Jok I1 r Z g C B T fun f c' a O N I2 ho ff cd M T2 TQ nn=>kws_nil ?_);obtain⟨oc,ws,t,F,e2,e3⟩:=cd;show wpAny _ _ (call (.builtin "sorted") [.ref q] [(Str.ofString "key",.ref f)]) _ _ N;have G:Inv X ((f,kla_obj "<lambda>" (X.env.qual ++ "<lambda>") params body scope cl ((X.mg "__name__").getD .none) c' a)::pins) σ O N:=I2.pins_of fun p W=>(mem_cons.mp W).elim (fun z=>by
   rw[z];exact⟨ho,ff.1,ff.2.1,ff.2.2.1,fun v q=>by cases q⟩) fun z=>I2.pin p (mem_append_right _ z)
  refine Jmc (pins:=(f,kla_obj "<lambda>" (X.env.qual ++ "<lambda>") params body scope cl ((X.mg "__name__").getD .none) c' a)::pins) (σ:=σ) (H:=O) hk E ?_ (fun i y v k ey ry ek s' l=>?_) fun s' D out cc ab ru l fD hz hD kk=>?_
  ·rcases w with w|⟨n,w,rfl⟩
   ·obtain⟨ac,r',pl,hz⟩:=G.list (.inl (.inl (M _ _ w rfl)));refine collect_list pl.isList ⟨r',G.kept (t':=N.toks) fun b o e=>?_⟩ (by rw[sizeLine_eq];have:=r'.length;omega);have m:=lt_size e;rw[Heap.get?_update_ne _ _ _ _ (Nat.ne_of_lt m),Heap.get?_push_ne _ _ _ (Nat.ne_of_lt m)];exact e
   ·obtain⟨t,u,v,e⟩:=G.hok q _ (M _ _ w rfl);refine Jbk (G.ok.hd hc) (show IsRange N.heap q 0 (n:Int) 1 t u v from e) (by rw[length_map,length_range] at E;omega) fun h' tk acc Y d=>⟨J48 (by rw[length_toList];exact d.1) fun i v e=>?_,G.kept (t':=tk) Y⟩;obtain⟨t,rfl⟩:=d.2 i v (by simpa using e);exact⟨t,by simp⟩
  ·have po:=(l.pin _ (mem_append_right _ (mem_cons_self ..))).1;have cr:s'.heap.CodeRec (.ref c') (X.env.qual ++ "<lambda>"):=⟨c',oc,ws,t,rfl,(l.hok c' _ F).1,e2,e3⟩;exact Joj l L l.ok.frames (l.ok.hd hc) hr.depth ry po cr (j _ _ _ _) (he _ _ _ _ _) (ht O M i y k ey ek)
  ·obtain⟨ys,y1,y2,y3⟩:=kskV hk ru kk;have len:(ys.map Prod.snd).length<=sizeLine:=by
    rw[length_map,y1.length_eq,List.length_zip,sizeLine_eq];omega
   have J:=l.adopt (o:=.lst (ys.map Prod.snd)) fD hz ⟨len,out.toList,cc,y2,hD⟩;exact⟨.ref D,_,J.pins_of fun p W=>J.pin p (mem_append_right _ (mem_cons_of_mem _ W)),rfl,fin O D ys M T2 TQ fD.1 y1 y3⟩
end
theorem Fun.okK{K:Frag}{st:Stmt}(F:Fun K x qual st f fd)(a:fd.code=.ref c)(S:Jr N ps (Jd st))(len:∀vs H Q E,sp vs H Q E->vs.length=ps.length)(b:∀(A:Around) (outer:List Env) (s:Shared) (H:Hp) (vs:List V) (Q:VK) (E:XK),Room k (A.deeper (envOfC qual (Jd st) s.heap.objs.size f (.ref c)))->sp vs H Q E->
   ∃t,PSs (cxOf CX0 P w K mg base N qual (Jd st) f (.ref c) A outer s H E).nox (J1g st) t/\t { nx:=fun _ n=>Q .non n,rt:=Q } (start N vs) H):FnOk P w K mg base CX0 (k+1) f fd ps sp:=by
 obtain⟨r,p,kV,m,o,u,g,ct,i,rfl,j,e⟩:=F.ex;obtain rfl:g=.ref c:=a;refine Jor j e S len fun A outer s H vs Q E l d=>?_;obtain⟨t,h,q⟩:=b A outer s H vs Q E l d;exact⟨t,h.nox,q⟩
theorem Jon{K:Frag}(X:K.In h)(e:codeHdIn K c P=true):isCodeTable h P:=by
 obtain⟨o,vs,_,_,_,_,_,_,_,f,d,b,a,_⟩:=codeHd_of_K X e;exact⟨c,o,vs,f,d,b,a⟩
theorem Jkd{K:Frag}{Ps:List Addr}(KX:K.In s₁.heap)(p:s₁.heap.Ns mainGlobals mg)(hb:s₁.heap.Ns builtinsNs mb)(R:∀x:Str,x≠"__name__"->mb x=bootBuiltins x)(I:s₁.heap.NoLimit)(hg:s₁.gens=#[])(B:s₁.heap.get? a=some { cls:=.type "list",data:=.seq vs.toArray })(hi:IntsAre vs ns)(Z:ns.length<=sizeLine)(hr:Room k callerA)(c:∀P∈Ps,s₁.heap.get? P=some (tabObj #[])/\isCodeTable s₁.heap P/\K.lookup P=none)(O:∃bm C,mg "__builtins__"=some (.ref bm)/\bm≠builtinsNs/\s₁.heap.get? bm=some C/\C.cls=.type "module"/\C.dict=some builtinsNs/\C.data=.plain)(F:∀base ,K.In base->base.Ns mainGlobals mg->(∀P∈Ps,Jbr base mg P)->FnOk P w K mg base CX k fa fd [x] sp)(y:∀(s:Shared) (u:Value),BindsTo s fd ⟨[u],[]⟩ [(x,u)])(N:∀H ,(∀P∈Ps,H P=some (.tbl #[]))->SqL K H a (ns.map V.int)->sp [.ref a] H (fun v _=>v=.bl true) fun _ _ _=>False)(T:∀H e s',CX [] H s₁ (fun _ _ _=>False) e s'->False):
  codeAny (model P w) callerA (.call (.ref fa) ⟨[.ref a],[]⟩) (fun r s'=>r=.ok (.ret (.bool true))/\OldK s₁.heap s'.heap/\s'.os=s₁.os/\AllBare s'.gens) s₁:=by
 have Y:=J62 hi;have G:=hi.length;have n:∀H ,(∀P∈Ps,H P=some (.tbl #[]))->SqL K H a (ns.map V.int)->
   (∀b u,H b=some u->(b∈Ps/\u=.tbl #[])\/(b=a/\K.lookup a=none/\u=.frz { cls:=.type "list",data:=.seq vs.toArray } (.lst (ns.map V.int))))->
   codeAny (model P w) callerA (.call (.ref fa) ⟨[.ref a],[]⟩) (fun r s'=>r=.ok (.ret (.bool true))/\OldK s₁.heap s'.heap/\s'.os=s₁.os/\AllBare s'.gens) s₁:=by
  intro H hT hS L;have hok:HOk P w H s₁.heap:=fun b u e=>by
   rcases L b u e with⟨hb,rfl⟩|⟨rfl,_,rfl⟩
   ·exact(c b hb).1
   ·exact⟨B,by rw[length_map];exact Z,vs,_,Y,B⟩
  have f:∀{b:Addr} {o:Obj} {M:Array DictEntry} {ep:Nat},s₁.heap.get? b=some o->o.data=.dict M ep->H b=none:=fun {b o M ep} e d=>by
   cases q:H b with
   | none=>rfl
   | some u =>
    rcases L b u q with⟨hb,_⟩|⟨rfl,_⟩
    ·rw[(c b hb).1] at e;cases e;cases d
    ·rw[B] at e;cases e;cases d
  have i:∀{b:Addr} {m:Str->Option Value},s₁.heap.Ns b m->(hidT s₁.heap H).Ns b m:=fun {b m} h9=>by obtain⟨o,M,ep,e,d,r⟩:=h9;exact⟨o,M,ep,Jbf e (f e d),d,r⟩
  have J:K.In (hidT s₁.heap H):=fun b o e=>Jbf (KX b o e) (by
   cases q:H b with
   | none=>rfl
   | some u =>
    rcases L b u q with⟨hb,_⟩|⟨rfl,hk,_⟩
    ·rw[(c b hb).2.2] at e;cases e
    ·rw[hk] at e;cases e)
  have hM:Mod K mg (hidT s₁.heap H):=⟨J,i p,⟨mb,i hb,R⟩,by obtain⟨mc,h1,h2⟩:=I;exact⟨mc,i h1,h2⟩⟩;have e0:Env0 P w K mg (hidT s₁.heap H) callerA [] s₁ H:=⟨rfl,hM,fun b o e=>Jry e,Nat.le_of_eq (Jkq _ _),trivial,fun b hb=>absurd (show b∈([]:List Addr) from hb) (by simp),hok,.of_eq hg⟩;have U:∀Q∈Ps,Jbr (hidT s₁.heap H) mg Q:=fun Q hQ=>by
   obtain⟨bm,C,b1,b2,j,b4,b5,D⟩:=O;refine⟨bm,C,b1,b2,fun e=>?_,fun e=>?_,Jbf j ?_,b4,b5,D⟩
   ·obtain⟨o,M,ep,e1,W,_⟩:=p;rw[e,e1] at j;cases j;rw[W] at D;cases D
   ·rw[e,(c Q hQ).1] at j;cases j;cases D
   ·cases q:H bm with
    | none=>rfl
    | some u =>
     rcases L bm u q with⟨hb,_⟩|⟨rfl,_⟩
     ·rw[(c bm hb).1] at j;cases j;cases D
     ·rw[B] at j;cases j;cases D
  refine codeAny_mono ((F _ J (i p) U).run callerA [] s₁ H ⟨[.ref a],[]⟩ [.ref a] [.ref a] _ _ hr e0 (y s₁ (.ref a)) (.cons rfl .nil) (N H hT hS)) fun r s' h=>?_
  cases r with
  | error e=>exact(T H e s' h).elim
  | ok fl =>
   cases fl with
   | next=>exact False.elim h
   | brk=>exact False.elim h
   | cont=>exact False.elim h
   | ret u =>
    obtain⟨v,H',os,bare,un,l,r',q⟩:=h;obtain rfl:v=.bl true:=q;obtain rfl:u=Value.bool true:=r';have kp:∀b o,s₁.heap.get? b=some o->asItWas s₁.heap s'.heap b o:=fun b o e=>by
     cases q:H b with
     | none=>exact .inl (un.keep b o e q (by intro z;exact absurd (show b∈([]:List Addr) from z) (by simp)) (by simp))
     | some u =>
      rcases L b u q with⟨hb,rfl⟩|⟨rfl,_,rfl⟩
      ·obtain⟨E,z⟩:=un.tbls b #[] q;obtain⟨t1,t2,_⟩:=c b hb;rw[t1] at e;cases e;exact .inr (.inl ⟨t2,rfl,#[],E,rfl,l b _ z⟩)
      ·obtain⟨W,_⟩:=l b _ (un.frzs b _ _ q);rw[B] at e;cases e;exact .inl W
    exact⟨rfl,⟨kp,fun b o e=>un.there b o e (by simp)⟩,os,bare⟩
 have nP:a ∉ Ps:=fun h=>by
  have e:=(c a h).1;rw[B] at e;cases e
 cases hk:K.lookup a with
 | some o =>
  have e:=KX a o hk;rw[B] at e;cases e;refine n (fun b=>if b∈Ps then some (.tbl #[]) else none) (fun P S=>if_pos S) (.inr ⟨_,vs.toArray,_,hk,rfl,rfl,rfl,by rw[size_toArray,G];exact Z,by simpa using Y⟩) fun b u z=>?_;by_cases hb:b∈Ps
  ·have g:=(if_pos hb).symm.trans z;cases g;exact .inl ⟨hb,rfl⟩
  ·have g:=(if_neg hb).symm.trans z;cases g
 | none =>
  refine n (fun b=>if b∈Ps then some (.tbl #[]) else if b=a then some (.frz { cls:=.type "list",data:=.seq vs.toArray } (.lst (ns.map V.int))) else none) (fun P S=>if_pos S)
   (.inl (.inr ⟨{ cls:=.type "list",data:=.seq vs.toArray },(if_neg nP).trans (if_pos rfl)⟩)) fun b u z=>?_
  by_cases hb:b∈Ps
  ·have g:=(if_pos hb).symm.trans z;cases g;exact .inl ⟨hb,rfl⟩
  ·have X:=(if_neg hb).symm.trans z;by_cases A:b=a
   ·have g:=(if_pos A).symm.trans X;cases g;exact .inr ⟨A,hk,rfl⟩
   ·have g:=(if_neg A).symm.trans X;cases g
theorem J24.empty(h:H P=some (.tbl #[])):J24 H P pos qual:=⟨#[],h,by first|trivial|exact .nil|grind,fun a e=>by simp[codeAmong] at e⟩
theorem walk_ofU{l:PySem.W.OpenLaw}{K:Params->Frag}{CX:World->CXT}{sp:World->Sp}{Ps:List Addr}(J:l.most=some n)(z:n<=sizeLine)(B:d.params.defaults=[])(I:Room k callerA)(N:∀(w:World) (h:Heap),YP w h->(K w.params).In h/\∀P∈Ps,h.get? P=some (tabObj #[]))(Q:∀(w:World),∀P∈Ps,(K w.params).lookup P=none)(F:∀(w:World) (mg:Str->Option Value) (r:Addr) (h:Heap),(K w.params).In h->h.Ns mainGlobals mg->mg d.name=some (.ref r)->
   (∀P∈Ps,∃c,codeHdIn (K w.params) c P=true)/\∃fd:FuncData,(∀(s:Shared) (u:Value),BindsTo s fd ⟨[u],[]⟩ [(x,u)])/\
    ∀base ,(K w.params).In base->base.Ns mainGlobals mg->(∀P∈Ps,Jbr base mg P)->FnOk l.prog w (K w.params) mg base (CX w) k r fd [x] (sp w))(y:∀(w:World) (H:Hp) (a:Addr) (ns:List Int),ns.length<=n->(∀P∈Ps,H P=some (.tbl #[]))->SqL (K w.params) H a (ns.map V.int)->sp w [.ref a] H (fun v _=>v=.bl true) fun _ _ _=>False)(C:∀(w:World) (H:Hp) (s:Shared) (e:Value) (s':Shared),CX w [] H s (fun _ _ _=>False) e s'->False):
  PySem.W.WalkO q loose XP YP l.row.toRowW d [] (fun f vs=>PySem.call f vs):=by
 refine Att.attach_call J B fun w s₀ E mg mb r o Z cd X a vs ns G Y ho hd M A p j i L=>?_;obtain⟨D,tb⟩:=N w _ Y;obtain⟨U,fd,hb,S⟩:=F w mg r _ D G.T.g A;refine Jkd D G.T.g G.T.b G.T.builtins G.T.nolimit L p j (Nat.le_trans i z) I (fun P m=>⟨tb P m,?_,Q w P m⟩) G.T.bmain S hb (fun H R O=>y w H a ns i R O) fun H e s'=>C w H E e s';obtain⟨c,e⟩:=U P m;exact Jon D e
end L2
namespace Rl
structure Sr where
 fi:Int
 le:Int
 la:Int
 tu:Bool
noncomputable def fgo(s:Sr):Int:=if s.tu=true then s.la+s.le-1 else s.la
noncomputable def lgo(s:Sr):Int:=if s.tu=true then s.la else s.la+s.le-1
noncomputable def gtog(a b:Sr):Bool:=decide ((if fgo b-lgo a<0 then -(fgo b-lgo a) else fgo b-lgo a)=1)
noncomputable def mk1(a b:Sr):Sr:=⟨a.fi,a.le+b.le,if b.la<a.la then b.la else a.la,decide (b.la<a.la)&&decide (1<a.le+b.le)⟩
noncomputable def lstp(acc:List Sr)(s:Sr):List Sr:=match acc.getLast? with
 | some a=>if gtog a s=true then acc.dropLast++[mk1 a s] else acc++[s]
 | none=>[s]
noncomputable def lgst(a:List Sr):List Sr:=a.foldl lstp []
structure Pc(g:Int->Int)(a:Int)(s:Sr):Prop where
 fi:s.fi=a
 le:1<=s.le
 tu:s.tu=true->1<s.le
 up:s.tu=false->∀x,0<=x->x<s.le->g (a+x)=s.la+x
 dn:s.tu=true->∀x,0<=x->x<s.le->g (a+x)=s.la+s.le-1-x
noncomputable def near(u v:Int):Prop:=u-v=1\/v-u=1
noncomputable def Rep(g:Int->Int):Int->List Sr->Int->Prop
 | a,[],b=>a=b
 | a,s::r,b=>Pc g a s/\Rep g (a+s.le) r b
noncomputable def RepS(g:Int->Int):Int->List Sr->Int->Prop
 | a,[],b=>a=b
 | a,s::r,b=>Pc g a s/\(r≠[]->¬ near (g (a+s.le)) (g (a+s.le-1)))/\RepS g (a+s.le) r b
theorem Pc.fgo(p:Pc g a s):fgo s=g a:=by
 unfold Rl.fgo;have l:=p.le;by_cases t:s.tu=true
 ·rw[if_pos t];have:=p.dn t 0 (by lia) (by lia)
  grind
 ·rw[if_neg t];have:=p.up (by simpa using t) 0 (by lia) (by lia);rw[show a+0=a by lia] at this;lia
theorem Pc.lgo(p:Pc g a s):lgo s=g (a+s.le-1):=by
 unfold Rl.lgo;have l:=p.le;by_cases t:s.tu=true
 ·rw[if_pos t];have:=p.dn t (s.le-1) (by lia) (by lia)
  grind
 ·rw[if_neg t];have:=p.up (by simpa using t) (s.le-1) (by lia) (by lia);rw[show a+(s.le-1)=a+s.le-1 by lia] at this;lia
theorem Jg8(c:Pc g a p)(b:Pc g (a+p.le) q):gtog p q=true↔near (g (a+p.le)) (g (a+p.le-1)):=by
 unfold gtog near;rw[b.fgo,c.lgo,decide_eq_true_iff];generalize g (a+p.le)=u;generalize g (a+p.le-1)=v;split <;> lia
theorem Pc.merge{g:Int->Int}{a b:Int}{p q:Sr}(inj:∀x y,a<=x->x<b->a<=y->y<b->g x=g y->x=y)(d:Pc g a p)(f:Pc g (a+p.le) q)(hb:a+p.le+q.le<=b)(h:near (g (a+p.le)) (g (a+p.le-1))):Pc g a (mk1 p q):=by
 have l1:=d.le;have w:=f.le;have n:=d.lgo;have m:=f.fgo;unfold Rl.lgo at n;unfold Rl.fgo at m;rcases h with h|h
 ·-- upward
  have pt:p.tu=false:=by
   cases t:p.tu with
   | false=>rfl
   | true =>
    have c:=d.tu t;have e:=d.dn t (p.le-2) (by lia) (by lia);rw[if_pos t] at n;have:=inj (a+(p.le-2)) (a+p.le) (by lia) (by lia) (by lia) (by lia) (by lia);lia
  have o:q.tu=false:=by
   cases t:q.tu with
   | false=>rfl
   | true =>
    have c:=f.tu t;have e:=f.dn t 1 (by lia) (by lia);rw[if_pos t] at m;have:=inj (a+p.le+1) (a+p.le-1) (by lia) (by lia) (by lia) (by lia) (by lia);lia
  rw[pt,if_neg (by decide)] at n;rw[o,if_neg (by decide)] at m;have j:¬ q.la<p.la:=by lia
  refine⟨d.fi,by show 1<=p.le+q.le;lia,fun t=>by show 1<p.le+q.le;lia,fun t x i c=>?_,fun t=>?_⟩
  ·have c:x<p.le+q.le:=c;show g (a+x)=(if q.la<p.la then q.la else p.la)+x;rw[if_neg j];rcases Int.lt_or_le x p.le with hx|hx
   ·exact d.up pt x i hx
   ·have:=f.up o (x-p.le) (by lia) (by lia);rw[show a+p.le+(x-p.le)=a+x by lia] at this;lia
  ·have t:(decide (q.la<p.la)&&decide (1<p.le+q.le))=true:=t;rw[decide_eq_false j] at t;cases t
 ·-- downward
  have s:∀x,0<=x->x<p.le->g (a+x)=p.la+p.le-1-x:=by
   cases t:p.tu with
   | true=>exact d.dn t
   | false =>
    intro x i c;rw[t,if_neg (by decide)] at n;rcases Int.lt_or_le 1 p.le with l|l
    ·have e:=d.up t (p.le-2) (by lia) (by lia);have:=inj (a+(p.le-2)) (a+p.le) (by lia) (by lia) (by lia) (by lia) (by lia);lia
    ·have e:=d.up t x i c;lia
  have r:∀x,0<=x->x<q.le->g (a+p.le+x)=q.la+q.le-1-x:=by
   cases t:q.tu with
   | true=>exact f.dn t
   | false =>
    intro x i c;rw[t,if_neg (by decide)] at m;rcases Int.lt_or_le 1 q.le with l|l
    ·have e:=f.up t 1 (by lia) (by lia);have:=inj (a+p.le+1) (a+p.le-1) (by lia) (by lia) (by lia) (by lia) (by lia);lia
    ·have e:=f.up t x i c;lia
  have v:=s (p.le-1) (by lia) (by lia);have u:=r 0 (by lia) (by lia);rw[show a+(p.le-1)=a+p.le-1 by lia] at v;rw[show a+p.le+0=a+p.le by lia] at u;have j:q.la<p.la:=by lia
  refine⟨d.fi,by show 1<=p.le+q.le;lia,fun t=>by show 1<p.le+q.le;lia,fun t=>?_,fun t x i c=>?_⟩
  ·have t:(decide (q.la<p.la)&&decide (1<p.le+q.le))=false:=t;rw[decide_eq_true j,decide_eq_true (by lia:1<p.le+q.le)] at t;cases t
  ·have c:x<p.le+q.le:=c;show g (a+x)=(if q.la<p.la then q.la else p.la)+(p.le+q.le)-1-x;rw[if_pos j];rcases Int.lt_or_le x p.le with hx|hx
   ·have:=s x i hx;lia
   ·have:=r (x-p.le) (by lia) (by lia);rw[show a+p.le+(x-p.le)=a+x by lia] at this;lia
theorem RepS.last :∀{init:List Sr} {a m:Int} {p:Sr},RepS g a (init++[p]) m->∃k,a<=k/\Pc g k p/\m=k+p.le/\(∀b,Pc g k b->RepS g a (init++[b]) (k+b.le))/\
  ∀q,Pc g m q->¬ near (g m) (g (m-1))->RepS g a (init++[p]++[q]) (m+q.le)
 | [],a,m,p,h=>by
  obtain⟨c,_,i⟩:=h;subst i;exact⟨a,Int.le_refl _,c,rfl,fun b e=>⟨e,fun z=>absurd rfl z,rfl⟩,fun q d f=>⟨c,fun _=>f,d,fun z=>absurd rfl z,rfl⟩⟩
 | s::r,a,m,p,h=>by
  obtain⟨c,j,i⟩:=h;obtain⟨k,k1,k2,k3,l,k5⟩:=RepS.last (init:=r) i;have:=c.le;refine⟨k,by lia,k2,k3,fun b e=>⟨c,fun _=>j (by simp),l b e⟩,fun q d f=>⟨c,fun _=>j (by simp),k5 q d f⟩⟩
theorem RepS.le :∀{c:List Sr} {a b:Int},RepS g a c b->a<=b
 | [],a,b,h=>Int.le_of_eq h
 | s::r,a,b,⟨h1,_,h3⟩=>by have:=RepS.le h3;have:=h1.le;lia
theorem Jm8{acc:List Sr}(e:acc.getLast?=some a):acc=acc.dropLast++[a]:=by
 rcases List.eq_nil_or_concat acc with rfl|⟨l,b,rfl⟩
 ·cases e
 ·grind
theorem RepS.step(inj:∀x y,a<=x->x<b->a<=y->y<b->g x=g y->x=y)(h:RepS g a acc m)(d:Pc g m s)(hb:m+s.le<=b):RepS g a (lstp acc s) (m+s.le):=by
 unfold lstp
 cases e:acc.getLast? with
 | none =>
  have:=List.getLast?_eq_none_iff.mp e;subst this;have h:=h;subst h;exact⟨d,fun z=>absurd rfl z,rfl⟩
 | some p =>
  have sp:=Jm8 e;dsimp only;rw[sp] at h;obtain⟨k,k1,k2,k3,j,k5⟩:=h.last;subst k3;by_cases c:gtog p s=true
  ·rw[if_pos c];have M:=Pc.merge (a:=k) (b:=b) (fun x y o i l f e=>inj x y (by lia) i (by lia) f e) k2 d (by lia) ((Jg8 k2 d).mp c);have:=j _ M;rw[show k+p.le+s.le=k+(mk1 p s).le by show _=k+(p.le+s.le);lia];exact this
  ·rw[if_neg c];have:=k5 s d fun n=>c ((Jg8 k2 d).mpr n);rw[<- sp] at this;exact this
theorem Rep.le :∀{c:List Sr} {a b:Int},Rep g a c b->a<=b
 | [],a,b,h=>Int.le_of_eq h
 | s::r,a,b,⟨h1,h3⟩=>by have:=Rep.le h3;have:=h1.le;lia
theorem Jgb(inj:∀x y,a<=x->x<b->a<=y->y<b->g x=g y->x=y):∀(c:List Sr) {acc:List Sr} {m:Int},RepS g a acc m->Rep g m c b->RepS g a (c.foldl lstp acc) b
 | [],acc,m,h,e=>by
  subst e;exact h
 | s::r,acc,m,h,⟨h1,h2⟩=>by
  exact Jgb inj r (RepS.step inj h h1 h2.le) h2
theorem Jog(inj:∀x y,a<=x->x<b->a<=y->y<b->g x=g y->x=y)(h:Rep g a ss b):RepS g a (lgst ss) b:=Jgb inj ss (acc:=[]) (m:=a) rfl h
theorem Pc.near(p:Pc g a s)(e:a<m)(d:m<a+s.le):near (g m) (g (m-1)):=by
 cases t:s.tu with
 | false =>
  have c:=p.up t (m-a) (by lia) (by lia);have b:=p.up t (m-1-a) (by lia) (by lia);rw[show a+(m-a)=m by lia] at c;rw[show a+(m-1-a)=m-1 by lia] at b;left;lia
 | true =>
  have c:=p.dn t (m-a) (by lia) (by lia);have b:=p.dn t (m-1-a) (by lia) (by lia);rw[show a+(m-a)=m by lia] at c;rw[show a+(m-1-a)=m-1 by lia] at b;right;lia
theorem Pc.uni(b:Pc g a p)(c:Pc g a q)(e:p.le=q.le):p=q:=by
 have l:=b.le;have t:p.tu=q.tu:=by
  cases tp:p.tu with
  | false =>
   cases tq:q.tu with
   | false=>rfl
   | true =>
    have h:=c.tu tq;have i:=b.up tp 0 (by lia) (by lia);have m:=b.up tp 1 (by lia) (by lia);have d:=c.dn tq 0 (by lia) (by lia);have j:=c.dn tq 1 (by lia) (by lia);lia
  | true =>
   cases tq:q.tu with
   | true=>rfl
   | false =>
    have h:=b.tu tp;have i:=b.dn tp 0 (by lia) (by lia);have m:=b.dn tp 1 (by lia) (by lia);have d:=c.up tq 0 (by lia) (by lia);have j:=c.up tq 1 (by lia) (by lia);lia
 have la:p.la=q.la:=by
  cases tp:p.tu with
  | false =>
   have i:=b.up tp 0 (by lia) (by lia);have d:=c.up (by rw[<- t];exact tp) 0 (by lia) (by lia);lia
  | true =>
   have i:=b.dn tp 0 (by lia) (by lia);have d:=c.dn (by rw[<- t];exact tp) 0 (by lia) (by lia);lia
 have f:=b.fi.trans c.fi.symm;obtain⟨u,pl,v,pt⟩:=p;obtain⟨r,o,s,n⟩:=q;simp only at e t la f;rw[e,t,la,f]
theorem RepS.uni :∀{i f:List Sr} {a b:Int},RepS g a i b->RepS g a f b->i=f
 | [],[],_,_,_,_=>rfl
 | [],t::r,a,b,h,⟨h1,_,d⟩=>by
  have h:a=b:=h;have:=d.le;have:=h1.le;lia
 | s::r,[],a,b,⟨h1,_,d⟩,h=>by
  have h:a=b:=h;have:=d.le;have:=h1.le;lia
 | s::r,t::r',a,b,⟨h1,h2,d⟩,⟨k1,k2,k3⟩=>by
  have l1:=h1.le;have n:=k1.le;have e:s.le=t.le:=by
   have l:=d.le;have j:=k3.le;rcases Int.lt_trichotomy s.le t.le with c|c|c
   ·have:r≠[]:=fun z=>by
     subst z;have d:a+s.le=b:=d;lia
    exact absurd (k1.near (m:=a+s.le) (by lia) (by lia)) (h2 this)
   ·exact c
   ·have:r'≠[]:=fun z=>by
     subst z;have k3:a+t.le=b:=k3;lia
    exact absurd (h1.near (m:=a+t.le) (by lia) (by lia)) (k2 this)
  have st:=h1.uni k1 e;subst st;rw[RepS.uni d k3]
noncomputable def srO(ls:List Int)(os:List Nat)(ts:List Bool)(i:Nat):Sr:=⟨(firsts ls (List.range ls.length)).getD i 0,ls.getD i 0,(firsts ls os).getD i 0,ts.getD i false&&decide (1<ls.getD i 0)⟩
noncomputable def srsL(ls:List Int)(os:List Nat)(ts:List Bool):List Sr:=(List.range ls.length).map (srO ls os ts)
noncomputable def gL(ls:List Int)(os:List Nat)(ts:List Bool)(x:Int):Int:=by
 classical exact if h:∃j,Lies (firsts ls (List.range ls.length)) ls x j then J4f ls ts h.choose (x-(firsts ls (List.range ls.length)).getD h.choose 0) (firsts ls os) else 0
theorem Jco(O:Ord ls os)(q:Lies (firsts ls (List.range ls.length)) ls x j):gL ls os ts x=J4f ls ts j (x-(firsts ls (List.range ls.length)).getD j 0) (firsts ls os):=by
 unfold gL;have h:∃j,Lies (firsts ls (List.range ls.length)) ls x j:=⟨j,q⟩;rw[dif_pos h,O.range.unique h.choose_spec q]
theorem J8s(O:Ord ls os)(q:Lies (firsts ls (List.range ls.length)) ls x j):Lies (firsts ls os) ls (gL ls os ts x) j:=by
 rw[Jco O q];exact(Jcg q).1
theorem gL_inj(O:Ord ls os)(i:0<=x)(h:x<ls.sum)(g:0<=y)(f:y<ls.sum)(e:gL ls os ts x=gL ls os ts y):x=y:=by
 obtain⟨j,d⟩:=O.range.exists i h;obtain⟨k,c⟩:=O.range.exists g f;have a:=J8s (ts:=ts) O d;have b:=J8s (ts:=ts) O c;rw[e] at a;have l:=O.unique a b;subst l;rw[Jco O d,Jco O c] at e;unfold J4f at e;split at e <;> lia
theorem gL_in(O:Ord ls os)(b:0<=x)(a:x<ls.sum):0<=gL ls os ts x/\gL ls os ts x<ls.sum:=by
 obtain⟨j,c⟩:=O.range.exists b a;exact O.inside (J8s O c)
theorem J2o(O:Ord ls os)(h:k<ls.length):(firsts ls (List.range ls.length)).getD k 0=Jq ls (List.range ls.length) k:=by
 have:=O.range.first h;rwa [J2m h] at this
theorem sr_pc(O:Ord ls os)(h:k<ls.length):Pc (gL ls os ts) (Jq ls (List.range ls.length) k) (srO ls os ts k):=by
 have fr:=J2o O h;have one:=O.one h;have at_:∀x,0<=x->x<ls.getD k 0->gL ls os ts (Jq ls (List.range ls.length) k+x)=if ts.getD k false=true then (firsts ls os).getD k 0+ls.getD k 0-1-x else (firsts ls os).getD k 0+x:=fun x b a=>by
  rw[Jco O (j:=k) ⟨h,by lia,by lia⟩];unfold J4f;rw[fr,show Jq ls (List.range ls.length) k+x-Jq ls (List.range ls.length) k=x by lia]
 refine⟨fr,one,fun t=>?_,fun t x b a=>?_,fun t x b a=>?_⟩
 ·have t:(ts.getD k false&&decide (1<ls.getD k 0))=true:=t;rw[Bool.and_eq_true] at t;exact of_decide_eq_true t.2
 ·have a:x<ls.getD k 0:=a;have t:(ts.getD k false&&decide (1<ls.getD k 0))=false:=t;rw[at_ x b a];show _=(firsts ls os).getD k 0+x;by_cases c:ts.getD k false=true
  ·rw[c,Bool.true_and] at t;have:=of_decide_eq_false t;rw[if_pos c];lia
  ·rw[if_neg c]
 ·have t:(ts.getD k false&&decide (1<ls.getD k 0))=true:=t;rw[Bool.and_eq_true] at t;rw[at_ x b a,if_pos t.1];rfl
theorem Jf0(O:Ord ls os):∀(d k:Nat),k+d=ls.length->Rep (gL ls os ts) (Jq ls (List.range ls.length) k) (((List.range ls.length).drop k).map (srO ls os ts)) ls.sum
 | 0,k,e=>by
  subst e;rw[List.drop_of_length_le (by simp)];exact O.range.whole
 | d+1,k,e=>by
  have a:k<ls.length:=by lia
  rw[List.drop_eq_getElem_cons (by simp_all),List.getElem_range,map_cons];refine⟨sr_pc O a,?_⟩;have:=Jf0 (ts:=ts) O d (k+1) (by lia);rw[J16,J2m a] at this;exact this
theorem J87(O:Ord ls os):Rep (gL ls os ts) 0 (srsL ls os ts) ls.sum:=Jf0 O ls.length 0 (by lia)
theorem Pc.val(p:Pc g a s)(q:Pc h a s)(e:a<=x)(d:x<a+s.le):g x=h x:=by
 cases t:s.tu with
 | false =>
  have c:=p.up t (x-a) (by lia) (by lia);have b:=q.up t (x-a) (by lia) (by lia)
  grind
 | true =>
  have c:=p.dn t (x-a) (by lia) (by lia);have b:=q.dn t (x-a) (by lia) (by lia)
  grind
theorem RepS.at :∀{L:List Sr} {a b:Int},RepS g a L b->∀(i:Nat) (s:Sr),L[i]?=some s->Pc g s.fi s/\a<=s.fi/\s.fi+s.le<=b
 | [],_,_,_,i,s,e=>by simp at e
 | t::r,a,b,⟨h1,h2,h3⟩,0,s,e=>by
  cases e;have:=h3.le;have f:=h1.fi;rw[f];exact⟨h1,Int.le_refl _,this⟩
 | t::r,a,b,⟨h1,h2,h3⟩,i+1,s,e=>by
  obtain⟨d,h,c⟩:=RepS.at h3 i s e;have:=h1.le;exact⟨d,by lia,c⟩
theorem RepS.next :∀{L:List Sr} {a b:Int},RepS g a L b->∀(i:Nat) (s t:Sr),L[i]?=some s->L[i+1]?=some t->t.fi=s.fi+s.le
 | [],_,_,_,i,s,t,e,_=>by simp at e
 | u::r,a,b,⟨h1,h2,h3⟩,0,s,t,e,e2=>by
  cases e
  cases r with
  | nil=>simp at e2
  | cons v r' =>
   cases e2;rw[h3.1.fi,h1.fi]
 | u::r,a,b,⟨h1,h2,h3⟩,i+1,s,t,e,e2=>RepS.next h3 i s t e e2
theorem RepS.before :∀{L:List Sr} {a b:Int},RepS g a L b->∀(i j:Nat) (s t:Sr),i<j->L[i]?=some s->L[j]?=some t->s.fi+s.le<=t.fi
 | [],_,_,_,i,j,s,t,_,e,_=>by simp at e
 | u::r,a,b,⟨h1,h2,h3⟩,0,j+1,s,t,_,e,e2=>by
  cases e;obtain⟨_,c,_⟩:=RepS.at h3 j t e2;have:=h1.fi;lia
 | u::r,a,b,⟨h1,h2,h3⟩,i+1,j+1,s,t,h,e,e2=>RepS.before h3 i j s t (by lia) e e2
theorem RepS.tot :∀{L:List Sr} {a b:Int},RepS g a L b->a+(L.map Sr.le).sum=b
 | [],a,b,e=>by
  have e:a=b:=e;simp[e]
 | s::r,a,b,⟨_,_,h3⟩=>by
  have:=RepS.tot h3;rw[map_cons,sum_cons];lia
theorem Pc.hit(p:Pc g a s)(c:s.la<=v)(b:v<s.la+s.le):∃x,a<=x/\x<a+s.le/\g x=v:=by
 cases t:s.tu with
 | false=>exact⟨a+(v-s.la),by lia,by lia,by rw[p.up t _ (by lia) (by lia)];lia⟩
 | true=>exact⟨a+(s.la+s.le-1-v),by lia,by lia,by rw[p.dn t _ (by lia) (by lia)];lia⟩
theorem Pc.low(p:Pc g a s):∃x,a<=x/\x<a+s.le/\g x=s.la:=p.hit (Int.le_refl _) (by have:=p.le;lia)
theorem Pc.high(p:Pc g a s):∃x,a<=x/\x<a+s.le/\g x=s.la+s.le-1:=p.hit (by have:=p.le;lia) (by lia)
noncomputable def s0:Sr:=⟨0,0,0,false⟩
section
variable{g:Int->Int}{L:List Sr}{N:Int}{os:List Nat}
theorem getL(h:i<L.length):L[i]?=some (L.getD i s0):=by simp_all
theorem leD(h:i<L.length):(L.map Sr.le).getD i 0=(L.getD i s0).le:=by
 rw[getD_eq_getElem?_getD,getElem?_map,getL h];rfl
theorem laD(h:i<L.length):(L.map Sr.la).getD i 0=(L.getD i s0).la:=by
 rw[getD_eq_getElem?_getD,getElem?_map,getL h];rfl
theorem tuD(h:i<L.length):(L.map Sr.tu).getD i false=(L.getD i s0).tu:=by
 rw[getD_eq_getElem?_getD,getElem?_map,getL h];rfl
theorem RepS.ord(R:RepS g 0 L N)(p:os.Perm (List.range L.length)):Ord (L.map Sr.le) os:=
 ⟨fun a c=>by
  obtain⟨s,b,rfl⟩:=mem_map.mp c;obtain⟨i,hi,e⟩:=List.getElem_of_mem b;exact(R.at i s (by simp_all)).1.le,by simp_all⟩
theorem RepS.apart(R:RepS g 0 L N)(inj:∀x y,0<=x->x<N->0<=y->y<N->g x=g y->x=y)(hi:i<L.length)(a:j<L.length)(ne:i≠j)(h:(L.getD i s0).la<=(L.getD j s0).la):(L.getD i s0).la+(L.getD i s0).le<=(L.getD j s0).la:=by
 obtain⟨d,r,q⟩:=R.at i _ (getL hi);obtain⟨b,p,o⟩:=R.at j _ (getL a);rcases Int.lt_or_le (L.getD j s0).la ((L.getD i s0).la+(L.getD i s0).le) with c|c
 ·obtain⟨x,n,m,ex⟩:=d.hit h c;obtain⟨y,f,e,s⟩:=b.low;have:=inj x y (by lia) (by lia) (by lia) (by lia) (by lia);subst this;rcases Nat.lt_or_gt_of_ne ne with l|l
  ·have:=R.before i j _ _ l (getL hi) (getL a);lia
  ·have:=R.before j i _ _ l (getL a) (getL hi);lia
 ·exact c
theorem RepS.laid(R:RepS g 0 L N)(inj:∀x y,0<=x->x<N->0<=y->y<N->g x=g y->x=y)(inn:∀x,0<=x->x<N->0<=g x/\g x<N)(p:os.Perm (List.range L.length))(srt:os.Pairwise (fun i j=>(L.map Sr.la).getD i 0<=(L.map Sr.la).getD j 0)):∀k,k<L.length->(L.getD (os.getD k 0) s0).la=Jq (L.map Sr.le) os k:=by
 have O:=R.ord p;have u:(L.map Sr.le).length=L.length:=length_map ..;have w:os.length=L.length:=by rw[p.length_eq,length_range]
 have lt:∀k,k<L.length->os.getD k 0<L.length:=fun k h=>by have:=O.lt (i:=k) (by lia);lia
 have a:∀k,Jq (L.map Sr.le) os (k+1)=Jq (L.map Sr.le) os k+(L.map Sr.le).getD (os.getD k 0) 0:=fun k=>J16 _ _ k;have step:=fun k h=>by
  refine R.apart inj (lt k (by lia)) (lt (k+1) h) (fun e=>?_) ?_
  ·have:=O.inj (i:=k) (j:=k+1) (by lia) (by lia) e;lia
  ·have:=(List.pairwise_iff_getElem.mp srt) k (k+1) (by lia) (by lia) (by lia);rw[<- laD (lt k (by lia)),<- laD (lt (k+1) h)];rw[getD_eq_getElem?_getD (l:=os),gE (by lia:k<os.length),getD_eq_getElem?_getD (l:=os),gE (by lia:k+1<os.length)];exact this
 have b:∀k,k<L.length->Jq (L.map Sr.le) os k<=(L.getD (os.getD k 0) s0).la:=by
  intro k
  induction k with
  | zero =>
   intro h;obtain⟨f,s,r⟩:=R.at _ _ (getL (lt 0 h));obtain⟨x,q,o,ex⟩:=f.low;have:=inn x (by lia) (by lia);rw[J33];lia
  | succ k ih =>
   intro h;have n:=ih (by lia);have m:=step k h;rw[a,leD (lt k (by lia))];lia
 have tot:Jq (L.map Sr.le) os L.length=N:=by
  have h:=O.whole;rw[u] at h;have:=R.tot;lia
 have c:∀d k,k+d+1=L.length->(L.getD (os.getD k 0) s0).la+(L.getD (os.getD k 0) s0).le<=Jq (L.map Sr.le) os (k+1):=by
  intro d
  induction d with
  | zero =>
   intro k h;obtain⟨f,s,r⟩:=R.at _ _ (getL (lt k (by lia)));obtain⟨x,q,o,ex⟩:=f.high;have:=inn x (by lia) (by lia);rw[show k+1=L.length by lia,tot];lia
  | succ d ih =>
   intro k h;have n:=ih (k+1) (by lia);have m:=step k (by lia);have v:=a (k+1);rw[leD (lt (k+1) (by lia))] at v;lia
 intro k h;have n:=b k h;have m:=c (L.length-1-k) k (by lia);rw[a,leD (lt k h)] at m;lia
theorem RepS.fis(R:RepS g 0 L N):∀k,k<L.length->(L.getD k s0).fi=Jq (L.map Sr.le) (List.range L.length) k
 | 0,h=>by
  cases L with
  | nil=>simp at h
  | cons s r=>exact R.1.fi
 | k+1,h=>by
  have b:=RepS.fis R k (by lia);have a:=R.next k _ _ (getL (by lia)) (getL h);rw[a,b,J16,J2m (by lia:k<L.length),leD (by lia)]
theorem RepS.own(R:RepS g 0 L N)(inj:∀x y,0<=x->x<N->0<=y->y<N->g x=g y->x=y)(inn:∀x,0<=x->x<N->0<=g x/\g x<N)(p:os.Perm (List.range L.length))(srt:os.Pairwise (fun i j=>(L.map Sr.la).getD i 0<=(L.map Sr.la).getD j 0)):srsL (L.map Sr.le) os (L.map Sr.tu)=L:=by
 have O:=R.ord p;have a:(L.map Sr.le).length=L.length:=length_map ..;apply ext_getElem?;intro i;unfold srsL;rw[a,getElem?_map];by_cases h:i<L.length
 ·rw[getElem?_range h,getL h];refine congrArg some ?_;obtain⟨k,f,b⟩:=O.onto (j:=i) (by lia);have e:=R.laid inj inn p srt k (by lia);rw[b] at e;have d:=O.first (i:=k) f;rw[b] at d;have l:=R.fis i h;have c:=J2o O (k:=i) (by lia);rw[a] at c;have P:=(R.at i _ (getL h)).1;unfold srO;rw[a,c,<- l,leD h,d,<- e,tuD h];generalize L.getD i s0=s at *;have t:(s.tu&&decide (1<s.le))=s.tu:=by
   cases q:s.tu with
   | false=>rfl
   | true=>rw[decide_eq_true (P.tu q)];rfl
  rw[t]
 ·simp_all
end
theorem RepS.rep :∀{L:List Sr} {a b:Int},RepS g a L b->Rep g a L b
 | [],_,_,h=>h
 | s::r,_,_,⟨h1,_,h3⟩=>⟨h1,RepS.rep h3⟩
theorem Rep.val :∀{d:List Sr} {a b c:Int},Rep g a d b->Rep h a d c->b=c/\∀x,a<=x->x<b->g x=h x
 | [],a,b,c,i,f=>by
  have i:a=b:=i;have f:a=c:=f
  grind
 | s::r,a,b,c,⟨h1,h3⟩,⟨k1,k3⟩=>by
  obtain⟨e,v⟩:=Rep.val h3 k3;refine⟨e,fun x l j=>?_⟩;rcases Int.lt_or_le x (a+s.le) with c|c
  ·exact h1.val k1 l c
  ·exact v x c j
structure PlO(L:List Sr)(os:List Nat):Prop where
 perm:os.Perm (List.range L.length)
 srt:os.Pairwise (fun i j=>(L.map Sr.la).getD i 0<=(L.map Sr.la).getD j 0)
theorem flat_one{α β:Type}{f:α->List β}{g:α->β}:∀{l:List α},(∀o∈l,f o=[g o])->l.flatMap f=l.map g
 | [],_=>rfl
 | a::r,h=>by
  rw[flatMap_cons,h a (mem_cons_self ..),flat_one fun o b=>h o (mem_cons_of_mem _ b)];rfl
theorem Rep.all :∀{L:List Sr} {a b:Int},Rep g a L b->∀s∈L,Pc g s.fi s/\a<=s.fi/\s.fi+s.le<=b
 | [],_,_,_,s,h=>by cases h
 | t::r,a,b,⟨h1,h2⟩,s,h=>by
  have e:=h1.fi;have l:=h1.le;have c:=h2.le;rcases mem_cons.mp h with rfl|h
  ·rw[e];exact⟨h1,Int.le_refl _,c⟩
  ·obtain⟨k1,k2,k3⟩:=Rep.all h2 s h;exact⟨k1,by lia,k3⟩
theorem Rep.pair :∀{L:List Sr} {a b:Int},Rep g a L b->L.Pairwise (fun s t=>s.fi+s.le<=t.fi)
 | [],_,_,_=>.nil
 | t::r,a,b,⟨h1,h2⟩=>.cons (fun s c=>by have:=(h2.all s c).2.1;have:=h1.fi;lia) (Rep.pair h2)
theorem Rep.cover :∀{L:List Sr} {a b:Int},Rep g a L b->∀x,a<=x->x<b->∃s∈L,s.fi<=x/\x<s.fi+s.le
 | [],a,b,h,x,x0,x1=>by have h:a=b:=h;lia
 | t::r,a,b,⟨h1,h2⟩,x,x0,x1=>by
  have e:=h1.fi;by_cases c:x<a+t.le
  ·grind
  ·obtain⟨s,d,k⟩:=Rep.cover h2 x (by lia) x1;exact⟨s,mem_cons_of_mem _ d,k⟩
theorem Jd3 :∀(L:List Sr) (a N:Int),(∀s∈L,Pc f s.fi s)->(∀s∈L,a<=s.fi/\s.fi+s.le<=N)->L.Pairwise (fun s t=>s.fi<=t.fi)->L.Pairwise (fun s t=>s.fi+s.le<=t.fi\/t.fi+t.le<=s.fi)->
  (∀x,a<=x->x<N->∃s∈L,s.fi<=x/\x<s.fi+s.le)->a<=N->Rep f a L N
 | [],a,N,_,_,_,_,cv,h=>by
  show a=N;rcases Int.lt_or_le a N with c|c
  ·obtain⟨s,g,_⟩:=cv a (Int.le_refl _) c;cases g
  ·lia
 | s::r,a,N,hp,hb,g,hd,cv,h=>by
  obtain⟨p,o⟩:=pairwise_cons.mp g;obtain⟨u,q⟩:=pairwise_cons.mp hd;have d:=hp s (mem_cons_self ..);have l:=d.le;obtain⟨A,y⟩:=hb s (mem_cons_self ..);have e:s.fi=a:=by
   obtain⟨t,b,j,i⟩:=cv a (Int.le_refl _) (by lia);rcases mem_cons.mp b with rfl|b
   ·lia
   ·have:=p t b;have:=(hb t (mem_cons_of_mem _ b)).1;lia
  refine⟨e▸d,?_⟩;refine Jd3 r (a+s.le) N (fun t b=>hp t (mem_cons_of_mem _ b)) (fun t b=>?_) o q (fun x v n=>?_) (by lia)
  ·obtain⟨w,m⟩:=hb t (mem_cons_of_mem _ b);have:=(hp t (mem_cons_of_mem _ b)).le;rcases u t b with z|z
   ·exact⟨by lia,m⟩
   ·exact⟨by lia,m⟩
  ·obtain⟨t,b,j,i⟩:=cv x (by lia) n;rcases mem_cons.mp b with rfl|b
   ·lia
   ·exact⟨t,b,j,i⟩
noncomputable def jb(o t:Sr):Int:=if t.fi>o.la then t.fi else o.la
noncomputable def je(o t:Sr):Int:=if t.fi+t.le<o.la+o.le then t.fi+t.le else o.la+o.le
noncomputable def J1k(o t:Sr):Sr:=⟨o.fi+(if o.tu=true then o.la+o.le-je o t else jb o t-o.la),je o t-jb o t,t.la+(if t.tu=true then t.fi+t.le-je o t else jb o t-t.fi),(o.tu != t.tu)&&decide (1<je o t-jb o t)⟩
noncomputable def J3b(o t:Sr):List Sr:=if je o t<=jb o t then [] else [J1k o t]
theorem Jki(o t:Sr):o.la<=jb o t/\t.fi<=jb o t/\je o t<=o.la+o.le/\je o t<=t.fi+t.le:=by
 unfold jb je
 grind
theorem j_in(d:o.la<=v)(c:v<o.la+o.le)(b:t.fi<=v)(a:v<t.fi+t.le):jb o t<=v/\v<je o t:=by
 unfold jb je;refine⟨?_,?_⟩ <;> split <;> lia
theorem Pc.image(p:Pc g a s)(c:a<=x)(b:x<a+s.le):s.la<=g x/\g x<s.la+s.le:=by
 cases t:s.tu with
 | true =>
  have:=p.dn t (x-a) (by lia) (by lia);rw[show a+(x-a)=x by lia] at this;lia
 | false =>
  have:=p.up t (x-a) (by lia) (by lia)
  grind
theorem J6m(po:Pc g o.fi o)(pt:Pc h t.fi t)(hb:jb o t<je o t):
  Pc (fun x=>h (g x)) (J1k o t).fi (J1k o t)/\o.fi<=(J1k o t).fi/\(J1k o t).fi+(J1k o t).le<=o.fi+o.le/\∀x,(J1k o t).fi<=x->x<(J1k o t).fi+(J1k o t).le->jb o t<=g x/\g x<je o t:=by
 obtain⟨p,n,m,l⟩:=Jki o t;unfold J1k;dsimp only;generalize jb o t=b at *;generalize je o t=e at *;have go:∀x,0<=x->x<e-b->g (o.fi+(if o.tu=true then o.la+o.le-e else b-o.la)+x)=if o.tu=true then e-1-x else b+x:=fun x d a=>by
  cases tu:o.tu with
  | true =>
   rw[if_pos rfl,if_pos rfl];have:=po.dn tu (o.la+o.le-e+x) (by lia) (by lia);rw[show o.fi+(o.la+o.le-e)+x=o.fi+(o.la+o.le-e+x) by lia,this];lia
  | false =>
   rw[if_neg (by decide),if_neg (by decide)];have:=po.up tu (b-o.la+x) (by lia) (by lia);rw[show o.fi+(b-o.la)+x=o.fi+(b-o.la+x) by lia,this];lia
 have f:∀v,b<=v->v<e->h v=if t.tu=true then t.la+t.le-1-(v-t.fi) else t.la+(v-t.fi):=fun v j i=>by
  cases tu:t.tu with
  | true =>
   rw[if_pos rfl];have:=pt.dn tu (v-t.fi) (by lia) (by lia);rw[show t.fi+(v-t.fi)=v by lia] at this;exact this
  | false =>
   rw[if_neg (by decide)];have:=pt.up tu (v-t.fi) (by lia) (by lia);rw[show t.fi+(v-t.fi)=v by lia] at this;exact this
 have val:∀x,0<=x->x<e-b->h (g (o.fi+(if o.tu=true then o.la+o.le-e else b-o.la)+x))=if (o.tu != t.tu)=true then t.la+(if t.tu=true then t.fi+t.le-e else b-t.fi)+(e-b)-1-x else t.la+(if t.tu=true then t.fi+t.le-e else b-t.fi)+x:=fun x d a=>by
  rw[go x d a,f _ (by split <;> lia) (by split <;> lia)];cases o.tu <;> cases t.tu <;> simp <;> lia
 refine⟨⟨rfl,by show 1<=e-b;lia,fun z=>?_,fun z x d a=>?_,fun z x d a=>?_⟩,?_,?_,fun x d a=>?_⟩
 ·have z:=z;rw[Bool.and_eq_true,decide_eq_true_iff] at z;exact z.2
 ·have z:=z;have a:x<e-b:=a;show h (g (o.fi+_+x))=_;rw[val x d a];by_cases c:(o.tu != t.tu)=true
  ·rw[if_pos c];rw[c,Bool.true_and,decide_eq_false_iff_not] at z;show _=t.la+(if t.tu=true then t.fi+t.le-e else b-t.fi)+x;lia
  ·rw[if_neg c]
 ·have z:=z;rw[Bool.and_eq_true] at z;have a:=a;show h (g (o.fi+_+x))=_;rw[val x d a,if_pos z.1]
 ·show o.fi<=o.fi+(if o.tu=true then o.la+o.le-e else b-o.la);split <;> lia
 ·show o.fi+(if o.tu=true then o.la+o.le-e else b-o.la)+(e-b)<=o.fi+o.le;split <;> lia
 ·have:=go (x-(o.fi+(if o.tu=true then o.la+o.le-e else b-o.la))) (by lia) (by lia);rw[show o.fi+(if o.tu=true then o.la+o.le-e else b-o.la)+(x-(o.fi+(if o.tu=true then o.la+o.le-e else b-o.la)))=x by lia] at this;rw[this];by_cases tu:o.tu=true
  ·rw[if_pos tu] at d a;rw[if_pos tu,if_pos tu];lia
  ·rw[if_neg tu] at d a;rw[if_neg tu,if_neg tu];lia
theorem Jkg{h:Int->Int}(po:Pc g o.fi o)(f:o.fi<=x)(d:x<o.fi+o.le)(m:t.fi<=g x)(l:g x<t.fi+t.le):jb o t<je o t/\(J1k o t).fi<=x/\x<(J1k o t).fi+(J1k o t).le:=by
 obtain⟨j,i⟩:=po.image f d;obtain⟨c,a⟩:=j_in j i m l;obtain⟨r,q,p,n⟩:=Jki o t;unfold J1k;dsimp only;generalize jb o t=b at *;generalize je o t=e at *;have:g x=if o.tu=true then o.la+o.le-1-(x-o.fi) else o.la+(x-o.fi):=by
  cases tu:o.tu with
  | true =>
   have:=po.dn tu (x-o.fi) (by lia) (by lia);rwa [show o.fi+(x-o.fi)=x by lia] at this
  | false =>
   have:=po.up tu (x-o.fi) (by lia) (by lia);rwa [show o.fi+(x-o.fi)=x by lia] at this
 rw[this] at c a;by_cases tu:o.tu=true
 ·rw[if_pos tu] at c a;rw[if_pos tu];exact⟨by lia,by lia,by lia⟩
 ·rw[if_neg tu] at c a;rw[if_neg tu];exact⟨by lia,by lia,by lia⟩
noncomputable def jn(os ts:List Sr):List Sr:=os.flatMap fun o=>ts.flatMap (J3b o)
theorem J6i :s∈J3b o t↔jb o t<je o t/\s=J1k o t:=by
 unfold J3b
 grind
theorem Jpt :s∈jn os ts↔∃o∈os,∃t∈ts,jb o t<je o t/\s=J1k o t:=by
 unfold jn;simp only[mem_flatMap,J6i]
theorem jn_rep(m:Rep g 0 os N)(q:Rep h 0 ts N)(inn:∀x,0<=x->x<N->0<=g x/\g x<N)(R:0<=N)(p:L.Perm (jn os ts))(srt:L.Pairwise (fun s t=>s.fi<=t.fi)):Rep (fun x=>h (g x)) 0 L N:=by
 have n:∀s∈jn os ts,∃o∈os,∃t∈ts,s=J1k o t/\Pc (fun x=>h (g x)) s.fi s/\o.fi<=s.fi/\s.fi+s.le<=o.fi+o.le/\∀x,s.fi<=x->x<s.fi+s.le->t.fi<=g x/\g x<t.fi+t.le:=fun s l=>by
  obtain⟨o,e,t,j,hb,rfl⟩:=Jpt.mp l;obtain⟨k1,k2,k3,w⟩:=J6m (m.all o e).1 (q.all t j).1 hb;obtain⟨b1,b2,b3,Z⟩:=Jki o t;exact⟨o,e,t,j,rfl,k1,k2,k3,fun x A z=>by have:=w x A z;lia⟩
 have G:(jn os ts).Pairwise (fun s t=>s.fi+s.le<=t.fi\/t.fi+t.le<=s.fi):=by
  unfold jn;rw[pairwise_flatMap];refine⟨fun o e=>?_,?_⟩
  ·rw[pairwise_flatMap];refine⟨fun t j=>?_,?_⟩
   ·unfold J3b;split
    ·exact .nil
    ·exact List.pairwise_singleton _ _
   ·refine q.pair.imp_of_mem fun {i f} E D F s l u y=>?_;obtain⟨v,rfl⟩:=J6i.mp l;obtain⟨r,rfl⟩:=J6i.mp y;obtain⟨k1,k2,k3,w⟩:=J6m (m.all o e).1 (q.all i E).1 v;obtain⟨H,K,J,B⟩:=J6m (m.all o e).1 (q.all f D).1 r;obtain⟨_,_,_,Y⟩:=Jki o i;obtain⟨_,I,_,_⟩:=Jki o f;have l1:=k1.le;have X:=H.le;rcases Int.lt_or_le (J1k o i).fi (J1k o f).fi with c|c
    ·rcases Int.lt_or_le (J1k o f).fi ((J1k o i).fi+(J1k o i).le) with d|d
     ·have W:=w (J1k o f).fi (by lia) d;have U:=B (J1k o f).fi (Int.le_refl _) (by lia);lia
     ·exact .inl d
    ·rcases Int.lt_or_le (J1k o i).fi ((J1k o f).fi+(J1k o f).le) with d|d
     ·have W:=w (J1k o i).fi (Int.le_refl _) (by lia);have U:=B (J1k o i).fi c d;lia
     ·exact .inr d
  ·refine m.pair.imp_of_mem fun {o1 C} E D F s l u y=>?_;obtain⟨i,O,l⟩:=mem_flatMap.mp l;obtain⟨f,M,y⟩:=mem_flatMap.mp y;obtain⟨v,rfl⟩:=J6i.mp l;obtain⟨r,rfl⟩:=J6i.mp y;obtain⟨k1,k2,k3,w⟩:=J6m (m.all o1 E).1 (q.all i O).1 v;obtain⟨H,K,J,B⟩:=J6m (m.all C D).1 (q.all f M).1 r;left;lia
 refine Jd3 L 0 N (fun s l=>?_) (fun s l=>?_) srt ?_ (fun x A z=>?_) R
 ·obtain⟨o,_,t,_,_,k,_⟩:=n s (p.mem_iff.mp l);exact k
 ·obtain⟨o,e,t,_,_,k,k2,k3,_⟩:=n s (p.mem_iff.mp l);have:=(m.all o e).2;lia
 ·exact(p.pairwise_iff (fun {a b} h=>h.symm)).mpr G
 ·obtain⟨o,e,o1,C⟩:=m.cover x A z;obtain⟨Q,P⟩:=inn x A z;obtain⟨t,j,i,f⟩:=q.cover (g x) Q P;obtain⟨T,I,S⟩:=Jkg (h:=h) (m.all o e).1 o1 C i f;exact⟨J1k o t,p.mem_iff.mpr (Jpt.mpr ⟨o,e,t,j,T,rfl⟩),I,S⟩
theorem Jko{α:Type}(p:α->Prop)[DecidablePred p]:∀(L:List α),L.Pairwise (fun a b=>¬ (p a/\p b))->(L.map fun a=>if p a then 1 else 0).sum<=1
 | [],_=>by simp
 | a::r,h=>by
  obtain⟨e,d⟩:=pairwise_cons.mp h;rw[map_cons,sum_cons];by_cases c:p a
  ·have:(r.map fun a=>if p a then 1 else 0).sum=0:=by
    have:(r.map fun a=>if p a then 1 else 0)=r.map fun _=>0:=map_congr_left fun b hb=>if_neg fun z=>e b hb ⟨c,z⟩;rw[this];clear this h e d
    induction r with
    | nil=>rfl
    | cons b r ih=>rw[map_cons,sum_cons,ih]
   rw[if_pos c,this];lia
  ·have:=Jko p r d;rw[if_neg c];lia
theorem Jaj{α:Type}(f g:α->Nat):∀L:List α,(L.map fun a=>f a+g a).sum=(L.map f).sum+(L.map g).sum
 | []=>rfl
 | a::r=>by simp only[map_cons,sum_cons,Jaj f g r];lia
theorem Jey{α β:Type}(f:α->β->Nat)(ys:List β):∀xs:List α,(xs.map fun a=>(ys.map fun b=>f a b).sum).sum=(ys.map fun b=>(xs.map fun a=>f a b).sum).sum
 | []=>by
  have:∀ys:List β,(ys.map fun _=>([]:List Nat).sum).sum=0:=fun ys=>by
   induction ys with
   | nil=>rfl
   | cons b r ih=>rw[map_cons,sum_cons,ih];rfl
  exact(this ys).symm
 | a::r=>by
  rw[map_cons,sum_cons,Jey f ys r,<- Jaj]
  congr 1
theorem J65{α:Type}{f g:α->Nat}:∀{L:List α},(∀a∈L,f a<=g a)->(L.map f).sum<=(L.map g).sum
 | [],_=>Nat.le_refl _
 | a::r,h=>by
  rw[map_cons,sum_cons,map_cons,sum_cons];have:=h a (mem_cons_self ..);have:=J65 (L:=r) fun b hb=>h b (mem_cons_of_mem _ hb);lia
theorem Jai{α:Type}:∀L:List α,(L.map fun _=>1).sum=L.length
 | []=>rfl
 | a::r=>by rw[map_cons,sum_cons,Jai r,length_cons];lia
theorem Jpx(a:Rep g 0 os N)(p:Rep h 0 ts N)(inj:∀x y,0<=x->x<N->0<=y->y<N->g x=g y->x=y):(jn os ts).length<=os.length+ts.length:=by
 have e:(jn os ts).length=(os.map fun o=>(ts.map fun t=>(J3b o t).length).sum).sum:=by
  unfold jn;rw[List.length_flatMap]
  congr 1
  refine map_congr_left fun o _=>?_;rw[List.length_flatMap]
 have b:∀o t:Sr,(J3b o t).length<=(if t.fi<=o.la/\o.la<t.fi+t.le then 1 else 0)+(if o.la<t.fi/\t.fi<o.la+o.le then 1 else 0):=fun o t=>by
  unfold J3b;split
  ·simp
  ·rename_i c;show 1<=_;have c:jb o t<je o t:=by lia
   unfold jb je at c;by_cases d:t.fi>o.la
   ·rw[if_pos d] at c;have:o.la<t.fi/\t.fi<o.la+o.le:=⟨d,by split at c <;> lia⟩;rw[if_pos this];lia
   ·rw[if_neg d] at c;have:t.fi<=o.la/\o.la<t.fi+t.le:=⟨by lia,by split at c <;> lia⟩;rw[if_pos this];lia
 rw[e];have q:(os.map fun o=>(ts.map fun t=>(J3b o t).length).sum).sum<=(os.map fun o=>(ts.map fun t=>if t.fi<=o.la/\o.la<t.fi+t.le then 1 else 0).sum+(ts.map fun t=>if o.la<t.fi/\t.fi<o.la+o.le then 1 else 0).sum).sum:=
  J65 fun o _=>by rw[<- Jaj];exact J65 fun t _=>b o t
 rw[Jaj] at q;have I:(os.map fun o=>(ts.map fun t=>if t.fi<=o.la/\o.la<t.fi+t.le then 1 else 0).sum).sum<=os.length:=by
  rw[<- Jai os];refine J65 fun o _=>Jko (fun t=>t.fi<=o.la/\o.la<t.fi+t.le) ts (p.pair.imp fun {C B} f z=>?_);lia
 have H:(os.map fun o=>(ts.map fun t=>if o.la<t.fi/\t.fi<o.la+o.le then 1 else 0).sum).sum<=ts.length:=by
  rw[Jey,<- Jai ts];refine J65 fun t _=>Jko (fun o=>o.la<t.fi/\t.fi<o.la+o.le) os (a.pair.imp_of_mem fun {o1 l} n m f z=>?_);obtain⟨j,G,F⟩:=a.all o1 n;obtain⟨i,E,D⟩:=a.all l m;obtain⟨x,A,w,ex⟩:=j.hit (v:=t.fi) (by lia) (by lia);obtain⟨y,u,s,r⟩:=i.hit (v:=t.fi) (by lia) (by lia);have:=inj x y (by lia) (by lia) (by lia) (by lia) (by rw[ex,r]);lia
 lia
structure Bij(N:Int)(g k:Int->Int):Prop where
 inn:∀x,0<=x->x<N->0<=g x/\g x<N
 ink:∀x,0<=x->x<N->0<=k x/\k x<N
 kg:∀x,0<=x->x<N->k (g x)=x
 gk:∀x,0<=x->x<N->g (k x)=x
theorem Bij.inj(b:Bij N g k):∀x y,0<=x->x<N->0<=y->y<N->g x=g y->x=y:=fun x y f d c a e=>by
 rw[<- b.kg x f d,<- b.kg y c a,e]
theorem Bij.comp(a : Bij N g k)(b : Bij N h l): Bij N (fun x => h (g x)) (fun x => k (l x)):=
  ⟨fun x d c => let ⟨i, j⟩:= a.inn x d c; b.inn _ i j, fun x d c => let ⟨i, j⟩:= b.ink x d c; a.ink _ i j,
   fun x d c => by obtain⟨i, j⟩:= a.inn x d c; rw[b.kg _ i j, a.kg x d c],
   fun x d c => by obtain⟨i, j⟩:= b.ink x d c; rw[a.gk _ i j, b.gk x d c]⟩
noncomputable def kL(ls:List Int)(os:List Nat)(ts:List Bool)(y:Int):Int:=by
 classical exact if h:∃x,(0<=x/\x<ls.sum)/\gL ls os ts x=y then h.choose else 0
theorem gL_sur(O:Ord ls os)(c:0<=y)(b:y<ls.sum):∃x,(0<=x/\x<ls.sum)/\gL ls os ts x=y:=by
 obtain⟨j,q⟩:=O.exists c b;have m:=Jcg (gs:=firsts ls (List.range ls.length)) (ts:=ts) q;obtain⟨a,d⟩:=m;have i:=O.range.inside a;refine⟨_,i,?_⟩;rw[Jco O a];exact d
theorem J5e(O:Ord ls os):Bij ls.sum (gL ls os ts) (kL ls os ts):=by
 have sp:∀y,0<=y->y<ls.sum->(0<=kL ls os ts y/\kL ls os ts y<ls.sum)/\gL ls os ts (kL ls os ts y)=y:=fun y e d=>by
  have h:=gL_sur (ts:=ts) O e d;unfold kL;rw[dif_pos h];exact h.choose_spec
 refine⟨fun x g f=>gL_in O g f,fun y e d=>(sp y e d).1,fun x g f=>?_,fun y e d=>(sp y e d).2⟩;obtain⟨i,j⟩:=gL_in (ts:=ts) O g f;obtain⟨⟨a,b⟩,c⟩:=sp _ i j;exact gL_inj O a b g f c
structure PlG(g:Int->Int)(N:Int)(ls:List Int)(os:List Nat)(ts:List Bool):Prop where
 ex:∃L,RepS g 0 L N/\ls=L.map Sr.le/\ts=L.map Sr.tu/\PlO L os
theorem PlG.ord(h:PlG g N ls os ts):Ord ls os:=by
 obtain⟨L,R,rfl,rfl,P⟩:=h.ex;exact R.ord P.perm
theorem PlG.len(h:PlG g N ls os ts):ts.length=ls.length:=by
 obtain⟨L,R,rfl,rfl,P⟩:=h.ex;rw[length_map,length_map]
theorem PlG.sum(h:PlG g N ls os ts):ls.sum=N:=by
 obtain⟨L,R,rfl,rfl,P⟩:=h.ex;have:=R.tot;lia
theorem PlG.goes(h:PlG g N ls os ts)(b:Bij N g k):∀x,0<=x->x<N->gL ls os ts x=g x:=by
 have O:=h.ord;obtain⟨L,R,rfl,rfl,P⟩:=h.ex;have a:=J87 (ts:=L.map Sr.tu) O;rw[R.own b.inj b.inn P.perm P.srt] at a;exact fun x d c=>((R.rep.val a).2 x d c).symm
theorem Jkh(a:Bij N g k)(e:Bij N h l)(c:Rep g 0 os N)(b:Rep h 0 ts N)(d:0<=N)(p:L.Perm (jn os ts))(srt:L.Pairwise (fun s t=>s.fi<=t.fi)):RepS (fun x=>h (g x)) 0 (lgst L) N:=
 Jog (a.comp e).inj (jn_rep c b a.inn d p srt)
end Rl
namespace L2
open PySem PyProof.Rows
theorem Js2{K:Frag}(xs:List V)(F:Nat->V)(h:SqT K H1 a xs)(z:xs.length<=sizeLine)(hd:H1 d=none)(s:∀(i:Nat) (H:Hp) (p:VK) (v:V),xs[i]?=some v->Same H1 H->(∀f,Same H f->p (F i) f)->te (some v::capv σ js) H p)(r:∀f,Same H1 f->f d=some (.lst ((List.range xs.length).map F))->Q (.ref d) f):LCW (Itt K a) tYes te σ js Q H1 d:=by
 have s0:∀o,Same H1 (upd H1 d o):=fun o b u e=>by rw[Jh (Jb e hd)];exact e
 refine⟨fun i m ys H=>m=xs.length-i/\i<=xs.length/\ys=(List.range i).map F/\Same H1 H/\H d=some (.lst ys),⟨xs.length,rfl,Nat.zero_le _,rfl,s0 _,J7⟩,?_⟩;rintro i m ys y ⟨rfl,hi,rfl,c,l⟩;refine⟨l,?_⟩;by_cases g:i<xs.length
 ·refine .inr ⟨⟨_,_,c.tup h,gE g⟩,?_,fun v w q=>?_⟩
  ·rw[length_map,length_range];lia
  ·obtain⟨rfl,j⟩:=q;have j:=j _ (c.tup h);refine s i w _ v j c fun A n=>⟨n _ _ l,xs.length-(i+1),by lia,rfl,g,?_,?_,J7⟩
   ·rw[range_succ,map_append];rfl
   ·intro b u e;rw[Jh (Jb e hd)];exact n _ _ (c _ _ e)
 ·have e:i=xs.length:=by lia
  subst e;exact .inl ⟨⟨_,c.tup h,Nat.le_refl _⟩,r y c l⟩
end L2
namespace L2
open PySem PySem.Spec PyProof.Rows
noncomputable def LCW2(K:Frag)(J:It)(l:TT)(j:TE)(σ:St)(js:List Nat)(Q:VK)(n:Hp)(d:Addr):Prop:=∃W:Nat->Nat->List V->Hp->Prop,(∃m,W 0 m [] (upd n d (.lst [])))/\
 ∀i m ys c,W i m ys c->c d=some (.lst ys)/\((J.stop i c/\Q (.ref d) c)\/(J.go i c/\ys.length<sizeLine/\∀v f,J.yld i c v f->
  ∃p a b,v=.ref p/\SqT K f p [a,b]/\l (some a::some b::capv σ js) f fun bb h=>if bb=true then j (some a::some b::capv σ js) h fun y g=>g d=some (.lst ys)/\∃e,e<m/\W (i+1) e (ys++[y]) (upd g d (.lst (ys++[y])))
   else ∃e,e<m/\W (i+1) e ys h))
noncomputable def tLC2(K:Frag)(b:TI)(e:TT)(c:TE)(js:List Nat):TE:=fun σ H Q=>b σ H fun J a=>∀d,a d=none->LCW2 K J e c σ js Q a d
section
variable{X:Cx}{elt iter:Expr}{ifs:List Expr}{x y z:Str}{px py pz tp:Pos}{kk:Nat}{scope:Scope}{cl:List (Str×Addr)}{pos spos:Pos}{wi:TI}{tc:TT}{te:TE}{caps:List Str}{js:List Nat}{i:Nat}
theorem Jhq(S:X.calm=true)(hp:PI X (.Tuple [.Name x px,.Name z pz] kk tp) iter wi)(he:∀(C:Addr) (u:List Addr) (s:Shared) (H:Hp),PE (X.block (x::z::caps) scope cl C u s H) elt te)(ht:∀(C:Addr) (u:List Addr) (s:Shared) (H:Hp),PTs (X.block (x::z::caps) scope cl C u s H) ifs tc)(q:∀p∈scope.names,p.2≠.cell)(e:∀p∈scope.names,p.2=.local->scope.names.lookup p.1=some .local)(F:(x::z::caps).Nodup)(E:∀p∈cl,X.env.cells.lookup p.1=some p.2)(L:∀p∈scope.names,p.2=.free->∃c,cl.lookup p.1=some c)(G:caps.length=js.length)(r:∀(k:Nat) (c:Str),caps[k]?=some c->∃(j:Nat) (a:Addr),js[k]?=some j/\X.N[j]?=some c/\X.env.scope.names.lookup c=some .cell/\cl.lookup c=some a/\(relabel scope X.env).names.lookup c=some .cell)(l:closureFor scope X.env=pure cl)(f:scope.kind=.function)(hx:scope.names.lookup x=some .local)(O:scope.names.lookup z=some .local)(hs:∀v,foldedSetIterable iter X.env v=pure v)(I:Inv X pins σ H s)(h:tLC2 X.K wi tc te js σ H Q)(fin:∀(d:Addr) (R:Hp) (M:Shared) (C:Addr),Inv X pins σ R M->Q (.ref d) R->(∃m,M.heap.Ns C m)->FpOk X pins R C->compPost (model X.prog X.w) X.A X.xe use QV (.ref d) C (.ok .next) M):
  wpAny (model X.prog X.w) X.A (comprehension (.ListComp elt [⟨.Tuple [.Name x px,.Name z pz] kk tp,iter,ifs,0⟩] scope pos) scope X.env p0 (newList []) false (eval iter X.env) use) QV X.xe s:=by
 have D:(relabel scope X.env).names.lookup x=some .local:=lookup_relabel_local hx;have B:(relabel scope X.env).names.lookup z=some .local:=lookup_relabel_local O;refine J5f (g:=gTup X.K 2 (Jks (J8r 0) (Jks (J8r 1) gNil))) (xr:=[z]) S hp (fun C u s H=>J9v (X:=X.block (x::z::caps) scope cl C u s H) (pos:=tp) (k:=kk) (n:=2) S
  (J2b (J5q (X:=X.block (x::z::caps) scope cl C u s H) (i:=0) (pos:=px) F rfl (.inl D) (.inr D))
   (J2b (J5q (X:=X.block (x::z::caps) scope cl C u s H) (i:=1) (pos:=pz) F rfl (.inl B) (.inr B)) J71)) rfl rfl) he ht q e E L G r l f hs I h (fun J H1 hL d hd=>?_) fin
 obtain⟨W,Y,T⟩:=hL d hd;refine⟨W,Y,fun i m ys U w=>⟨(T i m ys U w).1,(T i m ys U w).2.imp id fun⟨go,hz,st⟩=>⟨go,hz,fun v H3 y Z P=>?_⟩⟩⟩;obtain⟨p,a,b,rfl,sq,st⟩:=st v H3 y
 match Z,P with
 | [o,o2],_=>exact⟨p,[a,b],rfl,sq,rfl,a,[b],rfl,b,[],rfl,rfl,[some a,some b],rfl,rfl,st⟩
theorem pe_lc2(L:X.calm=true)(G:PI X (.Tuple [.Name x px,.Name z pz] kk tp) iter wi)(i:closureFor scope X.env=pure cl)(E:∀(C:Addr) (c:List Addr) (s:Shared) (H:Hp),PTs (X.block (x::z::caps) scope cl C c s H) ifs tc)(J:∀(C:Addr) (c:List Addr) (s:Shared) (H:Hp),PE (X.block (x::z::caps) scope cl C c s H) elt te)(j:∀p∈scope.names,p.2≠.cell:=by decide +kernel)(a:∀p∈scope.names,p.2=.local->scope.names.lookup p.1=some .local:=by decide +kernel)(A:(x::z::caps).Nodup:=by decide +kernel)(n:∀p∈cl,X.env.cells.lookup p.1=some p.2:=by repeat (first|exact forall_mem_nil _|refine forall_mem_cons.mpr ⟨rfl,?_⟩))(r:J3n scope cl=true:=by rfl)(f:caps.length=js.length:=by rfl)(l:J4m X scope cl caps js=true:=by rfl)(g:scope.kind=.function:=by rfl)(D:scope.names.lookup x=some .local:=by rfl)(w:scope.names.lookup z=some .local:=by rfl)(F:∀v,foldedSetIterable iter X.env v=pure v:=by intro _;rfl):
  PE X (.ListComp elt [⟨.Tuple [.Name x px,.Name z pz] kk tp,iter,ifs,0⟩] scope pos) (tLC2 X.K wi tc te js):=by
 intro pins s σ H Q I h;rw[eval_ListComp];refine Jhq (use:=none) L G J E j a A n (J3n.get r) f (J4m.get f l) i g D w F I h fun d O B C N q M c=>?_;obtain⟨m,u⟩:=M;exact⟨m,u,fun h' y=>⟨.ref d,O,N.turned (h':=h') (t':=B.toks) (it:=C) (fun b o hb e=>(y.2 b hb).trans e) c.1 c.2.1 c.2.2.2.1 c.2.2.2.2.1 c.2.2.2.2.2,rfl,q⟩⟩
end
section
variable{K:Frag}{a:Addr}{H1:Hp}{tc:TT}{te:TE}{σ:St}{js:List Nat}{Q:VK}{d:Addr}
theorem Joi(xs:List V)(r:Hp->Addr->Nat->Prop)(z:SqT K H1 a xs)(J:xs.length<=sizeLine)(hd:H1 d=none)(mono:∀H c q i,Jp2 d H c->q≠d->r H q i->r c q i)(I:∀(i:Nat) (v:V),xs[i]?=some v->∀H D,Same H1 H->(∃ys,H d=some (.lst ys))->(∀q c,Same H c->q≠d->r c q i->D (.ref q) c)->te (some (.int (i:Nat))::some v::capv σ js) H D)(F:∀ys c,Same H1 c->c d=some (.lst ys)->Refs (fun q i=>r c q i) ys xs.length->Q (.ref d) c):LCW2 K (Ite K a) tYes te σ js Q H1 d:=by
 have s0:∀o,Same H1 (upd H1 d o):=fun o b u e=>by rw[Jh (Jb e hd)];exact e
 refine⟨fun i m ys H=>m=xs.length-i/\i<=xs.length/\Same H1 H/\H d=some (.lst ys)/\Refs (fun q i=>q≠d/\r H q i) ys i,⟨_,rfl,Nat.zero_le _,s0 _,J7,Refs.nil⟩,?_⟩;rintro i m ys C ⟨rfl,hi,f,s,y⟩;refine⟨s,?_⟩;by_cases l:i<xs.length
 ·refine .inr ⟨⟨_,_,f.tup z,gE l⟩,by rw[y.len];lia,fun v M E=>?_⟩;obtain⟨p,x,rfl,G,rfl,A⟩:=E;have A:=A _ (f.tup z);have g:Same C (upd C p (.tup [.int (i:Int),x])):=fun b u e=>by rw[Jh (Jb e G)];exact e
  refine⟨p,_,_,rfl,SqT.of J7,?_⟩;unfold tYes;dsimp only;rw[if_pos rfl];refine I i x A _ _ (f.trans g) ⟨_,g _ _ s⟩ fun q L w h B=>⟨w _ _ (g _ _ s),xs.length-(i+1),by lia,rfl,l,?_,J7,?_⟩
  ·intro b u e;rw[Jh (Jb e hd)];exact w _ _ (g _ _ (f _ _ e))
  ·have kd:∀H,Jp2 d H (upd H d (.lst (ys++[.ref q]))):=fun H b o e n=>by rw[Jh n];exact e
   refine(y.mono fun a j _ x=>⟨x.1,?_⟩).snoc ⟨h,mono _ _ _ _ (kd _) h B⟩;exact mono _ _ _ _ (fun b o e n=>kd _ _ _ (w _ _ (g _ _ e)) n) x.1 x.2
 ·have e:i=xs.length:=by lia
  subst e;exact .inl ⟨⟨_,f.tup z,Nat.le_refl _⟩,F ys C f s (y.mono fun _ _ _ x=>x.2)⟩
end
end L2
namespace Rl
noncomputable def posR(ls:List Int)(row:List Nat)(j:Nat):Int:=J2 ls (row.take (row.idxOf j))
theorem J2y(ls:List Int)(j:Nat)(ys:List Nat):posR ls (j::ys) j=0:=by
 unfold posR;rw[List.idxOf_cons_self];rfl
theorem Jv(ls:List Int)(h:i≠j)(ys:List Nat):posR ls (i::ys) j=ls.getD i 0+posR ls ys j:=by
 unfold posR;have a:(i==j)=false:=by simpa using h
 rw[List.idxOf_cons,a];show J2 ls ((i::ys).take (ys.idxOf j+1))=_;rw[List.take_succ_cons,Jn]
theorem Jz(ls:List Int)(ys:List Nat)(h:j ∉ xs):posR ls (xs++ys) j=J2 ls xs+posR ls ys j:=by
 induction xs with
 | nil=>rw[nil_append,J22,Int.zero_add]
 | cons a r ih =>
  rw[cons_append,Jv _ (fun e=>h (by rw[e];exact mem_cons_self)),ih fun q=>h (mem_cons_of_mem _ q),Jn];lia
theorem Jy(ls:List Int)(ys:List Nat)(h:j∈xs):posR ls (xs++ys) j=posR ls xs j:=by
 induction xs with
 | nil=>cases h
 | cons a r ih =>
  by_cases e:a=j
  ·subst e;rw[cons_append,J2y,J2y]
  ·rw[cons_append,Jv _ e,Jv _ e,ih ((mem_cons.mp h).resolve_left fun q=>e q.symm)]
theorem Jw(ls:List Int)(ys:List Nat)(h:j ∉ xs):posR ls (xs++j::ys) j=J2 ls xs:=by
 rw[Jz _ _ h,J2y,Int.add_zero]
theorem J8e(h:∀j∈row,0<=ls.getD j 0)(j:Nat):0<=posR ls row j:=J17 fun i hi=>h i (mem_of_mem_take hi)
theorem J5p(h:∀j∈row,0<=ls.getD j 0)(b:j∈row):posR ls row j+ls.getD j 0<=J2 ls row:=by
 obtain⟨s,t,rfl,c⟩:∃s t,row=s++j::t/\j ∉ s:=by
  induction row with
  | nil=>cases b
  | cons a r ih =>
   by_cases e:a=j
   ·exact⟨[],r,by rw[e];rfl,by simp⟩
   ·obtain⟨s,t,f,d⟩:=ih (fun j b=>h j (mem_cons_of_mem _ b)) ((mem_cons.mp b).resolve_left fun q=>e q.symm);exact⟨a::s,t,by rw[f];rfl,fun q=>(mem_cons.mp q).elim (fun q=>e q.symm) d⟩
 rw[Jw _ _ c,Jg,Jn];have:=J17 (ls:=ls) (os:=t) fun i hi=>h i (mem_append_right _ (mem_cons_of_mem _ hi));lia
theorem J66{row:List Nat}(b:j∈row):∃s t,row=s++j::t/\j ∉ s:=by
 induction row with
 | nil=>cases b
 | cons a r ih =>
  by_cases e:a=j
  ·exact⟨[],r,by rw[e];rfl,by simp⟩
  ·obtain⟨s,t,d,c⟩:=ih ((mem_cons.mp b).resolve_left fun q=>e q.symm);exact⟨a::s,t,by rw[d];rfl,fun q=>(mem_cons.mp q).elim (fun q=>e q.symm) c⟩
theorem J4u(ls:List Int)(nd:row.Nodup)(hi:i<row.length):posR ls row (row.getD i 0)=Jq ls row i:=by
 have e:row.idxOf (row.getD i 0)=i:=by
  simp_all
 unfold posR;rw[e,J4l ls row i (by lia)];rfl
noncomputable def J10(r:Rst)(y:Int)(j:Nat)(o:Int):Prop:=j∈r.top/\0<=o/\o<r.ls.getD j 0/\y=posR r.ls r.top j+o
noncomputable def offT(r:Rst)(j:Nat)(o:Int):Int:=if r.ts.getD j false=true then r.ls.getD j 0-1-o else o
theorem J10.off(h:J10 r y j o):0<=offT r j o/\offT r j o<r.ls.getD j 0:=by
 obtain⟨_,b,a,_⟩:=h;unfold offT;grind
theorem J10.of_at(h:r.Ok)(a:AtR r.ls r.top y i):J10 r y (r.top.getD i 0) (y-Jq r.ls r.top i):=by
 obtain⟨b,d,c⟩:=a;rw[J16] at c;exact⟨J28 b,by lia,by lia,by rw[J4u _ h.row.nd b];lia⟩
theorem J10.at_(h:r.Ok)(a:J10 r y j o):∃i,AtR r.ls r.top y i/\r.top.getD i 0=j/\y-Jq r.ls r.top i=o:=by
 obtain⟨b,d,c,rfl⟩:=a;obtain⟨i,hi,rfl⟩:=Jfy b;rw[J4u _ h.row.nd hi];refine⟨i,⟨hi,by lia,by rw[J16];lia⟩,rfl,by lia⟩
theorem J10.same(h:r.Ok)(a:J10 r y j o)(b:J10 r y j' o'):j=j'/\o=o':=by
 obtain⟨i,d,rfl,rfl⟩:=a.at_ h;obtain⟨e,c,rfl,rfl⟩:=b.at_ h;obtain rfl:=h.row.unique d c;exact⟨rfl,rfl⟩
theorem Rst.Ok.letAt(h:r.Ok)(b:0<=y)(a:y<r.size):∃j o,J10 r y j o:=by
 obtain⟨i,hi⟩:=h.row.exists b a;exact⟨_,_,J10.of_at h hi⟩
theorem J10.inside(h:r.Ok)(a:J10 r y j o):0<=y/\y<r.size:=by
 obtain⟨i,b,_⟩:=a.at_ h;exact h.row.inside b
theorem J7z(h:r.Ok):J36 r y z↔∃j o,J10 r y j o/\z=posR r.ls r.bot j+offT r j o:=by
 have b:∀j,j∈r.top->(firsts r.ls r.bot).getD j 0=posR r.ls r.bot j:=fun j e=>by
  obtain⟨k,c,rfl⟩:=Jfy (h.perm.mem_iff.mpr e);rw[h.rowB.first c,J4u _ h.rowB.nd c]
 constructor
 ·rintro⟨i,hi,rfl⟩;refine⟨_,_,J10.of_at h hi,?_⟩;unfold J4f offT;rw[b _ (J28 hi.1)];split <;> lia
 ·rintro⟨j,o,a,rfl⟩;obtain⟨i,d,rfl,rfl⟩:=a.at_ h;refine⟨i,d,?_⟩;unfold J4f offT;rw[b _ (J28 d.1)];split <;> lia
open Classical in
noncomputable def go(r:Rst)(y:Int):Int:=if h:∃z,J36 r y z then Classical.choose h else y
theorem go_of(h:r.Ok)(g:J36 r y z):go r y=z:=by
 unfold go;rw[dif_pos ⟨z,g⟩];exact h.fun_ (Classical.choose_spec ⟨z,g⟩) g
theorem Js9(h:r.Ok)(b:0<=y)(a:y<r.size):J36 r y (go r y):=by
 obtain⟨z,g⟩:=h.there b a;rw[go_of h g];exact g
theorem J2f(h:r.Ok)(a:J10 r y j o):go r y=posR r.ls r.bot j+offT r j o:=go_of h ((J7z h).mpr ⟨j,o,a,rfl⟩)
theorem go_in(h:r.Ok)(b:0<=y)(a:y<r.size):0<=go r y/\go r y<r.size:=h.stays (Js9 h b a)
theorem go_inj(h:r.Ok)(d:0<=y)(c:y<r.size)(k0:0<=z)(k1:z<r.size)(e:go r y=go r z):y=z:=by
 have a:=Js9 h d c;have b:=Js9 h k0 k1;rw[e] at a;exact h.inj a b
theorem J7r(e:row=X++w::(Y++[l]))(nd:row.Nodup)(a:Bool):putR row w l a=X++(if a=true then l::w::Y else w::l::Y):=by
 subst e;have j:X++w::(Y++[l])=(X++w::Y)++[l]:=by simp
 rw[j] at nd ⊢;have b:=nodup_append.mp nd;have h:=nodup_append.mp b.1;have c:=fun q=>h.2.2 w q w mem_cons_self rfl;have i:=fun q=>b.2.2 l q l (by simp) rfl;have d:withoutR (X++w::Y++[l]) l=X++w::Y:=by
  rw[J1m,J1v,append_nil];exact J1l i
 unfold putR;rw[d,J8q Y c];have g:(X++w::Y).take (X.length+1)=X++[w]:=by
  rw[show X++w::Y=(X++[w])++Y by simp,show X.length+1=(X++[w]).length by simp,List.take_left]
 have f:(X++w::Y).drop (X.length+1)=Y:=by
  simp
 cases a with
 | true=>simp
 | false=>rw[ if_neg (by decide),g,f];simp
theorem J4k(h:w ∉ X):J6 (X++w::Y) w=Y:=by
 unfold J6;rw[J8q Y h,show X++w::Y=(X++[w])++Y by simp,show X.length+1=(X++[w]).length by simp,drop_left]
theorem J1c(ne:row≠[]):∃D,row=D++[row.getD (row.length-1) 0]:=⟨_,J9q ne⟩
theorem J7v(ne:row≠[])(f:a∈row)(d:row.getD (row.length-1) 0≠a):∃X Y,row=X++a::(Y++[row.getD (row.length-1) 0])/\a ∉ X:=by
 obtain⟨D,e⟩:=J1c ne;generalize row.getD (row.length-1) 0=b at *;subst e;have c:=(mem_append.mp f).resolve_right fun q=>d (mem_singleton.mp q).symm;obtain⟨X,Y,rfl,g⟩:=J66 c;exact⟨X,Y,by simp,g⟩
theorem J11(ls:List Int)(v:Int)(h:a ∉ row)(j:Nat):posR (ls.set a v) row j=posR ls row j:=Jk _ _ fun q=>h (mem_of_mem_take q)
theorem J2a(ls:List Int)(v:Int)(h:a ∉ T)(b:j∈T++[a]):posR (ls.set a v) (T++[a]) j=posR ls (T++[a]) j:=by
 by_cases c:j∈T
 ·rw[Jy _ _ c,Jy _ _ c,J11 _ _ h]
 ·obtain rfl:j=a:=by simpa [c] using b
  rw[Jw _ _ c,Jw _ _ c,Jk _ _ c]
noncomputable def LoseP(r l:Rst)(y:Int)(j:Nat):Stp->Prop
 | .home _=>False
 | .even w _=>(∃o',J10 r y j o')/\l.size<=go r y/\(∃o',J10 r (go r y) w o')/\go r (go r y)=go l y
 | .over w _=>(∃o',J10 r y j o')/\l.size<=go r y/\(∃o',J10 r (go r y) w o')/\go r (go r y)=go l y
 | .under w _=>(∃o',J10 r y w o')/\l.size<=go r y/\(∃o',J10 r (go r y) j o')/\go r (go r y)=go l y
 | .overs w t=>(∃o',J10 r y j o')/\(∀k:Int,0<=k->k<t->l.size<=go r y-k*J2 r.ls (J6 r.bot w)/\(∃o',J10 r (go r y-k*J2 r.ls (J6 r.bot w)) w o')/\
   go r (go r y-k*J2 r.ls (J6 r.bot w))=go r y-k*J2 r.ls (J6 r.bot w)-J2 r.ls (J6 r.bot w))/\go r y-t*J2 r.ls (J6 r.bot w)=go l y
 | .unders w t=>(∀k:Int,0<=k->k<t->(∃o',J10 r (y+k*J2 r.ls (J6 r.top w)) w o')/\go r (y+k*J2 r.ls (J6 r.top w))=y+k*J2 r.ls (J6 r.top w)+J2 r.ls (J6 r.top w)/\
   l.size<=y+k*J2 r.ls (J6 r.top w)+J2 r.ls (J6 r.top w))/\(∃o',J10 r (y+t*J2 r.ls (J6 r.top w)) j o')/\go r (y+t*J2 r.ls (J6 r.top w))=go l y
structure J6u(r:Rst)(s:Stp):Prop where
 plain:∀y j o,J10 (s.behind r) y j o->j ∉ s.losers r->(∃o',J10 r y j o')/\go r y=go (s.behind r) y
 lose:∀y j o,J10 (s.behind r) y j o->j∈s.losers r->LoseP r (s.behind r) y j s
theorem J1t{T:List Nat}(h:(T++[a]).Nodup):a ∉ T:=fun q=>(nodup_append.mp h).2.2 a q a (by simp) rfl
theorem J7e{X:List Nat}(h:(X++a::Y).Nodup):a ∉ X/\a ∉ Y/\∀j∈X,j ∉ Y:=by
 have n:=nodup_append.mp h;have b:=nodup_cons.mp n.2.1;exact⟨fun q=>n.2.2 a q a mem_cons_self rfl,b.1,fun j c q=>n.2.2 j c j (mem_cons_of_mem _ q) rfl⟩
theorem J12(ls:List Int)(a:Nat):J2 ls [a]=ls.getD a 0:=by rw[Jn,J22,Int.add_zero]
theorem Jn3{r:Rst}(h:r.Ok)(ne:r.top≠[]){a:Nat}(n:J2t r (.home a))(okl:((Stp.home a).behind r).Ok):J6u r (.home a):=by
 obtain⟨z,w⟩:=n;have f:r.bot≠[]:=fun e=>ne (by have:=h.perm;rw[e] at this;exact this.symm.eq_nil);obtain⟨T,b⟩:=J1c ne;obtain⟨B,c⟩:=J1c f;have b:r.top=T++[a]:=by rw[z];exact b
 have c:r.bot=B++[a]:=by rw[w];exact c
 have l:=J1t (b▸h.row.nd);have s:=J1t (c▸h.rowB.nd);have la:=h.row.lt a (by rw[b];simp);refine⟨fun y j o A m=>?_,fun y j o A m=>nomatch m⟩;have lt:((Stp.home a).behind r).top=T:=by show withoutR r.top a=T;rw[b,J1m,J1v,append_nil,J1l l]
 have C:((Stp.home a).behind r).bot=B:=by show withoutR r.bot a=B;rw[c,J1m,J1v,append_nil,J1l s]
 have g:=J2f okl A;obtain⟨d,G,F,u⟩:=A;rw[lt] at d u;have i:j≠a:=fun e=>l (e▸d);have p:((Stp.home a).behind r).ls.getD j 0=r.ls.getD j 0:=by show(r.ls.set a 0).getD j 0=_;rw[Jx _ _ _ _ la,if_neg i]
 have E:((Stp.home a).behind r).ts.getD j false=r.ts.getD j false:=by show(r.ts.set a false).getD j false=_;rw[J2l _ _ _ _ (by rw[h.len];exact la),if_neg i]
 have D:j∈B:=by
  have:j∈r.bot:=h.perm.mem_iff.mpr (by rw[b];exact mem_append_left _ d);rw[c] at this;exact(mem_append.mp this).resolve_right fun q=>i (mem_singleton.mp q)
 have v:J10 r y j o:=by
  refine⟨by rw[b];exact mem_append_left _ d,G,by rw[<- p];exact F,?_⟩;rw[u,b,Jy _ _ d];show posR (r.ls.set a 0) T j+o=_;rw[J11 _ _ l]
 refine⟨⟨o,v⟩,?_⟩;rw[J2f h v,g,C,c,Jy _ _ D];show _=posR (r.ls.set a 0) B j+_;rw[J11 _ _ s];unfold offT;rw[p,E]
theorem Jn4(h:r.Ok)(ne:r.top≠[])(n:J2t r (.even a b))(okl:((Stp.even a b).behind r).Ok):J6u r (.even a b):=by
 obtain⟨U,K,B,S⟩:=n;have G:r.bot≠[]:=fun e=>ne (by have:=h.perm;rw[e] at this;exact this.symm.eq_nil);obtain⟨T,i⟩:=J1c ne;have i:r.top=T++[a]:=by rw[U];exact i
 have l:a∈r.top:=by rw[i];simp
 obtain⟨X,Y,f,D⟩:=J7v G (h.perm.mem_iff.mpr l) (fun e=>B (by rw[K];exact e.symm));have f:r.bot=X++a::(Y++[b]):=by rw[K];exact f
 have v:b∈r.top:=h.perm.mem_iff.mp (by rw[f];simp);have w:=J1t (i▸h.row.nd);have u:=f▸h.rowB.nd;obtain⟨_,J,XY⟩:=J7e u;have P:=fun q=>J (mem_append_left _ q);have O:=fun q=>XY b q (by simp);have bY:=J1t (nodup_cons.mp (nodup_append.mp u).2.1).2;have la:=h.row.lt a l;have H:=h.row.lt b v;have pb:=h.row.pos b v;have lt:((Stp.even a b).behind r).top=T:=by show withoutR r.top a=T;rw[i,J1m,J1v,append_nil,J1l w]
 have L:((Stp.even a b).behind r).bot=X++b::Y:=by
  show withoutR (putR r.bot a b false) a=_;rw[J7r f h.rowB.nd,if_neg (by decide),show X++a::b::Y=X++([a]++([b]++Y)) by simp,J1m,J1m,J1m,J1v,J1l D,J1l P,J1l (xs:=[b]) (by simpa using B)];simp
 have C:∀j,j≠a->((Stp.even a b).behind r).ls.getD j 0=r.ls.getD j 0:=fun j d=>by show(r.ls.set a 0).getD j 0=_;rw[Jx _ _ _ _ la,if_neg d]
 have N:∀j,j≠a->((Stp.even a b).behind r).ts.getD j false=if j=b then (r.ts.getD a false != r.ts.getD b false) else r.ts.getD j false:=fun j d=>by
  show((J2d r a b).set a false).getD j false=_;rw[J2l _ _ _ _ (by rw[J31,h.len];exact la),if_neg d];unfold J2d;rw[J2l _ _ _ _ (by rw[h.len];exact H)]
 have sz:r.size=J2 r.ls T+r.ls.getD a 0:=by show J2 r.ls r.top=_;rw[i,Jg,J12]
 have E:((Stp.even a b).behind r).size=J2 r.ls T:=by show J2 (r.ls.set a 0) ((Stp.even a b).behind r).top=_;rw[lt,Jk _ _ w]
 have R:r.size=J2 r.ls X+r.ls.getD a 0+J2 r.ls Y+r.ls.getD b 0:=by rw[<- h.sizeB,f,Jg,Jn,Jg,J12];lia
 have s:posR r.ls r.bot b=J2 r.ls X+r.ls.getD a 0+J2 r.ls Y:=by
  rw[f,Jz _ _ O,Jv _ B,Jw _ _ bY];lia
 have F:posR r.ls r.bot a=J2 r.ls X:=by rw[f,Jw _ _ D]
 have up:∀{y o:Int} {j:Nat},J10 ((Stp.even a b).behind r) y j o->j≠a/\j∈T/\J10 r y j o:=fun {y o j} A=>by
  obtain⟨z,A2,A3,Q⟩:=A;rw[lt] at z Q;have d:j≠a:=fun e=>w (e▸z);refine⟨d,z,by rw[i];exact mem_append_left _ z,A2,by rw[<- C j d];exact A3,?_⟩;rw[Q,i,Jy _ _ z];show posR (r.ls.set a 0) T j+o=_;rw[J11 _ _ w]
 have M:J2 ((Stp.even a b).behind r).ls X=J2 r.ls X:=Jk _ _ D;refine⟨fun y j o A I=>?_,fun y j o A I=>?_⟩
 ·have jb:j≠b:=fun e=>I (mem_singleton.mpr e);have g:=J2f okl A;obtain⟨d,Z,p⟩:=up A;refine⟨⟨o,p⟩,?_⟩;have eo:offT ((Stp.even a b).behind r) j o=offT r j o:=by unfold offT;rw[C j d,N j d,if_neg jb]
  rw[J2f h p,g,L,f,eo];have jB:j∈X++a::(Y++[b]):=by rw[<- f];exact h.perm.mem_iff.mpr p.1
  congr 1
  by_cases c:j∈X
  ·rw[Jy _ _ c,Jy _ _ c];show _=posR (r.ls.set a 0) X j;rw[J11 _ _ D]
  ·have W:j∈Y:=by simpa [c,d,jb] using jB
   rw[Jz _ _ c,Jz _ _ c,Jv _ (Ne.symm d),Jv _ (Ne.symm jb),Jy _ _ W,M,C b (Ne.symm B)];show _=_+(_+posR (r.ls.set a 0) Y j);rw[J11 _ _ P];lia
 ·cases mem_singleton.mp I;have g:=J2f okl A;obtain⟨d,Z,p⟩:=up A;have g':=J2f h p;have of:=p.off;have m:J10 r (go r y) a (offT r b o):=⟨l,of.1,by lia,by rw[g',s,i,Jw _ _ w];lia⟩;have g2:=J2f h m;refine⟨⟨o,p⟩,by rw[E,g',s];lia,⟨_,m⟩,?_⟩;rw[g2,g,L,F,Jw _ _ O,M]
  congr 1
  unfold offT;rw[C b d,N b d,if_pos rfl,S];cases r.ts.getD a false <;> cases r.ts.getD b false <;> simp <;> lia
theorem Jn2(h:r.Ok)(ne:r.top≠[])(n:J2t r (.over a b))(okl:((Stp.over a b).behind r).Ok):J6u r (.over a b):=by
 obtain⟨W,P,l,n4⟩:=n;have H:r.bot≠[]:=fun e=>ne (by have:=h.perm;rw[e] at this;exact this.symm.eq_nil);obtain⟨T,p⟩:=J1c ne;have p:r.top=T++[a]:=by rw[W];exact p
 have u:a∈r.top:=by rw[p];simp
 obtain⟨X,Y,i,F⟩:=J7v H (h.perm.mem_iff.mpr u) (fun e=>l (by rw[P];exact e.symm));have i:r.bot=X++a::(Y++[b]):=by rw[P];exact i
 have E:b∈r.top:=h.perm.mem_iff.mp (by rw[i];simp);have M:=J1t (p▸h.row.nd);have C:=i▸h.rowB.nd;obtain⟨_,L,XY⟩:=J7e C;have aY:=fun q=>L (mem_append_left _ q);have D:=fun q=>XY b q (by simp);have bY:=J1t (nodup_cons.mp (nodup_append.mp C).2.1).2;have la:=h.row.lt a u;have I:=h.row.lt b E;have pb:=h.row.pos b E;have lt:((Stp.over a b).behind r).top=T++[a]:=p;have Q:((Stp.over a b).behind r).bot=X++(if r.ts.getD a false=true then b::a::Y else a::b::Y):=J7r i h.rowB.nd _;have w:∀j,j≠a->((Stp.over a b).behind r).ls.getD j 0=r.ls.getD j 0:=fun j f=>by show(r.ls.set a _).getD j 0=_;rw[Jx _ _ _ _ la,if_neg f]
 have d:((Stp.over a b).behind r).ls.getD a 0=r.ls.getD a 0-r.ls.getD b 0:=by show(r.ls.set a _).getD a 0=_;rw[Jx _ _ _ _ la,if_pos rfl]
 have K:∀j,((Stp.over a b).behind r).ts.getD j false=if j=b then (r.ts.getD a false != r.ts.getD b false) else r.ts.getD j false:=fun j=>by
  show(J2d r a b).getD j false=_;unfold J2d;rw[J2l _ _ _ _ (by rw[h.len];exact I)]
 have sz:r.size=J2 r.ls T+r.ls.getD a 0:=by show J2 r.ls r.top=_;rw[p,Jg,J12]
 have G:((Stp.over a b).behind r).size=J2 r.ls T+r.ls.getD a 0-r.ls.getD b 0:=by
  show J2 ((Stp.over a b).behind r).ls ((Stp.over a b).behind r).top=_;rw[lt,Jg,J12,d,show J2 ((Stp.over a b).behind r).ls T=J2 r.ls T from Jk _ _ M];lia
 have U:r.size=J2 r.ls X+r.ls.getD a 0+J2 r.ls Y+r.ls.getD b 0:=by rw[<- h.sizeB,i,Jg,Jn,Jg,J12];lia
 have z:posR r.ls r.bot b=J2 r.ls X+r.ls.getD a 0+J2 r.ls Y:=by
  rw[i,Jz _ _ D,Jv _ l,Jw _ _ bY];lia
 have B:posR r.ls r.bot a=J2 r.ls X:=by rw[i,Jw _ _ F]
 have up:∀{y o:Int} {j:Nat},J10 ((Stp.over a b).behind r) y j o->J10 r y j o:=fun {y o j} A=>by
  obtain⟨N,A2,S,R⟩:=A;rw[lt] at N R;refine⟨by rw[p];exact N,A2,?_,?_⟩
  ·by_cases f:j=a
   ·subst f;rw[d] at S;lia
   ·rw[<- w j f];exact S
  ·rw[R,p]
   congr 1
   exact J2a _ _ M N
 have s:J2 ((Stp.over a b).behind r).ls X=J2 r.ls X:=Jk _ _ F;refine⟨fun y j o A J=>?_,fun y j o A J=>?_⟩
 ·have jb:j≠b:=fun e=>J (mem_singleton.mpr e);have g:=J2f okl A;have v:=up A;refine⟨⟨o,v⟩,?_⟩;rw[J2f h v,g,Q];by_cases f:j=a
  ·subst f;rw[B];unfold offT;rw[d,K,if_neg jb];by_cases ct:r.ts.getD j false=true
   ·rw[if_pos ct,if_pos ct,if_pos ct,Jz _ _ F,Jv _ (Ne.symm l),J2y,s,w b (Ne.symm l)];lia
   ·rw[if_neg ct,if_neg ct,if_neg ct,Jw _ _ F,s]
  ·have eo:offT ((Stp.over a b).behind r) j o=offT r j o:=by unfold offT;rw[w j f,K j,if_neg jb]
   have jB:j∈X++a::(Y++[b]):=by rw[<- i];exact h.perm.mem_iff.mpr v.1
   rw[i,eo]
   congr 1
   by_cases c:j∈X
   ·rw[Jy _ _ c,Jy _ _ c];show _=posR (r.ls.set a _) X j;rw[J11 _ _ F]
   ·have Z:j∈Y:=by simpa [c,f,jb] using jB
    have O:posR ((Stp.over a b).behind r).ls Y j=posR r.ls Y j:=J11 _ _ aY _;rw[Jz _ _ c,Jz _ _ c,Jv _ (Ne.symm f),Jy _ _ Z,s];split
    ·rw[Jv _ (Ne.symm jb),Jv _ (Ne.symm f),O,w b (Ne.symm l),d];lia
    ·rw[Jv _ (Ne.symm f),Jv _ (Ne.symm jb),O,w b (Ne.symm l),d];lia
 ·cases mem_singleton.mp J;have g:=J2f okl A;have v:=up A;have g':=J2f h v;have of:=v.off;have m:J10 r (go r y) a (r.ls.getD a 0-r.ls.getD b 0+offT r b o):=⟨u,by lia,by lia,by rw[g',z,p,Jw _ _ M];lia⟩;have g2:=J2f h m;refine⟨⟨o,v⟩,by rw[G,g',z];lia,⟨_,m⟩,?_⟩;have ba:=Ne.symm l;rw[g2,g,Q,B];unfold offT;rw[w b ba,K b,if_pos rfl];cases ca:r.ts.getD a false <;> cases cb:r.ts.getD b false <;> simp only[Bool.false_eq_true,if_false,if_true,bne_self_eq_false,show(true != false)=true from rfl,show(false != true)=true from rfl]
  ·rw[Jz _ _ D,Jv _ l,J2y,s,d];lia
  ·rw[Jz _ _ D,Jv _ l,J2y,s,d];lia
  ·rw[Jw _ _ D,s];lia
  ·rw[Jw _ _ D,s];lia
theorem Jiu(h:r.Ok)(ne:r.top≠[])(n:J2t r (.under a b))(okl:((Stp.under a b).behind r).Ok):J6u r (.under a b):=by
 obtain⟨n1,n2,z,n4⟩:=n;have Q:r.bot≠[]:=fun e=>ne (by have:=h.perm;rw[e] at this;exact this.symm.eq_nil);obtain⟨B,D⟩:=J1c Q;have D:r.bot=B++[a]:=by rw[n1];exact D
 have M:a∈r.bot:=by rw[D];simp
 have v:=h.perm.mem_iff.mp M;obtain⟨X,Y,l,L⟩:=J7v ne v (fun e=>z (by rw[n2];exact e.symm));have l:r.top=X++a::(Y++[b]):=by rw[n2];exact l
 have i:b∈r.top:=by rw[l];simp
 have W:=J1t (D▸h.rowB.nd);have J:(X++a::(Y++[b])).Nodup:=l▸h.row.nd;obtain⟨_,U,XY⟩:=J7e J;have aY:a ∉ Y:=fun q=>U (mem_append_left _ q);have T:b ∉ X:=fun q=>XY b q (by simp);have bY:b ∉ Y:=J1t (nodup_cons.mp (nodup_append.mp J).2.1).2;have la:=h.row.lt a v;have R:=h.row.lt b i;have pb:=h.row.pos b i;have lt:((Stp.under a b).behind r).top=X++(if r.ts.getD a false=true then b::a::Y else a::b::Y):=J7r l h.row.nd _;have lb:((Stp.under a b).behind r).bot=B++[a]:=D;have E:∀j,j≠a->((Stp.under a b).behind r).ls.getD j 0=r.ls.getD j 0:=fun j s=>by show(r.ls.set a _).getD j 0=_;rw[Jx _ _ _ _ la,if_neg s]
 have f:((Stp.under a b).behind r).ls.getD a 0=r.ls.getD a 0-r.ls.getD b 0:=by show(r.ls.set a _).getD a 0=_;rw[Jx _ _ _ _ la,if_pos rfl]
 have S:∀j,((Stp.under a b).behind r).ts.getD j false=if j=b then (r.ts.getD a false != r.ts.getD b false) else r.ts.getD j false:=fun j=>by
  show(J2d r a b).getD j false=_;unfold J2d;rw[J2l _ _ _ _ (by rw[h.len];exact R)]
 have sz:r.size=J2 r.ls B+r.ls.getD a 0:=by rw[<- h.sizeB,D,Jg,J12]
 have G:((Stp.under a b).behind r).size=J2 r.ls B+r.ls.getD a 0-r.ls.getD b 0:=by
  rw[<- okl.sizeB,lb,Jg,J12,f,show J2 ((Stp.under a b).behind r).ls B=J2 r.ls B from Jk _ _ W];lia
 have aa:r.size=J2 r.ls X+r.ls.getD a 0+J2 r.ls Y+r.ls.getD b 0:=by show J2 r.ls r.top=_;rw[l,Jg,Jn,Jg,J12];lia
 have H:posR r.ls r.top b=J2 r.ls X+r.ls.getD a 0+J2 r.ls Y:=by
  rw[l,Jz _ _ T,Jv _ z,Jw _ _ bY];lia
 have p:posR r.ls r.top a=J2 r.ls X:=by rw[l,Jw _ _ L]
 have I:posR r.ls r.bot a=J2 r.ls B:=by rw[D,Jw _ _ W]
 have K:J2 ((Stp.under a b).behind r).ls X=J2 r.ls X:=Jk _ _ L;have pB:∀{j},j∈r.top->posR ((Stp.under a b).behind r).ls ((Stp.under a b).behind r).bot j=posR r.ls r.bot j:=fun {j} C=>by
  have C:=h.perm.mem_iff.mpr C;rw[lb];rw[D] at C ⊢;exact J2a _ _ W C
 have tp:((Stp.under a b).behind r).top.Perm r.top:=J39 h.row.nd i _;refine⟨fun y j o A C=>?_,fun y j o A C=>?_⟩
 ·have jb:j≠b:=fun e=>C (mem_singleton.mpr e);have g:=J2f okl A;obtain⟨O,P,F,w⟩:=A;have N:=tp.mem_iff.mp O;rw[pB N] at g;rw[lt] at w;by_cases s:j=a
  ·subst s;rw[f] at F;unfold offT at g;rw[f,S,if_neg jb] at g;by_cases ct:r.ts.getD j false=true
   ·rw[if_pos ct,Jz _ _ L,Jv _ (Ne.symm z),J2y,K,E b (Ne.symm z)] at w;have d:J10 r y j (r.ls.getD b 0+o):=⟨N,by lia,by lia,by rw[p];lia⟩;refine⟨⟨_,d⟩,?_⟩;rw[J2f h d,g];unfold offT;rw[if_pos ct,if_pos ct];lia
   ·rw[if_neg ct,Jw _ _ L,K] at w;have d:J10 r y j o:=⟨N,by lia,by lia,by rw[p];lia⟩;refine⟨⟨_,d⟩,?_⟩;rw[J2f h d,g];unfold offT;rw[if_neg ct,if_neg ct]
  ·have eo:offT ((Stp.under a b).behind r) j o=offT r j o:=by unfold offT;rw[E j s,S j,if_neg jb]
   rw[E j s] at F;have d:J10 r y j o:=by
    refine⟨N,P,F,?_⟩;rw[w]
    congr 1
    have jT:j∈X++a::(Y++[b]):=by rw[<- l];exact N
    rw[l];by_cases c:j∈X
    ·rw[Jy _ _ c,Jy _ _ c];show posR (r.ls.set a _) X j=_;rw[J11 _ _ L]
    ·have jY:j∈Y:=by simpa [c,s,jb] using jT
     have Z:posR ((Stp.under a b).behind r).ls Y j=posR r.ls Y j:=J11 _ _ aY _;rw[Jz _ _ c,Jz _ _ c,Jv _ (Ne.symm s),Jy _ _ jY,K];split
     ·rw[Jv _ (Ne.symm jb),Jv _ (Ne.symm s),Z,E b (Ne.symm z),f];lia
     ·rw[Jv _ (Ne.symm s),Jv _ (Ne.symm jb),Z,E b (Ne.symm z),f];lia
   refine⟨⟨_,d⟩,?_⟩;rw[J2f h d,g,eo]
 ·cases mem_singleton.mp C;have ba:=Ne.symm z;have g:=J2f okl A;obtain⟨O,P,F,w⟩:=A;have O:=tp.mem_iff.mp O;rw[pB O] at g;rw[lt] at w;rw[E b ba] at F;unfold offT at g;rw[E b ba,S b,if_pos rfl] at g;by_cases ct:r.ts.getD a false=true
  ·rw[if_pos ct,Jw _ _ T,K] at w;have d:J10 r y a o:=⟨v,P,by lia,by rw[p];exact w⟩;have u:=J2f h d;unfold offT at u;rw[if_pos ct,I] at u;have m:J10 r (go r y) b (r.ls.getD b 0-1-o):=⟨i,by lia,by lia,by rw[u,H];lia⟩;refine⟨⟨_,d⟩,by rw[G,u];lia,⟨_,m⟩,?_⟩;rw[J2f h m,g,ct];unfold offT;cases r.ts.getD b false <;> simp <;> lia
  ·rw[if_neg ct,Jz _ _ T,Jv _ z,J2y,K,f] at w;have d:J10 r y a (r.ls.getD a 0-r.ls.getD b 0+o):=⟨v,by lia,by lia,by rw[p];lia⟩;have u:=J2f h d;unfold offT at u;rw[if_neg ct,I] at u;have m:J10 r (go r y) b o:=⟨i,P,F,by rw[u,H];lia⟩;refine⟨⟨_,d⟩,by rw[G,u];lia,⟨_,m⟩,?_⟩;have cf:r.ts.getD a false=false:=by simpa using ct
   rw[J2f h m,g,cf];unfold offT;cases r.ts.getD b false <;> simp
theorem Jiv(h:r.Ok)(ne:r.top≠[])(n:J2t r (.overs a t))(okl:((Stp.overs a t).behind r).Ok):J6u r (.overs a t):=by
 obtain⟨Z,n2,K,W,J,U⟩:=n;obtain⟨T,f⟩:=J1c ne;have f:r.top=T++[a]:=by rw[Z];exact f
 have p:a∈r.top:=by rw[f];simp
 obtain⟨X,Y,d,z⟩:=J66 (h.perm.mem_iff.mpr p);have H:=J1t (f▸h.row.nd);have D:(X++a::Y).Nodup:=d▸h.rowB.nd;obtain⟨_,O,XY⟩:=J7e D;have w:J6 r.bot a=Y:=by rw[d];exact J4k z
 rw[w] at J U;have la:=h.row.lt a p;have lt:((Stp.overs a t).behind r).top=T++[a]:=f;have L:((Stp.overs a t).behind r).bot=X++a::Y:=d;have G:∀j,j≠a->((Stp.overs a t).behind r).ls.getD j 0=r.ls.getD j 0:=fun j b=>by show(r.ls.set a _).getD j 0=_;rw[Jx _ _ _ _ la,if_neg b]
 have l:((Stp.overs a t).behind r).ls.getD a 0=r.ls.getD a 0-t*J2 r.ls Y:=by show(r.ls.set a (_-t*J2 r.ls (J6 r.bot a))).getD a 0=_;rw[Jx _ _ _ _ la,if_pos rfl,w]
 have tS:1<=t*J2 r.ls Y:=by
  have:=Int.mul_le_mul W J (by decide) (by lia);lia
 have sz:r.size=J2 r.ls T+r.ls.getD a 0:=by show J2 r.ls r.top=_;rw[f,Jg,J12]
 have B:((Stp.overs a t).behind r).size=J2 r.ls T+r.ls.getD a 0-t*J2 r.ls Y:=by
  show J2 ((Stp.overs a t).behind r).ls ((Stp.overs a t).behind r).top=_;rw[lt,Jg,J12,l,show J2 ((Stp.overs a t).behind r).ls T=J2 r.ls T from Jk _ _ H];lia
 have R:r.size=J2 r.ls X+r.ls.getD a 0+J2 r.ls Y:=by rw[<- h.sizeB,d,Jg,Jn];lia
 have u:posR r.ls r.bot a=J2 r.ls X:=by rw[d,Jw _ _ z]
 have C:posR r.ls r.top a=J2 r.ls T:=by rw[f,Jw _ _ H]
 have M:J2 ((Stp.overs a t).behind r).ls X=J2 r.ls X:=Jk _ _ z;have up:∀{y o:Int} {j:Nat},J10 ((Stp.overs a t).behind r) y j o->J10 r y j o:=fun {y o j} A=>by
  obtain⟨I,A2,Q,P⟩:=A;rw[lt] at I P;refine⟨by rw[f];exact I,A2,?_,?_⟩
  ·by_cases b:j=a
   ·subst b;rw[l] at Q;lia
   ·rw[<- G j b];exact Q
  ·rw[P,f]
   congr 1
   exact J2a _ _ H I
 refine⟨fun y j o A E=>?_,fun y j o A E=>?_⟩
 ·have v:j ∉ Y:=fun q=>E (by show j∈J6 r.bot a;rw[w];exact q);have g:=J2f okl A;have s:=up A;refine⟨⟨o,s⟩,?_⟩;rw[J2f h s,g,L];by_cases b:j=a
  ·subst b;rw[u,Jw _ _ z,M];unfold offT;rw[show((Stp.overs j t).behind r).ts=r.ts from rfl,K,if_neg (by decide),if_neg (by decide)]
  ·have F:offT ((Stp.overs a t).behind r) j o=offT r j o:=by unfold offT;rw[G j b];rfl
   have jB:j∈X++a::Y:=by rw[<- d];exact h.perm.mem_iff.mpr s.1
   have c:j∈X:=by simpa [v,b] using jB
   rw[d,F,Jy _ _ c,Jy _ _ c]
   congr 1
   exact(J11 _ _ z _).symm
 ·have v:j∈Y:=by
   have:j∈J6 r.bot a:=E;rw[w] at this;exact this
  have b:j≠a:=fun e=>O (e▸v);have N:j ∉ X:=fun q=>XY j q v;have g:=J2f okl A;have s:=up A;have g':=J2f h s;have of:=s.off;have p0:=J8e (ls:=r.ls) (row:=Y) (fun i hi=>by have:=h.rowB.pos i (by rw[d];simp[hi]);lia) j;have p1:=J5p (ls:=r.ls) (row:=Y) (fun i hi=>by have:=h.rowB.pos i (by rw[d];simp[hi]);lia) v;have eg:go r y=J2 r.ls X+r.ls.getD a 0+posR r.ls Y j+offT r j o:=by rw[g',d,Jz _ _ N,Jv _ (Ne.symm b)];lia
  show(∃S,J10 r y j S)/\(∀k:Int,0<=k->k<t->_)/\_;rw[w];refine⟨⟨o,s⟩,fun k k0 k1=>?_,?_⟩
  ·have m1:k*J2 r.ls Y+J2 r.ls Y<=t*J2 r.ls Y:=by
    have:=Int.mul_le_mul_of_nonneg_right (show k+1<=t by lia) (show 0<=J2 r.ls Y by lia);rw[Int.add_mul,Int.one_mul] at this;exact this
   have m0:0<=k*J2 r.ls Y:=Int.mul_nonneg k0 (by lia);have m:J10 r (go r y-k*J2 r.ls Y) a (go r y-k*J2 r.ls Y-J2 r.ls T):=⟨p,by lia,by lia,by rw[C];lia⟩;refine⟨by rw[B];lia,⟨_,m⟩,?_⟩;rw[J2f h m,u];unfold offT;rw[K,if_neg (by decide)];lia
  ·rw[g,L,Jz _ _ N,Jv _ (Ne.symm b),M,l];have F:offT ((Stp.overs a t).behind r) j o=offT r j o:=by unfold offT;rw[G j b];rfl
   rw[F,show posR ((Stp.overs a t).behind r).ls Y j=posR r.ls Y j from J11 _ _ O _,eg];lia
theorem Jh1(h:r.Ok)(ne:r.top≠[])(n:J2t r (.unders a t))(okl:((Stp.unders a t).behind r).Ok):J6u r (.unders a t):=by
 obtain⟨n1,n2,Q,n4,P,Z⟩:=n;have L:r.bot≠[]:=fun e=>ne (by have:=h.perm;rw[e] at this;exact this.symm.eq_nil);obtain⟨B,p⟩:=J1c L;have p:r.bot=B++[a]:=by rw[n1];exact p
 have F:a∈r.bot:=by rw[p];simp
 have u:=h.perm.mem_iff.mp F;obtain⟨X,Y,f,E⟩:=J66 u;have N:=J1t (p▸h.rowB.nd);have M:(X++a::Y).Nodup:=f▸h.row.nd;obtain⟨_,U,XY⟩:=J7e M;have D:J6 r.top a=Y:=by rw[f];exact J4k E
 rw[D] at P Z;have la:=h.row.lt a u;have lt:((Stp.unders a t).behind r).top=X++a::Y:=f;have R:((Stp.unders a t).behind r).bot=B++[a]:=p;have H:∀j,j≠a->((Stp.unders a t).behind r).ls.getD j 0=r.ls.getD j 0:=fun j b=>by show(r.ls.set a _).getD j 0=_;rw[Jx _ _ _ _ la,if_neg b]
 have s:((Stp.unders a t).behind r).ls.getD a 0=r.ls.getD a 0-t*J2 r.ls Y:=by show(r.ls.set a (_-t*J2 r.ls (J6 r.top a))).getD a 0=_;rw[Jx _ _ _ _ la,if_pos rfl,D]
 have tS:1<=t*J2 r.ls Y:=by
  have:=Int.mul_le_mul n4 P (by decide) (by lia);lia
 have sz:r.size=J2 r.ls B+r.ls.getD a 0:=by rw[<- h.sizeB,p,Jg,J12]
 have J:((Stp.unders a t).behind r).size=J2 r.ls B+r.ls.getD a 0-t*J2 r.ls Y:=by
  rw[<- okl.sizeB,R,Jg,J12,s,show J2 ((Stp.unders a t).behind r).ls B=J2 r.ls B from Jk _ _ N];lia
 have W:r.size=J2 r.ls X+r.ls.getD a 0+J2 r.ls Y:=by show J2 r.ls r.top=_;rw[f,Jg,Jn];lia
 have z:posR r.ls r.top a=J2 r.ls X:=by rw[f,Jw _ _ E]
 have K:posR r.ls r.bot a=J2 r.ls B:=by rw[p,Jw _ _ N]
 have S:J2 ((Stp.unders a t).behind r).ls X=J2 r.ls X:=Jk _ _ E;have O:∀{j},j∈r.top->posR ((Stp.unders a t).behind r).ls ((Stp.unders a t).behind r).bot j=posR r.ls r.bot j:=fun {j} l=>by
  have l:=h.perm.mem_iff.mpr l;rw[R];rw[p] at l ⊢;exact J2a _ _ N l
 refine⟨fun y j o A l=>?_,fun y j o A l=>?_⟩
 ·have C:j ∉ Y:=fun q=>l (by show j∈J6 r.top a;rw[D];exact q);have g:=J2f okl A;obtain⟨d,I,w,v⟩:=A;have d:j∈r.top:=d;rw[O d] at g;rw[lt] at v;have jT:j∈X++a::Y:=by rw[<- f];exact d
  by_cases b:j=a
  ·subst b;rw[s] at w;rw[Jw _ _ E,S] at v;have G:J10 r y j o:=⟨d,I,by lia,by rw[z];exact v⟩;refine⟨⟨o,G⟩,?_⟩;rw[J2f h G,g];unfold offT;rw[show((Stp.unders j t).behind r).ts=r.ts from rfl,Q,if_neg (by decide),if_neg (by decide)]
  ·have eo:offT ((Stp.unders a t).behind r) j o=offT r j o:=by unfold offT;rw[H j b];rfl
   have c:j∈X:=by simpa [C,b] using jT
   rw[H j b] at w;rw[Jy _ _ c,show posR ((Stp.unders a t).behind r).ls X j=posR r.ls X j from J11 _ _ E _] at v;have G:J10 r y j o:=⟨d,I,w,by rw[f,Jy _ _ c];exact v⟩;refine⟨⟨o,G⟩,?_⟩;rw[J2f h G,g,eo]
 ·have C:j∈Y:=by
   have:j∈J6 r.top a:=l;rw[D] at this;exact this
  have b:j≠a:=fun e=>U (e▸C);have T:j ∉ X:=fun q=>XY j q C;have g:=J2f okl A;obtain⟨d,I,w,v⟩:=A;have d:j∈r.top:=d;rw[O d] at g;rw[lt,Jz _ _ T,Jv _ (Ne.symm b),S,s,show posR ((Stp.unders a t).behind r).ls Y j=posR r.ls Y j from J11 _ _ U _] at v;rw[H j b] at w;have p0:=J8e (ls:=r.ls) (row:=Y) (fun i hi=>by have:=h.row.pos i (by rw[f];simp[hi]);lia) j;have p1:=J5p (ls:=r.ls) (row:=Y) (fun i hi=>by have:=h.row.pos i (by rw[f];simp[hi]);lia) C;show(∀k:Int,0<=k->k<t->_)/\_;rw[D];have fin:J10 r (y+t*J2 r.ls Y) j o:=⟨d,I,w,by rw[f,Jz _ _ T,Jv _ (Ne.symm b)];lia⟩;refine⟨fun k k0 k1=>?_,⟨_,fin⟩,?_⟩
  ·have m1:k*J2 r.ls Y+J2 r.ls Y<=t*J2 r.ls Y:=by
    have:=Int.mul_le_mul_of_nonneg_right (show k+1<=t by lia) (show 0<=J2 r.ls Y by lia);rw[Int.add_mul,Int.one_mul] at this;exact this
   have m0:0<=k*J2 r.ls Y:=Int.mul_nonneg k0 (by lia);have m:J10 r (y+k*J2 r.ls Y) a (y+k*J2 r.ls Y-J2 r.ls X):=⟨u,by lia,by lia,by rw[z];lia⟩;refine⟨⟨_,m⟩,?_,by rw[J];lia⟩;rw[J2f h m,K];unfold offT;rw[Q,if_neg (by decide)];lia
  ·rw[J2f h fin,g];unfold offT;rw[H j b];rfl
theorem Jpo(h:r.Ok)(ne:r.top≠[])(n:J2t r s)(okl:(s.behind r).Ok):J6u r s:=by
 cases s with
 | home a=>exact Jn3 h ne n okl
 | even a b=>exact Jn4 h ne n okl
 | over a b=>exact Jn2 h ne n okl
 | under a b=>exact Jiu h ne n okl
 | overs a t=>exact Jiv h ne n okl
 | unders a t=>exact Jh1 h ne n okl
noncomputable def itN(f:Int->Int):Nat->Int->Int
 | 0,y=>y
 | n+1,y=>f (itN f n y)
theorem J7x(f:Int->Int)(n:Nat)(y:Int):itN f (n+1) y=f (itN f n y):=rfl
theorem J15(f:Int->Int)(n:Nat):∀(m:Nat) (y:Int),itN f (n+m) y=itN f m (itN f n y)
 | 0,_=>rfl
 | m+1,y=>by show f (itN f (n+m) y)=f (itN f m (itN f n y));rw[J15 f n m y]
theorem Jkl(f:Int->Int)(n:Nat)(y:Int):itN f (n+1) y=itN f n (f y):=by rw[Nat.add_comm,J15];rfl
structure J1j(f:Int->Int)(lo:Int)(n:Nat)(y z:Int):Prop where
 pos:0<n
 last:itN f n y=z
 mid:∀i,0<i->i<n->lo<=itN f i y
theorem J1j.one(e:f y=z):J1j f lo 1 y z:=⟨by decide,e,fun i b a=>by lia⟩
theorem J1j.trans(a:J1j f lo n y z)(c:lo<=z)(b:J1j f lo m z z'):J1j f lo (n+m) y z':=by
 refine⟨by have:=a.pos;lia,?_,fun i d e=>?_⟩
 ·rw[J15,a.last,b.last]
 ·rcases Nat.lt_trichotomy i n with q|q|q
  ·exact a.mid i d q
  ·rw[q,a.last];exact c
  ·obtain⟨k,rfl⟩:∃k,i=n+k:=⟨i-n,by lia⟩;rw[J15,a.last];exact b.mid k (by lia) (by lia)
theorem J1j.low(a:J1j f lo n y z)(h:lo'<=lo):J1j f lo' n y z:=⟨a.pos,a.last,fun i c b=>by have:=a.mid i c b;lia⟩
noncomputable def retN(r:Rst)(s:Stp)(j:Nat):Nat:=if j∈s.losers r then 1+s.times.toNat else 1
theorem J3g(n:J2t r s):1<=s.times:=by
 cases s with
 | overs a t=>exact n.2.2.2.1
 | unders a t=>exact n.2.2.2.1
 | home a=>exact Int.le_refl _
 | even a b=>exact Int.le_refl _
 | over a b=>exact Int.le_refl _
 | under a b=>exact Int.le_refl _
theorem Jaf{f:Int->Int}{lo m S t:Int}(h:∀k:Int,0<=k->k<t->lo<=m-k*S/\f (m-k*S)=m-k*S-S):∀n:Nat,(n:Int)<t->J1j f lo (n+1) m (m-((n:Int)+1)*S)
 | 0,h0=>by
  have:=(h 0 (by lia) (by lia)).2;refine J1j.one ?_;rw[Int.zero_mul,Int.sub_zero] at this;rw[this];show m-S=m-(0+1)*S;rw[Int.zero_add,Int.one_mul]
 | n+1,h0=>by
  have a:=Jaf h n (by lia);have q:=h ((n:Int)+1) (by lia) (by lia);refine a.trans q.1 (J1j.one ?_);rw[q.2];rw[show(((n+1:Nat):Int)+1)=((n:Int)+1)+1 by lia,Int.add_mul ((n:Int)+1) 1 S,Int.one_mul];lia
theorem Jev{f:Int->Int}{lo y S t:Int}(h:∀k:Int,0<=k->k<t->f (y+k*S)=y+k*S+S/\lo<=y+k*S+S):∀n:Nat,(n:Int)<t->J1j f lo (n+1) y (y+((n:Int)+1)*S)
 | 0,h0=>by
  have:=(h 0 (by lia) (by lia)).1;refine J1j.one ?_;rw[Int.zero_mul,Int.add_zero] at this;rw[this];show y+S=y+(0+1)*S;rw[Int.zero_add,Int.one_mul]
 | n+1,h0=>by
  have a:=Jev h n (by lia);have p:=h (n:Int) (by lia) (by lia);have q:=h ((n:Int)+1) (by lia) (by lia);have e:y+((n:Int)+1)*S=y+(n:Int)*S+S:=by rw[Int.add_mul,Int.one_mul];lia
  refine a.trans (by rw[e];exact p.2) (J1j.one ?_);rw[q.1];rw[show(((n+1:Nat):Int)+1)=((n:Int)+1)+1 by lia,Int.add_mul ((n:Int)+1) 1 S,Int.one_mul];lia
theorem J6u.first{r:Rst}{s:Stp}(n:J2t r s)(R:J6u r s){y o:Int}{j:Nat}(A:J10 (s.behind r) y j o):J1j (go r) (s.behind r).size (retN r s j) y (go (s.behind r) y):=by
 unfold retN;have g:=J3g n;by_cases c:j∈s.losers r
 ·rw[if_pos c];have L:=R.lose y j o A c
  cases s with
  | home a=>exact L.elim
  | even a b=>exact(J1j.one rfl).trans L.2.1 (J1j.one L.2.2.2)
  | over a b=>exact(J1j.one rfl).trans L.2.1 (J1j.one L.2.2.2)
  | under a b=>exact(J1j.one rfl).trans L.2.1 (J1j.one L.2.2.2)
  | overs a t =>
   obtain⟨_,l,i⟩:=L;have g:1<=t:=g;have q:=l 0 (by lia) (by lia);rw[Int.zero_mul,Int.sub_zero] at q;obtain⟨m,h⟩:∃m:Nat,t=(m:Int)+1:=⟨(t-1).toNat,by lia⟩;have d:=Jaf (f:=go r) (lo:=((Stp.overs a t).behind r).size) (m:=go r y) (S:=J2 r.ls (J6 r.bot a)) (t:=t) (fun k k0 k1=>⟨(l k k0 k1).1,(l k k0 k1).2.2⟩) m (by lia);rw[<- h,i] at d;have e:1+(Stp.overs a t).times.toNat=1+(m+1):=by show 1+t.toNat=_;lia
   rw[e];exact(J1j.one rfl).trans q.1 d
  | unders a t =>
   obtain⟨u,_,i⟩:=L;have g:1<=t:=g;obtain⟨m,h⟩:∃m:Nat,t=(m:Int)+1:=⟨(t-1).toNat,by lia⟩;have d:=Jev (f:=go r) (lo:=((Stp.unders a t).behind r).size) (y:=y) (S:=J2 r.ls (J6 r.top a)) (t:=t) (fun k k0 k1=>(u k k0 k1).2) m (by lia);have p:=(u (m:Int) (by lia) (by lia)).2.2;have e:1+(Stp.unders a t).times.toNat=(m+1)+1:=by show 1+t.toNat=_;lia
   rw[e];rw[<- h] at d;refine d.trans ?_ (J1j.one i);have v:t*J2 r.ls (J6 r.top a)=(m:Int)*J2 r.ls (J6 r.top a)+J2 r.ls (J6 r.top a):=by rw[h,Int.add_mul,Int.one_mul]
   rw[v];lia
 ·rw[if_neg c];exact J1j.one (R.plain y j o A c).2
theorem J78{N:Nat->Nat}(d:lo<=r.size)(F:∀y j o,J10 r y j o->J1j f r.size (N j) y (go r y))(h:∀k ,0<=k->k<t->lo<=m-k*S/\(∃i,J10 r (m-k*S) w i)/\go r (m-k*S)=m-k*S-S):∀n:Nat,(n:Int)<t->J1j f lo ((n+1)*N w) m (m-((n:Int)+1)*S)
 | 0,h0=>by
  obtain⟨l,⟨i,g⟩,e⟩:=h 0 (by lia) (by lia);have a:=(F _ _ _ g).low d;rw[e] at a;rw[Int.zero_mul,Int.sub_zero] at a;rw[ Nat.one_mul];show J1j f lo (N w) m (m-(0+1)*S);rw[Int.zero_add,Int.one_mul];exact a
 | n+1,h0=>by
  have a:=J78 d F h n (by lia);obtain⟨l,⟨i,g⟩,e⟩:=h ((n:Int)+1) (by lia) (by lia);have b:=(F _ _ _ g).low d;rw[e] at b;have c:=a.trans l b;have q:(n+1)*N w+N w=(n+1+1)*N w:=by rw[Nat.add_mul (n+1) 1,Nat.one_mul]
  rw[q] at c;have p:m-((n:Int)+1)*S-S=m-(((n+1:Nat):Int)+1)*S:=by
   grind
  rw[p] at c;exact c
theorem Jbm{lo t:Int}{N:Nat->Nat}(d:lo<=r.size)(F:∀y j o,J10 r y j o->J1j f r.size (N j) y (go r y))(h:∀k ,0<=k->k<t->(∃l,J10 r (y+k*S) w l)/\go r (y+k*S)=y+k*S+S/\lo<=y+k*S+S):∀n:Nat,(n:Int)<t->J1j f lo ((n+1)*N w) y (y+((n:Int)+1)*S)
 | 0,h0=>by
  obtain⟨⟨l,i⟩,g,m⟩:=h 0 (by lia) (by lia);have a:=(F _ _ _ i).low d;rw[g] at a;rw[Int.zero_mul,Int.add_zero] at a;rw[ Nat.one_mul];show J1j f lo (N w) y (y+(0+1)*S);rw[Int.zero_add,Int.one_mul];exact a
 | n+1,h0=>by
  have a:=Jbm d F h n (by lia);obtain⟨_,u,p⟩:=h (n:Int) (by lia) (by lia);obtain⟨⟨l,i⟩,g,m⟩:=h ((n:Int)+1) (by lia) (by lia);have b:=(F _ _ _ i).low d;rw[g] at b;have e:y+((n:Int)+1)*S=y+(n:Int)*S+S:=by rw[Int.add_mul,Int.one_mul];lia
  have c:=a.trans (by rw[e];exact p) b;have s:(n+1)*N w+N w=(n+1+1)*N w:=by rw[Nat.add_mul (n+1) 1,Nat.one_mul]
  rw[s] at c;have q:y+((n:Int)+1)*S+S=y+(((n+1:Nat):Int)+1)*S:=by
   grind
  rw[q] at c;exact c
noncomputable def sumT(r:Rst)(s:Stp)(N:Nat->Nat)(j:Nat):Nat:=if j∈s.losers r then N j+s.times.toNat*N s.winner else N j
theorem J6u.tower(n:J2t r s)(R:J6u r s)(h:(s.behind r).size<=r.size)(F:∀y j o,J10 r y j o->J1j f r.size (N j) y (go r y))(A:J10 (s.behind r) y j o):
  J1j f (s.behind r).size (sumT r s N j) y (go (s.behind r) y):=by
 unfold sumT;have u:=J3g n;by_cases c:j∈s.losers r
 ·rw[if_pos c];have L:=R.lose y j o A c;have two:∀{a b:Nat} {o1 C:Int},J10 r y a o1->J10 r (go r y) b C->(s.behind r).size<=go r y->go r (go r y)=go (s.behind r) y->J1j f (s.behind r).size (N a+N b) y (go (s.behind r) y):=fun {a b o1 C} J I H G=>by
   have x:=(F _ _ _ J).low h;have z:=(F _ _ _ I).low h;rw[G] at z;exact x.trans H z
  cases s with
  | home a=>exact L.elim
  | even a b =>
   obtain⟨⟨_,l1⟩,g,⟨_,l⟩,i⟩:=L;have:=two l1 l g i;show J1j f _ (N j+1*N a) _ _;rw[Nat.one_mul];exact this
  | over a b =>
   obtain⟨⟨_,l1⟩,g,⟨_,l⟩,i⟩:=L;have:=two l1 l g i;show J1j f _ (N j+1*N a) _ _;rw[Nat.one_mul];exact this
  | under a b =>
   obtain⟨⟨_,l1⟩,g,⟨_,l⟩,i⟩:=L;have:=two l1 l g i;show J1j f _ (N j+1*N a) _ _;rw[Nat.one_mul,Nat.add_comm];exact this
  | overs a t =>
   obtain⟨⟨_,l1⟩,D,B⟩:=L;have u:1<=t:=u;obtain⟨m,v⟩:∃m:Nat,t=(m:Int)+1:=⟨(t-1).toNat,by lia⟩;have d:=J78 (S:=J2 r.ls (J6 r.bot a)) (w:=a) h F D m (by lia);rw[<- v,B] at d;have q:=D 0 (by lia) (by lia);rw[Int.zero_mul,Int.sub_zero] at q;have e:(Stp.overs a t).times.toNat=m+1:=by show t.toNat=_;lia
   rw[e];exact((F _ _ _ l1).low h).trans q.1 d
  | unders a t =>
   obtain⟨E,⟨_,g⟩,B⟩:=L;have u:1<=t:=u;obtain⟨m,v⟩:∃m:Nat,t=(m:Int)+1:=⟨(t-1).toNat,by lia⟩;have d:=Jbm (S:=J2 r.ls (J6 r.top a)) (w:=a) h F E m (by lia);rw[<- v] at d;have p:=(E (m:Int) (by lia) (by lia)).2.2;have z:=(F _ _ _ g).low h;rw[B] at z;have e:N j+(Stp.unders a t).times.toNat*N (Stp.unders a t).winner=(m+1)*N a+N j:=by
    show N j+t.toNat*N a=_;rw[show t.toNat=m+1 by lia];lia
   rw[e];refine d.trans ?_ z;have O:t*J2 r.ls (J6 r.top a)=(m:Int)*J2 r.ls (J6 r.top a)+J2 r.ls (J6 r.top a):=by rw[v,Int.add_mul,Int.one_mul]
   lia
 ·rw[if_neg c];obtain⟨⟨_,M⟩,K⟩:=R.plain y j o A c;rw[<- K];exact(F _ _ _ M).low h
theorem Cok.tower(h:Cok p)(one:∀j∈p.1.top,p.2.getD j 0=1):∀{k:Nat},Long p k->∀y j o,J10 (chN p k).1 y j o->J1j (go p.1) (chN p k).1.size ((chN p k).2.getD j 0).toNat y (go (chN p k).1 y)
 | 0,_,y,j,o,A=>by
  show J1j (go p.1) p.1.size (p.2.getD j 0).toNat y (go p.1 y);rw[one j A.1];exact J1j.one rfl
 | k+1,l,y,j,o,A=>by
  have f:Long p k:=fun i hi=>l i (by lia);have ne:=l k (by lia);have c:=h.at_ f;have np:=J5j c.ok ne;have okl:=c.ok.next ne;have R:=Jpo c.ok ne np okl;have F:=Cok.tower h one f;have b:=A;have d:=c.ok.down ne;have t:=R.tower (N:=fun j=>((chN p k).2.getD j 0).toNat) np (Int.le_of_lt d.less) F b;have e:sumT (chN p k).1 (nextN (chN p k).1) (fun j=>((chN p k).2.getD j 0).toNat) j=((chN p (k+1)).2.getD j 0).toNat:=by
   have g:=J9o c.ok ne c.tow.len b.1;have a:(chN p (k+1)).2.getD j 0=(chN p k).2.getD j 0+(if j∈(nextN (chN p k).1).losers (chN p k).1 then (chN p k).2.getD (nextN (chN p k).1).winner 0*(nextN (chN p k).1).times else 0):=g;have w:=np.win c.ok ne;have n:=c.tow.pos _ w;have q:=c.tow.pos j (d.sub j b.1);have m:=J3g np;rw[a];unfold sumT;dsimp only;split
   ·grind
   ·lia
  rw[e] at t;exact t
theorem Js8(h:r.Ok)(ne:r.top≠[])(n:J2t r (.home a)):((Stp.home a).behind r).size+r.ls.getD a 0=r.size/\∀y,((Stp.home a).behind r).size<=y->y<r.size->
  J10 r y a (y-((Stp.home a).behind r).size)/\go r y=if r.ts.getD a false=true then ((Stp.home a).behind r).size+r.size-1-y else y:=by
 obtain⟨m,l⟩:=n;have d:r.bot≠[]:=fun e=>ne (by have:=h.perm;rw[e] at this;exact this.symm.eq_nil);obtain⟨T,b⟩:=J1c ne;obtain⟨B,c⟩:=J1c d;have b:r.top=T++[a]:=by rw[m];exact b
 have c:r.bot=B++[a]:=by rw[l];exact c
 have f:=J1t (b▸h.row.nd);have o:=J1t (c▸h.rowB.nd);have g:a∈r.top:=by rw[b];simp
 have lt:((Stp.home a).behind r).top=T:=by show withoutR r.top a=T;rw[b,J1m,J1v,append_nil,J1l f]
 have sz:r.size=J2 r.ls T+r.ls.getD a 0:=by show J2 r.ls r.top=_;rw[b,Jg,J12]
 have j:r.size=J2 r.ls B+r.ls.getD a 0:=by rw[<- h.sizeB,c,Jg,J12]
 have i:((Stp.home a).behind r).size=J2 r.ls T:=by show J2 (r.ls.set a 0) ((Stp.home a).behind r).top=_;rw[lt,Jk _ _ f]
 refine⟨by lia,fun y q p=>?_⟩;have A:J10 r y a (y-((Stp.home a).behind r).size):=⟨g,by lia,by lia,by rw[b,Jw _ _ f];lia⟩;refine⟨A,?_⟩;rw[J2f h A,c,Jw _ _ o];unfold offT;split <;> lia
noncomputable abbrev bz0:Band:=(0,0,0,false)
noncomputable def J50(b:Band)(o:Int):Int:=if b.2.2.2=true then b.2.1-1-o else o
noncomputable def Bnd(f:Int->Int)(b:Band):Prop:=1<=b.2.1/\1<=b.2.2.1/\∀o,0<=o->o<b.2.1->J1j f (b.1+b.2.1) b.2.2.1.toNat (b.1+o) (b.1+J50 b o)
theorem J6o(c:0<=o)(a:o<b.2.1):0<=J50 b o/\J50 b o<b.2.1:=by unfold J50;split <;> lia
theorem Jcq(b:Band)(o:Int):J50 b (J50 b o)=o:=by unfold J50;grind
structure Sys(f:Int->Int)(N:Int)(bs:List Band):Prop where
 inn:∀y,0<=y->y<N->0<=f y/\f y<N
 inj:∀y z,0<=y->y<N->0<=z->z<N->f y=f z->y=z
 bnd:∀b∈bs,Bnd f b
 lo:∀b∈bs,0<=b.1/\b.1+b.2.1<=N
 ord:bs.Pairwise fun b c=>c.1+c.2.1<=b.1
 sum:(bs.map fun b=>b.2.1*b.2.2.1).sum=N
theorem Sys.itin(S:Sys f N bs)(b:0<=y)(a:y<N):∀n,0<=itN f n y/\itN f n y<N
 | 0=>⟨b,a⟩
 | n+1=>by have:=S.itin b a n;exact S.inn _ this.1 this.2
theorem Sys.itinj(S:Sys f N bs)(d:0<=y)(c:y<N)(k0:0<=z)(k1:z<N):∀n,itN f n y=itN f n z->y=z
 | 0,e=>e
 | n+1,e=>by
  have a:=S.itin d c n;have b:=S.itin k0 k1 n;exact S.itinj d c k0 k1 n (S.inj _ _ a.1 a.2 b.1 b.2 e)
theorem Bnd.stays(B:Bnd f b):∀(n:Nat) (o:Int),0<=o->o<b.2.1->b.1<=itN f n (b.1+o):=by
 obtain⟨e,g,F⟩:=B;intro n
 induction n using Nat.strongRecOn with
 | _ n ih =>
  intro o o0 o1;have a:=F o o0 o1;by_cases d:n=0
  ·subst d;show b.1<=b.1+o;lia
  by_cases c:n<b.2.2.1.toNat
  ·have:=a.mid n (by lia) c;lia
  ·obtain⟨k,rfl⟩:∃k,n=b.2.2.1.toNat+k:=⟨n-b.2.2.1.toNat,by lia⟩;rw[J15,a.last];have fi:=J6o o0 o1;exact ih k (by lia) _ fi.1 fi.2
theorem Bnd.back(B:Bnd f b)(c:0<=o)(a:o<b.2.1):itN f b.2.2.1.toNat (b.1+o)=b.1+J50 b o:=(B.2.2 o c a).last
theorem Bnd.high(B:Bnd f b)(c:0<=o)(a:o<b.2.1){l:Nat}(l0:0<l)(l1:(l:Int)<b.2.2.1):b.1+b.2.1<=itN f l (b.1+o):=(B.2.2 o c a).mid l l0 (by lia)
theorem Sys.meet(S:Sys f N bs)(hb:b∈bs)(n:c∈bs)(p:b=c\/c.1+c.2.1<=b.1\/b.1+b.2.1<=c.1)(o0:0<=o)(o1:o<b.2.1)(i:0<=o')(h:o'<c.2.1){l a:Nat}(B:(l:Int)<b.2.2.1)(s:(a:Int)<c.2.2.1)(le:l<=a)(e:itN f l (b.1+o)=itN f a (c.1+o')):b=c/\o=o'/\l=a:=by
 have w:=S.bnd b hb;have r:=S.bnd c n;have A:=S.lo b hb;have z:=S.lo c n;obtain⟨d,rfl⟩:∃d,a=d+l:=⟨a-l,by lia⟩;rw[J15] at e;have g:=S.itin (y:=c.1+o') (by lia) (by lia) d;have m:=S.itinj (by lia) (by lia) g.1 g.2 l e;by_cases v:d=0
 ·subst v;have m:b.1+o=c.1+o':=m;rcases p with rfl|q|q
  ·exact⟨rfl,by lia,by lia⟩
  ·lia
  ·lia
 ·have hi:=r.high i h (l:=d) (by lia) (by lia);rcases p with rfl|q|q
  ·lia
  ·have j:=r.back i h;have fi:=J6o i h;obtain⟨k,u⟩:∃k,c.2.2.1.toNat=d+k:=⟨c.2.2.1.toNat-d,by lia⟩;rw[u,J15,<- m] at j;have:=w.stays k o o0 o1;lia
  ·lia
theorem J3j{bs:List Band}(h:b<bs.length):bs.getD b bz0∈bs:=by
 simp_all
structure Adr(bs:List Band)(b:Nat)(o lv:Int):Prop where
 hb:b<bs.length
 o0:0<=o
 o1:o<(bs.getD b bz0).2.1
 l0:0<=lv
 l1:lv<(bs.getD b bz0).2.2.1
noncomputable def plOf(f:Int->Int)(bs:List Band)(b:Nat)(o a:Int):Int:=itN f a.toNat ((bs.getD b bz0).1+o)
theorem Sys.apart(S:Sys f N bs)(hb:b<bs.length)(a:c<bs.length)(h:b<c):(bs.getD c bz0).1+(bs.getD c bz0).2.1<=(bs.getD b bz0).1:=by
 have:=(List.pairwise_iff_getElem.mp S.ord) b c hb a h;have e:bs.getD b bz0=bs[b]:=by simp_all
 have d:bs.getD c bz0=bs[c]:=by simp_all
 rw[e,d];exact this
theorem Sys.uniq{f:Int->Int}{N:Int}{bs:List Band}(S:Sys f N bs){b c:Nat}{o l h d:Int}(A:Adr bs b o h)(a:Adr bs c l d)(e:plOf f bs b o h=plOf f bs c l d):b=c/\o=l/\h=d:=by
 have g:bs.getD b bz0=bs.getD c bz0\/(bs.getD c bz0).1+(bs.getD c bz0).2.1<=(bs.getD b bz0).1\/(bs.getD b bz0).1+(bs.getD b bz0).2.1<=(bs.getD c bz0).1:=by
  rcases Nat.lt_trichotomy b c with q|q|q
  ·exact .inr (.inl (S.apart A.hb a.hb q))
  ·exact .inl (by rw[q])
  ·exact .inr (.inr (S.apart a.hb A.hb q))
 have same:bs.getD b bz0=bs.getD c bz0->b=c:=fun e=>by
  have w:=(S.bnd _ (J3j a.hb)).1;rcases Nat.lt_trichotomy b c with q|q|q
  ·have:=S.apart A.hb a.hb q;rw[e] at this;lia
  ·exact q
  ·have:=S.apart a.hb A.hb q;rw[e] at this;lia
 have s:=A.l0;have r:=A.l1;have p:=a.l0;have n:=a.l1;unfold plOf at e;by_cases le:h.toNat<=d.toNat
 ·obtain⟨j,i,m⟩:=S.meet (J3j A.hb) (J3j a.hb) g A.o0 A.o1 a.o0 a.o1 (by lia) (by lia) le e;exact⟨same j,i,by lia⟩
 ·obtain⟨j,i,m⟩:=S.meet (J3j a.hb) (J3j A.hb) (g.elim (fun q=>.inl q.symm) fun q=>.inr q.symm) a.o0 a.o1 A.o0 A.o1 (by lia) (by lia) (by lia) e.symm;exact⟨same j.symm,i.symm,by lia⟩
theorem Sys.pl_in(S:Sys f N bs)(A:Adr bs b o lv):0<=plOf f bs b o lv/\plOf f bs b o lv<N:=by
 have l:=S.lo _ (J3j A.hb);have:=A.o0;have:=A.o1;exact S.itin (by lia) (by lia) _
noncomputable def J6c(f:Int->Int)(b:Band)(o:Nat):List Int:=(List.range b.2.2.1.toNat).map fun l=>itN f l (b.1+(o:Int))
noncomputable def J53(f:Int->Int)(b:Band):List Int:=(List.range b.2.1.toNat).flatMap (J6c f b)
noncomputable def J60(f:Int->Int)(bs:List Band):List Int:=bs.flatMap (J53 f)
theorem J4x :x∈J6c f b o↔∃l:Nat,(l:Int)<b.2.2.1/\x=itN f l (b.1+(o:Int)):=by
 unfold J6c
 grind
theorem J5c :x∈J53 f b↔∃o l:Nat,(o:Int)<b.2.1/\(l:Int)<b.2.2.1/\x=itN f l (b.1+(o:Int)):=by
 unfold J53;rw[mem_flatMap];constructor
 ·rintro⟨o,c,d⟩;obtain⟨l,a,rfl⟩:=J4x.mp d;exact⟨o,l,by have:=mem_range.mp c;lia,a,rfl⟩
 ·rintro⟨o,l,c,a,rfl⟩;exact⟨o,mem_range.mpr (by lia),J4x.mpr ⟨l,a,rfl⟩⟩
theorem Sys.eq_of(S:Sys f N bs)(hb:b∈bs)(j:c∈bs)(m:b=c\/c.1+c.2.1<=b.1\/b.1+b.2.1<=c.1){o g l d:Nat}(o1:(o:Int)<b.2.1)(h:(g:Int)<c.2.1)(i:(l:Int)<b.2.2.1)(a:(d:Int)<c.2.2.1)(e:itN f l (b.1+(o:Int))=itN f d (c.1+(g:Int))):b=c/\o=g/\l=d:=by
 by_cases le:l<=d
 ·obtain⟨r,p,n⟩:=S.meet hb j m (by lia) o1 (by lia) h i a le e
  grind
 ·obtain⟨r,p,n⟩:=S.meet j hb (m.elim (fun q=>.inl q.symm) fun q=>.inr q.symm) (by lia) h (by lia) o1 a i (by lia) e.symm
  grind
theorem Sys.nodup(S:Sys f N bs):(J60 f bs).Nodup:=by
 unfold J60;refine pairwise_flatMap.mpr ⟨fun b hb=>?_,S.ord.imp_of_mem fun {b c} hb n q x j y i e=>?_⟩
 ·unfold J53;refine pairwise_flatMap.mpr ⟨fun o g=>?_,pairwise_lt_range.imp_of_mem fun {o p} g d q x j y i e=>?_⟩
  ·unfold J6c;rw[pairwise_map];have o1:=mem_range.mp g;refine pairwise_lt_range.imp_of_mem fun {l m} h a q e=>?_;have:=(S.eq_of hb hb (.inl rfl) (by lia) (by lia) (by have:=mem_range.mp h;lia) (by have:=mem_range.mp a;lia) e).2.2;lia
  ·obtain⟨l,h,rfl⟩:=J4x.mp j;obtain⟨m,a,rfl⟩:=J4x.mp i;have:=(S.eq_of hb hb (.inl rfl) (by have:=mem_range.mp g;lia) (by have:=mem_range.mp d;lia) h a e).2.1;lia
 ·obtain⟨o,l,g,h,rfl⟩:=J5c.mp j;obtain⟨p,m,d,a,rfl⟩:=J5c.mp i;have w:=(S.bnd c n).1;obtain⟨rfl,_,_⟩:=S.eq_of hb n (.inr (.inl q)) g d h a e;lia
theorem Jhh(c:0<=b.2.1)(a:0<=b.2.2.1):((J53 f b).length:Int)=b.2.1*b.2.2.1:=by
 have:∀n ,((List.range n).flatMap (J6c f b)).length=n*b.2.2.1.toNat:=fun n=>by
  induction n with
  | zero=>simp
  | succ n ih =>
   rw[range_succ,flatMap_append,length_append,ih];have:([n].flatMap (J6c f b)).length=b.2.2.1.toNat:=by
    rw[List.flatMap_singleton];unfold J6c;rw[length_map,length_range]
   rw[this,Nat.succ_mul]
 unfold J53
 grind
theorem Jcj :∀{bs:List Band},(∀b∈bs,Bnd f b)->((J60 f bs).length:Int)=(bs.map fun b=>b.2.1*b.2.2.1).sum
 | [],_=>rfl
 | b::bs,h=>by
  have a:=Jcj (bs:=bs) fun c d=>h c (mem_cons_of_mem _ d);have B:=h b mem_cons_self;have w:=B.1;have e:=B.2.1;rw[map_cons,sum_cons,<- a,<- Jhh (f:=f) (b:=b) (by lia) (by lia)];unfold J60
  grind
theorem Sys.len(S:Sys f N bs):((J60 f bs).length:Int)=N:=by rw[Jcj S.bnd,S.sum]
theorem J8l :x∈J60 f bs↔∃b o a,Adr bs b o a/\plOf f bs b o a=x:=by
 unfold J60;rw[mem_flatMap];constructor
 ·rintro⟨c,i,d⟩;obtain⟨o,l,g,h,rfl⟩:=J5c.mp d;obtain⟨b,hb,rfl⟩:=List.getElem_of_mem i;have e:bs.getD b bz0=bs[b]:=by rw[getD_eq_getElem?_getD,gE hb];rfl
  refine⟨b,o,l,⟨hb,by lia,by rw[e];exact g,by lia,by rw[e];exact h⟩,?_⟩;unfold plOf;rw[e];rfl
 ·rintro⟨b,o,a,A,rfl⟩;refine⟨_,J3j A.hb,J5c.mpr ⟨o.toNat,a.toNat,?_,?_,?_⟩⟩
  ·have:=A.o0;have:=A.o1;lia
  ·have:=A.l0;have:=A.l1;lia
  ·have:=A.o0;unfold plOf;rw[show((o.toNat:Nat):Int)=o by lia]
theorem Sys.all_in(S:Sys f N bs)(h:x∈J60 f bs):0<=x/\x<N:=by
 obtain⟨b,o,a,A,rfl⟩:=J8l.mp h;exact S.pl_in A
theorem Sys.exists(S:Sys f N bs)(n:0<=x)(m:x<N):∃b o h,Adr bs b o h/\plOf f bs b o h=x:=by
 refine J8l.mp ?_;apply Classical.byContradiction;intro c;have nd:((x::J60 f bs).map Int.toNat).Nodup:=by
  refine pairwise_map.mpr ((nodup_cons.mpr ⟨c,S.nodup⟩).imp_of_mem fun {a b} l hb ne e=>?_);have g:∀{z},z∈x::J60 f bs->0<=z/\z<N:=fun {z} d=>by
   rcases mem_cons.mp d with rfl|d
   ·exact⟨n,m⟩
   ·exact S.all_in d
  have:=g l;have:=g hb;exact ne (by lia)
 have lt:∀j∈(x::J60 f bs).map Int.toNat,j<N.toNat:=fun j i=>by
  obtain⟨z,d,rfl⟩:=mem_map.mp i;rcases mem_cons.mp d with rfl|d
  ·lia
  ·have:=S.all_in d;lia
 have le:=J7u N.toNat _ nd lt;have p:=S.len;rw[length_map,length_cons] at le;lia
noncomputable def J3v(p:Cst):Band:=((chS p).1.size,p.1.ls.getD (nextN p.1).winner 0,p.2.getD (nextN p.1).winner 0,p.1.ts.getD (nextN p.1).winner false)
theorem Cok.band(h:Cok p)(one:∀j∈p.1.top,p.2.getD j 0=1)(l:Long p (k+1))(r:(nextN (chN p k).1).isHome=true):
  Bnd (go p.1) (J3v (chN p k))/\(J3v (chN p k)).1=(chN p (k+1)).1.size/\(J3v (chN p k)).1+(J3v (chN p k)).2.1=(chN p k).1.size:=by
 have n:Long p k:=fun i hi=>l i (by lia);have ne:=l k (by lia);have c:=h.at_ n;have np:=J5j c.ok ne;have tow:=Cok.tower h one n;have w:=np.win c.ok ne;have m:=c.ok.row.pos _ w;have pt:=c.tow.pos _ w;obtain⟨a,b⟩:∃a,nextN (chN p k).1=.home a:=by
  generalize nextN (chN p k).1=s at *;cases s <;> first|exact⟨_,rfl⟩|cases r
 rw[b] at np;obtain⟨y,v⟩:=Js8 c.ok ne np;have g:(J3v (chN p k)).1=(chN p (k+1)).1.size:=rfl;have d:(chN p (k+1)).1.size=((Stp.home a).behind (chN p k).1).size:=by
  show((nextN (chN p k).1).behind (chN p k).1).size=_;rw[b]
 have e:(J3v (chN p k)).2.1=(chN p k).1.ls.getD a 0:=by show(chN p k).1.ls.getD (nextN (chN p k).1).winner 0=_;rw[b];rfl
 have q:(J3v (chN p k)).2.2.1=(chN p k).2.getD a 0:=by show(chN p k).2.getD (nextN (chN p k).1).winner 0=_;rw[b];rfl
 have z:(J3v (chN p k)).2.2.2=(chN p k).1.ts.getD a false:=by show(chN p k).1.ts.getD (nextN (chN p k).1).winner false=_;rw[b];rfl
 have f:(nextN (chN p k).1).winner=a:=by rw[b];rfl
 rw[f] at m pt;have sz:(J3v (chN p k)).1+(J3v (chN p k)).2.1=(chN p k).1.size:=by rw[g,d,e];exact y
 refine⟨⟨by rw[e];exact m,by rw[q];exact pt,fun o o0 o1=>?_⟩,g,sz⟩;rw[sz];rw[g,d] at *;rw[e] at o1 sz;obtain⟨A,u⟩:=v (((Stp.home a).behind (chN p k).1).size+o) (by lia) (by lia);have F:=tow _ _ _ A;rw[u] at F;rw[q];have B:(if (chN p k).1.ts.getD a false=true then ((Stp.home a).behind (chN p k).1).size+(chN p k).1.size-1-(((Stp.home a).behind (chN p k).1).size+o) else ((Stp.home a).behind (chN p k).1).size+o)=((Stp.home a).behind (chN p k).1).size+J50 (J3v (chN p k)) o:=by
  unfold J50;rw[z,e];split <;> lia
 rw[B] at F;exact F
theorem J82 :∀{m:Nat},b∈bndN p m->∃k,k<m/\(nextN (chN p k).1).isHome=true/\b=J3v (chN p k)
 | 0,h=>by cases h
 | m+1,h=>by
  rcases mem_append.mp h with h|h
  ·obtain⟨k,a,q⟩:=J82 h;exact⟨k,by lia,q⟩
  ·unfold bndB at h;split at h
   ·rename_i hh;exact⟨m,by lia,hh,mem_singleton.mp h⟩
   ·cases h
theorem Cok.sizes(h:Cok p)(l:Long p m):∀{i k:Nat},i<=k->k<=m->(chN p k).1.size<=(chN p i).1.size:=fun {i k} a b=>by
 induction k with
 | zero=>rw[Nat.le_zero.mp a];exact Int.le_refl _
 | succ k ih =>
  by_cases e:i=k+1
  ·rw[e];exact Int.le_refl _
  ·have c:=h.at_ (k:=k) (fun i hi=>l i (by lia));have d:=(c.ok.down (l k (by lia))).less;have d':(chN p (k+1)).1.size<(chN p k).1.size:=d;lia
theorem Cok.ordB(h:Cok p)(one:∀j∈p.1.top,p.2.getD j 0=1):∀{m:Nat},Long p m->(bndN p m).Pairwise fun b c=>c.1+c.2.1<=b.1
 | 0,_=>List.Pairwise.nil
 | m+1,l=>by
  have d:Long p m:=fun i hi=>l i (by lia);show(bndN p m++bndB (chN p m)).Pairwise _;refine List.pairwise_append.mpr ⟨Cok.ordB h one d,?_,fun b hb c a=>?_⟩
  ·unfold bndB;split
   ·exact List.pairwise_singleton _ _
   ·exact List.Pairwise.nil
  ·obtain⟨k,f,e,rfl⟩:=J82 hb;unfold bndB at a;split at a
   ·rename_i hm;obtain rfl:=mem_singleton.mp a;obtain⟨_,n,_⟩:=h.band one (k:=k) (fun i hi=>l i (by lia)) e;obtain⟨_,_,g⟩:=h.band one (k:=m) l hm;have s:=h.sizes l (i:=k+1) (k:=m) (by lia) (by lia);show(J3v (chN p m)).1+(J3v (chN p m)).2.1<=_;lia
   ·cases a
noncomputable def J5z(bs:List Band):Int:=(bs.map fun b=>b.2.1*b.2.2.1).sum
theorem Jer(xs ys:List Band):J5z (xs++ys)=J5z xs+J5z ys:=by unfold J5z;rw[map_append,sum_append]
theorem Cok.sumB(h:Cok p):∀{k:Nat},Long p k->wS (chN p k).1.ls (chN p k).2 (chN p k).1.top+J5z (bndN p k)=wS p.1.ls p.2 p.1.top
 | 0,_=>by show wS p.1.ls p.2 p.1.top+0=_;lia
 | k+1,l=>by
  have b:Long p k:=fun i hi=>l i (by lia);have d:=Cok.sumB h b;have c:=h.at_ b;have st:=c.ok.stay (l k (by lia)) c.tow.len;show wS (chS (chN p k)).1.ls (chS (chN p k)).2 (chS (chN p k)).1.top+J5z (bndN p k++bndB (chN p k))=_;have a:wS (chS (chN p k)).1.ls (chS (chN p k)).2 (chS (chN p k)).1.top+(if (nextN (chN p k).1).isHome=true then (chN p k).1.ls.getD (nextN (chN p k).1).winner 0*(chN p k).2.getD (nextN (chN p k).1).winner 0 else 0)=wS (chN p k).1.ls (chN p k).2 (chN p k).1.top:=st;rw[Jer,<- d,<- a];unfold bndB;by_cases c:(nextN (chN p k).1).isHome=true
  ·rw[if_pos c,if_pos c];show _+(_+(((chN p k).1.ls.getD (nextN (chN p k).1).winner 0*(chN p k).2.getD (nextN (chN p k).1).winner 0)+0))=_;lia
  ·rw[if_neg c,if_neg c];show _+(_+0)=_;lia
theorem Cok.sys(h:Cok p)(one:∀j∈p.1.top,p.2.getD j 0=1)(a:wS p.1.ls p.2 p.1.top=p.1.size)(l:Long p m)(e:(chN p m).1.top=[]):Sys (go p.1) p.1.size (bndN p m) where
 inn:=fun y g f=>go_in h.ok g f
 inj:=fun y z g f k0 k1 q=>go_inj h.ok g f k0 k1 q
 bnd:=fun b hb=>by
  obtain⟨k,o,d,rfl⟩:=J82 hb;exact(h.band one (fun i hi=>l i (by lia)) d).1
 lo:=fun b hb=>by
  obtain⟨k,o,d,rfl⟩:=J82 hb;obtain⟨_,w,v⟩:=h.band one (k:=k) (fun i hi=>l i (by lia)) d;have s:=h.sizes l (i:=0) (k:=k) (by lia) (by lia);have s':(chN p k).1.size<=p.1.size:=s;have c:=h.at_ (k:=k+1) (fun i hi=>l i (by lia));have u:0<=(chN p (k+1)).1.size:=J17 fun j r=>by have:=c.ok.row.pos j r;lia
  lia
 ord:=h.ordB one l
 sum:=by
  have:=h.sumB l;rw[e] at this;have n:wS (chN p m).1.ls (chN p m).2 []=0:=rfl;rw[n,a] at this;have t:J5z (bndN p m)=p.1.size:=by lia
  exact t
structure J45(f:Int->Int)(lo:Int)(n:Nat)(y z:Int):Prop where
 last:itN f n y=z
 mid:∀i,0<i->i<=n->lo<=itN f i y
theorem J45.zero :J45 f lo 0 y y:=⟨rfl,fun i b a=>by lia⟩
theorem J1j.reach(F:J1j f lo n y z)(h:lo<=z):J45 f lo n y z:=⟨F.last,fun i a b=>by
 by_cases c:i<n
 ·exact F.mid i a c
 ·rw[show i=n by lia,F.last];exact h⟩
theorem J45.trans(a:J45 f lo n y z)(b:J45 f lo m z w):J45 f lo (n+m) y w:=by
 refine⟨by rw[J15,a.last,b.last],fun i d e=>?_⟩;by_cases c:i<=n
 ·exact a.mid i d c
 ·obtain⟨k,rfl⟩:∃k,i=n+k:=⟨i-n,by lia⟩;rw[J15,a.last];exact b.mid k (by lia) (by lia)
theorem J45.low(a:J45 f lo n y z)(h:lo'<=lo):J45 f lo' n y z:=⟨a.last,fun i c b=>by have:=a.mid i c b;lia⟩
theorem J45.lt(a:J45 f lo n y z)(F:J1j f lo m y w)(hw:w<lo):n<m:=by
 apply Classical.byContradiction;intro c;have:=a.mid m F.pos (by lia);rw[F.last] at this;lia
theorem Jhm(h:Row ls row)(b:j∈row):(firsts ls row).getD j 0=posR ls row j:=by
 obtain⟨k,a,rfl⟩:=Jfy b;rw[h.first a,J4u _ h.nd a]
theorem Jov(h:r.Ok)(a:AtR r.ls r.bot y i):J36 r (J4f r.ls r.ts (r.bot.getD i 0) (y-Jq r.ls r.bot i) (firsts r.ls r.top)) y:=by
 obtain⟨c,g,f⟩:=a;rw[J16] at f;have d:=J28 c;have b:=h.perm.mem_iff.mp d;have e:=J4u r.ls h.rowB.nd c;refine(J7z h).mpr ⟨r.bot.getD i 0,if r.ts.getD (r.bot.getD i 0) false=true then r.ls.getD (r.bot.getD i 0) 0-1-(y-Jq r.ls r.bot i) else y-Jq r.ls r.bot i,⟨b,?_,?_,?_⟩,?_⟩
 ·split <;> lia
 ·split <;> lia
 ·unfold J4f;rw[Jhm h.row b];split <;> lia
 ·unfold offT;rw[e];split <;> lia
theorem share_of(d:Down r s)(np:J2t r s)(b:s.isHome=false):(r.size-(s.behind r).size)/s.times=J2 r.ls (s.losers r)/\r.size-(s.behind r).size=s.times*J2 r.ls (s.losers r):=by
 have e:=d.size;rw[b] at e;have c:=J3g np;have a:r.size-(s.behind r).size=s.times*J2 r.ls (s.losers r):=by
  grind
 exact⟨by rw[a,Int.mul_ediv_cancel_left _ (by lia)],a⟩
theorem J75(h:r.Ok)(ne:r.top≠[])(np:J2t r s)(f:s.isHome=false):1<=J2 r.ls (s.losers r):=by
 refine J6l (fun j d=>h.row.pos j ((np.losers_lt h ne).1 j d)) (fun e=>?_)
 cases s with
 | home a=>cases f
 | even a b=>cases e
 | over a b=>cases e
 | under a b=>cases e
 | overs a t =>
  have c:=np.2.2.2.2.1;have e:J6 r.bot a=[]:=e;rw[e,J22] at c;lia
 | unders a t =>
  have c:=np.2.2.2.2.1;have e:J6 r.top a=[]:=e;rw[e,J22] at c;lia
theorem Jhr{r:Rst}(h:r.Ok)(ne:r.top≠[]){s:Stp}(np:J2t r s)(okl:(s.behind r).Ok)(own:s.own=true){z m:Int}(g:J36 r z m)(p:r.size-J2 r.ls (s.losers r)<=m):
  ∃j o,J10 (s.behind r) z j o/\J10 r z j o/\j∈s.losers r:=by
 obtain⟨j,o,A,J⟩:=(J7z h).mp g;have of:=A.off;have y:r.bot≠[]:=fun e=>ne (by have:=h.perm;rw[e] at this;exact this.symm.eq_nil);have l:∀i∈r.bot,0<=r.ls.getD i 0:=fun i hi=>by have:=h.rowB.pos i hi;lia
 cases s with
 | home a=>cases own
 | under a b=>cases own
 | unders a t=>cases own
 | even a b =>
  obtain⟨D,H,C,K⟩:=np;obtain⟨T,f⟩:=J1c ne;obtain⟨B,d⟩:=J1c y;have f:r.top=T++[a]:=by rw[D];exact f
  have d:r.bot=B++[b]:=by rw[H];exact d
  have Q:=J1t (d▸h.rowB.nd);have w:=J1t (f▸h.row.nd);have sz:r.size=J2 r.ls B+r.ls.getD b 0:=by rw[<- h.sizeB,d,Jg,J12]
  have p:r.size-J2 r.ls [b]<=m:=p;rw[J12] at p;have jb:j=b:=by
   apply Classical.byContradiction;intro c;have u:j∈B:=by
    have:=h.perm.mem_iff.mpr A.1;rw[d] at this;exact(mem_append.mp this).resolve_right fun q=>c (mem_singleton.mp q)
   have:=J5p (ls:=r.ls) (row:=B) (fun i hi=>l i (by rw[d];exact mem_append_left _ hi)) u;rw[d,Jy _ _ u] at J;lia
  subst jb;refine⟨j,o,?_,A,mem_singleton.mpr rfl⟩;obtain⟨n,G,F,E⟩:=A;have N:j∈T:=by
   rw[f] at n;exact(mem_append.mp n).resolve_right fun q=>C (mem_singleton.mp q).symm
  have lt:((Stp.even a j).behind r).top=T:=by show withoutR r.top a=T;rw[f,J1m,J1v,append_nil,J1l w]
  have la:=h.row.lt a (by rw[f];simp);refine⟨by rw[lt];exact N,G,?_,?_⟩
  ·show o<(r.ls.set a 0).getD j 0;rw[Jx _ _ _ _ la,if_neg (Ne.symm C)];exact F
  ·rw[lt,E,f,Jy _ _ N];show _=posR (r.ls.set a 0) T j+o;rw[J11 _ _ w]
 | over a b =>
  obtain⟨D,H,C,K⟩:=np;obtain⟨T,f⟩:=J1c ne;obtain⟨B,d⟩:=J1c y;have f:r.top=T++[a]:=by rw[D];exact f
  have d:r.bot=B++[b]:=by rw[H];exact d
  have Q:=J1t (d▸h.rowB.nd);have w:=J1t (f▸h.row.nd);have sz:r.size=J2 r.ls B+r.ls.getD b 0:=by rw[<- h.sizeB,d,Jg,J12]
  have p:r.size-J2 r.ls [b]<=m:=p;rw[J12] at p;have jb:j=b:=by
   apply Classical.byContradiction;intro c;have u:j∈B:=by
    have:=h.perm.mem_iff.mpr A.1;rw[d] at this;exact(mem_append.mp this).resolve_right fun q=>c (mem_singleton.mp q)
   have:=J5p (ls:=r.ls) (row:=B) (fun i hi=>l i (by rw[d];exact mem_append_left _ hi)) u;rw[d,Jy _ _ u] at J;lia
  subst jb;refine⟨j,o,?_,A,mem_singleton.mpr rfl⟩;obtain⟨n,G,F,E⟩:=A;have la:=h.row.lt a (by rw[f];simp);refine⟨n,G,?_,?_⟩
  ·show o<(r.ls.set a _).getD j 0;rw[Jx _ _ _ _ la,if_neg (Ne.symm C)];exact F
  ·rw[E];show _=posR (r.ls.set a _) r.top j+o;rw[f] at n ⊢;rw[J2a _ _ w n]
 | overs a t =>
  obtain⟨D,H,C,K,W,U⟩:=np;obtain⟨T,f⟩:=J1c ne;have f:r.top=T++[a]:=by rw[D];exact f
  have w:=J1t (f▸h.row.nd);have v:a∈r.top:=by rw[f];simp
  obtain⟨X,Y,d,P⟩:=J66 (h.perm.mem_iff.mpr v);obtain⟨_,R,Z⟩:=J7e (d▸h.rowB.nd);have O:J6 r.bot a=Y:=by rw[d];exact J4k P
  have p:r.size-J2 r.ls (J6 r.bot a)<=m:=p;rw[O] at p;have sz:r.size=J2 r.ls X+r.ls.getD a 0+J2 r.ls Y:=by rw[<- h.sizeB,d,Jg,Jn];lia
  have L:j∈Y:=by
   apply Classical.byContradiction;intro c;have u:j∈X++a::Y:=by rw[<- d];exact h.perm.mem_iff.mpr A.1
   by_cases I:j=a
   ·subst I;rw[d,Jw _ _ P] at J;lia
   ·have M:j∈X:=by simpa [c,I] using u
    have:=J5p (ls:=r.ls) (row:=X) (fun i hi=>l i (by rw[d];exact mem_append_left _ hi)) M;have S:=h.row.pos a v;rw[d,Jy _ _ M] at J;lia
  have I:j≠a:=fun e=>R (e▸L);refine⟨j,o,?_,A,by show j∈J6 r.bot a;rw[O];exact L⟩;obtain⟨n,G,F,E⟩:=A;have la:=h.row.lt a v;refine⟨n,G,?_,?_⟩
  ·show o<(r.ls.set a _).getD j 0;rw[Jx _ _ _ _ la,if_neg I];exact F
  ·rw[E];show _=posR (r.ls.set a _) r.top j+o;rw[f] at n ⊢;rw[J2a _ _ w n]
theorem Jeo{r:Rst}(h:r.Ok)(ne:r.top≠[]){s:Stp}(np:J2t r s)(okl:(s.behind r).Ok)(hh:s.isHome=false)(own:s.own=false){z y:Int}(g:J36 r z y)(h0:(s.behind r).size<=y)(h1:y<r.size){t':Int}(H:t'=(y-(s.behind r).size)/J2 r.ls (s.losers r)):
  ∃j o,J10 (s.behind r) (z-t'*J2 r.ls (s.losers r)) j o/\j∈s.losers r:=by
 obtain⟨f,o0,w,W⟩:=(J7z h).mp g;have D:r.bot≠[]:=fun e=>ne (by have:=h.perm;rw[e] at this;exact this.symm.eq_nil);have C:∀i∈r.bot,0<=r.ls.getD i 0:=fun i hi=>by have:=h.rowB.pos i hi;lia
 have G:∀{a:Nat} {B:List Nat},r.bot=B++[a]->a∈r.top->J2 r.ls B<=y->f=a/\y=J2 r.ls B+offT r a o0:=fun {a B} d l hy=>by
  have I:=J1t (d▸h.rowB.nd);have e:f=a:=by
   apply Classical.byContradiction;intro c;have T:f∈B:=by
    have:=h.perm.mem_iff.mpr w.1;rw[d] at this;exact(mem_append.mp this).resolve_right fun q=>c (mem_singleton.mp q)
   have:=J5p (ls:=r.ls) (row:=B) (fun i hi=>C i (by rw[d];exact mem_append_left _ hi)) T;have of:=w.off;rw[d,Jy _ _ T] at W;lia
  subst e;refine⟨rfl,?_⟩;rw[W,d,Jw _ _ I]
 cases s with
 | home a=>cases hh
 | even a b=>cases own
 | over a b=>cases own
 | overs a t=>cases own
 | under a b =>
  obtain⟨L,K,E,Q⟩:=np;obtain⟨B,d⟩:=J1c D;have d:r.bot=B++[a]:=by rw[L];exact d
  have l:=h.perm.mem_iff.mp (show a∈r.bot by rw[d];simp);obtain⟨X,Y,m,u⟩:=J7v ne l (fun e=>E (by rw[K];exact e.symm));have m:r.top=X++a::(Y++[b]):=by rw[K];exact m
  have p:b∈r.top:=by rw[m];simp
  obtain⟨_,ad,XY⟩:=J7e (m▸h.row.nd);have bX:b ∉ X:=fun q=>XY b q (by simp);have I:=J1t (d▸h.rowB.nd);have la:=h.row.lt a l;have pb:=h.row.pos b p;have n:((Stp.under a b).behind r).ls.getD a 0=r.ls.getD a 0-r.ls.getD b 0:=by show(r.ls.set a _).getD a 0=_;rw[Jx _ _ _ _ la,if_pos rfl]
  have N:((Stp.under a b).behind r).ls.getD b 0=r.ls.getD b 0:=by show(r.ls.set a _).getD b 0=_;rw[Jx _ _ _ _ la,if_neg (Ne.symm E)]
  have J:((Stp.under a b).behind r).size=J2 r.ls B+r.ls.getD a 0-r.ls.getD b 0:=by
   rw[<- okl.sizeB,show((Stp.under a b).behind r).bot=B++[a] from d,Jg,J12,n,show J2 ((Stp.under a b).behind r).ls B=J2 r.ls B from Jk _ _ I];lia
  have sz:r.size=J2 r.ls B+r.ls.getD a 0:=by rw[<- h.sizeB,d,Jg,J12]
  have lt:((Stp.under a b).behind r).top=X++(if r.ts.getD a false=true then b::a::Y else a::b::Y):=J7r m h.row.nd _;have F:J2 ((Stp.under a b).behind r).ls X=J2 r.ls X:=Jk _ _ u;have tp:((Stp.under a b).behind r).top.Perm r.top:=J39 h.row.nd p _;have t0:t'=0:=by
   rw[H];show(y-((Stp.under a b).behind r).size)/J2 r.ls [b]=0;rw[J12];exact Int.ediv_eq_zero_of_lt (by lia) (by lia)
  obtain⟨rfl,v⟩:=G d l (by lia);have U:z=J2 r.ls X+o0:=by rw[w.2.2.2,m,Jw _ _ u]
  have ac:=w.2.1;have ab:=w.2.2.1;subst t0;rw[Int.zero_mul,Int.sub_zero];refine⟨b,if r.ts.getD f false=true then o0 else o0-(r.ls.getD f 0-r.ls.getD b 0),⟨tp.mem_iff.mpr p,?_,?_,?_⟩,mem_singleton.mpr rfl⟩
  ·unfold offT at v;split at v <;> rename_i ct
   ·rw[if_pos ct];lia
   ·rw[if_neg ct];lia
  ·rw[N];unfold offT at v;split at v <;> rename_i ct
   ·rw[if_pos ct];lia
   ·rw[if_neg ct];lia
  ·rw[lt];by_cases ct:r.ts.getD f false=true
   ·rw[if_pos ct,if_pos ct,Jw _ _ bX,F];exact U
   ·rw[if_neg ct,if_neg ct,Jz _ _ bX,Jv _ E,J2y,F,n];lia
 | unders a t =>
  obtain⟨L,K,E,Q,P,n6⟩:=np;obtain⟨B,d⟩:=J1c D;have d:r.bot=B++[a]:=by rw[L];exact d
  have l:=h.perm.mem_iff.mp (show a∈r.bot by rw[d];simp);obtain⟨X,Y,m,u⟩:=J66 l;obtain⟨_,aY,XY⟩:=J7e (m▸h.row.nd);have Z:J6 r.top a=Y:=by rw[m];exact J4k u
  have I:=J1t (d▸h.rowB.nd);have la:=h.row.lt a l;have H:t'=(y-((Stp.unders a t).behind r).size)/J2 r.ls (J6 r.top a):=H;show ∃j o,J10 ((Stp.unders a t).behind r) (z-t'*J2 r.ls (J6 r.top a)) j o/\j∈J6 r.top a;rw[Z] at H P n6 ⊢;have n:((Stp.unders a t).behind r).ls.getD a 0=r.ls.getD a 0-t*J2 r.ls Y:=by show(r.ls.set a (_-t*J2 r.ls (J6 r.top a))).getD a 0=_;rw[Jx _ _ _ _ la,if_pos rfl,Z]
  have tS:1<=t*J2 r.ls Y:=by
   have:=Int.mul_le_mul Q P (by decide) (by lia);lia
  have J:((Stp.unders a t).behind r).size=J2 r.ls B+r.ls.getD a 0-t*J2 r.ls Y:=by
   rw[<- okl.sizeB,show((Stp.unders a t).behind r).bot=B++[a] from d,Jg,J12,n,show J2 ((Stp.unders a t).behind r).ls B=J2 r.ls B from Jk _ _ I];lia
  have sz:r.size=J2 r.ls B+r.ls.getD a 0:=by rw[<- h.sizeB,d,Jg,J12]
  have aa:r.size=J2 r.ls X+r.ls.getD a 0+J2 r.ls Y:=by show J2 r.ls r.top=_;rw[m,Jg,Jn];lia
  have F:J2 ((Stp.unders a t).behind r).ls X=J2 r.ls X:=Jk _ _ u;obtain⟨rfl,v⟩:=G d l (by lia);have U:z=J2 r.ls X+o0:=by rw[w.2.2.2,m,Jw _ _ u]
  have eo:offT r f o0=o0:=by unfold offT;rw[E,if_neg (by decide)]
  rw[eo] at v;have d1:=Int.ediv_mul_le (y-((Stp.unders f t).behind r).size) (show J2 r.ls Y≠0 by lia);have d2:=Int.lt_ediv_add_one_mul_self (y-((Stp.unders f t).behind r).size) (show 0<J2 r.ls Y by lia);rw[<- H] at d1 d2;rw[Int.add_mul,Int.one_mul] at d2;have lY:J2 r.ls X+r.ls.getD f 0-t*J2 r.ls Y<=z-t'*J2 r.ls Y:=by lia
  have M:0<=z-t'*J2 r.ls Y:=by
   have:0<=J2 r.ls X:=J17 fun i hi=>by have:=h.row.pos i (by rw[m];exact mem_append_left _ hi);lia
   lia
  obtain⟨j,o,A⟩:=okl.letAt M (by lia);refine⟨j,o,A,?_⟩;have jT:j∈X++f::Y:=by
   have:=A.1;rw[show((Stp.unders f t).behind r).top=X++f::Y from m] at this;exact this
  apply Classical.byContradiction;intro c;obtain⟨_,A2,A3,O⟩:=A;rw[show((Stp.unders f t).behind r).top=X++f::Y from m] at O;by_cases R:j=f
  ·subst R;rw[Jw _ _ u,F] at O;rw[n] at A3;lia
  ·have S:j∈X:=by simpa [c,R] using jT
   have:=J5p (ls:=((Stp.unders f t).behind r).ls) (row:=X) (fun i hi=>by have:=okl.row.pos i (by rw[show((Stp.unders f t).behind r).top=X++f::Y from m];exact mem_append_left _ hi);lia) S;rw[Jy _ _ S] at O;rw[F] at this;lia
structure Twr(f:Int->Int)(r:Rst)(T:List Int):Prop where
 pos:∀j∈r.top,1<=T.getD j 0
 fst:∀y j o,J10 r y j o->J1j f r.size (T.getD j 0).toNat y (go r y)
theorem Cok.twr(h:Cok p)(one:∀j∈p.1.top,p.2.getD j 0=1)(l:Long p k):Twr (go p.1) (chN p k).1 (chN p k).2:=⟨(h.at_ l).tow.pos,fun y j o A=>h.tower one l y j o A⟩
theorem Jk4{a:Int}(c:0<=a)(hb:0<=b):(a*b).toNat=a.toNat*b.toNat:=by
 grind
theorem Jsh{a:Int}(c:0<=a)(hb:0<=b):(a+b).toNat=a.toNat+b.toNat:=by lia
section
variable{f:Int->Int}{r:Rst}{T:List Int}{s:Stp}
theorem Jow(h:r.Ok)(ne:r.top≠[])(np:J2t r s)(okl:(s.behind r).Ok)(d:Down r s)(R:J6u r s)(W:Twr f r T)(v:s.isHome=false)(own:s.own=true)(I:(s.behind r).size<=y)(h1:y<r.size)(G:t'=(r.size-1-y)/J2 r.ls (s.losers r)):
  0<=t'/\t'<s.times/\(0<=y+t'*J2 r.ls (s.losers r)/\y+t'*J2 r.ls (s.losers r)<r.size)/\∀z,J36 r z (y+t'*J2 r.ls (s.losers r))->∃j o,J10 r z j o/\(0<=z/\z<(s.behind r).size)/\J45 f (s.behind r).size (T.getD j 0+t'*T.getD s.winner 0).toNat z y:=by
 have hs:=J75 h ne np v;obtain⟨_,Z⟩:=share_of d np v;have Y:=J3g np;have w:=np.win h ne;have pw:=W.pos _ w;have less:=Int.le_of_lt d.less;have K:=Int.ediv_mul_le (r.size-1-y) (show J2 r.ls (s.losers r)≠0 by lia);have B:=Int.lt_ediv_add_one_mul_self (r.size-1-y) (show 0<J2 r.ls (s.losers r) by lia);have m:0<=t':=by rw[G];exact Int.ediv_nonneg (by lia) (by lia)
 rw[<- G] at K B;rw[Int.add_mul,Int.one_mul] at B;have X:0<=(s.behind r).size:=J17 fun j u=>by have:=okl.row.pos j u;lia
 have P:0<=t'*J2 r.ls (s.losers r):=Int.mul_nonneg m (by lia);have E:t'<s.times:=by
  apply Classical.byContradiction;intro c;have:s.times*J2 r.ls (s.losers r)<=t'*J2 r.ls (s.losers r):=Int.mul_le_mul_of_nonneg_right (by lia) (by lia);lia
 refine⟨m,E,⟨by lia,by lia⟩,fun z g=>?_⟩;obtain⟨j,o,M,A,u⟩:=Jhr h ne np okl own g (by lia);have p:=go_of h g;have pj:=W.pos j A.1;have L:=R.lose z j o M u;have l:=(W.fst _ _ _ A).low less;rw[p] at l;refine⟨j,o,A,M.inside okl,?_⟩;have i:∀{t S:Int},J2 r.ls (s.losers r)=S->t'<t->(∀k ,0<=k->k<t->(s.behind r).size<=go r z-k*S/\(∃q,J10 r (go r z-k*S) s.winner q)/\go r (go r z-k*S)=go r z-k*S-S)->
   J45 f (s.behind r).size (T.getD j 0+t'*T.getD s.winner 0).toNat z y:=fun {t S} J Q H=>by
  rw[p,J] at H;rw[J] at l p K B P;have F:=(H 0 (by lia) (by lia)).1;rw[Int.zero_mul,Int.sub_zero] at F;have D:=l.reach F;by_cases c:t'=0
  ·subst c;rw[Int.zero_mul,Int.add_zero] at D;rw[Int.zero_mul,Int.add_zero];exact D
  ·obtain⟨n,U⟩:∃n:Nat,t'=(n:Int)+1:=⟨(t'-1).toNat,by lia⟩;have C:=J78 (f:=f) (r:=r) (N:=fun j=>(T.getD j 0).toNat) (lo:=(s.behind r).size) less W.fst H n (by lia);rw[<- U,show y+t'*S-t'*S=y by lia] at C;have R2:=D.trans (C.reach I);have e:(T.getD j 0).toNat+(n+1)*(T.getD s.winner 0).toNat=(T.getD j 0+t'*T.getD s.winner 0).toNat:=by
    rw[Jsh (by lia) (Int.mul_nonneg m (by lia)),Jk4 m (by lia),show t'.toNat=n+1 by lia]
   rw[<- e];exact R2
 have one:s.times=1->(s.behind r).size<=go r z->(∃q,J10 r (go r z) s.winner q)->J45 f (s.behind r).size (T.getD j 0+t'*T.getD s.winner 0).toNat z y:=fun e1 l2 l3=>by
  have O:t'=0:=by lia
  subst O;rw[Int.zero_mul,Int.add_zero] at l p;rw[Int.zero_mul,Int.add_zero];exact l.reach I
 cases s with
 | home a=>cases v
 | under a b=>cases own
 | unders a t=>cases own
 | even a b=>exact one rfl L.2.1 L.2.2.1
 | over a b=>exact one rfl L.2.1 L.2.2.1
 | overs a t=>exact i rfl E L.2.1
theorem Jlm(h:r.Ok)(ne:r.top≠[])(np:J2t r s)(okl:(s.behind r).Ok)(d:Down r s)(R:J6u r s)(W:Twr f r T)(l:s.isHome=false)(own:s.own=false)(p:(s.behind r).size<=y)(J:y<r.size)(m:t'=(y-(s.behind r).size)/J2 r.ls (s.losers r)):
  0<=t'/\t'<s.times/\∀z,J36 r z y->(0<=z-t'*J2 r.ls (s.losers r)/\z-t'*J2 r.ls (s.losers r)<(s.behind r).size)/\J45 f (s.behind r).size ((t'+1)*T.getD s.winner 0).toNat (z-t'*J2 r.ls (s.losers r)) y:=by
 have X:=J75 h ne np l;obtain⟨_,Q⟩:=share_of d np l;have P:=J3g np;have w:=np.win h ne;have A:=W.pos _ w;have less:=Int.le_of_lt d.less;have D:=Int.ediv_mul_le (y-(s.behind r).size) (show J2 r.ls (s.losers r)≠0 by lia);have u:=Int.lt_ediv_add_one_mul_self (y-(s.behind r).size) (show 0<J2 r.ls (s.losers r) by lia);have v:0<=t':=by rw[m];exact Int.ediv_nonneg (by lia) (by lia)
 rw[<- m] at D u;rw[Int.add_mul,Int.one_mul] at u;have i:t'<s.times:=by
  apply Classical.byContradiction;intro c;have:s.times*J2 r.ls (s.losers r)<=t'*J2 r.ls (s.losers r):=Int.mul_le_mul_of_nonneg_right (by lia) (by lia);lia
 refine⟨v,i,fun z g=>?_⟩;obtain⟨j,o,G,I⟩:=Jeo h ne np okl l own g p J m;have B:=go_of h g;have L:=R.lose _ j o G I;refine⟨G.inside okl,?_⟩
 cases s with
 | home a=>cases l
 | even a b=>cases own
 | over a b=>cases own
 | overs a t=>cases own
 | under a b =>
  have i:t'<1:=i;obtain rfl:t'=0:=by lia
  rw[Int.zero_mul,Int.sub_zero] at L ⊢;obtain⟨⟨S,l1⟩,U,_⟩:=L;have F:=(W.fst _ _ _ l1).low less;rw[B] at F;rw[Int.zero_add,Int.one_mul];exact F.reach p
 | unders a t =>
  have O:J2 r.ls ((Stp.unders a t).losers r)=J2 r.ls (J6 r.top a):=rfl;rw[O] at D u;show J45 f ((Stp.unders a t).behind r).size _ (z-t'*J2 r.ls (J6 r.top a)) y;obtain⟨E,_⟩:=L;obtain⟨n,H⟩:∃n:Nat,t'=n:=⟨t'.toNat,by lia⟩;have i:t'<t:=i;have C:J1j f ((Stp.unders a t).behind r).size ((n+1)*(T.getD a 0).toNat) (z-t'*J2 r.ls (J6 r.top a)) (z-t'*J2 r.ls (J6 r.top a)+((n:Int)+1)*J2 r.ls (J6 r.top a)):=Jbm (f:=f) (r:=r) (w:=a) (N:=fun j=>(T.getD j 0).toNat) (lo:=((Stp.unders a t).behind r).size) less W.fst E n (by lia);have K:z-t'*J2 r.ls (J6 r.top a)+t'*J2 r.ls (J6 r.top a)=z:=by lia
  have q:go r (z-t'*J2 r.ls (J6 r.top a)+t'*J2 r.ls (J6 r.top a))=z-t'*J2 r.ls (J6 r.top a)+t'*J2 r.ls (J6 r.top a)+J2 r.ls (J6 r.top a):=(E t' v i).2.1;rw[K,B] at q;have M:z-t'*J2 r.ls (J6 r.top a)+((n:Int)+1)*J2 r.ls (J6 r.top a)=y:=by
   rw[<- H,Int.add_mul,Int.one_mul];lia
  rw[M] at C;have e:(n+1)*(T.getD a 0).toNat=((t'+1)*T.getD (Stp.unders a t).winner 0).toNat:=by
   show _=((t'+1)*T.getD a 0).toNat;have A:1<=T.getD a 0:=A;rw[Jk4 (by lia) (by lia),show(t'+1).toNat=n+1 by lia]
  rw[<- e];exact C.reach p
end
theorem idx_of{ns:List Int}(nd:ns.Nodup)(hb:b<ns.length)(e:ns[b]=v):ns.idxOf v=b:=by
 grind
noncomputable abbrev J5n(bs:List Band):List Int:=(List.range bs.length).map fun i=>(bs.getD i bz0).1
theorem Sys.starts(S:Sys f N bs)(hb:b<bs.length):(bs.getD b bz0).1∈J5n bs/\(J5n bs).idxOf (bs.getD b bz0).1=b:=by
 have nd:(J5n bs).Nodup:=by
  refine pairwise_map.mpr (pairwise_lt_range.imp_of_mem fun {i j} hi a h e=>?_);have hi:=mem_range.mp hi;have a:=mem_range.mp a;have d:=S.apart hi a h;have w:=(S.bnd _ (J3j a)).1;lia
 have c:b<(J5n bs).length:=by simp_all
 have e:(J5n bs)[b]=(bs.getD b bz0).1:=by rw[List.getElem_map,List.getElem_range]
 exact⟨e▸List.getElem_mem c,idx_of nd c e⟩
theorem Jkp(g:k<m)(d:(nextN (chN p k).1).isHome=true):∃b,b<(bndN p m).length/\(bndN p m).getD b bz0=J3v (chN p k):=by
 induction m with
 | zero=>lia
 | succ m ih =>
  have e:bndN p (m+1)=bndN p m++bndB (chN p m):=rfl;by_cases c:k=m
  ·subst c;have a:bndB (chN p k)=[J3v (chN p k)]:=by unfold bndB;rw[if_pos d];rfl
   refine⟨(bndN p k).length,by rw[e,a,length_append];show _<_+1;lia,?_⟩;rw[e,a,getD_eq_getElem?_getD,getElem?_append_right (Nat.le_refl _),Nat.sub_self];rfl
  ·obtain⟨b,hb,f⟩:=ih (by lia);refine⟨b,by rw[e,length_append];lia,?_⟩;rw[e,getD_eq_getElem?_getD,getElem?_append_left hb,<- f,getD_eq_getElem?_getD]
structure Jdh(f:Int->Int)(r:Rst)(T:List Int)(s:Stp):Prop where
 ok:r.Ok
 ne:r.top≠[]
 np:J2t r s
 okl:(s.behind r).Ok
 down:Down r s
 ret:J6u r s
 twr:Twr f r T
 len:T.length=r.ls.length
 sz:r.size<=10^30
 big:∀j∈r.top,T.getD j 0<=10^30
theorem Cok.stepF(h:Cok p)(one:∀j∈p.1.top,p.2.getD j 0=1)(l:Long p m)(b:k<m):Jdh (go p.1) (chN p k).1 (chN p k).2 (nextN (chN p k).1):=by
 have a:Long p k:=fun i hi=>l i (by lia);have c:=h.at_ a;have ne:=l k b;have np:=J5j c.ok ne;exact⟨c.ok,ne,np,c.ok.next ne,c.ok.down ne,Jpo c.ok ne np (c.ok.next ne),h.twr one a,c.tow.len,c.size30,fun j d=>c.tow.le c.ok d⟩
theorem Jdh.tms(F:Jdh f r T s):1<=s.times/\s.times<=10^30:=by
 have b:=J3g F.np;have a:=F.np.times F.ok F.ne F.sz;lia
theorem Jdh.spn(F:Jdh f r T s)(a:s.isHome=false):1<=J2 r.ls (s.losers r)/\J2 r.ls (s.losers r)<=10^30/\(r.size-(s.behind r).size)/s.times=J2 r.ls (s.losers r):=by
 have b:=J75 F.ok F.ne F.np a;have c:=Jcd F.ok (J2t.losers_nd F.ok (s:=s)) (F.np.losers_lt F.ok F.ne).1;have:=F.sz;exact⟨b,by lia,(share_of F.down F.np a).1⟩
theorem Jdh.win(F:Jdh f r T s):s.winner∈r.top/\1<=T.getD s.winner 0/\T.getD s.winner 0<=10^30:=by
 have w:=F.np.win F.ok F.ne;exact⟨w,F.twr.pos _ w,F.big _ w⟩
noncomputable def offA(b:Band)(q o:Int):Int:=if q%2=1 then J50 b o else o
theorem Jk0{b:Band}{q o:Int}(c:0<=o)(a:o<b.2.1):0<=offA b q o/\offA b q o<b.2.1:=by
 unfold offA;split
 ·exact J6o c a
 ·exact⟨c,a⟩
theorem Bnd.round{f:Int->Int}{b:Band}(B:Bnd f b){o:Int}(d:0<=o)(a:o<b.2.1):∀n:Nat,itN f (n*b.2.2.1.toNat) (b.1+o)=b.1+offA b (n:Int) o
 | 0=>by rw[Nat.zero_mul];rfl
 | n+1=>by
  rw[Nat.succ_mul,J15,B.round d a n];have i:=Jk0 (b:=b) (q:=(n:Int)) d a;rw[B.back i.1 i.2]
  congr 1
  unfold offA;have e:(((n+1:Nat):Int))%2=1↔¬ (n:Int)%2=1:=by lia
  by_cases c:(n:Int)%2=1
  ·rw[if_pos c,if_neg (fun h=>e.mp h c),Jcq]
  ·rw[if_neg c,if_pos (e.mpr c)]
section
variable{f:Int->Int}{N:Int}{bs:List Band}
theorem Sys.go_on(S:Sys f N bs){b:Nat}{o a:Int}(A:Adr bs b o a){g:Int}(r:0<=g):
  Adr bs b (offA (bs.getD b bz0) ((a+g)/(bs.getD b bz0).2.2.1) o) ((a+g)%(bs.getD b bz0).2.2.1)/\itN f g.toNat (plOf f bs b o a)=plOf f bs b (offA (bs.getD b bz0) ((a+g)/(bs.getD b bz0).2.2.1) o) ((a+g)%(bs.getD b bz0).2.2.1):=by
 have B:=S.bnd _ (J3j A.hb);have s:=B.2.1;have h:=A.o0;have d:=A.o1;have w:=A.l0;have v:=A.l1;have i:=Jk0 (b:=bs.getD b bz0) (q:=(a+g)/(bs.getD b bz0).2.2.1) h d;have l:=Int.emod_nonneg (a+g) (show(bs.getD b bz0).2.2.1≠0 by lia);have j:=Int.emod_lt_of_pos (a+g) (show 0<(bs.getD b bz0).2.2.1 by lia);refine⟨⟨A.hb,i.1,i.2,l,j⟩,?_⟩;unfold plOf;generalize bs.getD b bz0=c at *;have p:0<=(a+g)/c.2.2.1:=Int.ediv_nonneg (by lia) (by lia);have n:=Int.mul_ediv_add_emod (a+g) c.2.2.1;obtain⟨q,m⟩:∃q:Nat,(a+g)/c.2.2.1=q:=⟨((a+g)/c.2.2.1).toNat,by lia⟩;rw[m] at n ⊢;rw[<- J15];have e:a.toNat+g.toNat=q*c.2.2.1.toNat+((a+g)%c.2.2.1).toNat:=by
  have u:((q*c.2.2.1.toNat:Nat):Int)=c.2.2.1*(q:Int):=by
   rw[Int.natCast_mul,show((c.2.2.1.toNat:Nat):Int)=c.2.2.1 by lia,Int.mul_comm]
  lia
 rw[e,J15,B.round h d q]
structure J44(f:Int->Int)(x:Int)(n:Nat):Prop where
 pos:0<n
 back:itN f n x=x
 least:∀i,0<i->i<n->itN f i x≠x
noncomputable def lenR(b:Band)(o:Int):Int:=if b.2.2.2=true/\o≠b.2.1-1-o then 2*b.2.2.1 else b.2.2.1
theorem Sys.rnd(S:Sys f N bs)(A:Adr bs b o lv):J44 f (plOf f bs b o lv) (lenR (bs.getD b bz0) o).toNat/\1<=lenR (bs.getD b bz0) o:=by
 have B:=S.bnd _ (J3j A.hb);have u:=B.2.1;have m:=A.o0;have h:=A.o1;have w:=A.l0;have v:=A.l1;have lo:=S.lo _ (J3j A.hb);have inn:=S.itin (y:=(bs.getD b bz0).1+o) (by lia) (by lia);unfold plOf;generalize bs.getD b bz0=c at *;have q:1<=lenR c o:=by unfold lenR;split <;> lia
 have g:=B.back m h;have fi:=J6o m h;have a:=B.back fi.1 fi.2;rw[Jcq] at a;refine⟨⟨by lia,?_,fun i s p e=>?_⟩,q⟩
 ·rw[<- J15,Nat.add_comm,J15]
  congr 1
  unfold lenR;split
  ·rw[show(2*c.2.2.1).toNat=c.2.2.1.toNat+c.2.2.1.toNat by lia,J15,g,a]
  ·rename_i k;rw[g]
   congr 1
   unfold J50;split
   ·rename_i t;by_cases e:o=c.2.1-1-o
    ·lia
    ·exact absurd ⟨t,e⟩ k
   ·rfl
 ·rw[<- J15,Nat.add_comm,J15] at e;have n:=inn i;have d:=S.itinj n.1 n.2 (by lia) (by lia) lv.toNat e;by_cases k:(i:Int)<c.2.2.1
  ·have:=B.high m h s k;lia
  ·unfold lenR at p;split at p
   ·rename_i t;obtain⟨j,rfl⟩:∃j,i=c.2.2.1.toNat+j:=⟨i-c.2.2.1.toNat,by lia⟩;rw[J15,g] at d;by_cases r:j=0
    ·subst r;have d:c.1+J50 c o=c.1+o:=d;unfold J50 at d;rw[if_pos t.1] at d;exact t.2 (by lia)
    ·have:=B.high fi.1 fi.2 (l:=j) (by lia) (by lia);lia
   ·lia
theorem J44.mul(R:J44 f x n):∀k,itN f (k*n) x=x
 | 0=>by rw[Nat.zero_mul];rfl
 | k+1=>by rw[Nat.succ_mul,J15,R.mul k,R.back]
theorem J44.mod(R:J44 f x n)(m:Nat):itN f m x=itN f (m%n) x:=by
 have e:m=(m/n)*n+m%n:=by rw[Nat.mul_comm];exact(Nat.div_add_mod m n).symm
 conv=>lhs;rw[e]
 rw[J15,R.mul]
theorem J44.uniq(R:J44 f x n)(a:J44 f x m):n=m:=by
 rcases Nat.lt_trichotomy n m with h|h|h
 ·exact absurd R.back (a.least n R.pos h)
 ·exact h
 ·exact absurd a.back (R.least m a.pos h)
theorem Sys.rnd_inj(S:Sys f N bs)(l:0<=x)(g:x<N)(R:J44 f x n)(hi:i<n)(c:j<n)(e:itN f i x=itN f j x):i=j:=by
 have a:∀{i j:Nat},i<=j->j<n->itN f i x=itN f j x->i=j:=fun {i j} le c e=>by
  obtain⟨d,rfl⟩:∃d,j=d+i:=⟨j-i,by lia⟩;rw[J15] at e;have b:=S.itin l g d;have m:=S.itinj l g b.1 b.2 i e;by_cases o:d=0
  ·lia
  ·exact absurd m.symm (R.least d (by lia) (by lia))
 rcases Nat.le_total i j with h|h
 ·exact a h c e
 ·exact(a h hi e.symm).symm
theorem Sys.rnd_iff(S:Sys f N bs)(b:0<=x)(a:x<N)(R:J44 f x n)(hd:d<n)(m:Nat):itN f m x=itN f d x↔m%n=d:=by
 rw[R.mod m];constructor
 ·exact fun e=>S.rnd_inj b a R (Nat.mod_lt _ R.pos) hd e
 ·exact fun e=>by rw[e]
noncomputable def betO(bs:List Band)(b:Nat)(o d:Int)(e:Nat)(c a:Int):Option Int:=
 if b≠e then none
 else if o=c then some ((a-d)%lenR (bs.getD b bz0) o)
 else if (bs.getD b bz0).2.2.2=true/\c=(bs.getD b bz0).2.1-1-o then some ((a-d+(bs.getD b bz0).2.2.1)%lenR (bs.getD b bz0) o)
 else none
theorem Sys.bet_some(S:Sys f N bs){b w:Nat}{o g l a:Int}(A:Adr bs b o g)(z:Adr bs w l a){d:Int}(e:betO bs b o g w l a=some d):
  0<=d/\d<lenR (bs.getD b bz0) o/\itN f d.toNat (plOf f bs b o g)=plOf f bs w l a:=by
 obtain⟨R,F⟩:=S.rnd A;have B:=S.bnd _ (J3j A.hb);have G:=B.2.1;have I:=A.l0;have H:=A.l1;have s:=z.l0;have r:=z.l1;unfold betO at e;by_cases v:b≠w
 ·rw[if_pos v] at e;cases e
 rw[if_neg v] at e;have v:b=w:=Classical.byContradiction v;subst v;have m:∀{t:Int},0<=d->(g+d)%(bs.getD b bz0).2.2.1=a->(g+d)/(bs.getD b bz0).2.2.1=t->offA (bs.getD b bz0) t o=l->itN f d.toNat (plOf f bs b o g)=plOf f bs b l a:=fun {t} j E D C=>by
  have:=(S.go_on A j).2;rw[E,D,C] at this;exact this
 generalize hc:bs.getD b bz0=c at *;by_cases q:o=l
 ·rw[if_pos q] at e;have n:=Option.some.inj e;have j:0<=d:=by rw[<- n];exact Int.emod_nonneg _ (by lia)
  have y:d<lenR c o:=by rw[<- n];exact Int.emod_lt_of_pos _ (by lia)
  refine⟨j,y,?_⟩;have i:=Int.mul_ediv_add_emod (a-g) (lenR c o);rw[n] at i;generalize (a-g)/lenR c o=k at i;by_cases t:c.2.2.2=true/\o≠c.2.1-1-o
  ·have u:lenR c o=2*c.2.2.1:=by unfold lenR;rw[if_pos t]
   rw[u,Int.mul_assoc,Int.mul_left_comm] at i;have h:g+d=a+c.2.2.1*(-(2*k)):=by rw[Int.mul_neg];lia
   refine m (t:=-(2*k)) j ?_ ?_ ?_
   ·rw[h,Int.add_mul_emod_self_left,Int.emod_eq_of_lt s r]
   ·rw[h,Int.add_mul_ediv_left _ _ (by lia),Int.ediv_eq_zero_of_lt s r,Int.zero_add]
   ·unfold offA;rw[if_neg (by lia)];exact q
  ·have u:lenR c o=c.2.2.1:=by unfold lenR;rw[if_neg t]
   rw[u] at i;have h:g+d=a+c.2.2.1*(-k):=by rw[Int.mul_neg];lia
   refine m (t:=-k) j ?_ ?_ ?_
   ·rw[h,Int.add_mul_emod_self_left,Int.emod_eq_of_lt s r]
   ·rw[h,Int.add_mul_ediv_left _ _ (by lia),Int.ediv_eq_zero_of_lt s r,Int.zero_add]
   ·unfold offA J50;split
    ·split
     ·rename_i t2;by_cases e:o=c.2.1-1-o
      ·lia
      ·exact absurd ⟨t2,e⟩ t
     ·exact q
    ·exact q
 ·rw[if_neg q] at e;by_cases p:c.2.2.2=true/\l=c.2.1-1-o
  ·rw[if_pos p] at e;have n:=Option.some.inj e;have j:0<=d:=by rw[<- n];exact Int.emod_nonneg _ (by lia)
   have y:d<lenR c o:=by rw[<- n];exact Int.emod_lt_of_pos _ (by lia)
   refine⟨j,y,?_⟩;have i:=Int.mul_ediv_add_emod (a-g+c.2.2.1) (lenR c o);rw[n] at i;generalize (a-g+c.2.2.1)/lenR c o=k at i;have u:lenR c o=2*c.2.2.1:=by unfold lenR;rw[if_pos ⟨p.1,by rw[<- p.2];exact q⟩]
   rw[u,Int.mul_assoc,Int.mul_left_comm] at i;have h:g+d=a+c.2.2.1*(1-2*k):=by rw[Int.mul_sub,Int.mul_one];lia
   refine m (t:=1-2*k) j ?_ ?_ ?_
   ·rw[h,Int.add_mul_emod_self_left,Int.emod_eq_of_lt s r]
   ·rw[h,Int.add_mul_ediv_left _ _ (by lia),Int.ediv_eq_zero_of_lt s r,Int.zero_add]
   ·unfold offA J50;rw[if_pos (by lia),if_pos p.1];exact p.2.symm
  ·rw[if_neg p] at e;cases e
theorem Sys.bet_none(S:Sys f N bs){b l:Nat}{o j d a:Int}(A:Adr bs b o j)(r:Adr bs l d a)(e:betO bs b o j l d a=none)(n:Nat):itN f n (plOf f bs b o j)≠plOf f bs l d a:=fun h=>by
 obtain⟨q,m⟩:=S.go_on A (g:=(n:Int)) (by lia);rw[Int.toNat_natCast,h] at m;obtain⟨p,c,s⟩:=S.uniq r q m;unfold betO at e;rw[if_neg (by rw[p];exact fun k=>k rfl)] at e;by_cases i:o=d
 ·rw[if_pos i] at e;cases e
 rw[if_neg i] at e;unfold offA J50 at c;split at c
 ·split at c
  ·rename_i t;rw[if_pos ⟨t,c⟩] at e;cases e
  ·exact i c.symm
 ·exact i c.symm
end
theorem Jg7{f:Int->Int}:∀{bs:List Band},(∀b∈bs,Bnd f b)->∀b∈bs,b.2.1*b.2.2.1<=(bs.map fun b=>b.2.1*b.2.2.1).sum
 | c::bs,h,b,hb=>by
  have a:∀d∈c::bs,0<=d.2.1*d.2.2.1:=fun d hd=>Int.mul_nonneg (by have:=(h d hd).1;lia) (by have:=(h d hd).2.1;lia);have ns:0<=(bs.map fun b=>b.2.1*b.2.2.1).sum:=by
   clear hb;have g:∀d∈bs,0<=d.2.1*d.2.2.1:=fun d hd=>a d (mem_cons_of_mem _ hd);clear a h
   induction bs with
   | nil=>exact Int.le_refl _
   | cons d bs ih =>
    rw[map_cons,sum_cons];have:=g d mem_cons_self;have:=ih fun e i=>g e (mem_cons_of_mem _ i);lia
  rw[map_cons,sum_cons];rcases mem_cons.mp hb with rfl|hb
  ·lia
  ·have:=Jg7 (bs:=bs) (fun d hd=>h d (mem_cons_of_mem _ hd)) b hb;have:=a c mem_cons_self;lia
theorem Sys.high{f:Int->Int}{N:Int}{bs:List Band}(S:Sys f N bs){b:Nat}(hb:b<bs.length):1<=(bs.getD b bz0).2.2.1/\(bs.getD b bz0).2.2.1<=N:=by
 have B:=S.bnd _ (J3j hb);have h:=Jg7 S.bnd _ (J3j hb);rw[S.sum] at h;have w:=B.1;have a:=B.2.1;have:1*(bs.getD b bz0).2.2.1<=(bs.getD b bz0).2.1*(bs.getD b bz0).2.2.1:=Int.mul_le_mul_of_nonneg_right w (by lia);exact⟨a,by lia⟩
theorem Sys.hasRnd(S:Sys f N bs)(c:0<=x)(a:x<N):∃n,J44 f x n:=by
 obtain⟨b,o,d,A,e⟩:=S.exists c a;have:=(S.rnd A).1;rw[e] at this;exact⟨_,this⟩
theorem Sys.rnd_move(S:Sys f N bs)(g:0<=x)(b:x<N)(R:J44 f x n)(d:Nat):J44 f (itN f d x) n:=by
 refine⟨R.pos,?_,fun i m a e=>?_⟩
 ·rw[<- J15,Nat.add_comm,J15,R.back]
 ·rw[<- J15,R.mod d] at e;have h:=(S.rnd_iff g b R (Nat.mod_lt d R.pos) (d+i)).mp e;have j:(d+i)%n=(d%n+i)%n:=by rw[Nat.add_mod,Nat.mod_eq_of_lt a]
  rw[j] at h;have l:=Nat.mod_lt d R.pos;generalize d%n=q at *;by_cases c:q+i<n
  ·rw[Nat.mod_eq_of_lt c] at h;lia
  ·rw[Nat.mod_eq_sub_mod (by lia),Nat.mod_eq_of_lt (by lia)] at h;lia
end Rl
namespace PySem
namespace F
end F
end PySem
namespace L2
open PySem PyProof.Rows
end L2
namespace L2
open PySem PySem.Spec PyProof.Rows
end L2
namespace Rl
noncomputable def bndS(S:List Sr):List Int:=(S.drop 1).map Sr.fi
theorem Jce{α:Type}[DecidableEq α]:∀{xs ys:List α},xs.Nodup->(∀x∈xs,x∈ys)->xs.length<=ys.length
 | [],_,_,_=>Nat.zero_le _
 | x::xs,ys,nd,h=>by
  have c:=h x mem_cons_self;have a:=nodup_cons.mp nd;have:=Jce (xs:=xs) (ys:=ys.erase x) a.2 fun y b=>by
   have ne:y≠x:=fun e=>a.1 (e▸b);exact(List.mem_erase_of_ne ne).mpr (h y (mem_cons_of_mem _ b))
  grind
theorem Jbp(O:Ord bs (List.range bs.length))(q:Lies (firsts bs (List.range bs.length)) bs x j):gL bs (List.range bs.length) (replicate bs.length true) x=2*Jq bs (List.range bs.length) j+bs.getD j 0-1-x:=by
 rw[Jco O q];unfold J4f;have t:(replicate bs.length true).getD j false=true:=by
  rw[getD_eq_getElem?_getD,List.getElem?_replicate,if_pos q.1];rfl
 rw[if_pos t,J2o O q.1];omega
theorem Jdc(O:Ord bs (List.range bs.length))(a:j<bs.length)(c:Jq bs (List.range bs.length) j<=x)(b:x<Jq bs (List.range bs.length) j+bs.getD j 0):Lies (firsts bs (List.range bs.length)) bs x j:=
 ⟨a,by rw[J2o O a];exact c,by rw[J2o O a];exact b⟩
theorem Jdd(O:Ord bs (List.range bs.length))(q:Lies (firsts bs (List.range bs.length)) bs x j):gL bs (List.range bs.length) (replicate bs.length true) (gL bs (List.range bs.length) (replicate bs.length true) x)=x:=by
 have a:=J8s (ts:=replicate bs.length true) O q;rw[Jbp O a,Jbp O q];omega
end Rl
namespace L2
open PySem PySem.Spec PyProof.Rows
section
variable{κ:Type}[DecidableEq κ]
noncomputable def valV(kvs:List (κ×V))(k:κ):Option V:=(kvs.find? fun a=>decide (a.1=k)).map (·.2)
noncomputable def putK(kvs:List (κ×V))(k:κ)(v:V):List (κ×V):=
 if (kvs.any fun a=>decide (a.1=k))=true then kvs.map (fun a=>if a.1=k then (a.1,v) else a) else kvs++[(k,v)]
theorem J2u{p:κ×V}(e:p.1=k):valV (p::r) k=some p.2:=by simp[valV,e]
theorem J2v{p:κ×V}(e:¬ p.1=k):valV (p::r) k=valV r k:=by simp[valV,e]
theorem J56(k:κ):∀kvs ,(kvs.any fun a=>decide (a.1=k))=(valV kvs k).isSome
 | []=>rfl
 | p::r=>by
  rw[List.any_cons];by_cases e:p.1=k
  ·simp only[J2u e,decide_eq_true e,Bool.true_or,Option.isSome_some]
  ·rw[J2v e,decide_eq_false e,Bool.false_or];exact J56 k r
theorem Jeu(k j:κ)(y:V):∀kvs ,valV (kvs.map fun a=>if a.1=k then (a.1,y) else a) j=(valV kvs j).map fun x=>if j=k then y else x
 | []=>rfl
 | p::r=>by
  have b:=Jeu k j y r;rw[map_cons];by_cases h:p.1=k
  ·rw[if_pos h];by_cases e:p.1=j
   ·rw[J2u (p:=(p.1,y)) e,J2u e,map_some,if_pos (e.symm.trans h)]
   ·rw[J2v (p:=(p.1,y)) e,J2v e,b]
  ·rw[if_neg h];by_cases e:p.1=j
   ·rw[J2u (p:=p) e,J2u e,map_some,if_neg (fun z=>h (e.trans z))]
   ·rw[J2v (p:=p) e,J2v e,b]
theorem Jbu(k j:κ)(y:V):∀kvs ,valV kvs k=none->valV (kvs++[(k,y)]) j=if j=k then some y else valV kvs j
 | [],_=>by
  by_cases e:k=j
  ·rw[if_pos e.symm];exact J2u (p:=(k,y)) e
  ·rw[if_neg (fun z=>e z.symm)];exact J2v (p:=(k,y)) e
 | p::r,hn=>by
  rw[cons_append];have a:¬ p.1=k:=fun z=>by rw[J2u z] at hn;cases hn
  rw[J2v a] at hn;have b:=Jbu k j y r hn;by_cases e:p.1=j
  ·rw[J2u e,J2u e,if_neg (fun z=>a (e.trans z))]
  ·rw[J2v e,J2v e,b]
theorem Jm1(kvs:List (κ×V))(k j:κ)(y:V):valV (putK kvs k y) j=if j=k then some y else valV kvs j:=by
 unfold putK;by_cases a:(kvs.any fun b=>decide (b.1=k))=true
 ·rw[if_pos a,Jeu];rw[J56] at a;by_cases e:j=k
  ·obtain⟨x,c⟩:=isSome_iff_exists.mp a;rw[if_pos e,e,c,map_some,if_pos rfl]
  ·rw[if_neg e]
   cases valV kvs j with
   | none=>rfl
   | some x=>rw[map_some,if_neg e]
 ·rw[if_neg a];refine Jbu k j y kvs ?_;rw[J56] at a
  cases q:valV kvs k with
  | none=>rfl
  | some x=>rw[q] at a;exact(a rfl).elim
theorem J8m(kvs:List (κ×V))(k:κ)(v:V):(putK kvs k v).length<=kvs.length+1:=by
 unfold putK;split
 ·grind
 ·simp_all
theorem Jnc{kvs:List (κ×V)}(v:V)(h:valV kvs k=none):putK kvs k v=kvs++[(k,v)]:=by
 unfold putK;rw[J56,h];exact if_neg (by decide)
theorem RelO.isSome_eq(r:RelO o u):o.isSome=u.isSome:=by
 cases o with
 | none=>cases u with
  | none=>rfl
  | some _=>exact(show False from r).elim
 | some _=>cases u with
  | none=>exact(show False from r).elim
  | some _=>rfl
theorem RelO.getD(r:RelO o u)(rd:RelV d d'):RelV (o.getD d) (u.getD d'):=by
 cases o with
 | none=>cases u with
  | none=>exact rd
  | some _=>exact(show False from r).elim
 | some _=>cases u with
  | none=>exact(show False from r).elim
  | some _=>exact r
theorem KV.val(r:KV kvs vs)(k:κ):RelO (valV kvs k) (valueAt vs k):=by
 induction r with
 | nil=>exact True.intro
 | @cons p q ps qs h t ih =>
  obtain⟨c,d⟩:=h;by_cases e:p.1=k
  ·have a:=c.symm.trans e;have b:valueAt (q::qs) k=some q.2:=by simp[valueAt,a]
   rw[J2u e,b];exact d
  ·have a:¬ q.1=k:=fun z=>e (c.trans z);have b:valueAt (q::qs) k=valueAt qs k:=by simp[valueAt,a]
   rw[J2v e,b];exact ih
theorem KV.any(r:KV kvs vs)(k:κ):(kvs.any fun a=>decide (a.1=k))=vs.any fun a=>decide (a.1=k):=by
 induction r with
 | nil=>rfl
 | cons h t ih=>simp_all
theorem KV.repl(r:KV kvs vs)(k:κ)(c:RelV y u):
  KV (kvs.map fun a=>if a.1=k then (a.1,y) else a) (vs.map fun a=>if a.1=k then (a.1,u) else a):=by
 induction r with
 | nil=>exact .nil
 | @cons p q ps qs h t ih =>
  rw[map_cons,map_cons];refine .cons ?_ ih;obtain⟨b,d⟩:=h;by_cases e:p.1=k
  ·rw[if_pos e,if_pos (b.symm.trans e)];exact⟨b,c⟩
  ·simp_all
theorem KV.put(r:KV kvs vs)(k:κ)(a:RelV y u):KV (putK kvs k y) (stored vs k u):=by
 unfold putK stored;rw[r.any k];by_cases e:(vs.any fun b=>decide (b.1=k))=true
 ·rw[if_pos e,if_pos e];exact r.repl k a
 ·rw[if_neg e,if_neg e];exact Paired.snoc r ⟨rfl,a⟩
theorem KV.keys{kvs:List (κ×V)}(r:KV kvs vs):kvs.map (·.1)=vs.map (·.1):=by
 induction r with
 | nil=>rfl
 | cons h t ih=>simp_all
theorem KV.length{kvs:List (κ×V)}(r:KV kvs vs):kvs.length=vs.length:=Paired.length r
end
theorem Jom(r:RelV (kV k) u):(J27 P w).is k u=true:=by
 cases k with
 | inl i=>obtain⟨t,e⟩:=(show ∃t,u=Value.int i t from r);subst e;exact Jef P w i t
 | inr x=>obtain⟨t,e⟩:=(show ∃t,u=Value.str x t from r);subst e;exact Jee P w x t
theorem Jck :∀{ks:List Key} {us:List Value},Vals (ks.map kV) us->ItemsAre (J27 P w) ks us
 | [],_,r=>by cases r;exact .nil
 | k::ks,_,r=>by
  cases r with
  | cons h t=>exact .cons (Jom h) (Jck t)
noncomputable abbrev KT(H:Hp):List (List Key×V)->List (List Key×Addr×Value)->Prop:=Paired fun p q=>p.1=q.1/\H q.2.1=some (.tup (p.1.map kV))/\RelV p.2 q.2.2
theorem KT.val(r:KT H kvs xs)(k:List Key):RelO (valV kvs k) ((atKey xs k).map (·.2)):=by
 induction r with
 | nil=>exact True.intro
 | @cons p q ps qs h t ih =>
  obtain⟨c,_,d⟩:=h;by_cases e:p.1=k
  ·have a:=c.symm.trans e;have b:atKey (q::qs) k=some q.2:=by simp[atKey,a]
   rw[J2u e,b];exact d
  ·have a:¬ q.1=k:=fun z=>e (c.trans z);have b:atKey (q::qs) k=atKey qs k:=by simp[atKey,a]
   rw[J2v e,b];exact ih
theorem KT.repl(r:KT H kvs xs)(k:List Key)(d:RelV y u):
  KT H (kvs.map fun b=>if b.1=k then (b.1,y) else b) (xs.map (putAt k u)):=by
 induction r with
 | nil=>exact .nil
 | @cons p q ps qs h t ih =>
  rw[ map_cons];refine .cons ?_ ih;obtain⟨a,c,f⟩:=h;unfold putAt;by_cases e:p.1=k
  ·rw[if_pos e,if_pos (a.symm.trans e)];exact⟨a,c,d⟩
  ·rw[if_neg e,if_neg (fun z=>e (a.trans z))];exact⟨a,c,f⟩
theorem KT.put(r:KT H kvs xs)(k:List Key)(hb:H b=some (.tup (k.map kV)))(a:RelV y u):
  KT H (putK kvs k y) (storedH xs k b u):=by
 have e:(kvs.any fun c=>decide (c.1=k))=(atKey xs k).isSome:=by
  rw[J56,(r.val k).isSome_eq,Option.isSome_map]
 unfold putK storedH;rw[e];by_cases q:(atKey xs k).isSome=true
 ·rw[if_pos q,if_pos q];exact r.repl k a
 ·rw[if_neg q,if_neg q];exact Paired.snoc r ⟨rfl,hb,a⟩
theorem KT.keeps(r:KT H kvs xs)(a:∀b ys,H b=some (.tup ys)->H' b=some (.tup ys)):KT H' kvs xs:=
 Paired.mapP r fun _ _ z=>⟨z.1,a _ _ z.2.1,z.2.2⟩
section
variable{P:Program}{w:World}{H:Hp}{h:Heap}{a:Addr}
theorem rd_of(ok:HOk P w H h)(e:Rd H a u):J2j P w H h a u:=e.ok ok
theorem Jle(ok:HOk P w H h)(e:Rd H a (.dK kvs)):kvs.length<=sizeLine/\(a==sysModules)=false/\∃vs,KV kvs vs/\h.DictOf (J27 P w) a vs:=
 show J2j P w H h a (.dK kvs) from rd_of ok e
theorem dk_of(ok:HOk P w H h)(e:H a=some (.dK kvs)):kvs.length<=sizeLine/\(a==sysModules)=false/\∃vs,KV kvs vs/\h.DictOf (J27 P w) a vs:=Jle ok (.inl e)
theorem Jg2(ok:HOk P w H h)(e:H a=some (.tup (ks.map kV))):(tupleKind (J27 P w)).is h ks a:=by
 obtain⟨_,b,r,o,f,d,n,c⟩:=(show J2j P w H h a (.tup (ks.map kV)) from ok a _ e);exact⟨o,b.toArray,n,f,d.1,c,by simpa using Jck r⟩
theorem Jld(ok:HOk P w H h)(e:Rd H a (.dT kvs)):kvs.length<=sizeLine/\(a==sysModules)=false/\
  ∃xs,KT H kvs xs/\h.DictOfH (tupleKind (J27 P w)) a xs:=by
 obtain⟨z,y,xs,r,o,j,ep,i,g,f,d,c⟩:=(show J2j P w H h a (.dT kvs) from rd_of ok e);refine⟨z,y,xs,r,o,j,ep,i,g,f,d,fun x b=>?_,c⟩;have all:∀{l:List (List Key×V)} {m:List (List Key×Addr×Value)},KT H l m->∀x∈m,(tupleKind (J27 P w)).is h x.1 x.2.1:=by
  intro l m q
  induction q with
  | nil=>intro x b;exact nomatch b
  | @cons p q ps qs hq t ih =>
   intro x b;rcases mem_cons.mp b with e|b
   ·subst e;exact Jg2 ok (by rw[<- hq.1];exact hq.2.1)
   ·exact ih x b
 exact all r x b
theorem dt_of(ok:HOk P w H h)(e:H a=some (.dT kvs)):kvs.length<=sizeLine/\(a==sysModules)=false/\
  ∃xs,KT H kvs xs/\h.DictOfH (tupleKind (J27 P w)) a xs:=Jld ok (.inl e)
end
noncomputable def DGet(H:Hp)(a:Addr)(y:V)(r:Option V):Prop:=
 (∃kvs k,Rd H a (.dK kvs)/\y=kV k/\r=valV kvs k)\/∃kvs k b,Rd H a (.dT kvs)/\y=.ref b/\H b=some (.tup (k.map kV))/\r=valV kvs k
noncomputable def DPut(H:Hp)(a:Addr)(y v:V)(c:Hp):Prop:=
 (∃kvs k,H a=some (.dK kvs)/\y=kV k/\kvs.length<sizeLine/\c=upd H a (.dK (putK kvs k v)))\/
 ∃kvs k b,H a=some (.dT kvs)/\y=.ref b/\H b=some (.tup (k.map kV))/\kvs.length<sizeLine/\c=upd H a (.dT (putK kvs k v))
theorem DGet.k{k:Key}(e:H a=some (.dK kvs)):DGet H a (kV k) (valV kvs k):=.inl ⟨kvs,k,.inl e,rfl,rfl⟩
theorem DPut.k{k:Key}(e:H a=some (.dK kvs))(b:kvs.length<sizeLine):DPut H a (kV k) v (upd H a (.dK (putK kvs k v))):=.inl ⟨kvs,k,e,rfl,b,rfl⟩
section
variable{X:Cx}{pins:List (Addr×Obj)}{σ:St}{H:Hp}{s:Shared}{a:Addr}{y v:V}{u r:Value}{o:Option V}{A:Around}{E:Value->Shared->Prop}
theorem Inv.big(I:Inv X pins σ H s):sysModules<s.heap.objs.size:=by
 have h:=(I.mod.glob.keeps I.bk).lt;exact Nat.lt_trans (by decide) h
theorem Jlk(m:A.units+1<cLine)(I:Inv X pins σ H s)(g:DGet H a y (some v))(j:RelV y u)(h:∀f s',Inv X pins σ H s'->RelV v f->Q f s'):
  wpAny (model X.prog X.w) A (getItem (.ref a) u) Q E s:=by
 rcases g with⟨kvs,k,e,ey,l⟩|⟨kvs,k,b,e,ey,eb,l⟩
 ·subst ey;obtain⟨z,hd,vs,d,dd⟩:=Jle I.hok e;obtain⟨f,hw,c⟩:=RelO.some_of (v:=v) (o:=valueAt vs k) (by rw[l];exact d.val k);exact wpAny_getItem_of (Jom j) dd.mapOf hw (h f _ (I.tok _) c)
 ·subst ey;cases (show u=Value.ref b from j);obtain⟨z,hd,xs,d,dd⟩:=Jld I.hok e;obtain⟨f,hw,c⟩:=RelO.some_of (v:=v) (o:=(atKey xs k).map (·.2)) (by rw[l];exact d.val k);obtain⟨p,n,i⟩:=Option.map_eq_some_iff.mp hw;refine wpAny_getItem_heap (tupleKind_room_in1 m) (Jg2 I.hok eb) dd n ?_;rw[i];exact h f _ (I.tok _) c
theorem Jli(I:Inv X pins σ H s)(mu:Mut (H a))(c:Heap.SameBut a s.heap h')(d:∃q,h'.get? a=some q)(new:J2j X.prog X.w (upd H a ob) h' a ob):
  Inv X pins σ (upd H a ob) { s with heap:=h',toks:=t' }:=
 I.write (x:=a) (e:=a) mu (.inl rfl) (fun b q hb z=>(c.2 b hb).trans z) d new
theorem dk_new(z:kvs.length<=sizeLine)(hd:(a==sysModules)=false)(b:KV kvs vs)(dd:h'.DictOf (J27 P w) a vs):
  J2j P w H' h' a (.dK kvs):=⟨z,hd,vs,b,dd⟩
theorem Jlj(C:A.units+1<cLine)(I:Inv X pins σ H s)(g:DPut H a y v H')(o:RelV y u)(p:RelV v r)(h:∀s',Inv X pins σ H' s'->Q () s'):
  wpAny (model X.prog X.w) A (setItem (.ref a) u r) Q E s:=by
 rcases g with⟨kvs,k,e,ey,l,eH⟩|⟨kvs,k,b,e,ey,eb,l,eH⟩
 ·subst ey eH;obtain⟨z,hd,vs,d,dd⟩:=dk_of I.hok e;have j:vs.length<=sizeLine:=by rw[<- d.length];exact z
  have n:(putK kvs k v).length<=sizeLine:=by have:=J8m kvs k v;omega
  refine wpAny_setItem_pairs (hsz:=j) (Jom o) dd fun h' f m=>h _ ?_;have D:∃q,h'.get? a=some q:=by obtain⟨q,_,_,i,_⟩:=f;exact⟨q,i⟩
  exact Jli I (by rw[e];exact True.intro) m D (dk_new n hd (d.put k p) f)
 ·subst ey eH;cases (show u=Value.ref b from o);obtain⟨z,hd,xs,d,dd⟩:=dt_of I.hok e;have j:xs.length<=sizeLine:=by rw[<- Paired.length d];exact z
  have n:(putK kvs k v).length<=sizeLine:=by have:=J8m kvs k v;omega
  refine wpAny_setItem_heap (hsz:=j) (tupleKind_room_in1 C) (Jg2 I.hok eb) dd fun h' f m=>h _ ?_;obtain⟨q,L,ep,i,K,J,G,_,F⟩:=f;refine Jli I (by rw[e];exact True.intro) m ⟨q,i⟩ ⟨n,hd,_,(d.put k eb p).keeps fun c ys B=>?_,q,L,ep,i,K,J,G,F⟩;rw[Jh (Job B e (fun z=>nomatch z))];exact B
end
noncomputable def NoSl(i:Expr):Prop:=∀a b,subscripted i false a b=operate [a,b] (getItem a b)
theorem Jqe{id:String}(j:typeLookup (.type T) "__getitem__"=pure (some (.builtin id)))(g:NoSl slice)(h:wpAny (model prog w) A (eval value env) (fun o d=>wpAny (model prog w) A (eval slice env) (fun i a=>a.TypeIs o T/\wpAny (model prog w) A (getItem o i) Q E a) E d) E s):
  wpAny (model prog w) A (eval (.Subscript value slice pos) env) Q E s:=by
 refine Subscript_ (wpAny_mono h (fun o d f=>wpAny_mono f (fun i a b=>?_) fun _ _ x=>x) fun _ _ x=>x);obtain⟨l,b⟩:=b;refine wpAny_bind ?_;refine wpAny_bind (wpAny_specialOf l j ?_);have fin:wpAny (model prog w) A (subscripted slice false o i) (fun r c=>wpAny (model prog w) A (letTemporaryGo value o r >>= fun _=>pure r) Q E c) E a:=by
  rw[g o i];exact wpAny_operating (wpAny_mono b (fun r c e=>wpAny_bind (wpAny_letTemporaryGo (wpAny_pure e))) fun _ _ x=>x)
 first
  | exact wpAny_pure (wpAny_bind fin)
  | grind
  | exact wpAny_bind fin
theorem Jej(I:Inv X pins σ H s)(g:DGet H a y o):s.TypeIs (.ref a) "dict":=by
 rcases g with⟨kvs,k,e,_,_⟩|⟨kvs,k,b,e,_,_,_⟩
 ·obtain⟨_,_,vs,_,dd⟩:=Jle I.hok e;exact dd.typeIs
 ·obtain⟨_,_,xs,_,dd⟩:=Jld I.hok e;exact dd.typeIs
inductive tDGetR(Q:VK)(x y:V)(b:Hp):Prop
 | mk(a v:_)(_:x=.ref a)(_:DGet b a y (some v))(_:Q v b)
noncomputable def tDGet(b a:TE):TE:=fun σ H Q=>b σ H fun x d=>a σ d fun y c=>tDGetR Q x y c
inductive sDPutR(D:Ends)(σ:St)(v x y:V)(c:Hp):Prop
 | mk(a b:_)(_:x=.ref a)(_:DPut c a y v b)(_:D.nx σ b)
noncomputable def sDPut(c a b:TE):TS:=fun D σ H=>b σ H fun v f=>c σ f fun x e=>a σ e fun y d=>sDPutR D σ v x y d
section
variable{X:Cx}{o i e value:Expr}{pos pos' tpos:Pos}{td ty tv:TE}
theorem Je3(m:X.A.units+1<cLine)(p:PE X o td)(hi:PE X i ty)(n:NoSl i):PE X (.Subscript o i pos) (tDGet td ty):=by
 intro pins s σ H Q I h;refine Jqe PySem.F.slot_dict_getitem.lookup n (thn (p pins s σ H _ I h) fun u d ⟨x,B,w,f,l⟩=>thn (hi pins d σ B _ w l) fun G E q=>?_);obtain⟨y,z,c,e,a,v,ex,g,j⟩:=q;subst ex;obtain rfl:u=Value.ref a:=f;exact⟨Jej c g,Jlk m c g e fun C D r b=>⟨v,z,r,b,j⟩⟩
theorem Jdz(p:X.A.units+1<cLine)(w:PE X o td)(hi:PE X i ty)(n:PE X value tv)(q:swapsWith value (some (.Subscript o i pos')) pos.line X.env=pure false):
  PS X (.Assign [.Subscript o i pos'] value pos) (sDPut td ty tv):=by
 intro pins s σ H D I h;refine wpAny_Assign_Subscript (thn (n pins s σ H _ I h) fun r c ⟨v,K,F,f,m⟩=>thn (w pins c σ K _ F m) fun u b ⟨x,J,E,e,l⟩=>thn (hi pins b σ J _ E l) fun N M z=>?_) q;obtain⟨y,O,C,d,a,G,ex,g,j⟩:=z;subst ex;obtain rfl:u=Value.ref a:=e;exact Jlj p C g d f fun L B=>⟨σ,G,B,j⟩
end
theorem Jos(h:Heap)(hb:sysModules<h.objs.size):J2j P w H (h.push { cls:=.type "dict",data:=.dict #[] }) h.objs.size (.dK []) :=
 ⟨Nat.zero_le _,beq_eq_false_iff_ne.mpr (Ne.symm (Nat.ne_of_lt hb)),[],.nil,Heap.DictOf.new h⟩
noncomputable def tDNewK:TE:=fun _ H Q=>∀p,H p=none->Q (.ref p) (upd H p (.dK []))
section
variable{X:Cx}{pos:Pos}
theorem Jb3:PE X (.Dict [] [] pos) tDNewK:=fun pins s σ H Q I h =>
 wpAny_Dict_empty ⟨.ref s.heap.objs.size,_,I.laid (a:=s.heap.objs.size) (o:=.dK []) (t':=s.toks) (fun _ _ q=>get?_push_of_some _ q) (Nat.le_refl _) (Jos s.heap I.big),rfl,h _ (I.hok.fresh (Nat.le_refl _))⟩
end
structure M2(X:Cx)(o:Expr)(m:Str)(apos:Pos)(e f:Expr)(cpos:Pos):Prop where
 base:attributeBase o m X.env (eval o X.env)=eval o X.env
 few:((backTo cpos (starEach [e,f] X.env)).all (fun x=>!x.1)&&(backToKw cpos (keywordEach [] X.env)).all (fun x=>x.1.isSome)
  && decide (([e,f]:List Expr).length+([]:List Keyword).length+(if ([]:List Keyword).isEmpty then 0 else 1)<30))=true
 line:(apos.endLine==cpos.line)=true
 trees:backTo cpos (starEach [e,f] X.env)=[(false,eval e X.env),(false,eval f X.env)]
noncomputable def IsD(H:Hp)(a:Addr):Prop:=(∃kvs,Rd H a (.dK kvs))\/∃kvs,Rd H a (.dT kvs)
theorem isD_at(I:Inv X pins σ H s)(d:IsD H a):
  s.TypeIs (.ref a) "dict"/\(∀b,Value.ref a=.ref b->∃c,s.heap.get? b=some c/\c.dict=none)/\(a==sysModules)=false:=by
 rcases d with⟨kvs,e⟩|⟨kvs,e⟩
 ·obtain⟨_,hd,vs,_,dd⟩:=Jle I.hok e;refine⟨dd.typeIs,fun b q=>?_,hd⟩;cases q;obtain⟨c,_,_,g,f,_⟩:=dd;exact⟨c,g,f.2.1⟩
 ·obtain⟨_,hd,xs,_,dd⟩:=Jld I.hok e;refine⟨dd.typeIs,fun b q=>?_,hd⟩;cases q;obtain⟨c,_,_,g,f,_⟩:=dd;exact⟨c,g,f.2.1⟩
section
variable{X:Cx}{pins:List (Addr×Obj)}{σ:St}{H:Hp}{s:Shared}{a:Addr}{y d:V}{u r:Value}{o:Option V}{A:Around}{E:Value->Shared->Prop}
theorem d_get2(j:A.units+1<cLine)(I:Inv X pins σ H s)(g:DGet H a y o)(i:RelV y u)(rd:RelV d r)(h:∀f s',Inv X pins σ H s'->RelV (o.getD d) f->Q f s'):
  wpAny (model X.prog X.w) A (call (.builtin "dict.get") [.ref a,u,r]) Q E s:=by
 rcases g with⟨kvs,k,e,ey,l⟩|⟨kvs,k,b,e,ey,eb,l⟩
 ·subst ey;obtain⟨z,hd,vs,c,dd⟩:=Jle I.hok e;refine call_meetsIn slot_dict_get dd.typeIs PySem.F.entry_dict_get (PySem.F.args_dict_get_3 _ _ _) (meets_dict_get_default (J27 X.prog X.w) a (Jom i) hd r) ⟨_,dd.mapOf,h _ _ (I.tok _) ?_⟩;rw[l];exact(c.val k).getD rd
 ·subst ey;cases (show u=Value.ref b from i);obtain⟨z,hd,xs,c,dd⟩:=Jld I.hok e;refine call_meetsIn slot_dict_get dd.typeIs PySem.F.entry_dict_get (PySem.F.args_dict_get_3 _ _ _) (meetsH_dict_get_default (tupleKind (J27 X.prog X.w)) a b hd r) ⟨tupleKind_room_in1 j,k,xs,Jg2 I.hok eb,dd,h _ _ (I.tok _) ?_⟩;rw[l];exact(c.val k).getD rd
end
inductive Jqc(d e:TE)(σ:St)(Q:VK)(x:V)(c:Hp):Prop
 | mk(a:_)(_:x=.ref a)(_:IsD c a)(_:d σ c fun y f=>e σ f fun z b=>∃o,DGet b a y o/\Q (o.getD z) b)
noncomputable def tDGet2(c a b:TE):TE:=fun σ H Q=>c σ H fun x d=>Jqc a b σ Q x d
section
variable{X:Cx}{o e f:Expr}{apos cpos:Pos}{td ty tx:TE}
theorem Jb4(C:X.A.units+1<cLine)(D:PE X o td)(G:PE X e ty)(E:PE X f tx)(m:M2 X o "get" apos e f cpos):PE X (.Call (.Attribute o "get" apos) [e,f] [] cpos) (tDGet2 td ty tx):=by
 intro pins s σ H Q I h;refine wpAny_Call_method m.base m.few m.line PySem.F.plainAttrs_dict slot_dict_get PySem.F.type_dict_get (thn (D pins s σ H _ I h) fun u n J=>?_);obtain⟨x,P,c,r,a,ex,d,B⟩:=J;subst ex;obtain rfl:u=Value.ref a:=r;obtain⟨j,i,_⟩:=isD_at c d;refine⟨j,i,?_⟩;rw[m.trees];refine Calls.callWith_builtin rfl (Calls.evalArgs_plain (Calls.spliced_cons (thn (G pins n σ P _ c B) fun W l ⟨y,O,M,q,w⟩ =>
  Calls.spliced_cons (thn (E pins l σ O _ M w) fun Y T ⟨z,N,L,p,U,g,v⟩=>Calls.spliced_nil ?_))))
 exact d_get2 C L g q p fun R S K b=>⟨_,N,K,b,v⟩
end
section
variable{κ:Type}[DecidableEq κ]
theorem Jk2:∀{l:List κ} {k:κ},l.Nodup->¬ k∈l->(l++[k]).Nodup
 | [],k,_,_=>by simp
 | a::r,k,h,hk=>by
  obtain⟨c,b⟩:=nodup_cons.mp h;refine nodup_cons.mpr ⟨fun m=>?_,Jk2 b fun m=>hk (mem_cons.mpr (Or.inr m))⟩;rcases mem_append.mp m with q|q
  ·exact c q
  ·exact hk (mem_cons.mpr (Or.inl (mem_singleton.mp q).symm))
end
end L2
namespace Rl
noncomputable def contrib(b:Band):List (Int×Int):=if b.2.2.2=true then [(b.2.2.1,b.2.1%2),(2*b.2.2.1,b.2.1/2)] else [(b.2.2.1,b.2.1)]
noncomputable def cntL(ps:List (Int×Int))(L:Int):Int:=(ps.map fun p=>if p.1=L then p.2 else 0).sum
theorem Joy(ps:List (Int×Int))(p:Int×Int)(L:Int):cntL (ps++[p]) L=cntL ps L+if p.1=L then p.2 else 0:=by
 unfold cntL;rw[map_append,sum_append];show _+((if p.1=L then p.2 else 0)+0)=_;lia
theorem J3q(ps:List (Int×Int))(p:Int×Int)(L:Int):cntL (p::ps) L=(if p.1=L then p.2 else 0)+cntL ps L:=by
 rfl
theorem Jq4(h:∀p∈ps,0<=p.2)(L:Int):0<=cntL ps L:=by
 induction ps with
 | nil=>exact Int.le_refl _
 | cons p ps ih =>
  rw[J3q]
  grind
theorem cnt_ge(h:∀p∈ps,0<=p.2)(b:p∈ps):p.2<=cntL ps p.1:=by
 induction ps with
 | nil=>cases b
 | cons q ps ih =>
  rw[J3q];have c:=Jq4 (fun r a=>h r (mem_cons_of_mem _ a)) (ps:=ps) p.1
  grind
theorem J9f(h:∀p∈ps,p.1≠L):cntL ps L=0:=by
 induction ps with
 | nil=>rfl
 | cons p ps ih=>rw[J3q,if_neg (h p mem_cons_self),ih fun q a=>h q (mem_cons_of_mem _ a)];rfl
theorem Jm5{ns:List Int}(h:k ∉ ns):(ns.map fun L=>L*(if k=L then v else 0)).sum=0:=by
 induction ns with
 | nil=>rfl
 | cons n ns ih =>
  simp_all
theorem Jqd{ns:List Int}(a:ns.Nodup)(h:k∈ns):(ns.map fun L=>L*(if k=L then v else 0)).sum=k*v:=by
 induction ns with
 | nil=>cases h
 | cons n ns ih =>
  rw[map_cons,sum_cons];rw[nodup_cons] at a;rcases mem_cons.mp h with rfl|h
  ·rw[if_pos rfl,Jm5 a.1];lia
  ·rw[ih a.2 h,if_neg (show ¬ k=n from fun e=>a.1 (by rw[<- e];exact h))];rw[Int.mul_zero,Int.zero_add]
theorem Jln{ns:List Int}(a:ns.Nodup):∀ps ,(∀p∈ps,p.1∈ns)->(ns.map fun L=>L*cntL ps L).sum=(ps.map fun p=>p.1*p.2).sum
 | [],_=>by
  have e:(ns.map fun L=>L*cntL [] L)=ns.map fun _=>(0:Int):=map_congr_left fun L _=>Int.mul_zero L;rw[e];clear e a
  induction ns with
  | nil=>rfl
  | cons n ns ih=>rw[map_cons,sum_cons,ih (fun p c=>nomatch c)];rfl
 | p::ps,h=>by
  rw[map_cons,sum_cons,<- Jln a ps fun q b=>h q (mem_cons_of_mem _ b),<- Jqd a (v:=p.2) (h p mem_cons_self)];clear a h
  induction ns with
  | nil=>rfl
  | cons n ns ih =>
   rw[map_cons,sum_cons,map_cons,sum_cons,map_cons,sum_cons,ih,J3q,Int.mul_add];lia
theorem Jgd(c:Int->Int):∀{ns:List Int},(∀L∈ns,0<=c L)->((ns.filter fun L=>decide (0<c L)).map fun L=>L*c L).sum=(ns.map fun L=>L*c L).sum
 | [],_=>rfl
 | n::ns,h=>by
  have a:=Jgd c fun L b=>h L (mem_cons_of_mem n b);have d:=h n mem_cons_self;rw[map_cons,sum_cons,filter_cons];by_cases q:0<c n
  ·simp_all
  ·rw[if_neg (by rw[decide_eq_true_eq];exact q),a,show c n=0 by lia,Int.mul_zero,Int.zero_add]
theorem Jiz{α:Type}(f:α->Int){xs ys:List α}(h:xs.Perm ys):(xs.map f).sum=(ys.map f).sum:=by
 induction h with
 | nil=>rfl
 | cons x _ ih=>simp_all
 | swap x y l=>rw[map_cons,sum_cons,map_cons,sum_cons,map_cons,sum_cons,map_cons,sum_cons];lia
 | trans _ _ i1 i2=>exact i1.trans i2
theorem Jel(b:Band):((contrib b).map fun p=>p.1*p.2).sum=b.2.1*b.2.2.1:=by
 unfold contrib;split
 ·show b.2.2.1*(b.2.1%2)+(2*b.2.2.1*(b.2.1/2)+0)=b.2.1*b.2.2.1;have e:=Int.emod_add_mul_ediv b.2.1 2;have a:2*b.2.2.1*(b.2.1/2)=b.2.2.1*(2*(b.2.1/2)):=by rw[Int.mul_comm 2 b.2.2.1,Int.mul_assoc]
  rw[Int.add_zero,a,<- Int.mul_add,e,Int.mul_comm]
 ·show b.2.2.1*b.2.1+0=_;rw[Int.add_zero,Int.mul_comm]
noncomputable def conB(bs:List Band):List (Int×Int):=bs.flatMap contrib
theorem Jgh:∀bs ,((conB bs).map fun p=>p.1*p.2).sum=(bs.map fun b=>b.2.1*b.2.2.1).sum
 | []=>rfl
 | b::bs=>by
  unfold conB;rw[flatMap_cons,map_append,sum_append,Jel,map_cons,sum_cons];exact congrArg _ (Jgh bs)
theorem Jem(hw:1<=b.2.1)(c:1<=b.2.2.1):∀p∈contrib b,1<=p.1/\0<=p.2:=by
 intro p a;unfold contrib at a;split at a
 ·rcases mem_cons.mp a with rfl|a
  ·exact⟨c,Int.emod_nonneg _ (by decide)⟩
  ·rcases mem_cons.mp a with rfl|a
   ·exact⟨show 1<=2*b.2.2.1 by lia,Int.ediv_nonneg (by lia) (by decide)⟩
   ·cases a
 ·rcases mem_cons.mp a with rfl|a
  ·exact⟨c,show 0<=b.2.1 by lia⟩
  ·cases a
theorem Jen(c:0<=o)(a:o<b.2.1):∃n,1<=n/\(lenR b o,n)∈contrib b:=by
 unfold lenR contrib
 grind
theorem J9e(b:Band):(contrib b).length<=2:=by unfold contrib;split <;> simp
theorem J81:∀bs ,(conB bs).length<=2*bs.length
 | []=>Nat.le_refl _
 | b::bs=>by
  have c:=J9e b;have a:=J81 bs;show(contrib b++conB bs).length<=2*(bs.length+1)
  grind
structure RdsOf(N:Int)(bs:List Band)(ks:List Int):Prop where
 inc:ks.Pairwise (· < ·)
 pos:∀L∈ks,1<=L/\1<=cntL (conB bs) L
 sum:(ks.map fun L=>L*cntL (conB bs) L).sum=N
 all:∀b<bs.length,∀o,0<=o->o<(bs.getD b bz0).2.1->lenR (bs.getD b bz0) o∈ks
 few:ks.length<=2*bs.length
theorem Sys.rds(S:Sys f N bs){a:List Int}(q:ns.Nodup)(c:∀p∈conB bs,p.1∈ns)(m:∀L∈ns,∃p∈conB bs,p.1=L)(r:ns.length<=(conB bs).length)(d:a.Perm ns)(v:a.Pairwise (·<=·)):
  RdsOf N bs (a.filter fun L=>decide (0<cntL (conB bs) L)):=by
 have j:∀p∈conB bs,1<=p.1/\0<=p.2:=fun p h=>by
  obtain⟨b,hb,h⟩:=mem_flatMap.mp h;have B:=S.bnd _ hb;exact Jem B.1 B.2.1 p h
 have u:=Jq4 (fun p h=>(j p h).2) (ps:=conB bs);refine⟨?_,fun L w=>?_,?_,fun b hb o y i=>?_,?_⟩
 ·refine List.Pairwise.filter _ ?_;have nd:=d.nodup_iff.mpr q;rw[nodup_iff_pairwise_ne] at nd;exact(v.and nd).imp fun h=>by have:=h.1;have:=h.2;lia
 ·obtain⟨i,s⟩:=mem_filter.mp w;obtain⟨p,l,rfl⟩:=m L (d.mem_iff.mp i);have:=of_decide_eq_true s;exact⟨(j p l).1,by lia⟩
 ·rw[Jgd _ fun L _=>u L,Jiz _ d,Jln q _ c,Jgh];exact S.sum
 ·obtain⟨n,z,e⟩:=Jen y i;have e:=mem_flatMap.mpr ⟨_,J3j hb,e⟩;have g:=cnt_ge (fun p h=>(j p h).2) e;have g:n<=cntL (conB bs) (lenR (bs.getD b bz0) o):=g;exact mem_filter.mpr ⟨d.mem_iff.mpr (c _ e),decide_eq_true (by lia)⟩
 ·have i:=length_filter_le (fun L=>decide (0<cntL (conB bs) L)) a;have s:=d.length_eq;have A:=J81 bs;lia
theorem Cok.bands(h:Cok p):∀{k:Nat},Long p k->(bndN p k).length+(chN p k).1.top.length<=p.1.top.length
 | 0,_=>by show 0+p.1.top.length<=_;lia
 | k+1,l=>by
  have d:=h.bands (k:=k) fun i hi=>l i (by lia);have c:=h.at_ (k:=k) fun i hi=>l i (by lia);have ne:=l k (by lia);show(bndN p k++bndB (chN p k)).length+((nextN (chN p k).1).behind (chN p k).1).top.length<=_;rw[length_append];have tp:=J6g c.ok ne;have f:=Jgm (chN p k);by_cases a:(nextN (chN p k).1).drops=true
  ·rw[if_pos a] at tp;have w:=(J5j c.ok ne).win c.ok ne;have:=J47 c.ok.row.nd w;rw[tp];lia
  ·rw[if_neg a] at tp;have b:¬ (nextN (chN p k).1).isHome=true:=fun e=>by
    apply a;cases q:nextN (chN p k).1 <;> rw[q] at e <;> first|rfl|cases e
   have:(bndB (chN p k)).length=0:=by unfold bndB;rw[if_neg b];rfl
   rw[tp.length_eq];lia
end Rl
namespace L2
open PySem PySem.Spec PyProof.Rows
section
variable{X:Cx}
theorem Jhz{ns:List Int}(a:us.length=ns.length)(h:∀(i:Nat) (v:Value),us[i]?=some v->∃t,v=Value.int (ns.getD i 0) t):Vals (ns.map V.int) us:=by
 have:=J48 (f:=fun i=>ns.getD i 0) a h;have e:((List.range ns.length).map fun i=>V.int (ns.getD i 0))=ns.map V.int:=by
  apply ext_getElem?;intro i;by_cases c:i<ns.length
  ·simp_all
  ·rw[List.getElem?_eq_none (by rw[length_map,length_range];lia),List.getElem?_eq_none (by rw[length_map];lia)]
 rwa [e] at this
theorem J7j(R:X.calm=true):J3w X (.builtin "sorted") (fun xs H Q=>∃(p:Addr) (kvs:List (Key×V)) (ns:List Int),xs=[.ref p]/\H p=some (.dK kvs)/\kvs.map (·.1)=ns.map Sum.inl/\ns.length<64/\
  ∀l (c:List Int),H l=none->c.Perm ns->c.Pairwise (·<=·)->Q (.ref l) (upd H l (.lst (c.map V.int)))):=by
 intro pins s σ H xs us Q I r h;obtain⟨p,kvs,ns,rfl,O,E,B,q⟩:=h;obtain⟨u,rfl,M⟩:=J6v r;cases M;obtain⟨N,hd,vs,C,dd⟩:=dk_of I.hok O;obtain⟨ep,A⟩:=dd.dictAt;have D:vs.length=kvs.length:=C.length.symm;have j:kvs.length=ns.length:=by have:=congrArg List.length E;rwa [length_map,length_map] at this
 have y:vs.map (·.1)=ns.map Sum.inl:=C.keys.symm.trans E;refine Calls.call_function_entry kind_sorted plain_sorted entry_sorted (args_sorted1 _) ?_;unfold Builtin.«sorted»;refine wpAny_bind (m:=checkCount "sorted" 1 1 _) (wpAny_pure ?_);refine wpAny_bind (PySem.W.kdu_collect (PySem.W.kdl_dict (knd:=J27 X.prog X.w) (kvs:=vs) (ep:=ep) hd) (I.ok.hd R) A (by rw[D];exact N) fun h' tk acc z d=>?_);have F:IntsAre acc.toList ns:=by
  refine J2c (Jhz (by rw[length_toList];exact d.1.trans (by rw[D,j])) fun i v e=>?_);obtain⟨k,x,U,T⟩:=d.2 i v (by rw[<- Array.getElem?_toList];exact e);have J:(vs.map (·.1))[i]?=some k:=by rw[getElem?_map,U];rfl
  rw[y,getElem?_map] at J;obtain⟨n,S,rfl⟩:=Option.map_eq_some_iff.mp J;rw[getD_eq_getElem?_getD,S];exact PyProof.V.Flat.int_inv (PySem.W.kdl_flat_int (prog:=X.prog) (w:=X.w) T)
 have g:acc.toList.length<64:=by rw[F.length];exact B
 refine wpAny_bind (wpAny_newList ?_);have f:(h'.push (seqObj "list" acc.toList.toArray 0)).get? h'.objs.size=some (seqObj "list" acc.toList.toArray 0):=get?_push_size _ rfl;have L:Inv X pins σ H { s with heap:=h',toks:=tk }:=I.kept z;refine wpAny_bind (wpAny_holding (wpAny_call_entry slot_list_sort ⟨_,f,rfl⟩ entry_list_sort (list_sort_tree f F g fun out c Z K Y=>⟨_,rfl,?_⟩) (args_list_sort _)));refine wpAny_pure ⟨_,rfl,?_⟩;obtain⟨e,P⟩:=sortedHeap_at (out:=out) f;refine⟨.ref h'.objs.size,_,L.laid (t':=tk) (a:=h'.objs.size) (o:=.lst (c.map V.int)) (fun b o G=>?_) (Nat.le_refl _) ⟨?_,out.toList,e,J62 Z,P⟩,rfl,q _ c (L.hok.fresh (Nat.le_refl _)) K Y⟩
 ·have hb:=lt_size G;rw[sortedHeap_old (Nat.ne_of_lt hb) (by rw[size_push'];exact Nat.lt_succ_of_lt hb)];exact get?_push_of_some _ G
 ·rw[length_map,K.length_eq];exact Nat.le_of_lt (Js (by lia))
end
structure RefL(Pr:Addr->Int->Prop)(ys:List V)(xs:List Int):Prop where
 len:ys.length=xs.length
 at_:∀(i:Nat) (x:Int),xs[i]?=some x->∃q,ys[i]?=some (.ref q)/\Pr q x
theorem RefL.nil :RefL Pr [] []:=⟨rfl,fun i x h=>by simp_all⟩
theorem RefL.snoc(h:RefL Pr ys xs)(b:Pr q x):RefL Pr (ys++[.ref q]) (xs++[x]):=by
 refine⟨by rw[length_append,length_append,h.len];rfl,fun i y a=>?_⟩;by_cases c:i<xs.length
 ·rw[getElem?_append_left c] at a;obtain⟨p,e,d⟩:=h.at_ i y a;exact⟨p,by rw[getElem?_append_left (by rw[h.len];exact c)];exact e,d⟩
 ·rw[getElem?_append_right (by lia)] at a;have e:i=xs.length:=by
   apply Classical.byContradiction;intro k;rw[List.getElem?_eq_none (by show 1<=_;lia)] at a;cases a
  subst e;rw[Nat.sub_self] at a;obtain rfl:x=y:=Option.some.inj a;refine⟨q,?_,b⟩;rw[getElem?_append_right (by rw[h.len];exact Nat.le_refl _),h.len,Nat.sub_self];rfl
theorem RefL.mono(h:RefL Pr ys xs)(m:∀q x,Pr q x->Pr' q x):RefL Pr' ys xs:=
 ⟨h.len,fun i x a=>by obtain⟨q,e,p⟩:=h.at_ i x a;exact⟨q,e,m q x p⟩⟩
theorem Jg1{K:Frag}(xs:List Int)(G:Int->Bool)(s:Hp->Addr->Int->Prop)(z:SqL K H1 a (xs.map V.int))(R:xs.length<=sizeLine)(hd:H1 d=none)(mono:∀H c q x,Jp2 d H c->q≠d->s H q x->s c q x)(F:∀x∈xs,∀H B,Same H1 H->(∀c,Same H c->B (G x) c)->tc (some (.int x)::capv σ js) H B)(L:∀x∈xs,∀H C,G x=true->Same H1 H->(∃ys,H d=some (.lst ys))->(∀q c,Same H c->q≠d->s c q x->C (.ref q) c)->te (some (.int x)::capv σ js) H C)(I:∀ys c,Same H1 c->c d=some (.lst ys)->RefL (fun q x=>s c q x) ys (xs.filter G)->Q (.ref d) c):LCW (Itl K a) tc te σ js Q H1 d:=by
 have s0:∀o,Same H1 (upd H1 d o):=fun o b u e=>by rw[Jh (Jb e hd)];exact e
 refine⟨fun i m ys H=>m=xs.length-i/\i<=xs.length/\Same H1 H/\H d=some (.lst ys)/\RefL (fun q x=>q≠d/\s H q x) ys ((xs.take i).filter G),⟨_,rfl,Nat.zero_le _,s0 _,J7,RefL.nil⟩,?_⟩;rintro i m ys P ⟨rfl,hi,g,l,p⟩;refine⟨l,?_⟩;by_cases f:i<xs.length
 ·have A:(xs.map V.int)[i]?=some (.int xs[i]):=by rw[getElem?_map,gE f];rfl
  have tk:=(take_append_getElem f).symm;have mem:=List.getElem_mem f;have E:ys.length<sizeLine:=by
   rw[p.len];have S:=length_filter_le G (xs.take i);have l:=List.length_take_le i xs;lia
  refine .inr ⟨⟨_,_,g.seq z,A⟩,E,fun v O D=>?_⟩;obtain⟨rfl,w⟩:=D;have w:=w _ (g.seq z);obtain rfl:V.int xs[i]=v:=Option.some.inj (A.symm.trans w);refine F _ mem O _ g fun N j=>?_
  cases hg:G xs[i] with
  | false =>
   rw[if_neg (by decide)];refine⟨xs.length-(i+1),by lia,rfl,f,g.trans j,j _ _ l,?_⟩;rw[tk,filter_append,filter_cons,hg];have e:(if false=true then xs[i]::List.filter G [] else List.filter G [])=[]:=rfl;rw[e,append_nil];exact p.mono fun q x h=>⟨h.1,mono _ _ _ _ (fun b o M _=>j _ _ M) h.1 h.2⟩
  | true =>
   rw[if_pos rfl];refine L _ mem N _ hg (g.trans j) ⟨_,j _ _ l⟩ fun q T y r J=>⟨y _ _ (j _ _ l),xs.length-(i+1),by lia,rfl,f,?_,J7,?_⟩
   ·intro b u e;rw[Jh (Jb e hd)];exact y _ _ (j _ _ (g _ _ e))
   ·have kd:∀H,Jp2 d H (upd H d (.lst (ys++[.ref q]))):=fun H b o e n=>by rw[Jh n];exact e
    rw[tk,filter_append,filter_cons,hg];refine(p.mono fun a x h=>⟨h.1,?_⟩).snoc ⟨r,mono _ _ _ _ (kd _) r J⟩;exact mono _ _ _ _ (fun b o e n=>kd _ _ _ (y _ _ (j _ _ e)) n) h.1 h.2
 ·have e:i=xs.length:=by lia
  subst e;refine .inl ⟨⟨_,g.seq z,by rw[length_map];exact Nat.le_refl _⟩,I ys P g l ?_⟩;rw[take_length] at p;exact p.mono fun _ _ h=>h.2
end L2
namespace L2
open PySem PySem.Spec PyProof.Rows Rl
theorem Jnb{kvs:List (Key×V)}(v:V)(h:valV kvs k≠none):(putK kvs k v).map (·.1)=kvs.map (·.1):=by
 unfold putK;have e:(kvs.any fun a=>decide (a.1=k))=true:=by
  rw[J56]
  cases q:valV kvs k with
  | none=>exact absurd q h
  | some x=>rfl
 rw[e,if_pos rfl,map_map];refine map_congr_left fun a _=>?_;show(if a.1=k then (a.1,v) else a).1=a.1;split <;> rfl
structure CntD(ps:List (Int×Int))(kvs:List (Key×V))(ns:List Int):Prop where
 keys:kvs.map (·.1)=ns.map Sum.inl
 nd:ns.Nodup
 all:∀p∈ps,p.1∈ns
 has:∀L∈ns,∃p∈ps,p.1=L
 len:ns.length<=ps.length
 val:∀L∈ns,valV kvs (Sum.inl L)=some (.int (cntL ps L))
 no:∀L,L ∉ ns->valV kvs (Sum.inl L)=none
theorem CntD.nil:CntD [] [] [] where
 keys:=rfl
 nd:=List.nodup_nil
 all:=fun p h=>absurd h not_mem_nil
 has:=fun L h=>absurd h not_mem_nil
 len:=Nat.le_refl _
 val:=fun L h=>absurd h not_mem_nil
 no:=fun L _=>rfl
theorem CntD.get(h:CntD ps kvs ns)(L:Int):(valV kvs (Sum.inl L)).getD (.int 0)=.int (cntL ps L):=by
 by_cases c:L∈ns
 ·rw[h.val L c];rfl
 ·rw[h.no L c,J9f fun p a e=>c (by rw[<- e];exact h.all p a)];rfl
theorem CntD.put(h:CntD ps kvs ns)(L n:Int):∃f,CntD (ps++[(L,n)]) (putK kvs (Sum.inl L) (.int (cntL ps L+n))) f:=by
 have d:∀j ,valV (putK kvs (Sum.inl L) (.int (cntL ps L+n))) (Sum.inl j)=if j=L then some (.int (cntL ps L+n)) else valV kvs (Sum.inl j):=fun j=>by
  rw[Jm1];by_cases e:j=L
  ·rw[if_pos e,if_pos (congrArg _ e)]
  ·rw[if_neg e,if_neg (fun q=>e (Sum.inl.inj q))]
 have g:∀j ,cntL (ps++[(L,n)]) j=if j=L then cntL ps L+n else cntL ps j:=fun j=>by
  rw[Joy];by_cases e:j=L
  ·rw[if_pos e,e,if_pos rfl]
  ·rw[if_neg e,if_neg (fun q =>e q.symm)];lia
 by_cases c:L∈ns
 ·refine⟨ns,(Jnb _ (by rw[h.val L c];exact fun e=>nomatch e)).trans h.keys,h.nd,fun p b=>?_,fun j a=>?_,?_,fun j a=>?_,fun j a=>?_⟩
  ·rcases mem_append.mp b with b|b
   ·exact h.all p b
   ·rw[mem_singleton.mp b];exact c
  ·obtain⟨p,b,e⟩:=h.has j a;exact⟨p,mem_append_left _ b,e⟩
  ·rw[length_append];have:=h.len;lia
  ·rw[d,g];split
   ·rfl
   ·exact h.val j a
  ·rw[d,if_neg (show ¬ j=L from fun e=>a (by rw[e];exact c))];exact h.no j a
 ·refine⟨ns++[L],?_,Jk2 h.nd c,fun p b=>?_,fun j a=>?_,?_,fun j a=>?_,fun j a=>?_⟩
  ·rw[Jnc _ (h.no L c),map_append,map_append,h.keys];rfl
  ·rcases mem_append.mp b with b|b
   ·exact mem_append_left _ (h.all p b)
   ·rw[mem_singleton.mp b];exact mem_append_right _ (mem_singleton.mpr rfl)
  ·rcases mem_append.mp a with a|a
   ·obtain⟨p,b,e⟩:=h.has j a;exact⟨p,mem_append_left _ b,e⟩
   ·exact⟨(L,n),mem_append_right _ (mem_singleton.mpr rfl),(mem_singleton.mp a).symm⟩
  ·rw[length_append,length_append];have:=h.len;show ns.length+1<=ps.length+1;lia
  ·rw[d,g];split
   ·rfl
   ·rename_i e;rcases mem_append.mp a with a|a
    ·exact h.val j a
    ·exact absurd (mem_singleton.mp a) e
  ·have l:=fun e=>a (mem_append_left _ e);have i:j≠L:=fun e=>a (by rw[e];exact mem_append_right _ (mem_singleton.mpr rfl));rw[d,if_neg i];exact h.no j l
theorem CntD.klen(h:CntD ps kvs ns):kvs.length=ns.length:=by
 have:=congrArg List.length h.keys;rwa [length_map,length_map] at this
end L2
namespace Rl
open Classical in
noncomputable def rOf(f:Int->Int)(x:Int):Nat:=if h:∃n,J44 f x n then h.choose else 0
theorem Jfl(R:J44 f x n):rOf f x=n:=by
 unfold rOf;rw[dif_pos ⟨n,R⟩];exact(Exists.choose_spec (⟨n,R⟩:∃n,J44 f x n)).uniq R
noncomputable def numP(p:Nat->Bool):Nat->Nat
 | 0=>0
 | n+1=>numP p n+if p n=true then 1 else 0
theorem J3f :∀{n:Nat},(∀y<n,p y=q y)->numP p n=numP q n
 | 0,_=>rfl
 | n+1,h=>by
  show numP p n+_=numP q n+_;rw[J3f fun y a=>h y (by lia),h n (by lia)]
theorem J8h :∀{n:Nat},(∀y<n,p y=false)->numP p n=0
 | 0,_=>rfl
 | n+1,h=>by
  show numP p n+_=0;rw[J8h fun y a=>h y (by lia),h n (by lia)];rfl
theorem J9y(p c:Nat->Bool):∀n ,numP p n=numP (fun y=>p y&&c y) n+numP (fun y=>p y && !c y) n
 | 0=>rfl
 | n+1=>by
  show numP p n+(if p n=true then 1 else 0)=(numP (fun y=>p y&&c y) n+(if (p n&&c n)=true then 1 else 0))+(numP (fun y=>p y && !c y) n+(if (p n && !c n)=true then 1 else 0));rw[J9y p c n]
  grind
theorem Jft(n:Nat):numP (fun _=>true) n=n:=by
 induction n with
 | zero=>rfl
 | succ n ih=>show numP _ n+1=_;rw[ih]
theorem Jfs(w:Int):∀n ,numP (fun o=>decide ((o:Int)=w-1-o)) n=if w%2=1/\w<2*(n:Int) then (if 0<w then 1 else 0) else 0
 | 0=>by
  show 0=_
  grind
 | n+1=>by
  show numP _ n+(if decide ((n:Int)=w-1-n)=true then 1 else 0)=_;rw[Jfs w n]
  grind
noncomputable def colN(b:Band)(L:Int):Nat:=numP (fun o=>decide (lenR b (o:Int)=L)) b.2.1.toNat
theorem Jsd(hw:1<=b.2.1)(m:1<=b.2.2.1)(L:Int):b.2.2.1*(colN b L:Int)=L*cntL (contrib b) L:=by
 unfold colN contrib lenR;by_cases t:b.2.2.2=true
 ·rw[if_pos t,J3q,J3q];have f:cntL [] L=0:=rfl;rw[f,Int.add_zero];have mid:=Jfs b.2.1 b.2.1.toNat;have j:numP (fun o=>decide ((o:Int)=b.2.1-1-o)) b.2.1.toNat=(b.2.1%2).toNat:=by
   rw[mid];split
   ·rw[if_pos (by lia)];lia
   ·lia
  have ne:numP (fun o=>!decide ((o:Int)=b.2.1-1-o)) b.2.1.toNat=b.2.1.toNat-(b.2.1%2).toNat:=by
   have s:=J9y (fun _=>true) (fun o=>decide ((o:Int)=b.2.1-1-o)) b.2.1.toNat;rw[Jft] at s;have l:numP (fun y=>true&&decide ((y:Int)=b.2.1-1-y)) b.2.1.toNat=numP (fun o=>decide ((o:Int)=b.2.1-1-o)) b.2.1.toNat:=J3f fun y _=>Bool.true_and _;have n:numP (fun y=>true && !decide ((y:Int)=b.2.1-1-y)) b.2.1.toNat=numP (fun o=>!decide ((o:Int)=b.2.1-1-o)) b.2.1.toNat:=J3f fun y _=>Bool.true_and _;rw[l,j] at s;lia
  by_cases d:2*b.2.2.1=L
  ·have g:¬ b.2.2.1=L:=by lia
   have e:numP (fun o=>decide ((if b.2.2.2=true/\(o:Int)≠b.2.1-1-o then 2*b.2.2.1 else b.2.2.1)=L)) b.2.1.toNat=numP (fun o=>!decide ((o:Int)=b.2.1-1-o)) b.2.1.toNat:=J3f fun y _=>by
    by_cases c:(y:Int)=b.2.1-1-y
    ·rw[if_neg (fun h=>h.2 c),decide_eq_true c,decide_eq_false g];rfl
    ·rw[if_pos ⟨t,c⟩,decide_eq_false c,decide_eq_true d];rfl
   rw[e,ne,if_neg g,if_pos d,Int.zero_add,<- d];have:((b.2.1.toNat-(b.2.1%2).toNat:Nat):Int)=2*(b.2.1/2):=by lia
   rw[this,<- Int.mul_assoc,Int.mul_comm b.2.2.1 2]
  ·by_cases a:b.2.2.1=L
   ·have e:numP (fun o=>decide ((if b.2.2.2=true/\(o:Int)≠b.2.1-1-o then 2*b.2.2.1 else b.2.2.1)=L)) b.2.1.toNat=numP (fun o=>decide ((o:Int)=b.2.1-1-o)) b.2.1.toNat:=J3f fun y _=>by
     by_cases c:(y:Int)=b.2.1-1-y
     ·rw[if_neg (fun h=>h.2 c),decide_eq_true c,decide_eq_true a]
     ·rw[if_pos ⟨t,c⟩,decide_eq_false c,decide_eq_false d]
    rw[e,j,if_pos a,if_neg d,Int.add_zero,<- a];rw[show(((b.2.1%2).toNat:Nat):Int)=b.2.1%2 by lia]
   ·have e:numP (fun o=>decide ((if b.2.2.2=true/\(o:Int)≠b.2.1-1-o then 2*b.2.2.1 else b.2.2.1)=L)) b.2.1.toNat=0:=J8h fun y _=>by
     by_cases c:(y:Int)=b.2.1-1-y
     ·rw[if_neg (fun h=>h.2 c),decide_eq_false a]
     ·rw[if_pos ⟨t,c⟩,decide_eq_false d]
    rw[e,if_neg a,if_neg d];show b.2.2.1*0=L*(0+0);rw[Int.mul_zero,Int.add_zero,Int.mul_zero]
 ·rw[if_neg t,J3q];have f:cntL [] L=0:=rfl;rw[f,Int.add_zero];have i:∀y:Nat,(if b.2.2.2=true/\(y:Int)≠b.2.1-1-y then 2*b.2.2.1 else b.2.2.1)=b.2.2.1:=fun y=>if_neg fun h=>t h.1;by_cases a:b.2.2.1=L
  ·have e:numP (fun o=>decide ((if b.2.2.2=true/\(o:Int)≠b.2.1-1-o then 2*b.2.2.1 else b.2.2.1)=L)) b.2.1.toNat=b.2.1.toNat:=by
    rw[J3f (q:=fun _=>true) fun y _=>by rw[i,decide_eq_true a],Jft]
   rw[e,if_pos a,<- a,show((b.2.1.toNat:Nat):Int)=b.2.1 by lia]
  ·have e:numP (fun o=>decide ((if b.2.2.2=true/\(o:Int)≠b.2.1-1-o then 2*b.2.2.1 else b.2.2.1)=L)) b.2.1.toNat=0:=J8h fun y _=>by rw[i,decide_eq_false a]
   rw[e,if_neg a];show b.2.2.1*0=L*0;rw[Int.mul_zero,Int.mul_zero]
theorem Jhs(ps a:List (Int×Int))(L:Int):cntL (ps++a) L=cntL ps L+cntL a L:=by
 unfold cntL;rw[map_append,sum_append]
noncomputable def numL(f:Int->Int)(L:Nat)(xs:List Int):Nat:=xs.countP fun x=>decide (rOf f x=L)
theorem Jrz(S:Sys f N bs)(hb:b∈bs){o:Nat}(g:(o:Int)<b.2.1)(L:Nat):numL f L (J6c f b o)=if lenR b (o:Int)=L then b.2.2.1.toNat else 0:=by
 obtain⟨i,hi,rfl⟩:=List.getElem_of_mem hb;have e:bs.getD i bz0=bs[i]:=by rw[getD_eq_getElem?_getD,gE hi];rfl
 have d:∀x∈J6c f bs[i] o,(rOf f x:Int)=lenR bs[i] (o:Int):=fun x a=>by
  obtain⟨l,h,rfl⟩:=J4x.mp a;have A:Adr bs i (o:Int) (l:Int):=⟨hi,by lia,by rw[e];exact g,by lia,by rw[e];exact h⟩;obtain⟨R,j⟩:=S.rnd A;have ep:plOf f bs i (o:Int) (l:Int)=itN f l (bs[i].1+(o:Int)):=by unfold plOf;rw[e];rfl
  rw[ep] at R;rw[Jfl R];rw[e] at j ⊢;lia
 unfold numL;by_cases c:lenR bs[i] (o:Int)=L
 ·rw[if_pos c,List.countP_eq_length.mpr fun x a=>decide_eq_true (by have:=d x a;lia)];unfold J6c;rw[length_map,length_range]
 grind
theorem Jo7(S:Sys f N bs)(hb:b∈bs)(L:Nat):(numL f L (J53 f b):Int)=L*cntL (contrib b) L:=by
 have B:=S.bnd _ hb;rw[<- Jsd B.1 B.2.1];have h:∀n:Nat,(n:Int)<=b.2.1->(numL f L ((List.range n).flatMap (J6c f b)):Int)=b.2.2.1*(numP (fun o=>decide (lenR b (o:Int)=L)) n:Int):=fun n=>by
  induction n with
  | zero=>intro _;show(0:Int)=b.2.2.1*0;rw[Int.mul_zero]
  | succ n ih =>
   intro d;have a:=ih (by lia);have e:numL f L ((List.range (n+1)).flatMap (J6c f b))=numL f L ((List.range n).flatMap (J6c f b))+numL f L (J6c f b n):=by
    rw[range_succ,flatMap_append,List.flatMap_singleton];unfold numL;rw[List.countP_append]
   rw[e,Jrz S hb (by lia),Int.natCast_add,a];show _=b.2.2.1*((numP (fun o=>decide (lenR b (o:Int)=L)) n+(if decide (lenR b (n:Int)=L)=true then 1 else 0):Nat):Int);have g:=B.2.1;by_cases c:lenR b (n:Int)=L
   ·rw[if_pos c,decide_eq_true c,Int.natCast_add,Int.mul_add];show _+((b.2.2.1.toNat:Nat):Int)=_+b.2.2.1*1;rw[Int.mul_one];lia
   ·rw[if_neg c,decide_eq_false c];show _+(0:Int)=b.2.2.1*((numP (fun o=>decide (lenR b (o:Int)=L)) n:Nat):Int);rw[Int.add_zero]
 have w:=B.1;exact h b.2.1.toNat (by lia)
theorem Js0(S:Sys f N bs)(L:Nat):(numL f L (J60 f bs):Int)=L*cntL (conB bs) L:=by
 have h:∀cs:List Band,(∀b∈cs,b∈bs)->(numL f L (cs.flatMap (J53 f)):Int)=L*cntL (cs.flatMap contrib) L:=fun cs=>by
  induction cs with
  | nil=>intro _;show(0:Int)=L*0;rw[Int.mul_zero]
  | cons b cs ih =>
   intro a;have d:=ih fun c g=>a c (mem_cons_of_mem _ g);have e:numL f L ((b::cs).flatMap (J53 f))=numL f L (J53 f b)+numL f L (cs.flatMap (J53 f)):=by
    rw[flatMap_cons];unfold numL;rw[List.countP_append]
   rw[e,flatMap_cons,Jhs,Int.mul_add,<- Jo7 S (a b mem_cons_self),<- d,Int.natCast_add]
 exact h bs fun b hb=>hb
theorem J52 :∀n ,((List.range n).map fun(y:Nat)=>(y:Int)).countP p=numP (fun y=>p (y:Int)) n
 | 0=>rfl
 | n+1=>by
  rw[range_succ,map_append,List.countP_append,J52 n];show _+List.countP p [(n:Int)]=numP _ n+_;rw[List.countP_singleton]
theorem Sys.places(S:Sys f N bs):(J60 f bs).Perm ((List.range N.toNat).map fun(y:Nat)=>(y:Int)):=by
 have d:((List.range N.toNat).map fun(y:Nat)=>(y:Int)).Nodup:=pairwise_map.mpr (pairwise_lt_range.imp fun {a b} h e=>by lia);rw[List.perm_iff_count];intro x;have m:x∈J60 f bs↔x∈((List.range N.toNat).map fun(y:Nat)=>(y:Int)):=by
  constructor
  ·intro h;have:=S.all_in h;exact mem_map.mpr ⟨x.toNat,mem_range.mpr (by lia),by lia⟩
  ·intro h;obtain⟨y,g,rfl⟩:=mem_map.mp h;have:=mem_range.mp g;exact J8l.mpr (S.exists (by lia) (by lia))
 by_cases c:x∈J60 f bs
 ·rw[S.nodup.count,d.count,if_pos c,if_pos (m.mp c)]
 ·rw[List.count_eq_zero.mpr c,List.count_eq_zero.mpr fun h=>c (m.mpr h)]
theorem Sys.num(S:Sys f N bs)(L:Nat):(numP (fun y=>decide (rOf f (y:Int)=L)) N.toNat:Int)=L*cntL (conB bs) L:=by
 rw[<- Js0 S];unfold numL;rw[S.places.countP_eq,J52]
end Rl
namespace Rl
structure RdsO2(N:Int)(bs:List Band)(ks:List Int):Prop where
 base:RdsOf N bs ks
 only:∀L,1<=cntL (conB bs) L->L∈ks
theorem Sys.rds2(S:Sys f N bs){b:List Int}(n:ns.Nodup)(a:∀p∈conB bs,p.1∈ns)(i:∀L∈ns,∃p∈conB bs,p.1=L)(d:ns.length<=(conB bs).length)(l:b.Perm ns)(j:b.Pairwise (·<=·)):
  RdsO2 N bs (b.filter fun L=>decide (0<cntL (conB bs) L)):=by
 refine⟨S.rds n a i d l j,fun L h=>?_⟩;have m:L∈ns:=by
  apply Classical.byContradiction;intro c;rw[J9f fun p g e=>c (by rw[<- e];exact a p g)] at h;lia
 grind
end Rl
namespace L2
open PySem PySem.Spec PyProof.Rows
class En where
 P:Program
 w:World
 K:Frag
 mg:Str->Option Value
 base:Heap
variable [n:En]{CX:CXT}{j k:Nat}{x:Str}{st:Stmt}{ps N:List Str}{ds:List Value}{dvs:List V}{sp:Sp}{C:Addr}{X:Cx}{E:XK}{p pos:Pos}{e:Expr}{es:List Expr}{t:TA}
noncomputable def Fn0(x:Str)(st:Stmt)(ps:List Str):Prop:=∃f fd,Fun n.K x x st f fd/\J2z n.K fd ps []/\n.mg x=some (.ref f)
noncomputable def Cal(CX:CXT)(k:Nat)(x:Str)(ps:List Str)(sp:Sp):Prop:=∃f fd,FnOk n.P n.w n.K n.mg n.base CX k f fd ps sp/\J2z n.K fd ps []/\n.mg x=some (.ref f)/\keepIn n.K (.ref f)=true
noncomputable def Mak(CX:CXT)(k:Nat)(x:Str)(C:Addr)(ps:List Str)(a:List Value)(sp:Sp):Prop:=∃f fd,Mk n.K C f/\FnOk n.P n.w n.K n.mg n.base CX k f fd ps sp/\J2z n.K fd ps a/\n.mg x=some (.ref C)
theorem Fn0.cal(F:Fn0 x st ps)(h:∀f fd,Fun n.K x x st f fd->FnOk n.P n.w n.K n.mg n.base CX k f fd ps sp):Cal CX k x ps sp:=by obtain⟨f,fd,F,b,m⟩:=F;exact⟨f,fd,h f fd F,b,m,F.kp⟩
theorem Fn0.ok(F:Fn0 x st ps)(S:Jr N ps (Jd st))(a:∀(f:Addr) (b:Value) (A:Around) (outer:List Env) (s:Shared) (H:Hp) (vs:List V) (Q:VK) (E:XK),Room k (A.deeper (envOfC x (Jd st) s.heap.objs.size f b))->sp vs H Q E->
   ∃t,PSs (cxOf CX0 n.P n.w n.K n.mg n.base N x (Jd st) f b A outer s H E).nox (J1g st) t/\t { nx:=fun _ c=>Q .non c,rt:=Q } (start N vs) H)(len:∀vs H Q E,sp vs H Q E->vs.length=ps.length:=by rintro _ _ _ _ ⟨⟩;subst_vars;rfl):Cal CX0 (k+1) x ps sp:=F.cal fun f _ F=>F.ok S len (a f)
theorem Fn0.okX(F:Fn0 x st ps)(S:Jr N ps (Jd st))(a:∀(f:Addr) (b:Value) (A:Around) (outer:List Env) (s:Shared) (H:Hp) (vs:List V) (Q:VK) (E:XK),Room k (A.deeper (envOfC x (Jd st) s.heap.objs.size f b))->sp vs H Q E->
   ∃t,PSs (cxOf (Exc1 n.P n.w) n.P n.w n.K n.mg n.base N x (Jd st) f b A outer s H E) (J1g st) t/\t { nx:=fun _ c=>Q .non c,rt:=Q } (start N vs) H)(len:∀vs H Q E,sp vs H Q E->vs.length=ps.length:=by rintro _ _ _ _ ⟨⟩;subst_vars;rfl):Cal (Exc1 n.P n.w) (k+1) x ps sp:=F.cal fun f _ F=>F.okX S len (a f)
theorem Fun.ok1(F:Fun n.K x q st f fd)(S:Jr N ps (Jd st))(a:∀(b:Value) (A:Around) (outer:List Env) (s:Shared) (H:Hp) (vs:List V) (Q:VK) (E:XK),Room k (A.deeper (envOfC q (Jd st) s.heap.objs.size f b))->sp vs H Q E->
   ∃t,PSs (cxOf CX0 n.P n.w n.K n.mg n.base N q (Jd st) f b A outer s H E).nox (J1g st) t/\t { nx:=fun _ c=>Q .non c,rt:=Q } (start N vs) H)(len:∀vs H Q E,sp vs H Q E->vs.length=ps.length:=by rintro _ _ _ _ ⟨⟩;subst_vars;rfl):FnOk n.P n.w n.K n.mg n.base CX0 (k+1) f fd ps sp:=F.ok S len a
theorem pcl(c:@Cal ⟨X.prog,X.w,X.K,X.mg,X.base⟩ CX j x ps sp)(h:Room k X.A)(g:J46 CX X E)(o:PA X (e::es) t)(l:Gl X x:=by rfl)(i:j<=k:=by decide)(d:(x==("__debug__":Str))=false:=by decide)(n:starEach (e::es) X.env=(false,eval e X.env)::starEach es X.env:=by rfl)(a:(backTo pos (starEach es X.env)).any (·.1)=false:=by rfl):PE X (.Call (.Name x p) (e::es) [] pos) (Jm4 sp [] E t):=by
 obtain⟨f,fd,F,b,m,kp⟩:=c;exact Jra F (h.mono i) l m kp b .nil g o d n a
theorem pmk(c:@Mak ⟨X.prog,X.w,X.K,X.mg,X.base⟩ CX j x C ps ds sp)(i:Room k X.A)(g:J46 CX X E)(q:PA X (e::es) t)(h:Vals dvs ds:=by exact .nil)(n:Gl X x:=by rfl)(l:j+1<=k:=by decide)(d:(x==("__debug__":Str))=false:=by decide)(o:starEach (e::es) X.env=(false,eval e X.env)::starEach es X.env:=by rfl)(a:(backTo pos (starEach es X.env)).any (·.1)=false:=by rfl):PE X (.Call (.Name x p) (e::es) [] pos) (tMake C sp dvs E t):=by
 obtain⟨f,fd,M,F,b,m⟩:=c;exact J5r M F (i.mono l) n m b h g q d o a
noncomputable def Bas(CX:CXT)(k:Nat)(x m:Str)(ps:List Str)(sp:Sp):Prop:=∃B f fd,Jsk n.K B m f/\n.mg x=some (.ref B)/\FnOk n.P n.w n.K n.mg n.base CX k f fd ps sp/\J2z n.K fd ps []
theorem pbs(c:@Bas ⟨X.prog,X.w,X.K,X.mg,X.base⟩ CX j x m ps sp)(l:Room k X.A)(h:J46 CX X E)(r:PA X (e::es) t)(q:Gl X x:=by rfl)(o:j<=k:=by decide)(g:(x==("__debug__":Str))=false:=by decide)(a:starEach (e::es) X.env=(false,eval e X.env)::starEach es X.env:=by rfl)(d:(backTo pos (starEach es X.env)).any (·.1)=false:=by rfl)(i:eval (.Call (.Attribute (.Name x p) m apos) (e::es) [] pos) X.env=(do
   let ov <- eval (.Name x p) X.env
   standAt apos.atName
   let (f,first) <- holding [ov] (getMethod ov m pl)
   callWith pos f first (backTo pos (starEach (e::es) X.env)) (backToKw pos (keywordEach [] X.env))):=by rfl):PE X (.Call (.Attribute (.Name x p) m apos) (e::es) [] pos) (Jm4 sp [] E t):=by
 obtain⟨B,f,fd,M,n,F,b⟩:=c;exact Jrb M q n F (l.mono o) b .nil h r g a d i
noncomputable def scOk(N P:List Str)(a:Scope):Bool:=decide (a.kind=.function) && !a.isCoroutine && !a.isGenerator&&decide N.Nodup&&decide (N.take P.length=P)&&P.all (fun x=>decide (a.names.lookup x=some .local) || decide (a.names.lookup x=some .cell))&&a.names.all fun y=>decide (y.2≠.free)
omit n in
theorem fsc{P:List Str}{i:Scope}(h:scOk N P i=true:=by decide +kernel):Jr N P i:=by
 simp only[scOk,Bool.and_eq_true,decide_eq_true_eq,Bool.not_eq_true',all_eq_true,Bool.or_eq_true] at h;obtain⟨⟨⟨⟨⟨⟨a,b⟩,c⟩,d⟩,e⟩,f⟩,g⟩:=h;exact⟨a,b,c,d,e,f,g⟩
end L2
namespace L2
open PySem PySem.Spec PyProof.Rows
theorem usOf0{P:List Value->Prop}(h:P []):∀us ,us.length=0->P us:=fun us e=>by
 grind
theorem usS{P:List Value->Prop}(h:∀a us,us.length=n->P (a::us)):∀us ,us.length=n+1->P us:=fun us e=>by
 cases us with
 | nil=>cases e
 | cons a l=>exact h a l (Nat.succ.inj e)
theorem usOf1{P:List Value->Prop}(h:∀a,P [a]):∀us ,us.length=1->P us:=usS fun a=>usOf0 (P:=fun us=>P (a::us)) (h a)
theorem usOf2{P:List Value->Prop}(h:∀a b,P [a,b]):∀us ,us.length=2->P us:=usS fun a=>usOf1 (P:=fun us=>P (a::us)) (h a)
theorem usOf3{P:List Value->Prop}(h:∀a b c,P [a,b,c]):∀us ,us.length=3->P us:=usS fun a=>usOf2 (P:=fun us=>P (a::us)) (h a)
theorem usOf4{P:List Value->Prop}(h:∀a b c d,P [a,b,c,d]):∀us ,us.length=4->P us:=usS fun a=>usOf3 (P:=fun us=>P (a::us)) (h a)
theorem usOf5{P:List Value->Prop}(h:∀a b c d e,P [a,b,c,d,e]):∀us ,us.length=5->P us:=usS fun a=>usOf4 (P:=fun us=>P (a::us)) (h a)
section
variable{K:Frag}{h:Heap}{mg:Str->Option Value}{x q m:Str}{st:Stmt}{ps:List Str}{f C:Addr}{oc:Value}{od an:Option Addr}{osl:Array (Option Value)}{kV doc pm cdv ct:Value}
theorem fnk(X:K.In h)(G:h.Ns mainGlobals mg)(a:nsIn K mainGlobals x=some (some (.ref f)))(l:K.lookup f=some ⟨oc,od,.func (fnOf x x (J2p st) (J1g st) (Jd st) .none kV doc pm an cdv ct),osl⟩)(c:codeIn K cdv x=true)(k:keepIn K (.ref f)=true)(b:∀us ,us.length=ps.length->bindArgs (fnOf x x (J2p st) (J1g st) (Jd st) .none kV doc pm an cdv ct) ⟨us,[]⟩=pure (ps.zip us)):
  ∃f fd,Fun K x x st f fd/\J2z K fd ps []/\mg x=some (.ref f):=⟨f,_,Jcp l c k,.all b,mg_of X G a⟩
theorem mek(a:findIn K (.ref C) m=some (some (.ref f)))(i:isFn K (.ref f)=true)(l:K.lookup f=some ⟨oc,od,.func (fnOf x q (J2p st) (J1g st) (Jd st) .none kV doc pm an cdv ct),osl⟩)(c:codeIn K cdv q=true)(k:keepIn K (.ref f)=true)(b:∀us ,us.length=ps.length->bindArgs (fnOf x q (J2p st) (J1g st) (Jd st) .none kV doc pm an cdv ct) ⟨us,[]⟩=pure (ps.zip us)):
  ∃f fd,Fun K x q st f fd/\J2z K fd ps []/\Meth K C m f:=⟨f,_,Jcp l c k,.all b,a,i,k⟩
theorem clk(a:plainGet K C Str.empty=true)(b:hasDictIn K C=true)(c:plainOver K C=true)(d:findIn K (.ref C) "__setattr__"=some (some (.builtin "object.__setattr__"))):Cls K C:=⟨a,b,c,d⟩
theorem hasm [n:En](c:Cls n.K C)(e:∃f fd,Fun n.K x q st f fd/\J2z n.K fd ps []/\Meth n.K C m f)(h:∀f fd,Fun n.K x q st f fd->FnOk n.P n.w n.K n.mg n.base CX k f fd ps sp):
  HasM n.P n.w n.K n.mg n.base CX k m ps sp C:=by obtain⟨f,fd,F,b,M⟩:=e;exact⟨f,fd,c,M,h f fd F,b⟩
theorem makm [n:En](c:n.mg y=some (.ref C))(a:makesIn n.K C=true)(kp:keepIn n.K (.ref C)=true)(e:∃f fd,Fun n.K x q st f fd/\J2z n.K fd ps []/\Meth n.K C "__init__" f)(h:∀f fd,Fun n.K x q st f fd->FnOk n.P n.w n.K n.mg n.base CX k f fd ps sp):Mak CX k y C ps [] sp:=by obtain⟨f,fd,F,b,M⟩:=e;exact⟨f,fd,⟨a,M.at_,M.fn,kp⟩,h f fd F,b,c⟩
end
variable{X:Cx}{N P:List Str}{sc:Scope}{x:Str}{e:Expr}{te:TE}{pos pos':Pos}
theorem pst(S:Jr N P sc)(i:Nat)(d:PE X e te)(h:N=X.N:=by rfl)(hi:X.N[i]?=some x:=by rfl)(a:Loc X.env.scope x:=by first|exact .inl rfl|exact .inr rfl)(b:swapsWith e (some (.Name x pos')) pos.line X.env=pure false:=by rfl)(c:X.fn x=true\/X.env.scope.names.lookup x=some .local:=by first|exact .inl rfl|exact .inr rfl|assumption):
  PS X (.Assign [.Name x pos'] e pos) (tAsg te (J8r i)):=ps_set (h▸S.nd) hi a d b c
theorem pgm(S:Jr N P sc)(i:Nat)(h:N=X.N:=by rfl)(hi:X.N[i]?=some x:=by rfl)(a:Loc X.env.scope x:=by first|exact .inl rfl|exact .inr rfl)(b:X.fn x=true\/X.env.scope.names.lookup x=some .local:=by first|exact .inl rfl|exact .inr rfl|assumption):PG X (.Name x pos) (J8r i):=J5q (h▸S.nd) hi a b
theorem pcb{id:String}{p:Pos}{r:List V->Hp->VK->Prop}(h:J3w X (.builtin id) r)(f:X.mg x=none)(i:PE X e te)(g:Gl X x:=by rfl)(c:bootBuiltins x=some (.builtin id):=by first|exact PySem.boot_len|exact boot_sum|exact boot_min)(d:x≠"__name__":=by decide)(a:(x==("__debug__":Str))=false:=by decide)(b:starEach [e] X.env=(false,eval e X.env)::starEach [] X.env:=by rfl):PE X (.Call (.Name x p) [e] [] pos) (tCB r (Jm3 te tNil)):=J1r h g f c (J0 i J3 b) d a b rfl
theorem pct{id:String}{p:Pos}{r:List V->Hp->VK->Prop}(h:J3w X (.type id) r)(f:X.mg x=none)(i:PE X e te)(g:Gl X x:=by rfl)(c:bootBuiltins x=some (.type id):=by first|exact boot_tuple|exact boot_list)(d:x≠"__name__":=by decide)(a:(x==("__debug__":Str))=false:=by decide)(b:starEach [e] X.env=(false,eval e X.env)::starEach [] X.env:=by rfl):PE X (.Call (.Name x p) [e] [] pos) (tCB r (Jm3 te tNil)):=J3h h g f c (J0 i J3 b) d a b rfl
end L2
namespace L2
open PySem PySem.Spec PyProof.Rows
noncomputable def tLCg(g:TG)(n:Nat)(b:TI)(e:TT)(c:TE)(js:List Nat):TE:=fun σ H Q=>b σ H fun J a=>∀d,a d=none->LCWg g n J e c σ js Q a d
section
variable{X:Cx}{elt iter tgt:Expr}{ifs:List Expr}{x:Str}{xr:List Str}{scope:Scope}{cl:List (Str×Addr)}{pos:Pos}{wi:TI}{tc:TT}{te:TE}{g:TG}{caps:List Str}{js:List Nat}
theorem Jpp(K:X.calm=true)(E:PI X tgt iter wi)(F:∀(C:Addr) (a:List Addr) (s:Shared) (H:Hp),PG (X.block (x::(xr++caps)) scope cl C a s H) tgt g)(j:closureFor scope X.env=pure cl)(B:∀(C:Addr) (a:List Addr) (s:Shared) (H:Hp),PTs (X.block (x::(xr++caps)) scope cl C a s H) ifs tc)(G:∀(C:Addr) (a:List Addr) (s:Shared) (H:Hp),PE (X.block (x::(xr++caps)) scope cl C a s H) elt te)(l:∀p∈scope.names,p.2≠.cell:=by decide +kernel)(c:∀p∈scope.names,p.2=.local->scope.names.lookup p.1=some .local:=by decide +kernel)(u:∀p∈cl,X.env.cells.lookup p.1=some p.2:=by repeat (first|exact forall_mem_nil _|refine forall_mem_cons.mpr ⟨rfl,?_⟩))(w:J3n scope cl=true:=by rfl)(f:caps.length=js.length:=by rfl)(n:J4m X scope cl caps js=true:=by rfl)(i:scope.kind=.function:=by rfl)(D:∀v,foldedSetIterable iter X.env v=pure v:=by intro _;rfl):
  PE X (.ListComp elt [⟨tgt,iter,ifs,0⟩] scope pos) (tLCg g (xr.length+1) wi tc te js):=by
 intro pins s σ H Q I h;refine J5f (use:=none) K E F G B l c u (J3n.get w) f (J4m.get f n) j i D I h (fun J O r=>r) fun d N A C M q L a=>?_;obtain⟨m,y⟩:=L;exact⟨m,y,fun h' z=>⟨.ref d,N,M.turned (h':=h') (t':=A.toks) (it:=C) (fun b o hb e=>(z.2 b hb).trans e) a.1 a.2.1 a.2.2.2.1 a.2.2.2.2.1 a.2.2.2.2.2,rfl,q⟩⟩
end
noncomputable def Al2(P:Nat->V->Prop)(ks:List Nat)(a:List V):Prop:=ks.length=a.length/\∀(k i:Nat) (z:V),ks[k]?=some i->a[k]?=some z->P i z
theorem Al2.snoc(h:Al2 P ks zs)(p:P i z):Al2 P (ks++[i]) (zs++[z]):=by
 refine⟨by rw[length_append,length_append,h.1];rfl,fun k j y a b=>?_⟩;by_cases c:k<ks.length
 ·rw[getElem?_append_left c] at a;rw[getElem?_append_left (by rw[<- h.1];exact c)] at b;exact h.2 k j y a b
 ·rw[getElem?_append_right (by omega)] at a;rw[getElem?_append_right (by rw[<- h.1];omega),<- h.1] at b;generalize k-ks.length=q at *
  match q,a,b with
  | 0,a,b=>cases a;cases b;exact p
  | q+1,a,b=>cases a
theorem Al2.imp(h:Al2 P ks zs)(f:∀i z,P i z->P' i z):Al2 P' ks zs:=⟨h.1,fun k i z a b=>f i z (h.2 k i z a b)⟩
theorem Js3{K:Frag}(ys:List V)(G:Nat->Bool)(P:Nat->Hp->V->Prop)(B:SqL K H1 a ys)(S:ys.length<=sizeLine)(hd:H1 d=none)(mono:∀i y H c f,(∀b o,H b=some o->b≠d->c b=some o)->H d=some (.lst f)->P i H y->P i c y)(step:∀(i:Nat) (v:V),ys[i]?=some v->∀(H:Hp) (s:List (Option V)) (I:VK) (F:Hp->Prop),Same H1 H->s.length=n->(G i=true->∀y c,Same H c->P i c y->I y c)->(G i=false->∀c,Same H c->F c)->
   g v (s++capv σ js) H fun σ' O=>∃E:List (Option V),E.length=n/\σ'=E++capv σ js/\tc σ' O fun bb J=>if bb=true then te σ' J I else F J)(M:∀f c,Same H1 c->c d=some (.lst f)->Al2 (fun i z=>P i c z) ((List.range ys.length).filter G) f->Q (.ref d) c):LCWg g n (Itl K a) tc te σ js Q H1 d:=by
 have s0:∀o,Same H1 (upd H1 d o):=fun o b u e=>by rw[Jh (Jb e hd)];exact e
 refine⟨fun i m f H=>m=ys.length-i/\i<=ys.length/\Al2 (fun i z=>P i H z) ((List.range i).filter G) f/\Same H1 H/\H d=some (.lst f),⟨ys.length,rfl,Nat.zero_le _,⟨rfl,fun k i z e=>by cases e⟩,s0 _,J7⟩,?_⟩;rintro i m f R ⟨rfl,hi,w,l,h⟩;refine⟨h,?_⟩;by_cases r:i<ys.length
 ·refine .inr ⟨⟨_,_,l.seq B,gE r⟩,?_,fun v T L s C=>?_⟩
  ·have N:((List.range i).filter G).length<=i:=Nat.le_trans (length_filter_le _ _) (by rw[length_range];exact Nat.le_refl _);rw[w.1] at N;omega
  ·obtain⟨rfl,A⟩:=L;have A:=A _ (l.seq B);refine step i v A _ s _ _ l C (fun D y c s' p=>⟨s' _ _ h,ys.length-(i+1),by omega,rfl,r,?_,?_,J7⟩) (fun D c s'=>⟨ys.length-(i+1),by omega,rfl,r,?_,l.trans s',s' _ _ h⟩)
   ·rw[range_succ,filter_append,show List.filter G [i]=[i] by simp[D]];have up:∀b o,c b=some o->b≠d->upd c d (.lst (f++[y])) b=some o:=fun b o e ne=>by rw[Jh ne];exact e
    exact Al2.snoc (w.imp fun j z q=>mono j z _ _ f up (s' _ _ h) (mono j z _ _ f (fun b o e _=>s' _ _ e) h q)) (mono i y _ _ f up (s' _ _ h) p)
   ·intro b u e;rw[Jh (Jb e hd)];exact s' _ _ (l _ _ e)
   ·rw[range_succ,filter_append,show List.filter G [i]=[] by simp[D],append_nil];exact w.imp fun j z q=>mono j z _ _ f (fun b o e _=>s' _ _ e) h q
 ·have e:i=ys.length:=by omega
  subst e;exact .inl ⟨⟨_,l.seq B,Nat.le_refl _⟩,M f R l h w⟩
section
variable{X:Cx}{x y z:Str}{px py pz tp:Pos}{kk:Nat}{scope:Scope}{cl:List (Str×Addr)}{caps:List Str}
theorem pgb2(g:X.calm=true)(c:(x::y::caps).Nodup)(f:scope.names.lookup x=some .local:=by rfl)(e:scope.names.lookup y=some .local:=by rfl)(C:Addr)(d:List Addr)(s:Shared)(H:Hp):
  PG (X.block (x::([y]++caps)) scope cl C d s H) (.Tuple [.Name x px,.Name y py] kk tp) (gTup X.K 2 (Jks (J8r 0) (Jks (J8r 1) gNil))):=by
 have b:(relabel scope X.env).names.lookup x=some .local:=lookup_relabel_local f;have a:(relabel scope X.env).names.lookup y=some .local:=lookup_relabel_local e;exact J9v (X:=X.block (x::y::caps) scope cl C d s H) (pos:=tp) (k:=kk) (n:=2) g
  (J2b (J5q (X:=X.block (x::y::caps) scope cl C d s H) (i:=0) (pos:=px) c rfl (.inl b) (.inr b))
   (J2b (J5q (X:=X.block (x::y::caps) scope cl C d s H) (i:=1) (pos:=py) c rfl (.inl a) (.inr a)) J71)) rfl rfl
end
section
variable{X:Cx}{elt iter tgt:Expr}{ifs:List Expr}{x y:Str}{py:Pos}{xr:List Str}{scope:Scope}{cl:List (Str×Addr)}{pos spos:Pos}{wi:TI}{tc:TT}{te:TE}{g:TG}{caps:List Str}{js:List Nat}{i:Nat}
theorem ps_lcG(Z:X.N.Nodup)(hi:X.N[i]?=some y)(M:Loc X.env.scope y)(W:X.calm=true)(R:PI X tgt iter wi)(S:∀(C:Addr) (c:List Addr) (s:Shared) (H:Hp),PG (X.block (x::(xr++caps)) scope cl C c s H) tgt g)(n:closureFor scope X.env=pure cl)(O:∀(C:Addr) (c:List Addr) (s:Shared) (H:Hp),PTs (X.block (x::(xr++caps)) scope cl C c s H) ifs tc)(U:∀(C:Addr) (c:List Addr) (s:Shared) (H:Hp),PE (X.block (x::(xr++caps)) scope cl C c s H) elt te)(u:∀p∈scope.names,p.2≠.cell:=by decide +kernel)(f:∀p∈scope.names,p.2=.local->scope.names.lookup p.1=some .local:=by decide +kernel)(z:∀p∈cl,X.env.cells.lookup p.1=some p.2:=by repeat (first|exact forall_mem_nil _|refine forall_mem_cons.mpr ⟨rfl,?_⟩))(B:J3n scope cl=true:=by rfl)(j:caps.length=js.length:=by rfl)(w:J4m X scope cl caps js=true:=by rfl)(T:X.fn y=true\/X.env.scope.names.lookup y=some .local:=by first|exact .inl rfl|exact .inr rfl|assumption)(F:swapsWith (.ListComp elt [⟨tgt,iter,ifs,0⟩] scope pos) (some (.Name y py)) spos.line X.env=pure true:=by rfl)(m:scope.kind=.function:=by rfl)(P:∀v,foldedSetIterable iter X.env v=pure v:=by intro _;rfl):
  PS X (.Assign [.Name y py] (.ListComp elt [⟨tgt,iter,ifs,0⟩] scope pos) spos) (Jp4 (tLCg g (xr.length+1) wi tc te js) i):=by
 intro pins s σ H D I h;rw[exec_Assign_Name_used _ _ _ _ F];refine wpAny_bind (wpAny_standAt (wpAny_bind ?_));show wpAny _ X.A (do let _ <- comprehension (.ListComp elt [⟨tgt,iter,ifs,0⟩] scope pos) scope X.env _ (newList []) false (eval iter X.env) (some (assign (.Name y py) X.env))) _ _ s;refine wpAny_bind (wpAny_mono (J5f (use:=some (assign (.Name y py) X.env)) (QV:=fun _ s'=>SP X pins D .next s') W R S U O u f z (J3n.get B) j (J4m.get j w) n m P I h (fun J H1 r=>r) fun d H' s5 C J5 q hC c=>?_)
  (fun _ s' Q=>wpAny_pure (wpAny_pure Q)) fun _ _ e=>e)
 obtain⟨L,E⟩:=hC;refine wpAny_assign_Name ?_;refine J85 J5 Z hi M (v:=.ref d) rfl (fun K I6 l=>?_) T;obtain⟨a,sa,Y⟩:=l;have aC:a≠C:=by
  rcases Y with e|e
  ·rw[e];exact Ne.symm c.2.1
  ·exact c.2.2.2.2.1 y a e
 exact⟨L,E.sameBut sa (Ne.symm aC),fun h' G=>⟨_,H',I6.turned (h':=h') (t':=K.toks) (it:=C) (fun b o hb e=>(G.2 b hb).trans e) c.1 c.2.1 c.2.2.2.1 c.2.2.2.2.1 c.2.2.2.2.2,q⟩⟩
end
theorem Jq9{X:Cx}{pins:List (Addr×Obj)}{σ:St}{H:Hp}{s:Shared}(I:Inv X pins σ H s){A:Around}(i:A.units<cLine){p q:Addr}{b a:List V}(m:SqT X.K H p b)(l:SqT X.K H q a)(n:Kin b a):∃r,SeqAt.EqAt A s (.ref p) (.ref q) r:=by
 by_cases e:p=q
 ·subst e;exact⟨_,SeqAt.EqAt.same _⟩
 obtain⟨h,d,l1,_⟩:=I.tuple m;obtain⟨g,c,f,_⟩:=I.tuple l;exact⟨_,SeqAt.EqAt.of_refs e (SeqAt.RcAt.tuples (e:=eAt b a) (show s.heap.IsTuple p h.toArray from l1) (show s.heap.IsTuple q g.toArray from f) i fun j u o=>Jq2 d c n j u o)⟩
inductive rNiT(K:Frag)(x y:V)(H:Hp)(Q:VK):Prop
 | mk(p q:Addr)(xs a:List V)(_:x=.ref q)(_:y=.ref p)(_:SqT K H q a)(_:SqL K H p xs)(_:∀v∈xs,∃r b,v=.ref r/\SqT K H r b/\Kin b a)(_:∃v∈xs,Alk1 K H v (.ref q))(_:Q (.bl false) H)
theorem op_niT{X:Cx}(F:X.A.units+1<cLine):OpR X (compareOp .NotIn) (rNiT X.K):=by
 intro pins s σ H x y v u Q I C B h;obtain⟨p,q,xs,P,rfl,rfl,G,J,i,⟨S,E,O⟩,k⟩:=h;cases C;cases B;obtain⟨b,r,pl,n⟩:=I.list J;have f:X.A.in1.units<cLine:=F;refine SeqAt.notIn_listAt (fun u=>@decide (SeqAt.EqAt X.A.in1 s u (.ref q) true) (Classical.propDecidable _)) pl.isList (fun w hw=>?_) ⟨.bl false,H,I,?_,k⟩
 ·obtain⟨j,m,rfl⟩:=Array.getElem_of_mem hw;obtain⟨a,N,D⟩:=J6n r m;obtain⟨z,R,rfl,n,L⟩:=i a (mem_of_getElem? N);generalize b.toArray[j]=w at *;cases D;obtain⟨c,o⟩:=Jq9 I f n G L;by_cases d:SeqAt.EqAt X.A.in1 s (.ref z) (.ref q) true
  ·rw[@decide_eq_true _ (Classical.propDecidable _) d];exact d
  ·rw[@decide_eq_false _ (Classical.propDecidable _) d]
   cases c with
   | true=>exact absurd o d
   | false=>exact o
 ·obtain⟨j,m⟩:=List.getElem?_of_mem E;obtain⟨w,M,l⟩:=r.get m;have:=Jlw I f l (show RelV (.ref q) (.ref q) from rfl) O;show RelV (.bl false) (.bool _);have e:(b.toArray.any fun u=>@decide (SeqAt.EqAt X.A.in1 s u (.ref q) true) (Classical.propDecidable _))=true:=by
   rw[show ∀g:Value->Bool,b.toArray.any g=b.any g from fun g=>by simp];exact List.any_eq_true.mpr ⟨w,mem_of_getElem? M,@decide_eq_true _ (Classical.propDecidable _) this⟩
  rw[e];rfl
theorem Jrd{X:Cx}:OpR X (compareOp .IsNot) (fun x y H Q=>∃a b:Bool,x=.bl a/\y=.bl b/\Q (.bl (a != b)) H):=by
 intro pins s σ H x y v u Q I d c h;obtain⟨a,b,rfl,rfl,q⟩:=h;cases d;cases c;exact isnot_bool (J1e I q rfl)
theorem pgb1{X:Cx}{x:Str}{d:Pos}{a:Scope}{cl:List (Str×Addr)}{caps:List Str}(c:(x::caps).Nodup)(f:a.names.lookup x=some .local:=by rfl)(C:Addr)(e:List Addr)(s:Shared)(H:Hp):
  PG (X.block (x::([]++caps)) a cl C e s H) (.Name x d) (J8r 0):=
 have b:(relabel a X.env).names.lookup x=some .local:=lookup_relabel_local f
 J5q (X:=X.block (x::caps) a cl C e s H) (i:=0) (pos:=d) c rfl (.inl b) (.inr b)
end L2
namespace Rl
noncomputable def sel(N:Int)(p:Int->Prop):List Int:=((List.range N.toNat).map fun(y:Nat)=>(y:Int)).filter fun y=>@decide (p y) (Classical.propDecidable _)
noncomputable abbrev cn(N:Int)(p:Int->Prop):Nat:=(sel N p).length
section
variable{N:Int}{p q:Int->Prop}
theorem J2n :x∈sel N p↔(0<=x/\x<N)/\p x:=by
 unfold sel;rw[mem_filter,mem_map];simp only[mem_range,decide_eq_true_iff];constructor
 ·grind
 ·rintro⟨⟨c,b⟩,a⟩;exact⟨⟨x.toNat,by lia,by lia⟩,a⟩
theorem J3x:(sel N p).Nodup:=by
 refine List.Pairwise.filter _ (pairwise_map.mpr (nodup_range.imp fun h e=>h (by lia)))
theorem Jlo{l:List Int}(nd:l.Nodup)(h:∀x,x∈l↔(0<=x/\x<N)/\p x):cn N p=l.length:=
 ((perm_ext_iff_of_nodup J3x nd).mpr fun x=>J2n.trans (h x).symm).length_eq
theorem Jbl(h:∀x,0<=x->x<N->(p x↔q x)):cn N p=cn N q:=Jlo J3x fun x=>J2n.trans ⟨fun z=>⟨z.1,(h x z.1.1 z.1.2).mpr z.2⟩,fun z=>⟨z.1,(h x z.1.1 z.1.2).mp z.2⟩⟩
theorem Joz(c:Int->Prop):cn N p=cn N (fun x=>p x/\c x)+cn N (fun x=>p x/\¬ c x):=by
 rw[Jlo (p:=p) (l:=sel N (fun x=>p x/\c x)++sel N (fun x=>p x/\¬ c x)) ?_ ?_,length_append]
 ·refine nodup_append.mpr ⟨J3x,J3x,fun x b y a e=>?_⟩;rw[J2n] at b a;exact a.2.2 (e▸b.2.2)
 ·intro x;rw[mem_append,J2n,J2n];constructor
  ·rintro(h|h) <;> exact⟨h.1,h.2.1⟩
  ·rintro⟨h,d⟩;by_cases k:c x
   ·exact .inl ⟨h,d,k⟩
   ·exact .inr ⟨h,d,k⟩
end
noncomputable def mn(f:Int->Int)(x:Int):Prop:=∀i,x<=itN f i x
section
variable{f:Int->Int}{N:Int}{bs:List Band}
theorem Sys.has(S:Sys f N bs)(h:0<=x/\x<N):J44 f x (rOf f x):=by
 obtain⟨n,R⟩:=S.hasRnd h.1 h.2;rw[Jfl R];exact R
theorem Sys.home(S:Sys f N bs)(h:0<=x/\x<N)(i:Nat):∃j,itN f j (itN f i x)=x:=by
 have R:=S.has h;have p:=R.pos;have:i<=i*rOf f x:=Nat.le_mul_of_pos_right _ p;exact⟨i*rOf f x-i,by rw[<- J15,show i+(i*rOf f x-i)=i*rOf f x by lia,R.mul]⟩
theorem Sys.least(S:Sys f N bs):∀(n:Nat) {x:Int},x.toNat=n->(0<=x/\x<N)->∃i,mn f (itN f i x):=by
 intro n
 induction n using Nat.strongRecOn with
 | _ n ih =>
  intro x e h;by_cases c:mn f x
  ·exact⟨0,c⟩
  ·obtain⟨i,hi⟩:=Classical.not_forall.mp c;have a:=S.itin h.1 h.2 i;obtain⟨j,b⟩:=ih (itN f i x).toNat (by lia) rfl a;exact⟨i+j,by rw[J15];exact b⟩
theorem Sys.mn_one(S:Sys f N bs)(h:0<=x/\x<N)(m:mn f x)(a:mn f (itN f i x)):itN f i x=x:=by
 obtain⟨j,e⟩:=S.home h i;have c:=m i;have b:=a j;lia
theorem Sys.rO(S:Sys f N bs)(h:0<=x/\x<N)(i:Nat):rOf f (itN f i x)=rOf f x:=Jfl (S.rnd_move h.1 h.2 (S.has h) i)
theorem Sys.orb(S:Sys f N bs){p:Int->Prop}(r:∀x i,0<=x/\x<N->(p (itN f i x)↔p x))(L:Nat):cn N (fun x=>p x/\rOf f x=L)=L*cn N (fun x=>p x/\rOf f x=L/\mn f x):=by
 rw[Jlo (p:=fun x=>p x/\rOf f x=L) (l:=(sel N fun x=>p x/\rOf f x=L/\mn f x).flatMap fun m=>(List.range L).map fun i=>itN f i m) ?_ ?_,List.length_flatMap]
 ·rw[map_congr_left (g:=fun _=>L) fun m _=>by rw[length_map,length_range],List.map_const',List.sum_replicate_nat,Nat.mul_comm]
 ·refine pairwise_flatMap.mpr ⟨fun m a=>?_,?_⟩
  ·rw[J2n] at a;have R:=S.has a.1;rw[a.2.2.1] at R;refine pairwise_map.mpr ((nodup_iff_pairwise_ne.mp nodup_range).imp_of_mem fun hi o ne e=>ne ?_);exact S.rnd_inj a.1.1 a.1.2 R (mem_range.mp hi) (mem_range.mp o) e
  ·refine(nodup_iff_pairwise_ne.mp J3x).imp_of_mem fun {m v} a b ne x d y u e=>ne ?_;rw[J2n] at a b;obtain⟨i,-,rfl⟩:=mem_map.mp d;obtain⟨j,-,rfl⟩:=mem_map.mp u;obtain⟨k,n⟩:=S.home a.1 i;rw[e,<- J15] at n;have:=S.mn_one b.1 b.2.2.2 (i:=j+k) (by rw[n];exact a.2.2.2);rw[<- n,this]
 ·intro x;rw[mem_flatMap];constructor
  ·rintro⟨m,a,d⟩;rw[J2n] at a;obtain⟨i,-,rfl⟩:=mem_map.mp d;exact⟨S.itin a.1.1 a.1.2 i,(r m i a.1).mpr a.2.1,by rw[S.rO a.1];exact a.2.2.1⟩
  ·rintro⟨h,s,q⟩;obtain⟨i,hi⟩:=S.least _ rfl h;have c:=S.itin h.1 h.2 i;refine⟨itN f i x,J2n.mpr ⟨c,(r x i h).mpr s,by rw[S.rO h];exact q,hi⟩,?_⟩;obtain⟨j,o⟩:=S.home h i;have R:=S.has c;rw[S.rO h,q] at R;exact mem_map.mpr ⟨j%L,mem_range.mpr (Nat.mod_lt _ R.pos),by rw[<- R.mod,o]⟩
structure Two(a b f:Int->Int)(N:Int):Prop where
 ain:∀x,0<=x/\x<N->0<=a x/\a x<N
 aa:∀x,0<=x/\x<N->a (a x)=x
 bb:∀x,0<=x/\x<N->b (b x)=x
 ff:∀x,0<=x/\x<N->f x=b (a x)
variable{a b:Int->Int}
theorem Two.back(T:Two a b f N)(S:Sys f N bs)(h:0<=x/\x<N):∀i,itN f i (a (itN f i x))=a x
 | 0=>rfl
 | i+1=>by
  have c:=S.itin h.1 h.2 i;rw[Jkl,J7x];rw[show f (a (f (itN f i x)))=a (itN f i x) from ?_,T.back S h i];have e:=T.ain _ c;have d:=S.inn _ c.1 c.2;rw[T.ff _ (T.ain _ d),T.aa _ d,T.ff _ c,T.bb _ e]
noncomputable def way(a f:Int->Int)(x:Int):Prop:=∃i,itN f i x=a x
theorem Two.at(T:Two a b f N)(S:Sys f N bs)(h:0<=x/\x<N)(e:itN f j x=a x)(c:(k+i)%rOf f x=j%rOf f x):a (itN f i x)=itN f k x:=by
 have R:=S.has h;refine S.itinj (T.ain _ (S.itin h.1 h.2 i)).1 (T.ain _ (S.itin h.1 h.2 i)).2 (S.itin h.1 h.2 k).1 (S.itin h.1 h.2 k).2 i ?_;rw[T.back S h,<- J15,<- e,R.mod j,R.mod (k+i),c]
theorem Two.way_on(T:Two a b f N)(S:Sys f N bs)(i:Nat)(h:0<=x/\x<N):way a f (itN f i x)↔way a f x:=by
 have c:∀{x:Int} (i:Nat),0<=x/\x<N->way a f x->way a f (itN f i x):=fun {x} i h d=>by
  obtain⟨j,e⟩:=d;have p:=(S.has h).pos;have le:i<=i*rOf f x:=Nat.le_mul_of_pos_right _ p;refine⟨j+2*(i*rOf f x-i),?_⟩;rw[T.at S h e (i:=i) (k:=j+(i*rOf f x-i)) (by rw[show j+(i*rOf f x-i)+i=j+i*rOf f x by lia,Nat.add_mul_mod_self_right]),<- J15];rw[(S.has h).mod,(S.has h).mod (j+(i*rOf f x-i)),show i+(j+2*(i*rOf f x-i))=j+(i*rOf f x-i)+i*rOf f x by lia,Nat.add_mul_mod_self_right]
 refine⟨fun w=>?_,c i h⟩;obtain⟨j,e⟩:=S.home h i;have:=c j (S.itin h.1 h.2 i) w;rw[e] at this;exact this
theorem Jm2(g:j<L):((List.range L).filter fun i=>decide ((2*i)%L=j)).length+((List.range L).filter fun i=>decide ((2*i)%L=(j+1)%L)).length=2:=by
 have len:∀(q:Nat->Bool) (l:List Nat),l.Nodup->(∀i,i∈l↔i<L/\q i=true)->((List.range L).filter q).length=l.length:=fun q l nd h =>
  ((perm_ext_iff_of_nodup (List.Pairwise.filter _ nodup_range) nd).mpr fun i=>by rw[mem_filter,mem_range];exact(h i).symm).length_eq
 have d:∀i,i<L->(2*i)%L=if 2*i<L then 2*i else 2*i-L:=fun i hi=>by
  split
  ·exact Nat.mod_eq_of_lt (by lia)
  ·rw[show 2*i=(2*i-L)+L by lia,Nat.add_mod_right,Nat.mod_eq_of_lt (by lia)];lia
 have f:(j+1)%L=if j+1=L then 0 else j+1:=by
  split
  ·rename_i e;rw[e,Nat.mod_self]
  ·exact Nat.mod_eq_of_lt (by lia)
 have b:∀t,t<L->((List.range L).filter fun i=>decide ((2*i)%L=t)).length=if t%2=0 then (if L%2=0 then 2 else 1) else (if L%2=0 then 0 else 1):=fun t m=>by
  have a:∀i,i<L->(decide ((2*i)%L=t)=true↔2*i=t\/2*i=t+L):=fun i hi=>by
   rw[decide_eq_true_iff,d i hi];split <;> lia
  by_cases e:t%2=0
  ·by_cases l:L%2=0
   ·rw[if_pos e,if_pos l,len _ [t/2,(t+L)/2] (by simp;lia) fun i=>by
     simp only[mem_cons,not_mem_nil,or_false];exact⟨fun h=>⟨by lia,(a i (by lia)).mpr (by lia)⟩,fun h=>by have:=(a i h.1).mp h.2;lia⟩]
    rfl
   ·rw[if_pos e,if_neg l,len _ [t/2] (by simp) fun i=>by
     simp only[mem_cons,not_mem_nil,or_false];exact⟨fun h=>⟨by lia,(a i (by lia)).mpr (by lia)⟩,fun h=>by have:=(a i h.1).mp h.2;lia⟩]
    rfl
  ·by_cases l:L%2=0
   ·rw[if_neg e,if_pos l,len _ [] (by simp) fun i=>by
     simp only[not_mem_nil,false_iff];exact fun h=>by have:=(a i h.1).mp h.2;lia]
    rfl
   ·rw[if_neg e,if_neg l,len _ [(t+L)/2] (by simp) fun i=>by
     simp only[mem_cons,not_mem_nil,or_false];exact⟨fun h=>⟨by lia,(a i (by lia)).mpr (by lia)⟩,fun h=>by have:=(a i h.1).mp h.2;lia⟩]
    rfl
 rw[f,b j g];by_cases c:j+1=L
 ·rw[if_pos c,b 0 (by lia)]
  repeat' split
  all_goals lia
 ·rw[if_neg c,b (j+1) (by lia)]
  repeat' split
  all_goals lia
theorem Two.told(T:Two a b f N)(S:Sys f N bs)(L:Nat){p:Int->Prop}(v:∀x,0<=x/\x<N->p x->way a f x):
  cn N (fun x=>p x/\rOf f x=L)=((sel N fun x=>way a f x/\rOf f x=L/\mn f x).map fun m=>((List.range L).filter fun i=>@decide (p (itN f i m)) (Classical.propDecidable _)).length).sum:=by
 rw[Jlo (p:=fun x=>p x/\rOf f x=L) (l:=(sel N fun x=>way a f x/\rOf f x=L/\mn f x).flatMap fun m=>((List.range L).filter fun i=>@decide (p (itN f i m)) (Classical.propDecidable _)).map fun i=>itN f i m) ?_ ?_,List.length_flatMap]
 ·congr 1
  exact map_congr_left fun m _=>length_map ..
 ·refine pairwise_flatMap.mpr ⟨fun m c=>?_,?_⟩
  ·rw[J2n] at c;have R:=S.has c.1;rw[c.2.2.1] at R;refine pairwise_map.mpr ((nodup_iff_pairwise_ne.mp (List.Pairwise.filter _ nodup_range)).imp_of_mem fun hi q ne e=>ne ?_);exact S.rnd_inj c.1.1 c.1.2 R (mem_range.mp (mem_filter.mp hi).1) (mem_range.mp (mem_filter.mp q).1) e
  ·refine(nodup_iff_pairwise_ne.mp J3x).imp_of_mem fun {m w} c d ne x n y u e=>ne ?_;rw[J2n] at c d;obtain⟨i,-,rfl⟩:=mem_map.mp n;obtain⟨j,-,rfl⟩:=mem_map.mp u;obtain⟨k,o⟩:=S.home c.1 i;rw[e,<- J15] at o;have:=S.mn_one d.1 d.2.2.2 (i:=j+k) (by rw[o];exact c.2.2.2);rw[<- o,this]
 ·intro x;rw[mem_flatMap];constructor
  ·rintro⟨m,c,n⟩;rw[J2n] at c;obtain⟨i,hi,rfl⟩:=mem_map.mp n;exact⟨S.itin c.1.1 c.1.2 i,@of_decide_eq_true _ (Classical.propDecidable _) (mem_filter.mp hi).2,by rw[S.rO c.1];exact c.2.2.1⟩
  ·rintro⟨h,s,r⟩;obtain⟨i,hi⟩:=S.least _ rfl h;have g:=S.itin h.1 h.2 i;refine⟨itN f i x,J2n.mpr ⟨g,(T.way_on S i h).mpr (v x h s),by rw[S.rO h];exact r,hi⟩,?_⟩;obtain⟨j,q⟩:=S.home h i;have R:=S.has g;rw[S.rO h,r] at R;have e:itN f (j%L) (itN f i x)=x:=by rw[<- R.mod,q]
   exact mem_map.mpr ⟨j%L,mem_filter.mpr ⟨mem_range.mpr (Nat.mod_lt _ R.pos),@decide_eq_true _ (Classical.propDecidable _) (by rw[e];exact s)⟩,e⟩
theorem Two.ends(T:Two a b f N)(S:Sys f N bs)(L:Nat):cn N (fun x=>a x=x/\rOf f x=L)+cn N (fun x=>b x=x/\rOf f x=L)=2*cn N (fun x=>way a f x/\rOf f x=L/\mn f x):=by
 have A:∀x,0<=x/\x<N->f (a x)=b x:=fun x h=>by rw[T.ff _ (T.ain x h),T.aa x h]
 rw[T.told S L fun x _ e=>⟨0,e.symm⟩,T.told S L fun x h e=>?_]
 ·have g:∀l:List Int,(∀m∈l,(0<=m/\m<N)/\way a f m/\rOf f m=L)->(l.map fun m=>((List.range L).filter fun i=>@decide (a (itN f i m)=itN f i m) (Classical.propDecidable _)).length).sum+(l.map fun m=>((List.range L).filter fun i=>@decide (b (itN f i m)=itN f i m) (Classical.propDecidable _)).length).sum=2*l.length:=by
   intro l
   induction l with
   | nil=>intro _;rfl
   | cons m l s =>
    intro w;have s:=s fun B n=>w B (mem_cons_of_mem _ n);obtain⟨h,⟨j,e⟩,r⟩:=w m mem_cons_self;have R:=S.has h;rw[r] at R;have one:((List.range L).filter fun i=>@decide (a (itN f i m)=itN f i m) (Classical.propDecidable _)).length+((List.range L).filter fun i=>@decide (b (itN f i m)=itN f i m) (Classical.propDecidable _)).length=2:=by
     rw[<- Jm2 (L:=L) (j:=j%L) (Nat.mod_lt _ R.pos)];have p:=R.pos;have at_:∀i,i<L->a (itN f i m)=itN f (j%L+(L-i)) m:=fun i hi=>T.at S h e (by rw[r,show j%L+(L-i)+i=j%L+L by lia,Nat.add_mod_right,Nat.mod_mod])
     have c:∀(u v:Nat),itN f u m=itN f v m↔u%L=v%L:=fun u v=>by
      rw[R.mod v];exact S.rnd_iff h.1 h.2 R (Nat.mod_lt _ p) u
     congr 1
     ·congr 1
      refine List.filter_congr fun i hi=>?_;have hi:=mem_range.mp hi;rw[decide_eq_decide,at_ i hi,c];have l1:=Nat.mod_lt j p;generalize j%L=t at *;constructor <;> intro q
      ·have:=congrArg (fun z=>(z+i)%L) q;simp only[Nat.mod_add_mod] at this;rw[show t+(L-i)+i=t+L by lia,Nat.add_mod_right,Nat.mod_eq_of_lt l1,show i+i=2*i by lia] at this;exact this.symm
      ·have o:(t+(L-i))%L=(2*i+(L-i))%L:=by rw[Nat.add_mod,<- q,Nat.mod_mod,<- Nat.add_mod]
       rw[o,show 2*i+(L-i)=i+L by lia,Nat.add_mod_right]
     ·congr 1
      refine List.filter_congr fun i hi=>?_;have hi:=mem_range.mp hi;rw[decide_eq_decide,<- A _ (S.itin h.1 h.2 i),at_ i hi,<- J7x f,c];have l1:=Nat.mod_lt j p;generalize j%L=t at *;constructor <;> intro q
      ·have:=congrArg (fun z=>(z+i)%L) q;simp only[Nat.mod_add_mod] at this;rw[show t+(L-i)+1+i=t+1+L by lia,Nat.add_mod_right,show i+i=2*i by lia] at this;exact this.symm
      ·have o:(t+(L-i)+1)%L=(2*i+(L-i))%L:=by rw[show t+(L-i)+1=(t+1)+(L-i) by lia,Nat.add_mod,<- q,<- Nat.add_mod]
       rw[o,show 2*i+(L-i)=i+L by lia,Nat.add_mod_right]
    rw[map_cons,map_cons,sum_cons,sum_cons,length_cons];lia
  exact g _ fun m d=>by rw[J2n] at d;exact⟨d.1,d.2.1,d.2.2.1⟩
 ·obtain⟨j,y⟩:=S.home (T.ain x h) 1;refine⟨j,?_⟩;have:itN f 1 (a x)=x:=(A x h).trans e;rw[this] at y;exact y
end
noncomputable abbrev tB(bs:List Int):Int->Int:=gL bs (List.range bs.length) (replicate bs.length true)
noncomputable abbrev ahB(bs:List Int)(j:Nat):Int:=Jq bs (List.range bs.length) j
noncomputable def midL(bs:List Int)(i:Nat):List Int:=((List.range i).filter fun j=>decide (bs.getD j 0%2=1)).map fun j=>ahB bs j+bs.getD j 0/2
theorem Jci(bs:List Int)(i:Nat):midL bs (i+1)=midL bs i++if bs.getD i 0%2=1 then [ahB bs i+bs.getD i 0/2] else []:=by
 unfold midL;rw[range_succ,filter_append,map_append];split
 ·rename_i h;rw[filter_cons,if_pos (decide_eq_true h)];rfl
 ·rename_i h;rw[filter_cons,if_neg (by simpa using h)];rfl
section
variable{bs:List Int}
theorem Jb7(O:Ord bs (List.range bs.length))(a:j<bs.length)(c:bs.getD j 0%2=1)(b:1<=bs.getD j 0):Lies (firsts bs (List.range bs.length)) bs (ahB bs j+bs.getD j 0/2) j:=Jdc O a (show ahB bs j<=_ by lia) (show _<ahB bs j+_ by lia)
theorem tB_eq(O:Ord bs (List.range bs.length))(q:Lies (firsts bs (List.range bs.length)) bs x j):tB bs x=2*ahB bs j+bs.getD j 0-1-x:=Jbp O q
theorem Joc :x∈midL bs n↔∃j,j<n/\bs.getD j 0%2=1/\x=ahB bs j+bs.getD j 0/2:=by
 unfold midL;simp only[mem_map,mem_filter,mem_range,decide_eq_true_iff];exact⟨fun⟨j,⟨a,b⟩,e⟩=>⟨j,a,b,e.symm⟩,fun c=>by obtain⟨j,a,b,e⟩:=c;exact⟨j,⟨a,b⟩,e.symm⟩⟩
theorem Ja1(O:Ord bs (List.range bs.length))(d:∀j,j<bs.length->1<=bs.getD j 0):(midL bs bs.length).Nodup:=by
 refine pairwise_map.mpr ((nodup_iff_pairwise_ne.mp (List.Pairwise.filter _ nodup_range)).imp_of_mem fun {i j} hi c ne e=>ne ?_);rw[mem_filter,mem_range,decide_eq_true_iff] at hi c;have a:=Jb7 O hi.1 hi.2 (d i hi.1);have b:=Jb7 O c.1 c.2 (d j c.1);rw[e] at a;exact O.unique a b
theorem Jb8(O:Ord bs (List.range bs.length))(b:∀j,j<bs.length->1<=bs.getD j 0):x∈midL bs bs.length↔(0<=x/\x<bs.sum)/\tB bs x=x:=by
 rw[Joc];constructor
 ·rintro⟨j,a,c,rfl⟩;have q:=Jb7 O a c (b j a);refine⟨O.inside q,?_⟩;rw[tB_eq O q];lia
 ·rintro⟨h,e⟩;obtain⟨j,q⟩:=O.exists h.1 h.2;rw[tB_eq O q] at e;exact⟨j,q.1,by lia,by lia⟩
end
section
variable{f F:Int->Int}{N:Int}{cb:List Band}
theorem J7w(inn:∀y,0<=y->y<N->0<=f y/\f y<N)(e:∀y,0<=y/\y<N->f y=F y)(h:0<=y/\y<N):∀n,itN f n y=itN F n y/\0<=itN f n y/\itN f n y<N
 | 0=>⟨rfl,h⟩
 | n+1=>by
  obtain⟨a,b⟩:=J7w inn e h n;exact⟨by rw[J7x,J7x,<- a,e _ b],inn _ b.1 b.2⟩
theorem Sys.congr(S:Sys f N cb)(e:∀y,0<=y/\y<N->f y=F y):Sys F N cb where
 inn:=fun y h g=>by rw[<- e y ⟨h,g⟩];exact S.inn y h g
 inj:=fun y z a b c d q=>S.inj y z a b c d (by simp_all)
 bnd:=fun b hb=>by
  obtain⟨w,j,k⟩:=S.bnd b hb;refine⟨w,j,fun o o0 o1=>?_⟩;have lo:=S.lo b hb;have it:=J7w S.inn e (y:=b.1+o) ⟨by lia,by lia⟩;obtain⟨p,l,m⟩:=k o o0 o1;exact⟨p,by rw[<- (it _).1];exact l,fun i a c=>by rw[<- (it i).1];exact m i a c⟩
 lo:=S.lo
 ord:=S.ord
 sum:=S.sum
theorem Jc9(S:Sys f N cb)(e:∀y,0<=y/\y<N->f y=F y)(h:0<=x/\x<N)(R:J44 f x n):n=rOf F x:=by
 have it:=J7w S.inn e h;exact(Jfl ⟨R.pos,by rw[<- (it _).1];exact R.back,fun i a c=>by rw[<- (it i).1];exact R.least i a c⟩).symm
theorem Sys.num_c(S:Sys f N cb){L:Nat}(e:1<=L):cntL (conB cb) L=cn N (fun x=>rOf f x=L/\mn f x):=by
 have b:=S.num L;have a:=S.orb (p:=fun _=>True) (fun _ _ _=>Iff.rfl) L;have d:cn N (fun x=>True/\rOf f x=L)=numP (fun y=>decide (rOf f (y:Int)=L)) N.toNat:=by
  rw[<- J52 (p:=fun x=>decide (rOf f x=L)),List.countP_eq_length_filter];unfold cn sel
  congr 1
  refine List.filter_congr fun x _=>?_;rw[decide_eq_decide];exact⟨fun z=>z.2,fun z=>⟨trivial,z⟩⟩
 have c:cn N (fun x=>True/\rOf f x=L/\mn f x)=cn N (fun x=>rOf f x=L/\mn f x):=Jbl fun x _ _=>by simp_all
 rw[d,c] at a;rw[a,Int.natCast_mul] at b;exact(Int.eq_of_mul_eq_mul_left (by lia) b).symm
end
theorem Jep(ps a:List (Int×Int))(L:Int):cntL (ps++a) L=cntL ps L+cntL a L:=by unfold cntL;rw[map_append,sum_append]
theorem Jgi{p:Int->Prop}{l:List Int}(nd:l.Nodup)(h:∀x,x∈l↔(0<=x/\x<N)/\p x)(r:Int->Nat)(L:Nat):cntL (l.map fun x=>((r x:Int),(1:Int))) L=cn N (fun x=>p x/\r x=L):=by
 rw[Jlo (p:=fun x=>p x/\r x=L) (l:=l.filter fun x=>decide (r x=L)) (List.Pairwise.filter _ nd) fun x=>by rw[mem_filter,h x,decide_eq_true_iff,and_assoc]];clear nd h;unfold cntL
 induction l with
 | nil=>rfl
 | cons x l ih =>
  grind
section
variable{as bs:List Int}{cb:List Band}
theorem Jlt(a:Ord as (List.range as.length))(b:Ord bs (List.range bs.length))(e:as.sum=bs.sum):Two (tB as) (tB bs) (fun y=>tB bs (tB as y)) as.sum where
 ain:=fun x h=>by
  obtain⟨j,q⟩:=a.exists h.1 h.2;exact a.inside (J8s a q)
 aa:=fun x h=>by
  obtain⟨j,q⟩:=a.exists h.1 h.2;exact Jdd a q
 bb:=fun x h=>by
  obtain⟨j,q⟩:=b.exists h.1 (by lia);exact Jdd b q
 ff:=fun x h=>rfl
end
noncomputable def onR(f:Int->Int)(u v:Int):Prop:=∃n,itN f n u=v
noncomputable def tog(a f:Int->Int)(x y:Int):Prop:=onR f x y\/onR f (a x) y
theorem onR.trans{f:Int->Int}(h:onR f u v)(k:onR f v w):onR f u w:=by obtain⟨i,e⟩:=h;exact by obtain⟨j,a⟩:=k;exact⟨i+j,by rw[J15,e,a]⟩
section
variable{f a b:Int->Int}{N:Int}{cb:List Band}
theorem Sys.on_symm(S:Sys f N cb)(a:0<=u/\u<N)(h:onR f u v):onR f v u:=by
 obtain⟨i,rfl⟩:=h;exact S.home a i
theorem Two.on_a(T:Two a b f N)(S:Sys f N cb)(c:0<=u/\u<N)(h:onR f u v):onR f (a v) (a u):=by
 obtain⟨i,rfl⟩:=h;exact⟨i,T.back S c i⟩
theorem Two.on_b(T:Two a b f N)(c:0<=u/\u<N):onR f (a u) (b u):=⟨1,by show f (a u)=_;rw[T.ff _ (T.ain u c),T.aa u c]⟩
theorem Two.tog_symm(T:Two a b f N)(S:Sys f N cb)(c:0<=x/\x<N)(h:tog a f x y):tog a f y x:=by
 rcases h with h|h
 ·exact .inl (S.on_symm c h)
 ·have:=T.on_a S (T.ain x c) h;rw[T.aa x c] at this;exact .inr this
theorem Two.tog_a(T:Two a b f N)(S:Sys f N cb)(c:0<=x/\x<N)(d:0<=y/\y<N)(h:tog a f x y):tog a f x (a y):=by
 rcases h with h|h
 ·exact .inr (S.on_symm (T.ain y d) (T.on_a S c h))
 ·have:=S.on_symm (T.ain y d) (T.on_a S (T.ain x c) h);rw[T.aa x c] at this;exact .inl this
theorem Two.tog_b(T:Two a b f N)(S:Sys f N cb)(d:0<=x/\x<N)(c:0<=y/\y<N)(h:tog a f x y):tog a f x (b y):=
 (T.tog_a S d c h).imp (fun k=>k.trans (T.on_b c)) fun k=>k.trans (T.on_b c)
theorem Two.rO_a(T:Two a b f N)(S:Sys f N cb)(h:0<=x/\x<N):rOf f (a x)=rOf f x:=by
 have R:=S.has h;refine J44.uniq (S.has (T.ain x h)) ⟨R.pos,?_,fun n d c e=>R.least n d c ?_⟩
 ·have:=T.back S h (rOf f x);rw[R.back] at this;exact this
 ·have i:=S.itin h.1 h.2 n;have j:=T.ain _ i;have k:=T.ain x h;have:=congrArg a (S.itinj j.1 j.2 k.1 k.2 n (by rw[T.back S h n,e]));rw[T.aa _ i,T.aa x h] at this;exact this
theorem Two.way_a(T:Two a b f N)(S:Sys f N cb)(h:0<=x/\x<N)(w:way a f x):way a f (a x):=by
 show onR f (a x) (a (a x));rw[T.aa x h];exact S.on_symm h w
theorem Two.same(T:Two a b f N)(S:Sys f N cb)(c:0<=x/\x<N)(h:tog a f x y):rOf f y=rOf f x/\(way a f y↔way a f x):=by
 rcases h with⟨i,rfl⟩|⟨i,rfl⟩
 ·exact⟨S.rO c i,T.way_on S i c⟩
 ·have d:=T.ain x c;refine⟨(S.rO d i).trans (T.rO_a S c),(T.way_on S i d).trans ⟨fun w=>?_,T.way_a S c⟩⟩;have:=T.way_a S d w;rw[T.aa x c] at this;exact this
theorem Sys.cn_pos(S:Sys f N cb){p:Int->Prop}(b:∀x i,0<=x/\x<N->(p (itN f i x)↔p x))(h:0<=x/\x<N)(a:p x):1<=cn N (fun y=>p y/\rOf f y=rOf f x/\mn f y):=by
 obtain⟨i,hi⟩:=S.least _ rfl h;exact List.length_pos_of_mem (J2n.mpr ⟨S.itin h.1 h.2 i,(b x i h).mpr a,S.rO h i,hi⟩)
end
section
variable{as bs:List Int}{cb:List Band}
theorem Ji4(d:Ord as (List.range as.length))(b:Ord bs (List.range bs.length))(l:∀j,j<as.length->1<=as.getD j 0)(g:∀j,j<bs.length->1<=bs.getD j 0)(e:as.sum=bs.sum)(S:Sys (fun y=>tB bs (tB as y)) as.sum cb){ps:List (Int×Int)}(a:ps=(midL as as.length++midL bs bs.length).map fun x=>((rOf (fun y=>tB bs (tB as y)) x:Int),(1:Int)))(h:0<=x/\x<as.sum):
  (way (tB as) (fun y=>tB bs (tB as y)) x->∃p∈ps,p.1=rOf (fun y=>tB bs (tB as y)) x)/\(¬ way (tB as) (fun y=>tB bs (tB as y)) x->0<cntL (conB cb) (rOf (fun y=>tB bs (tB as y)) x)-cntL ps (rOf (fun y=>tB bs (tB as y)) x)/2/\1<=cntL (conB cb) (rOf (fun y=>tB bs (tB as y)) x)):=by
 have T:=Jlt d b e;generalize (fun y=>tB bs (tB as y))=F at *;have r:cntL ps (rOf F x)=2*cn as.sum (fun y=>way (tB as) F y/\rOf F y=rOf F x/\mn F y):=by
  rw[a,map_append,Jep,Jgi (N:=as.sum) (Ja1 d l) (fun x=>Jb8 d l),Jgi (N:=as.sum) (Ja1 b g) (fun x=>by rw[e];exact Jb8 b g)];have:=T.ends S (rOf F x);omega
 have f:=fun x i=>T.way_on (x:=x) S i;refine⟨fun w=>Classical.byContradiction fun n=>?_,fun w=>?_⟩
 ·have c:=S.cn_pos f h w;rw[J9f fun p o q=>n ⟨p,o,q⟩] at r;omega
 ·have c:=S.cn_pos (p:=fun y=>¬ way (tB as) F y) (fun x i m=>not_congr (f x i m)) h w;have:=S.num_c (L:=rOf F x) (S.has h).pos;rw[Joz (way (tB as) F),Jbl fun x _ _=>and_comm,Jbl (p:=fun y=>_/\¬ _) fun x _ _=>and_comm] at this;omega
end
end Rl
namespace R56
open PySem L2 Rl En
structure Fd where
 n:Str
 s:Stmt
 p:List Str
noncomputable abbrev Fn1 [En](d:Fd):Prop:=Fn0 d.n d.s d.p
noncomputable abbrev Ca1 [En](k:Nat)(d:Fd)(sp:Sp):Prop:=Cal CX0 k d.n d.p sp
noncomputable abbrev Cx1 [En](k:Nat)(d:Fd)(sp:Sp):Prop:=Cal (Exc1 En.P En.w) k d.n d.p sp
noncomputable abbrev FX1(K:Frag)(mg:Str->Option Value)(d:Fd):Prop:=∃f fd,Fun K d.n d.n d.s f fd/\J2z K fd d.p []/\mg d.n=some (.ref f)
noncomputable abbrev FS1(N:List Str)(d:Fd):Prop:=Jr N d.p (Jd d.s)
noncomputable def top(i:Nat):Stmt:=PySem.Challenge.pw_relaid_k56_whole_one_strand.main.body.getD i (.Pass ⟨0,0,0,0⟩)
noncomputable abbrev Jaa:Fd:=⟨"moved",top 11,["line","piece","offset","firsts"]⟩
noncomputable abbrev Jl2:Fd:=⟨"refuse_lengths",top 16,["lengths"]⟩
noncomputable abbrev Jl1:Fd:=⟨"refuse_order",top 17,["order","pieces"]⟩
noncomputable abbrev Jkz:Fd:=⟨"refuse_turned",top 18,["turned","pieces"]⟩
noncomputable abbrev Jkx:Fd:=⟨"turns_told",top 19,["turned","pieces"]⟩
noncomputable abbrev Jae:Fd:=⟨"first_places",top 20,["lengths","order"]⟩
noncomputable abbrev J7i:Fd:=⟨"length_of",top 24,["rest","letters"]⟩
noncomputable abbrev J8z:Fd:=⟨"rest_of",top 25,["line"]⟩
noncomputable abbrev Jab:Fd:=⟨"letter_in",top 26,["rest","row","y"]⟩
noncomputable abbrev Jl6:Fd:=⟨"gone_between",top 27,["rest","y","from_row","to_row"]⟩
noncomputable abbrev J97:Fd:=⟨"letter_at",top 28,["rest","y"]⟩
noncomputable abbrev J91:Fd:=⟨"rest_comes",top 29,["rest","y"]⟩
noncomputable abbrev J4i:Fd:=⟨"without",top 31,["row","letter"]⟩
noncomputable abbrev J4j:Fd:=⟨"letters_behind",top 32,["row","letter"]⟩
noncomputable abbrev fPut:Fd:=⟨"put_beside",top 33,["row","winner","loser","ahead"]⟩
noncomputable abbrev J3p:Fd:=⟨"changed",top 34,["row","letter","entry"]⟩
noncomputable abbrev J7h:Fd:=⟨"shortened",top 35,["rest","winner","less"]⟩
noncomputable abbrev J5y:Fd:=⟨"turns_behind",top 36,["rest","winner","loser"]⟩
noncomputable abbrev Ja6:Fd:=⟨"whole_times",top 44,["rest","winner","row"]⟩
noncomputable abbrev Jcu:Fd:=⟨"over_step",top 45,["rest","winner","loser"]⟩
noncomputable abbrev J8x:Fd:=⟨"under_step",top 46,["rest","winner","loser"]⟩
noncomputable abbrev Jl4:Fd:=⟨"next_step",top 47,["rest"]⟩
noncomputable abbrev J99:Fd:=⟨"first_towers",top 49,["line"]⟩
noncomputable abbrev Jkw:Fd:=⟨"towers_behind",top 50,["towers","step","rest","behind"]⟩
noncomputable abbrev J9c:Fd:=⟨"bands_left",top 51,["step","rest","behind","towers"]⟩
noncomputable abbrev Jcr:Fd:=⟨"stretches_of",top 55,["line"]⟩
noncomputable abbrev J9a:Fd:=⟨"first_goes",top 56,["stretch"]⟩
noncomputable abbrev Jcy:Fd:=⟨"last_goes",top 57,["stretch"]⟩
noncomputable abbrev Jcz:Fd:=⟨"go_together",top 58,["one","two"]⟩
noncomputable abbrev Jcw:Fd:=⟨"made_one",top 59,["one","two"]⟩
noncomputable abbrev J6s:Fd:=⟨"longest",top 60,["stretches"]⟩
noncomputable abbrev J92:Fd:=⟨"parts_between",top 63,["one","two"]⟩
noncomputable abbrev Jcx:Fd:=⟨"line_within",top 65,["stretches"]⟩
noncomputable abbrev J98:Fd:=⟨"joined",top 66,["one","two"]⟩
noncomputable abbrev Jl3:Fd:=⟨"refuse_blocks",top 69,["lengths"]⟩
noncomputable abbrev Jl0:Fd:=⟨"refuse_sums",top 70,["above","below"]⟩
noncomputable abbrev Ja5:Fd:=⟨"turned_blocks",top 71,["lengths"]⟩
noncomputable abbrev Jcs:Fd:=⟨"share_of",top 76,["chart","at"]⟩
noncomputable abbrev Jd0:Fd:=⟨"come_from",top 77,["chart","at","y"]⟩
noncomputable abbrev Jho:Fd:=⟨"address",top 78,["chart","x"]⟩
noncomputable abbrev Ja9:Fd:=⟨"other_offset",top 80,["band","offset"]⟩
noncomputable abbrev Jac:Fd:=⟨"length_of_round",top 81,["band","offset"]⟩
noncomputable abbrev Ja8:Fd:=⟨"round_length",top 82,["chart","x"]⟩
noncomputable abbrev J90:Fd:=⟨"rounds_of_band",top 83,["band"]⟩
noncomputable abbrev J8y:Fd:=⟨"rounds",top 84,["chart"]⟩
noncomputable abbrev J6r:Fd:=⟨"middles",top 91,["lengths"]⟩
noncomputable abbrev Jcv:Fd:=⟨"numbers_of_ways",top 92,["arches"]⟩
noncomputable abbrev J96:Fd:=⟨"numbers_of_loops",top 93,["arches","ways"]⟩
noncomputable abbrev J6p:Fd:=⟨"strands",top 94,["arches"]⟩
noncomputable abbrev Jhn:Fd:=⟨"_law_cell",top 96,["script","k"]⟩
noncomputable abbrev Jl5:Fd:=⟨"piece_holding",top 10,["firsts","lengths","x"]⟩
noncomputable abbrev fAt:Fd:=⟨"piece_at",top 12,["line","x"]⟩
noncomputable abbrev Jl7:Fd:=⟨"goes",top 13,["line","x"]⟩
noncomputable abbrev J95:Fd:=⟨"other_end",top 73,["lengths","x"]⟩
noncomputable abbrev Jd2:Fd:=⟨"arch_above",top 74,["arches","x"]⟩
noncomputable abbrev Jl8:Fd:=⟨"between",top 85,["chart","x","y"]⟩
noncomputable abbrev fLed:Fd:=⟨"led_above",top 87,["arches","x"]⟩
noncomputable abbrev Jad:Fd:=⟨"in_one_round",top 88,["arches","x","y"]⟩
noncomputable abbrev J77:Fd:=⟨"strand",top 89,["arches","x"]⟩
noncomputable abbrev J42:Fd:=⟨"together",top 90,["arches","x","y"]⟩
noncomputable abbrev J94:Fd:=⟨"_law_other",top 100,["blocks","x"]⟩
noncomputable abbrev fAsk:Fd:=⟨"_law_ask",top 101,["which","arches","x","y"]⟩
noncomputable abbrev J6q:Fd:=⟨"_law_refused",top 102,["which","arches","x","y"]⟩
noncomputable abbrev J9b:Fd:=⟨"_law_blocks",top 97,["script","many","span"]⟩
noncomputable abbrev J93:Fd:=⟨"_law_parted",top 98,["script","total","many"]⟩
noncomputable abbrev Jd1:Fd:=⟨"_law_arches",top 99,["script","spans"]⟩
noncomputable abbrev iV(ns:List Int):List V:=ns.map V.int
noncomputable abbrev nV(os:List Nat):List V:=(natI os).map V.int
noncomputable abbrev bV(bs:List Bool):List V:=bs.map V.bl
noncomputable def SqH(H:Hp)(p:Addr)(xs:List V):Prop:=H p=some (.lst xs)\/H p=some (.tup xs)
theorem SqH.sq{K:Frag}(h:SqH H p xs):SqL K H p xs\/SqT K H p xs:=h.elim (fun h=>.inl (SqL.of h)) fun h=>.inr (SqT.of h)
theorem SqH.same(h:SqH H p xs)(s:Same H H'):SqH H' p xs:=h.elim (fun h=>.inl (s _ _ h)) fun h=>.inr (s _ _ h)
theorem J8(h:H l=none):Same H (upd H l o):=fun b u e=>by rw[Jh (Jb e h)];exact e
theorem iteD{A:Prop}[Decidable c](a:¬ c)(h:B):if decide c=true then A else B:=by
 simp_all
theorem J2s{A:Prop}[Decidable c](a:c)(h:A):if decide c=true then A else B:=by
 simp_all
theorem J76{A:Prop}(h:c=true)(q:A):if c=true then A else B:=by simp_all
theorem J7n{A:Prop}(h:¬ c=true)(q:B):if c=true then A else B:=by rw[if_neg h];exact q
theorem J1w{K:Frag}(h:SqH H p xs)(k:∀l a,Same H a->a l=some (.tup xs)->Q (.ref l) a):rTup K [V.ref p] H Q:=by
 unfold rTup;rcases h with h|h
 ·exact⟨p,xs,rfl,.inl ⟨SqL.of h,fun l b=>k l _ (J8 b) J7⟩⟩
 ·exact⟨p,xs,rfl,.inr ⟨SqT.of h,k p H (Same.refl _) h⟩⟩
theorem J37(h:i≠j):¬ V.int i=V.int j:=fun e=>h (V.int.inj e)
theorem Jkk(h:o<n):ixN n (o:Int)=some o:=by
 unfold ixN;rw[if_pos (by lia),if_pos (by lia)];simp
theorem J1d(h:j<ns.length):(iV ns)[j]?=some (V.int (ns.getD j 0)):=by
 simp_all
theorem Jg6(ns:List Int)(j:Nat)(z:Int):(iV ns).set j (V.int z)=iV (ns.set j z):=by
 simp_all
theorem Jpq{os:List Nat}{j:Nat}{y:V}(h:(nV os)[j]?=some y):j<os.length/\y=V.int (os.getD j 0:Nat)/\os.getD j 0∈os:=by
 have a:j<os.length:=by
  have:=(gS h);simpa [natI] using this
 refine⟨a,?_,?_⟩
 ·rw[getElem?_map] at h;unfold natI at h;rw[getElem?_map,gE a] at h;rw[getD_eq_getElem?_getD,gE a];exact(Option.some.inj h).symm
 ·rw[getD_eq_getElem?_getD,gE a];exact List.getElem_mem a
theorem Jku(n:Nat):(replicate n [V.int 0]).flatten=iV (replicate n 0):=by
 simp_all
theorem Jhl(n:Nat):(replicate n [V.bl false]).flatten=bV (replicate n false):=by
 simp_all
theorem Jba :(putF f v fs).lookup f=some v:=by rw[J4g,if_pos rfl]
theorem Jbb(h:¬ g=f):(putF f v fs).lookup g=fs.lookup g:=by rw[J4g,if_neg h]
theorem J2i(ls:List Int):(iV ls).length=ls.length:=length_map ..
noncomputable def J23(x:Addr)(H a:Hp):Prop:=∀b o,H b=some o->b≠x->a b=some o
theorem J23.of(s:Same H H'):J23 x H H':=fun b o e _=>s b o e
theorem J23.trans(a:J23 x H H1)(b:J23 x H1 H2):J23 x H H2:=fun c o e n=>b c o (a c o e n) n
theorem J23.upd :J23 x H (upd H x o):=fun b u e n=>by rw[Jh n];exact e
structure Sx(x C dx:Addr)(Hw:Hp)(fs:List (Str×V))(n:Nat)(H:Hp):Prop where
 at_:H x=some (.ins C dx fs)
 kp:J23 x Hw H
 len:fs.length<=n
 lt:n<1000
structure Tp(x p:Addr)(xs:List V)(H:Hp):Prop where
 ne:p≠x
 at_:H p=some (.tup xs)
theorem Tp.kp(t:Tp x p xs H)(k:J23 x H H'):Tp x p xs H':=⟨t.ne,k _ _ t.at_ t.ne⟩
theorem Sx.nil(h:H x=some (.ins C dx [])):Sx x C dx H [] 0 H:=⟨h,fun _ _ e _=>e,Nat.le_refl _,by decide⟩
theorem Sx.few(S:Sx x C dx Hw fs n H):fs.length<1000:=Nat.lt_of_le_of_lt S.len S.lt
theorem Sx.set(S:Sx x C dx Hw fs n H)(s:Same H H3)(f:Str)(v:V)(h:n+1<1000:=by decide):∃a,upd H3 x (.ins C dx (putF f v fs))=a/\Sx x C dx Hw (putF f v fs) (n+1) a/\J23 x H a:=
 ⟨_,rfl,⟨J7,(S.kp.trans (J23.of s)).trans J23.upd,Nat.le_trans (J1x ..) (Nat.succ_le_succ S.len),h⟩,(J23.of s).trans J23.upd⟩
theorem Sx.put(S:Sx x C dx Hw fs n H)(s:Same H H3)(b:H3 p=some (.tup xs))(f:Str)(h:n+1<1000:=by decide):∃a,upd H3 x (.ins C dx (putF f (.ref p) fs))=a/\Sx x C dx Hw (putF f (.ref p) fs) (n+1) a/\J23 x H a/\Tp x p xs a:=
 let ⟨a,e,S4,k⟩:=S.set s f (.ref p) h;have n:=fun z=>by rw[z,s _ _ S.at_] at b;cases b
 ⟨a,e,S4,k,n,by rw[<- e,Jh n];exact b⟩
noncomputable def okO:HO->Bool
 | .tup _=>true
 | .ins _ _ fs=>(fs.lookup ("lengths":Str)).isSome || (fs.lookup ("rests":Str)).isSome || (fs.lookup ("winner":Str)).isSome
 | _=>false
noncomputable def Kp(H a:Hp):Prop:=∀b u,H b=some u->okO u=true->a b=some u
theorem Kp.of(s:Same H H'):Kp H H':=fun b u e _=>s b u e
theorem Kp.trans(a:Kp H H1)(b:Kp H1 H2):Kp H H2:=fun c u e t=>b c u (a c u e t) t
theorem Kp.x{x:Addr}(k:J23 x H H')(h:H x=some o)(n:okO o=false):Kp H H':=fun b u e t=>k b u e fun z=>by grind
theorem J23.sqH(k:J23 x H H')(h:SqH H p xs)(n:p≠x):SqH H' p xs:=h.elim (fun h=>.inl (k _ _ h n)) fun h=>.inr (k _ _ h n)
theorem SqH.ne(h:SqH H p xs)(a:H x=some (.ins C dx fs)):p≠x:=h.elim (fun h=>Job h a (by simp_all)) fun h=>Job h a (by simp_all)
theorem J7k(h:j<ts.length):(bV ts)[j]?=some (V.bl (ts.getD j false)):=by
 simp_all
structure TxtX(K:Frag)(mg:Str->Option Value)(x:Str)(CO:Addr):Prop where
 mg:mg x=some (.ref CO)
 ex:excIn K CO bmV "ValueError.__new__"=true
structure TxtR(mg:Str->Option Value):Prop where
 len:mg "len"=none
 sum:mg "sum"=none
 tuple:mg "tuple"=none
 list:mg "list"=none
 range:mg "range"=none
theorem J5k(row:List Nat):nV row=row.map fun(j:Nat)=>V.int (j:Int):=by
 show(row.map fun(n:Nat)=>(n:Int)).map V.int=_;rw[map_map];rfl
theorem J7f(row:List Nat):(nV row).length=row.length:=by rw[J5k,length_map]
theorem nV_at(h:i<row.length):(nV row)[i]?=some (V.int (row.getD i 0:Nat)):=by
 rw[J5k,getElem?_map,getD_eq_getElem?_getD,gE h];rfl
section
variable [En]
inductive Jdw(vs:List V)(H:Hp)(Q:VK)(E:XK):Prop
 | mk(p q:Addr)(ls:List Int)(os:List Nat)(_:vs=[.ref p,.ref q])(_:H p=some (.tup (iV ls)))(_:SqH H q (nV os))(_:(∀o∈os,o<ls.length))(_:ls.length<=24)(_:∀l a,Same H a->a l=some (.tup (iV (firsts ls os)))->Q (.ref l) a)
theorem J4b:FS1 ["lengths","order","firsts","place","piece"] Jae:=fsc
noncomputable def PvF(p q a:Addr)(ls:List Int)(os:List Nat)(H:Hp)(i:Nat)(σ:St)(b:Hp):Prop:=
 ∃v,σ=[some (.ref p),some (.ref q),some (.ref a),some (.int (J5g ls os i).2),v]/\b a=some (.lst (iV (J5g ls os i).1))/\H a=none/\Same H b
theorem Jo3(F:Fn1 Jae)(T:TxtR mg):
  Ca1 1 Jae Jdw:=by
 refine F.ok J4b (fun f d A o s H vs Q E X h=>?_);obtain⟨p,q,ls,os,rfl,I,B,M,Y,k⟩:=h;have N:(iV ls).length=ls.length:=length_map ..;have turn:∀(c:Addr) (i:Nat) (y:V) (σ:St) (g:Hp) (D:Ends),(nV os)[i]?=some y->PvF p q c ls os H i σ g->D.nx=PvF p q c ls os H (i+1)->
   J8r 4 y σ g fun σ2 g=>tSeq (tAsg (tVar 3) (gSub (tVar 2) (tVar 4) rSetL)) (tAsg (tOp (rI0 fun i j=>.int (i+j)) (tVar 3) (tOp (rIxT K) (tVar 0) (tVar 4))) (J8r 3)) D σ2 g:=by
  rintro c i y σ g D S ⟨v,rfl,G,r,C⟩ W;obtain⟨hi,rfl,U⟩:=Jpq S;have P:=M _ U;refine⟨_,rfl,_,rfl,_,rfl,c,_,_,os.getD i 0,rfl,rfl,G,Jkk (by rw[length_map,J4o];exact P),?_⟩;refine⟨_,rfl,_,rfl,_,rfl,p,_,_,_,rfl,rfl,SqT.of (xs:=iV ls) ?_,Je (J1d P),_,_,rfl,rfl,?_⟩
  ·rw[Jh (Job (C _ _ I) G (by intro z;cases z))];exact C _ _ I
  ·show D.nx _ _;rw[W];refine⟨_,rfl,?_,r,fun b o e=>?_⟩
   ·rw[J7,Jg6];rfl
   ·rw[Jh (Jb e r)];exact C _ _ e
 have w:∀c,H c=none->∀J,Same H J->J c=some (.lst (iV (replicate ls.length 0)))->PvF p q c ls os H 0 [some (.ref p),some (.ref q),some (.ref c),some (.int 0),none] J:=fun c G J r C=>⟨none,rfl,C,G,r⟩;have done:∀c (σ:St) (g:Hp),PvF p q c ls os H (nV os).length σ g->tRet (tCB (rTup K) (Jm3 (tVar 2) tNil)) { nx:=fun _ R=>Q .non R,rt:=Q } σ g:=by
  rintro c σ g ⟨v,rfl,G,r,C⟩;have e:(nV os).length=os.length:=by simp[natI]
  rw[e] at G;exact⟨_,rfl,J1w (.inl G) fun l R s N=>k l _ (C.trans s) N⟩
 have rep:∀c,H c=none->∀m,(upd H c (.lst [V.int 0])) m=none->PvF p q m ls os H 0 [some (.ref p),some (.ref q),some (.ref m),some (.int 0),none] (upd (upd H c (.lst [V.int 0])) m (.lst (replicate ((iV ls).length:Int).toNat [V.int 0]).flatten)):=fun c u m r =>
  w m ((J8 u).free r) _ ((J8 u).trans (J8 r)) (by rw[J7,Jku,N];rfl)
 rcases B with B|B
 ·refine⟨_,J1 (pst J4b 2 (Ji Jj3 (J2h (J0 J9 J3)) (pcb Ju T.len (pv 0))))
   (J1 (pst J4b 3 J9)
   (J1 (J30 PassesOwn.never rfl (J2e (pv 1)) (pgm J4b 4) (J1 (Jfn (pv 3) (Jfp (pv 2) (pv 4) J7p)) (J4 (pst J4b 3 (Ji J13 (pv 3) (Jt Jm (pv 0) (pv 4)))))))
   (J4 (Jf (pct J1s T.tuple (pv 2)))))),?_⟩
  refine⟨by show 1<=sizeLine;decide,fun c u=>⟨_,rfl,p,_,rfl,.inr (SqT.of (J8 u _ _ I)),c,_,[V.int 0],rfl,rfl,J7,by lia,by lia,?_,fun m r=>?_⟩⟩
  ·show 1*((iV ls).length:Int).toNat<=sizeLine;have:=Js (n:=ls.length) (by lia);lia
  ·have L:=rep c u m r;exact⟨_,rfl,q,rfl,⟨_,SqL.of (((J8 u).trans (J8 r)) _ _ B)⟩,J3o (K:=K) (a:=q) (xs:=nV os) (PvF p q m ls os H) L (fun i σ g _ O=>by obtain⟨_,_,_,_,s⟩:=O;exact SqL.of (s _ _ B)) (fun i y σ g hi pv=>turn m i y σ g _ hi pv rfl) (fun σ g pv=>done m σ g pv)⟩
 ·refine⟨_,J1 (pst J4b 2 (Ji Jj3 (J2h (J0 J9 J3)) (pcb Ju T.len (pv 0))))
   (J1 (pst J4b 3 J9)
   (J1 (J30 PassesOwn.never rfl (J7b (pv 1)) (pgm J4b 4) (J1 (Jfn (pv 3) (Jfp (pv 2) (pv 4) J7p)) (J4 (pst J4b 3 (Ji J13 (pv 3) (Jt Jm (pv 0) (pv 4)))))))
   (J4 (Jf (pct J1s T.tuple (pv 2)))))),?_⟩
  refine⟨by show 1<=sizeLine;decide,fun c u=>⟨_,rfl,p,_,rfl,.inr (SqT.of (J8 u _ _ I)),c,_,[V.int 0],rfl,rfl,J7,by lia,by lia,?_,fun m r=>?_⟩⟩
  ·show 1*((iV ls).length:Int).toNat<=sizeLine;have:=Js (n:=ls.length) (by lia);lia
  ·have L:=rep c u m r;exact⟨_,rfl,q,rfl,⟨_,SqT.of (((J8 u).trans (J8 r)) _ _ B)⟩,J8t (K:=K) (a:=q) (xs:=nV os) (PvF p q m ls os H) L (fun i σ g _ O=>by obtain⟨_,_,_,_,s⟩:=O;exact SqT.of (s _ _ B)) (fun i y σ g hi pv=>turn m i y σ g _ hi pv rfl) (fun σ g pv=>done m σ g pv)⟩
structure Jgq(K:Frag)(H:Hp)(x:Addr)(ls:List Int)(ts:List Bool):Prop where
 ex:∃(C dx:Addr) (fs:List (Str×V)) (pl pt:Addr),H x=some (.ins C dx fs)/\Cls K C/\J18 K C "lengths"/\J18 K C "turned"/\fs.lookup ("lengths":Str)=some (.ref pl)/\fs.lookup ("turned":Str)=some (.ref pt)/\H pl=some (.tup (iV ls))/\H pt=some (.tup (bV ts))
inductive Jan(K:Frag)(vs:List V)(H:Hp)(Q:VK)(E:XK):Prop
 | mk(x p:Addr)(ls:List Int)(ts:List Bool)(fs:List Int)(j:Nat)(off:Int)(_:vs=[.ref x,.int j,.int off,.ref p])(_:Jgq K H x ls ts)(_:H p=some (.tup (iV fs)))(_:fs.length=ls.length)(_:ts.length=ls.length)(_:j<ls.length)(_:Q (.int (J4f ls ts j off fs)) H)
theorem Jqv:FS1 ["line","piece","offset","firsts"] Jaa:=fsc
theorem Jjn(F:Fn1 Jaa):
  Ca1 1 Jaa (Jan K):=by
 refine F.ok Jqv (fun f d A o s H vs Q E r h=>?_);obtain⟨x,p,ls,ts,fs,j,off,rfl,L,b,e,m,a,k⟩:=h;obtain⟨C,l,i,pl,pt,g,cl,nL,nT,k1,k3,q,n⟩:=L.ex;refine⟨_,J1 (J1b (J2x (Jt Jm (Ja (pv 0)) (pv 1))) (J4 (Jf (Ji J1i (Ji J1i (Ji J13 (Jt Jm (pv 3) (pv 1)) (Jt Jm (Ja (pv 0)) (pv 1))) J9) (pv 2)))) Jo)
  (J4 (Jf (Ji J13 (Jt Jm (pv 3) (pv 1)) (pv 2)))),?_⟩
 refine⟨_,rfl,x,C,l,i,_,rfl,g,cl,nT,k3,_,rfl,pt,_,_,_,rfl,rfl,SqT.of n,Je (J7k (by rw[m];exact a)),_,rfl,?_⟩;unfold J4f at k;by_cases c:ts.getD j false=true
 ·rw[if_pos c] at k;rw[if_pos c];exact⟨_,rfl,_,rfl,p,_,_,_,rfl,rfl,SqT.of b,Je (J1d (by rw[e];exact a)),_,rfl,x,C,l,i,_,rfl,g,cl,nL,k1,_,rfl,pl,_,_,_,rfl,rfl,SqT.of q,Je (J1d a),_,_,rfl,rfl,_,_,rfl,rfl,_,rfl,_,_,rfl,rfl,k⟩
 ·rw[if_neg c] at k;rw[if_neg c];exact⟨_,rfl,_,rfl,p,_,_,_,rfl,rfl,SqT.of b,Je (J1d (by rw[e];exact a)),_,rfl,_,_,rfl,rfl,k⟩
end
structure Good(ls:List Int)(os:List Nat):Prop where
 lo:1<=ls.length
 hi:ls.length<=24
 pos:∀a∈ls,1<=a
 sum:ls.sum<=10^30
 perm:os.Perm (List.range ls.length)
theorem Good.olt{os:List Nat}(g:Good ls os):∀o∈os,o<ls.length:=fun o h=>mem_range.mp (g.perm.mem_iff.mp h)
structure Txt(K:Frag)(mg:Str->Option Value):Prop where
 len:mg "len"=none
 min:mg "min"=none
 sum:mg "sum"=none
 sorted:mg "sorted"=none
 list:mg "list"=none
 range:mg "range"=none
 tuple:mg "tuple"=none
 most:∃t,mg "MOST_PIECES"=some (.int 24 t)
section
variable [En]
inductive Jpd(vs:List V)(H:Hp)(Q:VK)(E:XK):Prop
 | mk(p:Addr)(ls:List Int)(os:List Nat)(_:vs=[.ref p])(_:SqH H p (iV ls))(_:Good ls os)(_:Q .non H)
theorem scRefL:FS1 ["lengths"] Jl2:=fsc
theorem Jrn(F:Fn1 Jl2)(T:Txt K mg):
  Ca1 1 Jl2 Jpd:=by
 refine F.ok scRefL (fun f d A o s H vs Q E l h=>?_);obtain⟨p,ls,os,rfl,a,g,k⟩:=h;obtain⟨i,b⟩:=T.most;have n:=g.lo;have m:=g.hi;refine⟨_,J1 (J1b (Jl J40 (pcb Ju T.len (pv 0)) J9 (Jp _)) (J4 J1q) Jo)
  (J1 (J1b (Jl J73 (pcb Ju T.len (pv 0)) (Jb2 (v:=.int 24) rfl b ⟨_,rfl⟩) (Jp _)) (J4 J1q) Jo)
  (J1 (J1b (Jl J9l (J1r (Jgl rfl) (by rfl) T.min boot_min (J0 (pv 0) J3)) J9 (Jp _)) (J4 J1q) Jo)
  (J4 (J1b (Jl J73 (pcb (J1z rfl) T.sum (pv 0)) (Ji J9w J9 J9) (Jp _)) (J4 J1q) Jo)))),?_⟩
 have c:(iV ls).length=ls.length:=length_map ..;refine⟨_,rfl,p,_,rfl,a.sq,rfl,_,rfl,iteD (J37 (by rw[c];lia)) ?_⟩;refine⟨_,rfl,p,_,rfl,a.sq,_,_,rfl,rfl,_,rfl,iteD (by rw[c];lia) ?_⟩;refine⟨_,rfl,p,ls,rfl,a.sq,by lia,fun M j e=>⟨_,_,rfl,rfl,_,rfl,iteD (by have:=g.pos M j;lia) ?_⟩⟩;refine⟨_,rfl,p,ls,rfl,a.sq,_,_,rfl,rfl,⟨by decide,by decide,by decide⟩,_,_,rfl,rfl,_,rfl,iteD ?_ ?_⟩
 ·have:=g.sum;show ¬ (10:Int)^30<ls.sum;lia
 ·exact k
inductive Jpc(vs:List V)(H:Hp)(Q:VK)(E:XK):Prop
 | mk(q:Addr)(os:List Nat)(n:Nat)(_:vs=[.ref q,.int n])(_:SqH H q (nV os))(_:os.Perm (List.range n))(_:n<=24)(_:∀a,Same H a->Q .non a)
theorem scRefO:FS1 ["order","pieces"] Jl1:=fsc
theorem Jrm(F:Fn1 Jl1)(T:Txt K mg):
  Ca1 1 Jl1 Jpc:=by
 refine F.ok scRefO (fun f d A o s H vs Q E u h=>?_);obtain⟨q,os,n,rfl,v,m,D,k⟩:=h;have p:=u.units0;refine⟨_,J4 (J1b (Jl (op_neL p) (J1r Jeq (by rfl) T.sorted boot_sorted (J0 (pv 0) J3))
  (pct (J3d rfl) T.list (J3h J6t (by rfl) T.range PyProof.Rows.boot_range (J0 (pv 1) J3))) (Jp _)) (J4 J1q) Jo),?_⟩
 have w:(natI os).length<64:=by
  unfold natI;rw[length_map,m.length_eq,length_range];lia
 refine⟨_,rfl,q,natI os,rfl,v.sq,w,fun l a y B z=>?_⟩;refine⟨_,rfl,(n:Int),rfl,fun r b=>⟨r,n,rfl,J7,by lia,fun j c=>?_⟩⟩;have e:=Jbz m B z;have C:=Jb (H:=upd H l (.lst (a.map V.int))) J7 b;have g:Same (upd H l (.lst (a.map V.int))) (upd (upd (upd H l (.lst (a.map V.int))) r (.rng 0 n)) j (.lst (((List.range n).map fun(i:Nat)=>(i:Int)).map V.int))):=(J8 b).trans (J8 c);refine⟨l,j,_,_,rfl,rfl,SqL.of (g _ _ J7),SqL.of J7,Kin.ints _ _,_,rfl,Jcl (by rw[e];rfl) ?_⟩;exact k _ ((J8 y).trans g)
inductive Jpa(vs:List V)(H:Hp)(Q:VK)(E:XK):Prop
 | mk(q:Addr)(xs:List V)(n:Nat)(_:vs=[.ref q,.int n])(_:SqH H q xs)(_:xs.length=n)(_:Q .non H)
theorem scRefT:FS1 ["turned","pieces"] Jkz:=fsc
theorem Jrk(F:Fn1 Jkz)(T:Txt K mg):
  Ca1 1 Jkz Jpa:=by
 refine F.ok scRefT (fun f d A o s H vs Q E c h=>?_);obtain⟨q,xs,n,rfl,a,b,k⟩:=h;refine⟨_,J4 (J1b (Jl J72 (pcb Ju T.len (pv 0)) (pv 1) (Jp _)) (J4 J1q) Jo),?_⟩;refine⟨_,rfl,q,_,rfl,a.sq,_,rfl,rfl,_,rfl,Jcl (by rw[b]) ?_⟩;exact k
noncomputable def J9k(H:Hp)(a:V)(n:Nat)(ts:List Bool):Prop:=ts.length=n/\((a=.non/\ts=replicate n false)\/∃t,a=.ref t/\SqH H t (bV ts))
theorem J9k.same(h:J9k H tv n ts)(s:Same H H'):J9k H' tv n ts:=⟨h.1,h.2.elim .inl fun a=>by obtain⟨t,e,q⟩:=a;exact .inr ⟨t,e,q.same s⟩⟩
inductive Jp8(vs:List V)(H:Hp)(Q:VK)(E:XK):Prop
 | mk(b:V)(n:Nat)(ts:List Bool)(_:vs=[b,.int n])(_:1<=n)(_:n<=24)(_:J9k H b n ts)(_:∀p a,Same H a->a p=some (.tup (bV ts))->Q (.ref p) a)
theorem scTold:FS1 ["turned","pieces"] Jkx:=fsc
theorem Jri(F:Fn1 Jkx)(T:Txt K mg)(m:Ca1 1 Jkz Jpa):
  Ca1 2 Jkx Jp8:=by
 refine F.ok scTold (fun f d A o s H vs Q E i h=>?_);obtain⟨q,n,ts,rfl,v,u,⟨g,j⟩,k⟩:=h;refine⟨_,J1 (J1b (pt_cmp (pc_isN (pv 0))) (J4 (Jf (Ji Jj2 (J2g (J0 J5i J3)) (pv 1)))) Jo)
  (J1 (J1f (pcl m i Jj (J0 (pv 0) (J0 (pv 1) J3))))
  (J4 (Jf (pct J1s T.tuple (pv 0))))),?_⟩
 rcases j with⟨rfl,rfl⟩|⟨t,rfl,hq⟩
 ·refine⟨_,rfl,_,rfl,J2s rfl ?_⟩;refine⟨by show 1<=sizeLine;decide,fun p b=>⟨_,rfl,p,(n:Int),[V.bl false],rfl,rfl,J7,by simp,by lia,by lia,?_,fun e=>?_,fun r c a=>?_⟩⟩
  ·show 1*(n:Int).toNat<=sizeLine;have:=Js (n:=n) (by lia);lia
  ·have l:n=1:=by lia
   subst l;exact k p _ (J8 b) J7
  ·refine k c _ ((J8 b).trans (J8 a)) ?_;rw[J7,<- Jhl];rfl
 ·refine⟨_,rfl,_,rfl,iteD (by intro e;cases e) ?_⟩;refine⟨_,rfl,_,rfl,t,bV ts,n,rfl,hq,by rw[length_map];exact g,?_⟩;exact⟨_,rfl,J1w hq k⟩
end
section
variable [En]
inductive tCutR(t:TS)(D:Ends)(σ:St)(H:Hp):Prop
 | mk(a:St->Hp->Prop)(_:t { D with nx:=a } σ H)(_:∀σ' b,a σ' b->D.nx σ' b)
noncomputable def tCut(t:TS):TS:=fun D σ H=>tCutR t D σ H
theorem J3z(h:PS X st t):PS X st (tCut t):=by
 intro pins s σ H D I ⟨post,q,m⟩;refine thn (h pins s σ H _ I q) fun f s' z=>?_
 cases f with
 | next=>obtain⟨σ',a,b,z⟩:=z;exact⟨σ',a,b,m σ' a z⟩
 | brk=>exact z
 | cont=>exact z
 | ret u=>exact z
structure J2k(C:Addr)(H:Hp)(x:Addr)(ls:List Int)(os:List Nat)(ts:List Bool):Prop where
 ex:∃(dx:Addr) (fs:List (Str×V)) (pl po pt ps pd:Addr),H x=some (.ins C dx fs)/\(fs.lookup ("lengths":Str)=some (.ref pl)/\fs.lookup ("order":Str)=some (.ref po)/\fs.lookup ("turned":Str)=some (.ref pt)/\
  fs.lookup ("starts":Str)=some (.ref ps)/\fs.lookup ("laid":Str)=some (.ref pd)/\fs.lookup ("size":Str)=some (.int ls.sum))/\
  H pl=some (.tup (iV ls))/\H po=some (.tup (nV os))/\H pt=some (.tup (bV ts))/\H ps=some (.tup (iV (firsts ls (List.range ls.length))))/\H pd=some (.tup (iV (firsts ls os)))
theorem J2k.kp{os:List Nat}(h:J2k C H x ls os ts)(s:Kp H H'):J2k C H' x ls os ts:=by
 obtain⟨j,fs,pl,po,pt,ps,b,i,a,g,f,e,d,c⟩:=h.ex;exact⟨j,fs,pl,po,pt,ps,b,s _ _ i (by simp[okO,a.1]),a,s _ _ g rfl,s _ _ f rfl,s _ _ e rfl,s _ _ d rfl,s _ _ c rfl⟩
theorem J2k.same{os:List Nat}(h:J2k C H x ls os ts)(s:Same H H'):J2k C H' x ls os ts:=h.kp (Kp.of s)
structure TxtC(K:Frag)(mg:Str->Option Value)(C:Addr):Prop where
 cl:Cls K C
 nL:J18 K C "lengths"
 nO:J18 K C "order"
 nT:J18 K C "turned"
 nS:J18 K C "starts"
 nD:J18 K C "laid"
 nZ:J18 K C "size"
structure FunD(K:Frag)(x qual:Str)(st:Stmt)(f:Addr)(fd:FuncData)(TD:Addr):Prop where
 ex:∃(oc:Value) (od:Option Addr) (kV doc pm:Value) (an:Option Addr) (cdv ct:Value) (osl:Array (Option Value)),
  fd=fnOf x qual (J2p st) (J1g st) (Jd st) (.ref TD) kV doc pm an cdv ct/\K.lookup f=some ⟨oc,od,.func fd,osl⟩/\codeIn K cdv qual=true
 kp:keepIn K (.ref f)=true
theorem FunD.ok(F:FunD K x qual st f fd TD)(S:Jr N ps (Jd st))(len:∀vs H Q E,sp vs H Q E->vs.length=ps.length)(b:∀(a:Value) (A:Around) (outer:List Env) (s:Shared) (H:Hp) (vs:List V) (Q:VK) (E:XK),Room k (A.deeper (PyProof.Rows.envOfC qual (Jd st) s.heap.objs.size f a))->sp vs H Q E->
   ∃t,PSs (cxOf CX0 P w K mg base N qual (Jd st) f a A outer s H E).nox (J1g st) t/\t { nx:=fun _ l=>Q .non l,rt:=Q } (start N vs) H):FnOk P w K mg base CX0 (k+1) f fd ps sp:=by
 obtain⟨o,n,kV,j,m,p,a,ct,e,rfl,g,d⟩:=F.ex;refine Jor g d S len fun A outer s H vs Q E i c=>?_;obtain⟨t,h,q⟩:=b a A outer s H vs Q E i c;exact⟨t,h.nox,q⟩
inductive Jfa(C:Addr)(vs:List V)(H:Hp)(Q:VK)(E:XK):Prop
 | mk(x d p q:Addr)(c:V)(ls:List Int)(os:List Nat)(ts:List Bool)(_:vs=[.ref x,.ref p,.ref q,c])(_:H x=some (.ins C d []))(_:SqH H p (iV ls))(_:SqH H q (nV os))(_:Good ls os)(_:J9k H c ls.length ts)(_:∀a,J2k C a x ls os ts->(∀b o,H b=some o->b≠x->a b=some o)->Q .non a)
theorem scInit:Jr ["self","lengths","order","turned"] ["self","lengths","order","turned"] (Jd (Jc (top 21) 0)):=fsc
theorem Jrq(F:FunD K "__init__" "Line.__init__" (Jc (top 21) 0) f fd TD)(T:Txt K mg)(a:TxtC K mg C)(cL:Ca1 1 Jl2 Jpd)(cO:Ca1 1 Jl1 Jpc)(cT:Ca1 2 Jkx Jp8)(cF:Ca1 1 Jae Jdw):
  FnOk P w K mg base CX0 3 f fd ["self","lengths","order","turned"] (Jfa C):=by
 refine F.ok scInit (fun vs H Q E h=>?_) (fun d A o s H vs Q E n h=>?_)
 ·obtain⟨x,b,p,q,tv,ls,os,ts,rfl,_⟩:=h;rfl
 ·obtain⟨x,b,p,q,tv,ls,os,ts,rfl,z,e,U,g,ht,k⟩:=h;have g1:=g.lo;have B:=g.hi;have m:=e.ne z;have M:=U.ne z;refine⟨_,J1 (J1f (pcl cL n Jj (J0 (pv 1) J3)))
   (J1 (J1f (pcl cO n Jj (J0 (pv 2) (J0 (pcb Ju T.len (pv 1)) J3))))
   (J1 (J1o (pv 0) (pcl cT n Jj (J0 (pv 3) (J0 (pcb Ju T.len (pv 1)) J3))) rfl)
   (J1 (J1o (pv 0) (pct J1s T.tuple (pv 1)) rfl)
   (J1 (J1o (pv 0) (pct J1s T.tuple (pv 2)) rfl)
   (J1 (J1o (pv 0) (pcl cF n Jj (J0 (Ja (pv 0)) (J0 (pct (J3d rfl) T.list (J3h J6t (by rfl) T.range PyProof.Rows.boot_range (J0 (pcb Ju T.len (pv 1)) J3))) J3))) rfl)
   (J1 (J1o (pv 0) (pcl cF n Jj (J0 (Ja (pv 0)) (J0 (Ja (pv 0)) J3))) rfl)
   (J4 (J1o (pv 0) (pcb (J1z rfl) T.sum (Ja (pv 0))) rfl)))))))),?_⟩
  refine⟨_,rfl,p,ls,os,rfl,e,g,?_⟩;refine⟨_,rfl,_,rfl,p,_,rfl,e.sq,q,os,ls.length,(by rw[J2i];rfl),U,g.perm,B,fun H1 L=>?_⟩;refine⟨_,rfl,_,rfl,p,_,rfl,(e.same L).sq,tv,ls.length,ts,(by rw[J2i];rfl),g1,B,ht.same L,fun pt H2 s2 W=>?_⟩;have j:=L.trans s2;refine⟨_,rfl,x,C,b,[],rfl,j _ _ z,a.cl,a.nT,by decide,?_⟩;obtain⟨H3,e3,I,_,t1⟩:=(Sx.nil z).put j W "turned";rw[e3];refine⟨_,rfl,J1w (I.kp.sqH e m) fun pl H4 s4 Z=>⟨_,rfl,x,C,b,_,rfl,s4 _ _ I.at_,a.cl,a.nL,I.few,?_⟩⟩;obtain⟨H5,e5,G,k5,c⟩:=I.put s4 Z "lengths";rw[e5];refine⟨_,rfl,J1w (G.kp.sqH U M) fun po H6 s6 Y=>⟨_,rfl,x,C,b,_,rfl,s6 _ _ G.at_,a.cl,a.nO,G.few,?_⟩⟩;obtain⟨H7,e7,v,k7,t3⟩:=G.put s6 Y "order";rw[e7];refine⟨_,rfl,x,C,b,_,_,rfl,v.at_,a.cl,a.nL,show _=some (V.ref pl) by kernel_rfl,_,rfl,p,_,rfl,(v.kp.sqH e m).sq,_,rfl,fun r S=>⟨r,_,rfl,J7,(by rw[J2i];lia),fun l hl=>?_⟩⟩;have c:=c.kp k7;have J:=(J8 (o:=.rng 0 ((iV ls).length:Nat)) S).trans (J8 (o:=.lst (((List.range (iV ls).length).map fun(i:Nat)=>(i:Int)).map V.int)) hl);refine⟨pl,l,ls,List.range ls.length,rfl,J _ _ c.at_,.inl (by rw[J7,J2i];rfl),fun o ho=>mem_range.mp ho,B,fun ps H9 s9 X=>?_⟩;refine⟨_,rfl,x,C,b,_,rfl,(J.trans s9) _ _ v.at_,a.cl,a.nS,v.few,?_⟩;obtain⟨Ha,ea,u,y,t4⟩:=v.put (J.trans s9) X "starts";rw[ea];refine⟨_,rfl,x,C,b,_,_,rfl,u.at_,a.cl,a.nL,show _=some (V.ref pl) by kernel_rfl,_,rfl,x,C,b,_,_,rfl,u.at_,a.cl,a.nO,show _=some (V.ref po) by kernel_rfl,pl,po,ls,os,rfl,(c.kp y).at_,.inr (t3.kp y).at_,g.olt,B,fun pd Hb sb aa=>?_⟩;refine⟨_,rfl,x,C,b,_,rfl,sb _ _ u.at_,a.cl,a.nD,u.few,?_⟩;obtain⟨Hc,ec,D,R,t5⟩:=u.put sb aa "laid";rw[ec];refine⟨_,rfl,x,C,b,_,_,rfl,D.at_,a.cl,a.nL,show _=some (V.ref pl) by kernel_rfl,pl,ls,rfl,.inr (SqT.of ((c.kp y).kp R).at_),_,rfl,x,C,b,_,rfl,D.at_,a.cl,a.nZ,D.few,?_⟩;obtain⟨Hz,ez,Sz,N⟩:=D.set (Same.refl _) "size" (.int ls.sum);rw[ez];have O:=(y.trans R).trans N;exact k _ ⟨b,_,pl,po,pt,ps,pd,Sz.at_,⟨by kernel_rfl,by kernel_rfl,by kernel_rfl,by kernel_rfl,by kernel_rfl,by kernel_rfl⟩,(c.kp O).at_,(t3.kp O).at_,(((t1.kp k5).kp k7).kp O).at_,(t4.kp (R.trans N)).at_,(t5.kp N).at_⟩ Sz.kp
end
theorem Good.ord{os:List Nat}(g:Good ls os):Ord ls os:=⟨g.pos,g.perm⟩
theorem Good.pos_sum{os:List Nat}(g:Good ls os):0<ls.sum:=by
 have b:Jq ls (List.range ls.length) 0<Jq ls (List.range ls.length) 1:=g.ord.range.step (i:=0) g.lo;have a:=g.ord.range.mono (i:=1) (k:=ls.length) g.lo (Nat.le_refl _);rw[g.ord.range.whole] at a;rw[J33] at b;lia
section
variable [En]
inductive J89(K:Frag)(vs:List V)(H:Hp)(Q:VK)(E:XK):Prop
 | mk(C x q b pl:Addr)(fs:List (Str×V))(ls:List Int)(row:List Nat)(_:vs=[.ref x,.ref q])(_:H x=some (.ins C b fs))(_:Cls K C)(_:J18 K C "lengths")(_:fs.lookup ("lengths":Str)=some (.ref pl))(_:H pl=some (.tup (iV ls)))(_:H q=some (.tup (nV row)))(_:(∀j∈row,j<ls.length))(_:row.length<=24)(_:∀a,Same H a->Q (.int (J2 ls row)) a)
theorem Jqz:FS1 ["rest","letters"] J7i:=fsc
theorem Jny(F : Fn1 J7i)(T : TxtR mg):
    Ca1 1 J7i (J89 K):= by
  refine F.ok Jqz (fun f d A o s H vs Q E v h => ?_);obtain⟨C, x, q, r, pl, fs, ls, row, rfl, l, p, n, i, b, g, c, w, k⟩ := h;refine⟨_, J4 (Jf (pcb (J1z rfl) T.sum (Jb1 (caps := ["rest"]) (js := [0]) rfl (J7b (pv 1)) rfl (fun _ _ _ _ => J3s)
    (fun C y s H => J6f (J5x K) (J7c K (pv 1)) (pv 0))
   ))), ?_⟩
  refine⟨_, rfl, q, rfl, ⟨_, SqT.of g⟩, fun d hd => Jpv (fun(j : Nat) => V.int (j : Int)) row (fun _ => true) (fun j => V.int (ls.getD j 0)) (by rw[<- J5k]; exact SqT.of g) (by lia) hd
    (fun _ _ H _ _ k => k H (Same.refl _)) (fun j m B z _ e k => ?_) (fun u s' a => ?_)⟩
  · exact⟨_, rfl, x, C, r, fs, _, rfl, e _ _ l, p, n, i, _, rfl, pl, _, _, _, rfl, rfl, SqT.of (e _ _ b), Je (J1d (c j m)), k _ (Same.refl _)⟩
  · rw[J41] at a
    refine⟨d, row.map fun j => ls.getD j 0, rfl, .inl (SqL.of ?_), k u s'⟩;rw[a, map_map]; rfl
structure J1h(CR:Addr)(H:Hp)(x:Addr)(r:Rst):Prop where
 ex:∃(dx:Addr) (fs:List (Str×V)) (pt pb pl pu:Addr),H x=some (.ins CR dx fs)/\(fs.lookup ("top":Str)=some (.ref pt)/\fs.lookup ("bottom":Str)=some (.ref pb)/\fs.lookup ("lengths":Str)=some (.ref pl)/\
  fs.lookup ("turned":Str)=some (.ref pu)/\fs.lookup ("size":Str)=some (.int r.size))/\H pt=some (.tup (nV r.top))/\H pb=some (.tup (nV r.bot))/\H pl=some (.tup (iV r.ls))/\H pu=some (.tup (bV r.ts))
theorem J1h.kp{CR:Addr}(h:J1h CR H x r)(s:Kp H H'):J1h CR H' x r:=by
 obtain⟨j,fs,pt,c,pl,b,i,a,g,f,e,d⟩:=h.ex;exact⟨j,fs,pt,c,pl,b,s _ _ i (by simp[okO,a.2.2.1]),a,s _ _ g rfl,s _ _ f rfl,s _ _ e rfl,s _ _ d rfl⟩
theorem J1h.same{CR:Addr}(h:J1h CR H x r)(s:Same H H'):J1h CR H' x r:=h.kp (Kp.of s)
structure J1a(K:Frag)(CR:Addr):Prop where
 cl:Cls K CR
 nT:J18 K CR "top"
 nB:J18 K CR "bottom"
 nL:J18 K CR "lengths"
 nU:J18 K CR "turned"
 nZ:J18 K CR "size"
theorem J1h.fields{K:Frag}{CR:Addr}(a:J1a K CR)(h:J1h CR H x r):Jgq K H x r.ls r.ts:=by
 obtain⟨g,fs,pt,i,pl,b,f,⟨k1,k2,k3,c,k5⟩,l,j,e,d⟩:=h.ex;exact⟨CR,g,fs,pl,b,f,a.cl,a.nL,a.nU,k3,c,e,d⟩
inductive J49(CR:Addr)(vs:List V)(H:Hp)(Q:VK)(E:XK):Prop
 | mk(x f e d c b:Addr)(r:Rst)(_:vs=[.ref x,.ref e,.ref d,.ref c,.ref b])(_:H x=some (.ins CR f []))(_:SqH H e (nV r.top))(_:SqH H d (nV r.bot))(_:SqH H c (iV r.ls))(_:SqH H b (bV r.ts))(_:(∀j∈r.top,j<r.ls.length))(_:r.top.length<=24)(_:∀a,J1h CR a x r->J23 x H a->Q .non a)
theorem Jqq:Jr ["self","top","bottom","lengths","turned"] ["self","top","bottom","lengths","turned"] (Jd (Jc (top 23) 0)):=fsc
theorem Jno{CR:Addr}(F:Fun K "__init__" "Rest.__init__" (Jc (top 23) 0) f fd)(T:TxtR mg)(a:J1a K CR)(cL:Ca1 1 J7i (J89 K)):
  FnOk P w K mg base CX0 2 f fd ["self","top","bottom","lengths","turned"] (J49 CR):=by
 refine F.ok1 Jqq (fun d A o s H vs Q E hr h=>?_);obtain⟨x,b,p1,p2,p3,p4,r,rfl,c,N,M,L,J,z,hn,k⟩:=h;have n1:=N.ne c;have n2:=M.ne c;have Z:=L.ne c;have Y:=J.ne c;refine⟨_,J1 (J1o (pv 0) (pct J1s T.tuple (pv 1)) rfl)
  (J1 (J1o (pv 0) (pct J1s T.tuple (pv 2)) rfl)
  (J1 (J1o (pv 0) (pct J1s T.tuple (pv 3)) rfl)
  (J1 (J1o (pv 0) (pct J1s T.tuple (pv 4)) rfl)
  (J4 (J1o (pv 0) (pcl cL hr Jj (J0 (pv 0) (J0 (Ja (pv 0)) J3))) rfl))))),?_⟩
 refine⟨_,rfl,J1w N fun pt H1 I u=>⟨_,rfl,x,CR,b,[],rfl,I _ _ c,a.cl,a.nT,by decide,?_⟩⟩;obtain⟨H2,e2,n,_,i⟩:=(Sx.nil c).put I u "top";rw[e2];refine⟨_,rfl,J1w (n.kp.sqH M n2) fun X H3 G y=>⟨_,rfl,x,CR,b,_,rfl,G _ _ n.at_,a.cl,a.nB,n.few,?_⟩⟩;obtain⟨H4,e4,m,k4,U⟩:=n.put G y "bottom";rw[e4];refine⟨_,rfl,J1w (m.kp.sqH L Z) fun pl H5 D v=>⟨_,rfl,x,CR,b,_,rfl,D _ _ m.at_,a.cl,a.nL,m.few,?_⟩⟩;obtain⟨H6,e6,l,O,g⟩:=m.put D v "lengths";rw[e6];refine⟨_,rfl,J1w (l.kp.sqH J Y) fun W H7 C q=>⟨_,rfl,x,CR,b,_,rfl,C _ _ l.at_,a.cl,a.nU,l.few,?_⟩⟩;obtain⟨H8,e8,e,p,S⟩:=l.put C q "turned";rw[e8];have g:=g.kp p;have i:=((i.kp k4).kp O).kp p;refine⟨_,rfl,_,rfl,x,CR,b,_,_,rfl,e.at_,a.cl,a.nT,show _=some (V.ref pt) by kernel_rfl,CR,x,pt,b,pl,_,r.ls,r.top,rfl,e.at_,a.cl,a.nL,show _=some (V.ref pl) by kernel_rfl,g.at_,i.at_,z,hn,fun H9 B=>?_⟩;refine⟨_,rfl,x,CR,b,_,rfl,B _ _ e.at_,a.cl,a.nZ,e.few,?_⟩;obtain⟨Hz,ez,R,j⟩:=e.set B "size" (.int (J2 r.ls r.top));rw[ez];exact k _ ⟨b,_,pt,X,pl,W,R.at_,⟨by kernel_rfl,by kernel_rfl,by kernel_rfl,by kernel_rfl,by kernel_rfl⟩,(i.kp j).at_,(((U.kp O).kp p).kp j).at_,(g.kp j).at_,(S.kp j).at_⟩ R.kp
end
section
variable [En]
noncomputable abbrev J20(ls:List Int)(os:List Nat)(ts:List Bool):Rst:=⟨List.range ls.length,os,ls,ts⟩
inductive Jf3(C CR:Addr)(vs:List V)(H:Hp)(Q:VK)(E:XK):Prop
 | mk(x:Addr)(ls:List Int)(os:List Nat)(ts:List Bool)(_:vs=[.ref x])(_:J2k C H x ls os ts)(_:ls.length<=24)(_:∀p a,Same H a->J1h CR a p (J20 ls os ts)->Q (.ref p) a)
theorem Jmk:FS1 ["line"] J8z:=fsc
theorem Jjd{CR:Addr}(F:Fn1 J8z)(T:TxtR mg)(c:TxtC K mg C)(S:Mak CX0 2 "Rest" CR ["self","top","bottom","lengths","turned"] [] (J49 CR)):
  Ca1 4 J8z (Jf3 C CR):=by
 refine F.ok Jmk (fun f d A o s H vs Q E I h=>?_);obtain⟨x,ls,os,ts,rfl,L,J,k⟩:=h;obtain⟨p,n,pl,po,pt,ps,W,m,⟨k1,k2,k3,Y,k5,X⟩,G,P,O,e4,Z⟩:=L.ex;refine⟨_,J4 (Jf (pmk S I Jj (J0 (pct (J3d rfl) T.list (J3h J6t (by rfl) T.range PyProof.Rows.boot_range (J0 (pcb Ju T.len (Ja (pv 0))) J3)))
  (J0 (Ja (pv 0)) (J0 (Ja (pv 0)) (J0 (Ja (pv 0)) J3)))))),?_⟩
 refine⟨_,rfl,x,C,p,n,_,rfl,m,c.cl,c.nL,k1,pl,_,rfl,.inr (SqT.of G),_,rfl,fun r q=>⟨r,_,rfl,J7,(by rw[J2i];lia),fun l M=>?_⟩⟩;have a:Same H (upd (upd H r (.rng 0 ((iV ls).length:Nat))) l (.lst (((List.range (iV ls).length).map fun(i:Nat)=>(i:Int)).map V.int))):=(J8 q).trans (J8 M);have w:(upd (upd H r (.rng 0 ((iV ls).length:Nat))) l (.lst (((List.range (iV ls).length).map fun(i:Nat)=>(i:Int)).map V.int))) l=some (.lst (nV (List.range ls.length))):=by rw[J7,J2i];rfl
 generalize (upd (upd H r (.rng 0 ((iV ls).length:Nat))) l (.lst (((List.range (iV ls).length).map fun(i:Nat)=>(i:Int)).map V.int)))=H8 at *;refine⟨_,rfl,x,C,p,n,_,rfl,a _ _ m,c.cl,c.nO,k2,_,rfl,x,C,p,n,_,rfl,a _ _ m,c.cl,c.nL,k1,_,rfl,x,C,p,n,_,rfl,a _ _ m,c.cl,c.nT,k3,fun y B D z v=>?_⟩;have g:Same H8 (upd (upd H8 B (.own y)) y (.ins CR B [])):=(J8 z).trans (J8 (by rw[Jh (Ne.symm v)];exact D));refine⟨y,B,l,po,pl,pt,J20 ls os ts,rfl,J7,.inl (g _ _ w),.inr (g _ _ (a _ _ P)),.inr (g _ _ (a _ _ G)),.inr (g _ _ (a _ _ O)),fun j N=>mem_range.mp N,by rw[length_range];exact J,fun U R kp=>⟨rfl,k y U (fun b u e=>?_) R⟩⟩;exact kp b u (g _ _ (a _ _ e)) (Jb (a _ _ e) D)
end
section
variable [En]
inductive Jds(CR:Addr)(vs:List V)(H:Hp)(Q:VK)(E:XK):Prop
 | mk(x q:Addr)(r:Rst)(row:List Nat)(y:Int)(_:vs=[.ref x,.ref q,.int y])(_:J1h CR H x r)(_:H q=some (.tup (nV row)))(_:Row r.ls row)(_:(∀i,AtR r.ls row y i->Q (.int (row.getD i 0:Nat)) H))(_:0<=y/\y<J2 r.ls row)
theorem Jau:FS1 ["rest","row","y","end","letter"] Jab:=fsc
theorem Jnw{CR:Addr}(F:Fn1 Jab)(n:J1a K CR):
  Ca1 1 Jab (Jds CR):=by
 refine F.ok Jau (fun f d A o s H vs Q E M h=>?_);obtain⟨x,q,r,row,y,rfl,R,m,b,k,p⟩:=h;obtain⟨G,fs,pt,J,pl,I,C,⟨k1,k2,k3,L,k5⟩,P,O,D,N⟩:=R.ex;refine⟨_,J1 (J1b (Jl J9l (pv 2) J9 (Jp _)) (J4 J1q) Jo)
  (J1 (pst Jau 3 J9)
  (J1 (J30 PassesOwn.never rfl (J7b (pv 1)) (pgm Jau 4)
   (J1 (pst Jau 3 (Ji J13 (pv 3) (Jt Jm (Ja (pv 0)) (pv 4))))
   (J4 (J1b (Jl J9l (pv 2) (pv 3) (Jp _)) (J4 (Jf (pv 4))) Jo))))
  (J4 J1q))),?_⟩
 refine⟨_,rfl,_,_,rfl,rfl,_,rfl,iteD (by lia) ?_⟩;refine⟨_,rfl,q,rfl,⟨_,SqT.of m⟩,J8t (K:=K) (a:=q) (xs:=nV row)
  (fun i σ g=>∃v,σ=[some (.ref x),some (.ref q),some (.int y),some (.int (Jq r.ls row i)),v]/\g=H/\Jq r.ls row i<=y) ⟨none,rfl,rfl,by rw[J33];lia⟩ (fun i σ g _ B=>by obtain⟨_,_,e,_⟩:=B;exact e▸SqT.of m) ?_ ?_⟩
 ·rintro i z σ g u ⟨v,rfl,rfl,hi⟩;obtain⟨j,rfl,w⟩:=Jpq u;refine⟨_,rfl,_,rfl,x,CR,G,fs,_,rfl,C,n.cl,n.nL,k3,_,rfl,pl,_,_,_,rfl,rfl,SqT.of D,Je (J1d (b.lt _ w)),_,_,rfl,rfl,?_⟩;refine⟨_,rfl,_,rfl,_,_,rfl,rfl,_,rfl,?_⟩;have l:=J16 r.ls row i;by_cases c:y<Jq r.ls row i+r.ls.getD (row.getD i 0) 0
  ·exact J2s c ⟨_,rfl,k i ⟨j,hi,by rw[l];exact c⟩⟩
  ·exact iteD c ⟨_,by rw[l];rfl,rfl,by rw[l];lia⟩
 ·rintro σ g ⟨v,rfl,rfl,hi⟩;rw[J7f,J5v] at hi;exact absurd p.2 (by lia)
inductive Jf9(CR:Addr)(vs:List V)(H:Hp)(Q:VK)(E:XK):Prop
 | mk(x:Addr)(r:Rst)(y:Int)(_:vs=[.ref x,.int y])(_:J1h CR H x r)(_:Row r.ls r.top)(_:(∀i,AtR r.ls r.top y i->Q (.int (r.top.getD i 0:Nat)) H))(_:0<=y/\y<r.size)
theorem Jmq:FS1 ["rest","y"] J97:=fsc
theorem Jjq{CR:Addr}(F:Fn1 J97)(b:J1a K CR)(l:Ca1 1 Jab (Jds CR)):
  Ca1 2 J97 (Jf9 CR):=by
 refine F.ok Jmq (fun f d A o s H vs Q E e h=>?_);obtain⟨x,r,y,rfl,R,a,k,c⟩:=h;obtain⟨j,fs,pt,n,pl,m,g,⟨k1,k2,k3,p,k5⟩,i,v,u,q⟩:=R.ex;refine⟨_,J4 (Jf (pcl l e Jj (J0 (pv 0) (J0 (Ja (pv 0)) (J0 (pv 1) J3))))),?_⟩;exact⟨_,rfl,_,rfl,x,CR,j,fs,_,rfl,g,b.cl,b.nT,k1,_,rfl,x,pt,r,r.top,y,rfl,R,i,a,k,c⟩
inductive Jpi(CR:Addr)(vs:List V)(H:Hp)(Q:VK)(E:XK):Prop
 | mk(x d c:Addr)(r:Rst)(a b:List Nat)(y:Int)(_:vs=[.ref x,.int y,.ref d,.ref c])(_:J1h CR H x r)(_:H d=some (.tup (nV a)))(_:H c=some (.tup (nV b)))(_:Row r.ls a)(_:Row r.ls b)(_:r.ts.length=r.ls.length)(_:r.ls.length<=24)(_:(∀i e,Same H e->AtR r.ls a y i->Q (.int (J4f r.ls r.ts (a.getD i 0) (y-Jq r.ls a i) (firsts r.ls b))) e))(_:0<=y/\y<J2 r.ls a)
theorem Jis:FS1 ["rest","y","from_row","to_row","letter","offset"] Jl6:=fsc
theorem Jrs{CR:Addr}(F:Fn1 Jl6)(c:J1a K CR)(N:Ca1 1 Jab (Jds CR))(C:Ca1 1 Jae Jdw)(M:Ca1 1 Jaa (Jan K)):
  Ca1 2 Jl6 (Jpi CR):=by
 refine F.ok Jis (fun f d A o s H vs Q E g h=>?_);obtain⟨x,u,G,r,j,q,y,rfl,R,b,m,e,D,hts,few,k,J⟩:=h;obtain⟨B,fs,pt,S,pl,P,w,⟨k1,k2,k3,T,k5⟩,X,W,z,U⟩:=R.ex;refine⟨_,J1 (pst Jis 4 (pcl N g Jj (J0 (pv 0) (J0 (pv 2) (J0 (pv 1) J3)))))
  (J1 (pst Jis 5 (Ji J1i (pv 1) (Jt Jm (pcl C g Jj (J0 (Ja (pv 0)) (J0 (pv 2) J3))) (pv 4))))
  (J4 (Jf (pcl M g Jj (J0 (pv 0) (J0 (pv 4) (J0 (pv 5) (J0 (pcl C g Jj (J0 (Ja (pv 0)) (J0 (pv 3) J3))) J3)))))))),?_⟩
 refine⟨_,rfl,_,rfl,_,rfl,x,u,r,j,y,rfl,R,b,e,fun i hi=>?_,J⟩;have v:=e.lt _ (J28 hi.1);refine⟨_,rfl,_,rfl,x,CR,B,fs,_,rfl,w,c.cl,c.nL,k3,_,rfl,pl,u,r.ls,j,rfl,z,.inr b,e.lt,few,fun l Y a L=>?_⟩;refine⟨_,rfl,l,_,_,_,rfl,rfl,SqT.of L,Je (J1d (by rw[J32];exact v)),_,_,rfl,rfl,?_⟩;refine⟨_,rfl,_,rfl,_,rfl,_,rfl,x,CR,B,fs,_,rfl,a _ _ w,c.cl,c.nL,k3,_,rfl,pl,G,r.ls,q,rfl,a _ _ z,.inr (a _ _ m),D.lt,few,fun I O p n=>?_⟩;refine⟨x,I,r.ls,r.ts,firsts r.ls q,j.getD i 0,_,rfl,((R.same a).same p).fields c,n,J32 _ _,hts,v,?_⟩;rw[e.first hi.1];exact k i O (a.trans p) hi
end
section
variable [En]
inductive Jf4(CR:Addr)(vs:List V)(H:Hp)(Q:VK)(E:XK):Prop
 | mk(x:Addr)(r:Rst)(y:Int)(_:vs=[.ref x,.int y])(_:J1h CR H x r)(_:r.Ok)(_:(∀z a,Same H a->J36 r z y->Q (.int z) a))(_:0<=y/\y<r.size)
theorem Jml:FS1 ["rest","y"] J91:=fsc
theorem Jje{CR:Addr}(F:Fn1 J91)(a:J1a K CR)(n:Ca1 2 Jl6 (Jpi CR)):
  Ca1 3 J91 (Jf4 CR):=by
 refine F.ok Jml (fun f d A o s H vs Q E j h=>?_);obtain⟨x,r,y,rfl,R,ok,k,g⟩:=h;obtain⟨c,fs,pt,e,pl,q,b,⟨k1,k2,k3,u,k5⟩,m,l,w,v⟩:=R.ex;refine⟨_,J4 (Jf (pcl n j Jj (J0 (pv 0) (J0 (pv 1) (J0 (Ja (pv 0)) (J0 (Ja (pv 0)) J3)))))),?_⟩;refine⟨_,rfl,_,rfl,_,rfl,x,CR,c,fs,_,rfl,b,a.cl,a.nB,k2,_,rfl,x,CR,c,fs,_,rfl,b,a.cl,a.nT,k1,x,e,pt,r,r.bot,r.top,y,rfl,R,l,m,ok.rowB,ok.row,ok.len,ok.few,fun i p s' hi=>k _ p s' (Jov ok hi),by rw[ok.sizeB];exact g⟩
end
section
variable [En]
inductive Kd where
 | ho|ev|ov|un|os|us
 deriving DecidableEq
noncomputable def kd:Stp->Kd
 | .home _=>.ho|.even _ _=>.ev|.over _ _=>.ov|.under _ _=>.un|.overs _ _=>.os|.unders _ _=>.us
noncomputable def Jof:Stp->V
 | .even _ b=>.int (b:Nat)|.over _ b=>.int (b:Nat)|.under _ b=>.int (b:Nat)|_=>.non
noncomputable def stF(s:Stp):List (Str×V):=putF ("times":Str) (.int s.times) (putF ("loser":Str) (Jof s) (putF ("winner":Str) (.int (s.winner:Nat)) []))
theorem J34(s:Stp):(stF s).lookup ("winner":Str)=some (.int (s.winner:Nat)):=by rfl
theorem Jal(s:Stp):(stF s).lookup ("loser":Str)=some (Jof s):=by rfl
theorem Jm7(s:Stp):(stF s).lookup ("times":Str)=some (.int s.times):=by rfl
theorem J86(s:Stp)(c:¬ m=("times":Str))(b:¬ m=("loser":Str))(a:¬ m=("winner":Str)):(stF s).lookup m=none:=by
 unfold stF;rw[Jbb c,Jbb b,Jbb a];rfl
noncomputable def J3r(cs:Kd->Addr)(H:Hp)(p:Addr)(s:Stp):Prop:=∃a,H p=some (.ins (cs (kd s)) a (stF s))
theorem J3r.kp(h:J3r cs H p s)(e:Kp H H'):J3r cs H' p s:=by obtain⟨a,q⟩:=h;exact⟨a,e _ _ q (by rfl)⟩
structure TxtS(K:Frag)(cs:Kd->Addr):Prop where
 cl:∀k,Cls K (cs k)
 nW:∀k,J18 K (cs k) "winner"
 nL:∀k,J18 K (cs k) "loser"
 nT:∀k,J18 K (cs k) "times"
inductive J4q(cs:Kd->Addr)(vs:List V)(H:Hp)(Q:VK)(E:XK):Prop
 | mk(x d:Addr)(k:Kd)(a b c:V)(_:vs=[.ref x,a,b,c])(_:H x=some (.ins (cs k) d []))(_:Q .non (upd H x (.ins (cs k) d (putF ("times":Str) c (putF ("loser":Str) b (putF ("winner":Str) a []))))))
theorem Jqp:Jr ["self","winner","loser","times"] ["self","winner","loser","times"] (Jd (Jc (top 37) 0)):=fsc
theorem Jnl{f:Addr}{fd:FuncData}{cs:Kd->Addr}(F:Fun K "__init__" "Step.__init__" (Jc (top 37) 0) f fd)(TS:TxtS K cs):
  FnOk P w K mg base CX0 1 f fd ["self","winner","loser","times"] (J4q cs):=by
 refine F.ok1 Jqp (fun d A o s H vs Q E j h=>?_);obtain⟨x,e,k,a,b,c,rfl,g,q⟩:=h;refine⟨_,J1 (J1o (pv 0) (pv 1) rfl) (J1 (J1o (pv 0) (pv 2) rfl) (J4 (J1o (pv 0) (pv 3) rfl))),?_⟩;have l1:(putF ("winner":Str) a []).length<=1:=J1x ..;have i:(putF ("loser":Str) b (putF ("winner":Str) a [])).length<=2:=by have:=J1x ("loser":Str) b (putF ("winner":Str) a []);lia
 refine⟨_,rfl,_,rfl,x,cs k,e,[],rfl,g,TS.cl k,TS.nW k,(by show 0<1000;decide),?_⟩;refine⟨_,rfl,_,rfl,x,cs k,e,_,rfl,J7,TS.cl k,TS.nL k,(by lia),?_⟩;rw[Jdi];refine⟨_,rfl,_,rfl,x,cs k,e,_,rfl,J7,TS.cl k,TS.nT k,(by lia),?_⟩;rw[Jdi];exact q
inductive spMk(cs:Kd->Addr)(args:List V->Stp->Prop)(vs:List V)(H:Hp)(Q:VK)(E:XK):Prop
 | mk(x a:Addr)(us:List V)(s:Stp)(_:vs=.ref x::us)(_:args us s)(_:H x=some (.ins (cs (kd s)) a []))(_:Q .non (upd H x (.ins (cs (kd s)) a (stF s))))
noncomputable def aHo(us:List V)(s:Stp):Prop:=∃a:Nat,us=[.int (a:Nat)]/\s=.home a
noncomputable def aEv(us:List V)(s:Stp):Prop:=∃a b:Nat,us=[.int (a:Nat),.int (b:Nat)]/\s=.even a b
noncomputable def aOv(us:List V)(s:Stp):Prop:=∃a b:Nat,us=[.int (a:Nat),.int (b:Nat)]/\s=.over a b
noncomputable def aUn(us:List V)(s:Stp):Prop:=∃a b:Nat,us=[.int (a:Nat),.int (b:Nat)]/\s=.under a b
noncomputable def aOs(us:List V)(s:Stp):Prop:=∃(a:Nat) (t:Int),us=[.int (a:Nat),.int t]/\s=.overs a t
noncomputable def aUs(us:List V)(s:Stp):Prop:=∃(a:Nat) (t:Int),us=[.int (a:Nat),.int t]/\s=.unders a t
theorem Jmt:Jr ["self","winner"] ["self","winner"] (Jd (Jc (top 38) 0)):=fsc
theorem Jjs(F:Fun K "__init__" "Home.__init__" (Jc (top 38) 0) f fd)(g:Bas CX0 1 "Step" "__init__" ["self","winner","loser","times"] (J4q cs)):
  FnOk P w K mg base CX0 2 f fd ["self","winner"] (spMk cs aHo):=by
 refine F.ok1 Jmt (fun d A o s H vs Q E e h=>?_) (len:=by rintro _ _ _ _ ⟨x,b,us,s,rfl,⟨a,rfl,rfl⟩,_⟩;rfl);obtain⟨x,b,us,s,rfl,⟨a,rfl,rfl⟩,c,q⟩:=h;refine⟨_,J4 (J1f (pbs g e Jj (J0 (pv 0) (J0 (pv 1) (J0 J6e (J0 J9 J3)))))),?_⟩;exact⟨_,rfl,_,rfl,x,b,.ho,_,_,_,rfl,c,q⟩
theorem Jmx:Jr ["self","winner","loser"] ["self","winner","loser"] (Jd (Jc (top 39) 0)):=fsc
theorem Jjw(F:Fun K "__init__" "Even.__init__" (Jc (top 39) 0) f fd)(i:Bas CX0 1 "Step" "__init__" ["self","winner","loser","times"] (J4q cs)):
  FnOk P w K mg base CX0 2 f fd ["self","winner","loser"] (spMk cs aEv):=by
 refine F.ok1 Jmx (fun d A o s H vs Q E g h=>?_) (len:=by rintro _ _ _ _ ⟨x,c,us,s,rfl,⟨a,b,rfl,rfl⟩,_⟩;rfl);obtain⟨x,c,us,s,rfl,⟨a,b,rfl,rfl⟩,e,q⟩:=h;refine⟨_,J4 (J1f (pbs i g Jj (J0 (pv 0) (J0 (pv 1) (J0 (pv 2) (J0 J9 J3)))))),?_⟩;exact⟨_,rfl,_,rfl,_,rfl,x,c,.ev,_,_,_,rfl,e,q⟩
theorem Jmn:Jr ["self","winner","loser"] ["self","winner","loser"] (Jd (Jc (top 40) 0)):=fsc
theorem Jjh(F:Fun K "__init__" "Over.__init__" (Jc (top 40) 0) f fd)(i:Bas CX0 1 "Step" "__init__" ["self","winner","loser","times"] (J4q cs)):
  FnOk P w K mg base CX0 2 f fd ["self","winner","loser"] (spMk cs aOv):=by
 refine F.ok1 Jmn (fun d A o s H vs Q E g h=>?_) (len:=by rintro _ _ _ _ ⟨x,c,us,s,rfl,⟨a,b,rfl,rfl⟩,_⟩;rfl);obtain⟨x,c,us,s,rfl,⟨a,b,rfl,rfl⟩,e,q⟩:=h;refine⟨_,J4 (J1f (pbs i g Jj (J0 (pv 0) (J0 (pv 1) (J0 (pv 2) (J0 J9 J3)))))),?_⟩;exact⟨_,rfl,_,rfl,_,rfl,x,c,.ov,_,_,_,rfl,e,q⟩
theorem Jmh:Jr ["self","winner","loser"] ["self","winner","loser"] (Jd (Jc (top 41) 0)):=fsc
theorem Jj8(F:Fun K "__init__" "Under.__init__" (Jc (top 41) 0) f fd)(i:Bas CX0 1 "Step" "__init__" ["self","winner","loser","times"] (J4q cs)):
  FnOk P w K mg base CX0 2 f fd ["self","winner","loser"] (spMk cs aUn):=by
 refine F.ok1 Jmh (fun d A o s H vs Q E g h=>?_) (len:=by rintro _ _ _ _ ⟨x,c,us,s,rfl,⟨a,b,rfl,rfl⟩,_⟩;rfl);obtain⟨x,c,us,s,rfl,⟨a,b,rfl,rfl⟩,e,q⟩:=h;refine⟨_,J4 (J1f (pbs i g Jj (J0 (pv 0) (J0 (pv 1) (J0 (pv 2) (J0 J9 J3)))))),?_⟩;exact⟨_,rfl,_,rfl,_,rfl,x,c,.un,_,_,_,rfl,e,q⟩
theorem Jmp:Jr ["self","winner","times"] ["self","winner","times"] (Jd (Jc (top 42) 0)):=fsc
theorem Jjl(F:Fun K "__init__" "Overs.__init__" (Jc (top 42) 0) f fd)(i:Bas CX0 1 "Step" "__init__" ["self","winner","loser","times"] (J4q cs)):
  FnOk P w K mg base CX0 2 f fd ["self","winner","times"] (spMk cs aOs):=by
 refine F.ok1 Jmp (fun d A o s H vs Q E g h=>?_) (len:=by rintro _ _ _ _ ⟨x,c,us,s,rfl,⟨a,b,rfl,rfl⟩,_⟩;rfl);obtain⟨x,c,us,s,rfl,⟨a,b,rfl,rfl⟩,e,q⟩:=h;refine⟨_,J4 (J1f (pbs i g Jj (J0 (pv 0) (J0 (pv 1) (J0 J6e (J0 (pv 2) J3)))))),?_⟩;exact⟨_,rfl,_,rfl,_,rfl,x,c,.os,_,_,_,rfl,e,q⟩
theorem Jmf:Jr ["self","winner","times"] ["self","winner","times"] (Jd (Jc (top 43) 0)):=fsc
theorem Jj6(F:Fun K "__init__" "Unders.__init__" (Jc (top 43) 0) f fd)(i:Bas CX0 1 "Step" "__init__" ["self","winner","loser","times"] (J4q cs)):
  FnOk P w K mg base CX0 2 f fd ["self","winner","times"] (spMk cs aUs):=by
 refine F.ok1 Jmf (fun d A o s H vs Q E g h=>?_) (len:=by rintro _ _ _ _ ⟨x,c,us,s,rfl,⟨a,b,rfl,rfl⟩,_⟩;rfl);obtain⟨x,c,us,s,rfl,⟨a,b,rfl,rfl⟩,e,q⟩:=h;refine⟨_,J4 (J1f (pbs i g Jj (J0 (pv 0) (J0 (pv 1) (J0 J6e (J0 (pv 2) J3)))))),?_⟩;exact⟨_,rfl,_,rfl,_,rfl,x,c,.us,_,_,_,rfl,e,q⟩
noncomputable def Jlz:Kd->Str
 | .ho=>"home" | .ev=>"even" | .ov=>"over" | .un=>"under" | .os=>"overs" | .us=>"unders"
noncomputable def ownB:Kd->Bool
 | .ev=>true|.ov=>true|.os=>true|_=>false
inductive J4p(k:Kd)(vs:List V)(H:Hp)(Q:VK)(E:XK):Prop
 | mk(x:Addr)(_:vs=[.ref x])(_:Q (.str (Jlz k)) H)
inductive Jdq(k:Kd)(vs:List V)(H:Hp)(Q:VK)(E:XK):Prop
 | mk(x:Addr)(_:vs=[.ref x])(_:Q (.bl (ownB k)) H)
theorem Jms:Jr ["self"] ["self"] (Jd (Jc (top 38) 1)):=fsc
theorem Jjr(F:Fun K "word" "Home.word" (Jc (top 38) 1) f fd):
  FnOk P w K mg base CX0 1 f fd ["self"] (J4p .ho):=by
 refine F.ok1 Jms (fun d A o s H vs Q E a h=>?_);obtain⟨x,rfl,q⟩:=h;exact⟨_,J4 (Jf J35),q⟩
theorem Jmw:Jr ["self"] ["self"] (Jd (Jc (top 39) 1)):=fsc
theorem Jjv(F:Fun K "word" "Even.word" (Jc (top 39) 1) f fd):
  FnOk P w K mg base CX0 1 f fd ["self"] (J4p .ev):=by
 refine F.ok1 Jmw (fun d A o s H vs Q E a h=>?_);obtain⟨x,rfl,q⟩:=h;exact⟨_,J4 (Jf J35),q⟩
theorem Jmm:Jr ["self"] ["self"] (Jd (Jc (top 40) 1)):=fsc
theorem Jjg(F:Fun K "word" "Over.word" (Jc (top 40) 1) f fd):
  FnOk P w K mg base CX0 1 f fd ["self"] (J4p .ov):=by
 refine F.ok1 Jmm (fun d A o s H vs Q E a h=>?_);obtain⟨x,rfl,q⟩:=h;exact⟨_,J4 (Jf J35),q⟩
theorem Jmg:Jr ["self"] ["self"] (Jd (Jc (top 41) 1)):=fsc
theorem Jj7(F:Fun K "word" "Under.word" (Jc (top 41) 1) f fd):
  FnOk P w K mg base CX0 1 f fd ["self"] (J4p .un):=by
 refine F.ok1 Jmg (fun d A o s H vs Q E a h=>?_);obtain⟨x,rfl,q⟩:=h;exact⟨_,J4 (Jf J35),q⟩
theorem Jmo:Jr ["self"] ["self"] (Jd (Jc (top 42) 1)):=fsc
theorem Jjk(F:Fun K "word" "Overs.word" (Jc (top 42) 1) f fd):
  FnOk P w K mg base CX0 1 f fd ["self"] (J4p .os):=by
 refine F.ok1 Jmo (fun d A o s H vs Q E a h=>?_);obtain⟨x,rfl,q⟩:=h;exact⟨_,J4 (Jf J35),q⟩
theorem Jme:Jr ["self"] ["self"] (Jd (Jc (top 43) 1)):=fsc
theorem Jj5(F:Fun K "word" "Unders.word" (Jc (top 43) 1) f fd):
  FnOk P w K mg base CX0 1 f fd ["self"] (J4p .us):=by
 refine F.ok1 Jme (fun d A o s H vs Q E a h=>?_);obtain⟨x,rfl,q⟩:=h;exact⟨_,J4 (Jf J35),q⟩
theorem Jei(row:List Nat)(a:Nat):(natI row).idxOf (a:Int)=row.idxOf a:=by
 unfold natI
 induction row with
 | nil=>rfl
 | cons x r ih =>
  rw[map_cons,List.idxOf_cons,List.idxOf_cons,ih];have e:((x:Int)==(a:Int))=(x==a):=by
   rw[Bool.eq_iff_iff,beq_iff_eq,beq_iff_eq];exact Int.ofNat_inj
  rw[e]
theorem Jeg{row:List Nat}(h:a∈row):(a:Int)∈natI row:=mem_map.mpr ⟨a,h,rfl⟩
theorem Jek(row:List Nat)(n:Nat)(h:n<=row.length):cutV (nV row) (some (n:Int)) none=nV (row.drop n):=by
 unfold cutV;rw[J7f,HT.sIx_nat,HT.sIx_none,Nat.min_eq_left h,J5k,J5k,List.map_drop,List.take_of_length_le (by simp)]
inductive J68(vs:List V)(H:Hp)(Q:VK)(E:XK):Prop
 | mk(q:Addr)(row:List Nat)(a:Nat)(_:vs=[.ref q,.int (a:Nat)])(_:H q=some (.tup (nV row)))(_:a∈row)(_:∀p b,Same H b->b p=some (.tup (nV (J6 row a)))->Q (.ref p) b)
theorem Jit:FS1 ["row","letter"] J4j:=fsc
theorem Jha(F:Fn1 J4j):
  Ca1 1 J4j J68:=by
 refine F.ok Jit (fun f d A o s H vs Q E j h=>?_);obtain⟨q,row,a,rfl,b,c,k⟩:=h;refine⟨_,J4 (Jf (Jb0 sl_tup (pv 0) (Je0 (Ji J13 (pe_bmT PySem.F.slot_tuple_index PySem.F.type_tuple_index Jk6 (pv 0) (J0 (pv 1) J3)) J9)) Je1)),?_⟩;have i:=idxOf_lt_length_iff.mpr c;have e:(((natI row).idxOf (a:Int):Nat):Int)+1=((row.idxOf a+1:Nat):Int):=by rw[Jei];lia
 refine⟨_,rfl,_,rfl,⟨q,_,rfl,b⟩,_,rfl,q,natI row,(a:Int),rfl,rfl,b,Jeg c,_,_,rfl,rfl,_,rfl,q,nV row,rfl,SqT.of b,?_,fun p g=>k p _ (J8 g) ?_⟩
 ·rintro⟨z,_⟩;rw[e,HT.sIx_nat,J7f] at z;lia
 ·rw[J7];rw[e,Jek row _ i];rfl
inductive J2w(cs:Kd->Addr)(CR:Addr)(k:Kd)(vs:List V)(H:Hp)(Q:VK)(E:XK):Prop
 | mk(x y:Addr)(s:Stp)(r:Rst)(_:vs=[.ref x,.ref y])(_:kd s=k)(_:J3r cs H x s)(_:J1h CR H y r)(_:s.winner∈r.top)(_:s.winner∈r.bot)(_:∀p a,Same H a->a p=some (.tup (nV (s.losers r)))->Q (.ref p) a)
theorem Jgy:Jr ["self","rest"] ["self","rest"] (Jd (Jc (top 37) 2)):=fsc
theorem J5u{CR:Addr}(F:Fun K "losers" "Step.losers" (Jc (top 37) 2) f fd)(TS:TxtS K cs)(e:k=.ev\/k=.ov\/k=.un):
  FnOk P w K mg base CX0 2 f fd ["self","rest"] (J2w cs CR k):=by
 refine F.ok1 Jgy (fun d A o s H vs Q E m h=>?_);obtain⟨x,y,s,r,rfl,c,⟨l,g⟩,R,_,_,q⟩:=h;obtain⟨b,hb,j⟩:∃b:Nat,Jof s=.int (b:Nat)/\s.losers r=[b]:=by
  cases s with
  | even a b=>exact⟨b,rfl,rfl⟩
  | over a b=>exact⟨b,rfl,rfl⟩
  | under a b=>exact⟨b,rfl,rfl⟩
  | home a=>subst c;rcases e with q|q|q <;> cases q
  | overs a t=>subst c;rcases e with q|q|q <;> cases q
  | unders a t=>subst c;rcases e with q|q|q <;> cases q
 refine⟨_,J4 (Jf (J2g (J0 (Ja (pv 0)) J3))),?_⟩;refine⟨_,rfl,x,cs (kd s),l,stF s,_,rfl,g,TS.cl _,TS.nL _,Jal s,(by show 1<=sizeLine;decide),fun p i=>q p _ (J8 i) ?_⟩;rw[J7,hb,j];rfl
theorem Jh0:Jr ["self","rest"] ["self","rest"] (Jd (Jc (top 38) 2)):=fsc
theorem Jeb{CR:Addr}(F:Fun K "losers" "Home.losers" (Jc (top 38) 2) f fd):
  FnOk P w K mg base CX0 2 f fd ["self","rest"] (J2w cs CR .ho):=by
 refine F.ok1 Jh0 (fun d A o s H vs Q E g h=>?_);obtain⟨x,y,s,r,rfl,c,_,R,_,_,q⟩:=h
 cases s with
 | home a=>exact⟨_,J4 (Jf (J2g J3)),Nat.zero_le _,fun p e=>q p _ (J8 e) J7⟩
 | even a b=>cases c
 | over a b=>cases c
 | under a b=>cases c
 | overs a t=>cases c
 | unders a t=>cases c
theorem Jgz:Jr ["self","rest"] ["self","rest"] (Jd (Jc (top 42) 2)):=fsc
theorem Je9{CR:Addr}(F:Fun K "losers" "Overs.losers" (Jc (top 42) 2) f fd)(TS:TxtS K cs)(b:J1a K CR)(B:Ca1 1 J4j J68):
  FnOk P w K mg base CX0 2 f fd ["self","rest"] (J2w cs CR .os):=by
 refine F.ok1 Jgz (fun d A o s H vs Q E i h=>?_);obtain⟨x,y,s,r,rfl,g,⟨v,e⟩,R,I,m,q⟩:=h;obtain⟨z,fr,pt,c,pl,D,n,⟨k1,k2,k3,G,k5⟩,M,u,L,J⟩:=R.ex;have l:s.losers r=J6 r.bot s.winner:=by
  cases s with
  | overs a t=>rfl
  | _=>cases g
 refine⟨_,J4 (Jf (pcl B i Jj (J0 (Ja (pv 1)) (J0 (Ja (pv 0)) J3)))),?_⟩;refine⟨_,rfl,y,CR,z,fr,_,rfl,n,b.cl,b.nB,k2,_,rfl,x,cs (kd s),v,stF s,_,rfl,e,TS.cl _,TS.nW _,J34 s,c,r.bot,s.winner,rfl,u,m,fun p C s' j=>q p C s' ?_⟩;rw[l];exact j
theorem Jgw:Jr ["self","rest"] ["self","rest"] (Jd (Jc (top 43) 2)):=fsc
theorem Je5{CR:Addr}(F:Fun K "losers" "Unders.losers" (Jc (top 43) 2) f fd)(TS:TxtS K cs)(b:J1a K CR)(z:Ca1 1 J4j J68):
  FnOk P w K mg base CX0 2 f fd ["self","rest"] (J2w cs CR .us):=by
 refine F.ok1 Jgw (fun d A o s H vs Q E g h=>?_);obtain⟨x,y,s,r,rfl,e,⟨u,c⟩,R,l,I,q⟩:=h;obtain⟨v,fr,pt,D,pl,C,m,⟨k1,k2,k3,G,k5⟩,n,M,L,J⟩:=R.ex;have j:s.losers r=J6 r.top s.winner:=by
  cases s with
  | unders a t=>rfl
  | _=>cases e
 refine⟨_,J4 (Jf (pcl z g Jj (J0 (Ja (pv 1)) (J0 (Ja (pv 0)) J3)))),?_⟩;refine⟨_,rfl,y,CR,v,fr,_,rfl,m,b.cl,b.nT,k1,_,rfl,x,cs (kd s),u,stF s,_,rfl,c,TS.cl _,TS.nW _,J34 s,pt,r.top,s.winner,rfl,n,l,fun p B s' i=>q p B s' ?_⟩;rw[j];exact i
end
section
variable [En]
theorem Jqm:Jr ["self"] ["self"] (Jd (Jc (top 37) 3)):=fsc
theorem Jb5(F:Fun K "own_first" "Step.own_first" (Jc (top 37) 3) f fd)(a:ownB k=false):
  FnOk P w K mg base CX0 1 f fd ["self"] (Jdq k):=by
 refine F.ok1 Jqm (fun d A o s H vs Q E b h=>?_);obtain⟨x,rfl,q⟩:=h;rw[a] at q;exact⟨_,J4 (Jf J5i),q⟩
theorem Jr3:Jr ["self"] ["self"] (Jd (Jc (top 39) 2)):=fsc
theorem Jo4(F:Fun K "own_first" "Even.own_first" (Jc (top 39) 2) f fd):
  FnOk P w K mg base CX0 1 f fd ["self"] (Jdq .ev):=by
 refine F.ok1 Jr3 (fun d A o s H vs Q E a h=>?_);obtain⟨x,rfl,q⟩:=h;exact⟨_,J4 (Jf J5i),q⟩
theorem Jqs:Jr ["self"] ["self"] (Jd (Jc (top 40) 2)):=fsc
theorem Jnq(F:Fun K "own_first" "Over.own_first" (Jc (top 40) 2) f fd):
  FnOk P w K mg base CX0 1 f fd ["self"] (Jdq .ov):=by
 refine F.ok1 Jqs (fun d A o s H vs Q E a h=>?_);obtain⟨x,rfl,q⟩:=h;exact⟨_,J4 (Jf J5i),q⟩
theorem Jqu:Jr ["self"] ["self"] (Jd (Jc (top 42) 3)):=fsc
theorem Jnt(F:Fun K "own_first" "Overs.own_first" (Jc (top 42) 3) f fd):
  FnOk P w K mg base CX0 1 f fd ["self"] (Jdq .os):=by
 refine F.ok1 Jqu (fun d A o s H vs Q E a h=>?_);obtain⟨x,rfl,q⟩:=h;exact⟨_,J4 (Jf J5i),q⟩
end
section
variable [En]
theorem J5d(c:H1 x=none)(a:H1 dx=none):J3r cs (upd (upd (upd H1 dx (.own x)) x (.ins (cs (kd s)) dx [])) x (.ins (cs (kd s)) dx (stF s))) x s/\
  Same H1 (upd (upd (upd H1 dx (.own x)) x (.ins (cs (kd s)) dx [])) x (.ins (cs (kd s)) dx (stF s))):=by
 refine⟨⟨dx,J7⟩,fun b u e=>?_⟩;rw[Jh (Jb e c),Jh (Jb e c),Jh (Jb e a)];exact e
theorem Jpn(h:Row ls row)(a:ls.length<=24):row.length<=24:=Nat.le_trans h.len_le a
inductive Jdo(CR:Addr)(vs:List V)(H:Hp)(Q:VK)(E:XK):Prop
 | mk(y q:Addr)(r:Rst)(a:Nat)(row:List Nat)(_:vs=[.ref y,.int (a:Nat),.ref q])(_:J1h CR H y r)(_:r.Ok)(_:H q=some (.tup (nV row)))(_:a∈row)(_:a<r.ls.length)(_:(∀j∈row,j<r.ls.length))(_:row.length<=24)(_:1<=J2 r.ls (J6 row a))(_:J2 r.ls (J6 row a)<=10^30)(_:∀b,Same H b->Q (.int (J1n r a row)) b)
theorem Jqk:FS1 ["rest","winner","row"] Ja6:=fsc
theorem Jii(b:1<=s)(a:s<=10^30):Jsj 0 s:=by
 refine⟨by lia,?_⟩
 grind
theorem Jnj{CR:Addr}(F:Fn1 Ja6)(b:J1a K CR)(M:Ca1 1 J7i (J89 K))(N:Ca1 1 J4j J68):
  Ca1 2 Ja6 (Jdo CR):=by
 refine F.ok Jqk (fun f d A o s H vs Q E n h=>?_);obtain⟨y,q,r,a,row,rfl,R,ok,B,G,e,i,S,J,I,k⟩:=h;obtain⟨m,fr,pt,P,pl,w,l,⟨k1,k2,k3,z,k5⟩,U,T,u,L⟩:=R.ex;refine⟨_,J1 (J1b (J2x (Jt Jm (Ja (pv 0)) (pv 1))) (J4 (Jf J9)) Jo)
  (J4 (Jf (Ji J7t (Ji J1i (Jt Jm (Ja (pv 0)) (pv 1)) J9) (pcl M n Jj (J0 (pv 0) (J0 (pcl N n Jj (J0 (pv 2) (J0 (pv 1) J3))) J3)))))),?_⟩
 refine⟨_,rfl,y,CR,m,fr,_,rfl,l,b.cl,b.nU,z,_,rfl,w,_,_,_,rfl,rfl,SqT.of L,Je (J7k (by rw[ok.len];exact e)),_,rfl,?_⟩;unfold J1n at k;by_cases c:r.ts.getD a false=true
 ·refine J76 c ?_;have:=k H (Same.refl _);rw[if_pos c] at this;exact this
 ·refine J7n c ?_;refine⟨_,rfl,y,CR,m,fr,_,rfl,l,b.cl,b.nL,k3,_,rfl,pl,_,_,_,rfl,rfl,SqT.of u,Je (J1d e),_,_,rfl,rfl,_,rfl,_,rfl,_,rfl,q,row,a,rfl,B,G,fun p W g C=>?_⟩;refine⟨CR,y,p,m,pl,fr,r.ls,J6 row a,rfl,g _ _ l,b.cl,b.nL,k3,g _ _ u,C,fun j D=>i j (J19 D),?_,fun O v=>⟨_,_,rfl,rfl,Jii J I,?_⟩⟩
  ·unfold J6;rw[length_drop];lia
  ·have:=k O (g.trans v);rw[if_neg c] at this;exact this
inductive Jia(cs:Kd->Addr)(CR:Addr)(vs:List V)(H:Hp)(Q:VK)(E:XK):Prop
 | mk(y:Addr)(r:Rst)(a b:Nat)(_:vs=[.ref y,.int (a:Nat),.int (b:Nat)])(_:J1h CR H y r)(_:r.Ok)(_:a∈r.bot)(_:1<=J2 r.ls (J6 r.bot a))(_:J2 r.ls (J6 r.bot a)<=10^30)(_:∀p c,Same H c->J3r cs c p (if 0<J1n r a r.bot then .overs a (J1n r a r.bot) else .over a b)->Q (.ref p) c)
theorem Jip:FS1 ["rest","winner","loser","times"] Jcu:=fsc
theorem Jnr{CR:Addr}(F:Fn1 Jcu)(u:J1a K CR)(L:Ca1 2 Ja6 (Jdo CR))(S:Mk K (cs .os) fM)(U:FnOk P w K mg base CX0 2 fM fdM ["self","winner","times"] (spMk cs aOs))(N:J2z K fdM ["self","winner","times"] [])(B:mg "Overs"=some (.ref (cs .os)))(O:Mk K (cs .ov) fO)(T:FnOk P w K mg base CX0 2 fO fdO ["self","winner","loser"] (spMk cs aOv))(M:J2z K fdO ["self","winner","loser"] [])(z:mg "Over"=some (.ref (cs .ov))):
  Ca1 4 Jcu (Jia cs CR):=by
 refine F.ok Jip (fun f d A o s H vs Q E l h=>?_);obtain⟨y,r,a,b,rfl,R,ok,q,D,C,k⟩:=h;obtain⟨J,fr,pt,v,pl,W,G,⟨k1,k2,k3,X,k5⟩,e1,I,Z,Y⟩:=R.ex;have e:=ok.rowB;have few:=Jpn e ok.few;refine⟨_,J1 (pst Jip 3 (pcl L l Jj (J0 (pv 0) (J0 (pv 1) (J0 (Ja (pv 0)) J3)))))
  (J4 (Jf (J3a (Jl J73 (pv 3) J9 (Jp _)) (J5r S U l rfl B N .nil Jj (J0 (pv 1) (J0 (pv 3) J3))) (J5r O T l rfl z M .nil Jj (J0 (pv 1) (J0 (pv 2) J3)))))),?_⟩
 refine⟨_,rfl,_,rfl,_,rfl,y,CR,J,fr,_,rfl,G,u.cl,u.nB,k2,y,v,r,a,r.bot,rfl,R,ok,I,q,e.lt a q,e.lt,few,D,C,fun H1 p=>?_⟩;refine⟨_,rfl,_,_,rfl,rfl,_,rfl,?_⟩;by_cases c:0<J1n r a r.bot
 ·refine J2s c ⟨_,rfl,_,rfl,fun x n j g m=>?_⟩;obtain⟨st,i⟩:=J5d (cs:=cs) (s:=.overs a (J1n r a r.bot)) j g;refine⟨x,n,_,.overs a (J1n r a r.bot),rfl,⟨a,_,rfl,rfl⟩,J7,rfl,k x _ (p.trans i) ?_⟩;rw[if_pos c];exact st
 ·refine iteD c ⟨_,rfl,_,rfl,fun x n j g m=>?_⟩;obtain⟨st,i⟩:=J5d (cs:=cs) (s:=.over a b) j g;refine⟨x,n,_,.over a b,rfl,⟨a,b,rfl,rfl⟩,J7,rfl,k x _ (p.trans i) ?_⟩;rw[if_neg c];exact st
inductive Jf1(cs:Kd->Addr)(CR:Addr)(vs:List V)(H:Hp)(Q:VK)(E:XK):Prop
 | mk(y:Addr)(r:Rst)(a b:Nat)(_:vs=[.ref y,.int (a:Nat),.int (b:Nat)])(_:J1h CR H y r)(_:r.Ok)(_:a∈r.top)(_:1<=J2 r.ls (J6 r.top a))(_:J2 r.ls (J6 r.top a)<=10^30)(_:∀p c,Same H c->J3r cs c p (if 0<J1n r a r.top then .unders a (J1n r a r.top) else .under a b)->Q (.ref p) c)
theorem Jfg:FS1 ["rest","winner","loser","times"] J8x:=fsc
theorem Jj9{CR:Addr}(F:Fn1 J8x)(u:J1a K CR)(J:Ca1 2 Ja6 (Jdo CR))(O:Mk K (cs .us) fM)(T:FnOk P w K mg base CX0 2 fM fdM ["self","winner","times"] (spMk cs aUs))(M:J2z K fdM ["self","winner","times"] [])(z:mg "Unders"=some (.ref (cs .us)))(N:Mk K (cs .un) fO)(S:FnOk P w K mg base CX0 2 fO fdO ["self","winner","loser"] (spMk cs aUn))(L:J2z K fdO ["self","winner","loser"] [])(v:mg "Under"=some (.ref (cs .un))):
  Ca1 4 J8x (Jf1 cs CR):=by
 refine F.ok Jfg (fun f d A o s H vs Q E l h=>?_);obtain⟨y,r,a,b,rfl,R,ok,q,C,B,k⟩:=h;obtain⟨I,fr,pt,W,pl,U,D,⟨k1,k2,k3,X,k5⟩,G,e2,Z,Y⟩:=R.ex;have e:=ok.row;have few:=Jpn e ok.few;refine⟨_,J1 (pst Jfg 3 (pcl J l Jj (J0 (pv 0) (J0 (pv 1) (J0 (Ja (pv 0)) J3)))))
  (J4 (Jf (J3a (Jl J73 (pv 3) J9 (Jp _)) (J5r O T l rfl z M .nil Jj (J0 (pv 1) (J0 (pv 3) J3))) (J5r N S l rfl v L .nil Jj (J0 (pv 1) (J0 (pv 2) J3)))))),?_⟩
 refine⟨_,rfl,_,rfl,_,rfl,y,CR,I,fr,_,rfl,D,u.cl,u.nT,k1,y,pt,r,a,r.top,rfl,R,ok,G,q,e.lt a q,e.lt,few,C,B,fun H1 p=>?_⟩;refine⟨_,rfl,_,_,rfl,rfl,_,rfl,?_⟩;by_cases c:0<J1n r a r.top
 ·refine J2s c ⟨_,rfl,_,rfl,fun x n j g m=>?_⟩;obtain⟨st,i⟩:=J5d (cs:=cs) (s:=.unders a (J1n r a r.top)) j g;refine⟨x,n,_,.unders a (J1n r a r.top),rfl,⟨a,_,rfl,rfl⟩,J7,rfl,k x _ (p.trans i) ?_⟩;rw[if_pos c];exact st
 ·refine iteD c ⟨_,rfl,_,rfl,fun x n j g m=>?_⟩;obtain⟨st,i⟩:=J5d (cs:=cs) (s:=.under a b) j g;refine⟨x,n,_,.under a b,rfl,⟨a,b,rfl,rfl⟩,J7,rfl,k x _ (p.trans i) ?_⟩;rw[if_neg c];exact st
theorem Jdb(h:row≠[]):atI (nV row) (-1)=some (V.int (row.getD (row.length-1) 0:Nat)):=by
 have a:=List.length_pos_iff.mpr h;unfold atI;have e:ixN (nV row).length (-1)=some (row.length-1):=by
  unfold ixN;rw[J7f,if_neg (by lia),if_pos (by lia)]
  grind
 rw[e];show(nV row)[row.length-1]?=_;rw[nV_at (by lia)]
inductive Jpf(cs:Kd->Addr)(CR:Addr)(vs:List V)(H:Hp)(Q:VK)(E:XK):Prop
 | mk(y:Addr)(r:Rst)(_:vs=[.ref y])(_:J1h CR H y r)(_:r.Ok)(_:r.top≠[])(_:r.size<=10^30)(_:∀p a,Same H a->J3r cs a p (nextN r)->Q (.ref p) a)
theorem Jiq:FS1 ["rest","last_top","last_bottom"] Jl4:=fsc
theorem Jrp{fE CR:Addr}(F:Fn1 Jl4)(b:J1a K CR)(MH:Mk K (cs .ho) fH)(GH:FnOk P w K mg base CX0 2 fH fdH ["self","winner"] (spMk cs aHo))(bH:J2z K fdH ["self","winner"] [])(Y:mg "Home"=some (.ref (cs .ho)))(ME:Mk K (cs .ev) fE)(GE:FnOk P w K mg base CX0 2 fE fdE ["self","winner","loser"] (spMk cs aEv))(bE:J2z K fdE ["self","winner","loser"] [])(Z:mg "Even"=some (.ref (cs .ev)))(cO:Ca1 4 Jcu (Jia cs CR))(cU:Ca1 4 J8x (Jf1 cs CR)):
  Ca1 5 Jl4 (Jpf cs CR):=by
 refine F.ok Jiq (fun f d A o s H vs Q E N h=>?_);obtain⟨y,r,rfl,R,ok,ne,hz,k⟩:=h;have v:Room 3 _:=N.mono (by decide);obtain⟨p,fr,pt,X,pl,pu,m,⟨k1,k2,k3,k4,k5⟩,e1,e2,B,e4⟩:=R.ex;have mT:=ok.mT ne;have mB:=ok.mB ne;have L:r.bot≠[]:=fun e=>by
  have:=ok.lens;rw[e] at this;exact ne (List.length_eq_zero_iff.mp this.symm)
 have T:=ok.row.lt _ mT;have U:=ok.row.lt _ mB;refine⟨_,J1 (pst Jiq 1 (Jt Jm (Ja (pv 0)) (Jaz J64 J9)))
  (J1 (pst Jiq 2 (Jt Jm (Ja (pv 0)) (Jaz J64 J9)))
  (J1 (J1b (Jl J40 (pv 1) (pv 2) (Jp _)) (J4 (Jf (J5r MH GH v rfl Y bH .nil Jj (J0 (pv 1) J3)))) Jo)
  (J1 (J1b (Jl J40 (Jt Jm (Ja (pv 0)) (pv 1)) (Jt Jm (Ja (pv 0)) (pv 2)) (Jp _)) (J4 (Jf (J5r ME GE v rfl Z bE .nil Jj (J0 (pv 1) (J0 (pv 2) J3))))) Jo)
  (J1 (J1b (Jl J73 (Jt Jm (Ja (pv 0)) (pv 1)) (Jt Jm (Ja (pv 0)) (pv 2)) (Jp _)) (J4 (Jf (pcl cO N Jj (J0 (pv 0) (J0 (pv 1) (J0 (pv 2) J3)))))) Jo)
  (J4 (Jf (pcl cU N Jj (J0 (pv 0) (J0 (pv 2) (J0 (pv 1) J3)))))))))),?_⟩
 refine⟨_,rfl,y,CR,p,fr,_,rfl,m,b.cl,b.nT,k1,_,rfl,pt,_,_,_,rfl,rfl,SqT.of e1,Jdb ne,?_⟩;refine⟨_,rfl,y,CR,p,fr,_,rfl,m,b.cl,b.nB,k2,_,rfl,X,_,_,_,rfl,rfl,SqT.of e2,Jdb L,?_⟩;refine⟨_,rfl,_,rfl,rfl,_,rfl,?_⟩;unfold nextN at k;have inj:∀{i j:Nat},V.int (i:Nat)=V.int (j:Nat)->i=j:=fun q=>by have:=V.int.inj q;lia
 by_cases u:lastT r=lastB r
 ·refine J2s (congrArg (fun n:Nat=>V.int (n:Int)) u) ⟨_,rfl,fun x S M l O=>?_⟩;obtain⟨st,G⟩:=J5d (cs:=cs) (s:=.home (lastT r)) M l;refine⟨x,S,_,.home (lastT r),rfl,⟨_,rfl,rfl⟩,J7,rfl,k x _ G ?_⟩;rw[if_pos u];exact st
 refine iteD (fun q=>u (inj q)) ?_;rw[if_neg u] at k;refine⟨_,rfl,y,CR,p,fr,_,rfl,m,b.cl,b.nL,k3,_,rfl,pl,_,_,_,rfl,rfl,SqT.of B,Je (J1d T),_,rfl,y,CR,p,fr,_,rfl,m,b.cl,b.nL,k3,_,rfl,pl,_,_,_,rfl,rfl,SqT.of B,Je (J1d U),rfl,_,rfl,?_⟩;by_cases D:r.ls.getD (lastT r) 0=r.ls.getD (lastB r) 0
 ·refine J2s (congrArg V.int D) ⟨_,rfl,_,rfl,fun x S M l O=>?_⟩;obtain⟨st,G⟩:=J5d (cs:=cs) (s:=.even (lastT r) (lastB r)) M l;refine⟨x,S,_,.even (lastT r) (lastB r),rfl,⟨_,_,rfl,rfl⟩,J7,rfl,k x _ G ?_⟩;rw[if_pos D];exact st
 refine iteD (J37 D) ?_;rw[if_neg D] at k;refine⟨_,rfl,y,CR,p,fr,_,rfl,m,b.cl,b.nL,k3,_,rfl,pl,_,_,_,rfl,rfl,SqT.of B,Je (J1d T),_,rfl,y,CR,p,fr,_,rfl,m,b.cl,b.nL,k3,_,rfl,pl,_,_,_,rfl,rfl,SqT.of B,Je (J1d U),_,_,rfl,rfl,_,rfl,?_⟩;have c:∀(row:List Nat) (a:Nat),a∈row->row.Perm r.top->row.getD (row.length-1) 0≠a->1<=J2 r.ls (J6 row a)/\J2 r.ls (J6 row a)<=10^30:=fun row a ha W hl=>by
  have g:∀j∈row,1<=r.ls.getD j 0:=fun j z=>ok.row.pos j (W.mem_iff.mp z);refine⟨J6l (fun j z=>g j (J19 z)) (Jda ha hl),?_⟩;have h1:J2 r.ls row=r.size:=J2r W;have h2:J2 r.ls row=J2 r.ls (row.take (row.idxOf a+1))+J2 r.ls (J6 row a):=by
   rw[<- Jg];show _=J2 r.ls (row.take (row.idxOf a+1)++row.drop (row.idxOf a+1));rw[take_append_drop]
  have h3:=J17 (ls:=r.ls) (os:=row.take (row.idxOf a+1)) fun j z=>by have:=g j (mem_of_mem_take z);lia
  lia
 by_cases C:r.ls.getD (lastB r) 0<r.ls.getD (lastT r) 0
 ·rw[if_pos C] at k;obtain⟨J,I⟩:=c r.bot (lastT r) (ok.perm.mem_iff.mpr mT) ok.perm (fun e=>u e.symm);exact J2s C ⟨_,rfl,_,rfl,_,rfl,y,r,lastT r,lastB r,rfl,R,ok,ok.perm.mem_iff.mpr mT,J,I,k⟩
 ·rw[if_neg C] at k;obtain⟨J,I⟩:=c r.top (lastB r) mB (List.Perm.refl _) u;exact iteD C ⟨_,rfl,_,rfl,_,rfl,y,r,lastB r,lastT r,rfl,R,ok,mB,J,I,k⟩
end
section
variable [En]
inductive J67(vs:List V)(H:Hp)(Q:VK)(E:XK):Prop
 | mk(q:Addr)(row:List Nat)(x:Nat)(_:vs=[.ref q,.int (x:Nat)])(_:SqH H q (nV row))(_:row.length<=24)(_:∀p a,Same H a->a p=some (.lst (nV (withoutR row x)))->Q (.ref p) a)
theorem Jin:FS1 ["row","letter"] J4i:=fsc
theorem notv{j x:Nat}:(!decide (V.int (j:Int)=V.int (x:Int)))=decide (j≠x):=by
 grind
theorem Jh3(F : Fn1 J4i):
    Ca1 1 J4i J67:= by
  refine F.ok Jin (fun f d A o s H vs Q E p h => ?_);obtain⟨q, row, x, rfl, a, r, k⟩:= h;rcases a with a|a
  · refine⟨_, J4 (Jf (Jb1 (caps := ["letter"]) (js := [1]) rfl (J2e (pv 0)) rfl (fun C e s H => Jaw (Jl J72 (pv 0) (pv 1) (Jp _))) (fun C e s H => pv 0)
     )), ?_⟩
    refine⟨_, rfl, q, rfl, ⟨_, SqL.of a⟩, fun d hd => lc_lst (fun(j : Nat) => V.int (j : Int)) row (fun j => decide (j ≠ x)) (fun(j : Nat) => V.int (j : Int)) (by rw[<- J5k]; exact SqL.of a) (by lia) hd
      (fun j _ c m _ k => ⟨_, rfl, _, rfl, rfl, _, rfl, by rw[notv]; exact k c (Same.refl _)⟩) (fun j l c n _ i k => ⟨_, rfl, k _ (Same.refl _)⟩) (fun g s' b => k d g s' (by rw[b, J5k]; rfl))⟩
  · refine⟨_, J4 (Jf (Jb1 (caps := ["letter"]) (js := [1]) rfl (J7b (pv 0)) rfl (fun C e s H => Jaw (Jl J72 (pv 0) (pv 1) (Jp _))) (fun C e s H => pv 0)
     )), ?_⟩
    refine⟨_, rfl, q, rfl, ⟨_, SqT.of a⟩, fun d hd => Jpv (fun(j : Nat) => V.int (j : Int)) row (fun j => decide (j ≠ x)) (fun(j : Nat) => V.int (j : Int)) (by rw[<- J5k]; exact SqT.of a) (by lia) hd
      (fun j _ c m _ k => ⟨_, rfl, _, rfl, rfl, _, rfl, by rw[notv]; exact k c (Same.refl _)⟩) (fun j l c n _ i k => ⟨_, rfl, k _ (Same.refl _)⟩) (fun g s' b => k d g s' (by rw[b, J5k]; rfl))⟩
theorem Jbi(row:List Nat)(n:Nat)(h:n<=row.length):cutV (nV row) none (some (n:Int))=nV (row.take n):=by
 unfold cutV;rw[J7f,HT.sIx_nat,HT.sIx_none,Nat.min_eq_left h,J5k,J5k,List.map_take,List.drop_zero,Nat.sub_zero]
inductive Jm9(vs:List V)(H:Hp)(Q:VK)(E:XK):Prop
 | mk(q:Addr)(row:List Nat)(w l:Nat)(b:Bool)(_:vs=[.ref q,.int (w:Nat),.int (l:Nat),.bl b])(_:SqH H q (nV row))(_:row.length<=24)(_:w∈row)(_:w≠l)(_:∀p a,Same H a->a p=some (.lst (nV (putR row w l b)))->Q (.ref p) a)
theorem Jqr:FS1 ["row","winner","loser","ahead","others","at"] fPut:=fsc
theorem Jpr(xs ys:List Nat):nV (xs++ys)=nV xs++nV ys:=by rw[J5k,J5k,J5k,map_append]
theorem ok_put(F:Fn1 fPut)(N:Ca1 1 J4i J67):
  Ca1 2 fPut Jm9:=by
 refine F.ok Jqr (fun f d A o s H vs Q E G h=>?_);obtain⟨q,row,j,lo,m,rfl,I,C,hw,v,k⟩:=h;refine⟨_,J1 (pst Jqr 4 (pcl N G Jj (J0 (pv 0) (J0 (pv 2) J3))))
  (J1 (J3z (pst Jqr 5 (J3a (J2x (pv 3)) (J5s plainAttrs_list slot_list_index type_list_index J8k (pv 4) (J0 (pv 1) J3)) (Ji J13 (J5s plainAttrs_list slot_list_index type_list_index J8k (pv 4) (J0 (pv 1) J3)) J9))))
  (J4 (Jf (Ji Jfr (Ji Jfr (Jb0 Jij (pv 4) Je1 (Je0 (pv 5))) (J2h (J0 (pv 2) J3))) (Jb0 Jij (pv 4) (Je0 (pv 5)) Je1))))),?_⟩
 refine⟨_,rfl,_,rfl,q,row,lo,rfl,I,C,fun o O D l=>?_⟩;have w:=J14.mpr ⟨hw,v⟩;have J:(withoutR row lo).length<=24:=Nat.le_trans (length_filter_le _ _) C;have B:∀p r,Same H r->r p=some (.lst (nV ((withoutR row lo).take (if m=true then (withoutR row lo).idxOf j else (withoutR row lo).idxOf j+1)++[lo]++(withoutR row lo).drop (if m=true then (withoutR row lo).idxOf j else (withoutR row lo).idxOf j+1))))->Q (.ref p) r:=k;generalize withoutR row lo=os at *;have hi:os.idxOf j<os.length:=idxOf_lt_length_iff.mpr w;have hb:∃n:Nat,n<=os.length/\n=(if m=true then os.idxOf j else os.idxOf j+1):=by
  refine⟨_,?_,rfl⟩;split <;> lia
 obtain⟨n,i,g⟩:=hb;rw[<- g] at B;refine⟨fun σ' r=>σ'=[some (.ref q),some (.int (j:Nat)),some (.int (lo:Nat)),some (.bl m),some (.ref o),some (.int (n:Nat))]/\O=r,⟨_,rfl,_,rfl,?_⟩,?_⟩
 ·by_cases c:m=true
  ·rw[if_pos c] at g;refine J76 c ⟨_,rfl,.inl ⟨rfl,_,SqL.of l⟩,_,rfl,o,natI os,(j:Int),rfl,rfl,SqL.of l,Jeg w,?_,rfl⟩;rw[g,<- Jei];rfl
  ·rw[if_neg c] at g;refine J7n c ⟨_,rfl,.inl ⟨rfl,_,SqL.of l⟩,_,rfl,o,natI os,(j:Int),rfl,rfl,SqL.of l,Jeg w,_,_,rfl,rfl,?_,rfl⟩;rw[g,<- Jei,Int.natCast_add];rfl
 rintro σ _ ⟨rfl,rfl⟩;refine⟨_,rfl,_,rfl,_,rfl,o,_,rfl,SqL.of l,fun a M=>?_⟩;refine⟨_,rfl,(by show 1<=sizeLine;decide),fun b hb=>?_⟩;have sa:=J8 (o:=.lst (cutV (nV os) none (some (n:Int)))) M;have u:=J8 (o:=.lst [V.int (lo:Nat)]) hb;refine⟨a,b,_,_,rfl,rfl,u _ _ J7,J7,?_,fun c L=>?_⟩
 ·rw[Jbi _ _ i,J7f,length_take];have:=Js (n:=min n os.length+1) (by lia);show min n os.length+1<=sizeLine;lia
 have z:=J8 (o:=.lst (cutV (nV os) none (some (n:Int))++[V.int (lo:Nat)])) L;refine⟨_,rfl,_,rfl,_,rfl,o,_,rfl,SqL.of (z _ _ (u _ _ (sa _ _ l))),fun d hd=>?_⟩;have y:=J8 (o:=.lst (cutV (nV os) (some (n:Int)) none)) hd;refine⟨c,d,_,_,rfl,rfl,y _ _ J7,J7,?_,fun e K=>B e _ (D.trans (sa.trans (u.trans (z.trans (y.trans (J8 K)))))) ?_⟩
 ·rw[Jbi _ _ i,Jek _ _ i,length_append,J7f,J7f,length_take,length_drop];have:=Js (n:=min n os.length+1+(os.length-n)) (by lia);show min n os.length+1+(os.length-n)<=sizeLine;lia
 ·rw[J7,Jbi _ _ i,Jek _ _ i,Jpr,Jpr];rfl
inductive J4r(vs:List V)(H:Hp)(Q:VK)(E:XK):Prop
 | mk(q:Addr)(xs:List V)(j:Nat)(v:V)(_:vs=[.ref q,.int (j:Nat),v])(_:SqH H q xs)(_:j<xs.length)(_:∀p a,Same H a->a p=some (.lst (xs.set j v))->Q (.ref p) a)
theorem Jc4:FS1 ["row","letter","entry","copied"] J3p:=fsc
theorem Jh9(F:Fn1 J3p)(T:TxtR mg):
  Ca1 1 J3p J4r:=by
 refine F.ok Jc4 (fun f d A o s H vs Q E g h=>?_);obtain⟨q,xs,j,v,rfl,a,b,k⟩:=h;refine⟨_,J1 (pst Jc4 3 (J3h Jd5 (by rfl) T.list boot_list (J0 (pv 0) J3)))
  (J1 (Jfn (pv 2) (Jfp (pv 3) (pv 1) J7p)) (J4 (Jf (pv 3)))),?_⟩
 refine⟨_,rfl,q,xs,rfl,a.sq,fun c e=>?_⟩;refine⟨_,rfl,_,rfl,_,rfl,c,xs,_,j,rfl,rfl,J7,Jkk b,?_⟩;rw[Jdi];exact⟨_,rfl,k c _ (J8 e) J7⟩
theorem Jlu(ts:List Bool)(j:Nat)(b:Bool):(bV ts).set j (V.bl b)=bV (ts.set j b):=by
 simp_all
inductive J88(CR:Addr)(vs:List V)(H:Hp)(Q:VK)(E:XK):Prop
 | mk(y:Addr)(r:Rst)(a:Nat)(less:Int)(_:vs=[.ref y,.int (a:Nat),.int less])(_:J1h CR H y r)(_:a<r.ls.length)(_:∀p b,Same H b->b p=some (.lst (iV (r.ls.set a (r.ls.getD a 0-less))))->Q (.ref p) b)
theorem Jqn:FS1 ["rest","winner","less"] J7h:=fsc
theorem Jnm{CR:Addr}(F:Fn1 J7h)(b:J1a K CR)(m:Ca1 1 J3p J4r):
  Ca1 2 J7h (J88 CR):=by
 refine F.ok Jqn (fun f d A o s H vs Q E i h=>?_);obtain⟨y,r,a,less,rfl,R,l,k⟩:=h;obtain⟨g,fr,pt,u,pl,q,c,⟨k1,k2,k3,v,k5⟩,B,z,e,w⟩:=R.ex;refine⟨_,J4 (Jf (pcl m i Jj (J0 (Ja (pv 0)) (J0 (pv 1) (J0 (Ji J1i (Jt Jm (Ja (pv 0)) (pv 1)) (pv 2)) J3))))),?_⟩;refine⟨_,rfl,y,CR,g,fr,_,rfl,c,b.cl,b.nL,k3,_,rfl,_,rfl,y,CR,g,fr,_,rfl,c,b.cl,b.nL,k3,_,rfl,pl,_,_,_,rfl,rfl,SqT.of e,Je (J1d l),_,rfl,_,_,rfl,rfl,pl,iV r.ls,a,_,rfl,.inr e,by simp_all,fun p n s' j=>k p n s' ?_⟩;rw[j,Jg6]
inductive J7o(CR:Addr)(vs:List V)(H:Hp)(Q:VK)(E:XK):Prop
 | mk(y:Addr)(r:Rst)(a b:Nat)(_:vs=[.ref y,.int (a:Nat),.int (b:Nat)])(_:J1h CR H y r)(_:a<r.ts.length)(_:b<r.ts.length)(_:∀p c,Same H c->c p=some (.lst (bV (J2d r a b)))->Q (.ref p) c)
theorem Jmi:FS1 ["rest","winner","loser"] J5y:=fsc
theorem Jja{CR:Addr}(F:Fn1 J5y)(c:J1a K CR)(v:Ca1 1 J3p J4r):
  Ca1 2 J5y (J7o CR):=by
 refine F.ok Jmi (fun f d A o s H vs Q E n h=>?_);obtain⟨y,r,a,b,rfl,R,u,hb,k⟩:=h;obtain⟨m,fr,pt,z,pl,g,j,⟨k1,k2,k3,i,k5⟩,D,C,B,l⟩:=R.ex;refine⟨_,J4 (Jf (pcl v n Jj (J0 (Ja (pv 0)) (J0 (pv 2) (J0 (J4w J72 (Jt Jm (Ja (pv 0)) (pv 1)) (Jt Jm (Ja (pv 0)) (pv 2)) (Jp _)) J3))))),?_⟩;refine⟨_,rfl,y,CR,m,fr,_,rfl,j,c.cl,c.nU,i,_,rfl,_,rfl,y,CR,m,fr,_,rfl,j,c.cl,c.nU,i,_,rfl,g,_,_,_,rfl,rfl,SqT.of l,Je (J7k u),_,rfl,y,CR,m,fr,_,rfl,j,c.cl,c.nU,i,_,rfl,g,_,_,_,rfl,rfl,SqT.of l,Je (J7k hb),rfl,g,bV r.ts,b,_,rfl,.inr l,by simp_all,fun p w s' q=>k p w s' ?_⟩;rw[q];unfold J2d;rw[<- Jlu];have e:(!decide (V.bl (r.ts.getD a false)=V.bl (r.ts.getD b false)))=(r.ts.getD a false != r.ts.getD b false):=by
  cases r.ts.getD a false <;> cases r.ts.getD b false <;> rfl
 rw[e]
structure Fit(s:Stp)(r:Rst):Prop where
 ok:r.Ok
 left:(s.behind r).Ok
 win:s.winner∈r.top
 lose:∀b:Nat,Jof s=.int (b:Nat)->b∈r.top/\s.winner≠b
 few:s.times.natAbs<2^4000
 small:r.size<=10^30
inductive J38(cs:Kd->Addr)(CR:Addr)(k:Kd)(vs:List V)(H:Hp)(Q:VK)(E:XK):Prop
 | mk(x y:Addr)(s:Stp)(r:Rst)(_:vs=[.ref x,.ref y])(_:kd s=k)(_:J3r cs H x s)(_:J1h CR H y r)(_:Fit s r)(_:∀p a,Same H a->J1h CR a p (s.behind r)->Q (.ref p) a)
theorem J3y{CR:Addr}{Q:VK}(ok:r.Ok)(l:SqH H p1 (nV r.top))(j:SqH H p2 (nV r.bot))(i:SqH H p3 (iV r.ls))(h:SqH H p4 (bV r.ts))(k:∀p c,Same H c->J1h CR c p r->Q (.ref p) c):
  ∀x a,H x=none->H a=none->a≠x->J49 CR (.ref x::([.ref p1,.ref p2,.ref p3,.ref p4]++[])) (upd (upd H a (.own x)) x (.ins CR a [])) (fun v m=>v=.non/\Q (.ref x) m) E0:=fun x a g f d=>by
 have s0:Same H (upd (upd H a (.own x)) x (.ins CR a [])):=(J8 f).trans (J8 (by rw[Jh (Ne.symm d)];exact g));refine⟨x,a,p1,p2,p3,p4,r,rfl,J7,l.same s0,j.same s0,i.same s0,h.same s0,ok.row.lt,Nat.le_trans ok.row.len_le ok.few,fun c R kp=>⟨rfl,k x c (fun b u e=>?_) R⟩⟩;exact kp b u (s0 _ _ e) (Jb e g)
theorem J70:Jr ["self","rest","top","bottom"] ["self","rest"] (Jd (Jc (top 38) 3)):=fsc
theorem Jec{CR:Addr}(F:Fun K "behind" "Home.behind" (Jc (top 38) 3) f fd)(TS:TxtS K cs)(e:J1a K CR)(O:Ca1 1 J4i J67)(S:Ca1 1 J3p J4r)(cI:Mak CX0 2 "Rest" CR ["self","top","bottom","lengths","turned"] [] (J49 CR)):
  FnOk P w K mg base CX0 4 f fd ["self","rest"] (J38 cs CR .ho):=by
 refine F.ok1 J70 (fun d A o s H vs Q E m h=>?_);obtain⟨x,y,s,r,rfl,l,⟨C,z⟩,R,i,k⟩:=h;have ok:=i.ok;have left:=i.left;have win:=i.win;have M:=ok.perm.mem_iff.mpr win;have few:=Nat.le_trans ok.row.len_le ok.few;have n:=Nat.le_trans ok.rowB.len_le ok.few;have N:=ok.row.lt _ win;obtain⟨D,fr,pt,U,pl,T,B,⟨k1,k2,k3,W,k5⟩,e1,Z,Y,X⟩:=R.ex
 cases s with
 | home a =>
  have lt:a<r.ts.length:=by rw[ok.len];exact N
  refine⟨_,J1 (pst J70 2 (pcl O m Jj (J0 (Ja (pv 1)) (J0 (Ja (pv 0)) J3))))
   (J1 (pst J70 3 (pcl O m Jj (J0 (Ja (pv 1)) (J0 (Ja (pv 0)) J3))))
   (J4 (Jf (pmk cI m Jj (J0 (pv 2) (J0 (pv 3) (J0 (pcl S m Jj (J0 (Ja (pv 1)) (J0 (Ja (pv 0)) (J0 J9 J3)))) (J0 (pcl S m Jj (J0 (Ja (pv 1)) (J0 (Ja (pv 0)) (J0 J5i J3)))) J3)))))))),?_⟩
  refine⟨_,rfl,y,CR,D,fr,_,rfl,B,e.cl,e.nT,k1,_,rfl,x,cs _,C,stF _,_,rfl,z,TS.cl _,TS.nW _,J34 _,pt,r.top,a,rfl,.inr e1,few,fun t1 H1 v I=>?_⟩;refine⟨_,rfl,y,CR,D,fr,_,rfl,v _ _ B,e.cl,e.nB,k2,_,rfl,x,cs _,C,stF _,_,rfl,v _ _ z,TS.cl _,TS.nW _,J34 _,U,r.bot,a,rfl,.inr (v _ _ Z),n,fun b1 H2 j L=>?_⟩;have u:=v.trans j;refine⟨_,rfl,_,rfl,_,rfl,y,CR,D,fr,_,rfl,u _ _ B,e.cl,e.nL,k3,_,rfl,x,cs _,C,stF _,_,rfl,u _ _ z,TS.cl _,TS.nW _,J34 _,pl,iV r.ls,a,.int 0,rfl,.inr (u _ _ Y),by rw[J2i];exact N,fun l1 H3 g J=>?_⟩;have q:=u.trans g;refine⟨_,rfl,y,CR,D,fr,_,rfl,q _ _ B,e.cl,e.nU,W,_,rfl,x,cs _,C,stF _,_,rfl,q _ _ z,TS.cl _,TS.nW _,J34 _,T,bV r.ts,a,.bl false,rfl,.inr (q _ _ X),by rw[length_map];exact lt,fun u1 H4 c G=>?_⟩;exact J3y left (.inl (c _ _ (g _ _ (j _ _ I)))) (.inl (c _ _ (g _ _ L))) (.inl (by rw[c _ _ J,Jg6];rfl)) (.inl (by rw[G,Jlu];rfl)) fun p H' s' R'=>k p H' (q.trans (c.trans s')) R'
 | even a b=>cases l
 | over a b=>cases l
 | under a b=>cases l
 | overs a t=>cases l
 | unders a t=>cases l
theorem J5a:Jr ["self","rest","top","bottom","turned"] ["self","rest"] (Jd (Jc (top 39) 3)):=fsc
theorem Jed{CR:Addr}(F:Fun K "behind" "Even.behind" (Jc (top 39) 3) f fd)(TS:TxtS K cs)(q:J1a K CR)(Z:Ca1 1 J4i J67)(cP:Ca1 2 fPut Jm9)(cC:Ca1 1 J3p J4r)(cT:Ca1 2 J5y (J7o CR))(cI:Mak CX0 2 "Rest" CR ["self","top","bottom","lengths","turned"] [] (J49 CR)):
  FnOk P w K mg base CX0 4 f fd ["self","rest"] (J38 cs CR .ev):=by
 refine F.ok1 J5a (fun d A o s H vs Q E n h=>?_);obtain⟨x,y,s,r,rfl,C,⟨j,g⟩,R,e,k⟩:=h;have ok:=e.ok;have left:=e.left;have win:=e.win;have u:=ok.perm.mem_iff.mpr win;have few:=Nat.le_trans ok.row.len_le ok.few;have i:=Nat.le_trans ok.rowB.len_le ok.few;have Y:=ok.row.lt _ win;obtain⟨U,fr,pt,pb,pl,pu,T,⟨k1,k2,k3,k4,k5⟩,e1,e2,e3,e4⟩:=R.ex
 cases s with
 | even a b =>
  obtain⟨lose,wl⟩:=e.lose b rfl;have lt:a<r.ts.length:=by rw[ok.len];exact Y
  have lb:b<r.ts.length:=by rw[ok.len];exact ok.row.lt _ lose
  refine⟨_,J1 (pst J5a 2 (pcl Z n Jj (J0 (Ja (pv 1)) (J0 (Ja (pv 0)) J3))))
   (J1 (pst J5a 3 (pcl Z n Jj (J0 (pcl cP n Jj (J0 (Ja (pv 1)) (J0 (Ja (pv 0)) (J0 (Ja (pv 0)) (J0 J5i J3))))) (J0 (Ja (pv 0)) J3))))
   (J1 (pst J5a 4 (pcl cC n Jj (J0 (pcl cT n Jj (J0 (pv 1) (J0 (Ja (pv 0)) (J0 (Ja (pv 0)) J3)))) (J0 (Ja (pv 0)) (J0 J5i J3)))))
   (J4 (Jf (pmk cI n Jj (J0 (pv 2) (J0 (pv 3) (J0 (pcl cC n Jj (J0 (Ja (pv 1)) (J0 (Ja (pv 0)) (J0 J9 J3)))) (J0 (pv 4) J3))))))))),?_⟩
  refine⟨_,rfl,y,CR,U,fr,_,rfl,T,q.cl,q.nT,k1,_,rfl,x,cs _,j,stF _,_,rfl,g,TS.cl _,TS.nW _,J34 _,pt,r.top,a,rfl,.inr e1,few,fun t1 H1 B M=>?_⟩;refine⟨_,rfl,y,CR,U,fr,_,rfl,B _ _ T,q.cl,q.nB,k2,_,rfl,x,cs _,j,stF _,_,rfl,B _ _ g,TS.cl _,TS.nW _,J34 _,_,rfl,x,cs _,j,stF _,_,rfl,B _ _ g,TS.cl _,TS.nL _,Jal _,pb,r.bot,a,b,false,rfl,.inr (B _ _ e2),i,u,wl,fun b0 H2 z S=>?_⟩;have X:=B.trans z;have D:(putR r.bot a b false).length<=24:=by rw[(J39 ok.rowB.nd (ok.perm.mem_iff.mpr lose) false).length_eq];exact i
  refine⟨_,rfl,x,cs _,j,stF _,_,rfl,X _ _ g,TS.cl _,TS.nW _,J34 _,b0,_,a,rfl,.inl S,D,fun b1 H3 v O=>?_⟩;have I:=X.trans v;refine⟨_,rfl,_,rfl,x,cs _,j,stF _,_,rfl,I _ _ g,TS.cl _,TS.nW _,J34 _,_,rfl,x,cs _,j,stF _,_,rfl,I _ _ g,TS.cl _,TS.nL _,Jal _,y,r,a,b,rfl,R.same I,lt,lb,fun u0 H4 m L=>?_⟩;have W:=I.trans m;refine⟨_,rfl,x,cs _,j,stF _,_,rfl,W _ _ g,TS.cl _,TS.nW _,J34 _,u0,bV (J2d r a b),a,.bl false,rfl,.inl L,by rw[length_map,J31];exact lt,fun u1 H5 l J=>?_⟩;have G:=W.trans l;refine⟨_,rfl,_,rfl,_,rfl,y,CR,U,fr,_,rfl,G _ _ T,q.cl,q.nL,k3,_,rfl,x,cs _,j,stF _,_,rfl,G _ _ g,TS.cl _,TS.nW _,J34 _,pl,iV r.ls,a,.int 0,rfl,.inr (G _ _ e3),by rw[J2i];exact Y,fun l1 H6 c N=>⟨_,rfl,?_⟩⟩;exact J3y left (.inl (c _ _ (l _ _ (m _ _ (v _ _ (z _ _ M)))))) (.inl (c _ _ (l _ _ (m _ _ O)))) (.inl (by rw[N,Jg6];rfl)) (.inl (by rw[c _ _ J,Jlu];rfl)) fun p H' s' R'=>k p H' (G.trans (c.trans s')) R'
 | home a=>cases C
 | over a b=>cases C
 | under a b=>cases C
 | overs a t=>cases C
 | unders a t=>cases C
theorem J6z:Jr ["self","rest","bottom","lengths"] ["self","rest"] (Jd (Jc (top 40) 3)):=fsc
theorem Je8{CR:Addr}(F:Fun K "behind" "Over.behind" (Jc (top 40) 3) f fd)(TS:TxtS K cs)(g:J1a K CR)(cP:Ca1 2 fPut Jm9)(cS:Ca1 2 J7h (J88 CR))(Z:Ca1 2 J5y (J7o CR))(cI:Mak CX0 2 "Rest" CR ["self","top","bottom","lengths","turned"] [] (J49 CR)):
  FnOk P w K mg base CX0 4 f fd ["self","rest"] (J38 cs CR .ov):=by
 refine F.ok1 J6z (fun d A o s H vs Q E B h=>?_);obtain⟨x,y,s,r,rfl,v,⟨j,i⟩,R,e,k⟩:=h;have ok:=e.ok;have left:=e.left;have win:=e.win;have n:=ok.perm.mem_iff.mpr win;have few:=Nat.le_trans ok.row.len_le ok.few;have z:=Nat.le_trans ok.rowB.len_le ok.few;have L:=ok.row.lt _ win;obtain⟨D,fr,pt,O,pl,N,C,⟨k1,k2,k3,T,k5⟩,Y,X,W,U⟩:=R.ex
 cases s with
 | over a b =>
  obtain⟨lose,M⟩:=e.lose b rfl;have lt:a<r.ts.length:=by rw[ok.len];exact L
  have u:=ok.row.lt _ lose;have S:b<r.ts.length:=by rw[ok.len];exact u
  refine⟨_,J1 (pst J6z 2 (pcl cP B Jj (J0 (Ja (pv 1)) (J0 (Ja (pv 0)) (J0 (Ja (pv 0)) (J0 (Jt Jm (Ja (pv 1)) (Ja (pv 0))) J3))))))
   (J1 (pst J6z 3 (pcl cS B Jj (J0 (pv 1) (J0 (Ja (pv 0)) (J0 (Jt Jm (Ja (pv 1)) (Ja (pv 0))) J3)))))
   (J4 (Jf (pmk cI B Jj (J0 (Ja (pv 1)) (J0 (pv 2) (J0 (pv 3) (J0 (pcl Z B Jj (J0 (pv 1) (J0 (Ja (pv 0)) (J0 (Ja (pv 0)) J3)))) J3)))))))),?_⟩
  refine⟨_,rfl,y,CR,D,fr,_,rfl,C,g.cl,g.nB,k2,_,rfl,x,cs _,j,stF _,_,rfl,i,TS.cl _,TS.nW _,J34 _,_,rfl,x,cs _,j,stF _,_,rfl,i,TS.cl _,TS.nL _,Jal _,_,rfl,y,CR,D,fr,_,rfl,C,g.cl,g.nU,T,_,rfl,x,cs _,j,stF _,_,rfl,i,TS.cl _,TS.nW _,J34 _,N,_,_,_,rfl,rfl,SqT.of U,Je (J7k lt),O,r.bot,a,b,_,rfl,.inr X,z,n,M,fun q1 H1 m I=>?_⟩;refine⟨_,rfl,_,rfl,x,cs _,j,stF _,_,rfl,m _ _ i,TS.cl _,TS.nW _,J34 _,_,rfl,y,CR,D,fr,_,rfl,m _ _ C,g.cl,g.nL,k3,_,rfl,x,cs _,j,stF _,_,rfl,m _ _ i,TS.cl _,TS.nL _,Jal _,pl,_,_,_,rfl,rfl,SqT.of (m _ _ W),Je (J1d u),y,r,a,_,rfl,R.same m,L,fun l1 H2 q J=>?_⟩;have l:=m.trans q;refine⟨_,rfl,y,CR,D,fr,_,rfl,l _ _ C,g.cl,g.nT,k1,_,rfl,_,rfl,_,rfl,_,rfl,x,cs _,j,stF _,_,rfl,l _ _ i,TS.cl _,TS.nW _,J34 _,_,rfl,x,cs _,j,stF _,_,rfl,l _ _ i,TS.cl _,TS.nL _,Jal _,y,r,a,b,rfl,R.same l,lt,S,fun u1 H3 c G=>?_⟩;exact J3y left (.inr (c _ _ (l _ _ Y))) (.inl (c _ _ (q _ _ I))) (.inl (c _ _ J)) (.inl G) fun p H' s' R'=>k p H' (l.trans (c.trans s')) R'
 | home a=>cases v
 | even a b=>cases v
 | under a b=>cases v
 | overs a t=>cases v
 | unders a t=>cases v
theorem J6y:Jr ["self","rest","top","lengths"] ["self","rest"] (Jd (Jc (top 41) 2)):=fsc
theorem Je7{CR:Addr}(F:Fun K "behind" "Under.behind" (Jc (top 41) 2) f fd)(TS:TxtS K cs)(g:J1a K CR)(cP:Ca1 2 fPut Jm9)(Z:Ca1 2 J7h (J88 CR))(Y:Ca1 2 J5y (J7o CR))(cI:Mak CX0 2 "Rest" CR ["self","top","bottom","lengths","turned"] [] (J49 CR)):
  FnOk P w K mg base CX0 4 f fd ["self","rest"] (J38 cs CR .un):=by
 refine F.ok1 J6y (fun d A o s H vs Q E v h=>?_);obtain⟨x,y,s,r,rfl,u,⟨j,i⟩,R,e,k⟩:=h;have ok:=e.ok;have left:=e.left;have win:=e.win;have I:=ok.perm.mem_iff.mpr win;have few:=Nat.le_trans ok.row.len_le ok.few;have L:=Nat.le_trans ok.rowB.len_le ok.few;have J:=ok.row.lt _ win;obtain⟨B,fr,pt,pb,pl,N,z,⟨k1,k2,k3,S,k5⟩,X,W,U,T⟩:=R.ex
 cases s with
 | under a b =>
  obtain⟨lose,M⟩:=e.lose b rfl;have lt:a<r.ts.length:=by rw[ok.len];exact J
  have q:=ok.row.lt _ lose;have O:b<r.ts.length:=by rw[ok.len];exact q
  refine⟨_,J1 (pst J6y 2 (pcl cP v Jj (J0 (Ja (pv 1)) (J0 (Ja (pv 0)) (J0 (Ja (pv 0)) (J0 (Jt Jm (Ja (pv 1)) (Ja (pv 0))) J3))))))
   (J1 (pst J6y 3 (pcl Z v Jj (J0 (pv 1) (J0 (Ja (pv 0)) (J0 (Jt Jm (Ja (pv 1)) (Ja (pv 0))) J3)))))
   (J4 (Jf (pmk cI v Jj (J0 (pv 2) (J0 (Ja (pv 1)) (J0 (pv 3) (J0 (pcl Y v Jj (J0 (pv 1) (J0 (Ja (pv 0)) (J0 (Ja (pv 0)) J3)))) J3)))))))),?_⟩
  refine⟨_,rfl,y,CR,B,fr,_,rfl,z,g.cl,g.nT,k1,_,rfl,x,cs _,j,stF _,_,rfl,i,TS.cl _,TS.nW _,J34 _,_,rfl,x,cs _,j,stF _,_,rfl,i,TS.cl _,TS.nL _,Jal _,_,rfl,y,CR,B,fr,_,rfl,z,g.cl,g.nU,S,_,rfl,x,cs _,j,stF _,_,rfl,i,TS.cl _,TS.nW _,J34 _,N,_,_,_,rfl,rfl,SqT.of T,Je (J7k lt),pt,r.top,a,b,_,rfl,.inr X,few,win,M,fun q1 H1 m D=>?_⟩;refine⟨_,rfl,_,rfl,x,cs _,j,stF _,_,rfl,m _ _ i,TS.cl _,TS.nW _,J34 _,_,rfl,y,CR,B,fr,_,rfl,m _ _ z,g.cl,g.nL,k3,_,rfl,x,cs _,j,stF _,_,rfl,m _ _ i,TS.cl _,TS.nL _,Jal _,pl,_,_,_,rfl,rfl,SqT.of (m _ _ U),Je (J1d q),y,r,a,_,rfl,R.same m,J,fun l1 H2 n G=>?_⟩;have l:=m.trans n;refine⟨_,rfl,_,rfl,y,CR,B,fr,_,rfl,l _ _ z,g.cl,g.nB,k2,_,rfl,_,rfl,_,rfl,x,cs _,j,stF _,_,rfl,l _ _ i,TS.cl _,TS.nW _,J34 _,_,rfl,x,cs _,j,stF _,_,rfl,l _ _ i,TS.cl _,TS.nL _,Jal _,y,r,a,b,rfl,R.same l,lt,O,fun u1 H3 c C=>?_⟩;exact J3y left (.inl (c _ _ (n _ _ D))) (.inr (c _ _ (l _ _ W))) (.inl (c _ _ G)) (.inl C) fun p H' s' R'=>k p H' (l.trans (c.trans s')) R'
 | home a=>cases u
 | even a b=>cases u
 | over a b=>cases u
 | overs a t=>cases u
 | unders a t=>cases u
theorem J9u:Jr ["self","rest","lengths"] ["self","rest"] (Jd (Jc (top 42) 4)):=fsc
theorem Jea{CR:Addr}(F:Fun K "behind" "Overs.behind" (Jc (top 42) 4) f fd)(TS:TxtS K cs)(e:J1a K CR)(cL:Ca1 1 J7i (J89 K))(cS:Ca1 2 J7h (J88 CR))(cI:Mak CX0 2 "Rest" CR ["self","top","bottom","lengths","turned"] [] (J49 CR))(HL:∀k,HasM P w K mg base CX0 2 "losers" ["self","rest"] (J2w cs CR k) (cs k)):
  FnOk P w K mg base CX0 4 f fd ["self","rest"] (J38 cs CR .os):=by
 refine F.ok1 J9u (fun d A o s H vs Q E q h=>?_);obtain⟨x,y,s,r,rfl,m,⟨v,n⟩,R,c,k⟩:=h;have G:Room 2 _:=q.mono (by decide);have ok:=c.ok;have left:=c.left;have win:=c.win;have l:=ok.perm.mem_iff.mpr win;have few:=Nat.le_trans ok.row.len_le ok.few;have S:=Nat.le_trans ok.rowB.len_le ok.few;have T:=ok.row.lt _ win;obtain⟨z,fr,pt,pb,pl,pu,u,⟨k1,k2,k3,W,k5⟩,e1,e2,Z,Y⟩:=R.ex
 cases s with
 | overs a t =>
  have I:∀j∈J6 r.bot a,j<r.ls.length:=fun j i=>ok.rowB.lt j (J19 i);have L:(J6 r.bot a).length<=24:=by unfold J6;rw[length_drop];lia
  have hsz:(J2 r.ls (J6 r.bot a)).natAbs<2^4000:=by
   have O:∀j∈r.bot,1<=r.ls.getD j 0:=fun j i=>ok.rowB.pos j i;have h1:J2 r.ls r.bot=r.size:=ok.sizeB;have h2:J2 r.ls r.bot=J2 r.ls (r.bot.take (r.bot.idxOf a+1))+J2 r.ls (J6 r.bot a):=by
    rw[<- Jg];show _=J2 r.ls (r.bot.take (r.bot.idxOf a+1)++r.bot.drop (r.bot.idxOf a+1));rw[take_append_drop]
   have h3:=J17 (ls:=r.ls) (os:=r.bot.take (r.bot.idxOf a+1)) fun j i=>by have:=O j (mem_of_mem_take i);lia
   have h4:=J17 (ls:=r.ls) (os:=J6 r.bot a) fun j i=>by have:=O j (J19 i);lia
   have h5:=c.small;have X:(J2 r.ls (J6 r.bot a)).natAbs<=10^30:=by lia
   exact Nat.lt_of_le_of_lt X (by decide)
  refine⟨_,J1 (pst J9u 2 (pcl cS q Jj (J0 (pv 1) (J0 (Ja (pv 0)) (J0 (Ji J5t (Ja (pv 0)) (pcl cL q Jj (J0 (pv 1) (J0 (J7s (sp:=J2w cs CR) (cls:=cs) (pv 0) HL G Jj (J0 (pv 1) J3)) J3)))) J3)))))
   (J4 (Jf (pmk cI q Jj (J0 (Ja (pv 1)) (J0 (Ja (pv 1)) (J0 (pv 2) (J0 (Ja (pv 1)) J3))))))),?_⟩
  refine⟨_,rfl,_,rfl,x,cs _,v,stF _,_,rfl,n,TS.cl _,TS.nW _,J34 _,_,rfl,x,cs _,v,stF _,_,rfl,n,TS.cl _,TS.nT _,Jm7 _,_,rfl,_,rfl,x,.os,v,stF _,rfl,n,J86 _ (by decide +kernel) (by decide +kernel) (by decide +kernel),_,rfl,x,y,.overs a t,r,rfl,rfl,⟨v,n⟩,R,win,l,fun U H1 D J=>?_⟩;refine⟨CR,y,U,z,pl,fr,r.ls,J6 r.bot a,rfl,D _ _ u,e.cl,e.nL,k3,D _ _ Z,J,I,L,fun H2 C=>?_⟩;have N:=D.trans C;refine⟨_,_,rfl,rfl,⟨c.few,hsz⟩,y,r,a,_,rfl,R.same N,T,fun l1 H3 B M=>?_⟩;have g:=N.trans B;refine⟨_,rfl,y,CR,z,fr,_,rfl,g _ _ u,e.cl,e.nT,k1,_,rfl,y,CR,z,fr,_,rfl,g _ _ u,e.cl,e.nB,k2,_,rfl,_,rfl,y,CR,z,fr,_,rfl,g _ _ u,e.cl,e.nU,W,?_⟩;exact J3y left (.inr (g _ _ e1)) (.inr (g _ _ e2)) (.inl M) (.inr (g _ _ Y)) fun p H' s' R'=>k p H' (g.trans s') R'
 | home a=>cases m
 | even a b=>cases m
 | over a b=>cases m
 | under a b=>cases m
 | unders a t=>cases m
theorem J9s:Jr ["self","rest","lengths"] ["self","rest"] (Jd (Jc (top 43) 3)):=fsc
theorem Je6{CR:Addr}(F:Fun K "behind" "Unders.behind" (Jc (top 43) 3) f fd)(TS:TxtS K cs)(e:J1a K CR)(cL:Ca1 1 J7i (J89 K))(cS:Ca1 2 J7h (J88 CR))(cI:Mak CX0 2 "Rest" CR ["self","top","bottom","lengths","turned"] [] (J49 CR))(HL:∀k,HasM P w K mg base CX0 2 "losers" ["self","rest"] (J2w cs CR k) (cs k)):
  FnOk P w K mg base CX0 4 f fd ["self","rest"] (J38 cs CR .us):=by
 refine F.ok1 J9s (fun d A o s H vs Q E q h=>?_);obtain⟨x,y,s,r,rfl,m,⟨v,n⟩,R,c,k⟩:=h;have G:Room 2 _:=q.mono (by decide);have ok:=c.ok;have left:=c.left;have win:=c.win;have l:=ok.perm.mem_iff.mpr win;have few:=Nat.le_trans ok.row.len_le ok.few;have S:=Nat.le_trans ok.rowB.len_le ok.few;have T:=ok.row.lt _ win;obtain⟨z,fr,pt,pb,pl,pu,u,⟨k1,k2,k3,W,k5⟩,e1,e2,Z,Y⟩:=R.ex
 cases s with
 | unders a t =>
  have I:∀j∈J6 r.top a,j<r.ls.length:=fun j i=>ok.row.lt j (J19 i);have L:(J6 r.top a).length<=24:=by unfold J6;rw[length_drop];lia
  have hsz:(J2 r.ls (J6 r.top a)).natAbs<2^4000:=by
   have O:∀j∈r.top,1<=r.ls.getD j 0:=fun j i=>ok.row.pos j i;have h1:J2 r.ls r.top=r.size:=rfl;have h2:J2 r.ls r.top=J2 r.ls (r.top.take (r.top.idxOf a+1))+J2 r.ls (J6 r.top a):=by
    rw[<- Jg];show _=J2 r.ls (r.top.take (r.top.idxOf a+1)++r.top.drop (r.top.idxOf a+1));rw[take_append_drop]
   have h3:=J17 (ls:=r.ls) (os:=r.top.take (r.top.idxOf a+1)) fun j i=>by have:=O j (mem_of_mem_take i);lia
   have h4:=J17 (ls:=r.ls) (os:=J6 r.top a) fun j i=>by have:=O j (J19 i);lia
   have h5:=c.small;have X:(J2 r.ls (J6 r.top a)).natAbs<=10^30:=by lia
   exact Nat.lt_of_le_of_lt X (by decide)
  refine⟨_,J1 (pst J9s 2 (pcl cS q Jj (J0 (pv 1) (J0 (Ja (pv 0)) (J0 (Ji J5t (Ja (pv 0)) (pcl cL q Jj (J0 (pv 1) (J0 (J7s (sp:=J2w cs CR) (cls:=cs) (pv 0) HL G Jj (J0 (pv 1) J3)) J3)))) J3)))))
   (J4 (Jf (pmk cI q Jj (J0 (Ja (pv 1)) (J0 (Ja (pv 1)) (J0 (pv 2) (J0 (Ja (pv 1)) J3))))))),?_⟩
  refine⟨_,rfl,_,rfl,x,cs _,v,stF _,_,rfl,n,TS.cl _,TS.nW _,J34 _,_,rfl,x,cs _,v,stF _,_,rfl,n,TS.cl _,TS.nT _,Jm7 _,_,rfl,_,rfl,x,.us,v,stF _,rfl,n,J86 _ (by decide +kernel) (by decide +kernel) (by decide +kernel),_,rfl,x,y,.unders a t,r,rfl,rfl,⟨v,n⟩,R,win,l,fun U H1 D J=>?_⟩;refine⟨CR,y,U,z,pl,fr,r.ls,J6 r.top a,rfl,D _ _ u,e.cl,e.nL,k3,D _ _ Z,J,I,L,fun H2 C=>?_⟩;have N:=D.trans C;refine⟨_,_,rfl,rfl,⟨c.few,hsz⟩,y,r,a,_,rfl,R.same N,T,fun l1 H3 B M=>?_⟩;have g:=N.trans B;refine⟨_,rfl,y,CR,z,fr,_,rfl,g _ _ u,e.cl,e.nT,k1,_,rfl,y,CR,z,fr,_,rfl,g _ _ u,e.cl,e.nB,k2,_,rfl,_,rfl,y,CR,z,fr,_,rfl,g _ _ u,e.cl,e.nU,W,?_⟩;exact J3y left (.inr (g _ _ e1)) (.inr (g _ _ e2)) (.inl M) (.inr (g _ _ Y)) fun p H' s' R'=>k p H' (g.trans s') R'
 | home a=>cases m
 | even a b=>cases m
 | over a b=>cases m
 | under a b=>cases m
 | overs a t=>cases m
end
section
variable [En]
theorem atI_last{xs:List V}(h:xs.length=n+1)(e:xs[n]?=some v):atI xs (-1)=some v:=by
 unfold atI ixN;rw[if_neg (by decide),if_pos (by grind)];rw[h,show((-1:Int)+((n+1:Nat):Int)).toNat=n by lia];exact e
theorem Jg5(j:Nat)(row:List Nat):inV (V.int (j:Nat)) (nV row)=decide (j∈row):=by
 rw[J5k];unfold inV;rw[Bool.eq_iff_iff,List.any_eq_true,decide_eq_true_iff];constructor
 ·rintro⟨y,a,e⟩;obtain⟨i,hi,rfl⟩:=mem_map.mp a;have b:=e;have:i=j:=by have:=eq_of_beq b;lia
  exact this▸hi
 ·intro h;exact⟨V.int (j:Nat),mem_map.mpr ⟨j,h,rfl⟩,(beq_self_eq_true _:((j:Int)==(j:Int))=true)⟩
theorem Jkv(row:List Nat):(nV row).all J5l=true:=by
 rw[ all_eq_true];intro y a;obtain⟨i,_,rfl⟩:=mem_map.mp a;rfl
theorem Jcm(s:Stp):decide (V.str (Jlz (kd s))=V.str (Str.ofString "home"))=s.isHome:=by
 cases s <;> rfl
theorem flat_one(n:Nat):(replicate n [V.int 1]).flatten=iV (replicate n 1):=by
 simp_all
inductive Jfb(C:Addr)(vs:List V)(H:Hp)(Q:VK)(E:XK):Prop
 | mk(x:Addr)(ls:List Int)(os:List Nat)(ts:List Bool)(_:vs=[.ref x])(_:J2k C H x ls os ts)(_:1<=ls.length)(_:ls.length<=24)(_:∀p a,Same H a->a p=some (.tup (iV (replicate ls.length 1)))->Q (.ref p) a)
theorem Jmu:FS1 ["line"] J99:=fsc
theorem Jjt(F:Fn1 J99)(T:TxtR mg)(c:TxtC K mg C):
  Ca1 1 J99 (Jfb C):=by
 refine F.ok Jmu (fun f d A o s H vs Q E w h=>?_);obtain⟨x,ls,os,ts,rfl,L,B,z,k⟩:=h;obtain⟨q,j,pl,po,pt,ps,r,i,⟨k1,k2,k3,v,k5,u⟩,m,J,I,G,D⟩:=L.ex;refine⟨_,J4 (Jf (Ji Jj2 (J2g (J0 J9 J3)) (pcb Ju T.len (Ja (pv 0))))),?_⟩;refine⟨by decide,fun p a=>⟨_,rfl,x,C,q,j,_,rfl,J8 a _ _ i,c.cl,c.nL,k1,pl,_,rfl,.inr (SqT.of (J8 a _ _ m)),p,((iV ls).length:Int),[V.int 1],rfl,rfl,J7,by simp,?_,?_,?_,fun e=>?_,fun y g b=>?_⟩⟩
 ·rw[J2i];lia
 ·rw[J2i];lia
 ·show 1*((iV ls).length:Int).toNat<=sizeLine;rw[J2i];have:=Js (n:=ls.length) (by lia);lia
 ·rw[J2i] at e;have l:ls.length=1:=by lia
  refine k p _ (J8 a) ?_;rw[J7,l];rfl
 ·refine k g _ ((J8 a).trans (J8 b)) ?_;rw[J7,J2i,show((ls.length:Nat):Int).toNat=ls.length by lia,flat_one]
inductive Jp7(cs:Kd->Addr)(CR:Addr)(vs:List V)(H:Hp)(Q:VK)(E:XK):Prop
 | mk(tp x y z:Addr)(s:Stp)(r:Rst)(T:List Int)(_:vs=[.ref tp,.ref x,.ref y,.ref z])(_:H tp=some (.tup (iV T)))(_:J3r cs H x s)(_:J1h CR H y r)(_:J1h CR H z (s.behind r))(_:s.winner∈r.top)(_:s.winner∈r.bot)(_:s.winner<T.length)(_:T.length<=24)(_:CBig (T.getD s.winner 0) s.times)(_:∀p a,Same H a->a p=some (.tup (iV (towB s r T)))->Q (.ref p) a)
theorem J9t:FS1 ["towers","step","rest","behind","losers","grown","told","letter","tower"] Jkw:=fsc
theorem Js6(T:List Int)(h:i<T.length):iV (T.take i)++[V.int (T.getD i 0)]=iV (T.take (i+1)):=by
 show(T.take i).map V.int++_=(T.take (i+1)).map V.int;rw[List.take_add_one,map_append,getD_eq_getElem?_getD,gE h];rfl
theorem Jrh{CR:Addr}(F:Fn1 Jkw)(T:TxtR mg)(ac:mg "enumerate"=none)(TR:J1a K CR)(TS:TxtS K cs)(HL:∀k,HasM P w K mg base CX0 2 "losers" ["self","rest"] (J2w cs CR k) (cs k)):
  Ca1 3 Jkw (Jp7 cs CR):=by
 refine F.ok J9t (fun f d A o s H vs Q E hr h=>?_);obtain⟨tp,x,y,z,st,r,g,rfl,M,⟨W,S⟩,R,Z,wT,wB,wl,hn,big,k⟩:=h;have aa:Room 2 _:=hr.mono (by decide);refine⟨_,J1 (pst J9t 4 (J7s (sp:=J2w cs CR) (cls:=cs) (pv 1) HL aa Jj (J0 (pv 2) J3)))
  (J1 (pst J9t 5 (Ji J5t (Jt Jm (pv 0) (Ja (pv 1))) (Ja (pv 1))))
  (J1 (pst J9t 6 (J2h J3))
  (J1 (J30 PassesOwn.never rfl (Je2 rfl ac (J0 (pv 0) J3)) (J9v rfl (J2b (pgm J9t 7) (J2b (pgm J9t 8) J71)))
   (J4 (J1b (Jl J7d (pv 7) (Ja (pv 3)) rfl)
    (J4 (J1f (J5s plainAttrs_list slot_list_append type_list_append J26 (pv 6) (J0 J9 J3))))
    (J4 (J1b (Jl Jj4 (pv 7) (pv 4) rfl)
     (J4 (J1f (J5s plainAttrs_list slot_list_append type_list_append J26 (pv 6) (J0 (Ji J13 (pv 8) (pv 5)) J3))))
     (J4 (J1f (J5s plainAttrs_list slot_list_append type_list_append J26 (pv 6) (J0 (pv 8) J3)))))))))
  (J4 (Jf (pct J1s T.tuple (pv 6))))))),?_⟩
 refine⟨_,rfl,x,kd st,W,stF st,rfl,S,J86 _ (by decide +kernel) (by decide +kernel) (by decide +kernel),_,rfl,x,y,st,r,rfl,rfl,⟨W,S⟩,R,wT,wB,fun O Ha sa ab=>?_⟩;refine⟨_,rfl,_,rfl,x,cs (kd st),W,stF st,_,rfl,sa _ _ S,TS.cl _,TS.nW _,J34 _,tp,_,_,_,rfl,rfl,SqT.of (sa _ _ M),Je (J1d wl),_,rfl,x,cs (kd st),W,stF st,_,rfl,sa _ _ S,TS.cl _,TS.nT _,Jm7 _,_,_,rfl,rfl,big,?_⟩;refine⟨Nat.zero_le _,fun tl B=>?_⟩;have m:=Jew st r g;have q:=sa _ _ M;refine⟨_,rfl,tp,rfl,⟨_,SqT.of (J8 B _ _ q)⟩,Jga (K:=K) (a:=tp) (xs:=iV g)
  (fun i σ G=>∃v I,σ=[some (.ref tp),some (.ref x),some (.ref y),some (.ref z),some (.ref O),some (.int (g.getD st.winner 0*st.times)),some (.ref tl),v,I]/\G tl=some (.lst (iV ((towB st r g).take i)))/\Same Ha G)
  ⟨none,none,rfl,J7,J8 B⟩ (fun i σ G _ h9=>by obtain⟨_,_,_,_,L⟩:=h9;exact SqT.of (L _ _ q)) ?_ ?_⟩
 ·rintro i y' σ G t hy ⟨v,I,rfl,U,L⟩ ht;have C:i<g.length:=by
   have:=(gS hy);rw[length_map] at this;exact this
  rw[J1d C] at hy;cases hy;have J:=J8 (o:=.tup [.int (i:Int),.int (g.getD i 0)]) ht;have s3:=L.trans J;have j:=J _ _ U;obtain⟨dz,fz,zt,zb,zl,zu,w0,⟨w1,w2,w3,w4,w5⟩,v1,v2,v3,v4⟩:=((Z.same sa).same s3).ex;have N:=s3 _ _ ab;have D:=Jex st r g C;have sn:=Js6 (towB st r g) (i:=i) (by rw[m];exact C);have l:(iV ((towB st r g).take i)).length<sizeLine:=by
   rw[J2i,length_take];have:=Js (n:=24) (by lia);lia
  have fin:∀u,u=(towB st r g).getD i 0->∀Y,Y=upd G t (.tup [.int (i:Int),.int (g.getD i 0)])->(∃v I,[some (V.ref tp),some (.ref x),some (.ref y),some (.ref z),some (.ref O),some (.int (g.getD st.winner 0*st.times)),some (.ref tl),some (.int (i:Int)),some (.int (g.getD i 0))]=[some (.ref tp),some (.ref x),some (.ref y),some (.ref z),some (.ref O),some (.int (g.getD st.winner 0*st.times)),some (.ref tl),v,I]/\
    (upd Y tl (.lst (iV ((towB st r g).take i)++[.int u]))) tl=some (.lst (iV ((towB st r g).take (i+1))))/\Same Ha (upd Y tl (.lst (iV ((towB st r g).take i)++[.int u])))):=by
   rintro u rfl Y rfl;refine⟨_,_,rfl,by rw[J7,sn],fun b o e=>?_⟩;rw[Jh (Jb e B)];exact s3 _ _ e
  refine⟨t,_,rfl,SqT.of J7,rfl,_,_,rfl,_,_,rfl,rfl,?_⟩;refine⟨_,rfl,_,rfl,z,CR,dz,fz,_,rfl,w0,TR.cl,TR.nT,w1,zt,_,rfl,.inr (SqT.of v1),rfl,Jkv _,_,rfl,?_⟩;by_cases c:i∈(st.behind r).top
  ·refine J7n (show ¬ (!inV (V.int (i:Nat)) (nV (st.behind r).top))=true by rw[Jg5];simpa using c) ?_;rw[if_pos c] at D;refine⟨_,rfl,_,rfl,O,_,rfl,.inr (SqT.of N),rfl,Jkv _,_,rfl,?_⟩;by_cases X:i∈st.losers r
   ·refine J76 (show inV (V.int (i:Nat)) (nV (st.losers r))=true by rw[Jg5];exact decide_eq_true X) ?_;rw[if_pos X] at D;exact⟨_,rfl,.inl ⟨rfl,_,SqL.of j⟩,_,rfl,_,rfl,_,_,rfl,rfl,tl,_,_,rfl,rfl,j,l,fin _ D.symm _ rfl⟩
   ·refine J7n (show ¬ inV (V.int (i:Nat)) (nV (st.losers r))=true by rw[Jg5];simpa using X) ?_;rw[if_neg X] at D;exact⟨_,rfl,.inl ⟨rfl,_,SqL.of j⟩,_,rfl,tl,_,_,rfl,rfl,j,l,fin _ D.symm _ rfl⟩
  ·refine J76 (show(!inV (V.int (i:Nat)) (nV (st.behind r).top))=true by rw[Jg5];simpa using c) ?_;rw[if_neg c] at D;exact⟨_,rfl,.inl ⟨rfl,_,SqL.of j⟩,tl,_,_,rfl,rfl,j,l,fin _ D.symm _ rfl⟩
 ·rintro σ G ⟨v,I,rfl,U,L⟩;rw[J2i,<- m,take_length] at U;exact⟨_,rfl,J1w (.inl U) fun p H' s' hp=>k p H' ((sa.trans L).trans s') hp⟩
noncomputable def J9i(b:Band):List V:=[.int b.1,.int b.2.1,.int b.2.2.1,.bl b.2.2.2]
noncomputable abbrev bz:Band:=(0,0,0,false)
noncomputable def bndS(s:Stp)(r:Rst)(T:List Int):List Band:=if s.isHome=true then [((s.behind r).size,r.ls.getD s.winner 0,T.getD s.winner 0,r.ts.getD s.winner false)] else []
inductive Jfe(cs:Kd->Addr)(CR:Addr)(vs:List V)(H:Hp)(Q:VK)(E:XK):Prop
 | mk(tp x y z:Addr)(s:Stp)(r:Rst)(T:List Int)(_:vs=[.ref x,.ref y,.ref z,.ref tp])(_:H tp=some (.tup (iV T)))(_:J3r cs H x s)(_:J1h CR H y r)(_:J1h CR H z (s.behind r))(_:s.winner<r.ls.length)(_:s.winner<r.ts.length)(_:s.winner<T.length)(_:∀p ys a,Same H a->a p=some (.lst ys)->Refs (fun q j=>a q=some (.tup (J9i ((bndS s r T).getD j bz)))) ys (bndS s r T).length->Q (.ref p) a)
theorem Jfj:FS1 ["step","rest","behind","towers","winner"] J9c:=fsc
theorem Jjy{CR:Addr}(F:Fn1 J9c)(a:J1a K CR)(TS:TxtS K cs)(W:∀k,HasM P w K mg base CX0 1 "word" ["self"] (J4p k) (cs k)):
  Ca1 2 J9c (Jfe cs CR):=by
 refine F.ok Jfj (fun f d A o s H vs Q E O h=>?_);obtain⟨tp,x,y,z,st,r,Tl,rfl,e,⟨n,j⟩,R,Z,C,B,D,k⟩:=h;have g:Room 1 _:=O.mono (by decide);obtain⟨m,l,yt,yb,v,u,i,⟨q1,q2,L,J,q5⟩,p1,p2,N,M⟩:=R.ex;obtain⟨U,T,zt,Y,zl,X,I,⟨w1,w2,w3,w4,G⟩,v1,v2,v3,v4⟩:=Z.ex;refine⟨_,J1 (J1b (Jl J72 (J8f (sp:=J4p) (cls:=cs) (pv 0) W g Jj) J35 (Jp _)) (J4 (Jf (J2h J3))) Jo)
  (J1 (pst Jfj 4 (Ja (pv 0)))
  (J4 (Jf (J2h (J0 (J2g (J0 (Ja (pv 2)) (J0 (Jt Jm (Ja (pv 1)) (pv 4)) (J0 (Jt Jm (pv 3) (pv 4)) (J0 (Jt Jm (Ja (pv 1)) (pv 4)) J3))))) J3))))),?_⟩
 refine⟨_,rfl,x,kd st,n,stF st,rfl,j,J86 _ (by decide +kernel) (by decide +kernel) (by decide +kernel),x,rfl,rfl,_,rfl,?_⟩;have hw:=Jcm st;by_cases c:st.isHome=true
 ·refine J7n (show ¬ (!decide (V.str (Jlz (kd st))=V.str (Str.ofString "home")))=true by rw[hw,c];decide) ?_;refine⟨_,rfl,x,cs (kd st),n,stF st,_,rfl,j,TS.cl _,TS.nW _,J34 _,?_⟩;refine⟨_,rfl,z,CR,U,T,_,rfl,I,a.cl,a.nZ,G,_,rfl,y,CR,m,l,_,rfl,i,a.cl,a.nL,L,_,rfl,v,_,_,_,rfl,rfl,SqT.of N,Je (J1d C),_,rfl,_,rfl,tp,_,_,_,rfl,rfl,SqT.of e,Je (J1d D),
   _,rfl,y,CR,m,l,_,rfl,i,a.cl,a.nU,J,_,rfl,u,_,_,_,rfl,rfl,SqT.of M,Je (J7k B),(by show 4<=sizeLine;decide),fun q S=>⟨(by show 1<=sizeLine;decide),fun p b=>?_⟩⟩
  exact k p _ _ ((J8 S).trans (J8 b)) J7 (by unfold bndS;rw[if_pos c];exact Refs.nil.snoc (J8 b _ _ J7))
 ·refine J76 (show(!decide (V.str (Jlz (kd st))=V.str (Str.ofString "home")))=true by rw[hw];simpa using c) ?_;exact⟨Nat.zero_le _,fun p b=>k p _ _ (J8 b) J7 (by unfold bndS;rw[if_neg c];exact Refs.nil)⟩
end
section
theorem Jo9(ok:r.Ok)(ne:r.top≠[])(e:r.size<=10^30):Fit (nextN r) r:=by
 have np:=J5j ok ne;refine⟨ok,ok.next ne,np.win ok ne,fun b hb=>?_,Nat.lt_of_le_of_lt (np.times ok ne e) (by decide),e⟩;have mT:=ok.mT ne;have mB:=ok.mB ne;generalize nextN r=st at *;have inj:∀{i j:Nat},V.int (i:Nat)=V.int (j:Nat)->i=j:=fun q=>by have:=V.int.inj q;lia
 cases st with
 | even a b'=>obtain rfl:=inj hb;obtain⟨_,d,c,_⟩:=np;exact⟨by rw[d];exact mB,c⟩
 | over a b'=>obtain rfl:=inj hb;obtain⟨_,d,c,_⟩:=np;exact⟨by rw[d];exact mB,c⟩
 | under a b'=>obtain rfl:=inj hb;obtain⟨_,d,c,_⟩:=np;exact⟨by rw[d];exact mT,c⟩
 | home a=>cases hb
 | overs a t=>cases hb
 | unders a t=>cases hb
end
section
variable [En]
structure Jdg(K:Frag)(CH:Addr):Prop where
 cl:Cls K CH
 nL:J18 K CH "line"
 nR:J18 K CH "rests"
 nS:J18 K CH "steps"
 nT:J18 K CH "towers"
 nB:J18 K CH "bands"
structure J55(CH CR:Addr)(cs:Kd->Addr)(H:Hp)(x xl:Addr)(p0:Cst)(m:Nat):Prop where
 ex:∃(dx:Addr) (fs:List (Str×V)) (pr ps pt pb:Addr) (xr xs xt xb:List V),H x=some (.ins CH dx fs)/\(fs.lookup ("line":Str)=some (.ref xl)/\fs.lookup ("rests":Str)=some (.ref pr)/\fs.lookup ("steps":Str)=some (.ref ps)/\fs.lookup ("towers":Str)=some (.ref pt)/\fs.lookup ("bands":Str)=some (.ref pb))/\
  (H pr=some (.tup xr)/\H ps=some (.tup xs)/\H pt=some (.tup xt)/\H pb=some (.tup xb))/\Refs (fun q i=>J1h CR H q (chN p0 i).1) xr (m+1)/\Refs (fun q i=>J3r cs H q (nextN (chN p0 i).1)) xs m/\Refs (fun q i=>H q=some (.tup (iV (chN p0 i).2))) xt (m+1)/\
  Refs (fun q i=>H q=some (.tup (J9i ((bndN p0 m).getD i bz)))) xb (bndN p0 m).length
theorem J55.kp{CR:Addr}(h:J55 CH CR cs H x xl p0 m)(s:Kp H H'):J55 CH CR cs H' x xl p0 m:=by
 obtain⟨w,fs,l,ps,pt,n,xr,xs,c,d,v,b,⟨u,r,p,o⟩,j,g,f,e⟩:=h.ex;exact⟨w,fs,l,ps,pt,n,xr,xs,c,d,s _ _ v (by simp[okO,b.2.1]),b,⟨s _ _ u rfl,s _ _ r rfl,s _ _ p rfl,s _ _ o rfl⟩,j.mono fun q i _ a=>a.kp s,g.mono fun q i _ a=>a.kp s,f.mono fun q i _ a=>s _ _ a rfl,e.mono fun q i _ a=>s _ _ a rfl⟩
theorem J55.same{CR:Addr}(h:J55 CH CR cs H x xl p0 m)(s:Same H H'):J55 CH CR cs H' x xl p0 m:=h.kp (Kp.of s)
noncomputable abbrev J21(ls:List Int)(os:List Nat)(ts:List Bool):Cst:=(J20 ls os ts,replicate ls.length 1)
inductive Jif(C CR CH:Addr)(cs:Kd->Addr)(vs:List V)(H:Hp)(Q:VK)(E:XK):Prop
 | mk(x b xl:Addr)(ls:List Int)(os:List Nat)(ts:List Bool)(_:vs=[.ref x,.ref xl])(_:H x=some (.ins CH b []))(_:J2k C H xl ls os ts)(_:(J20 ls os ts).Ok)(_:(J20 ls os ts).size<=10^30)(_:1<=ls.length)(_:∀m a,Long (J21 ls os ts) m->(chN (J21 ls os ts) m).1.top=[]->J55 CH CR cs a x xl (J21 ls os ts) m->J23 x H a->Q .non a)
theorem J4c:Jr ["self","line","rest","rests","steps","towers","bands","step","behind"] ["self","line"] (Jd (Jc (top 52) 0)):=fsc
theorem Jpu:(6367451:Nat)+5<=sizeLine:=by decide
theorem Jse(h:Cok p)(ne:p.1.top≠[]):CBig (p.2.getD (nextN p.1).winner 0) (nextN p.1).times:=by
 have w:=(J5j h.ok ne).win h.ok ne;have c:=h.tow.le h.ok w;have b:=h.tow.pos _ w;have a:=(J5j h.ok ne).times h.ok ne h.size30;have e:(10:Nat)^30<2^4000:=by decide
 exact⟨Nat.lt_of_le_of_lt (show(p.2.getD (nextN p.1).winner 0).natAbs<=10^30 by lia) e,Nat.lt_of_le_of_lt a e⟩
theorem Jn5{H:Hp}{d:List Band}(a:Refs (fun q j=>H q=some (.tup (J9i (d.getD j bz)))) xs d.length)(b:Refs (fun q j=>H q=some (.tup (J9i (bs.getD j bz)))) ys bs.length):Refs (fun q j=>H q=some (.tup (J9i ((d++bs).getD j bz)))) (xs++ys) (d++bs).length:=by
 have la:=a.len;refine⟨by rw[length_append,length_append,la,b.len],fun i hi=>?_⟩;rw[getD_eq_getElem?_getD];by_cases c:i<d.length
 ·obtain⟨q,e,h⟩:=a.at_ i c;exact⟨q,by rw[getElem?_append_left (by lia)];exact e,by rw[getElem?_append_left c];exact h⟩
 ·rw[length_append] at hi;obtain⟨q,e,h⟩:=b.at_ (i-d.length) (by lia);exact⟨q,by rw[getElem?_append_right (by lia),la];exact e,by rw[getElem?_append_right (by lia)];exact h⟩
structure Wr(l:Addr)(xs:List V)(H H':Hp):Prop where
 own:H' l=some (.lst xs)
 oth:∀b u,H b=some u->b≠l->H' b=some u
theorem Wr.of :Wr l xs H (upd H l (.lst xs)):=⟨J7,fun b u e n=>by rw[Jh n];exact e⟩
theorem Wr.kp(w:Wr l xs H H')(h:H l=some (.lst ys)):Kp H H':=Kp.x w.oth h rfl
inductive CIn(CR:Addr)(cs:Kd->Addr)(a:Cst)(x xl d e lt f:Addr)(l:Hp)(m:Nat)(σ:St)(Hw:Hp):Prop
 | mk(i:Nat)(y:Addr)(xr xs b c:List V)(h g:Option V)(_:σ=[some (.ref x),some (.ref xl),some (.ref y),some (.ref d),some (.ref e),some (.ref lt),some (.ref f),h,g])(_:Long a i)(_:J1h CR Hw y (chN a i).1)(_:Same l Hw)(_:Hw d=some (.lst xr))(_:Hw e=some (.lst xs))(_:Hw lt=some (.lst b))(_:Hw f=some (.lst c))(_:Refs (fun q i=>J1h CR Hw q (chN a i).1) xr (i+1))(_:Refs (fun q i=>J3r cs Hw q (nextN (chN a i).1)) xs i)(_:Refs (fun q i=>Hw q=some (.tup (iV (chN a i).2))) b (i+1))(_:Refs (fun q j=>Hw q=some (.tup (J9i ((bndN a i).getD j bz)))) c (bndN a i).length)(_:m=(chN a i).1.size.toNat)
theorem Jo5{CR:Addr}(F:Fun K "__init__" "Chart.__init__" (Jc (top 52) 0) f fd)(T:TxtR mg)(TR:J1a K CR)(TS:TxtS K cs)(M:Jdg K CH)(a5:Ca1 4 J8z (Jf3 C CR))(a6:Ca1 1 J99 (Jfb C))(cN:Ca1 5 Jl4 (Jpf cs CR))(HB:∀k,HasM P w K mg base CX0 4 "behind" ["self","rest"] (J38 cs CR k) (cs k))(a7:Ca1 2 J9c (Jfe cs CR))(a4:Ca1 3 Jkw (Jp7 cs CR)):
  FnOk P w K mg base CX0 6 f fd ["self","line"] (Jif C CR CH cs):=by
 refine F.ok1 J4c (fun d A o s H vs Q E hr h=>?_);obtain⟨x,dx,xl,ls,os,ts,rfl,hx,L,ok0,as,h1,k⟩:=h;have au:Room 4 _:=hr.mono (by decide);refine⟨_,J1 (pst J4c 2 (pcl a5 hr Jj (J0 (pv 1) J3)))
  (J1 (pst J4c 3 (J2h (J0 (pv 2) J3)))
  (J1 (pst J4c 4 (J2h J3))
  (J1 (pst J4c 5 (J2h (J0 (pcl a6 hr Jj (J0 (pv 1) J3)) J3)))
  (J1 (pst J4c 6 (J2h J3))
  (J1 (Jfm PassesOwn.never (Jl J73 (Ja (pv 2)) J9 (Jp _))
   (J1 (pst J4c 7 (pcl cN hr Jj (J0 (pv 2) J3)))
   (J1 (pst J4c 8 (J7s (sp:=J38 cs CR) (cls:=cs) (pv 7) HB au Jj (J0 (pv 2) J3)))
   (J1 (J1f (J5s plainAttrs_list PySem.F.slot_list_extend PySem.F.type_list_extend Jcf (pv 6) (J0 (pcl a7 hr Jj (J0 (pv 7) (J0 (pv 2) (J0 (pv 8) (J0 (Jt J4z (pv 5) (Jaz J64 J9)) J3))))) J3)))
   (J1 (J1f (J5s plainAttrs_list slot_list_append type_list_append J26 (pv 5) (J0 (pcl a4 hr Jj (J0 (Jt J4z (pv 5) (Jaz J64 J9)) (J0 (pv 7) (J0 (pv 2) (J0 (pv 8) J3))))) J3)))
   (J1 (J1f (J5s plainAttrs_list slot_list_append type_list_append J26 (pv 4) (J0 (pv 7) J3)))
   (J1 (J1f (J5s plainAttrs_list slot_list_append type_list_append J26 (pv 3) (J0 (pv 8) J3)))
   (J4 (pst J4c 2 (pv 8))))))))))
  (J1 (J1o (pv 0) (pv 1) rfl)
  (J1 (J1o (pv 0) (pct J1s T.tuple (pv 3)) rfl)
  (J1 (J1o (pv 0) (pct J1s T.tuple (pv 4)) rfl)
  (J1 (J1o (pv 0) (pct J1s T.tuple (pv 5)) rfl)
  (J4 (J1o (pv 0) (pct J1s T.tuple (pv 6)) rfl))))))))))),?_⟩
 have few:=ok0.few;have J:Cok (J21 ls os ts):=Jbs ok0 as;refine⟨_,rfl,xl,ls,os,ts,rfl,L,few,fun y0 Hr sr R0=>?_⟩;refine⟨_,rfl,(by show 1<=sizeLine;decide),fun lr an=>⟨Nat.zero_le _,fun lq ae=>?_⟩⟩;have sa:=J8 (o:=.lst [V.ref y0]) an;have sq:=J8 (o:=.lst []) ae;have sb:=sa.trans sq;refine⟨_,rfl,xl,ls,os,ts,rfl,(L.same sr).same sb,h1,few,fun t0 Ht st am=>⟨(by show 1<=sizeLine;decide),fun lt S=>⟨Nat.zero_le _,fun lb I=>?_⟩⟩⟩;have sc:=sb.trans st;have sd:=J8 (o:=.lst [V.ref t0]) S;have se:=J8 (o:=.lst []) I;have sf:=(sc.trans sd).trans se;have ap:Hr lq=none:=sa.free ae;have ao:Hr lt=none:=sc.free S;have aq:Hr lb=none:=(sc.trans sd).free I;have X:lr≠lq:=Jb J7 ae;have r:=st _ _ (sq _ _ (J7 (H:=Hr) (a:=lr) (o:=.lst [V.ref y0])));have v:=st _ _ (J7 (a:=lq) (o:=.lst []));have W:=Jb r S;have aa:=Jb v S;have Y:=Jb (sd _ _ r) I;have ab:=Jb (sd _ _ v) I;have U:lt≠lb:=Jb J7 I;generalize hp0:J21 ls os ts=p0 at *;refine⟨CIn CR cs p0 x xl lr lq lt lb Hr,⟨_,0,y0,_,_,_,_,none,none,rfl,fun i hi=>absurd hi (Nat.not_lt_zero _),hp0▸R0.same sf,sf,se _ _ (sd _ _ r),se _ _ (sd _ _ v),se _ _ J7,J7,Refs.nil.snoc (hp0▸R0.same sf),Refs.nil,Refs.nil.snoc (hp0▸se _ _ (sd _ _ am)),Refs.nil,rfl⟩,?_⟩;clear R0 r v am;rintro m σ Hw ⟨i,y,xr,xs,xt,xb,v7,v8,rfl,lg,R,sw,ac,ad,O,B,rr,rs,rt,rb,rfl⟩;obtain⟨dy,fy,yt,yb,yl,yu,q0,⟨q1,q2,q3,q4,q5⟩,p1,p2,p3,p4⟩:=R.ex;have cok:=J.at_ lg;have a2:=J.few lg;refine⟨_,rfl,y,CR,dy,fy,_,rfl,q0,TR.cl,TR.nZ,q5,_,_,rfl,rfl,_,rfl,?_⟩;by_cases c:(chN p0 i).1.top=[]
 ·have sz:(chN p0 i).1.size=0:=by unfold Rst.size;rw[c];rfl
  refine iteD (by rw[sz];decide) ?_;have N:Hw x=some (.ins CH dx []):=sw _ _ (sr _ _ hx);have nx:∀{b:Addr} {u:HO},Hw b=some u->u≠.ins CH dx []->b≠x:=fun e n z=>n (by rw[z,N] at e;exact(Option.some.inj e).symm);have nr:=nx ac nofun;have nq:=nx ad nofun;have nt:=nx O nofun;have nb:=nx B nofun;refine⟨_,rfl,_,rfl,x,CH,dx,[],rfl,N,M.cl,M.nL,by decide,?_⟩;obtain⟨H1,e1,S1,_⟩:=(Sx.nil N).set (Same.refl _) "line" (.ref xl);rw[e1];refine⟨_,rfl,J1w (.inl (S1.kp _ _ ac nr)) fun pr H3 s3 ax=>⟨_,rfl,x,CH,dx,_,rfl,s3 _ _ S1.at_,M.cl,M.nR,S1.few,?_⟩⟩;obtain⟨H2,e2,S2,_,t1⟩:=S1.put s3 ax "rests";rw[e2];refine⟨_,rfl,J1w (.inl (S2.kp _ _ ad nq)) fun ps H3 s3 aw=>⟨_,rfl,x,CH,dx,_,rfl,s3 _ _ S2.at_,M.cl,M.nS,S2.few,?_⟩⟩;obtain⟨H3,e3,S3,k3,t2⟩:=S2.put s3 aw "steps";rw[e3];refine⟨_,rfl,J1w (.inl (S3.kp _ _ O nt)) fun pt H4 s4 av=>⟨_,rfl,x,CH,dx,_,rfl,s4 _ _ S3.at_,M.cl,M.nT,S3.few,?_⟩⟩;obtain⟨H4,e4,S4,k4,t3⟩:=S3.put s4 av "towers";rw[e4];refine⟨_,rfl,J1w (.inl (S4.kp _ _ B nb)) fun pb H5 s5 ay=>⟨_,rfl,x,CH,dx,_,rfl,s5 _ _ S4.at_,M.cl,M.nB,S4.few,?_⟩⟩;obtain⟨Hz,e5,S5,k5,t4⟩:=S4.put s5 ay "bands";rw[e5];have kz:Kp Hw Hz:=Kp.x S5.kp N rfl;refine k i Hz lg c ⟨dx,_,pr,ps,pt,pb,xr,xs,xt,xb,S5.at_,⟨by kernel_rfl,by kernel_rfl,by kernel_rfl,by kernel_rfl,by kernel_rfl⟩,⟨(((t1.kp k3).kp k4).kp k5).at_,((t2.kp k4).kp k5).at_,(t3.kp k5).at_,t4.at_⟩,rr.mono fun q j _ a=>a.kp kz,rs.mono fun q j _ a=>a.kp kz,rt.mono fun q j _ a=>kz _ _ a rfl,rb.mono fun q j _ a=>kz _ _ a rfl⟩ ((J23.of (sr.trans sw)).trans S5.kp)
 ·have ar:0<(chN p0 i).1.size:=by
   have:=J6l cok.ok.row.pos c;show 0<J2 _ _;lia
  refine J2s ar ?_;have down:=cok.ok.down c;have win:=(J5j cok.ok c).win cok.ok c;have hz:=cok.size30;have a1:=Jo9 cok.ok c hz;have D:=cok.tow.len;have wl:=cok.ok.row.lt _ win;have big:=Jse cok c;have aj:Long p0 (i+1):=fun j hj=>by
   by_cases e:j=i
   ·subst e;exact c
   ·exact lg j (by lia)
  have a8:=J.few aj;obtain⟨tq,a3,al⟩:=rt.at_ i (by lia);have last:=atI_last rt.len a3;have aA:=Jpu;have bl:=J83 p0 i;have aB:=J83 p0 (i+1);refine⟨_,fun σ' H' h=>h,?_⟩;refine⟨_,rfl,y,(chN p0 i).1,rfl,R,cok.ok,c,hz,fun xp Hn sn G=>?_⟩;obtain⟨af,G⟩:=G;refine⟨_,rfl,xp,kd (nextN (chN p0 i).1),af,stF (nextN (chN p0 i).1),rfl,G,J86 _ (by decide +kernel) (by decide +kernel) (by decide +kernel),_,rfl,xp,y,nextN (chN p0 i).1,(chN p0 i).1,rfl,rfl,⟨af,G⟩,R.same sn,a1,fun z Hb ai Z=>?_⟩;have Z:J1h CR Hb z (chN p0 (i+1)).1:=Z;have g:=sn.trans ai;have X1:J3r cs Hb xp (nextN (chN p0 i).1):=⟨af,ai _ _ G⟩;have a0:=g _ _ B;refine⟨_,rfl,.inl ⟨rfl,_,SqL.of a0⟩,_,rfl,_,rfl,_,rfl,_,rfl,_,rfl,lt,_,_,_,rfl,rfl,SqL.of (g _ _ O),last,tq,xp,y,z,nextN (chN p0 i).1,(chN p0 i).1,(chN p0 i).2,rfl,g _ _ al,X1,R.same g,Z,wl,(by rw[cok.ok.len];exact wl),(by rw[D];exact wl),fun bp ys Hc ah az ry=>?_⟩;have s1:=g.trans ah;have ly:=rb.len;have a9:(bndN p0 (i+1)).length=(bndN p0 i).length+ys.length:=by rw[ry.len];exact length_append
  refine⟨lb,bp,xb,ys,rfl,rfl,s1 _ _ B,az,by lia,?_⟩;have w1:=Wr.of (H:=Hc) (l:=lb) (xs:=xb++ys);generalize upd Hc lb (.lst (xb++ys))=Hd at *;have f1:Kp Hb Hd:=(Kp.of ah).trans (w1.kp (s1 _ _ B));have g1:=(Kp.of g).trans f1;have dt:=w1.oth _ _ (s1 _ _ O) U;refine⟨_,rfl,.inl ⟨rfl,_,SqL.of dt⟩,_,rfl,_,rfl,lt,_,_,_,rfl,rfl,SqL.of dt,last,_,rfl,_,rfl,_,rfl,tq,xp,y,z,nextN (chN p0 i).1,(chN p0 i).1,(chN p0 i).2,rfl,g1 _ _ al rfl,X1.kp f1,R.kp g1,Z.kp f1,win,cok.ok.perm.mem_iff.mpr win,(by rw[D];exact wl),(by rw[D];exact cok.ok.few),big,fun ag He p ak=>?_⟩;have et:=p _ _ dt;refine⟨lt,_,_,rfl,rfl,et,(by rw[rt.len];lia),?_⟩;have w2:=Wr.of (H:=He) (l:=lt) (xs:=xt++[.ref ag]);generalize upd He lt (.lst (xt++[.ref ag]))=Hf at *;have eq:=w2.oth _ _ (p _ _ (w1.oth _ _ (s1 _ _ ad) ab)) aa;refine⟨_,rfl,.inl ⟨rfl,_,SqL.of eq⟩,_,rfl,lq,xs,_,rfl,rfl,eq,(by rw[rs.len];lia),?_⟩;have w3:=Wr.of (H:=Hf) (l:=lq) (xs:=xs++[.ref xp]);generalize upd Hf lq (.lst (xs++[.ref xp]))=Hg at *;have er:=w3.oth _ _ (w2.oth _ _ (p _ _ (w1.oth _ _ (s1 _ _ ac) Y)) W) X;refine⟨_,rfl,.inl ⟨rfl,_,SqL.of er⟩,_,rfl,lr,xr,_,rfl,rfl,er,(by rw[rr.len];lia),?_⟩;have w4:=Wr.of (H:=Hg) (l:=lr) (xs:=xr++[.ref z]);generalize upd Hg lr (.lst (xr++[.ref z]))=Hh at *;have f4:Kp He Hh:=((w2.kp et).trans (w3.kp eq)).trans (w4.kp er);have fb:=(f1.trans (Kp.of p)).trans f4;have fw:=(Kp.of g).trans fb;have Ze:=Z.kp fb;refine⟨_,rfl,(chN p0 (i+1)).1.size.toNat,?_,i+1,z,_,_,_,_,_,_,rfl,aj,Ze,fun b o e=>w4.oth _ _ (w3.oth _ _ (w2.oth _ _ (p _ _ (w1.oth _ _ (s1 _ _ (sw _ _ e)) (Jb e aq))) (Jb e ao)) (Jb e ap)) (Jb e an),w4.own,w4.oth _ _ w3.own (Ne.symm X),w4.oth _ _ (w3.oth _ _ w2.own (Ne.symm aa)) (Ne.symm W),w4.oth _ _ (w3.oth _ _ (w2.oth _ _ (p _ _ w1.own) (Ne.symm U)) (Ne.symm ab)) (Ne.symm Y),(rr.mono fun q j _ a=>a.kp fw).snoc Ze,(rs.mono fun q j _ a=>a.kp fw).snoc (X1.kp fb),(rt.mono fun q j _ a=>fw _ _ a rfl).snoc (f4 _ _ ak rfl),Jn5 (rb.mono fun q j _ a=>fw _ _ a rfl) (ry.mono fun q j _ a=>((w1.kp (s1 _ _ B)).trans ((Kp.of p).trans f4)) _ _ a rfl),rfl⟩;have:=down.less;have e:(chN p0 (i+1)).1.size=((nextN (chN p0 i).1).behind (chN p0 i).1).size:=rfl;rw[e];lia
end
section
variable [En]
structure ChP(ls:List Int)(os:List Nat)(ts:List Bool)(m:Nat):Prop where
 good:Good ls os
 hts:ts.length=ls.length
 lg:Long (J21 ls os ts) m
 tp:(chN (J21 ls os ts) m).1.top=[]
noncomputable abbrev bsC(ls:List Int)(os:List Nat)(ts:List Bool)(m:Nat):List Band:=bndN (J21 ls os ts) m
noncomputable abbrev gC(ls:List Int)(os:List Nat)(ts:List Bool):Int->Int:=go (J20 ls os ts)
noncomputable abbrev rC(ls:List Int)(os:List Nat)(ts:List Bool)(k:Nat):Rst:=(chN (J21 ls os ts) k).1
noncomputable abbrev tC'(ls:List Int)(os:List Nat)(ts:List Bool)(k:Nat):List Int:=(chN (J21 ls os ts) k).2
noncomputable abbrev sC(ls:List Int)(os:List Nat)(ts:List Bool)(k:Nat):Stp:=nextN (chN (J21 ls os ts) k).1
section
variable{ls:List Int}{os:List Nat}{ts:List Bool}{m:Nat}
theorem ChP.ok0(h:ChP ls os ts m):(J20 ls os ts).Ok:=Jag h.good.perm h.good.pos h.hts h.good.hi
theorem ChP.z0(h:ChP ls os ts m):(J20 ls os ts).size<=10^30:=by rw[h.ok0.size_sum];exact h.good.sum
theorem ChP.cok(h:ChP ls os ts m):Cok (J21 ls os ts):=Jbs h.ok0 h.z0
theorem ChP.one(h:ChP ls os ts m):∀j∈(J21 ls os ts).1.top,(J21 ls os ts).2.getD j 0=1:=fun j a=>by
 simp_all
theorem ChP.sys(h:ChP ls os ts m):Sys (gC ls os ts) (J20 ls os ts).size (bsC ls os ts m):=h.cok.sys h.one (Jky (fun j a=>mem_range.mp a)) h.lg h.tp
theorem ChP.stp(h:ChP ls os ts m)(a:k<m):Jdh (gC ls os ts) (rC ls os ts k) (tC' ls os ts k) (sC ls os ts k):=h.cok.stepF h.one h.lg a
theorem ChP.few(h:ChP ls os ts m):m<=6367451:=h.cok.few h.lg
theorem ChP.lt(h:ChP ls os ts m)(a:k<=m)(d:0<=y)(b:y<(rC ls os ts k).size):k<m:=by
 apply Classical.byContradiction;intro c;obtain rfl:k=m:=by lia
 have e:(rC ls os ts k).size=0:=by
  show J2 _ (chN (J21 ls os ts) k).1.top=0;rw[h.tp];rfl
 lia
theorem ChP.sizes(h:ChP ls os ts m)(a:i<=k)(b:k<=m):(rC ls os ts k).size<=(rC ls os ts i).size:=h.cok.sizes h.lg a b
end
noncomputable def ChF(C CH CR:Addr)(cs:Kd->Addr)(H:Hp)(xc:Addr)(ls:List Int)(os:List Nat)(ts:List Bool)(m:Nat):Prop:=∃xl,J55 CH CR cs H xc xl (J21 ls os ts) m/\J2k C H xl ls os ts
theorem ChF.same{CR:Addr}{os:List Nat}(h:ChF C CH CR cs H xc ls os ts m)(s:Same H H'):ChF C CH CR cs H' xc ls os ts m:=
 by obtain⟨xl,a,l⟩:=h;exact⟨xl,a.same s,l.same s⟩
theorem Jp1(f:0<=a)(d:a<=10^30)(hb:0<=b)(c:b<=10^30):CBig a b:=by
 have e:(10:Nat)^30<2^4000:=by decide
 exact⟨Nat.lt_of_le_of_lt (show a.natAbs<=10^30 by lia) e,Nat.lt_of_le_of_lt (show b.natAbs<=10^30 by lia) e⟩
theorem Jsc(hb:0<b)(a:b<=10^30):Jsj i b:=by
 have e:(10:Nat)^30<2^4000:=by decide
 exact⟨hb,Nat.lt_of_le_of_lt (show b.natAbs<=10^30 by lia) e⟩
theorem at1{xs:List V}{k:Nat}(h:xs[k+1]?=some v):atI xs ((k:Int)+1)=some v:=by
 exact Je h
inductive Ji9(C CH CR:Addr)(cs:Kd->Addr)(vs:List V)(H:Hp)(Q:VK)(E:XK):Prop
 | mk(xc:Addr)(ls:List Int)(os:List Nat)(ts:List Bool)(m k:Nat)(_:vs=[.ref xc,.int (k:Nat)])(_:ChF C CH CR cs H xc ls os ts m)(_:ChP ls os ts m)(_:k<m)(_:Q (.int (((rC ls os ts k).size-(rC ls os ts (k+1)).size)/(sC ls os ts k).times)) H)
theorem Jqo:FS1 ["chart","at"] Jcs:=fsc
theorem Jnn{CR:Addr}(F:Fn1 Jcs)(b:J1a K CR)(TS:TxtS K cs)(a:Jdg K CH):
  Ca1 1 Jcs (Ji9 C CH CR cs):=by
 refine F.ok Jqo (fun f d A o s H vs Q E hr h=>?_);obtain⟨xc,ls,os,ts,m,k,rfl,Y,U,v,q⟩:=h;obtain⟨xl,Z,L0⟩:=Y;obtain⟨n,fs,r,ps,pt,pb,xr,xs,xt,xb,e,⟨lL,u,G,lT,lB⟩,⟨w,O,h3,h4⟩,p,D,B,r4⟩:=Z.ex;obtain⟨z,i,X⟩:=p.at_ k (by lia);obtain⟨y,g,W⟩:=p.at_ (k+1) (by lia);obtain⟨sp,j,⟨l,c⟩⟩:=D.at_ k v;obtain⟨tk,R,N⟩:=B.at_ k (by lia);obtain⟨T,fi,it,ib,il,iu,M,⟨i1,i2,i3,i4,L⟩,o1,o2,o3,o4⟩:=X.ex;obtain⟨S,P,_,_,_,_,J,⟨_,_,_,_,I⟩,_⟩:=W.ex;have tm:=(U.stp v).tms;refine⟨_,(J4 (Jf (Ji J7t (Ji J1i (Ja (Jt Jm (Ja (pv 0)) (pv 1))) (Ja (Jt Jm (Ja (pv 0)) (Ji J13 (pv 1) J9)))) (Ja (Jt Jm (Ja (pv 0)) (pv 1)))))),?_⟩;exact⟨_,rfl,xc,CH,n,fs,_,rfl,e,a.cl,a.nR,u,_,rfl,r,_,_,_,rfl,rfl,SqT.of (w),Je i,z,CR,T,fi,_,rfl,M,b.cl,b.nZ,L,_,rfl,xc,CH,n,fs,_,rfl,e,a.cl,a.nR,u,_,rfl,_,_,rfl,rfl,r,_,_,_,rfl,rfl,SqT.of (w),at1 g,y,CR,S,P,_,rfl,J,b.cl,b.nZ,I,_,_,rfl,rfl,_,rfl,xc,CH,n,fs,_,rfl,e,a.cl,a.nS,G,_,rfl,ps,_,_,_,rfl,rfl,SqT.of (O),Je j,sp,cs (kd (sC ls os ts k)),l,stF (sC ls os ts k),_,rfl,c,TS.cl _,TS.nT _,Jm7 _,_,_,rfl,rfl,Jsc (by lia) (by lia),q⟩
inductive Jpk(C CH CR:Addr)(cs:Kd->Addr)(vs:List V)(H:Hp)(Q:VK)(E:XK):Prop
 | mk(xc:Addr)(ls:List Int)(os:List Nat)(ts:List Bool)(m k:Nat)(y:Int)(_:vs=[.ref xc,.int (k:Nat),.int y])(_:ChF C CH CR cs H xc ls os ts m)(_:ChP ls os ts m)(_:k<m)(_:(sC ls os ts k).isHome=false)(_:((rC ls os ts (k+1)).size<=y/\y<(rC ls os ts k).size))(_:∀p a d b,Same H b->b p=some (.tup [.int a,.int d])->(0<=a/\a<(rC ls os ts (k+1)).size)->0<=d->J45 (gC ls os ts) (rC ls os ts (k+1)).size d.toNat a y->Q (.ref p) b)
theorem own_kd(s:Stp):ownB (kd s)=s.own:=by cases s <;> rfl
theorem J4t:FS1 ["chart","at","y","rest","step","towers","share","times","come"] Jd0:=fsc
theorem Jru{C CH CR:Addr}{cs:Kd->Addr}(F:Fn1 Jd0)(O:J1a K CR)(TS:TxtS K cs)(b:Jdg K CH)(ac:Ca1 1 Jcs (Ji9 C CH CR cs))(HO:∀k,HasM P w K mg base CX0 1 "own_first" ["self"] (Jdq k) (cs k))(I:Ca1 3 J91 (Jf4 CR))(ad:Ca1 2 J97 (Jf9 CR)):
  Ca1 4 Jd0 (Jpk C CH CR cs):=by
 refine F.ok J4t (fun f d A o s H vs Q E G h=>?_);obtain⟨xc,ls,os,ts,m,k,y,rfl,F0,cp,W,X,B,q⟩:=h;have T:Room 1 _:=G.mono (by decide);have ae:=F0;obtain⟨xl,A0,L0⟩:=F0;obtain⟨N,fs,pr,ps,pt,pb,xr,xs,xt,xb,M,⟨lL,lR,lS,lT,lB⟩,⟨h1,h2,h3,h4⟩,r1,r2,r3,r4⟩:=A0.ex;obtain⟨J,Z,R⟩:=r1.at_ k (by lia);obtain⟨yj,Y,Rj⟩:=r1.at_ (k+1) (by lia);obtain⟨sp,ab,⟨r,n⟩⟩:=r2.at_ k W;obtain⟨tk,aa,l⟩:=r3.at_ k (by lia);obtain⟨di,fi,it,ib,il,iu,i0,⟨i1,i2,i3,i4,i5⟩,o1,o2,o3,o4⟩:=R.ex;obtain⟨dj,fj,_,_,_,_,j0,⟨_,_,_,_,j5⟩,_⟩:=Rj.ex;have F:=cp.stp W;obtain⟨w1,w2,w3⟩:=F.win;obtain⟨t1,t2⟩:=F.tms;obtain⟨s1,L,s3⟩:=F.spn X;have wl:=F.ok.row.lt _ w1;have tl:=F.len;have zz:=F.sz;have e1:(rC ls os ts (k+1)).size=((sC ls os ts k).behind (rC ls os ts k)).size:=rfl;refine⟨_,(J1 (pst J4t 3 (Jt Jm (Ja (pv 0)) (pv 1)))
  (J1 (pst J4t 4 (Jt Jm (Ja (pv 0)) (pv 1)))
  (J1 (pst J4t 5 (Jt Jm (Ja (pv 0)) (pv 1)))
  (J1 (pst J4t 6 (pcl ac G Jj (J0 (pv 0) (J0 (pv 1) J3))))
  (J1 (J1b (J2x (J8f (sp:=Jdq) (cls:=cs) (pv 4) HO T Jj)) (J1 (pst J4t 7 (Ji J7t (Ji J1i (Ji J1i (Ja (pv 3)) J9) (pv 2)) (pv 6)))
   (J1 (pst J4t 8 (pcl I G Jj (J0 (pv 3) (J0 (Ji J13 (pv 2) (Ji J5t (pv 7) (pv 6))) J3))))
   (J4 (Jf (J2g (J0 (pv 8) (J0 (Ji J13 (Jt Jm (pv 5) (pcl ad G Jj (J0 (pv 3) (J0 (pv 8) J3)))) (Ji J5t (pv 7) (Jt Jm (pv 5) (Ja (pv 4))))) J3))))))) Jo)
  (J1 (pst J4t 7 (Ji J7t (Ji J1i (pv 2) (Ja (Jt Jm (Ja (pv 0)) (Ji J13 (pv 1) J9)))) (pv 6)))
  (J4 (Jf (J2g (J0 (Ji J1i (pcl I G Jj (J0 (pv 3) (J0 (pv 2) J3))) (Ji J5t (pv 7) (pv 6))) (J0 (Ji J5t (Ji J13 (pv 7) J9) (Jt Jm (pv 5) (Ja (pv 4)))) J3))))))))))),?_⟩
 refine⟨_,rfl,xc,CH,N,fs,_,rfl,M,b.cl,b.nR,lR,_,rfl,pr,_,_,_,rfl,rfl,SqT.of (h1),Je Z,?_⟩;refine⟨_,rfl,xc,CH,N,fs,_,rfl,M,b.cl,b.nS,lS,_,rfl,ps,_,_,_,rfl,rfl,SqT.of (h2),Je ab,?_⟩;refine⟨_,rfl,xc,CH,N,fs,_,rfl,M,b.cl,b.nT,lT,_,rfl,pt,_,_,_,rfl,rfl,SqT.of (h3),Je aa,?_⟩;refine⟨_,rfl,_,rfl,xc,ls,os,ts,m,k,rfl,ae,cp,W,?_⟩;rw[e1,s3];refine⟨_,rfl,sp,kd (sC ls os ts k),r,stF (sC ls os ts k),rfl,n,J86 _ (by decide +kernel) (by decide +kernel) (by decide +kernel),sp,rfl,_,rfl,?_⟩;rw[own_kd]
 cases hown:(sC ls os ts k).own with
 | true =>
  refine iteT ?_;obtain⟨D,q1,q2,S⟩:=Jow F.ok F.ne F.np F.okl F.down F.ret F.twr X hown B.1 B.2 (t':=((rC ls os ts k).size-1-y)/J2 (rC ls os ts k).ls ((sC ls os ts k).losers (rC ls os ts k))) rfl;have v:CBig (((rC ls os ts k).size-1-y)/J2 (rC ls os ts k).ls ((sC ls os ts k).losers (rC ls os ts k))) (J2 (rC ls os ts k).ls ((sC ls os ts k).losers (rC ls os ts k))):=Jp1 D (by lia) (by lia) L;have u:CBig (((rC ls os ts k).size-1-y)/J2 (rC ls os ts k).ls ((sC ls os ts k).losers (rC ls os ts k))) ((tC' ls os ts k).getD (sC ls os ts k).winner 0):=Jp1 D (by lia) (by lia) w3;refine⟨_,rfl,J,CR,di,fi,_,rfl,i0,O.cl,O.nZ,i5,_,_,rfl,rfl,_,rfl,_,_,rfl,rfl,_,rfl,_,_,rfl,rfl,Jsc (by lia) L,?_⟩;refine⟨_,rfl,_,rfl,_,rfl,_,rfl,_,_,rfl,rfl,v,_,_,rfl,rfl,J,rC ls os ts k,_,rfl,R,F.ok,fun z H1 a g=>?_,q2⟩;obtain⟨j,o,A,c,e⟩:=S z g;have zr:=A.inside F.ok;have lj:=F.ok.row.lt _ A.1;refine⟨_,rfl,_,rfl,_,rfl,_,rfl,J,rC ls os ts k,z,rfl,R.same a,F.ok.row,fun i hi=>?_,zr⟩;obtain⟨ej,_⟩:=A.same F.ok (J10.of_at F.ok hi);rw[<- ej];refine⟨tk,_,_,_,rfl,rfl,SqT.of (a _ _ l),Je (J1d (by rw[tl];exact lj)),_,rfl,_,rfl,_,rfl,sp,cs (kd (sC ls os ts k)),r,stF (sC ls os ts k),_,rfl,a _ _ n,TS.cl _,TS.nW _,J34 _,tk,_,_,_,rfl,rfl,SqT.of (a _ _ l),Je (J1d (by rw[tl];exact wl)),_,_,rfl,rfl,u,_,_,rfl,rfl,(by show 2<=sizeLine;decide),fun p U=>?_⟩;have pj:=F.twr.pos j A.1;have m0:0<=((rC ls os ts k).size-1-y)/J2 (rC ls os ts k).ls ((sC ls os ts k).losers (rC ls os ts k))*(tC' ls os ts k).getD (sC ls os ts k).winner 0:=Int.mul_nonneg D (by lia);exact q p _ _ _ (a.trans (J8 U)) J7 c (Int.add_nonneg (show 0<=(tC' ls os ts k).getD j 0 by lia) m0) e
 | false =>
  refine iteF ?_;obtain⟨D,q1,S⟩:=Jlm F.ok F.ne F.np F.okl F.down F.ret F.twr X hown B.1 B.2 (t':=(y-((sC ls os ts k).behind (rC ls os ts k)).size)/J2 (rC ls os ts k).ls ((sC ls os ts k).losers (rC ls os ts k))) rfl;have v:CBig ((y-((sC ls os ts k).behind (rC ls os ts k)).size)/J2 (rC ls os ts k).ls ((sC ls os ts k).losers (rC ls os ts k))) (J2 (rC ls os ts k).ls ((sC ls os ts k).losers (rC ls os ts k))):=Jp1 D (by lia) (by lia) L;have u:CBig ((y-((sC ls os ts k).behind (rC ls os ts k)).size)/J2 (rC ls os ts k).ls ((sC ls os ts k).losers (rC ls os ts k))+1) ((tC' ls os ts k).getD (sC ls os ts k).winner 0):=Jp1 (by lia) (by lia) (by lia) w3;refine⟨_,rfl,_,rfl,xc,CH,N,fs,_,rfl,M,b.cl,b.nR,lR,_,rfl,_,_,rfl,rfl,pr,_,_,_,rfl,rfl,SqT.of (h1),at1 Y,yj,CR,dj,fj,_,rfl,j0,O.cl,O.nZ,j5,_,_,rfl,rfl,_,rfl,_,_,rfl,rfl,Jsc (by lia) L,?_⟩;have yr:0<=y/\y<(rC ls os ts k).size:=by
   have zn:0<=((sC ls os ts k).behind (rC ls os ts k)).size:=J17 fun j hj=>by have:=F.okl.row.pos j hj;lia
   rw[e1] at B;exact⟨by lia,B.2⟩
  refine⟨_,rfl,_,rfl,J,rC ls os ts k,y,rfl,R,F.ok,fun z H1 a g=>?_,yr⟩;obtain⟨c,e⟩:=S z g;refine⟨_,rfl,_,rfl,_,_,rfl,rfl,v,_,_,rfl,rfl,_,rfl,_,_,rfl,rfl,_,rfl,_,rfl,sp,cs (kd (sC ls os ts k)),r,stF (sC ls os ts k),_,rfl,a _ _ n,TS.cl _,TS.nW _,J34 _,tk,_,_,_,rfl,rfl,SqT.of (a _ _ l),Je (J1d (by rw[tl];exact wl)),_,_,rfl,rfl,u,(by show 2<=sizeLine;decide),fun p U=>?_⟩;exact q p _ _ _ (a.trans (J8 U)) J7 c (Int.mul_nonneg (show 0<=(y-((sC ls os ts k).behind (rC ls os ts k)).size)/J2 (rC ls os ts k).ls ((sC ls os ts k).losers (rC ls os ts k))+1 by lia) (show 0<=(tC' ls os ts k).getD (sC ls os ts k).winner 0 by lia)) e
end
section
variable [En]
inductive Jih(C CH CR a:Addr)(cs:Kd->Addr)(vs:List V)(H:Hp)(Q:VK)(E:XK):Prop
 | mk(xc:Addr)(ls:List Int)(os:List Nat)(ts:List Bool)(m:Nat)(x:Int)(_:vs=[.ref xc,.int x])(_:ChF C CH CR cs H xc ls os ts m)(_:ChP ls os ts m)(_:(0<=x/\x<(J20 ls os ts).size->∀p (b:Nat) o lv H',Same H H'->H' p=some (.tup [.int (b:Nat),.int o,.int lv])->Adr (bsC ls os ts m) b o lv->plOf (gC ls os ts) (bsC ls os ts m) b o lv=x->Q (.ref p) H'))(_:¬ (0<=x/\x<(J20 ls os ts).size)->E (.ref a) none H)
theorem J6b:FS1 ["chart","x","at","y","level","come","start"] Jho:=fsc
theorem Jrx{CR:Addr}(F:Fn1 Jho)(TC:TxtC K mg C)(G:J1a K CR)(TS:TxtS K cs)(c:Jdg K CH)(ag:Ca1 4 Jd0 (Jpk C CH CR cs))(TO:TxtX K mg "Outside" CO)(HW:∀k,HasM P w K mg base CX0 1 "word" ["self"] (J4p k) (cs k)):
  Cx1 5 Jho (Jih C CH CR CO cs):=by
 refine F.okX J6b (fun f d A o s H vs Q E hr h=>?_);obtain⟨xc,ls,os,ts,m,x,rfl,F0,l,q,kx⟩:=h;have ab:Room 1 _:=hr.mono (by decide);have ah:=F0;obtain⟨xl,A0,L0⟩:=F0;obtain⟨N,fs,Z,ps,pt,pb,xr,xs,xt,xb,L,⟨lL,lR,lS,lT,lB⟩,⟨h1,h2,h3,h4⟩,r1,r2,r3,r4⟩:=A0.ex;obtain⟨dl,fl,pl,po,pu,pZ,aj,l0,⟨_,_,_,_,_,l6⟩,_⟩:=L0.ex;have ai:(J20 ls os ts).size=ls.sum:=Jgr ls os ts;have S:=l.sys;have fw:=l.few;refine⟨_,(J1 (J1b (PW.pt (Jdy (Jl J9l (pv 1) J9 (Jp _)) (Jca (Jl Jrf (pv 1) (Ja (Ja (pv 0))) (Jp _))))) (J4 (Jne rfl TO.mg TO.ex)) Jo)
  (J1 (pst J6b 2 J9)
  (J1 (pst J6b 3 (pv 1))
  (J1 (pst J6b 4 J9)
  (J1 (ps_nox (Jfm PassesOwn.never (PW.pt (Jdy (Jl J9l (pv 3) (Ja (Jt Jm (Ja (pv 0)) (Ji J13 (pv 2) J9))) (Jp _)) (Jca (Jl J72 (J8f (sp:=J4p) (cls:=cs) (Jt Jm (Ja (pv 0)) (pv 2)) HW ab Jj) J35 (Jp _)))))
   (J1 (J1b (Jl Jrf (pv 3) (Ja (Jt Jm (Ja (pv 0)) (Ji J13 (pv 2) J9))) (Jp _)) (J1 (pst J6b 5 (pcl ag hr Jj (J0 (pv 0) (J0 (pv 2) (J0 (pv 3) J3)))))
    (J1 (pst J6b 3 (Jt Jm (pv 5) J9))
    (J4 (pst J6b 4 (Ji J13 (pv 4) (Jt Jm (pv 5) J9)))))) Jo)
   (J4 (pst J6b 2 (Ji J13 (pv 2) J9))))))
  (J1 (pst J6b 6 (Ja (Jt Jm (Ja (pv 0)) (Ji J13 (pv 2) J9))))
  (J4 (Jf (J2g (J0 (J5s plainAttrs_list slot_list_index type_list_index J8k (Jb1 (caps:=[]) (js:=[]) rfl (J7b (Ja (pv 0))) rfl (fun _ _ _ _=>J3s) (fun C fp s H=>J6f (J5x K) (pv 0) J9)) (J0 (pv 6) J3)) (J0 (Ji J1i (pv 3) (pv 6)) (J0 (pv 4) J3)))))))))))),?_⟩
 by_cases c0:x<0
 ·exact⟨_,rfl,_,_,rfl,rfl,_,rfl,J2s c0 (kx (by lia))⟩
 refine⟨_,rfl,_,_,rfl,rfl,_,rfl,iteD c0 ?_⟩;refine⟨_,rfl,_,rfl,xc,CH,N,fs,_,rfl,L,c.cl,c.nL,lL,xl,C,dl,fl,_,rfl,l0,TC.cl,TC.nZ,l6,_,_,rfl,rfl,_,rfl,?_⟩;by_cases c1:x>=ls.sum
 ·exact J2s c1 (kx (by lia))
 refine iteD c1 ⟨_,rfl,?_⟩;have m0:0<m:=l.lt (k:=0) (Nat.zero_le _) (y:=x) (by lia) (by show x<(J20 ls os ts).size;lia);refine⟨fun mu σ Hw=>∃(k:Nat) (y r:Int) (v5:Option V),k<m/\(0<=y/\y<(rC ls os ts k).size)/\0<=r/\J45 (gC ls os ts) (rC ls os ts k).size r.toNat y x/\mu=m-k/\σ=[some (.ref xc),some (.int x),some (.int (k:Nat)),some (.int y),some (.int r),v5,none]/\Same H Hw,
  ⟨_,0,x,0,none,m0,⟨by lia,by show x<(J20 ls os ts).size;lia⟩,Int.le_refl _,J45.zero,rfl,rfl,Same.refl _⟩,?_⟩
 rintro mu σ Hw ⟨k,y,r,v5,hk,hy,U,n,rfl,rfl,a⟩;obtain⟨yi,an,Ri⟩:=r1.at_ k (by lia);obtain⟨Y,z,Rj⟩:=r1.at_ (k+1) (by lia);obtain⟨sp,ad,⟨af,aa⟩⟩:=r2.at_ k hk;obtain⟨tk,ao,am⟩:=r3.at_ k (by lia);obtain⟨di,fi,it,ib,il,iu,i0,⟨i1,i2,i3,i4,i5⟩,o1,o2,o3,o4⟩:=Ri.ex;obtain⟨dj,fj,_,_,_,_,j0,⟨_,_,_,_,j5⟩,_⟩:=Rj.ex;have R:=l.sizes (i:=k) (k:=k+1) (by lia) (by lia);refine⟨_,rfl,_,rfl,xc,CH,N,fs,_,rfl,a _ _ L,c.cl,c.nR,lR,_,rfl,_,_,rfl,rfl,Z,_,_,_,rfl,rfl,SqT.of (a _ _ h1),at1 z,Y,CR,dj,fj,_,rfl,a _ _ j0,G.cl,G.nZ,j5,_,_,rfl,rfl,_,rfl,?_⟩;by_cases D:y<(rC ls os ts (k+1)).size
 ·refine J2s D ?_;refine⟨_,fun σ' H' h=>h,?_⟩;refine⟨_,rfl,_,rfl,xc,CH,N,fs,_,rfl,a _ _ L,c.cl,c.nR,lR,_,rfl,_,_,rfl,rfl,Z,_,_,_,rfl,rfl,SqT.of (a _ _ h1),at1 z,Y,CR,dj,fj,_,rfl,a _ _ j0,G.cl,G.nZ,j5,_,_,rfl,rfl,_,rfl,iteD (Int.not_le.mpr D) ?_⟩;have I:=l.lt (k:=k+1) (by lia) hy.1 D;refine⟨_,rfl,_,_,rfl,rfl,m-(k+1),by lia,k+1,y,r,v5,I,⟨hy.1,D⟩,U,n.low R,rfl,?_,a⟩;rw[show(((k+1:Nat):Int))=(k:Int)+1 by lia];rfl
 refine iteD D ?_;refine⟨_,rfl,xc,CH,N,fs,_,rfl,a _ _ L,c.cl,c.nS,lS,_,rfl,ps,_,_,_,rfl,rfl,SqT.of (a _ _ h2),Je ad,sp,kd (sC ls os ts k),af,stF (sC ls os ts k),rfl,a _ _ aa,J86 _ (by decide +kernel) (by decide +kernel) (by decide +kernel),sp,rfl,rfl,_,rfl,?_⟩;have hw:=Jcm (sC ls os ts k);by_cases J:(sC ls os ts k).isHome=true
 ·refine J7n (by rw[hw,J];decide) ?_;obtain⟨b,hb,eb⟩:=Jkp (p:=J21 ls os ts) hk J;obtain⟨Bn,O,b2⟩:=l.cok.band l.one (k:=k) (fun i hi=>l.lg i (by lia)) J;have u:(bsC ls os ts m).getD b bz0=J3v (chN (J21 ls os ts) k):=eb;obtain⟨im,ix⟩:=S.starts hb;rw[u,O] at im ix;have lb:=J83 (J21 ls os ts) m;have X:=Int.not_lt.mp D;obtain⟨e,M⟩:∃e,e=(rC ls os ts (k+1)).size:=⟨_,rfl⟩;have O:(J3v (chN (J21 ls os ts) k)).1=e:=O.trans M.symm;have b2:(J3v (chN (J21 ls os ts) k)).1+(J3v (chN (J21 ls os ts) k)).2.1=(rC ls os ts k).size:=b2;have X:e<=y:=by rw[M];exact X
  have al:=hy.2;rw[O] at b2;have Fb:=Bn.2.2 (y-e) (by lia) (by lia);have fl:=J6o (b:=J3v (chN (J21 ls os ts) k)) (o:=y-e) (by lia) (by lia);rw[O,show e+(y-e)=y by lia,b2] at Fb;have lt:=n.lt Fb (by lia);refine⟨_,rfl,xc,CH,N,fs,_,rfl,a _ _ L,c.cl,c.nR,lR,_,rfl,_,_,rfl,rfl,Z,_,_,_,rfl,rfl,SqT.of (a _ _ h1),at1 z,Y,CR,dj,fj,_,rfl,a _ _ j0,G.cl,G.nZ,j5,?_⟩;have T:xb.length=(bsC ls os ts m).length:=r4.len;refine⟨_,rfl,xc,CH,N,fs,_,rfl,a _ _ L,c.cl,c.nB,lB,pb,rfl,⟨_,SqT.of (a _ _ h4)⟩,fun d hd=>Js2 xb (fun i=>V.int ((bsC ls os ts m).getD i bz0).1) (SqT.of (a _ _ h4)) (by have:=Jpu;have ak:(bsC ls os ts m).length<=m:=lb;lia) hd (fun i Hc Qe v hv sc k'=>?_) (fun H5 s5 W=>?_)⟩
  ·have hi:i<(bsC ls os ts m).length:=by rw[<- T];exact(gS hv)
   obtain⟨bp,ae,ac⟩:=r4.at_ i hi;obtain rfl:v=.ref bp:=Option.some.inj (hv.symm.trans ae);exact⟨_,rfl,bp,_,_,_,rfl,rfl,SqT.of (sc _ _ (a _ _ ac)),Je (j:=0) rfl,k' _ (Same.refl _)⟩
  rw[T] at W;have B:H5 d=some (.lst (iV (J5n (bsC ls os ts m)))):=by
   rw[W];show _=some (HO.lst (List.map V.int (List.map _ _)));rw[map_map];rfl
  refine⟨.inl ⟨rfl,_,SqL.of B⟩,_,rfl,d,J5n (bsC ls os ts m),(rC ls os ts (k+1)).size,rfl,rfl,SqL.of B,im,?_⟩;rw[ix];refine⟨_,rfl,_,rfl,_,_,rfl,rfl,_,rfl,(by show 3<=sizeLine;decide),fun p hp=>?_⟩;refine q ⟨by lia,by lia⟩ p b (y-e) r _ (a.trans (s5.trans (J8 hp))) (by rw[J7,M]) ⟨hb,by lia,by rw[u];lia,U,by rw[u];lia⟩ ?_;unfold plOf;rw[u,O,show e+(y-e)=y by lia];exact n.last
 ·refine J76 (by rw[hw];simpa using J) ?_;have J:(sC ls os ts k).isHome=false:=by simpa using J
  refine⟨_,fun σ' H' h=>h,?_⟩;refine⟨_,rfl,_,rfl,xc,CH,N,fs,_,rfl,a _ _ L,c.cl,c.nR,lR,_,rfl,_,_,rfl,rfl,Z,_,_,_,rfl,rfl,SqT.of (a _ _ h1),at1 z,Y,CR,dj,fj,_,rfl,a _ _ j0,G.cl,G.nZ,j5,_,_,rfl,rfl,_,rfl,J2s (Int.not_lt.mp D) ?_⟩;refine⟨_,rfl,_,rfl,_,rfl,xc,ls,os,ts,m,k,y,rfl,ah.same a,l,hk,J,⟨Int.not_lt.mp D,hy.2⟩,fun p y0 d H5 s5 hp g d0 rc=>?_⟩;refine⟨_,rfl,p,_,_,_,rfl,rfl,SqT.of hp,Je (j:=0) rfl,?_⟩;refine⟨_,rfl,_,rfl,p,_,_,_,rfl,rfl,SqT.of hp,Je (j:=1) rfl,_,_,rfl,rfl,?_⟩;have I:=l.lt (k:=k+1) (by lia) g.1 g.2;refine⟨_,rfl,_,_,rfl,rfl,m-(k+1),by lia,k+1,y0,r+d,some (.ref p),I,g,by lia,?_,rfl,?_,a.trans s5⟩
  ·have:=rc.trans (n.low R);rw[show d.toNat+r.toNat=(r+d).toNat by lia] at this;exact this
  ·rw[show(((k+1:Nat):Int))=(k:Int)+1 by lia];rfl
end
section
variable [En]
inductive Jdr(vs:List V)(H:Hp)(Q:VK)(E:XK):Prop
 | mk(a:Addr)(b:Band)(o:Int)(_:vs=[.ref a,.int o])(_:H a=some (.tup (J9i b)))(_:Q (.int (b.2.1-1-o)) H)
theorem Jqt:FS1 ["band","offset"] Ja9:=fsc
theorem Jns(F:Fn1 Ja9):
  Ca1 1 Ja9 Jdr:=by
 refine F.ok Jqt (fun f d A o s H vs Q E c h=>?_);obtain⟨a,b,o,rfl,hb,q⟩:=h;refine⟨_,(J4 (Jf (Ji J1i (Ji J1i (Jt Jm (pv 0) J9) J9) (pv 1)))),?_⟩;exact⟨_,rfl,a,_,_,_,rfl,rfl,SqT.of hb,Je (j:=1) rfl,_,_,rfl,rfl,_,rfl,_,_,rfl,rfl,q⟩
inductive Jdt(vs:List V)(H:Hp)(Q:VK)(E:XK):Prop
 | mk(a:Addr)(b:Band)(o:Int)(_:vs=[.ref a,.int o])(_:H a=some (.tup (J9i b)))(_:Q (.int (lenR b o)) H)
theorem Jqy:FS1 ["band","offset"] Jac:=fsc
theorem Jnx(F:Fn1 Jac)(c:Ca1 1 Ja9 Jdr):
  Ca1 2 Jac Jdt:=by
 refine F.ok Jqy (fun f d A o s H vs Q E g h=>?_);obtain⟨a,b,o,rfl,hb,q⟩:=h;refine⟨_,(J1 (J1b (PW.pt (J8d (J2x (Jt Jm (pv 0) J9)) (J5o (Jl J72 (pv 1) (pcl c g Jj (J0 (pv 0) (J0 (pv 1) J3))) (Jp _))))) (J4 (Jf (Ji J9x J9 (Jt Jm (pv 0) J9)))) Jo)
  (J4 (Jf (Jt Jm (pv 0) J9)))),?_⟩
 unfold lenR at q;refine⟨_,rfl,a,_,_,_,rfl,rfl,SqT.of hb,Je (j:=3) rfl,_,rfl,?_⟩;by_cases ct:b.2.2.2=true
 ·refine J76 ct ?_;refine⟨_,rfl,_,rfl,_,rfl,a,b,o,rfl,hb,rfl,_,rfl,?_⟩;by_cases co:o=b.2.1-1-o
  ·refine Jcl (congrArg V.int co) ?_;rw[if_neg (fun h=>h.2 co)] at q;exact⟨_,rfl,a,_,_,_,rfl,rfl,SqT.of hb,Je (j:=2) rfl,q⟩
  ·refine J76 (by rw[decide_eq_false (fun e=>co (V.int.inj e))];rfl) ?_;rw[if_pos ⟨ct,co⟩] at q;exact⟨_,rfl,a,_,_,_,rfl,rfl,SqT.of hb,Je (j:=2) rfl,_,_,rfl,rfl,.inl ⟨by decide,by decide⟩,q⟩
 ·refine J7n ct (iteF ?_);rw[if_neg (fun h=>ct h.1)] at q;exact⟨_,rfl,a,_,_,_,rfl,rfl,SqT.of hb,Je (j:=2) rfl,q⟩
inductive Jdp(C CH CR c:Addr)(cs:Kd->Addr)(vs:List V)(H:Hp)(Q:VK)(E:XK):Prop
 | mk(xc:Addr)(ls:List Int)(os:List Nat)(ts:List Bool)(m:Nat)(x:Int)(_:vs=[.ref xc,.int x])(_:ChF C CH CR cs H xc ls os ts m)(_:ChP ls os ts m)(_:(0<=x/\x<(J20 ls os ts).size->∀(n b:Nat) (o a:Int) H',Same H H'->J44 (gC ls os ts) x n->Adr (bsC ls os ts m) b o a->plOf (gC ls os ts) (bsC ls os ts m) b o a=x->(n:Int)=lenR ((bsC ls os ts m).getD b bz0) o->Q (.int (n:Nat)) H'))(_:¬ (0<=x/\x<(J20 ls os ts).size)->E (.ref c) none H)
theorem Jio:FS1 ["chart","x","told"] Ja8:=fsc
theorem Jnp{CR:Addr}(F:Fn1 Ja8)(v:Jdg K CH)(l:Cx1 5 Jho (Jih C CH CR CO cs))(i:Ca1 2 Jac Jdt):
  Cx1 6 Ja8 (Jdp C CH CR CO cs):=by
 refine F.okX Jio (fun f d A o s H vs Q E q h=>?_);obtain⟨xc,ls,os,ts,m,x,rfl,w,u,k,G⟩:=h;obtain⟨xl,P,L0⟩:=id w;obtain⟨M,fs,Y,ps,pt,z,xr,xs,S,T,L,⟨lL,lR,lS,lT,D⟩,⟨h1,h2,h3,J⟩,X,W,U,y⟩:=P.ex;refine⟨_,(J1 (pst Jio 2 (pcl l q J8g (J0 (pv 0) (J0 (pv 1) J3))))
  (J4 (Jf (pcl i q Jj (J0 (Jt Jm (Ja (pv 0)) (Jt Jm (pv 2) J9)) (J0 (Jt Jm (pv 2) J9) J3)))))),?_⟩
 refine⟨_,rfl,_,rfl,xc,ls,os,ts,m,x,rfl,w,u,fun I p b o B O c r n ep=>?_,G⟩;obtain⟨N,g,a⟩:=y.at_ b n.hb;have a:=a;obtain⟨R,Z⟩:=u.sys.rnd n;refine⟨_,rfl,xc,CH,M,fs,_,rfl,c _ _ L,v.cl,v.nB,D,_,rfl,p,_,_,_,rfl,rfl,SqT.of r,Je (j:=0) rfl,z,_,_,_,rfl,rfl,SqT.of (c _ _ J),Je g,_,rfl,p,_,_,_,rfl,rfl,SqT.of r,Je (j:=1) rfl,N,(bsC ls os ts m).getD b bz0,o,rfl,c _ _ a,?_⟩;have e:lenR ((bsC ls os ts m).getD b bz0) o=(((lenR ((bsC ls os ts m).getD b bz0) o).toNat:Nat):Int):=by lia
 rw[e];rw[ep] at R;exact k I _ b o B O c R n ep e.symm
inductive Jpl(C CH CR b:Addr)(cs:Kd->Addr)(vs:List V)(H:Hp)(Q:VK)(E:XK):Prop
 | mk(xc:Addr)(ls:List Int)(os:List Nat)(ts:List Bool)(m:Nat)(x y:Int)(_:vs=[.ref xc,.int x,.int y])(_:ChF C CH CR cs H xc ls os ts m)(_:ChP ls os ts m)(_:0<=x/\x<(J20 ls os ts).size->0<=y/\y<(J20 ls os ts).size->∀v a,Same H a->(v=.non↔¬ onR (gC ls os ts) x y)->Q v a)(_:¬ (0<=x/\x<(J20 ls os ts).size)\/¬ (0<=y/\y<(J20 ls os ts).size)->∀a,Same H a->E (.ref b) none a)
theorem Jc5:FS1 ["chart","x","y","one","two","band","goings"] Jl8:=fsc
theorem Jrw{CR:Addr}(F:Fn1 Jl8)(TH:Jdg K CH)(L:Cx1 5 Jho (Jih C CH CR CO cs))(J:Ca1 2 Jac Jdt)(Z:Ca1 1 Ja9 Jdr):
  Cx1 6 Jl8 (Jpl C CH CR CO cs):=by
 refine F.okX Jc5 (fun f d A o s H vs Q E G h=>?_);obtain⟨xc,ls,os,ts,m,x,y,rfl,F0,Y,kq,kx⟩:=h;obtain⟨xl,A0,L0⟩:=id F0;obtain⟨dq,fs,pr,ps,pt,pb,xr,xs,xt,xb,h0,⟨lL,lR,lS,lT,lB⟩,⟨h1,h2,h3,h4⟩,r1,r2,r3,r4⟩:=A0.ex;refine⟨_,(J1 (pst Jc5 3 (pcl L G J8g (J0 (pv 0) (J0 (pv 1) J3))))
  (J1 (pst Jc5 4 (pcl L G J8g (J0 (pv 0) (J0 (pv 2) J3))))
  (J1 (J1b (Jl J72 (Jt Jm (pv 3) J9) (Jt Jm (pv 4) J9) (Jp _)) (J4 (Jf J6e)) Jo)
  (J1 (pst Jc5 5 (Jt Jm (Ja (pv 0)) (Jt Jm (pv 3) J9)))
  (J1 (pst Jc5 6 (Ji J1i (Jt Jm (pv 4) J9) (Jt Jm (pv 3) J9)))
  (J1 (J1b (Jl J40 (Jt Jm (pv 3) J9) (Jt Jm (pv 4) J9) (Jp _)) (J4 (Jf (Ji J25 (pv 6) (pcl J G Jj (J0 (pv 5) (J0 (Jt Jm (pv 3) J9) J3)))))) Jo)
  (J1 (J1b (PW.pt (J8d (J2x (Jt Jm (pv 5) J9)) (J5o (Jl J40 (Jt Jm (pv 4) J9) (pcl Z G Jj (J0 (pv 5) (J0 (Jt Jm (pv 3) J9) J3))) (Jp _))))) (J4 (Jf (Ji J25 (Ji J13 (pv 6) (Jt Jm (pv 5) J9)) (pcl J G Jj (J0 (pv 5) (J0 (Jt Jm (pv 3) J9) J3)))))) Jo)
  (J4 (Jf J6e))))))))),?_⟩
 refine⟨_,rfl,_,rfl,xc,ls,os,ts,m,x,rfl,F0,Y,fun ix p b o lv H1 W u N ep=>?_,fun n=>kx (.inl n) H (Same.refl _)⟩;refine⟨_,rfl,_,rfl,xc,ls,os,ts,m,y,rfl,F0.same W,Y,fun iy O b2 P D H2 s2 r M I=>?_,fun n=>kx (.inr n) H1 W⟩;have i:=W.trans s2;have u:=s2 _ _ u;have S:=Y.sys;obtain⟨B,X,a⟩:=r4.at_ b N.hb;have a:H B=some (.tup (J9i ((bsC ls os ts m).getD b bz0))):=a;have a:=i _ _ a;obtain⟨R,p1⟩:=S.rnd N;have v:=fun(d:Int)=>@Sys.bet_some _ _ _ S _ _ _ _ _ _ N M d;have l:=S.bet_none N M;rw[ep,I] at l;have w:betO (bsC ls os ts m) b o lv b2 P D=none->Q .non H2:=fun e=>kq ix iy _ _ i ⟨fun _ h9=>by obtain⟨n,q⟩:=h9;exact l e n q,fun _=>rfl⟩;have g:∀{d:Int},betO (bsC ls os ts m) b o lv b2 P D=some d->Q (.int d) H2:=fun {d} e=>by
  obtain⟨d0,d1,de⟩:=v d e;rw[ep,I] at de;exact kq ix iy _ _ i ⟨fun z=>(nomatch z),fun z=>absurd ⟨_,de⟩ z⟩
 unfold betO at w g;refine⟨_,rfl,p,_,_,_,rfl,rfl,SqT.of u,Je (j:=0) rfl,_,rfl,O,_,_,_,rfl,rfl,SqT.of r,Je (j:=0) rfl,rfl,_,rfl,?_⟩;by_cases U:b=b2
 case neg =>
  refine J76 (by rw[decide_eq_false (fun e=>U (by have:=V.int.inj e;lia))];rfl) ?_;exact w (if_pos U)
 refine Jcl (by rw[U]) ?_;rw[if_neg (fun h=>h U)] at w g;have aa:=S.high N.hb;generalize hc:(bsC ls os ts m).getD b bz0=c at *;refine⟨_,rfl,xc,CH,dq,fs,_,rfl,i _ _ h0,TH.cl,TH.nB,lB,_,rfl,p,_,_,_,rfl,rfl,SqT.of u,Je (j:=0) rfl,pb,_,_,_,rfl,rfl,SqT.of (i _ _ h4),Je X,?_⟩;refine⟨_,rfl,O,_,_,_,rfl,rfl,SqT.of r,Je (j:=2) rfl,_,rfl,p,_,_,_,rfl,rfl,SqT.of u,Je (j:=2) rfl,_,_,rfl,rfl,?_⟩;refine⟨_,rfl,p,_,_,_,rfl,rfl,SqT.of u,Je (j:=1) rfl,_,rfl,O,_,_,_,rfl,rfl,SqT.of r,Je (j:=1) rfl,rfl,_,rfl,?_⟩;by_cases co:o=P
 ·refine J2s (congrArg V.int co) ?_;exact⟨_,rfl,_,rfl,_,rfl,p,_,_,_,rfl,rfl,SqT.of u,Je (j:=1) rfl,B,c,o,rfl,a,_,_,rfl,rfl,(show 0<lenR c o by lia),g (if_pos co)⟩
 refine iteD (fun e=>co (V.int.inj e)) ?_;rw[if_neg co] at w g;refine⟨_,rfl,B,_,_,_,rfl,rfl,SqT.of a,Je (j:=3) rfl,_,rfl,?_⟩;by_cases ct:c.2.2.2=true
 ·refine J76 ct ?_;refine⟨_,rfl,O,_,_,_,rfl,rfl,SqT.of r,Je (j:=1) rfl,_,rfl,_,rfl,p,_,_,_,rfl,rfl,SqT.of u,Je (j:=1) rfl,B,c,o,rfl,a,rfl,_,rfl,?_⟩;by_cases T:P=c.2.1-1-o
  ·refine J2s (congrArg V.int T) ?_;exact⟨_,rfl,_,rfl,B,_,_,_,rfl,rfl,SqT.of a,Je (j:=2) rfl,_,_,rfl,rfl,_,rfl,_,rfl,p,_,_,_,rfl,rfl,SqT.of u,Je (j:=1) rfl,B,c,o,rfl,a,_,_,rfl,rfl,(show 0<lenR c o by lia),g (if_pos ⟨ct,T⟩)⟩
  ·exact iteD (fun e=>T (V.int.inj e)) (w (if_neg fun h=>T h.2))
 ·exact J7n ct (iteF (w (if_neg fun h=>ct h.1)))
end
section
variable [En]
structure Jdf(K:Frag)(CW:Addr):Prop where
 cl:Cls K CW
 nF:J18 K CW "first"
 nL:J18 K CW "length"
 nA:J18 K CW "laid"
 nT:J18 K CW "turned"
structure SrAt(CW:Addr)(H:Hp)(x:Addr)(s:Sr):Prop where
 ex:∃(dx:Addr) (fs:List (Str×V)),H x=some (.ins CW dx fs)/\fs.lookup ("first":Str)=some (.int s.fi)/\fs.lookup ("length":Str)=some (.int s.le)/\fs.lookup ("laid":Str)=some (.int s.la)/\fs.lookup ("turned":Str)=some (.bl s.tu)
theorem SrAt.same(h:SrAt CW H x s)(k:Same H H'):SrAt CW H' x s:=
 by obtain⟨b,fs,a,r⟩:=h.ex;exact⟨b,fs,k _ _ a,r⟩
theorem SrAt.keep(h:SrAt CW H x s)(hd:x≠d)(k:∀b u,H b=some u->b≠d->H' b=some u):SrAt CW H' x s:=
 by obtain⟨c,fs,a,r⟩:=h.ex;exact⟨c,fs,k _ _ a hd,r⟩
inductive spSr(CW:Addr)(vs:List V)(H:Hp)(Q:VK)(E:XK):Prop
 | mk(x c:Addr)(f l a:Int)(t:Bool)(_:vs=[.ref x,.int f,.int l,.int a,.bl t])(_:H x=some (.ins CW c []))(_:∀b,SrAt CW b x ⟨f,l,a,t&&decide (1<l)⟩->J23 x H b->Q .non b)
theorem Jmj:Jr ["self","first","length","laid","turned"] ["self","first","length","laid","turned"] (Jd (Jc (top 54) 0)):=fsc
theorem ok_sr(F:Fun K "__init__" "Stretch.__init__" (Jc (top 54) 0) f fd)(e:Jdf K CW):
  FnOk P w K mg base CX0 1 f fd ["self","first","length","laid","turned"] (spSr CW):=by
 refine F.ok1 Jmj (fun d A o s H vs Q E u h=>?_);obtain⟨x,c,f,l,a,t,rfl,m,k⟩:=h;refine⟨_,(J1 (J1o (pv 0) (pv 1) rfl)
  (J1 (J1o (pv 0) (pv 2) rfl)
  (J1 (J1o (pv 0) (pv 3) rfl)
  (J4 (J1o (pv 0) (pe_and (pv 4) (Jj0 (J4w J73 (pv 2) J9 (Jp _)))) rfl))))),?_⟩
 refine⟨_,rfl,_,rfl,x,CW,c,[],rfl,m,e.cl,e.nF,(by show 0<1000;decide),?_⟩;generalize hfs1:putF ("first":Str) (.int f) []=fs1;generalize hH1:upd H x (.ins CW c fs1)=H1;have l1:fs1.length<=1:=by rw[<- hfs1];exact J1x ..
 have k1:J23 x H H1:=by rw[<- hH1];exact J23.upd
 have j:H1 x=some (.ins CW c fs1):=by rw[<- hH1];exact J7
 refine⟨_,rfl,_,rfl,x,CW,c,fs1,rfl,j,e.cl,e.nL,(by lia),?_⟩;generalize hfs2:putF ("length":Str) (.int l) fs1=fs2;generalize hH2:upd H1 x (.ins CW c fs2)=H2;have r:fs2.length<=2:=by rw[<- hfs2];have:=J1x ("length":Str) (.int l) fs1;lia
 have k2:J23 x H1 H2:=by rw[<- hH2];exact J23.upd
 have i:H2 x=some (.ins CW c fs2):=by rw[<- hH2];exact J7
 refine⟨_,rfl,_,rfl,x,CW,c,fs2,rfl,i,e.cl,e.nA,(by lia),?_⟩;generalize hfs3:putF ("laid":Str) (.int a) fs2=fs3;generalize hH3:upd H2 x (.ins CW c fs3)=H3;have q:fs3.length<=3:=by rw[<- hfs3];have:=J1x ("laid":Str) (.int a) fs2;lia
 have k3:J23 x H2 H3:=by rw[<- hH3];exact J23.upd
 have g:H3 x=some (.ins CW c fs3):=by rw[<- hH3];exact J7
 have fin:∀b:Bool,b=(t&&decide (1<l))->sFld K (tVar 0) (tC (.bl b)) "turned" { nx:=fun _ p=>Q .non p,rt:=Q } (start ["self","first","length","laid","turned"] [.ref x,.int f,.int l,.int a,.bl t]) H3:=fun b n=>by
  refine⟨_,rfl,x,CW,c,fs3,rfl,g,e.cl,e.nT,(by lia),?_⟩;refine k _ ⟨c,_,J7,?_,?_,?_,by rw[Jba,n]⟩ (k1.trans (k2.trans (k3.trans J23.upd)))
  ·rw[Jbb (by decide +kernel),<- hfs3,Jbb (by decide +kernel),<- hfs2,Jbb (by decide +kernel),<- hfs1,Jba]
  ·rw[Jbb (by decide +kernel),<- hfs3,Jbb (by decide +kernel),<- hfs2,Jba]
  ·rw[Jbb (by decide +kernel),<- hfs3,Jba]
 refine⟨_,rfl,t,rfl,?_⟩
 cases t with
 | true =>
  exact⟨_,rfl,_,_,rfl,rfl,fin _ (by simp)⟩
 | false =>
  exact fin false rfl
theorem Jdm{Q:VK}(k:∀p d,Same H d->SrAt CW d p ⟨f,l,a,t&&decide (1<l)⟩->(∀b u,H b=some u->p≠b)->Q (.ref p) d):
  ∀x c,H x=none->H c=none->c≠x->spSr CW (.ref x::([.int f,.int l,.int a,.bl t]++[])) (upd (upd H c (.own x)) x (.ins CW c [])) (fun v m=>v=.non/\Q (.ref x) m) E0:=fun x c g i h=>by
 have j:=(J8 (o:=.own x) i).trans (J8 (l:=x) (o:=.ins CW c []) (by rw[Jh (Ne.symm h)];exact g));exact⟨x,c,f,l,a,t,rfl,J7,fun d S kp=>⟨rfl,k x d (fun b u e=>kp _ _ (j _ _ e) (Jb e g)) S fun b u e z=>Jb e g z.symm⟩⟩
inductive Jfc(CW:Addr)(vs:List V)(H:Hp)(Q:VK)(E:XK):Prop
 | mk(q:Addr)(s:Sr)(_:vs=[.ref q])(_:SrAt CW H q s)(_:Q (.int (fgo s)) H)
inductive Jic(CW:Addr)(vs:List V)(H:Hp)(Q:VK)(E:XK):Prop
 | mk(q:Addr)(s:Sr)(_:vs=[.ref q])(_:SrAt CW H q s)(_:Q (.int (lgo s)) H)
inductive Jid(CW:Addr)(vs:List V)(H:Hp)(Q:VK)(E:XK):Prop
 | mk(p q:Addr)(a b:Sr)(_:vs=[.ref p,.ref q])(_:SrAt CW H p a)(_:SrAt CW H q b)(_:Q (.bl (gtog a b)) H)
inductive Jib(CW:Addr)(vs:List V)(H:Hp)(Q:VK)(E:XK):Prop
 | mk(p q:Addr)(a b:Sr)(_:vs=[.ref p,.ref q])(_:SrAt CW H p a)(_:SrAt CW H q b)(_:∀r c,Same H c->SrAt CW c r (mk1 a b)->(∀b u,H b=some u->r≠b)->Q (.ref r) c)
theorem Jmv:FS1 ["stretch"] J9a:=fsc
theorem Jju(F:Fn1 J9a)(a:Jdf K CW):
  Ca1 1 J9a (Jfc CW):=by
 refine F.ok Jmv (fun f d A o s H vs Q E n h=>?_);obtain⟨q,s0,rfl,m,k⟩:=h;obtain⟨c,b,g,p,l,i,j⟩:=m.ex;refine⟨_,(J4 (Jf (J3a (J2x (Ja (pv 0))) (Ji J1i (Ji J13 (Ja (pv 0)) (Ja (pv 0))) J9) (Ja (pv 0))))),?_⟩;refine⟨_,rfl,q,CW,c,b,_,rfl,g,a.cl,a.nT,j,s0.tu,rfl,?_⟩;unfold fgo at k;by_cases e:s0.tu=true
 ·rw[if_pos e] at k ⊢;exact⟨_,rfl,q,CW,c,b,_,rfl,g,a.cl,a.nA,i,_,rfl,q,CW,c,b,_,rfl,g,a.cl,a.nL,l,_,_,rfl,rfl,_,_,rfl,rfl,k⟩
 ·rw[if_neg e] at k ⊢;exact⟨_,rfl,q,CW,c,b,_,rfl,g,a.cl,a.nA,i,k⟩
theorem Jr0:FS1 ["stretch"] Jcy:=fsc
theorem Jnz(F:Fn1 Jcy)(a:Jdf K CW):
  Ca1 1 Jcy (Jic CW):=by
 refine F.ok Jr0 (fun f d A o s H vs Q E n h=>?_);obtain⟨q,s0,rfl,m,k⟩:=h;obtain⟨c,b,g,p,l,i,j⟩:=m.ex;refine⟨_,(J4 (Jf (J3a (J2x (Ja (pv 0))) (Ja (pv 0)) (Ji J1i (Ji J13 (Ja (pv 0)) (Ja (pv 0))) J9)))),?_⟩;refine⟨_,rfl,q,CW,c,b,_,rfl,g,a.cl,a.nT,j,s0.tu,rfl,?_⟩;unfold lgo at k;by_cases e:s0.tu=true
 ·rw[if_pos e] at k ⊢;exact⟨_,rfl,q,CW,c,b,_,rfl,g,a.cl,a.nA,i,k⟩
 ·rw[if_neg e] at k ⊢;exact⟨_,rfl,q,CW,c,b,_,rfl,g,a.cl,a.nA,i,_,rfl,q,CW,c,b,_,rfl,g,a.cl,a.nL,l,_,_,rfl,rfl,_,_,rfl,rfl,k⟩
theorem Jr2:FS1 ["one","two"] Jcz:=fsc
theorem Jo2(F:Fn1 Jcz)(c:mg "abs"=none)(i:Ca1 1 J9a (Jfc CW))(g:Ca1 1 Jcy (Jic CW)):
  Ca1 2 Jcz (Jid CW):=by
 refine F.ok Jr2 (fun f d A o s H vs Q E j h=>?_);obtain⟨p,q,a,b,rfl,m,l,k⟩:=h;refine⟨_,(J4 (Jf (J4w J40 (J1r Jp0 (by rfl) c PyProof.Rows.boot_abs (J0 (Ji J1i (pcl i j Jj (J0 (pv 1) J3)) (pcl g j Jj (J0 (pv 0) J3))) J3)) J9 (Jp _)))),?_⟩;refine⟨_,rfl,q,b,rfl,l,_,rfl,p,a,rfl,m,_,_,rfl,rfl,_,rfl,?_⟩;have e:decide (V.int (if fgo b-lgo a<0 then -(fgo b-lgo a) else fgo b-lgo a)=V.int 1)=gtog a b:=by unfold gtog;simp only[V.int.injEq]
 exact⟨rfl,by rw[e];exact k⟩
theorem Jqw:FS1 ["one","two"] Jcw:=fsc
theorem Jnv(F:Fn1 Jcw)(c:Jdf K CW)(e:mg "min"=none)(n:Mak CX0 1 "Stretch" CW ["self","first","length","laid","turned"] [] (spSr CW)):
  Ca1 3 Jcw (Jib CW):=by
 refine F.ok Jqw (fun f d A o s H vs Q E y h=>?_);obtain⟨p,q,a,b,rfl,I,G,k⟩:=h;obtain⟨i,g,j,C,B,w,M⟩:=I.ex;obtain⟨m,l,u,L,z,v,J⟩:=G.ex;refine⟨_,(J4 (Jf (pmk n y Jj (J0 (Ja (pv 0)) (J0 (Ji J13 (Ja (pv 0)) (Ja (pv 1))) (J0 (J1r (J9g rfl) (by rfl) e boot_min (J0 (Ja (pv 0)) (J0 (Ja (pv 1)) J3))) (J0 (J4w J9l (Ja (pv 1)) (Ja (pv 0)) (Jp _)) J3))))))),?_⟩;exact⟨_,rfl,p,CW,i,g,_,rfl,j,c.cl,c.nF,C,_,rfl,p,CW,i,g,_,rfl,j,c.cl,c.nL,B,_,rfl,q,CW,m,l,_,rfl,u,c.cl,c.nL,z,_,_,rfl,rfl,_,rfl,p,CW,i,g,_,rfl,j,c.cl,c.nA,w,_,rfl,q,CW,m,l,_,rfl,u,c.cl,c.nA,v,_,_,rfl,_,rfl,q,CW,m,l,_,rfl,u,c.cl,c.nA,v,_,rfl,p,CW,i,g,_,rfl,j,c.cl,c.nA,w,_,_,rfl,rfl,Jdm fun r D s' R fr=>k r D s' R fr⟩
inductive Ji8(C CW:Addr)(vs:List V)(H:Hp)(Q:VK)(E:XK):Prop
 | mk(x:Addr)(ls:List Int)(os:List Nat)(ts:List Bool)(_:vs=[.ref x])(_:J2k C H x ls os ts)(_:ls.length<=24)(_:ts.length=ls.length)(_:∀d ys a,Same H a->a d=some (.lst ys)->Refs (fun q i=>SrAt CW a q (srO ls os ts i)) ys ls.length->Q (.ref d) a)
theorem Jql:FS1 ["line"] Jcr:=fsc
theorem Jnk{C CW:Addr}(F:Fn1 Jcr)(a:TxtC K mg C)(b:mg "enumerate"=none)(u:Mak CX0 1 "Stretch" CW ["self","first","length","laid","turned"] [] (spSr CW)):
  Ca1 3 Jcr (Ji8 C CW):=by
 refine F.ok Jql (fun f d A o s H vs Q E J h=>?_);obtain⟨x,ls,os,ts,rfl,P,U,I,k⟩:=h;obtain⟨j,g,pl,po,pt,ps,B,e,⟨k1,k2,k3,G,k5,T⟩,z,X,O,N,M⟩:=P.ex;refine⟨_,(J4 (Jf (pe_lc2 (caps:=["line"]) (js:=[0]) rfl (Je2 rfl b (J0 (Ja (pv 0)) J3)) rfl (fun _ _ _ _=>J3s) (fun C W s H=>(pmk u J Jj (J0 (J6f (J5x K) (J7c K (pv 2)) (pv 0)) (J0 (pv 1) (J0 (J6f (J5x K) (J7c K (pv 2)) (pv 0)) (J0 (J6f (J5x K) (J7c K (pv 2)) (pv 0)) J3))))))))),?_⟩;refine⟨_,rfl,x,C,j,g,_,rfl,e,a.cl,a.nL,k1,pl,rfl,⟨_,SqT.of z⟩,fun d hd=>Joi (iV ls) (fun H q i=>SrAt CW H q (srO ls os ts i)) (SqT.of z) (by rw[J2i];exact Nat.le_of_lt (Js (by lia))) hd (fun H l q i kd L A=>A.keep L kd) (fun i v y Z Y c n D=>?_) (fun ys l s' p w=>k d ys l s' p (by rw[J2i] at w;exact w))⟩;have hi:i<ls.length:=by have:=(gS y);rwa [J2i] at this
 obtain rfl:V.int (ls.getD i 0)=v:=Option.some.inj ((J1d hi).symm.trans y);obtain⟨S,m⟩:=n;exact⟨_,rfl,x,C,j,g,_,rfl,c _ _ e,a.cl,a.nS,G,_,rfl,ps,_,_,_,rfl,rfl,SqT.of (c _ _ N),Je (J1d (by rw[J32];exact hi)),_,rfl,_,rfl,x,C,j,g,_,rfl,c _ _ e,a.cl,a.nD,k5,_,rfl,B,_,_,_,rfl,rfl,SqT.of (c _ _ M),Je (J1d (by rw[J32];exact hi)),_,rfl,x,C,j,g,_,rfl,c _ _ e,a.cl,a.nT,k3,_,rfl,pt,_,_,_,rfl,rfl,SqT.of (c _ _ O),Je (J7k (by rw[I];exact hi)),Jdm fun r l s' R fr=>D r l s' (fr _ _ m) R⟩
end
section
variable [En]
structure J29(CW:Addr)(H:Hp)(ys:List V)(ss:List Sr):Prop where
 len:ys.length=ss.length
 at_:∀(i:Nat) (s:Sr),ss[i]?=some s->∃q,ys[i]?=some (.ref q)/\SrAt CW H q s
theorem J29.same(h:J29 CW H ys ss)(k:Same H H'):J29 CW H' ys ss:=⟨h.len,fun i s e=>by obtain⟨q,b,a⟩:=h.at_ i s e;exact⟨q,b,a.same k⟩⟩
theorem J29.keepD(h:J29 CW H ys ss)(a:H d=some (.lst xs))(k:∀b u,H b=some u->b≠d->H' b=some u):J29 CW H' ys ss:=
 ⟨h.len,fun i s e=>let ⟨q,e1,e2⟩:=h.at_ i s e;⟨q,e1,e2.keep (by
  obtain⟨_,_,c,_⟩:=e2.ex
  grind) k⟩⟩
theorem J29.snoc{CW:Addr}{H:Hp}{ys:List V}{a:List Sr}{q:Addr}{s:Sr}(h:J29 CW H ys a)(A:SrAt CW H q s):J29 CW H (ys++[.ref q]) (a++[s]):=by
 have b:=h.len;refine⟨by simp[b],fun i t e=>?_⟩;rcases Nat.lt_or_ge i a.length with hi|hi
 ·rw[getElem?_append_left hi] at e;obtain⟨p,g,f⟩:=h.at_ i t e;exact⟨p,by rw[getElem?_append_left (by lia)];exact g,f⟩
 ·rw[getElem?_append_right hi] at e;obtain⟨d,j⟩:=List.getElem?_eq_some_iff.mp e;have c:i-a.length=0:=by simpa using d
  rw[c] at e;cases e;exact⟨q,by rw[getElem?_append_right (by lia),b,c];rfl,A⟩
theorem J29.init(h:J29 CW H ys ss):J29 CW H ys.dropLast ss.dropLast:=by
 have a:=h.len;refine⟨by simp[a],fun i t e=>?_⟩;rw[List.getElem?_dropLast] at e;by_cases hi:i<ss.length-1
 ·rw[if_pos hi] at e;obtain⟨p,c,b⟩:=h.at_ i t e;exact⟨p,by rw[List.getElem?_dropLast,if_pos (by lia)];exact c,b⟩
 ·rw[if_neg hi] at e;cases e
theorem Jmd{α:Type}{ys:List α}{x:α}(h:ys≠[]):ys.set (ys.length-1) x=ys.dropLast++[x]:=by
 rcases List.eq_nil_or_concat ys with rfl|⟨l,b,rfl⟩
 ·simp_all
 ·simp_all
theorem Jg4(h:1<=n):ixN n (-1)=some (n-1):=by
 unfold ixN
 grind
theorem J6x{α:Type}{xs:List α}{x:α}(h:xs[j]?=some x):xs.take (j+1)=xs.take j++[x]:=by
 obtain⟨a,e⟩:=List.getElem?_eq_some_iff.mp h;rw[<- e];exact(take_append_getElem a).symm
theorem Jk8{a:List Sr}(h:a[i]?=some s):lgst (a.take (i+1))=lstp (lgst (a.take i)) s:=by
 unfold lgst;rw[J6x h,List.foldl_append];rfl
theorem Joe(acc:List Sr)(s:Sr):(lstp acc s).length<=acc.length+1:=by
 unfold lstp
 cases e:acc.getLast? with
 | none=>simp
 | some a=>dsimp only;split <;> simp
theorem Jgc:∀(a acc:List Sr),(a.foldl lstp acc).length<=acc.length+a.length
 | [],acc=>Nat.le_refl _
 | s::r,acc=>by
  have c:=Jgc r (lstp acc s);have b:=Joe acc s
  grind
theorem Jg0(a:List Sr):(lgst a).length<=a.length:=by
 have:=Jgc a [];rw[List.length_nil,Nat.zero_add] at this;exact this
noncomputable def PvL(CW l d:Addr)(c:List Sr)(H:Hp)(i:Nat)(σ:St)(a:Hp):Prop:=∃v b,σ=[some (.ref l),some (.ref d),v]/\a d=some (.lst b)/\J29 CW a b (lgst (c.take i))/\Same H a
inductive Jbw(CW:Addr)(vs:List V)(H:Hp)(Q:VK)(E:XK):Prop
 | mk(l:Addr)(ys:List V)(b:List Sr)(_:vs=[.ref l])(_:H l=some (.lst ys))(_:J29 CW H ys b)(_:b.length<=1000)(_:∀d c a,Same H a->a d=some (.lst c)->J29 CW a c (lgst b)->Q (.ref d) a)
theorem J8b:FS1 ["stretches","told","stretch"] J6s:=fsc
theorem Jh7(F:Fn1 J6s)(N:Ca1 2 Jcz (Jid CW))(M:Ca1 3 Jcw (Jib CW)):
  Ca1 4 J6s (Jbw CW):=by
 refine F.ok J8b (fun f d A o s H vs Q E S h=>?_);obtain⟨l,ys,w,rfl,T,B,hn,k⟩:=h;refine⟨_,(J1 (pst J8b 1 (J2h J3))
  (J1 (J30 PassesOwn.never rfl (J2e (pv 0)) (pgm J8b 2)
   (J4 (J1b (PW.pt (J8d (Jnd (pv 1) (fun _=>rfl)) (J5o (J2x (pcl N S Jj (J0 (Jt J4z (pv 1) (Jaz J64 J9)) (J0 (pv 2) J3))))))) (J4 (Jfn (pcl M S Jj (J0 (Jt J4z (pv 1) (Jaz J64 J9)) (J0 (pv 2) J3))) (Jfp (pv 1) (Jaz J64 J9) J7p))) (J4 (J1f (J5s plainAttrs_list slot_list_append type_list_append J26 (pv 1) (J0 (pv 2) J3)))))))
  (J4 (Jf (pv 1))))),?_⟩
 refine⟨by show 0<=sizeLine;exact Nat.zero_le _,fun d hd=>?_⟩;have s0:=J8 (o:=.lst []) hd;refine⟨_,rfl,l,rfl,⟨_,SqL.of (s0 _ _ T)⟩,J3o (K:=K) (a:=l) (xs:=ys) (PvL CW l d w H) ⟨none,[],rfl,J7,⟨rfl,fun i s e=>by simp[lgst] at e⟩,s0⟩ (fun i σ C _ h9=>by obtain⟨_,_,_,_,_,s⟩:=h9;exact SqL.of (s _ _ T)) (fun i y σ C P pv=>?_) (fun σ C ⟨v,c,e,h,p,s⟩=>?_)⟩
 ·obtain⟨v,c,rfl,j,p,I⟩:=pv;have hi:i<w.length:=by rw[<- B.len];exact(gS P)
  have X:=gE hi;obtain⟨q,eq,As⟩:=B.at_ i _ X;obtain rfl:V.ref q=y:=Option.some.inj (eq.symm.trans P);generalize w[i]=t0 at *;have m:=As.same I;have nx:=Jk8 X;have zl:(lgst (w.take i)).length<=1000:=Nat.le_trans (Jg0 _) (by rw[length_take];lia);generalize lgst (w.take i)=acc at *;have Z:=p.len;have nd:∀b u,H b=some u->b≠d:=fun b u e=>Jb e hd;have app:lstp acc t0=acc++[t0]->PvL CW l d w H (i+1) [some (.ref l),some (.ref d),some (.ref q)] (upd C d (.lst (c++[.ref q]))):=fun e=>by
   refine⟨_,_,rfl,J7,?_,fun b u x=>by rw[Jh (nd b u x)];exact I _ _ x⟩;rw[nx,e];have kp:∀b u,C b=some u->b≠d->upd C d (.lst (c++[.ref q])) b=some u:=fun b u x n=>by rw[Jh n];exact x
   exact(p.keepD j kp).snoc (m.keep (by
    intro z;obtain⟨_,_,U,_⟩:=m.ex;rw[z,j] at U;cases U) kp)
  by_cases D:c=[]
  ·have ae:acc=[]:=List.eq_nil_of_length_eq_zero (by rw[<- Z,D];rfl);refine⟨_,rfl,false,.inl ⟨c,SqL.of j,by rw[D];rfl⟩,iteF (iteF ⟨_,rfl,.inl ⟨rfl,_,SqL.of j⟩,_,rfl,d,c,_,rfl,rfl,j,Nat.lt_of_le_of_lt (by lia) (Js (Nat.le_refl _)),app (by rw[ae];rfl)⟩)⟩
  ·have O:1<=c.length:=by cases c with|nil=>exact absurd rfl D|cons a r=>simp
   have Y:acc[acc.length-1]?=some (acc[acc.length-1]'(by lia)):=gE _;obtain⟨J,L,Aa⟩:=p.at_ _ _ Y;have W:acc.getLast?=some (acc[acc.length-1]'(by lia)):=by rw[List.getLast?_eq_getElem?];exact Y
   generalize acc[acc.length-1]'(by lia)=a0 at *;have lst:atI c (-1)=some (.ref J):=by
    unfold atI;rw[Jg4 O,Z];exact L
   refine⟨_,rfl,true,.inl ⟨c,SqL.of j,by cases c with|nil=>exact absurd rfl D|cons a r=>rfl⟩,iteT ⟨_,rfl,1,rfl,d,c,_,_,rfl,rfl,SqL.of j,lst,_,rfl,J,q,a0,t0,rfl,Aa,m,gtog a0 t0,rfl,?_⟩⟩;by_cases g:gtog a0 t0=true
   ·show if gtog a0 t0=true then _ else _
    rw[if_pos g];refine⟨_,rfl,1,rfl,d,c,_,_,rfl,rfl,SqL.of j,lst,_,rfl,J,q,a0,t0,rfl,Aa,m,fun r H3 G R fr=>⟨_,rfl,1,rfl,d,c,_,c.length-1,rfl,rfl,G _ _ j,Jg4 O,?_⟩⟩;refine⟨_,_,rfl,J7,?_,fun b u x=>by rw[Jh (nd b u x)];exact G _ _ (I _ _ x)⟩;have el:lstp acc t0=acc.dropLast++[mk1 a0 t0]:=by unfold lstp;rw[W];exact if_pos g
    have kp:∀b u,H3 b=some u->b≠d->upd H3 d (.lst (c.set (c.length-1) (.ref r))) b=some u:=fun b u x n=>by rw[Jh n];exact x
    have R':=R.keep (fr _ _ j) kp;have A3:=((p.same G).keepD (G _ _ j) kp).init.snoc R';rw[nx,el];rw[<- Jmd D] at A3;exact A3
   ·show if gtog a0 t0=true then _ else _
    rw[if_neg g];exact⟨_,rfl,.inl ⟨rfl,_,SqL.of j⟩,_,rfl,d,c,_,rfl,rfl,j,Nat.lt_of_le_of_lt (by lia) (Js (Nat.le_refl _)),app (by unfold lstp;rw[W];exact if_neg g)⟩
 ·subst e;rw[B.len,take_length] at p;exact⟨_,rfl,k d c C s h p⟩
end
section
variable [En]
noncomputable def lamP:Stmt->Pos
 | .Assign _ (.Call _ _ [⟨_,.Lambda _ _ _ p,_⟩] _) _=>p
 | _=>⟨0,0,0,0⟩
noncomputable abbrev lpLO:Pos:=lamP ((J1g (top 61)).getD 0 (.Pass ⟨0,0,0,0⟩))
theorem J29.sameT(h:J29 CW H ys ss)(k:J3e H H'):J29 CW H' ys ss:=⟨h.len,fun i s e=>by obtain⟨q,c,b⟩:=h.at_ i s e;exact⟨q,c,by obtain⟨d,fs,a,r⟩:=b.ex;exact⟨d,fs,k _ _ a rfl,r⟩⟩⟩
theorem Same.t(s:Same H H'):J3e H H':=fun b u e _=>s b u e
theorem J3e.trans(a:J3e H H1)(b:J3e H1 H2):J3e H H2:=fun c u e z=>b c u (a c u e z) z
theorem J1p{P:Addr}(h:J24 H P pos q)(s:Same H H'):J24 H' P pos q:=
 by obtain⟨ps,j,i,g⟩:=h.ex;exact⟨ps,s _ _ j,i,fun l e=>by obtain⟨c,f,vs,t,d,b,a⟩:=g l e;exact⟨c,f,vs,t,d,s _ _ b,a⟩⟩
theorem lc_idx{K:Frag}(ys:List V)(f:Nat->V)(e:SqL K H1 a ys)(j:ys.length<=1000)(hd:H1 d=none)(l:∀(i:Nat) (v:V),ys[i]?=some v->∀H c,Same H1 H->(∀b,Same H b->c (f i) b)->te (some v::capv σ js) H c)(g:∀b,Same H1 b->b d=some (.lst ((List.range ys.length).map f))->Q (.ref d) b):LCW (Itl K a) tYes te σ js Q H1 d:=
 Jbd ys.length (fun _=>true) f hd j (fun i H hi s=>⟨_,_,s.seq e,gE hi⟩) (fun H s=>⟨_,s.seq e,Nat.le_refl _⟩) (fun i=>(ys[i]?).getD .non)
  (fun i H v b hi s y=>⟨y.1,by rw[y.2 _ (s.seq e)];rfl⟩) (fun i H m hi s k=>k H (Same.refl _))
  (fun i H c hi _ s k=>by
   rw[gE hi];exact l i _ (gE hi) H c s k) (fun b s h=>g b s (by rw[J41] at h;exact h))
theorem Jiw{α β:Type}(xs:List α)(g:α->β)(f:Nat->β)(h:∀i x,xs[i]?=some x->f i=g x):(List.range xs.length).map f=xs.map g:=by
 apply ext_getElem?;intro i;by_cases hi:i<xs.length
 ·simp_all
 ·simp_all
theorem Jhy(ks:List Int):ks.zip ((List.range ks.length).map fun(i:Nat)=>V.int (i:Int))=(List.range ks.length).map fun(i:Nat)=>(ks.getD i 0,V.int (i:Int)):=by
 apply ext_getElem?;intro i;by_cases hi:i<ks.length
 ·simp_all
 ·simp_all
noncomputable def J54(P:Addr)(H a:Hp):Prop:=∀(Q:Addr) (pos:Pos) (q:Str),Q≠P->J24 H Q pos q->J24 a Q pos q
theorem J54.same{P:Addr}(s:Same H H'):J54 P H H':=fun _ _ _ _ t=>J1p t s
theorem J54.trans{P:Addr}(a:J54 P H H1)(b:J54 P H1 H2):J54 P H H2:=fun Q p q n t=>b Q p q n (a Q p q n t)
inductive Jao(C CW TB:Addr)(c:Str)(vs:List V)(H:Hp)(Q:VK)(E:XK):Prop
 | mk(l:Addr)(ys:List V)(a:List Sr)(_:vs=[.ref l])(_:H l=some (.lst ys))(_:J29 CW H ys a)(_:J24 H TB lpLO c)(_:a.length<64)(_:(∀os:List Nat,os.Perm (List.range a.length)->os.Pairwise (fun i j=>(a.map Sr.la).getD i 0<=(a.map Sr.la).getD j 0)->Good (a.map Sr.le) os/\∀x b,J3e H b->J24 b TB lpLO c->J54 TB H b->J2k C b x (a.map Sr.le) os (a.map Sr.tu)->Q (.ref x) b))
theorem Jat:Jr ["stretches","order","lengths"] ["stretches"] (Jd (top 61)):=fsc
theorem Jjp{f C CW TB cc:Addr}{fd:FuncData}(F:Fun K "line_of" "line_of" (top 61) f fd)(T:TxtR mg)(j:mg "sorted"=none)(X:Jdf K CW)(J:fd.code=.ref cc)(CD:PySem.W.codeHdIn K cc TB=true)(BL:Jbr base mg TB)(cI:Mak CX0 3 "Line" C ["self","lengths","order","turned"] [] (Jfa C)):
  FnOk P w K mg base CX0 5 f fd ["stretches"] (Jao C CW TB "line_of.<locals>.<lambda>"):=by
 refine F.okK J Jat (fun vs H Q E h=>?_) (fun A outer s H vs Q E hr h=>?_)
 ·obtain⟨l,ys,a,rfl,_⟩:=h;rfl
 ·obtain⟨l,ys,a,rfl,hl,B,TT,hn,k⟩:=h;refine⟨_,(J1 (pst Jat 1 (Jfq (x:="piece") (caps:=["stretches"]) (js:=[0]) rfl (hr.mono (by decide)) (by rfl) j rfl rfl rfl CD BL ⟨rfl,rfl,rfl,by decide +kernel,rfl,(by intro p hp;simp only[mem_cons,not_mem_nil,or_false] at hp;rcases hp with rfl;rfl),J3n.get rfl,rfl,fun k c e=>match k,e with|0,e=>by cases e;exact⟨0,_,rfl,rfl,rfl,rfl,rfl⟩|k+1,e=>by simp at e⟩ (fun _ _ _ _=>rfl) (fun A f c s H=>(J7c K (J6f (Jg3 K) (pv 1) (pv 0)))) (J3h J6t (by rfl) T.range PyProof.Rows.boot_range (J0 (pcb Ju T.len (pv 0)) J3))))
   (J1 (ps_lc (i:=2) (caps:=[]) (js:=[]) Jat.nd rfl (Or.inl rfl) rfl (J2e (pv 0)) rfl (fun _ _ _ _=>J3s) (fun C fp s H=>(J7c K (pv 0))))
   (J4 (Jf (pmk cI hr Jj (J0 (pv 2) (J0 (pv 1) (J0 (Jb1 (caps:=[]) (js:=[]) rfl (J2e (pv 0)) rfl (fun _ _ _ _=>J3s) (fun C fp s H=>(J7c K (pv 0)))) J3)))))))),?_⟩
  have bl:=B.len;refine⟨_,rfl,l,ys,rfl,.inl (SqL.of hl),_,rfl,fun r ab=>?_⟩;have I:=J8 (o:=.rng 0 (ys.length:Int)) ab;refine⟨r,(List.range a.length).map fun(i:Nat)=>V.int (i:Int),a.map Sr.la,rfl,.inr ⟨ys.length,J7,by rw[bl]⟩,(by rw[length_map,length_range];exact hn),(by simp),J1p TT I,fun S M i y z ey ek=>?_,fun S lo zs M T2 TQ ad pm pw=>?_⟩
  ·have hi:i<a.length:=by have:=(gS ey);simpa using this
   rw[getElem?_map,getElem?_range hi] at ey;cases ey;obtain⟨q,eq,Aq⟩:=B.at_ i _ (gE hi);rw[getElem?_map,gE hi] at ek;cases ek;obtain⟨R,fs,h0,lF,lL,lA,lT⟩:=Aq.ex;exact⟨_,rfl,_,rfl,l,ys,_,_,rfl,rfl,SqL.of (M _ _ (I _ _ hl) rfl),Je eq,q,CW,R,fs,_,rfl,M _ _ (I _ _ h0) rfl,X.cl,X.nA,lA,rfl,rfl⟩
  have zr:(a.map Sr.la).zip ((List.range a.length).map fun(i:Nat)=>V.int (i:Int))=(List.range a.length).map fun(i:Nat)=>((a.map Sr.la).getD i 0,V.int (i:Int)):=by
   have:=Jhy (a.map Sr.la);rwa [length_map] at this
  rw[zr] at pm;obtain⟨os,po,rfl⟩:=Jay pm rfl;rw[pairwise_map] at pw;obtain⟨gd,k⟩:=k os po pw;have en:(os.map fun(i:Nat)=>((a.map Sr.la).getD i 0,V.int (i:Int))).map Prod.snd=nV os:=by rw[map_map,J5k];rfl
  rw[en];have U:=J8 (o:=.lst (nV os)) ad;have m:=U _ _ (M _ _ (I _ _ hl) rfl);have B3:J29 CW (upd S lo (.lst (nV os))) ys a:=((B.same I).sameT M).same U;have T3:=J1p T2 U;have aj:J54 TB H (upd S lo (.lst (nV os))):=(J54.same I).trans (J54.trans (fun Q p q n t=>TQ Q p q n t) (J54.same U));have ho:upd S lo (.lst (nV os)) lo=some (.lst (nV os)):=J7;have aa:J3e H (upd S lo (.lst (nV os))):=J3e.trans (J3e.trans (Same.t I) M) (Same.t U);generalize upd S lo (.lst (nV os))=H3 at *;have lc:∀(D:Hp) (σ:St) (d:Addr) (g:Sr->V) (nm:Str) (QQ:VK),J29 CW D ys a->D l=some (.lst ys)->D d=none->J18 K CW nm->(∀(fs:List (Str×V)) (s:Sr),fs.lookup ("first":Str)=some (.int s.fi)/\fs.lookup ("length":Str)=some (.int s.le)/\fs.lookup ("laid":Str)=some (.int s.la)/\fs.lookup ("turned":Str)=some (.bl s.tu)->fs.lookup nm=some (g s))->
    (∀G,Same D G->G d=some (.lst (a.map g))->QQ (.ref d) G)->LCW (Itl K l) tYes (tFld K (tVar 0) nm) σ [] QQ D d:=fun D σ d g nm QQ B4 h4 hd na lk q=>by
   refine lc_idx ys (fun i=>((a[i]?).map g).getD .non) (SqL.of h4) (by lia) hd (fun i v hv H5 Qe N ke=>?_) (fun G s' h'=>q G s' ?_)
   ·have hi:i<a.length:=by have:=(gS hv);lia
    obtain⟨q',eq,Aq⟩:=B4.at_ i _ (gE hi);obtain rfl:V.ref q'=v:=Option.some.inj (eq.symm.trans hv);obtain⟨R,fs,h0,lF,lL,lA,lT⟩:=Aq.ex;refine⟨_,rfl,q',CW,R,fs,_,rfl,N _ _ h0,X.cl,na,lk fs _ ⟨lF,lL,lA,lT⟩,?_⟩;have:=ke H5 (Same.refl _);rw[gE hi] at this;exact this
   ·rw[h',bl];exact congrArg (fun x=>some (HO.lst x)) (Jiw a g _ fun i x e=>by show((a[i]?).map g).getD .non=g x;rw[e];rfl)
  refine⟨_,rfl,l,rfl,⟨_,SqL.of m⟩,fun d1 ag=>lc H3 _ d1 (fun s=>.int s.le) "length" _ B3 m ag X.nL (fun fs s h=>h.2.1) (fun D O e4=>?_)⟩;refine⟨_,rfl,_,rfl,_,rfl,l,rfl,⟨_,SqL.of (O _ _ m)⟩,fun Z af=>lc D _ Z (fun s=>.bl s.tu) "turned" _ (B3.same O) (O _ _ m) af X.nT (fun fs s h=>h.2.2.2) (fun H5 N e5=>?_)⟩;have ai:D d1=some (.lst (iV (a.map Sr.le))):=by rw[e4];exact congrArg (fun x=>some (HO.lst x)) (by show _=List.map V.int (a.map Sr.le);rw[map_map];rfl)
  have ah:H5 Z=some (.lst (bV (a.map Sr.tu))):=by rw[e5];exact congrArg (fun x=>some (HO.lst x)) (by show _=List.map V.bl (a.map Sr.tu);rw[map_map];rfl)
  intro x R hx ae ac;have Y:=(J8 (o:=.own x) ae).trans (J8 (l:=x) (o:=.ins C R []) (by rw[Jh (Ne.symm ac)];exact hx));refine⟨x,R,d1,lo,.ref Z,a.map Sr.le,os,a.map Sr.tu,rfl,J7,.inl (Y _ _ (N _ _ ai)),.inl (Y _ _ (N _ _ (O _ _ ho))),gd,⟨by simp,.inr ⟨Z,rfl,.inl (Y _ _ ah)⟩⟩,fun G L kp=>⟨rfl,?_⟩⟩;have s7:Same H3 G:=fun b u e=>kp _ _ (Y _ _ (N _ _ (O _ _ e))) (Jb (N _ _ (O _ _ e)) hx);exact k x G (J3e.trans aa (Same.t s7)) (J1p T3 s7) (aj.trans (J54.same s7)) L
end
section
variable [En]
theorem Refs.srs{CW:Addr}{H:Hp}{ys:List V}{ls:List Int}{os:List Nat}{ts:List Bool}(h:Refs (fun q i=>SrAt CW H q (srO ls os ts i)) ys ls.length):J29 CW H ys (srsL ls os ts):=by
 refine⟨by unfold srsL;rw[h.len];simp,fun i s e=>?_⟩;have hi:i<ls.length:=by have:=(gS e);simpa [srsL] using this
 unfold srsL at e;rw[getElem?_map,getElem?_range hi] at e;cases e;exact h.at_ i hi
theorem J58(ls:List Int)(os:List Nat)(ts:List Bool):(srsL ls os ts).length=ls.length:=by unfold srsL;simp
end
section
variable [En]
inductive Jf5(CW:Addr)(vs:List V)(H:Hp)(Q:VK)(E:XK):Prop
 | mk(p q:Addr)(o t:Sr)(_:vs=[.ref p,.ref q])(_:SrAt CW H p o)(_:SrAt CW H q t)(_:∀d ys a,H d=none->Same H a->a d=some (.lst ys)->J29 CW a ys (J3b o t)->Q (.ref d) a)
theorem J4a:FS1 ["one","two","begin","one_end","two_end","end","first","laid"] J92:=fsc
theorem Jjf(F:Fn1 J92)(b:Jdf K CW)(D:mg "max"=none)(C:mg "min"=none)(L:Mak CX0 1 "Stretch" CW ["self","first","length","laid","turned"] [] (spSr CW)):
  Ca1 3 J92 (Jf5 CW):=by
 refine F.ok J4a (fun f d A o s H vs Q E U h=>?_);obtain⟨p,q,o,t,rfl,A0,B0,k⟩:=h;obtain⟨w,m,B,aF,aL,N,S⟩:=A0.ex;obtain⟨u,j,y,M,Y,Z,P⟩:=B0.ex;refine⟨_,(J1 (J3z (pst J4a 2 (J1r (Jls rfl) (by rfl) D PyProof.Rows.boot_max (J0 (Ja (pv 0)) (J0 (Ja (pv 1)) J3)))))
  (J1 (J3z (pst J4a 3 (Ji J13 (Ja (pv 0)) (Ja (pv 0)))))
  (J1 (J3z (pst J4a 4 (Ji J13 (Ja (pv 1)) (Ja (pv 1)))))
  (J1 (J3z (pst J4a 5 (J1r (J9g rfl) (by rfl) C boot_min (J0 (pv 3) (J0 (pv 4) J3)))))
  (J1 (J1b (Jl Jrf (pv 2) (pv 5) (Jp _)) (J4 (Jf (J2h J3))) Jo)
  (J1 (J3z (pst J4a 6 (Ji J13 (Ja (pv 0)) (J3a (J2x (Ja (pv 0))) (Ji J1i (pv 3) (pv 5)) (Ji J1i (pv 2) (Ja (pv 0)))))))
  (J1 (J3z (pst J4a 7 (Ji J13 (Ja (pv 1)) (J3a (J2x (Ja (pv 1))) (Ji J1i (pv 4) (pv 5)) (Ji J1i (pv 2) (Ja (pv 1)))))))
  (J4 (Jf (J2h (J0 (pmk L U Jj (J0 (pv 6) (J0 (Ji J1i (pv 5) (pv 2)) (J0 (pv 7) (J0 (J4w J72 (Ja (pv 0)) (Ja (pv 1)) (Jp _)) J3))))) J3))))))))))),?_⟩
 refine⟨fun σ' g=>σ'=[some (.ref p),some (.ref q),some (.int (jb o t)),none,none,none,none,none]/\H=g,?_,?_⟩
 ·exact⟨_,rfl,p,CW,w,m,_,rfl,B,b.cl,b.nA,N,_,rfl,q,CW,u,j,_,rfl,y,b.cl,b.nF,M,_,_,rfl,rfl,rfl⟩
 rintro σ _ ⟨rfl,rfl⟩;refine⟨fun σ' g=>σ'=[some (.ref p),some (.ref q),some (.int (jb o t)),some (.int (o.la+o.le)),none,none,none,none]/\H=g,?_,?_⟩
 ·exact⟨_,rfl,p,CW,w,m,_,rfl,B,b.cl,b.nA,N,_,rfl,p,CW,w,m,_,rfl,B,b.cl,b.nL,aL,_,_,rfl,rfl,rfl,rfl⟩
 rintro σ _ ⟨rfl,rfl⟩;refine⟨fun σ' g=>σ'=[some (.ref p),some (.ref q),some (.int (jb o t)),some (.int (o.la+o.le)),some (.int (t.fi+t.le)),none,none,none]/\H=g,?_,?_⟩
 ·exact⟨_,rfl,q,CW,u,j,_,rfl,y,b.cl,b.nF,M,_,rfl,q,CW,u,j,_,rfl,y,b.cl,b.nL,Y,_,_,rfl,rfl,rfl,rfl⟩
 rintro σ _ ⟨rfl,rfl⟩;refine⟨fun σ' g=>σ'=[some (.ref p),some (.ref q),some (.int (jb o t)),some (.int (o.la+o.le)),some (.int (t.fi+t.le)),some (.int (je o t)),none,none]/\H=g,?_,?_⟩
 ·exact⟨_,rfl,_,rfl,_,_,rfl,rfl,rfl⟩
 rintro σ _ ⟨rfl,rfl⟩;refine⟨_,rfl,_,rfl,_,_,rfl,rfl,_,rfl,?_⟩;by_cases c:je o t<=jb o t
 ·refine J2s c ⟨by show 0<=sizeLine;exact Nat.zero_le _,fun d hd=>k d [] _ hd (J8 hd) J7 ?_⟩;have e:J3b o t=[]:=by unfold J3b;exact if_pos c
  rw[e];exact⟨rfl,fun i s z=>by simp at z⟩
 refine iteD c ?_;have ep:J3b o t=[J1k o t]:=by unfold J3b;exact if_neg c
 refine⟨fun σ' g=>σ'=[some (.ref p),some (.ref q),some (.int (jb o t)),some (.int (o.la+o.le)),some (.int (t.fi+t.le)),some (.int (je o t)),some (.int (J1k o t).fi),none]/\H=g,?_,?_⟩
 ·refine⟨_,rfl,p,CW,w,m,_,rfl,B,b.cl,b.nF,aF,_,rfl,p,CW,w,m,_,rfl,B,b.cl,b.nT,S,o.tu,rfl,?_⟩;by_cases e:o.tu=true
  ·refine J76 e ⟨_,rfl,_,rfl,_,_,rfl,rfl,_,_,rfl,rfl,?_,rfl⟩;rw[show(J1k o t).fi=o.fi+(o.la+o.le-je o t) by unfold J1k;rw[if_pos e]];rfl
  ·refine J7n e ⟨_,rfl,_,rfl,p,CW,w,m,_,rfl,B,b.cl,b.nA,N,_,_,rfl,rfl,_,_,rfl,rfl,?_,rfl⟩;rw[show(J1k o t).fi=o.fi+(jb o t-o.la) by unfold J1k;rw[if_neg e]];rfl
 rintro σ _ ⟨rfl,rfl⟩;refine⟨fun σ' g=>σ'=[some (.ref p),some (.ref q),some (.int (jb o t)),some (.int (o.la+o.le)),some (.int (t.fi+t.le)),some (.int (je o t)),some (.int (J1k o t).fi),some (.int (J1k o t).la)]/\H=g,?_,?_⟩
 ·refine⟨_,rfl,q,CW,u,j,_,rfl,y,b.cl,b.nA,Z,_,rfl,q,CW,u,j,_,rfl,y,b.cl,b.nT,P,t.tu,rfl,?_⟩;by_cases e:t.tu=true
  ·refine J76 e ⟨_,rfl,_,rfl,_,_,rfl,rfl,_,_,rfl,rfl,?_,rfl⟩;rw[show(J1k o t).la=t.la+(t.fi+t.le-je o t) by unfold J1k;dsimp only;rw[if_pos e]];rfl
  ·refine J7n e ⟨_,rfl,_,rfl,q,CW,u,j,_,rfl,y,b.cl,b.nF,M,_,_,rfl,rfl,_,_,rfl,rfl,?_,rfl⟩;rw[show(J1k o t).la=t.la+(jb o t-t.fi) by unfold J1k;dsimp only;rw[if_neg e]];rfl
 rintro σ _ ⟨rfl,rfl⟩;refine⟨_,rfl,_,rfl,_,rfl,_,_,rfl,rfl,_,rfl,_,rfl,p,CW,w,m,_,rfl,B,b.cl,b.nT,S,_,rfl,q,CW,u,j,_,rfl,y,b.cl,b.nT,P,rfl,fun x X T J I=>Jdm (CW:=CW) (H:=H) (f:=(J1k o t).fi) (l:=je o t-jb o t) (a:=(J1k o t).la) (t:=!decide (V.bl o.tu=V.bl t.tu)) (Q:=fun v G=>1<=sizeLine/\∀p,G p=none->Q (V.ref p) (upd G p (.lst [v]))) (fun r G O R fr=>⟨by show 1<=sizeLine;decide,fun d hd=>k d [.ref r] _ (O.free hd) (O.trans (J8 hd)) J7 ?_⟩) x X T J I⟩;have W:(!decide (V.bl o.tu=V.bl t.tu))=(o.tu != t.tu):=by cases o.tu <;> cases t.tu <;> rfl
 rw[W] at R;have R':SrAt CW G r (J1k o t):=R;rw[ep];refine⟨rfl,fun i s z=>?_⟩
 match i,z with
 | 0,z=>cases Option.some.inj z;exact⟨r,rfl,R'.same (J8 hd)⟩
 | n+1,z=>simp at z
end
section
variable [En]
noncomputable def lamPR:Stmt->Pos
 | .Return (some (.Call _ [.Call _ _ [⟨_,.Lambda _ _ _ p,_⟩] _] _ _)) _=>p
 | .Return (some (.Call _ _ [⟨_,.Lambda _ _ _ p,_⟩] _)) _=>p
 | _=>⟨0,0,0,0⟩
noncomputable abbrev lpJS:Pos:=lamPR ((J1g (top 64)).getD 2 (.Pass ⟨0,0,0,0⟩))
theorem J29.app(a:J29 CW H ys ss)(b:J29 CW H zs tt):J29 CW H (ys++zs) (ss++tt):=by
 have f:=a.len;refine⟨by rw[length_append,length_append,a.len,b.len],fun i s e=>?_⟩;rcases Nat.lt_or_ge i ss.length with hi|hi
 ·rw[getElem?_append_left hi] at e;obtain⟨q,d,c⟩:=a.at_ i s e;exact⟨q,by rw[getElem?_append_left (by lia)];exact d,c⟩
 ·rw[getElem?_append_right hi] at e;obtain⟨q,d,c⟩:=b.at_ _ s e;exact⟨q,by rw[getElem?_append_right (by lia),f];exact d,c⟩
theorem Jq6{J:List Sr}{xs:List V}(h:xs.length=J.length):(J.map Sr.fi).zip xs=(List.range J.length).map fun i=>((J.getD i s0).fi,xs.getD i .non):=by
 apply ext_getElem?;intro i;by_cases hi:i<J.length
 ·simp_all
 ·simp_all
theorem Jeh(J:List Sr):(List.range J.length).map (fun i=>J.getD i s0)=J:=by
 refine List.ext_getElem (by simp) fun i b a=>?_;rw[List.getElem_map,List.getElem_range,getD_eq_getElem?_getD,gE a];rfl
theorem Jqf(B:J29 CW H xs J){ys:List (Int×V)}(d:ys.Perm ((J.map Sr.fi).zip xs))(c:ys.Pairwise (fun a b=>a.1<=b.1)):
  ∃L,L.Perm J/\L.Pairwise (fun s t=>s.fi<=t.fi)/\J29 CW H (ys.map Prod.snd) L:=by
 rw[Jq6 B.len] at d;obtain⟨f,po,rfl⟩:=Jay d rfl;rw[pairwise_map] at c;refine⟨f.map fun i=>J.getD i s0,?_,?_,?_⟩
 ·have:=po.map fun i=>J.getD i s0;rwa [Jeh] at this
 ·rw[pairwise_map];exact c
 ·refine⟨by simp,fun i s e=>?_⟩;rw[getElem?_map] at e
  cases q:f[i]? with
  | none=>rw[q] at e;cases e
  | some j =>
   rw[q] at e;cases e;have g:=mem_range.mp (po.mem_iff.mp (mem_of_getElem? q));obtain⟨a,l,h⟩:=B.at_ j (J.getD j s0) (getL g);refine⟨a,?_,h⟩;rw[getElem?_map,getElem?_map,q];show some (xs.getD j .non)=_;rw[getD_eq_getElem?_getD,l];rfl
inductive Jdu(CW TJ:Addr)(vs:List V)(H:Hp)(Q:VK)(E:XK):Prop
 | mk(a b:Addr)(xs ys:List V)(os ts:List Sr)(_:vs=[.ref a,.ref b])(_:H a=some (.lst xs))(_:H b=some (.lst ys))(_:J29 CW H xs os)(_:J29 CW H ys ts)(_:(jn os ts).length<64)(_:os.length<=1000)(_:ts.length<=1000)(_:J24 H TJ lpJS "joined_stretches.<locals>.<lambda>")(_:∀L d e c,L.Perm (jn os ts)->L.Pairwise (fun s t=>s.fi<=t.fi)->J3e H c->J24 c TJ lpJS "joined_stretches.<locals>.<lambda>"->J54 TJ H c->c d=some (.lst e)->J29 CW c e (lgst L)->Q (.ref d) c)
theorem Js4{os:List Sr}(h:os[i]?=some o):jn (os.take (i+1)) ts=jn (os.take i) ts++ts.flatMap (J3b o):=by
 unfold jn;rw[J6x h,flatMap_append,flatMap_cons,List.flatMap_nil,append_nil]
theorem Jkt{ts:List Sr}(h:ts[j]?=some t):(ts.take (j+1)).flatMap (J3b o)=(ts.take j).flatMap (J3b o)++J3b o t:=by
 rw[J6x h,flatMap_append,flatMap_cons,List.flatMap_nil,append_nil]
theorem fm_le{ts:List Sr}(j:Nat):((ts.take j).flatMap (J3b o)).length<=(ts.flatMap (J3b o)).length:=by
 have:ts.flatMap (J3b o)=(ts.take j).flatMap (J3b o)++(ts.drop j).flatMap (J3b o):=by rw[<- flatMap_append,take_append_drop]
 grind
theorem jn_le{os:List Sr}(i:Nat):(jn (os.take i) ts).length<=(jn os ts).length:=by
 have:jn os ts=jn (os.take i) ts++jn (os.drop i) ts:=by unfold jn;rw[<- flatMap_append,take_append_drop]
 grind
theorem Jav:Jr ["ones","twos","parts","one","two"] ["ones","twos"] (Jd (top 64)):=fsc
theorem Jo0(F:Fun K "joined_stretches" "joined_stretches" (top 64) f fd)(T:TxtR mg)(r:mg "sorted"=none)(TW:Jdf K CW)(G:fd.code=.ref cc)(CD:PySem.W.codeHdIn K cc TJ=true)(BL:Jbr base mg TJ)(ad:Ca1 3 J92 (Jf5 CW))(ae:Ca1 4 J6s (Jbw CW)):
  FnOk P w K mg base CX0 5 f fd ["ones","twos"] (Jdu CW TJ):=by
 refine F.okK G Jav (fun vs H Q E h=>?_) (fun A outer s H vs Q E hr h=>?_)
 ·obtain⟨a,b,xs,ys,os,ts,rfl,_⟩:=h;rfl
 ·obtain⟨a,b,xs,ys,os,ts,rfl,ha,hb,A,B,ac,n1,n2,TT,k⟩:=h;refine⟨_,(J1 (pst Jav 2 (J2h J3))
   (J1 (J30 PassesOwn.never rfl (J2e (pv 0)) (pgm Jav 3)
    (J4 (J30 PassesOwn.never rfl (J2e (pv 1)) (pgm Jav 4)
     (J4 (J1f (J5s plainAttrs_list PySem.F.slot_list_extend PySem.F.type_list_extend Jcf (pv 2) (J0 (pcl ad hr Jj (J0 (pv 3) (J0 (pv 4) J3))) J3)))))))
   (J4 (Jf (pcl ae hr Jj (J0 (Jfq (x:="part") (caps:=[]) (js:=[]) rfl (hr.mono (by decide)) (by rfl) r rfl rfl rfl CD BL ⟨rfl,rfl,rfl,by decide +kernel,rfl,(by intro p hp;cases hp),J3n.get rfl,rfl,fun k c e=>by simp at e⟩ (fun _ _ _ _=>rfl) (fun A f c s H=>(J7c K (pv 0))) (pv 2)) J3)))))),?_⟩
  refine⟨by show 0<=sizeLine;exact Nat.zero_le _,fun d hd=>?_⟩;have M:=J8 (o:=.lst []) hd;have nd:∀{v:Addr} {u:HO},H v=some u->v≠d:=fun {v u} e=>Jb e hd;have sm:=Js (n:=100) (by decide);refine⟨_,rfl,a,rfl,⟨_,SqL.of (M _ _ ha)⟩,J3o (K:=K) (a:=a) (xs:=xs) (fun i σ Hw=>∃v3 C m,σ=[some (.ref a),some (.ref b),some (.ref d),v3,C]/\Hw d=some (.lst m)/\J29 CW Hw m (jn (os.take i) ts)/\Same H Hw)
   ⟨none,none,[],rfl,J7,⟨rfl,fun i s e=>by simp[jn] at e⟩,M⟩ (fun i σ Hw _ ⟨_,_,_,_,_,_,s⟩=>SqL.of (s _ _ ha)) (fun i y σ Hw N pv=>?_) (fun σ Hw ⟨v3,C,m,e,D,Z,s⟩=>?_)⟩
  ·obtain⟨v3,C,m,rfl,D,Z,sw⟩:=pv;have hi:i<os.length:=by rw[<- A.len];exact(gS N)
   have eo:=gE hi;obtain⟨p,ep,Ap⟩:=A.at_ i _ eo;obtain rfl:V.ref p=y:=Option.some.inj (ep.symm.trans N);generalize os[i]=o at eo Ap;have sj:=Js4 (ts:=ts) eo;have aa:=jn_le (ts:=ts) (os:=os) (i+1);rw[sj,length_append] at aa;refine⟨_,rfl,b,rfl,⟨_,SqL.of (sw _ _ hb)⟩,J3o (K:=K) (a:=b) (xs:=ys) (fun j σ I=>∃C m,σ=[some (.ref a),some (.ref b),some (.ref d),some (.ref p),C]/\I d=some (.lst m)/\J29 CW I m (jn (os.take i) ts++(ts.take j).flatMap (J3b o))/\Same H I)
    ⟨C,m,rfl,D,by rw[show(ts.take 0).flatMap (J3b o)=[] from rfl,append_nil];exact Z,sw⟩ (fun j σ I _ ⟨_,_,_,_,_,s⟩=>SqL.of (s _ _ hb)) (fun j y σ I N pv=>?_) (fun σ I ⟨C,m,e,g,Z,s⟩=>?_)⟩
   ·obtain⟨C,m,rfl,g,Z,sx⟩:=pv;have hj:j<ts.length:=by rw[<- B.len];exact(gS N)
    have X:=gE hj;obtain⟨q,eq,Bq⟩:=B.at_ j _ X;obtain rfl:V.ref q=y:=Option.some.inj (eq.symm.trans N);generalize ts[j]=t at X Bq;have zl:=Z.len;rw[length_append] at zl;have f1:=fm_le (ts:=ts) (o:=o) (j+1);rw[Jkt X,length_append] at f1;refine⟨_,rfl,.inl ⟨rfl,_,SqL.of g⟩,_,rfl,_,rfl,p,q,o,t,rfl,Ap.same sx,Bq.same sx,fun e O Hy he J ab W=>⟨d,e,m,O,rfl,rfl,J _ _ g,ab,(by rw[W.len];lia),?_⟩⟩;have af:e≠d:=fun z=>by rw[z,g] at he;cases he
    have kp:∀v u,Hy v=some u->v≠d->upd Hy d (.lst (m++O)) v=some u:=fun v u Y n=>by rw[Jh n];exact Y
    refine⟨_,_,rfl,J7,?_,fun v u Y=>kp _ _ (J _ _ (sx _ _ Y)) (nd Y)⟩;rw[Jkt X,<- List.append_assoc];exact((Z.same J).keepD (J _ _ g) kp).app (W.keepD (J _ _ g) kp)
   ·subst e;rw[B.len,take_length,<- sj] at Z;exact⟨_,_,_,rfl,g,Z,s⟩
  subst e;rw[A.len,take_length] at Z;have zl:=Z.len;refine⟨_,rfl,d,m,(jn os ts).map Sr.fi,rfl,.inl D,(by rw[zl];exact ac),(by rw[length_map,zl]),J1p TT s,fun H2 R i y z ey ek=>?_,fun H2 l us R T2 TQ hl pm pw=>?_⟩
  ·have hi:i<(jn os ts).length:=by rw[<- zl];exact(gS ey)
   obtain⟨q,eq,Aq⟩:=Z.at_ i _ (gE hi);obtain rfl:V.ref q=y:=Option.some.inj (eq.symm.trans ey);rw[getElem?_map,gE hi] at ek;cases ek;obtain⟨dx,fs,h0,lF,lL,lA,lT⟩:=Aq.ex;exact⟨_,rfl,q,CW,dx,fs,_,rfl,R _ _ h0 rfl,TW.cl,TW.nF,lF,rfl,rfl⟩
  obtain⟨L,p1,p2,S⟩:=Jqf (Z.sameT R) pm pw;have U:=J8 (o:=.lst (us.map Prod.snd)) hl;have ll:=p1.length_eq;refine⟨l,_,L,rfl,J7,S.same U,(by lia),fun d2 O H3 s3 e3 W=>?_⟩;exact k L d2 O H3 p1 p2 (J3e.trans (Same.t s) (J3e.trans R (Same.t (U.trans s3)))) (J1p T2 (U.trans s3)) ((J54.same s).trans (J54.trans (fun Q p q n t=>TQ Q p q n t) (J54.same (U.trans s3)))) e3 W
end
section
variable [En]
theorem Jc7{os:List Nat}(R:RepS g 0 L N)(c:1<=N)(b:N<=10^30)(a:L.length<=24)(p:os.Perm (List.range L.length)):Good (L.map Sr.le) os:=by
 have O:=R.ord p;have t:=R.tot;refine⟨?_,by simp_all,O.pos,by lia,O.perm⟩
 grind
inductive Jf8(C CW TB:Addr)(vs:List V)(H:Hp)(Q:VK)(E:XK):Prop
 | mk(l:Addr)(ys:List V)(a:List Sr)(_:vs=[.ref l])(_:H l=some (.lst ys))(_:J29 CW H ys a)(_:J24 H TB lpLO "line_of.<locals>.<lambda>")(_:a.length<=24)(_:∀os:List Nat,os.Perm (List.range a.length)->os.Pairwise (fun i j=>(a.map Sr.la).getD i 0<=(a.map Sr.la).getD j 0)->Good (a.map Sr.le) os/\∀x b,J3e H b->J24 b TB lpLO "line_of.<locals>.<lambda>"->J54 TB H b->J2k C b x (a.map Sr.le) os (a.map Sr.tu)->Q (.ref x) b)
theorem Jqx:FS1 ["stretches"] Jcx:=fsc
theorem Jjo(F:Fn1 Jcx)(T:TxtR mg)(a:mg "MOST_PIECES"=some (.int 24 t24))(b:Cal CX0 5 "line_of" ["stretches"] (Jao C CW TB "line_of.<locals>.<lambda>")):
  Ca1 6 Jcx (Jf8 C CW TB):=by
 refine F.ok Jqx (fun f d A o s H vs Q E g h=>?_);obtain⟨l,ys,e,rfl,c,B,TT,i,k⟩:=h;refine⟨_,(J1 (J1b (Jl J73 (pcb Ju T.len (pv 0)) (Jb2 (v:=.int 24) rfl a ⟨_,rfl⟩) (Jp _)) (J4 J1q) Jo)
  (J4 (Jf (pcl b g Jj (J0 (pv 0) J3))))),?_⟩
 have j:=B.len;exact⟨_,rfl,l,ys,rfl,.inl (SqL.of c),_,_,rfl,rfl,_,rfl,iteD (show ¬ (24:Int)<(ys.length:Int) by lia) ⟨_,rfl,l,ys,e,rfl,c,B,TT,by lia,k⟩⟩
inductive Jbx(C TB TJ:Addr)(vs:List V)(H:Hp)(Q:VK)(E:XK):Prop
 | mk(x y:Addr)(ls a:List Int)(os b:List Nat)(ts ts':List Bool)(_:vs=[.ref x,.ref y])(_:J2k C H x ls os ts)(_:J2k C H y a b ts')(_:Good ls os)(_:Good a b)(_:ts.length=ls.length)(_:ts'.length=a.length)(_:ls.length+a.length<64)(_:J24 H TB lpLO "line_of.<locals>.<lambda>")(_:J24 H TJ lpJS "joined_stretches.<locals>.<lambda>")(_:a.sum=ls.sum)(_:∀S,RepS (fun x=>gL a b ts' (gL ls os ts x)) 0 S ls.sum->S.length<=24/\∀z l o t c,J3e H c->J24 c TB lpLO "line_of.<locals>.<lambda>"->J24 c TJ lpJS "joined_stretches.<locals>.<lambda>"->PlG (fun x=>gL a b ts' (gL ls os ts x)) ls.sum l o t->l.length=S.length->Good l o->J2k C c z l o t->Q (.ref z) c)
theorem Jmr:FS1 ["one","two"] J98:=fsc
theorem Jh8(F:Fn1 J98)(p:TxtC K mg C)(m:TB≠TJ)(M:Ca1 6 Jcx (Jf8 C CW TB))(N:Cal CX0 5 "joined_stretches" ["ones","twos"] (Jdu CW TJ))(l:Ca1 3 Jcr (Ji8 C CW)):
  Ca1 7 J98 (Jbx C TB TJ):=by
 refine F.ok Jmr (fun f d A o s H vs Q E n h=>?_);obtain⟨x,y,ls,j,os,i,ts,ts',rfl,L1,L2,g,T,t1,t2,ac,Tb,Tj,J,k⟩:=h;obtain⟨dx,fl,pl,po,pt,ps,pd,h0,⟨k1,k2,k3,k4,k5,k6⟩,e1,e2,e3,e4,e5⟩:=L1.ex;obtain⟨dy,fy,ql,qo,qt,qs,qd,g0,⟨j1,j2,j3,j4,j5,j6⟩,f1,f2,f3,f4,f5⟩:=L2.ex;have O1:=g.ord;have O2:=T.ord;refine⟨_,(J1 (J1b (Jl J72 (Ja (pv 0)) (Ja (pv 1)) (Jp _)) (J4 J1q) Jo)
  (J4 (Jf (pcl M n Jj (J0 (pcl N n Jj (J0 (pcl l n Jj (J0 (pv 0) J3)) (J0 (pcl l n Jj (J0 (pv 1) J3)) J3))) J3))))),?_⟩
 refine⟨_,rfl,x,C,dx,fl,_,rfl,h0,p.cl,p.nZ,k6,_,rfl,y,C,dy,fy,_,rfl,g0,p.cl,p.nZ,j6,rfl,_,rfl,Jcl (by rw[J]) ?_⟩;have Z:=J5e (ts:=ts) O1;have Y:=J5e (ts:=ts') O2;rw[J] at Y;have W:=J87 (ts:=ts) O1;have G:=J87 (ts:=ts') O2;rw[J] at G;have jl:=Jpx W G Z.inj;rw[J58,J58] at jl;have X:=g.pos_sum;have ab:=g.hi;have aa:=T.hi;refine⟨_,rfl,x,ls,os,ts,rfl,L1,g.hi,t1,fun d1 r H1 U q1 D=>⟨_,rfl,y,j,i,ts',rfl,L2.same U,T.hi,t2,fun d2 q H2 w q2 B=>?_⟩⟩;have a:=U.trans w;refine⟨d1,d2,r,q,srsL ls os ts,srsL j i ts',rfl,w _ _ q1,q2,(Refs.srs D).same w,Refs.srs B,(by lia),(by rw[J58];lia),(by rw[J58];lia),J1p Tj a,fun L d zs H3 pm pw sT T4 P e S=>?_⟩;have R:=Jkh Z Y W G (by lia) pm pw;obtain⟨c,kq⟩:=k _ R;have v:=J3e.trans (Same.t a) sT;refine⟨d,zs,lgst L,rfl,e,S,P _ _ _ m (J1p Tb a),c,fun o b I=>⟨Jc7 R X g.sum c b,fun z H4 u T6 O LZ=>?_⟩⟩;exact kq z _ o _ H4 (J3e.trans v u) T6 (O _ _ _ (Ne.symm m) T4) ⟨lgst L,R,rfl,rfl,⟨b,I⟩⟩ (length_map ..) (Jc7 R X g.sum c b) LZ
end
section
variable [En]
structure J61(bs:List Int):Prop where
 lo:1<=bs.length
 hi:bs.length<=12
 pos:∀a∈bs,1<=a
inductive Jpe(vs:List V)(H:Hp)(Q:VK)(E:XK):Prop
 | mk(p:Addr)(bs:List Int)(_:vs=[.ref p])(_:SqH H p (iV bs))(_:J61 bs)(_:Q .non H)
inductive Jpb(vs:List V)(H:Hp)(Q:VK)(E:XK):Prop
 | mk(p q:Addr)(a bs:List Int)(_:vs=[.ref p,.ref q])(_:SqH H p (iV a))(_:SqH H q (iV bs))(_:a.sum=bs.sum)(_:a.sum<=10^30)(_:Q .non H)
theorem scRefB:FS1 ["lengths"] Jl3:=fsc
theorem Jro(F:Fn1 Jl3)(T:TxtR mg)(a:mg "min"=none)(c:mg "MOST_BLOCKS"=some (.int 12 t12)):
  Ca1 1 Jl3 Jpe:=by
 refine F.ok scRefB (fun f d A o s H vs Q E l h=>?_);obtain⟨p,bs,rfl,b,g,k⟩:=h;have n:=g.lo;have m:=g.hi;refine⟨_,(J1 (J1b (Jl J40 (pcb Ju T.len (pv 0)) J9 (Jp _)) (J4 J1q) Jo)
  (J1 (J1b (Jl J73 (pcb Ju T.len (pv 0)) (Jb2 (v:=.int 12) rfl c ⟨_,rfl⟩) (Jp _)) (J4 J1q) Jo)
  (J4 (J1b (Jl J9l (J1r (Jgl rfl) (by rfl) a boot_min (J0 (pv 0) J3)) J9 (Jp _)) (J4 J1q) Jo)))),?_⟩
 have e:(iV bs).length=bs.length:=length_map ..;refine⟨_,rfl,p,_,rfl,b.sq,rfl,_,rfl,iteD (J37 (by rw[e];lia)) ⟨_,rfl,p,_,rfl,b.sq,_,_,rfl,rfl,_,rfl,iteD (by rw[e];lia) ?_⟩⟩;exact⟨_,rfl,p,bs,rfl,b.sq,by lia,fun M j i=>⟨_,_,rfl,rfl,_,rfl,iteD (by have:=g.pos M j;lia) k⟩⟩
theorem scRefS:FS1 ["above","below"] Jl0:=fsc
theorem Jrl(F:Fn1 Jl0)(T:TxtR mg):
  Ca1 1 Jl0 Jpb:=by
 refine F.ok scRefS (fun f d A o s H vs Q E g h=>?_);obtain⟨p,q,a,bs,rfl,b,c,e,i,k⟩:=h;refine⟨_,(J1 (J1b (Jl J72 (pcb (J1z rfl) T.sum (pv 0)) (pcb (J1z rfl) T.sum (pv 1)) (Jp _)) (J4 J1q) Jo)
  (J4 (J1b (Jl J73 (pcb (J1z rfl) T.sum (pv 0)) (Ji J9w J9 J9) (Jp _)) (J4 J1q) Jo))),?_⟩
 refine⟨_,rfl,p,a,rfl,b.sq,_,rfl,q,bs,rfl,c.sq,rfl,_,rfl,Jcl (by rw[e]) ?_⟩;exact⟨_,rfl,p,a,rfl,b.sq,_,_,rfl,rfl,⟨by decide,by decide,by decide⟩,_,_,rfl,rfl,_,rfl,iteD (show ¬ (10:Int)^30<a.sum by lia) k⟩
inductive Jdn(C:Addr)(vs:List V)(H:Hp)(Q:VK)(E:XK):Prop
 | mk(p:Addr)(bs:List Int)(_:vs=[.ref p])(_:SqH H p (iV bs))(_:J61 bs)(_:bs.sum<=10^30)(_:∀x a,Same H a->J2k C a x bs (List.range bs.length) (replicate bs.length true)->Q (.ref x) a)
theorem J61.good(g:J61 bs)(h:bs.sum<=10^30):Good bs (List.range bs.length):=⟨g.lo,by have:=g.hi;lia,g.pos,h,List.Perm.refl _⟩
theorem SqH.up(h:SqH H p xs)(s:Same H H'):SqH H' p xs:=by
 rcases h with h|h
 ·exact .inl (s _ _ h)
 ·exact .inr (s _ _ h)
theorem Jqj:FS1 ["lengths"] Ja5:=fsc
theorem Jni(F:Fn1 Ja5)(T:TxtR mg)(X:Mak CX0 3 "Line" C ["self","lengths","order","turned"] [] (Jfa C)):
  Ca1 5 Ja5 (Jdn C):=by
 refine F.ok Jqj (fun f d A o s H vs Q E S h=>?_);obtain⟨p,bs,rfl,q,g,R,k⟩:=h;refine⟨_,(J4 (Jf (pmk X S Jj (J0 (pv 0) (J0 (pct (J3d rfl) T.list (J3h J6t (by rfl) T.range PyProof.Rows.boot_range (J0 (pcb Ju T.len (pv 0)) J3))) (J0 (Ji Jj3 (J2h (J0 J5i J3)) (pcb Ju T.len (pv 0))) J3)))))),?_⟩;have B:(iV bs).length=bs.length:=length_map ..;have U:=g.hi;have Z:=Js (n:=100) (by decide);refine⟨_,rfl,_,rfl,p,_,rfl,q.sq,_,rfl,fun r m=>?_⟩;have N:=J8 (o:=.rng 0 ((iV bs).length:Int)) m;refine⟨r,bs.length,rfl,(by rw[J7,B]),by lia,fun lo w=>?_⟩;have M:=J8 (o:=.lst (nV (List.range bs.length))) w;refine⟨by show 1<=sizeLine;lia,fun l1 z=>?_⟩;have I:=J8 (o:=.lst [V.bl true]) z;have a:=N.trans (M.trans I);refine⟨_,rfl,p,_,rfl,(q.up a).sq,l1,_,[V.bl true],rfl,rfl,J7,by lia,by rw[B];lia,(by show 1*((iV bs).length:Int).toNat<=sizeLine;rw[B];lia),fun j y=>?_⟩;have W:(replicate ((iV bs).length:Int).toNat [V.bl true]).flatten=bV (replicate bs.length true):=by
  simp_all
 rw[W];have G:=J8 (o:=.lst (bV (replicate bs.length true))) y;have c:=a.trans G;have P:=G _ _ (I _ _ (show upd (upd H r (.rng 0 ((iV bs).length:Int))) lo (.lst (nV (List.range bs.length))) lo=some (.lst (nV (List.range bs.length))) from J7));have O:upd (upd (upd (upd H r (.rng 0 ((iV bs).length:Int))) lo (.lst (nV (List.range bs.length)))) l1 (.lst [V.bl true])) j (.lst (bV (replicate bs.length true))) j=some (.lst (bV (replicate bs.length true))):=J7;refine fun x K J D v=>?_;have i:=(J8 (o:=.own x) D).trans (J8 (l:=x) (o:=.ins C K []) (by rw[Jh (Ne.symm v)];exact J));refine⟨x,K,p,lo,.ref j,bs,List.range bs.length,replicate bs.length true,rfl,J7,(q.up (c.trans i)),.inl (i _ _ P),g.good R,⟨length_replicate,.inr ⟨j,rfl,.inl (i _ _ O)⟩⟩,fun Y L kp=>⟨rfl,?_⟩⟩;exact k x Y (fun b u e=>kp _ _ (i _ _ (c _ _ e)) (Jb (c _ _ e) J)) L
structure Jes(K:Frag)(CAr:Addr):Prop where
 cl:Cls K CAr
 nA:J18 K CAr "above"
 nB:J18 K CAr "below"
 nZ:J18 K CAr "size"
 nL:J18 K CAr "line"
 nC:J18 K CAr "chart"
noncomputable def gT(bs:List Int):Int->Int:=gL bs (List.range bs.length) (replicate bs.length true)
structure J4n(as bs:List Int):Prop where
 a:J61 as
 b:J61 bs
 eq:as.sum=bs.sum
 le:as.sum<=10^30
structure ArAt(C CH CR CAr:Addr)(cs:Kd->Addr)(H:Hp)(x:Addr)(as bs:List Int):Prop where
 ex:∃(dx:Addr) (fs:List (Str×V)) (pa pb xl xc:Addr) (ls:List Int) (os:List Nat) (ts:List Bool) (m:Nat),H x=some (.ins CAr dx fs)/\fs.lookup ("above":Str)=some (.ref pa)/\fs.lookup ("below":Str)=some (.ref pb)/\fs.lookup ("size":Str)=some (.int as.sum)/\fs.lookup ("line":Str)=some (.ref xl)/\fs.lookup ("chart":Str)=some (.ref xc)/\
  H pa=some (.tup (iV as))/\H pb=some (.tup (iV bs))/\J2k C H xl ls os ts/\Good ls os/\ts.length=ls.length/\PlG (fun y=>gT bs (gT as y)) as.sum ls os ts/\ChF C CH CR cs H xc ls os ts m/\ChP ls os ts m
noncomputable def J3k(x:Addr)(H a:Hp):Prop:=∀b u,H b=some u->b≠x->isTbl u=false->a b=some u
inductive Jff(C CH CR b TB TJ:Addr)(cs:Kd->Addr)(vs:List V)(H:Hp)(Q:VK)(E:XK):Prop
 | mk(x d p q:Addr)(c bs:List Int)(_:vs=[.ref x,.ref p,.ref q])(_:H x=some (.ins b d []))(_:SqH H p (iV c))(_:SqH H q (iV bs))(_:q≠x)(_:J24 H TB lpLO "line_of.<locals>.<lambda>")(_:J24 H TJ lpJS "joined_stretches.<locals>.<lambda>")(_:J4n c bs)(_:∀a,ArAt C CH CR b cs a x c bs->J3k x H a->J24 a TB lpLO "line_of.<locals>.<lambda>"->J24 a TJ lpJS "joined_stretches.<locals>.<lambda>"->Q .non a)
end
section
variable [En]
theorem Jou{ls d:List Int}{os e:List Nat}{ts ts':List Bool}(O:Ord ls os)(n:Ord d e)(j:d.sum=ls.sum)(q:0<=ls.sum){S:List Sr}(R:RepS (fun x=>gL d e ts' (gL ls os ts x)) 0 S ls.sum):S.length<=ls.length+d.length:=by
 have m:=J5e (ts:=ts) O;have l:=J5e (ts:=ts') n;rw[j] at l;have g:=J87 (ts:=ts) O;have f:=J87 (ts:=ts') n;rw[j] at f;have p:=Jpx g f m.inj;rw[J58,J58] at p;have i:=List.mergeSort_perm (jn (srsL ls os ts) (srsL d e ts')) (fun s t=>decide (s.fi<=t.fi));have o:((jn (srsL ls os ts) (srsL d e ts')).mergeSort (fun s t=>decide (s.fi<=t.fi))).Pairwise (fun s t=>s.fi<=t.fi):=by
  have:=List.pairwise_mergeSort (le:=fun(s t:Sr)=>decide (s.fi<=t.fi)) (fun a b c u r=>by simp only[decide_eq_true_iff] at *;lia) (fun a b=>by simp only[Bool.or_eq_true,decide_eq_true_iff];lia) (jn (srsL ls os ts) (srsL d e ts'));exact this.imp fun h=>by simpa using h
 have R2:=Jkh m l g f q i o;rw[R.uni R2];have:=Jg0 ((jn (srsL ls os ts) (srsL d e ts')).mergeSort (fun s t=>decide (s.fi<=t.fi)));have:=i.length_eq;lia
theorem J3k.of(s:J3e H H'):J3k x H H':=fun b u e _ z=>s b u e z
theorem J3k.trans(a:J3k x H H1)(b:J3k x H1 H2):J3k x H H2:=fun c u e n z=>b c u (a c u e n z) n z
theorem J3k.upd :J3k x H (upd H x o):=fun b u e n _=>by rw[Jh n];exact e
theorem Ji3(d:H x=some (.ins CX dx fs))(t:J24 H T pos q):J24 (upd H x ob) T pos q:=by
 obtain⟨ps,b,j,i⟩:=t.ex;refine⟨ps,by rw[Jh (fun e=>by rw[e,d] at b;cases b)];exact b,j,fun l e=>?_⟩;obtain⟨c,h,vs,t,g,a,f⟩:=i l e;exact⟨c,h,vs,t,g,by rw[Jh (fun e=>by rw[e,d] at a;cases a)];exact a,f⟩
theorem J3k.sqH(k:J3k x H H')(h:SqH H p xs)(n:p≠x):SqH H' p xs:=h.elim (fun h=>.inl (k _ _ h n rfl)) fun h=>.inr (k _ _ h n rfl)
theorem Tp.kt(t:Tp x p xs H)(k:J3k x H H'):Tp x p xs H':=⟨t.ne,k _ _ t.at_ t.ne rfl⟩
structure Sy(x C dx TB TJ:Addr)(Hw:Hp)(fs:List (Str×V))(n:Nat)(H:Hp):Prop where
 at_:H x=some (.ins C dx fs)
 kp:J3k x Hw H
 len:fs.length<=n
 lt:n<1000
 tb:J24 H TB lpLO "line_of.<locals>.<lambda>"
 tj:J24 H TJ lpJS "joined_stretches.<locals>.<lambda>"
section
variable{x C dx TB TJ p:Addr}{Hw H H3:Hp}{fs:List (Str×V)}{n:Nat}{xs:List V}
theorem Sy.few(S:Sy x C dx TB TJ Hw fs n H):fs.length<1000:=Nat.lt_of_le_of_lt S.len S.lt
theorem Sy.on(S:Sy x C dx TB TJ Hw fs n H)(s:Same H H3):Sy x C dx TB TJ Hw fs n H3:=⟨s _ _ S.at_,S.kp.trans (J3k.of (Same.t s)),S.len,S.lt,J1p S.tb s,J1p S.tj s⟩
theorem Sy.set(S:Sy x C dx TB TJ Hw fs n H)(f:Str)(v:V)(h:n+1<1000:=by decide):∃a,upd H x (.ins C dx (putF f v fs))=a/\Sy x C dx TB TJ Hw (putF f v fs) (n+1) a/\J23 x H a:=
 ⟨_,rfl,⟨J7,S.kp.trans J3k.upd,Nat.le_trans (J1x ..) (Nat.succ_le_succ S.len),h,Ji3 S.at_ S.tb,Ji3 S.at_ S.tj⟩,J23.upd⟩
theorem Sy.put(S:Sy x C dx TB TJ Hw fs n H)(s:Same H H3)(b:H3 p=some (.tup xs))(f:Str)(h:n+1<1000:=by decide):∃a,upd H3 x (.ins C dx (putF f (.ref p) fs))=a/\Sy x C dx TB TJ Hw (putF f (.ref p) fs) (n+1) a/\J23 x H a/\Tp x p xs a:=
 let ⟨a,e,S4,k⟩:=(S.on s).set f (.ref p) h;have n:=fun z=>by rw[z,s _ _ S.at_] at b;cases b
 ⟨a,e,S4,(J23.of s).trans k,n,k _ _ b n⟩
end
theorem Jmz:Jr ["self","above","below"] ["self","above","below"] (Jd (Jc (top 72) 0)):=fsc
theorem Jjz{CR:Addr}(F:Fun K "__init__" "Arches.__init__" (Jc (top 72) 0) f fd)(T:TxtR mg)(TA:Jes K CAr)(W:Ca1 1 Jl3 Jpe)(af:Ca1 1 Jl0 Jpb)(y:Ca1 5 Ja5 (Jdn C))(ag:Ca1 7 J98 (Jbx C TB TJ))(ah:Mak CX0 6 "Chart" CH ["self","line"] [] (Jif C CR CH cs)):
  FnOk P w K mg base CX0 8 f fd ["self","above","below"] (Jff C CH CR CAr TB TJ cs):=by
 refine F.ok1 Jmz (fun d A o s H vs Q E B h=>?_);obtain⟨x,i,p,q,I,bs,rfl,hx,hp,hq,aa,Tb,Tj,c,k⟩:=h;refine⟨_,(J1 (J1f (pcl W B Jj (J0 (pv 1) J3)))
  (J1 (J1f (pcl W B Jj (J0 (pv 2) J3)))
  (J1 (J1f (pcl af B Jj (J0 (pv 1) (J0 (pv 2) J3))))
  (J1 (J1o (pv 0) (pct J1s T.tuple (pv 1)) rfl)
  (J1 (J1o (pv 0) (pct J1s T.tuple (pv 2)) rfl)
  (J1 (J1o (pv 0) (pcb (J1z rfl) T.sum (Ja (pv 0))) rfl)
  (J1 (J1o (pv 0) (pcl ag B Jj (J0 (pcl y B Jj (J0 (Ja (pv 0)) J3)) (J0 (pcl y B Jj (J0 (Ja (pv 0)) J3)) J3))) rfl)
  (J4 (J1o (pv 0) (pmk ah B Jj (J0 (Ja (pv 0)) J3)) rfl))))))))),?_⟩
 refine⟨_,rfl,p,I,rfl,hp,c.a,_,rfl,q,bs,rfl,hq,c.b,_,rfl,_,rfl,p,q,I,bs,rfl,hp,hq,c.eq,c.le,?_⟩;refine⟨_,rfl,J1w hp fun M H1 s1 ac=>⟨_,rfl,x,CAr,i,[],rfl,s1 _ _ hx,TA.cl,TA.nA,by decide,?_⟩⟩;obtain⟨H2,e2,S2,_,g⟩:=Sy.put (TB:=TB) (TJ:=TJ) (Hw:=H) (n:=0) ⟨hx,J3k.of (Same.t (Same.refl _)),Nat.le_refl _,by decide,Tb,Tj⟩ s1 ac "above";rw[e2];refine⟨_,rfl,J1w (S2.kp.sqH hq aa) fun pb H3 s3 ab=>⟨_,rfl,x,CAr,i,_,rfl,s3 _ _ S2.at_,TA.cl,TA.nB,S2.few,?_⟩⟩;obtain⟨H4,e4,Z,k4,v⟩:=S2.put s3 ab "below";rw[e4];have g:=g.kp k4;refine⟨_,rfl,x,CAr,i,_,_,rfl,Z.at_,TA.cl,TA.nA,show _=some (V.ref M) by kernel_rfl,M,I,rfl,.inr (SqT.of g.at_),_,rfl,x,CAr,i,_,rfl,Z.at_,TA.cl,TA.nZ,Z.few,?_⟩;obtain⟨H5,e5,S5,k5⟩:=Z.set "size" (.int I.sum);rw[e5];have g:=g.kp k5;have v:=v.kp k5;have am:=c.a.hi;have al:=c.b.hi;have N:bs.sum<=10^30:=by rw[<- c.eq];exact c.le
 refine⟨_,rfl,x,CAr,i,_,_,rfl,S5.at_,TA.cl,TA.nA,show _=some (V.ref M) by kernel_rfl,M,I,rfl,.inr g.at_,c.a,c.le,fun x1 H6 L L1=>⟨_,rfl,x,CAr,i,_,_,rfl,L _ _ S5.at_,TA.cl,TA.nB,show _=some (V.ref pb) by kernel_rfl,pb,bs,rfl,.inr (L _ _ v.at_),c.b,N,fun x2 H7 X L2=>?_⟩⟩;have z:=S5.on (L.trans X);have g:=g.kp (J23.of (L.trans X));have v:=v.kp (J23.of (L.trans X));have D:=c.a.good c.le;have U:=c.b.good N;refine⟨x1,x2,I,bs,_,_,_,_,rfl,L1.same X,L2,D,U,length_replicate,length_replicate,by lia,z.tb,z.tj,c.eq.symm,fun S R=>⟨?_,fun xl l o t H8 J aj ai PG el G LX=>?_⟩⟩
 ·have:=Jou D.ord U.ord c.eq.symm (by have:=D.pos_sum;lia) R;lia
 refine⟨_,rfl,x,CAr,i,_,rfl,J _ _ z.at_ rfl,TA.cl,TA.nL,z.few,?_⟩;have S8:Sy x CAr i TB TJ H _ _ H8:=⟨J _ _ z.at_ rfl,z.kp.trans (J3k.of J),z.len,z.lt,aj,ai⟩;obtain⟨H9,e9,S9,k9⟩:=S8.set "line" (.ref xl);rw[e9];have g:=(g.kt (J3k.of J)).kp k9;have v:=(v.kt (J3k.of J)).kp k9;have LX:=LX.kp (Kp.x k9 S8.at_ (by kernel_rfl));have tl:t.length=l.length:=PG.len;have ok0:(J20 l o t).Ok:=Jag G.perm G.pos tl G.hi;have z0:(J20 l o t).size<=10^30:=by rw[ok0.size_sum];exact G.sum
 refine⟨_,rfl,x,CAr,i,_,_,rfl,S9.at_,TA.cl,TA.nL,show _=some (V.ref xl) by kernel_rfl,fun xc dc O ae ad=>?_⟩;have sc:=(J8 (o:=.own xc) ae).trans (J8 (l:=xc) (o:=.ins CH dc []) (by rw[Jh (Ne.symm ad)];exact O));refine⟨xc,dc,xl,l,o,t,rfl,J7,LX.same sc,ok0,z0,G.lo,fun m ak lg tp A0 kc=>⟨rfl,?_⟩⟩;have j:Same H9 ak:=fun b u e=>kc _ _ (sc _ _ e) (Jb e O);have r:=S9.on j;refine⟨_,rfl,x,CAr,i,_,rfl,r.at_,TA.cl,TA.nC,r.few,?_⟩;obtain⟨Hz,ez,Y,kz⟩:=r.set "chart" (.ref xc);rw[ez];have kp:=Kp.x kz r.at_ (by kernel_rfl);have LZ:=(LX.same j).kp kp;exact k _ ⟨i,_,M,pb,xl,xc,l,o,t,m,Y.at_,by kernel_rfl,by kernel_rfl,by kernel_rfl,by kernel_rfl,by kernel_rfl,((g.kp (J23.of j)).kp kz).at_,((v.kp (J23.of j)).kp kz).at_,LZ,G,tl,PG,⟨xl,A0.kp kp,LZ⟩,G,tl,lg,tp⟩ Y.kp Y.tb Y.tj
end
section
variable [En]
structure Jq5(H:Hp)(ys:List V)(ps:List (Int×Int)):Prop where
 len:ys.length=ps.length
 at_:∀(i:Nat) (p:Int×Int),ps[i]?=some p->∃q,ys[i]?=some (.ref q)/\H q=some (.tup [.int p.1,.int p.2])
inductive spRoB(vs:List V)(H:Hp)(Q:VK)(E:XK):Prop
 | mk(c:Addr)(b:Band)(_:vs=[.ref c])(_:H c=some (.tup (J9i b)))(_:∀l ys a,Same H a->a l=some (.lst ys)->Jq5 a ys (contrib b)->Q (.ref l) a)
theorem scRoB:FS1 ["band"] J90:=fsc
theorem ok_rob(F:Fn1 J90):
  Ca1 1 J90 spRoB:=by
 refine F.ok scRoB (fun f d A o s H vs Q E y h=>?_);obtain⟨e,b,rfl,a,k⟩:=h;refine⟨_,(J1 (J1b (Jcb (J2x (Jt Jm (pv 0) J9))) (J4 (Jf (J2h (J0 (J2g (J0 (Jt Jm (pv 0) J9) (J0 (Jt Jm (pv 0) J9) J3))) J3)))) Jo)
  (J4 (Jf (J2h (J0 (J2g (J0 (Jt Jm (pv 0) J9) (J0 (Ji J25 (Jt Jm (pv 0) J9) J9) J3))) (J0 (J2g (J0 (Ji J9x J9 (Jt Jm (pv 0) J9)) (J0 (Ji J3t (Jt Jm (pv 0) J9) J9) J3))) J3)))))),?_⟩
 refine⟨_,rfl,e,_,_,_,rfl,rfl,SqT.of a,Je (j:=3) rfl,_,rfl,?_⟩;unfold contrib at k;by_cases ct:b.2.2.2=true
 ·refine J7n (show ¬ (!(b.2.2.2))=true by rw[ct];decide) ?_;rw[if_pos ct] at k;refine⟨_,rfl,e,_,_,_,rfl,rfl,SqT.of a,Je (j:=2) rfl,_,rfl,e,_,_,_,rfl,rfl,SqT.of a,Je (j:=1) rfl,_,_,rfl,rfl,(by show(0:Int)<2;decide),(by show 2<=sizeLine;decide),fun q r=>?_⟩;have m:=J8 (o:=.tup [.int b.2.2.1,.int (b.2.1%2)]) r;refine⟨_,rfl,e,_,_,_,rfl,rfl,SqT.of (m _ _ a),Je (j:=2) rfl,_,_,rfl,rfl,.inl ⟨by decide,by decide⟩,_,rfl,e,_,_,_,rfl,rfl,SqT.of (m _ _ a),Je (j:=1) rfl,_,_,rfl,rfl,⟨by decide,by decide⟩,(by show 2<=sizeLine;decide),fun w n=>⟨(by show 2<=sizeLine;decide),fun l u=>?_⟩⟩;have v:=J8 (o:=.tup [.int (2*b.2.2.1),.int (b.2.1/2)]) n;have g:=J8 (o:=.lst [.ref q,.ref w]) u;refine k l _ _ ((m.trans v).trans g) J7 ⟨rfl,fun i p c=>?_⟩
  match i,c with
  | 0,c=>cases c;exact⟨q,rfl,g _ _ (v _ _ J7)⟩
  | 1,c=>cases c;exact⟨w,rfl,g _ _ J7⟩
  | i+2,c=>cases c
 ·refine J76 (show(!(b.2.2.2))=true by cases h:b.2.2.2 with|true=>exact absurd h ct|false=>rfl) ?_;rw[if_neg ct] at k;refine⟨_,rfl,e,_,_,_,rfl,rfl,SqT.of a,Je (j:=2) rfl,_,rfl,e,_,_,_,rfl,rfl,SqT.of a,Je (j:=1) rfl,(by show 2<=sizeLine;decide),fun q r=>⟨(by show 1<=sizeLine;decide),fun l u=>?_⟩⟩;have m:=J8 (o:=.tup [.int b.2.2.1,.int b.2.1]) r;have g:=J8 (o:=.lst [.ref q]) u;refine k l _ _ (m.trans g) J7 ⟨rfl,fun i p c=>?_⟩
  match i,c with
  | 0,c=>cases c;exact⟨q,rfl,g _ _ J7⟩
  | i+1,c=>cases c
theorem Jll(bs:List Band)(i:Nat)(hi:i<bs.length):conB (bs.take (i+1))=conB (bs.take i)++contrib (bs.getD i bz0):=by
 unfold conB;rw[show bs.take (i+1)=bs.take i++[bs[i]] from(take_append_getElem hi).symm,flatMap_append,getD_eq_getElem?_getD,gE hi];show _++(contrib bs[i]++[])=_;rw[append_nil];rfl
theorem take_snoc{α:Type}{xs:List α}{x:α}(h:xs[j]?=some x):xs.take (j+1)=xs.take j++[x]:=by
 obtain⟨a,e⟩:=List.getElem?_eq_some_iff.mp h;rw[<- e];exact(take_append_getElem a).symm
inductive Jf2(C CH CR:Addr)(cs:Kd->Addr)(vs:List V)(H:Hp)(Q:VK)(E:XK):Prop
 | mk(xc:Addr)(ls:List Int)(os:List Nat)(ts:List Bool)(m:Nat)(_:vs=[.ref xc])(_:ChF C CH CR cs H xc ls os ts m)(_:ChP ls os ts m)(_:∀l ys ks a,Same H a->a l=some (.lst ys)->RefL (fun q L=>a q=some (.tup [.int L,.int (cntL (conB (bsC ls os ts m)) L)])) ys ks->RdsO2 (J20 ls os ts).size (bsC ls os ts m) ks->Q (.ref l) a)
theorem J69:FS1 ["chart","counts","band","length","number"] J8y:=fsc
theorem Jjc{CR:Addr}(F:Fn1 J8y)(T:TxtR mg)(v:mg "sorted"=none)(TH:Jdg K CH)(ae:Ca1 1 J90 spRoB):
  Ca1 2 J8y (Jf2 C CH CR cs):=by
 refine F.ok J69 (fun f d A o s H vs Q E hr h=>?_);obtain⟨xc,ls,os,ts,m,rfl,F0,cp,k⟩:=h;have w:=Joo hr;have S:=cp.sys;obtain⟨xl,A0,L0⟩:=F0;obtain⟨dq,fs,pr,ps,pt,pb,xr,xs,xt,xb,h0,⟨lL,lR,lS,lT,lB⟩,⟨h1,h2,h3,h4⟩,r1,r2,r3,r4⟩:=A0.ex;have nb:(bsC ls os ts m).length<=24:=by
  have h1:(bsC ls os ts m).length+_<=_:=cp.cok.bands cp.lg;have h2:(J21 ls os ts).1.top.length=ls.length:=length_range;have h3:=cp.good.hi;lia
 refine⟨_,(J1 (pst J69 1 Jb3)
  (J1 (J30 PassesOwn.never rfl (J7b (Ja (pv 0))) (pgm J69 2)
   (J4 (J30 PassesOwn.never rfl (J2e (pcl ae hr Jj (J0 (pv 2) J3))) (J9v rfl (J2b (pgm J69 3) (J2b (pgm J69 4) J71)))
    (J4 (Jdz w (pv 1) (pv 3) (Ji J13 (Jb4 w (pv 1) (pv 3) J9 ⟨rfl,rfl,rfl,rfl⟩) (pv 4)) rfl)))))
  (J4 (Jf (Jb1 (caps:=["counts"]) (js:=[1]) rfl (J2e (J1r (J7j rfl) (by rfl) v boot_sorted (J0 (pv 1) J3))) rfl (fun _ _ _ _=>(Jaw (Jl J73 (Je3 w (pv 1) (pv 0) (fun _ _=>rfl)) J9 (Jp _)))) (fun C fp s H=>(J2g (J0 (pv 0) (J0 (Je3 w (pv 1) (pv 0) (fun _ _=>rfl)) J3))))))))),?_⟩
 intro r z;have sm:∀{Hw:Hp} {o:HO},Same H Hw->Same H (upd Hw r o):=fun {Hw o} s b u e=>by rw[Jh (Jb e z)];exact s _ _ e
 have cl:=J81 (bsC ls os ts m);refine⟨_,rfl,xc,CH,dq,fs,_,rfl,J8 z _ _ h0,TH.cl,TH.nB,lB,pb,rfl,⟨_,SqT.of (J8 z _ _ h4)⟩,J8t (K:=K) (a:=pb) (xs:=xb)
  (fun i σ Hw=>∃(kvs:List (Key×V)) (ns:List Int) (v2 D B:Option V),σ=[some (.ref xc),some (.ref r),v2,D,B]/\Hw r=some (.dK kvs)/\CntD (conB ((bsC ls os ts m).take i)) kvs ns/\Same H Hw)
  ⟨[],[],none,none,none,rfl,J7,CntD.nil,J8 z⟩ (fun i σ Hw _ ⟨_,_,_,_,_,_,_,_,s⟩=>SqT.of (s _ _ h4)) ?_ ?_⟩
 ·rintro i x' σ Hw R ⟨kvs,ns,v2,D,B,rfl,c,g,sw⟩;have hi:i<(bsC ls os ts m).length:=by rw[<- r4.len];exact(List.getElem?_eq_some_iff.mp R).1
  obtain⟨bp,ac,N⟩:=r4.at_ i hi;obtain rfl:x'=.ref bp:=Option.some.inj (R.symm.trans ac);have N:H bp=some (.tup (J9i ((bsC ls os ts m).getD i bz0))):=N;refine⟨_,rfl,bp,_,rfl,sw _ _ N,fun l ys H1 s1 hl pa=>?_⟩;have ad:=Jll (bsC ls os ts m) i hi;have c2:=J9e ((bsC ls os ts m).getD i bz0);have c3:=J81 ((bsC ls os ts m).take i);rw[length_take] at c3;refine⟨l,rfl,⟨_,SqL.of hl⟩,J3o (K:=K) (a:=l) (xs:=ys)
   (fun j σ O=>∃(kvs:List (Key×V)) (ns:List Int) (D B:Option V),σ=[some (.ref xc),some (.ref r),some (.ref bp),D,B]/\O r=some (.dK kvs)/\CntD (conB ((bsC ls os ts m).take i)++(contrib ((bsC ls os ts m).getD i bz0)).take j) kvs ns/\Same H O/\O l=some (.lst ys)/\Jq5 O ys (contrib ((bsC ls os ts m).getD i bz0)))
   ⟨kvs,ns,D,B,rfl,s1 _ _ c,(by rw[List.take_zero,append_nil];exact g),sw.trans s1,hl,pa⟩ (fun j σ O _ ⟨_,_,_,_,_,_,_,_,e,_⟩=>SqL.of e) ?_ ?_⟩
  ·rintro j y σ O hj ⟨kvs,ns,D,B,rfl,c,g,sf,J,P⟩;have Z:j<(contrib ((bsC ls os ts m).getD i bz0)).length:=by rw[<- P.len];exact(gS hj)
   obtain⟨q,eq,W⟩:=P.at_ j _ (gE Z);obtain rfl:y=.ref q:=Option.some.inj (hj.symm.trans eq);have tk:=take_snoc (gE Z);generalize (contrib ((bsC ls os ts m).getD i bz0))[j]=pn at *;have kl:=g.klen;have kn:=g.len;rw[length_append,length_take] at kn;have X:kvs.length<sizeLine:=Js (by lia);refine⟨q,_,rfl,SqT.of W,rfl,_,_,rfl,_,_,rfl,rfl,?_⟩;refine⟨_,rfl,r,rfl,.inl ⟨kvs,.inl c⟩,_,rfl,_,DGet.k (k:=Sum.inl pn.1) c,_,rfl,cntL (conB ((bsC ls os ts m).take i)++(contrib ((bsC ls os ts m).getD i bz0)).take j) pn.1,pn.2,g.get pn.1,rfl,_,rfl,_,rfl,r,_,rfl,DPut.k (k:=Sum.inl pn.1) c X,?_⟩;obtain⟨n,ab⟩:=g.put pn.1 pn.2;have nl:l≠r:=fun e=>by rw[e,c] at J;cases J
   refine⟨_,n,_,_,rfl,J7,?_,sm sf,?_,P.len,fun a p hp=>?_⟩
   ·rw[tk,<- List.append_assoc];exact ab
   ·rw[Jh nl];exact J
   ·obtain⟨q',e',k'⟩:=P.at_ a p hp;refine⟨q',e',?_⟩;rw[Jh (fun e=>by rw[e,c] at k';cases k')];exact k'
  ·rintro σ O ⟨kvs,ns,D,B,rfl,c,g,sf,_,P⟩;rw[P.len,take_length,<- ad] at g;exact⟨kvs,ns,_,_,_,rfl,c,g,sf⟩
 ·rintro σ Hw ⟨kvs,ns,v2,D,B,rfl,c,g,sw⟩;have g:CntD (conB (bsC ls os ts m)) kvs ns:=by rw[r4.len,take_length] at g;exact g
  have kn:=g.len;refine⟨_,rfl,r,kvs,ns,rfl,c,g.keys,by lia,fun l n hl I aa=>?_⟩;have sl:=J8 (o:=.lst (iV n)) hl;have Y:upd Hw l (.lst (iV n)) l=some (.lst (iV n)):=J7;have U:=sl _ _ c;generalize upd Hw l (.lst (iV n))=H1 at *;have dg:∀{G:Hp},Same H1 G->∀L∈n,DGet G r (.int L) (some (.int (cntL (conB (bsC ls os ts m)) L))):=fun {G} s L hL=>by
   rw[<- g.val L (I.mem_iff.mp hL)];exact DGet.k (k:=Sum.inl L) (s _ _ U)
  refine⟨l,rfl,⟨_,SqL.of Y⟩,fun d hd=>Jg1 n (fun L=>decide (0<cntL (conB (bsC ls os ts m)) L)) (fun H q L=>H q=some (.tup [.int L,.int (cntL (conB (bsC ls os ts m)) L)])) (SqL.of Y) ?_ hd (fun H G q x kd hn h=>kd _ _ h hn) ?_ ?_ ?_⟩
  ·exact Nat.le_of_lt (Js (by rw[I.length_eq];lia))
  ·intro L hL G Qt s' kt;exact⟨_,rfl,_,rfl,r,_,rfl,dg s' L hL,_,_,rfl,rfl,_,rfl,kt _ (Same.refl _)⟩
  ·rintro L hL G Qe _ s' ⟨ys,M⟩ ke;refine⟨_,rfl,_,rfl,_,rfl,r,_,rfl,dg s' L hL,(by show 2<=sizeLine;decide),fun q W=>?_⟩;exact ke q _ (J8 W) (fun e=>by rw[e,M] at W;cases W) J7
  ·intro ys G s' M rf;exact k d ys _ G ((sw.trans sl).trans s') M rf (S.rds2 g.nd g.all g.has g.len I aa)
end
end R56
namespace Rl
end Rl
namespace R56
open PySem L2 Rl En
section
variable [En]
theorem Jop{os:List Nat}(g:Good ls os)(b:ts.length=ls.length)(h:0<=y/\y<ls.sum):gC ls os ts y=gL ls os ts y:=by
 have O:=g.ord;obtain⟨j,q⟩:=O.range.exists h.1 h.2;have ok:=Jag g.perm g.pos b g.hi;refine go_of ok ⟨j,?_,?_⟩
 ·have a:=q;unfold Lies at a;rw[J2o O q.1] at a;exact⟨by rw[length_range];exact q.1,a.2.1,by rw[J16,J2m q.1];exact a.2.2⟩
 ·rw[Jco O q,J2m q.1,J2o O q.1]
theorem J61.getD(g:J61 bs):∀j,j<bs.length->1<=bs.getD j 0:=fun j a=>g.pos _ (by simp_all)
structure ArS(as bs ls:List Int)(os:List Nat)(ts:List Bool)(m:Nat):Prop where
 eq:∀y,0<=y/\y<as.sum->gC ls os ts y=tB bs (tB as y)
 size:(J20 ls os ts).size=as.sum
 sys:Sys (fun y=>tB bs (tB as y)) as.sum (bsC ls os ts m)
theorem Jde{os:List Nat}(G:J4n as bs)(PG:PlG (fun y=>gT bs (gT as y)) as.sum ls os ts)(c:ChP ls os ts m):ArS as bs ls os ts m:=by
 have j:=(G.a.good G.le).ord;have i:=(G.b.good (by rw[<- G.eq];exact G.le)).ord;have g:=J5e (ts:=replicate as.length true) j;have f:=J5e (ts:=replicate bs.length true) i;rw[<- G.eq] at f;have d:=PG.sum;have sz:(J20 ls os ts).size=as.sum:=by rw[c.ok0.size_sum];exact d
 have e:∀y,0<=y/\y<as.sum->gC ls os ts y=tB bs (tB as y):=fun y h=>by
  rw[Jop c.good c.hts (by rw[d];exact h)];exact PG.goes (g.comp f) y h.1 h.2
 have S:=c.sys;rw[sz] at S;exact⟨e,sz,S.congr e⟩
inductive Jpg(vs:List V)(H:Hp)(Q:VK)(E:XK):Prop
 | mk(p:Addr)(bs:List Int)(_:vs=[.ref p])(_:H p=some (.tup (iV bs)))(_:J61 bs)(_:∀l a,Same H a->H l=none->a l=some (.lst (iV (midL bs bs.length)))->Q (.ref l) a)
theorem J4s:FS1 ["lengths","told","first","length"] J6r:=fsc
theorem Jh6(F:Fn1 J6r):Ca1 1 J6r Jpg:=by
 refine F.ok J4s fun f d A o s H vs Q E D h=>?_;obtain⟨p,bs,rfl,w,g,k⟩:=h;refine⟨_,(J1 (pst J4s 1 (J2h J3))
   (J1 (pst J4s 2 J9)
   (J1 (J30 PassesOwn.never rfl (J7b (pv 0)) (pgm J4s 3)
    (J1 (J1b (Jl J40 (Ji J25 (pv 3) J9) J9 (Jp _)) (J4 (J1f (J5s plainAttrs_list slot_list_append type_list_append J26 (pv 1) (J0 (Ji J13 (pv 2) (Ji J3t (pv 3) J9)) J3)))) Jo)
    (J4 (pst J4s 2 (Ji J13 (pv 2) (pv 3))))))
   (J4 (Jf (pv 1)))))),?_⟩
 refine⟨Nat.zero_le _,fun l q=>⟨_,rfl,p,rfl,⟨_,SqT.of (J8 q _ _ w)⟩,J8t (K:=K) (a:=p) (xs:=iV bs)
  (fun i σ m=>∃v,σ=[some (.ref p),some (.ref l),some (.int (ahB bs i)),v]/\m l=some (.lst (iV (midL bs i)))/\Same H m) ⟨none,rfl,J7,J8 q⟩ (fun i σ m _ B=>by obtain⟨_,_,_,s⟩:=B;exact SqT.of (s _ _ w)) ?_ ?_⟩⟩
 ·rintro i C σ m r ⟨v,rfl,j,n⟩;have z:(iV bs).length=bs.length:=length_map ..;have hi:i<bs.length:=by have:=(gS r);rw[z] at this;exact this
  rw[J1d hi] at r;cases r;have st:ahB bs (i+1)=ahB bs i+bs.getD i 0:=by show Jq _ _ _=_;rw[J16,J2m hi]
  have ml:(iV (midL bs i)).length<=i:=by rw[length_map];unfold midL;rw[length_map];exact Nat.le_trans (length_filter_le _ _) (by rw[length_range];exact Nat.le_refl _)
  have y:=g.hi;refine⟨_,rfl,_,_,rfl,rfl,(by show(0:Int)<2;decide),rfl,_,rfl,?_⟩;by_cases c:bs.getD i 0%2=1
  ·refine J2s (congrArg V.int c) ⟨_,rfl,.inl ⟨rfl,_,SqL.of j⟩,_,rfl,_,rfl,_,_,rfl,rfl,⟨by decide,by decide⟩,_,_,rfl,rfl,l,_,_,rfl,rfl,j,?_,?_⟩
   ·show(iV (midL bs i)).length<sizeLine;exact Js (by lia)
   ·refine⟨_,rfl,_,rfl,_,_,rfl,rfl,_,by rw[st];rfl,?_,fun b u e=>?_⟩
    ·rw[J7,Jci,if_pos c];show some (HO.lst (List.map V.int (midL bs i)++[V.int (ahB bs i+bs.getD i 0/2)]))=some (HO.lst (List.map V.int (midL bs i++[ahB bs i+bs.getD i 0/2])));rw[map_append];rfl
    ·rw[Jh (Jb e q)];exact n _ _ e
  ·refine iteD (fun e=>c (V.int.inj e)) ⟨_,rfl,_,rfl,_,_,rfl,rfl,_,by rw[st];rfl,?_,n⟩;rw[j,Jci,if_neg c,append_nil]
 ·rintro σ m ⟨v,rfl,j,n⟩;rw[show(iV bs).length=bs.length from length_map ..] at j;exact⟨_,rfl,k l m n q j⟩
end
section
variable [En]
noncomputable abbrev fA(a bs:List Int):Int->Int:=fun y=>tB bs (tB a y)
noncomputable def J3c(a bs:List Int):List (Int×Int):=(midL a a.length++midL bs bs.length).map fun x=>((rOf (fA a bs) x:Int),(1:Int))
structure TrAt(H:Hp)(ys:List V)(ts:List (Str×Int×Int)):Prop where
 len:ys.length=ts.length
 at_:∀(i:Nat) (t:Str×Int×Int),ts[i]?=some t->∃q,ys[i]?=some (.ref q)/\H q=some (.tup [.str t.1,.int t.2.1,.int t.2.2])
theorem TrAt.same(h:TrAt H ys ts)(s:Same H H'):TrAt H' ys ts:=⟨h.len,fun i t e=>by obtain⟨q,a,b⟩:=h.at_ i t e;exact⟨q,a,s _ _ b⟩⟩
noncomputable def wayT(a bs:List Int)(L:Int):Str×Int×Int:=("way",L,cntL (J3c a bs) L/2)
inductive spNW(C CH CR b:Addr)(cs:Kd->Addr)(vs:List V)(H:Hp)(Q:VK)(E:XK):Prop
 | mk(x:Addr)(a bs:List Int)(_:vs=[.ref x])(_:ArAt C CH CR b cs H x a bs)(_:J4n a bs)(_:∀l ys (kw:List Int) H',Same H H'->H' l=some (.lst ys)->TrAt H' ys (kw.map (wayT a bs))->kw.Pairwise (· < ·)->(∀p∈J3c a bs,p.1∈kw)->(∀L∈kw,∃p∈J3c a bs,p.1=L)->Q (.ref l) H')
theorem Jas:FS1 ["arches","ends","x","length"] Jcv:=fsc
theorem Jnu{CR:Addr}(F:Fn1 Jcv)(TA:Jes K CAr)(v:mg "sorted"=none)(ab:Ca1 1 J6r Jpg)(ak:Cx1 6 Ja8 (Jdp C CH CR CO cs)):
  Ca1 8 Jcv (spNW C CH CR CAr cs):=by
 refine F.ok Jas fun f d A o s H vs Q E hr h=>?_;obtain⟨x,c,bs,rfl,Ar,G,k⟩:=h;have O:=Joo hr;obtain⟨dx,fs,pa,pb,xl,xc,ls,os,ts,m,h0,lA,lB,lZ,lL,lC,hA,hB,L,gd,tl,PG,CF,cp⟩:=Ar.ex;have S:=Jde G PG cp;have Oa:=(G.a.good G.le).ord;have Ob:=(G.b.good (by rw[<- G.eq];exact G.le)).ord;refine⟨_,(J1 (pst Jas 1 Jb3)
   (J1 (J30 PassesOwn.never rfl (J2e (Ji Jfr (pcl ab hr Jj (J0 (Ja (pv 0)) J3)) (pcl ab hr Jj (J0 (Ja (pv 0)) J3)))) (pgm Jas 2)
    (J1 (pst Jas 3 (pcl ak hr Je4 (J0 (Ja (pv 0)) (J0 (pv 2) J3))))
    (J4 (Jdz O (pv 1) (pv 3) (Ji J13 (Jb4 O (pv 1) (pv 3) J9 ⟨rfl,rfl,rfl,rfl⟩) J9) rfl))))
   (J4 (Jf (Jb1 (caps:=["ends"]) (js:=[1]) rfl (J2e (J1r (J7j rfl) (by rfl) v boot_sorted (J0 (pv 1) J3))) rfl (fun _ _ _ _=>J3s) (fun C fp s H=>J2g (J0 J35 (J0 (pv 0) (J0 (Ji J3t (Je3 O (pv 1) (pv 0) (fun _ _=>rfl)) J9) J3))))))))),?_⟩
 intro z aa;have s0:=J8 (o:=.dK []) aa;have sm:∀{Hw:Hp} {o:HO},Same H Hw->Same H (upd Hw z o):=fun {Hw o} s b u e=>by rw[Jh (Jb e aa)];exact s _ _ e
 have ai:upd H z (.dK []) z=some (.dK []):=J7;generalize upd H z (.dK [])=H0 at *;refine⟨_,rfl,x,CAr,dx,fs,_,rfl,s0 _ _ h0,TA.cl,TA.nA,lA,pa,c,rfl,s0 _ _ hA,G.a,fun l1 H1 s1 n1 D=>?_⟩;refine⟨_,rfl,x,CAr,dx,fs,_,rfl,s1 _ _ (s0 _ _ h0),TA.cl,TA.nB,lB,pb,bs,rfl,s1 _ _ (s0 _ _ hB),G.b,fun l2 H2 s2 n2 af=>?_⟩;have J:∀q:List Int,q.length<=12->(iV (midL q q.length)).length<=12:=fun q Z=>by
  rw[length_map];unfold midL;rw[length_map];exact Nat.le_trans (length_filter_le _ _) (by rw[length_range];exact Z)
 have la:=J c G.a.hi;have lb:=J bs G.b.hi;refine⟨l1,l2,_,_,rfl,rfl,s2 _ _ D,af,Nat.le_of_lt (Js (by lia)),fun U ae=>?_⟩;have s3:=J8 (o:=.lst (iV (midL c c.length)++iV (midL bs bs.length))) ae;have h3:upd H2 U (.lst (iV (midL c c.length)++iV (midL bs bs.length))) U=some (.lst (iV (midL c c.length++midL bs bs.length))):=by rw[J7];show _=some (HO.lst (List.map V.int _));rw[map_append]
 have sA:=((s0.trans s1).trans s2).trans s3;have ah:=s3 _ _ (s2 _ _ (s1 _ _ ai));generalize upd H2 U (.lst (iV (midL c c.length)++iV (midL bs bs.length)))=H3 at *;have ac:∀y∈midL c c.length++midL bs bs.length,0<=y/\y<c.sum:=fun y hy=>by
  rcases mem_append.mp hy with q|q
  ·exact((Jb8 Oa G.a.getD).mp q).1
  ·rw[G.eq];exact((Jb8 Ob G.b.getD).mp q).1
 have lM:(midL c c.length++midL bs bs.length).length<=24:=by rw[length_append];rw[length_map] at la lb;lia
 have eP:J3c c bs=(midL c c.length++midL bs bs.length).map fun x=>((rOf (fA c bs) x:Int),(1:Int)):=rfl;generalize midL c c.length++midL bs bs.length=M at *;refine⟨U,rfl,⟨_,SqL.of h3⟩,J3o (K:=K) (a:=U) (xs:=iV M)
  (fun i σ Hw=>∃(kvs:List (Key×V)) (ns:List Int) (v2 v3:Option V),σ=[some (.ref x),some (.ref z),v2,v3]/\Hw z=some (.dK kvs)/\CntD ((M.take i).map fun x=>((rOf (fA c bs) x:Int),(1:Int))) kvs ns/\Same H Hw/\Hw U=some (.lst (iV M)))
  ⟨[],[],none,none,rfl,ah,CntD.nil,sA,h3⟩ (fun i σ Hw _ ⟨_,_,_,_,_,_,_,_,e⟩=>SqL.of e) ?_ ?_⟩
 ·rintro i v0 σ Hw hv ⟨kvs,ns,v2,v3,rfl,B,r,X,hl⟩;have hi:i<M.length:=by have:=(gS hv);rw[length_map] at this;exact this
  rw[J1d hi] at hv;cases hv;have hy:=ac _ (show M.getD i 0∈M by rw[getD_eq_getElem?_getD,gE hi];exact List.getElem_mem hi);have tk:M.take (i+1)=M.take i++[M.getD i 0]:=by rw[getD_eq_getElem?_getD,gE hi];exact(take_append_getElem hi).symm
  generalize M.getD i 0=y at *;refine⟨_,rfl,x,CAr,dx,fs,_,rfl,X _ _ h0,TA.cl,TA.nC,lC,_,rfl,xc,ls,os,ts,m,y,rfl,CF.same X,cp,fun _ n b o lv I s' R Ad e en=>?_,fun n=>absurd hy (S.size▸n)⟩;obtain rfl:n=rOf (fA c bs) y:=Jc9 (N:=c.sum) (by have:=cp.sys;rw[S.size] at this;exact this) S.eq hy R;have j:=s' _ _ B;have kl:=r.klen;have kn:=r.len;rw[length_map,length_take] at kn;refine⟨_,rfl,z,rfl,.inl ⟨kvs,.inl j⟩,_,rfl,_,DGet.k (k:=Sum.inl (rOf (fA c bs) y:Int)) j,cntL ((M.take i).map fun x=>((rOf (fA c bs) x:Int),(1:Int))) (rOf (fA c bs) y),1,r.get _,rfl,_,rfl,_,rfl,z,_,rfl,DPut.k (k:=Sum.inl (rOf (fA c bs) y:Int)) j (Js (by lia)),?_⟩;obtain⟨g,aj⟩:=r.put (rOf (fA c bs) y) 1;refine⟨_,g,_,_,rfl,J7,?_,sm (X.trans s'),?_⟩
  ·rw[tk,map_append];exact aj
  ·have P:=s' _ _ hl;rw[Jh (fun e=>by rw[e,j] at P;cases P)];exact P
 ·rintro σ Hw ⟨kvs,ns,v2,v3,rfl,B,r,X,hl⟩;rw[show(iV M).length=M.length from length_map ..,take_length,<- eP] at r;have kn:=r.len;rw[eP,length_map] at kn;refine⟨_,rfl,z,kvs,ns,rfl,B,r.keys,by lia,fun l g ag w ad=>?_⟩;have sl:=J8 (o:=.lst (iV g)) ag;have D:upd Hw l (.lst (iV g)) l=some (.lst (iV g)):=J7;have Y:=sl _ _ B;generalize upd Hw l (.lst (iV g))=H5 at *;have dg:∀{I:Hp},Same H5 I->∀L∈g,DGet I z (.int L) (some (.int (cntL (J3c c bs) L))):=fun {I} s L W=>by
   rw[<- r.val L (w.mem_iff.mp W)];exact DGet.k (k:=Sum.inl L) (s _ _ Y)
  refine⟨l,rfl,⟨_,SqL.of D⟩,fun d hd=>Jg1 g (fun _=>true) (fun H q L=>H q=some (.tup [.str "way",.int L,.int (cntL (J3c c bs) L/2)])) (SqL.of D) ?_ hd (fun H I q x kd hn h=>kd _ _ h hn) ?_ ?_ ?_⟩
  ·exact Nat.le_of_lt (Js (by rw[w.length_eq];lia))
  ·intro L W I Qt s' kt;exact kt _ (Same.refl _)
  ·rintro L W I Qe _ s' ⟨ys,T⟩ ke;refine⟨_,rfl,_,rfl,_,rfl,z,_,rfl,dg s' L W,_,_,rfl,rfl,⟨by decide,by decide⟩,(by show 3<=sizeLine;decide),fun q Z=>?_⟩;exact ke q _ (J8 Z) (fun e=>by rw[e,T] at Z;cases Z) J7
  ·intro ys I s' T rf;rw[show g.filter (fun _=>true)=g by simp] at rf;refine k d ys g I ((X.trans sl).trans s') T ⟨?_,fun i t e=>?_⟩ ((ad.and (nodup_iff_pairwise_ne.mp (w.nodup_iff.mpr r.nd))).imp fun h=>by have:=h.1;have:=h.2;lia) (fun p hp=>w.mem_iff.mpr (r.all p hp)) (fun L W=>r.has L (w.mem_iff.mp W))
   ·rw[rf.len,length_map]
   ·rw[getElem?_map] at e
    cases e2:g[i]? with
    | none=>rw[e2] at e;cases e
    | some L =>
     rw[e2] at e;cases e;exact rf.at_ i L e2
end
section
variable [En]
noncomputable def Jb9(b bs:List Int)(a:List Band)(L:Int):Int:=cntL (conB a) L-cntL (J3c b bs) L/2
noncomputable def loopT(b bs:List Int)(a:List Band)(L:Int):Str×Int×Int:=("loop",2*L,Jb9 b bs a L/2)
structure KrOk(as bs:List Int)(cb:List Band)(kr:List Int):Prop where
 sys:Sys (fun y=>tB bs (tB as y)) as.sum cb
 inc:kr.Pairwise (· < ·)
 sum:(kr.map fun L=>L*cntL (conB cb) L).sum=as.sum
 pos:∀L∈kr,1<=L
 all:∀L,1<=cntL (conB cb) L->L∈kr
 few:kr.length<=48
structure KwOk(as bs kw:List Int):Prop where
 inc:kw.Pairwise (· < ·)
 all:∀p∈J3c as bs,p.1∈kw
 has:∀L∈kw,∃p∈J3c as bs,p.1=L
theorem inc_nd{l:List Int}(h:l.Pairwise (· < ·)):l.Nodup:=h.imp fun h e=>by lia
theorem KwOk.nd(h:KwOk as bs kw):kw.Nodup:=inc_nd h.inc
theorem KwOk.few(h:KwOk as bs kw)(G:J4n as bs):kw.length<=24:=by
 have d:=Jce h.nd (ys:=(J3c as bs).map (·.1)) fun L g=>by obtain⟨p,f,e⟩:=h.has L g;exact mem_map.mpr ⟨p,f,e⟩
 have c:∀q ,(midL q q.length).length<=q.length:=fun q=>by
  unfold midL;rw[length_map];exact Nat.le_trans (length_filter_le _ _) (by rw[length_range];exact Nat.le_refl _)
 have:=c as;have:=c bs;have:=G.a.hi;have:=G.b.hi;unfold J3c at d;rw[length_map,length_map,length_append] at d;lia
theorem Jox(h:KwOk as bs kw)(L:Int):cntL (kw.map fun L=>(L,cntL (J3c as bs) L/2)) L=cntL (J3c as bs) L/2:=by
 by_cases c:L∈kw
 ·have d:∀l:List Int,l.Nodup->L∈l->cntL (l.map fun L=>(L,cntL (J3c as bs) L/2)) L=cntL (J3c as bs) L/2:=by
   intro l
   induction l with
   | nil=>intro _ h;cases h
   | cons a l ih =>
    intro nd i;rw[nodup_cons] at nd;rw[map_cons,J3q];by_cases e:a=L
    ·subst e;have g:cntL (l.map fun L=>(L,cntL (J3c as bs) L/2)) a=0:=J9f fun p b=>by
      obtain⟨z,f,rfl⟩:=mem_map.mp b;exact fun q:z=a=>nd.1 (by rw[<- q];exact f)
     rw[if_pos rfl,g];show cntL (J3c as bs) a/2+0=_;lia
    ·rw[if_neg e,ih nd.2 ((mem_cons.mp i).resolve_left fun q=>e q.symm)];lia
  exact d kw h.nd c
 ·have g:cntL (kw.map fun L=>(L,cntL (J3c as bs) L/2)) L=0:=J9f fun p b=>by
   obtain⟨z,f,rfl⟩:=mem_map.mp b;exact fun q:z=L=>c (by rw[<- q];exact f)
  have j:cntL (J3c as bs) L=0:=J9f fun p b q=>c (by rw[<- q];exact h.all p b);rw[g,j];rfl
theorem Jge{α:Type}(d:α)(ks:List α)(G:α->Bool):((List.range ks.length).filter fun i=>G (ks.getD i d)).map (fun i=>ks.getD i d)=ks.filter G:=by
 have a:∀n,n<=ks.length->((List.range n).filter fun i=>G (ks.getD i d)).map (fun i=>ks.getD i d)=(ks.take n).filter G:=by
  intro n
  induction n with
  | zero=>intro _;rfl
  | succ n ih =>
   intro b;have e:ks.getD n d=ks[n]:=by rw[getD_eq_getElem?_getD,gE b];rfl
   rw[range_succ,filter_append,map_append,ih (by lia),<- take_append_getElem b,filter_append,filter_cons,filter_cons,e];split
   ·rw[map_cons,e];rfl
   ·rfl
 rw[a _ (Nat.le_refl _),take_length]
inductive spNL(C CH CR b:Addr)(cs:Kd->Addr)(vs:List V)(H:Hp)(Q:VK)(E:XK):Prop
 | mk(x c:Addr)(a bs d:List Int)(ys:List V)(_:vs=[.ref x,.ref c])(_:ArAt C CH CR b cs H x a bs)(_:J4n a bs)(_:H c=some (.lst ys))(_:TrAt H ys (d.map (wayT a bs)))(_:KwOk a bs d)(_:∀l zs (kr:List Int) (cb:List Band) H',Same H H'->H' l=some (.lst zs)->TrAt H' zs ((kr.filter fun L=>decide (0<Jb9 a bs cb L)).map (loopT a bs cb))->KrOk a bs cb kr->Q (.ref l) H')
theorem J59:FS1 ["arches","ways","of_ways","word","dots","number","left"] J96:=fsc
theorem Jjm{CR:Addr}(F:Fn1 J96)(TA:Jes K CAr)(ah:Ca1 2 J8y (Jf2 C CH CR cs)):
  Ca1 8 J96 (spNL C CH CR CAr cs):=by
 refine F.ok J59 fun f d A o s H vs Q E hr h=>?_;obtain⟨x,lw,n,bs,r,ys,rfl,Ar,G,X,tr,I,k⟩:=h;have W:=Joo hr;obtain⟨dx,fs,pa,pb,xl,xc,ls,os,ts,m,h0,lA,lB,lZ,lL,lC,hA,hB,L,gd,tl,PG,CF,cp⟩:=Ar.ex;have S:=Jde G PG cp;refine⟨_,(J1 (pst J59 2 Jb3)
   (J1 (J30 PassesOwn.never rfl (J2e (pv 1)) (J9v rfl (J2b (pgm J59 3) (J2b (pgm J59 4) (J2b (pgm J59 5) J71))))
    (J4 (Jdz W (pv 2) (pv 4) (pv 5) rfl)))
   (J1 (ps_lcG (i:=6) (x:="length") (xr:=["number"]) (caps:=["of_ways"]) (js:=[2]) J59.nd rfl (Or.inl rfl) rfl (J2e (pcl ah hr Jj (J0 (Ja (pv 0)) J3))) (pgb2 rfl (by decide +kernel)) rfl (fun _ _ _ _=>J3s) (fun C fp s H=>J2g (J0 (pv 0) (J0 (Ji J1i (pv 1) (Jb4 W (pv 2) (pv 0) J9 ⟨rfl,rfl,rfl,rfl⟩)) J3))))
   (J4 (Jf (Jpp (x:="length") (xr:=["number"]) (caps:=[]) (js:=[]) rfl (J2e (pv 6)) (pgb2 rfl (by decide +kernel)) rfl (fun _ _ _ _=>Jaw (Jl J73 (pv 1) J9 (Jp _))) (fun C fp s H=>J2g (J0 J35 (J0 (Ji J9x J9 (pv 0)) (J0 (Ji J3t (pv 1) J9) J3)))))))))),?_⟩
 intro D ab;have s0:=J8 (o:=.dK []) ab;have sm:∀{Hw:Hp} {o:HO},Same H Hw->Same H (upd Hw D o):=fun {Hw o} s b u e=>by rw[Jh (Jb e ab)];exact s _ _ e
 have ag:upd H D (.dK []) D=some (.dK []):=J7;generalize upd H D (.dK [])=H0 at *;have few:=I.few G;refine⟨_,rfl,lw,rfl,⟨_,SqL.of (s0 _ _ X)⟩,J3o (K:=K) (a:=lw) (xs:=ys)
  (fun i σ Hw=>∃(kvs:List (Key×V)) (ns:List Int) (v3 v4 v5:Option V),σ=[some (.ref x),some (.ref lw),some (.ref D),v3,v4,v5,none]/\Hw D=some (.dK kvs)/\CntD ((r.take i).map fun L=>(L,cntL (J3c n bs) L/2)) kvs ns/\Same H Hw)
  ⟨[],[],none,none,none,rfl,ag,CntD.nil,s0⟩ (fun i σ Hw _ ⟨_,_,_,_,_,_,_,_,s⟩=>SqL.of (s _ _ X)) ?_ ?_⟩
 ·rintro i v0 σ Hw hv ⟨kvs,ns,v3,v4,v5,rfl,J,T,R⟩;have hi:i<r.length:=by have:=(gS hv);rw[tr.len,length_map] at this;exact this
  obtain⟨q,eq,l⟩:=tr.at_ i (wayT n bs r[i]) (by rw[getElem?_map,gE hi];rfl);obtain rfl:v0=.ref q:=Option.some.inj (hv.symm.trans eq);have tk:r.take (i+1)=r.take i++[r[i]]:=(take_append_getElem hi).symm;have no:r[i] ∉ r.take i:=fun hm=>by
   obtain⟨j,hj,e⟩:=List.getElem_of_mem hm;rw[List.getElem_take] at e;rw[length_take] at hj;have:=(getElem_inj I.nd).mp e;lia
  generalize r[i]=L at *;have z:cntL ((r.take i).map fun L=>(L,cntL (J3c n bs) L/2)) L=0:=J9f fun p hp=>by
   obtain⟨y,hy,rfl⟩:=mem_map.mp hp;exact fun e:y=L=>no (by rw[<- e];exact hy)
  have kl:=T.klen;have kn:=T.len;rw[length_map,length_take] at kn;refine⟨q,_,rfl,SqT.of (R _ _ l),rfl,_,_,rfl,_,_,rfl,_,_,rfl,rfl,?_⟩;refine⟨_,rfl,_,rfl,_,rfl,D,_,rfl,DPut.k (k:=Sum.inl L) J (Js (by lia)),?_⟩;obtain⟨ad,ac⟩:=T.put L (cntL (J3c n bs) L/2);rw[z,Int.zero_add] at ac;refine⟨_,ad,_,_,_,rfl,J7,?_,sm R⟩;rw[tk,map_append];exact ac
 ·rintro σ Hw ⟨kvs,ns,v3,v4,v5,rfl,J,T,R⟩;rw[tr.len,length_map,take_length] at T;refine⟨_,rfl,x,CAr,dx,fs,_,rfl,R _ _ h0,TA.cl,TA.nC,lC,xc,ls,os,ts,m,rfl,CF.same R,cp,fun l1 yr g H1 s1 Y rf rd=>?_⟩;have nb:(bsC ls os ts m).length<=24:=by
   have h1:(bsC ls os ts m).length+_<=_:=cp.cok.bands cp.lg;have h2:(J21 ls os ts).1.top.length=ls.length:=length_range;have h3:=cp.good.hi;lia
  have fw:=rd.base.few;have lr:=rf.len;have w:=s1 _ _ J;have ae:∀i v,yr[i]?=some v->i<g.length/\∃q,v=.ref q/\H1 q=some (.tup [.int (g.getD i 0),.int (cntL (conB (bsC ls os ts m)) (g.getD i 0))]):=fun i v e=>by
   have hi:i<g.length:=by rw[<- lr];exact(gS e)
   obtain⟨q,eq,l⟩:=rf.at_ i (g.getD i 0) (by rw[getD_eq_getElem?_getD,gE hi];rfl);exact⟨hi,q,Option.some.inj (e.symm.trans eq),l⟩
  refine⟨l1,rfl,⟨_,SqL.of Y⟩,fun d hd=>Js3 yr (fun _=>true) (fun i H y=>∃q,y=.ref q/\H q=some (.tup [.int (g.getD i 0),.int (Jb9 n bs (bsC ls os ts m) (g.getD i 0))])) (SqL.of Y) (Nat.le_of_lt (Js (by lia))) hd (fun i y H H' P kp hz ⟨q,e,l⟩=>⟨q,e,kp _ _ l fun z=>by rw[z,hz] at l;cases l⟩) ?_ ?_⟩
  ·intro i v ev H2 ou K1 K2 U N k1 _;obtain⟨hi,q,rfl,l⟩:=ae i v ev
   match ou,N with
   | [o1,o2],_ =>
    refine⟨q,_,rfl,SqT.of (U _ _ l),rfl,_,_,rfl,_,_,rfl,rfl,[_,_],rfl,rfl,iteT (B:=K2 H2) ?_⟩;refine⟨_,rfl,_,rfl,_,rfl,D,rfl,.inl ⟨kvs,.inl (U _ _ w)⟩,_,rfl,_,DGet.k (k:=Sum.inl (g.getD i 0)) (U _ _ w),cntL (conB (bsC ls os ts m)) (g.getD i 0),cntL (J3c n bs) (g.getD i 0)/2,rfl,?_,(by show 2<=sizeLine;decide),fun q2 M=>k1 rfl _ _ (J8 M) ⟨q2,rfl,J7⟩⟩;rw[T.get,Jox I]
  ·intro P H2 U aa al;rw[show(List.range yr.length).filter (fun _=>true)=List.range yr.length by simp] at al;have lz:P.length=g.length:=by rw[<- al.1,length_range,lr]
   refine⟨_,rfl,d,rfl,⟨_,SqL.of aa⟩,fun d2 Z=>Js3 P (fun i=>decide (0<Jb9 n bs (bsC ls os ts m) (g.getD i 0))) (fun i H y=>∃q,y=.ref q/\H q=some (.tup [.str "loop",.int (2*g.getD i 0),.int (Jb9 n bs (bsC ls os ts m) (g.getD i 0)/2)])) (SqL.of aa) (Nat.le_of_lt (Js (by lia))) Z (fun i y H H' P kp hz ⟨q,e,l⟩=>⟨q,e,kp _ _ l fun z=>by rw[z,hz] at l;cases l⟩) ?_ ?_⟩
   ·intro i v ev H3 ou K1 K2 s3 N k1 k2;have hi:i<P.length:=(gS ev);obtain⟨q,rfl,l⟩:=al.2 i i v (by rw[getElem?_range (by lia)]) ev
    match ou,N with
    | [o1,o2],_ =>
     refine⟨q,_,rfl,SqT.of (s3 _ _ l),rfl,_,_,rfl,_,_,rfl,rfl,[_,_],rfl,rfl,_,rfl,_,_,rfl,rfl,_,rfl,?_⟩;by_cases c:0<Jb9 n bs (bsC ls os ts m) (g.getD i 0)
     ·refine J2s c ⟨_,rfl,_,_,rfl,rfl,.inl ⟨by decide,by decide⟩,_,rfl,_,_,rfl,rfl,⟨by decide,by decide⟩,(by show 3<=sizeLine;decide),fun q2 M=>k1 (decide_eq_true c) _ _ (J8 M) ⟨q2,rfl,J7⟩⟩
     ·exact iteD c (k2 (decide_eq_false c) _ (Same.refl _))
   ·intro us H3 s3 af O;refine k d2 us g (bsC ls os ts m) H3 (((R.trans s1).trans U).trans s3) af ⟨?_,fun i t e=>?_⟩ ⟨S.sys,rd.base.inc,rd.base.sum.trans S.size,fun L hL=>(rd.base.pos L hL).1,rd.only,by lia⟩
    ·rw[<- O.1,length_map,<- Jge 0 g,length_map,lz]
    ·rw[getElem?_map,<- Jge 0 g fun L=>decide (0<Jb9 n bs (bsC ls os ts m) L),getElem?_map,<- lz] at e
     cases e2:((List.range P.length).filter fun i=>decide (0<Jb9 n bs (bsC ls os ts m) (g.getD i 0)))[i]? with
     | none=>rw[e2] at e;cases e
     | some j =>
      rw[e2] at e;cases e;have hu:i<us.length:=by rw[<- O.1];exact(gS e2)
      obtain⟨q,e3,l⟩:=O.2 i j us[i] e2 (gE hu);exact⟨q,by rw[gE hu,e3],l⟩
end
section
variable [En]
theorem ArAt.same{CR:Addr}(h:ArAt C CH CR CAr cs H x as bs)(s:Same H H'):ArAt C CH CR CAr cs H' x as bs:=by
 obtain⟨o,fs,b,a,xl,xc,ls,os,ts,m,l,g,f,c,d,e,j,i,L,n,tl,PG,q,p⟩:=h.ex;exact⟨o,fs,b,a,xl,xc,ls,os,ts,m,s _ _ l,g,f,c,d,e,s _ _ j,s _ _ i,L.same s,n,tl,PG,q.same s,p⟩
theorem TrAt.append(a:TrAt H ys ts)(b:TrAt H zs us):TrAt H (ys++zs) (ts++us):=by
 refine⟨by rw[length_append,length_append,a.len,b.len],fun i t e=>?_⟩;by_cases h:i<ts.length
 ·rw[getElem?_append_left h] at e;rw[getElem?_append_left (by rw[a.len];exact h)];exact a.at_ i t e
 ·rw[getElem?_append_right (by lia)] at e;rw[getElem?_append_right (by rw[a.len];lia),a.len];exact b.at_ _ t e
noncomputable def strT(a bs:List Int)(b:List Band)(d c:List Int):List (Str×Int×Int):=(d.filter fun L=>decide (0<Jb9 a bs b L)).map (loopT a bs b)++c.map (wayT a bs)
inductive spSD(C CH CR b:Addr)(cs:Kd->Addr)(vs:List V)(H:Hp)(Q:VK)(E:XK):Prop
 | mk(x:Addr)(a bs:List Int)(_:vs=[.ref x])(_:ArAt C CH CR b cs H x a bs)(_:J4n a bs)(_:∀l zs (kr kw:List Int) (cb:List Band) H',Same H H'->H' l=some (.lst zs)->TrAt H' zs (strT a bs cb kr kw)->zs.length<=72->KrOk a bs cb kr->KwOk a bs kw->Q (.ref l) H')
theorem Jc3:FS1 ["arches","ways"] J6p:=fsc
theorem Jh4{CR:Addr}(F:Fn1 J6p)(m:Ca1 8 Jcv (spNW C CH CR CAr cs))(n:Ca1 8 J96 (spNL C CH CR CAr cs)):
  Ca1 9 J6p (spSD C CH CR CAr cs):=by
 refine F.ok Jc3 fun f d A o s H vs Q E u h=>?_;obtain⟨x,p,bs,rfl,w,G,k⟩:=h;refine⟨_,(J1 (pst Jc3 1 (pcl m u Jj (J0 (pv 0) J3)))
   (J4 (Jf (Ji Jfr (pcl n u Jj (J0 (pv 0) (J0 (pv 1) J3))) (pv 1))))),?_⟩
 refine⟨_,rfl,x,p,bs,rfl,w,G,fun l1 ys j S r v e B z y=>?_⟩;have a:KwOk p bs j:=⟨B,z,y⟩;refine⟨_,rfl,_,rfl,x,l1,p,bs,j,ys,rfl,w.same r,G,v,e,a,fun I q J L R i K b c=>?_⟩;have N:=a.few G;have M:=c.few;have P:q.length<=48:=by rw[b.len,length_map];exact Nat.le_trans (length_filter_le _ _) M
 have O:ys.length<=24:=by rw[e.len,length_map];exact N
 refine⟨_,rfl,I,l1,_,_,rfl,rfl,K,i _ _ v,Nat.le_of_lt (Js (by lia)),fun D l=>?_⟩;have g:=J8 (o:=.lst (q++ys)) l;exact k D _ J j L _ ((r.trans i).trans g) J7 ((b.same g).append ((e.same i).same g)) (by rw[length_append];lia) c a
end
section
variable [En]
inductive Jph(vs:List V)(H:Hp)(Q:VK)(E:XK):Prop
 | mk(p q:Addr)(fs ls:List Int)(x:Int)(i:Nat)(_:vs=[.ref p,.ref q,.int x])(_:H p=some (.tup (iV fs)))(_:H q=some (.tup (iV ls)))(_:fs.length=ls.length)(_:Lies fs ls x i)(_:∀(j:Nat) H',Same H H'->Lies fs ls x j->Q (.int j) H')
theorem Jir:FS1 ["firsts","lengths","x","piece","first"] Jl5:=fsc
theorem Jrr(F:Fn1 Jl5)(c:mg "enumerate"=none):Ca1 1 Jl5 Jph:=by
 refine F.ok Jir (fun f d A o s H vs Q E N h=>?_);obtain⟨p,q,fs,ls,x,I,rfl,G,L,B,D,k⟩:=h;refine⟨_,(J1 (J30 PassesOwn.never rfl (Je2 rfl c (J0 (pv 0) J3)) (J9v rfl (J2b (pgm Jir 3) (J2b (pgm Jir 4) J71)))
   (J4 (J1b (PW.pt (J8d (Jl op_le (pv 4) (pv 2) (Jp _)) (J5o (Jl J9l (pv 2) (Ji J13 (pv 4) (Jt Jm (pv 1) (pv 3))) (Jp _))))) (J4 (Jf (pv 3))) Jo)))
  (J4 J1q)),?_⟩
 refine⟨_,rfl,p,rfl,⟨_,SqT.of G⟩,Jga (K:=K) (a:=p) (xs:=iV fs) (fun i σ l=>∃v w,σ=[some (.ref p),some (.ref q),some (.int x),v,w]/\Same H l/\∀j,j<i->¬ Lies fs ls x j) ⟨none,none,rfl,Same.refl _,fun j h=>absurd h (Nat.not_lt_zero _)⟩ (fun i σ l _ M=>by obtain⟨_,_,_,s,_⟩:=M;exact SqT.of (s _ _ G)) ?_ ?_⟩
 ·rintro i y σ l t z ⟨v,w,rfl,C,hi⟩ J;have b:i<fs.length:=by
   have:=(gS z);rw[length_map] at this;exact this
  rw[J1d b] at z;cases z;have m:Same H (upd l t (.tup [.int (i:Int),.int (fs.getD i 0)])):=C.trans (J8 J);have g:¬ Lies fs ls x i->∀j,j<i+1->¬ Lies fs ls x j:=fun n j O=>by
   by_cases e:j=i
   ·rw[e];exact n
   ·exact hi j (by lia)
  refine⟨t,_,rfl,SqT.of J7,rfl,_,_,rfl,_,_,rfl,rfl,?_⟩;refine⟨_,rfl,_,rfl,_,_,rfl,rfl,_,rfl,?_⟩;by_cases u:fs.getD i 0<=x
  ·refine J2s u ?_;refine⟨_,rfl,_,rfl,_,rfl,_,rfl,q,_,_,_,rfl,rfl,SqT.of (m _ _ L),Je (J1d (by rw[<- B];exact b)),_,_,rfl,rfl,_,_,rfl,rfl,_,rfl,?_⟩;by_cases r:x<fs.getD i 0+ls.getD i 0
   ·exact J2s r ⟨_,rfl,k i _ m ⟨by rw[<- B];exact b,u,r⟩⟩
   ·exact iteD r ⟨_,_,rfl,m,g fun q=>r q.2.2⟩
  ·exact iteD u (iteF ⟨_,_,rfl,m,g fun q=>u q.2.1⟩)
 ·rintro σ l ⟨v,w,rfl,C,hi⟩;rw[length_map] at hi;exact absurd D (hi I (by rw[B];exact D.1))
inductive spAt(C:Addr)(vs:List V)(H:Hp)(Q:VK)(E:XK):Prop
 | mk(x:Addr)(ls:List Int)(os:List Nat)(ts:List Bool)(y:Int)(i:Nat)(_:vs=[.ref x,.int y])(_:J2k C H x ls os ts)(_:Lies (firsts ls (List.range ls.length)) ls y i)(_:∀(j:Nat) H',Same H H'->Lies (firsts ls (List.range ls.length)) ls y j->Q (.int j) H')
theorem scAt:FS1 ["line","x"] fAt:=fsc
theorem ok_at(F:Fn1 fAt)(a:TxtC K mg C)(p:Ca1 1 Jl5 Jph):Ca1 2 fAt (spAt C):=by
 refine F.ok scAt (fun f d A o s H vs Q E l h=>?_);obtain⟨x,ls,os,ts,y,i,rfl,L,g,k⟩:=h;obtain⟨e,c,pl,po,pt,ps,q,b,⟨k1,k2,k3,j,k5,r⟩,n,w,v,m,u⟩:=L.ex;refine⟨_,(J4 (Jf (pcl p l Jj (J0 (Ja (pv 0)) (J0 (Ja (pv 0)) (J0 (pv 1) J3)))))),?_⟩;exact⟨_,rfl,x,C,e,c,_,rfl,b,a.cl,a.nS,j,_,rfl,x,C,e,c,_,rfl,b,a.cl,a.nL,k1,_,rfl,ps,pl,_,ls,y,i,rfl,m,n,J32 _ _,g,k⟩
inductive Jpj(C:Addr)(vs:List V)(H:Hp)(Q:VK)(E:XK):Prop
 | mk(x:Addr)(ls:List Int)(os:List Nat)(ts:List Bool)(y:Int)(_:vs=[.ref x,.int y])(_:J2k C H x ls os ts)(_:Good ls os)(_:ts.length=ls.length)(_:0<=y/\y<ls.sum)(_:∀a,Same H a->Q (.int (gL ls os ts y)) a)
theorem Jpm:FS1 ["line","x","piece"] Jl7:=fsc
theorem Jrt(F:Fn1 Jl7)(a:TxtC K mg C)(J:Ca1 2 fAt (spAt C))(I:Ca1 1 Jaa (Jan K)):Ca1 3 Jl7 (Jpj C):=by
 refine F.ok Jpm (fun f d A o s H vs Q E q h=>?_);obtain⟨x,ls,os,ts,y,rfl,L,g,w,p,k⟩:=h;obtain⟨i,u⟩:=g.ord.range.exists p.1 p.2;refine⟨_,(J1 (pst Jpm 2 (pcl J q Jj (J0 (pv 0) (J0 (pv 1) J3))))
  (J4 (Jf (pcl I q Jj (J0 (pv 0) (J0 (pv 2) (J0 (Ji J1i (pv 1) (Jt Jm (Ja (pv 0)) (pv 2))) (J0 (Ja (pv 0)) J3)))))))),?_⟩
 refine⟨_,rfl,_,rfl,x,ls,os,ts,y,i,rfl,L,u,fun j M m b=>?_⟩;obtain⟨l,e,pl,po,pt,ps,r,c,⟨k1,k2,k3,v,k5,N⟩,G,O,D,B,z⟩:=(L.same m).ex;have n:=k M m;rw[Jco g.ord b] at n;exact⟨_,rfl,_,rfl,_,rfl,_,rfl,x,C,l,e,_,rfl,c,a.cl,a.nS,v,_,rfl,ps,_,_,_,rfl,rfl,SqT.of B,Je (J1d (by rw[J32];exact b.1)),_,_,rfl,rfl,_,rfl,x,C,l,e,_,rfl,c,a.cl,a.nD,k5,
  x,r,ls,ts,firsts ls os,j,_,rfl,⟨C,l,e,pl,pt,c,a.cl,a.nL,a.nT,k1,k3,G,D⟩,z,J32 _ _,w,b.1,n⟩
noncomputable def endV(bs:List Int)(x:Int):V:=if tB bs x=x then .non else .int (tB bs x)
inductive Jf7(vs:List V)(H:Hp)(Q:VK)(E:XK):Prop
 | mk(p:Addr)(bs:List Int)(x:Int)(_:vs=[.ref p,.int x])(_:SqH H p (iV bs))(_:J61 bs)(_:bs.sum<=10^30)(_:0<=x/\x<bs.sum)(_:∀a,Same H a->Q (endV bs x) a)
theorem Jfi:FS1 ["lengths","x","end"] J95:=fsc
theorem Jjj(F:Fn1 J95)(q:Ca1 3 Jl7 (Jpj C))(b:Ca1 5 Ja5 (Jdn C)):Ca1 6 J95 Jf7:=by
 refine F.ok Jfi (fun f d A o s H vs Q E i h=>?_);obtain⟨p,bs,x,rfl,n,g,e,m,k⟩:=h;refine⟨_,(J1 (pst Jfi 2 (pcl q i Jj (J0 (pcl b i Jj (J0 (pv 0) J3)) (J0 (pv 1) J3))))
  (J4 (Jf (J3a (Jl J40 (pv 2) (pv 1) (Jp _)) J6e (pv 2))))),?_⟩
 refine⟨_,rfl,p,bs,rfl,n,g,e,fun xl u l L=>⟨_,rfl,xl,bs,_,_,x,rfl,L,g.good e,length_replicate,m,fun r j=>?_⟩⟩;have a:=k r (l.trans j);unfold endV at a;refine⟨_,rfl,_,rfl,rfl,_,rfl,?_⟩;by_cases c:tB bs x=x
 ·rw[if_pos c] at a;exact J2s (congrArg V.int c) a
 ·rw[if_neg c] at a;exact iteD (J37 c) ⟨_,rfl,a⟩
inductive Jig(C CH CR b:Addr)(cs:Kd->Addr)(vs:List V)(H:Hp)(Q:VK)(E:XK):Prop
 | mk(y:Addr)(a bs:List Int)(x:Int)(_:vs=[.ref y,.int x])(_:ArAt C CH CR b cs H y a bs)(_:J4n a bs)(_:0<=x/\x<a.sum)(_:∀c,Same H c->Q (endV a x) c)
theorem Jr4:FS1 ["arches","x"] Jd2:=fsc
theorem Jo6{CR:Addr}(F:Fn1 Jd2)(TA:Jes K CAr)(e:Ca1 6 J95 Jf7):Ca1 7 Jd2 (Jig C CH CR CAr cs):=by
 refine F.ok Jr4 (fun f d A o s H vs Q E j h=>?_);obtain⟨y,v,bs,x,rfl,w,G,i,k⟩:=h;obtain⟨u,fs,g,z,xl,xc,ls,os,ts,m,n,r,D,B,p,q,c,l,b⟩:=w.ex;refine⟨_,(J4 (Jf (pcl e j Jj (J0 (Ja (pv 0)) (J0 (pv 1) J3))))),?_⟩;exact⟨_,rfl,y,CAr,u,fs,_,rfl,n,TA.cl,TA.nA,r,_,rfl,g,v,x,rfl,.inr c,G.a,G.le,i,k⟩
inductive Jqh(C CH CR b:Addr)(cs:Kd->Addr)(vs:List V)(H:Hp)(Q:VK)(E:XK):Prop
 | mk(y:Addr)(a bs:List Int)(x:Int)(_:vs=[.ref y,.int x])(_:ArAt C CH CR b cs H y a bs)(_:J4n a bs)(_:0<=x/\x<a.sum)(_:∀c,Same H c->Q (.int (tB a x)) c)
theorem scLed:FS1 ["arches","x","end"] fLed:=fsc
theorem ok_led{CR:Addr}(F:Fn1 fLed)(b:Ca1 7 Jd2 (Jig C CH CR CAr cs)):Ca1 8 fLed (Jqh C CH CR CAr cs):=by
 refine F.ok scLed (fun f d A o s H vs Q E i h=>?_);obtain⟨y,e,bs,x,rfl,l,G,g,k⟩:=h;refine⟨_,(J1 (pst scLed 2 (pcl b i Jj (J0 (pv 0) (J0 (pv 1) J3))))
  (J4 (Jf (J3a (Jl op_isN (pv 2) J6e (Jp _)) (pv 1) (pv 2))))),?_⟩
 refine⟨_,rfl,_,rfl,y,e,bs,x,rfl,l,G,g,fun j s'=>?_⟩;have a:=k j s';unfold endV;by_cases c:tB e x=x
 ·rw[c] at a;rw[if_pos c];exact⟨_,rfl,rfl,_,rfl,iteT ⟨_,rfl,a⟩⟩
 ·rw[if_neg c];exact⟨_,rfl,rfl,_,rfl,iteF ⟨_,rfl,a⟩⟩
inductive Jdv(C CH CR d e:Addr)(cs:Kd->Addr)(vs:List V)(H:Hp)(Q:VK)(E:XK):Prop
 | mk(y:Addr)(a bs:List Int)(u v:Int)(_:vs=[.ref y,.int u,.int v])(_:ArAt C CH CR d cs H y a bs)(_:J4n a bs)(_:0<=u/\u<a.sum->0<=v/\v<a.sum->∀c b,Same H b->(c=true↔onR (fA a bs) u v)->Q (.bl c) b)(_:¬ (0<=u/\u<a.sum)\/¬ (0<=v/\v<a.sum)->∀b,Same H b->E (.ref e) none b)
theorem Jr1:FS1 ["arches","x","y"] Jad:=fsc
theorem Jo1{CR:Addr}(F:Fn1 Jad)(TA:Jes K CAr)(i:Cx1 6 Jl8 (Jpl C CH CR CO cs)):Cx1 7 Jad (Jdv C CH CR CAr CO cs):=by
 refine F.okX Jr1 (fun f d A o s H vs Q E q h=>?_);obtain⟨y,J,bs,u,v,rfl,O,G,k,j⟩:=h;obtain⟨I,fs,R,P,xl,xc,ls,os,ts,m,B,X,W,U,D,c,z,w,L,T,tl,PG,N,g⟩:=O.ex;have S:=Jde G PG g;refine⟨_,(J4 (Jf (J4w Jrc (pcl i q J8g (J0 (Ja (pv 0)) (J0 (pv 1) (J0 (pv 2) J3)))) J6e (Jp _)))),?_⟩;rw[<- S.size] at k j;refine⟨_,rfl,y,CAr,I,fs,_,rfl,B,TA.cl,TA.nC,c,_,rfl,_,rfl,xc,ls,os,ts,m,u,v,rfl,N,g,fun b p r M s' a=>⟨rfl,k b p _ M s' ?_⟩,j⟩;have l:=g.sys;rw[S.size] at l b;have e:onR (gC ls os ts) u v↔onR (fA J bs) u v:=exists_congr fun n=>by rw[(J7w l.inn S.eq b n).1]
 rw[<- e];simp[a]
noncomputable def strV(a bs:List Int)(x:Int):List V:=@ite _ (way (tB a) (fA a bs) x) (Classical.propDecidable _) [.str "way",.int (rOf (fA a bs) x:Nat)] [.str "loop",.int (2*(rOf (fA a bs) x:Nat))]
inductive Jam(C CH CR c d:Addr)(cs:Kd->Addr)(vs:List V)(H:Hp)(Q:VK)(E:XK):Prop
 | mk(y:Addr)(a bs:List Int)(x:Int)(_:vs=[.ref y,.int x])(_:ArAt C CH CR c cs H y a bs)(_:J4n a bs)(_:0<=x/\x<a.sum->∀p b,Same H b->b p=some (.tup (strV a bs x))->Q (.ref p) b)(_:¬ (0<=x/\x<a.sum)->E (.ref d) none H)
theorem J4n.two(G:J4n as bs):Two (tB as) (tB bs) (fA as bs) as.sum:=Jlt (G.a.good G.le).ord (G.b.good (by rw[<- G.eq];exact G.le)).ord G.eq
theorem Jfh:FS1 ["arches","x","length"] J77:=fsc
theorem Jjb{CR:Addr}(F:Fn1 J77)(TA:Jes K CAr)(v:Cx1 6 Ja8 (Jdp C CH CR CO cs))(B:Cx1 7 Jad (Jdv C CH CR CAr CO cs))(w:Ca1 8 fLed (Jqh C CH CR CAr cs)):Cx1 9 J77 (Jam C CH CR CAr CO cs):=by
 refine F.okX Jfh (fun f d A o s H vs Q E l h=>?_);obtain⟨y,a,bs,x,rfl,M,G,k,J⟩:=h;obtain⟨Z,fs,pa,pb,xl,xc,ls,os,ts,m,X,gA,gB,gZ,Y,r,U,T,L,gd,tl,PG,CF,u⟩:=M.ex;have S:=Jde G PG u;refine⟨_,(J1 (pst Jfh 2 (pcl v l J8g (J0 (Ja (pv 0)) (J0 (pv 1) J3))))
  (J1 (J1b (J2x (pcl B l J8g (J0 (pv 0) (J0 (pv 1) (J0 (pcl w l Jj (J0 (pv 0) (J0 (pv 1) J3))) J3))))) (J4 (Jf (J2g (J0 J35 (J0 (pv 2) J3))))) Jo)
  (J4 (Jf (J2g (J0 J35 (J0 (Ji J9x J9 (pv 2)) J3))))))),?_⟩
 rw[<- S.size] at J;refine⟨_,rfl,y,CAr,Z,fs,_,rfl,X,TA.cl,TA.nC,r,_,rfl,xc,ls,os,ts,m,x,rfl,CF,u,fun e n b o lv H1 I R _ _ _=>?_,J⟩;rw[S.size] at e;obtain rfl:=Jc9 (N:=a.sum) (by have:=u.sys;rw[S.size] at this;exact this) S.eq e R;have O:=M.same I;have W:=G.two.ain x e;refine⟨_,rfl,_,rfl,_,rfl,_,rfl,y,a,bs,x,rfl,O,G,e,fun H2 D=>⟨y,a,bs,x,tB a x,rfl,O.same D,G,fun _ _ c H3 P j=>⟨_,rfl,?_⟩,fun n=>absurd n (by simp[e,W])⟩⟩;have i:=k e;unfold strV at i;have g:=(I.trans D).trans P
 cases c with
 | true =>
  rw[if_pos (show way (tB a) (fA a bs) x from j.mp rfl)] at i;exact iteT ⟨_,rfl,(by show 2<=sizeLine;decide),fun p q=>i p _ (g.trans (J8 q)) J7⟩
 | false =>
  rw[if_neg (show ¬ way (tB a) (fA a bs) x from fun z=>nomatch j.mpr z)] at i;exact iteF ⟨_,rfl,_,_,rfl,rfl,.inl ⟨by decide,by decide⟩,(by show 2<=sizeLine;decide),fun p q=>i p _ (g.trans (J8 q)) J7⟩
inductive Jqg(C CH CR d e:Addr)(cs:Kd->Addr)(vs:List V)(H:Hp)(Q:VK)(E:XK):Prop
 | mk(y:Addr)(a bs:List Int)(u v:Int)(_:vs=[.ref y,.int u,.int v])(_:ArAt C CH CR d cs H y a bs)(_:J4n a bs)(_:0<=u/\u<a.sum->0<=v/\v<a.sum->∀c b,Same H b->(c=true↔tog (tB a) (fA a bs) u v)->Q (.bl c) b)(_:¬ (0<=u/\u<a.sum)\/¬ (0<=v/\v<a.sum)->∀b,Same H b->E (.ref e) none b)
theorem Jgx:FS1 ["arches","x","y"] J42:=fsc
theorem ok_tog{CR:Addr}(F:Fn1 J42)(e:Cx1 7 Jad (Jdv C CH CR CAr CO cs))(p:Ca1 8 fLed (Jqh C CH CR CAr cs)):Cx1 9 J42 (Jqg C CH CR CAr CO cs):=by
 refine F.okX Jgx (fun f d A o s H vs Q E m h=>?_);obtain⟨y,i,bs,u,v,rfl,w,G,k,I⟩:=h;refine⟨_,(J4 (Jf (pe_or (pcl e m J8g (J0 (pv 0) (J0 (pv 1) (J0 (pv 2) J3)))) (Jj0 (pcl e m J8g (J0 (pv 0) (J0 (pcl p m Jj (J0 (pv 0) (J0 (pv 1) J3))) (J0 (pv 2) J3)))))))),?_⟩;refine⟨_,rfl,_,rfl,_,rfl,y,i,bs,u,v,rfl,w,G,fun g l c L j b=>?_,I⟩
 cases c with
 | true=>exact⟨_,rfl,iteT (k g l _ _ j ⟨fun _=>.inl (b.mp rfl),fun _=>rfl⟩)⟩
 | false =>
  have B:=w.same j;refine⟨_,rfl,iteF ⟨_,rfl,_,rfl,_,rfl,y,i,bs,u,rfl,B,G,g,fun K r=>⟨_,rfl,y,i,bs,tB i u,v,rfl,B.same r,G,fun _ _ c J D a=>k g l c _ ((j.trans r).trans D) (a.trans ⟨.inr,fun z=>z.resolve_left fun q=>nomatch b.mpr q⟩),fun n=>absurd n (by simp[G.two.ain u g,l])⟩⟩⟩
end
section
noncomputable def Jng(ns:List Int)(lo st:Nat):List Int:=(List.range (Builtin.Range.rangeSize (lo:Int) (ns.length:Int) (st:Int)).toNat).map fun i=>ns.getD (lo+i*st) 0
noncomputable def lenK(ns:List Int)(lo many:Nat)(a:Int)(k:Nat):Int:=1+(Jng ns (lo+k) many).sum%a
noncomputable def lensN(ns:List Int)(lo many:Nat)(a:Int):List Int:=(List.range many).map (lenK ns lo many a)
theorem Jka(ns:List Int)(lo many:Nat)(a:Int):(lensN ns lo many a).length=many:=by simp[lensN]
theorem Jk9(b:0<span):∀a∈lensN ns lo many span,1<=a/\a<=span:=fun a h=>by
 obtain⟨k,_,rfl⟩:=mem_map.mp h;unfold lenK;have d:=Int.emod_nonneg (Jng ns (lo+k) many).sum (show span≠0 by lia);have c:=Int.emod_lt_of_pos (Jng ns (lo+k) many).sum b;lia
theorem Jiy{K:Frag}(n:SqL K H1 a (iV ns))(q:ns.length<=63)(l:0<st)(hd:H1 d=none)(p:σ[js.getD 0 0]?=some (some (.ref a)))(o:js=[js.getD 0 0])(m:∀c,Same H1 c->c d=some (.lst (iV (Jng ns lo st)))->Q (.ref d) c):
  LCW (Its (lo:Int) (st:Int) (Builtin.Range.rangeSize (lo:Int) (ns.length:Int) (st:Int)).toNat) tYes (tOp (rIxL K) (tVar 1) (tVar 0)) σ js Q H1 d:=by
 have g:(0:Int)<(st:Int):=by lia
 have few:=Ji6 (a:=(lo:Int)) (b:=(ns.length:Int)) g;refine lc_stp (lo:Int) (st:Int) _ (fun i=>V.int (ns.getD (lo+i*st) 0)) (by lia) hd (fun _ _ H _ _ k=>k H (Same.refl _)) (fun i hi s r j k=>?_) (fun c s' h=>m c s' ?_)
 ·have f:=Jm6 g hi;have e:(lo:Int)+(i:Int)*(st:Int)=((lo+i*st:Nat):Int):=by rw[Int.natCast_add,Int.natCast_mul]
  rw[e] at f;refine⟨.ref a,?_,.int ((lo+i*st:Nat):Int),by rw[<- e];rfl,a,_,_,_,rfl,rfl,j.seq n,Je (J1d (by lia)),k _ (Same.refl _)⟩;rw[o];show(capv σ [js.getD 0 0])[0]?=_;unfold capv;rw[map_cons,p];rfl
 ·rw[h];show _=some (HO.lst ((List.map _ _).map V.int));rw[map_map];rfl
end
section
variable [En]
inductive Jie(K:Frag)(vs:List V)(H:Hp)(Q:VK)(E:XK):Prop
 | mk(a:Addr)(ns:List Int)(j:Nat)(_:vs=[.ref a,.int j])(_:SqL K H a (iV ns))(_:Q (.int (cellN ns j)) H)
theorem scCell:FS1 ["script","k"] Jhn:=fsc
theorem Jrv(F:Fn1 Jhn)(T:TxtR mg):
  Ca1 1 Jhn (Jie K):=by
 refine F.ok scCell (fun f d A o s H vs Q E i h=>?_);obtain⟨a,ns,j,rfl,c,k⟩:=h;refine⟨_,J1 (J1b (Jl J9l (pv 1) (pcb Ju T.len (pv 0)) (Jp _)) (J4 (Jf (Jt J4z (pv 0) (pv 1)))) Jo) (J4 (Jf J9)),?_⟩;refine⟨_,rfl,_,rfl,a,_,rfl,.inl c,_,_,rfl,rfl,_,rfl,?_⟩;have b:(iV ns).length=ns.length:=length_map ..;by_cases g:j<ns.length
 ·refine J2s (by rw[b];lia) ?_;exact⟨_,rfl,_,rfl,a,_,_,_,rfl,rfl,c,Je (J1d g),k⟩
 ·refine iteD (by rw[b];lia) ?_;have e:cellN ns j=0:=by
   unfold cellN;rw[getD_eq_getElem?_getD,List.getElem?_eq_none (by lia)];rfl
  rw[e] at k;exact k
end
section
variable [En]
inductive Jfd(K:Frag)(vs:List V)(H:Hp)(Q:VK)(E:XK):Prop
 | mk(a:Addr)(ns:List Int)(many:Nat)(b:Int)(_:vs=[.ref a,.int many,.int b])(_:SqL K H a (iV ns))(_:ns.length<=63)(_:1<=many)(_:many<=24)(_:0<b)(_:∀l c,Same H c->H l=none->c l=some (.lst (iV (lensN ns 1 many b)))->Q (.ref l) c)
theorem Jmy:FS1 ["script","many","span"] J9b:=fsc
theorem Jjx(F:Fn1 J9b)(T:TxtR mg):
  Ca1 1 J9b (Jfd K):=by
 refine F.ok Jmy (fun f d A o s H vs Q E I h=>?_);obtain⟨a,ns,many,b,rfl,m,c,G,D,p,k⟩:=h;refine⟨_,(J4 (Jf (Jb1 (caps:=["script","many","span"]) (js:=[0,1,2]) rfl (J6d rfl T.range (J0 (pv 1) J3)) rfl (fun _ _ _ _=>J3s) (fun C w s H=>(Ji J13 J9 (Ji J25 (J1r (Jlr K) (by rfl) T.sum boot_sum (J0 (Jb1 (caps:=["script"]) (js:=[1]) rfl (Jnh rfl T.range (J0 (Ji J13 J9 (pv 0)) (J0 (J1r (Jbo K) (by rfl) T.len PySem.boot_len (J0 (pv 1) J3)) (J0 (pv 2) J3)))) rfl (fun _ _ _ _=>J3s) (fun C w s H=>(J6f (Jg3 K) (pv 1) (pv 0)))) J3)) (pv 3))))))),?_⟩;refine⟨_,rfl,(many:Int),rfl,by lia,by lia,fun z g=>lc_rng 0 many (fun _=>true) (fun k=>V.int (lenK ns 1 many b k)) (by lia) g (fun _ _ H _ _ k=>k H (Same.refl _)) (fun j u n J _ i q=>?_) (fun n i e=>?_)⟩
 ·have y:(1:Int)+(0+(j:Int))=((1+j:Nat):Int):=by lia
  refine⟨_,rfl,_,_,rfl,rfl,_,rfl,a,_,rfl,.inl (i.seq m),_,rfl,((1+j:Nat):Int),(ns.length:Int),(many:Int),?_,⟨by lia,by lia,by lia,by lia,by lia,by lia⟩,fun B l=>Jiy (i.seq m) c (by lia) l rfl rfl fun L r v=>?_⟩
  ·rw[<- y,J2i]
  ·exact⟨B,_,rfl,.inl (SqL.of v),_,rfl,_,_,rfl,rfl,p,_,_,rfl,rfl,q _ r⟩
 rw[J41] at e;refine k z n i g ?_;rw[e];show _=some (HO.lst ((List.map _ _).map V.int));rw[map_map];rfl
inductive Jbv(K:Frag)(vs:List V)(H:Hp)(Q:VK)(E:XK):Prop
 | mk(a:Addr)(ns:List Int)(many:Nat)(tot:Int)(_:vs=[.ref a,.int tot,.int many])(_:SqL K H a (iV ns))(_:1<=many)(_:many<=24)(_:1<=tot)(_:∀l bs c,Same H c->H l=none->c l=some (.lst (iV bs))->1<=bs.length->bs.length<=many->(∀b∈bs,1<=b)->bs.sum=tot->Q (.ref l) c)
theorem J3m:FS1 ["script","total","many","found","mixed","k","part"] J93:=fsc
theorem Jh5(F:Fn1 J93)(T:TxtR mg)(p:mg "min"=none):
  Ca1 1 J93 (Jbv K):=by
 refine F.ok J3m (fun f d A o s H vs Q E hr h=>?_);obtain⟨a,ns,many,tot,rfl,M,y1,Z,R,k⟩:=h;refine⟨_,(J1 (pst J3m 3 (J2h J3))
  (J1 (pst J3m 4 (Ji J13 J9 (Ji J25 (pcb (J1z rfl) T.sum (pv 0)) J9)))
  (J1 (J30 PassesOwn.never rfl (J6d rfl T.range (J0 (Ji J1i (pv 2) J9) J3)) (pgm J3m 5)
   (J4 (J1b (Jl J73 (pv 1) J9 (Jp _)) (J1 (pst J3m 4 (Ji J25 (Ji J9x (pv 4) J9) J9))
    (J1 (pst J3m 6 (Ji J13 J9 (Ji J25 (Ji J13 (pv 4) (Ji J3t (pcb (J1z rfl) T.sum (pv 0)) (Ji J13 (pv 5) J9))) (Ji J1i (pv 1) J9))))
    (J1 (J3z (J1b (Jl J40 (Ji J25 (pv 4) J9) J9 (Jp _)) (J4 (pst J3m 6 (Ji J13 J9 (Ji J25 (pv 4) (J1r (J9g rfl) (by rfl) p boot_min (J0 J9 (J0 (Ji J1i (pv 1) J9) J3))))))) Jo))
    (J1 (J1f (J5s plainAttrs_list slot_list_append type_list_append J26 (pv 3) (J0 (pv 6) J3)))
    (J4 (pst J3m 1 (Ji J1i (pv 1) (pv 6)))))))) Jo)))
  (J1 (J1f (J5s plainAttrs_list slot_list_append type_list_append J26 (pv 3) (J0 (pv 1) J3)))
  (J4 (Jf (pv 3))))))),?_⟩
 have sm:=Js (n:=100) (by decide);have z0:0<=ns.sum%1000000006:=Int.emod_nonneg _ (by decide);have Y:ns.sum%1000000006<1000000006:=Int.emod_lt_of_pos _ (by decide);refine⟨Nat.zero_le _,fun l w=>?_⟩;have G:=J8 (o:=.lst []) w;refine⟨_,rfl,a,ns,rfl,.inl (G.seq M),_,_,rfl,rfl,(by show(0:Int)<1000000006;decide),_,_,rfl,rfl,?_⟩;refine⟨_,rfl,_,_,rfl,rfl,((many-1:Nat):Int),(by show [V.int ((many:Int)-1)]=_;rw[show(many:Int)-1=((many-1:Nat):Int) by lia]),by lia,by lia,J8u (lo:=0) (n:=many-1) (fun i σ q=>∃e g y r bs,σ=[some (.ref a),some (.int e),some (.int many),some (.ref l),some (.int g),y,r]/\q l=some (.lst (iV bs))/\Same H q/\bs.length<=i/\(∀b∈bs,1<=b)/\bs.sum+e=tot/\1<=e/\0<=g/\g<2147483647)
  ⟨tot,_,none,none,[],rfl,J7,G,Nat.zero_le _,(fun b hb=>absurd hb not_mem_nil),(by simp),R,by lia,by lia⟩ ?_ ?_⟩
 ·rintro i σ q hi ⟨e,g,y,r,bs,rfl,hb,m,W,v,I,B,L,J⟩;refine⟨_,rfl,_,_,rfl,rfl,_,rfl,?_⟩;by_cases c:1<e
  case neg=>exact iteD c ⟨e,g,_,r,bs,rfl,hb,m,by lia,v,I,B,L,J⟩
  refine J2s c ?_;refine⟨_,rfl,_,_,rfl,rfl,.inl ⟨by lia,by lia⟩,_,_,rfl,rfl,(by show(0:Int)<2147483647;decide),?_⟩;have U:0<=g*48271%2147483647:=Int.emod_nonneg _ (by decide);have S:g*48271%2147483647<2147483647:=Int.emod_lt_of_pos _ (by decide);refine⟨_,rfl,_,rfl,a,ns,rfl,.inl (m.seq M),_,rfl,_,_,rfl,rfl,_,_,rfl,rfl,⟨by lia,by lia⟩,_,_,rfl,rfl,_,rfl,_,_,rfl,rfl,_,_,rfl,rfl,(by show 0<e-1;lia),_,_,rfl,rfl,?_⟩;obtain⟨pt,D⟩:∃pt:Int,pt=1+(g*48271%2147483647+ns.sum/(0+(i:Int)+2))%(e-1):=⟨_,rfl⟩;have p0:0<=(g*48271%2147483647+ns.sum/(0+(i:Int)+2))%(e-1):=Int.emod_nonneg _ (by lia);have p1:(g*48271%2147483647+ns.sum/(0+(i:Int)+2))%(e-1)<e-1:=Int.emod_lt_of_pos _ (by lia);refine⟨fun σ' X=>∃pt,σ'=[some (.ref a),some (.int e),some (.int many),some (.ref l),some (.int (g*48271%2147483647)),some (.int (0+(i:Int))),some (.int pt)]/\1<=pt/\pt<=e-1/\q=X,?_,?_⟩
  ·refine⟨_,rfl,_,_,rfl,rfl,(by show(0:Int)<3;decide),rfl,_,rfl,?_⟩;by_cases O:g*48271%2147483647%3=1
   ·refine J2s (congrArg V.int O) ?_;have N:0<(if e-1<4 then e-1 else (4:Int))/\(if e-1<4 then e-1 else (4:Int))<=e-1:=by split <;> lia
    have r0:0<=g*48271%2147483647%(if e-1<4 then e-1 else (4:Int)):=Int.emod_nonneg _ (by lia);have r1:g*48271%2147483647%(if e-1<4 then e-1 else (4:Int))<(if e-1<4 then e-1 else (4:Int)):=Int.emod_lt_of_pos _ N.1;exact⟨_,rfl,_,rfl,_,_,rfl,rfl,_,_,rfl,_,_,rfl,rfl,N.1,_,_,rfl,rfl,_,rfl,by lia,by lia,rfl⟩
   ·refine iteD (J37 O) ⟨pt,by rw[D];rfl,by lia,by lia,rfl⟩
  rintro σ _ ⟨pt,rfl,P,w2,rfl⟩;have C:(iV bs).length=bs.length:=length_map ..;refine⟨_,rfl,.inl ⟨rfl,_,SqL.of hb⟩,_,rfl,l,_,_,rfl,rfl,hb,by rw[C];lia,?_⟩;refine⟨_,rfl,_,rfl,_,_,rfl,rfl,?_⟩;refine⟨e-pt,_,_,_,bs++[pt],rfl,(by rw[J7];exact congrArg (fun z=>some (HO.lst z)) (by show _=List.map V.int _;rw[map_append];rfl)),fun b u z=>(by rw[Jh (Jb z w)];exact m _ _ z),(by rw[length_append];show bs.length+1<=i+1;lia),fun b j=>?_,(by rw[sum_append];simp only[sum_cons,sum_nil];lia),by lia,U,S⟩;rcases mem_append.mp j with z|z
  ·exact v b z
  ·rw[mem_singleton.mp z];exact P
 ·rintro σ q ⟨e,g,y,r,bs,rfl,hb,m,W,v,I,B,L,J⟩;have C:(iV bs).length=bs.length:=length_map ..;refine⟨_,rfl,.inl ⟨rfl,_,SqL.of hb⟩,_,rfl,l,_,_,rfl,rfl,hb,by rw[C];lia,?_⟩;refine⟨_,rfl,k l (bs++[e]) _ (fun b u z=>(by rw[Jh (Jb z w)];exact m _ _ z)) w (by rw[J7];exact congrArg (fun z=>some (HO.lst z)) (by show _=List.map V.int _;rw[map_append];rfl)) (by rw[length_append];show 1<=bs.length+1;lia) (by rw[length_append];show bs.length+1<=many;lia) (fun b j=>?_) (by rw[sum_append];simp only[sum_cons,sum_nil];lia)⟩;rcases mem_append.mp j with z|z
  ·exact v b z
  ·rw[mem_singleton.mp z];exact B
end
section
variable [En]
inductive Jby(K:Frag)(vs:List V)(H:Hp)(Q:VK)(E:XK):Prop
 | mk(a sp:Addr)(ns b:List Int)(_:vs=[.ref a,.ref sp])(_:SqL K H a (iV ns))(_:ns.length<=63)(_:H sp=some (.lst (iV b)))(_:1<=b.length)(_:(∀s∈b,s=3\/s=9\/s=1000\/s=10^28))(_:∀p l1 e d bs c,Same H c->c p=some (.tup [.ref l1,.ref e])->c l1=some (.lst (iV d))->c e=some (.lst (iV bs))->l1≠e->J4n d bs->d.sum<=12*10^28->(∀m:Int,(∀s∈b,s<=m)->d.sum<=12*m)->Q (.ref p) c)
theorem lensA(h:0<span)(i:1<=many)(f:many<=12)(j:span<=10^28):J61 (lensN ns 1 many span)/\(lensN ns 1 many span).sum<=12*span/\1<=(lensN ns 1 many span).sum:=by
 have d:=Jka ns 1 many span;have c:=Jk9 (ns:=ns) (lo:=1) (many:=many) h;have g:J61 (lensN ns 1 many span):=⟨by lia,by lia,fun a b=>(c a b).1⟩;have e:=Jp6 (lensN ns 1 many span) fun a b=>(c a b).2;rw[d] at e;have l:(many:Int)*span<=12*span:=Int.mul_le_mul_of_nonneg_right (by lia) (by lia);refine⟨g,by lia,?_⟩;have:=(g.good (show(lensN ns 1 many span).sum<=10^30 by lia)).pos_sum;lia
theorem J4d:FS1 ["script","spans","first","span","most","above","below"] Jd1:=fsc
theorem Jhb(F:Fn1 Jd1)(T:TxtR mg)(cC:Ca1 1 Jhn (Jie K))(Y:Ca1 1 J9b (Jfd K))(X:Ca1 1 J93 (Jbv K)):
  Ca1 2 Jd1 (Jby K):=by
 refine F.ok J4d (fun f d A o s H vs Q E P h=>?_);obtain⟨a,sp,ns,e,rfl,S,C,y,ab,G,k⟩:=h;have u0:=Int.emod_nonneg (cellN ns 0/144) (show(e.length:Int)≠0 by lia);have u1:=Int.emod_lt_of_pos (cellN ns 0/144) (show 0<(e.length:Int) by lia);obtain⟨u,eu⟩:∃u:Nat,cellN ns 0/144%(e.length:Int)=u:=⟨_,(Int.toNat_of_nonneg u0).symm⟩;obtain⟨b,R,ac,z⟩:∃b:Int,atI (iV e) (cellN ns 0/144%((iV e).length:Nat))=some (V.int b)/\(b=3\/b=9\/b=1000\/b=10^28)/\b∈e:=by
  have B:e.getD u 0∈e:=by rw[getD_eq_getElem?_getD,gE (by lia)];exact List.getElem_mem _
  exact⟨_,by rw[J2i,eu];exact Je (J1d (by lia)),G _ B,B⟩
 have I:(10:Int)^(28:Int).toNat=10^28:=rfl;refine⟨_,(J1 (pst J4d 2 (pcl cC P Jj (J0 (pv 0) (J0 J9 J3))))
  (J1 (pst J4d 3 (Jt J4z (pv 1) (Ji J25 (Ji J3t (pv 2) J9) (pcb Ju T.len (pv 1)))))
  (J1 (pst J4d 4 J9)
  (J1 (J3z (J1b (Jl J40 (pv 3) J9 (Jp _)) (J4 (pst J4d 4 J9)) Jo))
  (J1 (J3z (J1b (Jl J40 (pv 3) J9 (Jp _)) (J4 (pst J4d 4 J9)) Jo))
  (J1 (J3z (J1b (Jl J40 (pv 3) (Ji J9w J9 J9) (Jp _)) (J4 (pst J4d 4 J9)) Jo))
  (J1 (pst J4d 5 (pcl Y P Jj (J0 (pv 0) (J0 (Ji J13 J9 (Ji J25 (pv 2) (pv 4))) (J0 (pv 3) J3)))))
  (J1 (pst J4d 6 (pcl X P Jj (J0 (pv 0) (J0 (pcb (J1z rfl) T.sum (pv 5)) (J0 (Ji J13 J9 (Ji J25 (Ji J3t (pv 2) J9) (pv 4))) J3)))))
  (J1 (J1b (Jl J40 (Ji J25 (Ji J3t (pv 2) J9) J9) J9 (Jp _)) (J4 (Jf (J2g (J0 (pv 6) (J0 (pv 5) J3))))) Jo)
  (J4 (Jf (J2g (J0 (pv 5) (J0 (pv 6) J3)))))))))))))),?_⟩
 refine⟨_,rfl,a,ns,0,rfl,S,?_⟩;refine⟨_,rfl,_,rfl,_,_,rfl,rfl,⟨by decide,by decide⟩,_,rfl,sp,_,rfl,.inl (SqL.of y),_,_,rfl,rfl,(by show(0:Int)<(((iV e).length:Nat):Int);rw[J2i];lia),sp,_,_,V.int b,rfl,rfl,SqL.of y,R,?_⟩;refine⟨fun σ' J=>∃m:Int,σ'=[some (.ref a),some (.ref sp),some (.int (cellN ns 0)),some (.int b),some (.int m),none,none]/\(b=3->m=12)/\(b≠3->m=5)/\H=J,?_,?_⟩
 ·refine⟨_,rfl,rfl,_,rfl,?_⟩;by_cases c:b=3
  ·exact J2s (congrArg V.int c) ⟨12,rfl,fun _=>rfl,fun n=>absurd c n,rfl⟩
  ·exact iteD (J37 c) ⟨5,rfl,fun n=>absurd n c,fun _=>rfl,rfl⟩
 rintro σ _ ⟨m,rfl,N,mb,rfl⟩;refine⟨fun σ' J=>∃m:Int,σ'=[some (.ref a),some (.ref sp),some (.int (cellN ns 0)),some (.int b),some (.int m),none,none]/\(b=3->m=12)/\(b=1000->m=7)/\(b≠3->b≠1000->m=5)/\H=J,?_,?_⟩
 ·refine⟨_,rfl,rfl,_,rfl,?_⟩;by_cases c:b=1000
  ·exact J2s (congrArg V.int c) ⟨7,rfl,fun _=>by lia,fun _=>rfl,fun _ n=>absurd c n,rfl⟩
  ·exact iteD (J37 c) ⟨m,rfl,N,fun n=>absurd n c,fun n _=>mb n,rfl⟩
 rintro σ _ ⟨m,rfl,N,mb,mc,rfl⟩;refine⟨fun σ' J=>∃m:Int,σ'=[some (.ref a),some (.ref sp),some (.int (cellN ns 0)),some (.int b),some (.int m),none,none]/\(1<=m/\m<=12)/\H=J,?_,?_⟩
 ·refine⟨_,rfl,_,_,rfl,rfl,⟨by decide,by decide,by decide⟩,rfl,_,rfl,?_⟩;by_cases c:b=10^28
  ·exact J2s (congrArg V.int (by rw[I];exact c)) ⟨3,rfl,⟨by decide,by decide⟩,rfl⟩
  ·exact iteD (J37 (by rw[I];exact c)) ⟨m,rfl,⟨by lia,by lia⟩,rfl⟩
 rintro σ _ ⟨m,rfl,⟨N,mb⟩,rfl⟩;have p:0<b:=by lia
 have M:(1000:Int)<=10^28:=by decide
 have L:b<=10^28:=by lia
 have a0:0<=cellN ns 0%m:=Int.emod_nonneg _ (by lia);have a1:cellN ns 0%m<m:=Int.emod_lt_of_pos _ (by lia);have b0:0<=cellN ns 0/12%m:=Int.emod_nonneg _ (by lia);have b1:cellN ns 0/12%m<m:=Int.emod_lt_of_pos _ (by lia);obtain⟨v,W⟩:∃v:Nat,(v:Int)=1+cellN ns 0%m:=⟨(1+cellN ns 0%m).toNat,by lia⟩;obtain⟨O,U⟩:∃O:Nat,(O:Int)=1+cellN ns 0/12%m:=⟨(1+cellN ns 0/12%m).toNat,by lia⟩;obtain⟨ga,hA,hb⟩:=lensA (ns:=ns) (many:=v) p (by lia) (by lia) L;refine⟨_,rfl,_,rfl,_,rfl,_,_,rfl,rfl,(by show 0<m;lia),_,_,rfl,rfl,_,rfl,a,ns,v,b,(by rw[W];rfl),S,C,by lia,by lia,p,fun la H1 s1 fa l=>?_⟩;generalize lensN ns 1 v b=as at *;have aa:(12:Int)*10^28<=10^30:=by decide
 have ha:as.sum<=12*10^28:=by lia
 have B:∀m:Int,(∀s∈e,s<=m)->as.sum<=12*m:=fun m h=>by have:=h b z;lia
 refine⟨_,rfl,_,rfl,la,as,rfl,.inl (SqL.of l),_,rfl,_,_,rfl,rfl,⟨by decide,by decide⟩,_,rfl,_,_,rfl,rfl,(by show 0<m;lia),_,_,rfl,rfl,a,ns,O,as.sum,(by rw[U];rfl),s1.seq S,by lia,by lia,hb,fun w bs H2 Z fb D n1 n2 n3 n4=>?_⟩;have gb:J61 bs:=⟨n1,by lia,n3⟩;have r:la≠w:=Jb l fb;have q:=s1.trans Z;have g:=Z _ _ l;refine⟨_,rfl,_,_,rfl,rfl,⟨by decide,by decide⟩,_,_,rfl,rfl,(by show(0:Int)<2;decide),rfl,_,rfl,?_⟩;have sm:=Js (n:=100) (by decide);by_cases c:cellN ns 0/576%2=1
 ·refine J2s (congrArg V.int c) ?_;refine⟨_,rfl,_,rfl,(by show 2<=sizeLine;lia),fun tp j=>?_⟩;have i:=J8 (o:=.tup [.ref w,.ref la]) j;exact k tp w la bs as _ (q.trans i) J7 (i _ _ D) (i _ _ g) (Ne.symm r) ⟨gb,ga,n4,by lia⟩ (by lia) (fun m h=>by have:=B m h;lia)
 ·refine iteD (J37 c) ?_;refine⟨_,rfl,_,rfl,(by show 2<=sizeLine;lia),fun tp j=>?_⟩;have i:=J8 (o:=.tup [.ref la,.ref w]) j;exact k tp la w as bs _ (q.trans i) J7 (i _ _ g) (i _ _ D) r ⟨ga,gb,n4.symm,by lia⟩ ha B
end
section
variable [En]
inductive Jf6(vs:List V)(H:Hp)(Q:VK)(E:XK):Prop
 | mk(p:Addr)(bs:List Int)(x:Int)(_:vs=[.ref p,.int x])(_:H p=some (.lst (iV bs)))(_:J61 bs)(_:bs.sum<=10^30)(_:0<=x/\x<bs.sum)(_:Q (.int (tB bs x)) H)
theorem J7q:FS1 ["blocks","x","start","block"] J94:=fsc
theorem Jji(F:Fn1 J94):Ca1 1 J94 Jf6:=by
 refine F.ok J7q (fun f d A o s H vs Q E z h=>?_);obtain⟨p,bs,x,rfl,m,g,u,⟨q,w⟩,k⟩:=h;refine⟨_,(J1 (pst J7q 2 J9)
  (J1 (J30 PassesOwn.never rfl (J2e (pv 0)) (pgm J7q 3)
   (J1 (J1b (Jl J9l (pv 1) (Ji J13 (pv 2) (pv 3)) (Jp _)) (J4 (Jf (Ji J1i (Ji J1i (Ji J13 (Ji J9x J9 (pv 2)) (pv 3)) J9) (pv 1)))) Jo)
   (J4 (pst J7q 2 (Ji J13 (pv 2) (pv 3))))))
  (J4 (Jf (pv 1))))),?_⟩
 have O:=(g.good u).ord;have l:(iV bs).length=bs.length:=length_map ..;have r:=O.whole;refine⟨_,rfl,p,rfl,⟨_,SqL.of m⟩,J3o (K:=K) (a:=p) (xs:=iV bs) (fun i σ n=>∃v,σ=[some (.ref p),some (.int x),some (.int (Jq bs (List.range bs.length) i)),v]/\H=n/\Jq bs (List.range bs.length) i<=x)
  ⟨none,rfl,rfl,by rw[J33];exact q⟩ (fun i σ n _ ⟨_,_,e,_⟩=>by rw[<- e];exact SqL.of m) ?_ ?_⟩
 ·rintro i y σ _ j ⟨v,rfl,rfl,b⟩;have hi:i<bs.length:=by
   have:=(gS j);rw[l] at this;exact this
  rw[J1d hi] at j;cases j;have st:Jq bs (List.range bs.length) (i+1)=Jq bs (List.range bs.length) i+bs.getD i 0:=by rw[J16,J2m hi]
  refine⟨_,rfl,_,rfl,_,rfl,_,_,rfl,rfl,_,_,rfl,rfl,_,rfl,?_⟩;by_cases c:x<Jq bs (List.range bs.length) i+bs.getD i 0
  ·refine J2s c ⟨_,rfl,_,_,rfl,rfl,.inl ⟨by decide,by decide⟩,_,rfl,_,_,rfl,rfl,_,_,rfl,rfl,_,rfl,_,_,rfl,rfl,?_⟩;rw[show tB bs x=_ from Jbp O (Jdc O hi b c)] at k;exact k
  ·exact iteD c ⟨_,rfl,_,rfl,_,_,rfl,rfl,_,(by rw[st];rfl),rfl,by omega⟩
 ·rintro σ _ ⟨v,rfl,rfl,b⟩;exfalso;rw[l] at b;omega
inductive spAsk(C CH CR b e:Addr)(cs:Kd->Addr)(vs:List V)(H:Hp)(Q:VK)(E:XK):Prop
 | mk(y:Addr)(a bs:List Int)(d u v:Int)(_:vs=[.int d,.ref y,.int u,.int v])(_:ArAt C CH CR b cs H y a bs)(_:J4n a bs)(_:¬ (0<=v/\v<a.sum))(_:∀c,Same H c->E (.ref e) none c)
theorem scAsk:FS1 ["which","arches","x","y"] fAsk:=fsc
theorem ok_ask{CR:Addr}(F:Fn1 fAsk)(g:Cx1 9 J77 (Jam C CH CR CAr CO cs))(a:Cx1 9 J42 (Jqg C CH CR CAr CO cs)):Cx1 10 fAsk (spAsk C CH CR CAr CO cs):=by
 refine F.okX scAsk (fun f d A o s H vs Q E e h=>?_);obtain⟨y,i,bs,l,u,v,rfl,j,G,n,b⟩:=h;refine⟨_,(J1 (J1b (Jl J40 (pv 0) J9 (Jp _)) (J4 (Jf (pcl g e J8g (J0 (pv 1) (J0 (pv 3) J3))))) Jo)
  (J1 (J1b (Jl J40 (pv 0) J9 (Jp _)) (J4 (Jf (pcl a e J8g (J0 (pv 1) (J0 (pv 2) (J0 (pv 3) J3)))))) Jo)
  (J4 (Jf (pcl a e J8g (J0 (pv 1) (J0 (pv 3) (J0 (pv 2) J3)))))))),?_⟩
 refine⟨_,rfl,rfl,_,rfl,?_⟩;by_cases c:l=0
 ·exact J2s (congrArg V.int c) ⟨_,rfl,_,rfl,y,i,bs,v,rfl,j,G,fun h=>absurd h n,fun _=>b _ (Same.refl _)⟩
 refine iteD (J37 c) ⟨_,rfl,rfl,_,rfl,?_⟩;by_cases d:l=1
 ·exact J2s (congrArg V.int d) ⟨_,rfl,_,rfl,_,rfl,y,i,bs,u,v,rfl,j,G,fun _ h=>absurd h n,fun _=>b⟩
 ·exact iteD (J37 d) ⟨_,rfl,_,rfl,_,rfl,y,i,bs,v,u,rfl,j,G,fun h=>absurd h n,fun _=>b⟩
structure Tx56(K:Frag)(mg:Str->Option Value)(CL CO:Addr):Prop where
 isi:mg "isinstance"=none
 bool:mg "bool"=none
 ml:mg "LineError"=some (.ref CL)
 mo:mg "Outside"=some (.ref CO)
 xl:exmOne K (.ref CO) (.ref CL)=some true
 xc:XCls K CO
 ko:kitOne K (.ref CO) (.ref CO)=some true
inductive Jp9(C CH CR b:Addr)(cs:Kd->Addr)(vs:List V)(H:Hp)(Q:VK)(E:XK):Prop
 | mk(y:Addr)(a bs:List Int)(d u v:Int)(_:vs=[.int d,.ref y,.int u,.int v])(_:ArAt C CH CR b cs H y a bs)(_:J4n a bs)(_:¬ (0<=v/\v<a.sum))(_:∀c,Same H c->Q (.bl true) c)
theorem J6a:FS1 ["which","arches","x","y","found","e"] J6q:=fsc
theorem Jrj{CR:Addr}(F:Fn1 J6q)(a:Tx56 K mg CL CO)(g:Cx1 10 fAsk (spAsk C CH CR CAr CO cs)):Ca1 11 J6q (Jp9 C CH CR CAr cs):=by
 refine F.ok J6a (fun f d A o s H vs Q E r h=>?_);obtain⟨y,z,bs,p,u,v,rfl,B,G,n,k⟩:=h;obtain⟨D,w,l,j,b,c⟩:=g;refine⟨_,(J1 (pst J6a 4 J6e)
  (J1 (Jr9 (i:=5) l (r.mono (by decide)) rfl b c j .nil (J0 (pv 0) (J0 (pv 1) (J0 (pv 2) (J0 (pv 3) J3)))) rfl rfl rfl a.ml J6a.nd rfl rfl (fun m=>J4 (pst J6a 4 (pv 5))))
  (J4 (Jf (J1r (Jht rfl) (by rfl) a.isi boot_isinstance (J0 (pv 4) (J0 (Jb2 (v:=.ref CO) rfl a.mo rfl) J3))))))),?_⟩
 refine⟨_,rfl,_,rfl,_,rfl,_,rfl,y,z,bs,p,u,v,rfl,B,G,n,fun I q=>⟨a.xl,fun m e=>⟨_,rfl,?_⟩⟩⟩;exact⟨_,rfl,m,CO,.ref CO,.ref CO,true,rfl,rfl,fun v h=>h,J7,a.xc,a.ko,k _ (q.trans (J8 e))⟩
end
section
variable [En]
inductive Jma(K:Frag)(TB TJ:Addr)(vs:List V)(H:Hp)(Q:VK)(E:XK):Prop
 | mk(a:Addr)(ns:List Int)(_:vs=[.ref a])(_:SqL K H a (ns.map V.int))(_:ns.length<=63)(_:J24 H TB lpLO "line_of.<locals>.<lambda>")(_:J24 H TJ lpJS "joined_stretches.<locals>.<lambda>")(_:∀b,Q (.bl true) b)
theorem J3k.st(c:H x=none)(a:H dx=none)(k:J3k x (L2.upd (L2.upd H dx (.own x)) x (.ins CX dx [])) H'):J3e H H':=fun b u e t=>k b u (by rw[Jh (Jb e c),Jh (Jb e a)];exact e) (Jb e c) t
theorem st_seq{K:Frag}(e:J3e H H')(h:SqL K H a xs):SqL K H' a xs:=by
 rcases h with(h|⟨o,h⟩)|h
 ·exact .inl (.inl (e _ _ h rfl))
 ·exact .inl (.inr ⟨o,e _ _ h rfl⟩)
 ·exact .inr h
theorem Ji5(G:J4n as bs)(j:0<=x/\x<as.sum):∃c n,strV as bs x=[.str c,.int n]/\(c="loop"\/c="way")/\(c="loop"->n%2=0)/\(way (tB as) (fA as bs) x->c="way")/\∀d g f,KrOk as bs f d->KwOk as bs g->∃t∈strT as bs f d g,t.1=c/\t.2.1=n:=by
 have i:=fun {d f} (k:KrOk as bs f d)=>Ji4 (ps:=J3c as bs) (G.a.good G.le).ord (G.b.good (by rw[<- G.eq];exact G.le)).ord G.a.getD G.b.getD G.eq k.sys rfl j;by_cases w:way (tB as) (fA as bs) x
 ·refine⟨"way",_,if_pos w,.inr rfl,fun e=>absurd e (by decide +kernel),fun _=>rfl,fun d g f k1 k2=>?_⟩;obtain⟨p,l,e⟩:=(i k1).1 w;exact⟨_,mem_append_right _ (List.mem_map_of_mem (k2.all p l)),rfl,e⟩
 ·refine⟨"loop",_,if_neg w,.inl rfl,fun _=>by lia,fun h=>absurd h w,fun d g f k1 k2=>?_⟩;obtain⟨o,m⟩:=(i k1).2 w;exact⟨_,mem_append_left _ (List.mem_map_of_mem (mem_filter.mpr ⟨k1.all _ m,decide_eq_true o⟩)),rfl,rfl⟩
theorem Jez(G:J4n as bs)(S:Sys (fA as bs) as.sum cb)(a:0<=x/\x<as.sum)(h:tog (tB as) (fA as bs) x y):strV as bs y=strV as bs x:=by
 obtain⟨e,i⟩:=G.two.same S a h;unfold strV;by_cases w:way (tB as) (fA as bs) x
 ·simp_all
 ·simp_all
theorem kin_si(a c:Str)(b d:Int):Kin [.str a,.int b] [.str c,.int d]:=fun u g v f=>by
 simp only[mem_cons,not_mem_nil,or_false] at g f;rcases g with rfl|rfl <;> rcases f with rfl|rfl
 ·exact⟨rfl,rfl,by show(a==c)=_;by_cases e:a=c <;> simp[e]⟩
 ·exact⟨rfl,rfl,by simp[eqV]⟩
 ·exact⟨rfl,rfl,by simp[eqV]⟩
 ·exact⟨rfl,rfl,by show(b==d)=_;by_cases e:b=d <;> simp[e]⟩
theorem fork [Decidable c]{A:Prop}(b:c->A)(a:¬ c->B):if decide c=true then A else B:=by
 simp_all
theorem Jpy(h:iV xs=iV ys):xs=ys:=List.map_inj_right (fun _ _ e=>V.int.inj e) |>.mp h
theorem J5h:Jr ["script","drawn","arches","size","x","y","near","k","told","blocks","other","far","which","one"] ["script"] (Jd (top 103)):=fsc
theorem ok_law{f C CH CR S CO CL TB TJ:Addr}{fd:FuncData}{cs:Kd->Addr}(F:Fun K "law" "law" (top 103) f fd)(T:TxtR mg)(TX:Tx56 K mg CL CO)(cC:Ca1 1 Jhn (Jie K))(aN:Ca1 2 Jd1 (Jby K))(aO:Mak CX0 8 "Arches" S ["self","above","below"] [] (Jff C CH CR S TB TJ cs))(a0:Ca1 1 J94 Jf6)(an:Cx1 9 J77 (Jam C CH CR S CO cs))(aL:Ca1 9 J6p (spSD C CH CR S cs))(am:Cx1 9 J42 (Jqg C CH CR S CO cs))(aM:Ca1 11 J6q (Jp9 C CH CR S cs)):
  FnOk P w K mg base CX0 12 f fd ["script"] (Jma K TB TJ):=by
 refine F.ok1 J5h (fun d A o s H vs Q E O h=>?_);obtain⟨a,ns,rfl,U,aw,Tb,Tj,k⟩:=h;have aj:=Joo O;refine⟨_,(J1 (pst J5h 1 (pcl aN O Jj (J0 (pv 0) (J0 (J2h (J0 J9 (J0 J9 (J0 (Ji J9w J9 J9) J3)))) J3))))
  (J1 (pst J5h 2 (pmk aO O Jj (J0 (Jt Jm (pv 1) J9) (J0 (Jt Jm (pv 1) J9) J3))))
  (J1 (pst J5h 3 (pcb (J1z rfl) T.sum (Jt Jm (pv 1) J9)))
  (J1 (pst J5h 4 (Ji J25 (Ji J3t (pcb (J1z rfl) T.sum (pv 0)) J9) (pv 3)))
  (J1 (pst J5h 5 (Ji J25 (pcl cC O Jj (J0 (pv 0) (J0 J9 J3))) (pv 3)))
  (J1 (pst J5h 6 (J4w J40 (Ji J25 (Ji J3t (pcl cC O Jj (J0 (pv 0) (J0 J9 J3))) J9) J9) J9 (Jp _)))
  (J1 (J3z (J1b (J2x (pv 6)) (J1 (pst J5h 5 (pv 4))
   (J4 (J30 PassesOwn.never rfl (J6d rfl T.range (J0 (Ji J25 (pcl cC O Jj (J0 (pv 0) (J0 J9 J3))) J9) J3)) (pgm J5h 7)
    (J4 (pst J5h 5 (pcl a0 O Jj (J0 (Jt Jm (pv 1) (Ji J25 (Ji J13 (pv 7) (pcl cC O Jj (J0 (pv 0) (J0 J9 J3)))) J9)) (J0 (pv 5) J3)))))))) Jo))
  (J1 (pst J5h 8 (pcl an O Je4 (J0 (pv 2) (J0 (pv 4) J3))))
  (J1 (J3z (J1b (PW.pt (Jdy (Jcb (J2x (J1r (J9h rfl) (by rfl) TX.isi boot_isinstance (J0 (pv 8) (J0 (Jj1 (v:=.ty "tuple") rfl T.tuple boot_tuple rfl) J3))))) (Jdy (Jl J7d (Jt Jm (pv 8) J9) (J2g (J0 J35 (J0 J35 J3))) rfl) (Jca (PW.pt (J8d (Jl J40 (Jt Jm (pv 8) J9) J35 (Jp _)) (J5o (Jl J40 (Ji J25 (Jt Jm (pv 8) J9) J9) J9 (Jp _))))))))) (J4 (Jf J5i)) Jo))
  (J1 (J1b (Jl (op_niT aj) (pv 8) (Jpp (x:="row") (xr:=[]) (caps:=[]) (js:=[]) rfl (J2e (pcl aL O Jj (J0 (pv 2) J3))) (pgb1 (by decide +kernel)) rfl (fun _ _ _ _=>J3s) (fun C fp s H=>(J2g (J0 (J6f (J5x K) (pv 0) J9) (J0 (J6f (J5x K) (pv 0) J9) J3))))) rfl) (J4 (Jf J5i)) Jo)
  (J1 (J30 PassesOwn.never rfl (J7b (pv 1)) (pgm J5h 9)
   (J1 (pst J5h 10 (pcl a0 O Jj (J0 (pv 9) (J0 (pv 4) J3))))
   (J1 (J1b (PW.pt (Jdy (Jl Jrd (pcl am O Je4 (J0 (pv 2) (J0 (pv 4) (J0 (pv 10) J3)))) J5i (Jp _)) (Jca (Jl (Jre aj) (pcl an O Je4 (J0 (pv 2) (J0 (pv 10) J3))) (pv 8) (Jp _))))) (J4 (Jf J5i)) Jo)
   (J4 (J1b (PW.pt (J8d (Jl J40 (pv 10) (pv 4) (Jp _)) (J5o (Jl J72 (Jt Jm (pv 8) J9) J35 (Jp _))))) (J4 (Jf J5i)) Jo)))))
  (J1 (pst J5h 11 (Jt J4z (J2h (J0 (pv 3) (J0 (Jaz J64 J9) (J0 (Ji J13 (pv 3) (Ji J25 (pcb (J1z rfl) T.sum (pv 0)) (Ji J9w J9 J9))) (J0 (Ji J1i (Jaz J64 J9) (Ji J25 (pcb (J1z rfl) T.sum (pv 0)) (Ji J9w J9 J9))) J3))))) (Ji J25 (pcl cC O Jj (J0 (pv 0) (J0 J9 J3))) J9)))
  (J1 (J30 PassesOwn.never rfl (J6d rfl T.range (J0 J9 J3)) (pgm J5h 12)
   (J4 (J1b (Jcb (J2x (pcl aM O Jj (J0 (pv 12) (J0 (pv 2) (J0 (pv 4) (J0 (pv 11) J3))))))) (J4 (Jf J5i)) Jo)))
  (J1 (pst J5h 13 (pcl am O Je4 (J0 (pv 2) (J0 (pv 4) (J0 (pv 5) J3)))))
  (J1 (J1b (PW.pt (Jdy (Jcb (J2x (J1r (J9h rfl) (by rfl) TX.isi boot_isinstance (J0 (pv 13) (J0 (Jj1 (v:=.ty "bool") rfl TX.bool PyProof.Rows.boot_bool rfl) J3))))) (Jdy (Jl J72 (pcl am O Je4 (J0 (pv 2) (J0 (pv 5) (J0 (pv 4) J3)))) (pv 13) (Jp _)) (Jca (PW.pt (J8d (J2x (pv 6)) (J5o (Jcb (J2x (pv 13)))))))))) (J4 (Jf J5i)) Jo)
  (J4 (Jf (pe_or (pe_not (pv 13)) (Jj0 (J4w (Jrg aj) (pcl an O Je4 (J0 (pv 2) (J0 (pv 5) J3))) (pv 8) (Jp _))))))))))))))))))))),?_⟩
 have sm:=Js (n:=100) (by decide);refine⟨_,rfl,_,_,rfl,rfl,⟨by decide,by decide,by decide⟩,(by show 3<=sizeLine;lia),fun sp aD=>?_⟩;have s0:=J8 (o:=.lst [V.int 9,V.int 1000,V.int (10^(28:Int).toNat)]) aD;refine⟨a,sp,ns,[9,1000,10^28],rfl,s0.seq U,aw,J7,by decide,fun s hs=>?_,fun p l1 l2 u bs H1 s1 hp h1 h2 ne G le _=>?_⟩
 ·simp only[mem_cons,not_mem_nil,or_false] at hs;lia
 have a3:=J1p (J1p Tb s0) s1;have a1:=J1p (J1p Tj s0) s1;refine⟨_,rfl,p,_,_,_,rfl,rfl,SqT.of hp,Je (j:=0) rfl,_,rfl,p,_,_,_,rfl,rfl,SqT.of hp,Je (j:=1) rfl,?_⟩;intro r dx D ax aG;have s6:=(J8 (o:=.own r) ax).trans (J8 (l:=r) (o:=.ins S dx []) (by rw[Jh (Ne.symm aG)];exact D));refine⟨r,dx,l1,l2,u,bs,rfl,J7,.inl (s6 _ _ h1),.inl (s6 _ _ h2),Jb h2 D,J1p a3 s6,J1p a1 s6,G,fun H2 Ar kT _ _=>⟨rfl,?_⟩⟩;have Y:=J3k.st D ax kT;have p2:=Y _ _ hp rfl;have a2:=Y _ _ h1 rfl;have b2:=Y _ _ h2 rfl;have U:=st_seq Y (s1.seq (s0.seq U));clear kT Y s6 a3 a1 Tb Tj;have N0:0<u.sum:=by have:=(G.a.good G.le).pos_sum;lia
 obtain⟨cb,Sy⟩:∃cb,Sys (fA u bs) u.sum cb:=by
  obtain⟨dy,fs,pa,pb,xl,xc,ls,os,ts,m,-,-,-,-,-,-,-,-,-,-,-,PG,-,cp⟩:=Ar.ex;exact⟨_,(Jde G PG cp).sys⟩
 have W:=G.two;have Z:∀m:Int,0<=m->m<2->∃l xs,atI [V.ref l1,V.ref l2] m=some (.ref l)/\H2 l=some (.lst (iV xs))/\J61 xs/\xs.sum<=10^30/\xs.sum=u.sum/\∀{x y},0<=x/\x<u.sum->0<=y/\y<u.sum->tog (tB u) (fA u bs) x y->(0<=tB xs y/\tB xs y<u.sum)/\tog (tB u) (fA u bs) x (tB xs y):=fun m m0 m1=>by
  have:m=0\/m=1:=by lia
  rcases this with rfl|rfl
  ·exact⟨l1,u,rfl,a2,G.a,G.le,rfl,fun D N h=>⟨W.ain _ N,W.tog_a Sy D N h⟩⟩
  ·refine⟨l2,bs,rfl,b2,G.b,G.eq▸G.le,G.eq.symm,fun {x y} D N h=>⟨?_,W.tog_b Sy D N h⟩⟩;have:=Sy.inn _ (W.ain y N).1 (W.ain y N).2;rw[show fA u bs (tB u y)=tB bs y from congrArg (tB bs) (W.aa y N)] at this;exact this
 refine⟨_,rfl,p,_,_,_,rfl,rfl,SqT.of p2,Je (j:=0) rfl,l1,u,rfl,.inl (SqL.of a2),?_⟩;refine⟨_,rfl,a,ns,rfl,.inl U,_,_,rfl,rfl,⟨by decide,by decide⟩,_,rfl,_,_,rfl,rfl,N0,?_⟩;refine⟨_,rfl,a,ns,1,rfl,U,_,rfl,_,_,rfl,rfl,N0,?_⟩;refine⟨_,rfl,a,ns,0,rfl,U,_,_,rfl,rfl,⟨by decide,by decide⟩,_,_,rfl,rfl,(by show(0:Int)<2;decide),rfl,?_⟩;have D:0<=ns.sum/3%u.sum/\ns.sum/3%u.sum<u.sum:=⟨Int.emod_nonneg _ (by lia),Int.emod_lt_of_pos _ N0⟩;have N:0<=cellN ns 1%u.sum/\cellN ns 1%u.sum<u.sum:=⟨Int.emod_nonneg _ (by lia),Int.emod_lt_of_pos _ N0⟩;generalize ns.sum/3%u.sum=x at *;generalize cellN ns 1%u.sum=y at *;generalize decide (V.int (cellN ns 0/1152%2)=V.int 1)=nr;refine⟨fun σ' X=>∃y v7,σ'=[some (.ref a),some (.ref p),some (.ref r),some (.int u.sum),some (.int x),some (.int y),some (.bl nr),v7,none,none,none,none,none,none]/\(0<=y/\y<u.sum)/\(nr=true->tog (tB u) (fA u bs) x y)/\H2=X,?_,?_⟩
 ·refine⟨_,rfl,_,rfl,?_⟩
  cases nr with
  | false=>exact iteF ⟨y,none,rfl,N,(fun z=>by cases z),rfl⟩
  | true =>
   have n0:=Int.emod_nonneg (cellN ns 1) (show(9:Int)≠0 by decide);have n1:=Int.emod_lt_of_pos (cellN ns 1) (show(0:Int)<9 by decide);refine iteT ⟨_,rfl,_,rfl,a,ns,1,rfl,U,_,_,rfl,rfl,(by show(0:Int)<9;decide),(((cellN ns 1%9).toNat:Nat):Int),(by rw[show(((cellN ns 1%9).toNat:Nat):Int)=cellN ns 1%9 by lia]),by lia,by lia,J8u (lo:=0) (n:=(cellN ns 1%9).toNat) (fun i σ X=>∃y v7,σ=[some (.ref a),some (.ref p),some (.ref r),some (.int u.sum),some (.int x),some (.int y),some (.bl true),v7,none,none,none,none,none,none]/\(0<=y/\y<u.sum)/\tog (tB u) (fA u bs) x y/\H2=X)
    ⟨x,none,rfl,D,.inl ⟨0,rfl⟩,rfl⟩ ?_ ?_⟩
   ·rintro i σ _ hi ⟨y,v7,rfl,N,tg,rfl⟩;obtain⟨l,xs,el,hl,g,ge,es,st⟩:=Z ((0+(i:Int)+cellN ns 1)%2) (Int.emod_nonneg _ (by decide)) (Int.emod_lt_of_pos _ (by decide));obtain⟨i1,t1⟩:=st D N tg;exact⟨_,rfl,_,rfl,_,rfl,a,ns,1,rfl,U,_,_,rfl,rfl,_,_,rfl,rfl,(by show(0:Int)<2;decide),p,_,_,_,rfl,rfl,SqT.of p2,el,_,rfl,l,xs,y,rfl,hl,g,ge,by rw[es];exact N,_,_,rfl,i1,t1,rfl⟩
   ·rintro σ _ ⟨y,v7,rfl,N,tg,rfl⟩;exact⟨y,v7,rfl,N,fun _=>tg,rfl⟩
 rintro σ _ ⟨y,v7,rfl,N,ny,rfl⟩;obtain⟨wd,n,eV,hw,ev,wy,mem⟩:=Ji5 G D;refine⟨_,rfl,_,rfl,r,u,bs,x,rfl,Ar,G,fun _ p8 H8 s8 h8=>?_,fun n=>absurd D n⟩;rw[eV] at h8;refine⟨fun σ' X=>σ'=[some (.ref a),some (.ref p),some (.ref r),some (.int u.sum),some (.int x),some (.int y),some (.bl nr),v7,some (.ref p8),none,none,none,none,none]/\Same H8 X,?_,?_⟩
 ·refine⟨_,rfl,_,.ty "tuple",.type "tuple",.type "tuple",true,rfl,rfl,fun v h=>h,.tup h8,rfl,true,rfl,iteF ?_⟩;refine⟨_,rfl,p8,_,_,_,rfl,rfl,SqT.of h8,Je (j:=0) rfl,(by show 2<=sizeLine;lia),fun q I=>?_⟩;have s9:=J8 (o:=.tup [V.str "loop",V.str "way"]) I;have aH:inV (.str wd) [V.str "loop",V.str "way"]=true:=by rcases hw with rfl|rfl <;> decide +kernel
  refine⟨q,_,rfl,.inr (SqT.of J7),rfl,rfl,_,rfl,J7n (by simp[aH]) ?_⟩;have h9:=s9 _ _ h8;refine⟨_,rfl,p8,_,_,_,rfl,rfl,SqT.of h9,Je (j:=0) rfl,rfl,_,rfl,?_⟩;exact fork (fun c=>⟨_,rfl,p8,_,_,_,rfl,rfl,SqT.of h9,Je (j:=1) rfl,_,_,rfl,rfl,(by show(0:Int)<2;decide),rfl,_,rfl,iteD (J37 (by have:=ev (V.str.inj c);lia)) ⟨rfl,s9⟩⟩) fun _=>iteF ⟨rfl,s9⟩
 rintro σ H9 ⟨rfl,s9⟩;have h9:=s9 _ _ h8;have s9:=s8.trans s9;clear s8 h8;refine⟨_,rfl,_,rfl,r,u,bs,rfl,Ar.same s9,G,fun l zs kr kw R aU ah hl tr lz au ar=>⟨l,rfl,⟨_,SqL.of hl⟩,fun d hd=>Js3 zs (fun _=>true) (fun i H y=>∃q,y=.ref q/\H q=some (.tup [.str ((strT u bs R kr kw).getD i ("",0,0)).1,.int ((strT u bs R kr kw).getD i ("",0,0)).2.1])) (SqL.of hl) (Nat.le_of_lt (Js (by lia))) hd (fun i y H X zs kp hz ⟨q,e,I⟩=>⟨q,e,kp _ _ I fun z=>by rw[z,hz] at I;cases I⟩) ?_ ?_⟩⟩
 ·intro i v ev H3 ou K1 K2 s3 aF k1 _;have hi:i<(strT u bs R kr kw).length:=by rw[<- tr.len];exact(gS ev)
  obtain⟨q,eq,I⟩:=tr.at_ i ((strT u bs R kr kw).getD i ("",0,0)) (by rw[getD_eq_getElem?_getD,gE hi];rfl);obtain rfl:v=.ref q:=Option.some.inj (ev.symm.trans eq)
  match ou,aF with
  | [o1],_ =>
   have I:=SqT.of (K:=K) (s3 _ _ I);exact⟨[_],rfl,rfl,iteT (B:=K2 H3) ⟨_,rfl,q,_,_,_,rfl,rfl,I,Je (j:=0) rfl,_,rfl,q,_,_,_,rfl,rfl,I,Je (j:=1) rfl,(by show 2<=sizeLine;lia),fun q2 aE=>k1 rfl _ _ (J8 aE) ⟨q2,rfl,J7⟩⟩⟩
 intro us a6 M af al;rw[J41] at al;have ac:=M _ _ (ah _ _ h9);have lu:us.length=zs.length:=by rw[<- al.1,length_range]
 have ai:∀i,i<us.length->∃q,us[i]?=some (.ref q)/\a6 q=some (.tup [.str ((strT u bs R kr kw).getD i ("",0,0)).1,.int ((strT u bs R kr kw).getD i ("",0,0)).2.1]):=fun i hi=>by
  obtain⟨q,e,I⟩:=al.2 i i us[i] (by rw[getElem?_range (by lia)]) (gE hi);exact⟨q,by rw[gE hi,e],I⟩
 refine⟨d,p8,us,[.str wd,.int n],rfl,rfl,SqT.of ac,SqL.of af,fun v hv=>?_,?_,_,rfl,iteF ?_⟩
 ·obtain⟨i,hi,rfl⟩:=List.getElem_of_mem hv;obtain⟨q,e,I⟩:=ai i hi;exact⟨q,_,Option.some.inj ((gE hi).symm.trans e),SqT.of I,kin_si _ _ _ _⟩
 ·obtain⟨t,ht,rfl,rfl⟩:=mem kr kw R au ar;obtain⟨i,hi,rfl⟩:=List.getElem_of_mem ht;obtain⟨q,e,I⟩:=ai i (by rw[lu,tr.len];exact hi);rw[getD_eq_getElem?_getD,gE hi] at I;exact⟨_,mem_of_getElem? e,.inr ⟨q,p8,_,rfl,rfl,SqT.of I,SqT.of ac,rfl⟩⟩
 have M:=(s9.trans ah).trans M;clear ai lu al af hd tr lz au ar hl ah s9 h9;refine⟨_,rfl,p,rfl,⟨_,SqT.of (M _ _ p2)⟩,J8t (K:=K) (a:=p) (xs:=[V.ref l1,V.ref l2])
  (fun i σ X=>∃v9 ad,σ=[some (.ref a),some (.ref p),some (.ref r),some (.int u.sum),some (.int x),some (.int y),some (.bl nr),v7,some (.ref p8),v9,ad,none,none,none]/\Same a6 X)
  ⟨none,none,rfl,Same.refl _⟩ (fun i σ X _ ⟨_,_,_,s⟩=>SqT.of (s _ _ (M _ _ p2))) ?_ ?_⟩
 ·rintro i v σ X hv ⟨v9,ad,rfl,s'⟩;have hi:i<2:=(gS hv);obtain⟨l,xs,el,hl,g,ge,es,st⟩:=Z (i:Int) (by lia) (by lia);obtain rfl:v=.ref l:=Option.some.inj ((Je hv).symm.trans el);obtain⟨ho,to⟩:=st D D (.inl ⟨0,rfl⟩);have wf:tB xs x=x->wd="way":=fun e=>wy (by
   have:i=0\/i=1:=by lia
   rcases this with rfl|rfl
   ·cases el;have:=Jpy (HO.lst.inj (Option.some.inj (hl.symm.trans a2)));subst this;exact⟨0,e.symm⟩
   ·cases el;have:=Jpy (HO.lst.inj (Option.some.inj (hl.symm.trans b2)));subst this;have:=W.on_b D;rw[e] at this;exact Sy.on_symm (W.ain x D) this)
  refine⟨_,rfl,_,rfl,l,xs,x,rfl,s' _ _ (M _ _ hl),g,ge,by rw[es];exact D,?_⟩;generalize tB xs x=o at *;have A':=Ar.same (M.trans s');refine⟨_,rfl,_,rfl,_,rfl,r,u,bs,x,o,rfl,A',G,fun _ _ c a5 L ab=>?_,fun n=>absurd n (by simp[D,ho])⟩;obtain rfl:=ab.mpr to;refine⟨true,true,rfl,rfl,_,rfl,iteF ?_⟩;refine⟨_,rfl,_,rfl,r,u,bs,o,rfl,A'.same L,G,fun _ q a4 J I=>?_,fun n=>absurd ho n⟩;rw[Jez G Sy D to,eV] at I;have J:=(s'.trans L).trans J;have ae:=J _ _ ac;refine⟨_,rfl,q,p8,_,_,rfl,rfl,.inr ⟨SqT.of I,SqT.of ae⟩,AlkL.flat rfl,_,rfl,iteF ?_⟩;refine⟨_,rfl,_,rfl,rfl,_,rfl,?_⟩;exact fork (fun c=>⟨_,rfl,p8,_,_,_,rfl,rfl,SqT.of ae,Je (j:=0) rfl,rfl,_,rfl,Jcl (congrArg V.str (wf (V.int.inj c))) ⟨_,_,rfl,J⟩⟩) fun _=>iteF ⟨_,_,rfl,J⟩
 rintro σ a5 ⟨v9,ad,rfl,L⟩;have ay:=L _ _ ac;have L:=M.trans L;have aA:=Ar.same L;have U:=L.seq U;clear M ac Z;have ak:(0:Int)<10^(30:Int).toNat:=by decide
 refine⟨_,rfl,_,rfl,_,rfl,_,rfl,a,ns,rfl,.inl U,_,_,rfl,rfl,⟨by decide,by decide,by decide⟩,_,_,rfl,rfl,ak,_,_,rfl,rfl,_,rfl,_,rfl,a,ns,rfl,.inl U,_,_,rfl,rfl,⟨by decide,by decide,by decide⟩,_,_,rfl,rfl,ak,_,_,rfl,rfl,(by show 4<=sizeLine;lia),fun fl aI=>?_⟩;have z0:=Int.emod_nonneg ns.sum (Int.ne_of_gt ak);generalize ns.sum%10^(30:Int).toNat=z at *;have J:=J8 (o:=.lst [V.int u.sum,V.int (-1),V.int (u.sum+z),V.int (-1-z)]) aI;obtain⟨fv,az,nf⟩:∃fv,atI [V.int u.sum,V.int (-1),V.int (u.sum+z),V.int (-1-z)] (cellN ns 1%4)=some (V.int fv)/\¬ (0<=fv/\fv<u.sum):=by
  have n0:=Int.emod_nonneg (cellN ns 1) (show(4:Int)≠0 by decide);have n1:=Int.emod_lt_of_pos (cellN ns 1) (show(0:Int)<4 by decide);generalize cellN ns 1%4=m at *;have:m=0\/m=1\/m=2\/m=3:=by lia
  rcases this with rfl|rfl|rfl|rfl
  ·exact⟨_,rfl,by lia⟩
  ·exact⟨_,rfl,by lia⟩
  ·exact⟨_,rfl,by lia⟩
  ·exact⟨_,rfl,by lia⟩
 refine⟨_,rfl,a,ns,1,rfl,J.seq U,_,_,rfl,rfl,(by show(0:Int)<4;decide),fl,_,_,_,rfl,rfl,SqL.of J7,az,?_⟩;have ae:=J _ _ ay;have a9:=aA.same J;clear az L aA ay U;generalize upd a5 fl (.lst [V.int u.sum,V.int (-1),V.int (u.sum+z),V.int (-1-z)])=a4 at *;refine⟨((3:Nat):Int),rfl,by lia,by lia,J8u (lo:=0) (n:=3) (fun i σ X=>∃ag,σ=[some (.ref a),some (.ref p),some (.ref r),some (.int u.sum),some (.int x),some (.int y),some (.bl nr),v7,some (.ref p8),v9,ad,some (.int fv),ag,none]/\Same a4 X) ⟨none,rfl,Same.refl _⟩ ?_ ?_⟩
 ·rintro i σ X hi ⟨ag,rfl,s'⟩;exact⟨_,rfl,_,rfl,_,rfl,_,rfl,r,u,bs,0+(i:Int),x,fv,rfl,a9.same s',G,nf,fun aV aC=>⟨_,rfl,iteF ⟨_,rfl,s'.trans aC⟩⟩⟩
 rintro σ aT ⟨ag,rfl,aq⟩;have a8:=a9.same aq;have aK:=aq _ _ ae;refine⟨_,rfl,_,rfl,_,rfl,r,u,bs,x,y,rfl,a8,G,fun _ _ c aS ap ab=>?_,fun n=>absurd n (by simp[D,N])⟩;refine⟨_,rfl,_,.ty "bool",.type "bool",.type "bool",true,rfl,rfl,fun v h=>h,.bl c,rfl,true,rfl,iteF ?_⟩;have a7:=a8.same ap;refine⟨_,rfl,_,rfl,_,rfl,r,u,bs,y,x,rfl,a7,G,fun _ _ c2 aR ao av=>?_,fun n=>absurd n (by simp[D,N])⟩;obtain rfl:c2=c:=Bool.eq_iff_iff.mpr (av.trans (Iff.trans ⟨W.tog_symm Sy N,W.tog_symm Sy D⟩ ab.symm));refine⟨_,rfl,rfl,_,rfl,Jcl rfl ?_⟩;have aJ:=ao _ _ (ap _ _ aK);have aP:=a7.same ao
 cases c2 with
 | false =>
  cases nr with
  | false=>exact⟨_,rfl,_,rfl,iteF (iteF ⟨_,rfl,_,rfl,_,rfl,iteT (k _)⟩)⟩
  | true=>cases ab.mpr (ny rfl)
 | true =>
  have e:strV u bs y=[.str wd,.int n]:=(Jez G Sy D (ab.mp rfl)).trans eV;refine⟨_,rfl,_,rfl,?_⟩;cases nr;refine iteF (iteF ?_)
  rotate_left
  refine iteT ⟨_,rfl,_,rfl,iteF ?_⟩
  all_goals
   refine⟨_,rfl,_,rfl,_,rfl,iteF ⟨_,rfl,_,rfl,r,u,bs,y,rfl,aP,G,fun _ q aQ aB I=>?_,fun n=>absurd N n⟩⟩;rw[e] at I;exact⟨_,rfl,q,p8,_,_,rfl,rfl,.inr ⟨SqT.of I,SqT.of (aB _ _ aJ)⟩,AlkL.flat rfl,k _⟩
end
end R56
namespace L2
open PySem PySem.Spec PyProof.Rows
section
variable(K:Frag)(mg:Str->Option Value)(C T:Addr)(x m q:Str)(st:Stmt)(ps:List Str)
noncomputable abbrev FX:Prop:=∃f fd,Fun K x x st f fd/\J2z K fd ps []/\mg x=some (.ref f)
noncomputable abbrev FXT:Prop:=∃f fd,Fun K x x st f fd/\J2z K fd ps []/\mg x=some (.ref f)/\∃a,fd.code=.ref a/\PySem.W.codeHdIn K a T=true
noncomputable abbrev FXL:Prop:=∃f fd,Fun K "law" "law" st f fd/\(∀(s:Shared) (v:Value),BindsTo s fd ⟨[v],[]⟩ [("script",v)])/\mg "law"=some (.ref f)
noncomputable abbrev MX:Prop:=∃f fd,Fun K m q st f fd/\J2z K fd ps []/\Meth K C m f
noncomputable abbrev BX:Prop:=∃f fd,Fun K m q st f fd/\J2z K fd ps []/\Jsk K C m f
noncomputable abbrev MKf:Prop:=makesIn K C=true/\keepIn K (.ref C)=true
end
section
variable{K:Frag}{h:Heap}{mg:Str->Option Value}{x q m:Str}{st:Stmt}{ps:List Str}{f C T cc:Addr}{oc:Value}{od an:Option Addr}{osl:Array (Option Value)}{kV doc pm cdv ct:Value}
theorem ftk(X:K.In h)(G:h.Ns mainGlobals mg)(a:nsIn K mainGlobals x=some (some (.ref f)))(l:K.lookup f=some ⟨oc,od,.func (fnOf x x (J2p st) (J1g st) (Jd st) .none kV doc pm an (.ref cc) ct),osl⟩)(c:codeIn K (.ref cc) x=true)(k:keepIn K (.ref f)=true)(b:∀us ,us.length=ps.length->bindArgs (fnOf x x (J2p st) (J1g st) (Jd st) .none kV doc pm an (.ref cc) ct) ⟨us,[]⟩=pure (ps.zip us))(hd:PySem.W.codeHdIn K cc T=true):FXT K mg T x st ps:=
 ⟨f,_,Jcp l c k,.all b,mg_of X G a,cc,rfl,hd⟩
theorem flk(X:K.In h)(G:h.Ns mainGlobals mg)(a:nsIn K mainGlobals "law"=some (some (.ref f)))(l:K.lookup f=some ⟨oc,od,.func (fnOf "law" "law" (J2p st) (J1g st) (Jd st) .none kV doc pm an cdv ct),osl⟩)(c:codeIn K cdv "law"=true)(k:keepIn K (.ref f)=true)(b:∀v ,bindArgs (fnOf "law" "law" (J2p st) (J1g st) (Jd st) .none kV doc pm an cdv ct) ⟨[v],[]⟩=pure [(("script":Str),v)]):FXL K mg st :=
 ⟨f,_,Jcp l c k,fun _ v=>.of_eq (b v),mg_of X G a⟩
theorem bsk(s:specialIn K (.ref C) "__getattribute__"=some (some (.builtin "type.__getattribute__")))(r:readsIn K C (.type "type")=true)(d:findCls K (.ref C) (.type "type") m=some (.val (.ref f)))(l:K.lookup f=some ⟨oc,od,.func (fnOf m q (J2p st) (J1g st) (Jd st) .none kV doc pm an cdv ct),osl⟩)(c:codeIn K cdv q=true)(k:keepIn K (.ref f)=true)(b:∀us ,us.length=ps.length->bindArgs (fnOf m q (J2p st) (J1g st) (Jd st) .none kV doc pm an cdv ct) ⟨us,[]⟩=pure (ps.zip us)):BX K C m q st ps:=⟨f,_,Jcp l c k,.all b,s,r,d,k⟩
end
end L2
namespace R56
open PySem L2 Rl
structure TxtK(K:Frag)(C:Addr):Prop where
 cl:Cls K C
 nW:J18 K C "winner"
 nL:J18 K C "loser"
 nT:J18 K C "times"
noncomputable abbrev LX(K:Frag)(C:Addr)(st:Stmt):Prop:=∃f fd a,FunD K "__init__" "Line.__init__" st f fd a/\J2z K fd ["self","lengths","order","turned"] []/\Meth K C "__init__" f
theorem law_ok{P:Program}{w:World}{K:Frag}{mg:Str->Option Value}{fa C CR CH CW H aW o p l j n i CL CO TB TJ:Addr}{aX aY:Tok}(bf:mg "law"=some (.ref fa))(aC:mg "Line"=some (.ref C))(dm:mg "Rest"=some (.ref CR))(dn:mg "Chart"=some (.ref CH))(dl:mg "Stretch"=some (.ref CW))(aV:mg "Arches"=some (.ref H))(aQ:mg "Step"=some (.ref aW))(aT:mg "Home"=some (.ref o))(aU:mg "Even"=some (.ref p))(aR:mg "Over"=some (.ref l))(aP:mg "Under"=some (.ref j))(aS:mg "Overs"=some (.ref n))(aO:mg "Unders"=some (.ref i))(bg:mg "MOST_PIECES"=some (.int 24 aX))(bh:mg "MOST_BLOCKS"=some (.int 12 aY))(U:mg "abs"=none)(a:mg "enumerate"=none)(S:mg "max"=none)(q:mg "min"=none)(d:mg "sorted"=none)(T:TxtR mg)(T0:Txt K mg)(TX:Tx56 K mg CL CO)(TO:TxtX K mg "Outside" CO)(R:TxtC K mg C)(g:J1a K CR)(TH:Jdg K CH)(TW:Jdf K CW)(TA:Jes K H)(B:TxtK K o)(D:TxtK K p)(z:TxtK K l)(y:TxtK K j)(A:TxtK K n)(u:TxtK K i)(kC:MKf K C)(af:MKf K CR)(ag:MKf K CH)(ae:MKf K CW)(Q:MKf K H)(N:MKf K o)(O:MKf K p)(L:MKf K l)(J:MKf K j)(M:MKf K n)(I:MKf K i)(d0:FX1 K mg Jae)(d1:FX1 K mg Jaa)(d2:FX1 K mg Jl2)(d3:FX1 K mg Jl1)(d4:FX1 K mg Jkz)(d5:FX1 K mg Jkx)(d6:FX1 K mg J7i)(d7:FX1 K mg J8z)(d8:FX1 K mg Jab)(d9:FX1 K mg J97)(ck:FX1 K mg Jl6)(cj:FX1 K mg J91)(ci:FX1 K mg J4j)(ch:FX1 K mg Ja6)(cg:FX1 K mg Jcu)(cf:FX1 K mg J8x)(ce:FX1 K mg Jl4)(cd:FX1 K mg J4i)(cc:FX1 K mg fPut)(cb:FX1 K mg J3p)(ca:FX1 K mg J7h)(bZ:FX1 K mg J5y)(bY:FX1 K mg J99)(bX:FX1 K mg Jkw)(bW:FX1 K mg J9c)(bU:FX1 K mg Jcs)(bT:FX1 K mg Jd0)(bS:FX1 K mg Jho)(bR:FX1 K mg Ja9)(bQ:FX1 K mg Jac)(bP:FX1 K mg Ja8)(bO:FX1 K mg J9a)(bN:FX1 K mg Jcy)(bM:FX1 K mg Jcz)(bK:FX1 K mg Jcw)(bJ:FX1 K mg Jcr)(bI:FX1 K mg J6s)(bH:FX1 K mg J92)(bG:FX1 K mg Jcx)(bF:FX1 K mg J98)(bE:FX1 K mg Jl3)(bD:FX1 K mg Jl0)(bC:FX1 K mg Ja5)(bB:FX1 K mg J90)(bA:FX1 K mg J8y)(b9:FX1 K mg J6r)(b8:FX1 K mg Jcv)(b7:FX1 K mg J96)(b6:FX1 K mg J6p)(b5:FX1 K mg Jhn)(b4:FX1 K mg J9b)(b3:FX1 K mg J93)(b2:FX1 K mg Jd1)(b1:FX1 K mg Jl5)(b0:FX1 K mg fAt)(bx:FX1 K mg Jl7)(bw:FX1 K mg J95)(bv:FX1 K mg Jd2)(bu:FX1 K mg Jl8)(bt:FX1 K mg fLed)(br:FX1 K mg Jad)(bq:FX1 K mg J77)(bp:FX1 K mg J42)(bo:FX1 K mg J94)(bn:FX1 K mg fAsk)(bm:FX1 K mg J6q)(eR:MX K CR "__init__" "Rest.__init__" (Jc (top 23) 0) ["self","top","bottom","lengths","turned"])(eH:MX K CH "__init__" "Chart.__init__" (Jc (top 52) 0) ["self","line"])(eW:MX K CW "__init__" "Stretch.__init__" (Jc (top 54) 0) ["self","first","length","laid","turned"])(eA:MX K H "__init__" "Arches.__init__" (Jc (top 72) 0) ["self","above","below"])(a5:MX K o "__init__" "Home.__init__" (Jc (top 38) 0) ["self","winner"])(a6:MX K p "__init__" "Even.__init__" (Jc (top 39) 0) ["self","winner","loser"])(a3:MX K l "__init__" "Over.__init__" (Jc (top 40) 0) ["self","winner","loser"])(a2:MX K j "__init__" "Under.__init__" (Jc (top 41) 0) ["self","winner","loser"])(a4:MX K n "__init__" "Overs.__init__" (Jc (top 42) 0) ["self","winner","times"])(a1:MX K i "__init__" "Unders.__init__" (Jc (top 43) 0) ["self","winner","times"])(am:MX K o "word" "Home.word" (Jc (top 38) 1) ["self"])(an:MX K p "word" "Even.word" (Jc (top 39) 1) ["self"])(ak:MX K l "word" "Over.word" (Jc (top 40) 1) ["self"])(aj:MX K j "word" "Under.word" (Jc (top 41) 1) ["self"])(al:MX K n "word" "Overs.word" (Jc (top 42) 1) ["self"])(ai:MX K i "word" "Unders.word" (Jc (top 43) 1) ["self"])(az:MX K o "losers" "Home.losers" (Jc (top 38) 2) ["self","rest"])(a0:MX K p "losers" "Step.losers" (Jc (top 37) 2) ["self","rest"])(ax:MX K l "losers" "Step.losers" (Jc (top 37) 2) ["self","rest"])(aw:MX K j "losers" "Step.losers" (Jc (top 37) 2) ["self","rest"])(ay:MX K n "losers" "Overs.losers" (Jc (top 42) 2) ["self","rest"])(av:MX K i "losers" "Unders.losers" (Jc (top 43) 2) ["self","rest"])(aB:MX K o "behind" "Home.behind" (Jc (top 38) 3) ["self","rest"])(aD:MX K p "behind" "Even.behind" (Jc (top 39) 3) ["self","rest"])(a9:MX K l "behind" "Over.behind" (Jc (top 40) 3) ["self","rest"])(a8:MX K j "behind" "Under.behind" (Jc (top 41) 2) ["self","rest"])(aA:MX K n "behind" "Overs.behind" (Jc (top 42) 4) ["self","rest"])(a7:MX K i "behind" "Unders.behind" (Jc (top 43) 3) ["self","rest"])(as:MX K o "own_first" "Step.own_first" (Jc (top 37) 3) ["self"])(au:MX K p "own_first" "Even.own_first" (Jc (top 39) 2) ["self"])(aq:MX K l "own_first" "Over.own_first" (Jc (top 40) 2) ["self"])(ap:MX K j "own_first" "Step.own_first" (Jc (top 37) 3) ["self"])(ar:MX K n "own_first" "Overs.own_first" (Jc (top 42) 3) ["self"])(ao:MX K i "own_first" "Step.own_first" (Jc (top 37) 3) ["self"])(eS:BX K aW "__init__" "Step.__init__" (Jc (top 37) 0) ["self","winner","loser","times"])(eC:LX K C (Jc (top 21) 0))(dB:FXT K mg TB "line_of" (top 61) ["stretches"])(dJ:FXT K mg TJ "joined_stretches" (top 64) ["ones","twos"])(dL:FXL K mg (top 103))(ne:(TB != TJ)=true):
  (∀P∈[TB,TJ],∃c,PySem.W.codeHdIn K c P=true)/\∃fd:FuncData,(∀(s:Shared) (v:Value),BindsTo s fd ⟨[v],[]⟩ [("script",v)])/\∀base:Heap,K.In base->base.Ns mainGlobals mg->(∀P∈[TB,TJ],Jbr base mg P)->FnOk P w K mg base CX0 12 fa fd ["script"] (Jma K TB TJ):=by
 obtain⟨_,fd,F,bL,mL⟩:=dL;cases bf.symm.trans mL;refine⟨fun P hP=>?_,fd,bL,fun base _ _ ah=>?_⟩
 ·simp only[mem_cons,not_mem_nil,or_false] at hP;rcases hP with rfl|rfl
  ·exact by obtain⟨_,_,_,_,_,c,_,h⟩:=dB;exact⟨c,h⟩
  ·exact by obtain⟨_,_,_,_,_,c,_,h⟩:=dJ;exact⟨c,h⟩
 letI:En:=⟨P,w,K,mg,base⟩
 obtain⟨cs,rfl,rfl,rfl,rfl,rfl,rfl⟩:∃cs:Kd->Addr,cs .ho=o/\cs .ev=p/\cs .ov=l/\cs .un=j/\cs .os=n/\cs .us=i:=⟨fun k=>match k with|.ho=>o|.ev=>p|.ov=>l|.un=>j|.os=>n|.us=>i,rfl,rfl,rfl,rfl,rfl,rfl⟩;have TK:∀k,TxtK K (cs k):=fun k=>match k with|.ho=>B|.ev=>D|.ov=>z|.un=>y|.os=>A|.us=>u
 have TS:TxtS K cs:=⟨fun k=>(TK k).cl,fun k=>(TK k).nW,fun k=>(TK k).nL,fun k=>(TK k).nT⟩;have c0:=Jo3 d0 T;have c1:=Jjn d1;have c2:=Jrn d2 T0;have c3:=Jrm d3 T0;have c4:=Jrk d4 T0;have c5:=Jri d5 T0 c4;have c6:Mak CX0 3 "Line" C ["self","lengths","order","turned"] [] (Jfa C):=by obtain⟨_,_,_,F,b,e⟩:=eC;exact⟨_,_,⟨kC.1,e.at_,e.fn,kC.2⟩,Jrq F T0 R c2 c3 c5 c0,b,aC⟩
 have c7:=Jny d6 T;have X:=makm dm af.1 af.2 eR fun f fd F=>Jno F T g c7;have c9:=Jjd d7 T R X;have aN:=Jnw d8 g;have de:=Jjq d9 g aN;have dd:=Jrs ck g aN c0 c1;have dc:=Jje cj g dd;have ad:=Jha ci;have r:Bas CX0 1 "Step" "__init__" ["self","winner","loser","times"] (J4q cs):=by obtain⟨_,_,F,b,e⟩:=eS;exact⟨_,_,_,e,aQ,Jnl F TS,b⟩
 have db:=makm aT N.1 N.2 a5 fun f fd F=>Jjs F r;have da:=makm aU O.1 O.2 a6 fun f fd F=>Jjw F r;have cZ:=makm aR L.1 L.2 a3 fun f fd F=>Jjh F r;have cY:=makm aP J.1 J.2 a2 fun f fd F=>Jj8 F r;have cX:=makm aS M.1 M.2 a4 fun f fd F=>Jjl F r;have cW:=makm aO I.1 I.2 a1 fun f fd F=>Jj6 F r;have aM:∀k,HasM P w K mg base CX0 1 "word" ["self"] (J4p k) (cs k):=fun k=>match k with|.ho=>hasm B.cl am fun f fd F=>Jjr F|.ev=>hasm D.cl an fun f fd F=>Jjv F|.ov=>hasm z.cl ak fun f fd F=>Jjg F|.un=>hasm y.cl aj fun f fd F=>Jj7 F|.os=>hasm A.cl al fun f fd F=>Jjk F|.us=>hasm u.cl ai fun f fd F=>Jj5 F
 have ac:∀k,HasM P w K mg base CX0 2 "losers" ["self","rest"] (J2w cs CR k) (cs k):=fun k=>match k with|.ho=>hasm B.cl az fun f fd F=>Jeb F|.ev=>hasm D.cl a0 fun f fd F=>J5u F TS (by decide)|.ov=>hasm z.cl ax fun f fd F=>J5u F TS (by decide)|.un=>hasm y.cl aw fun f fd F=>J5u F TS (by decide)|.os=>hasm A.cl ay fun f fd F=>Je9 F TS g ad|.us=>hasm u.cl av fun f fd F=>Je5 F TS g ad
 have cV:∀k,HasM P w K mg base CX0 1 "own_first" ["self"] (Jdq k) (cs k):=fun k=>match k with|.ho=>hasm B.cl as fun f fd F=>Jb5 F rfl|.ev=>hasm D.cl au fun f fd F=>Jo4 F|.ov=>hasm z.cl aq fun f fd F=>Jnq F|.un=>hasm y.cl ap fun f fd F=>Jb5 F rfl|.os=>hasm A.cl ar fun f fd F=>Jnt F|.us=>hasm u.cl ao fun f fd F=>Jb5 F rfl
 have aL:=Jnj ch g c7 ad;obtain⟨dN,dF,ds,dy,di,bc⟩:=cX;obtain⟨dK,dD,dr,dx,dh,bb⟩:=cZ;have cU:=Jnr cg g aL ds dy di bc dr dx dh bb;obtain⟨dM,dE,dp,dv,df,aZ⟩:=cW;obtain⟨dI,dC,dq,dw,dg,ba⟩:=cY;have cT:=Jj9 cf g aL dp dv df aZ dq dw dg ba;obtain⟨dO,dG,dt,dz,dj,bd⟩:=db;obtain⟨dP,dH,du,dA,dk,be⟩:=da;have cS:=Jrp ce g dt dz dj bd du dA dk be cU cT;have ab:=Jh3 cd;have aa:=ok_put cc ab;have G:=Jh9 cb T;have E:=Jnm ca g G;have Z:=Jja bZ g G;have cR:∀k,HasM P w K mg base CX0 4 "behind" ["self","rest"] (J38 cs CR k) (cs k):=fun k=>match k with|.ho=>hasm B.cl aB fun f fd F=>Jec F TS g ab G X|.ev=>hasm D.cl aD fun f fd F=>Jed F TS g ab aa G Z X|.ov=>hasm z.cl a9 fun f fd F=>Je8 F TS g aa E Z X|.un=>hasm y.cl a8 fun f fd F=>Je7 F TS g aa E Z X|.os=>hasm A.cl aA fun f fd F=>Jea F TS g c7 E X ac|.us=>hasm u.cl a7 fun f fd F=>Je6 F TS g c7 E X ac
 have cQ:=Jjt bY T R;have cP:=Jrh bX T a g TS ac;have cO:=Jjy bW g TS aM;have cN:=makm dn ag.1 ag.2 eH fun f fd F=>Jo5 F T g TS TH c9 cQ cS cR cO cP;have cM:=Jnn (C:=C) bU g TS TH;have cL:=Jru bT g TS TH cM cV dc de;have aK:=Jrx bS R g TS TH cL TO aM;have aJ:=Jns bR;have aI:=Jnx bQ aJ;have aH:=Jnp bP TH aK aI;have Y:=makm dl ae.1 ae.2 eW fun f fd F=>ok_sr F TW;have cK:=Jju bO TW;have cJ:=Jnz bN TW;have cI:=Jo2 bM U cK cJ;have cH:=Jnv bK TW q Y;have cG:=Jnk bJ R a Y;have cF:=Jh7 bI cI cH;have cE:Cal CX0 5 "line_of" ["stretches"] (Jao C CW TB "line_of.<locals>.<lambda>"):=by obtain⟨_,_,F,b,m,_,e,h⟩:=dB;exact⟨_,_,Jjp F T d TW e h (ah TB (by simp)) c6,b,m,F.kp⟩
 have cD:=Jjf bH TW S q Y;have cC:Cal CX0 5 "joined_stretches" ["ones","twos"] (Jdu CW TJ):=by obtain⟨_,_,F,b,m,_,e,h⟩:=dJ;exact⟨_,_,Jo0 F T d TW e h (ah TJ (by simp)) cD cF,b,m,F.kp⟩
 have cB:=Jjo bG T bg cE;have cA:=Jh8 bF R (by simpa using ne) cB cC cG;have cz:=Jro bE T q bh;have cy:=Jrl bD T;have aG:=Jni bC T c6;have cx:=makm aV Q.1 Q.2 eA fun f fd F=>Jjz F T TA cz cy aG cA cN;have cw:=ok_rob bB;have cv:=Jjc (C:=C) (CR:=CR) (cs:=cs) bA T d TH cw;have cu:=Jh6 b9;have ct:=Jnu b8 TA d cu aH;have cr:=Jjm b7 TA cv;have cq:=Jh4 b6 ct cr;have aF:=Jrv b5 T;have cp:=Jjx b4 T;have co:=Jh5 b3 T q;have cm:=Jhb b2 T aF cp co;have e1:=Jrw bu TH aK aI aJ;have e2:=Jrr b1 a;have e3:=ok_at b0 R e2;have e4:=Jrt bx R e3 c1;have e5:=Jjj bw e4 aG;have e6:=Jo6 (C:=C) (CH:=CH) (CR:=CR) (cs:=cs) bv TA e5;have e7:=ok_led bt e6;have e8:=Jo1 br TA e1;have e9:=Jjb bq TA aH e8 e7;have aE:=ok_tog bp e8 e7;have bl:=Jji bo;have bj:=ok_ask bn e9 aE;have bi:=Jrj bm TX bj;exact ok_law F T TX aF cm cx bl e9 cq aE bi
theorem lnk{K:Frag}{f C j:Addr}{p:Value}{o q:Option Addr}{g:Array (Option Value)}{kV h n e ct w:Value}{v:Option Addr}{nT:Nat}{m:Array (Option Value)}(a:findIn K (.ref C) "__init__"=some (some (.ref f)))(i:isFn K (.ref f)=true)(l:K.lookup f=some ⟨p,o,.func (fnOf "__init__" "Line.__init__" (J2p (Jc (top 21) 0)) (J1g (Jc (top 21) 0)) (Jd (Jc (top 21) 0)) (.ref j) kV h n q e ct),g⟩)(c:codeIn K e "Line.__init__"=true)(k:keepIn K (.ref f)=true)(r:K.lookup j=some ⟨w,v,.seq #[.none] nT,m⟩):LX K C (Jc (top 21) 0) :=
 ⟨f,_,j,⟨⟨p,o,kV,h,n,q,e,ct,g,rfl,l,c⟩,k⟩,fun s us X u=>by
  rw[append_nil] at u ⊢
  revert us
  exact usOf4 fun a b c d=>BindsTo.of_defaults (T:=j) rfl (X _ _ r) rfl rfl rfl,a,i,k⟩
theorem walk{l:PySem.W.OpenLaw}{q:Program}{b:List Str}{y:(Str->Option Value)->Heap->Prop}{j:World->Heap->Prop}{d:DefRec}{K:Params->Frag}{TB TJ:Addr}(m:l.most=some 63)(e:d.params.defaults=[])(p:∀(w:World) (h:Heap),j w h->(K w.params).In h/\∀P∈[TB,TJ],h.get? P=some (PySem.W.tabObj #[]))(v:∀(w:World),∀P∈[TB,TJ],(K w.params).lookup P=none)(F:∀(w:World) (mg:Str->Option Value) (i:Addr) (h:Heap),(K w.params).In h->h.Ns mainGlobals mg->mg d.name=some (.ref i)->
   (∀P∈[TB,TJ],∃c,PySem.W.codeHdIn (K w.params) c P=true)/\∃fd:FuncData,(∀(s:Shared) (u:Value),BindsTo s fd ⟨[u],[]⟩ [("script",u)])/\∀base:Heap,(K w.params).In base->base.Ns mainGlobals mg->(∀P∈[TB,TJ],Jbr base mg P)->FnOk l.prog w (K w.params) mg base CX0 12 i fd ["script"] (Jma (K w.params) TB TJ)):
  PySem.W.WalkO q b y j l.row.toRowW d [] (fun f vs=>PySem.call f vs):=
 L2.walk_ofU (n:=63) (k:=12) (x:="script") (CX:=fun _=>CX0) (sp:=fun w=>Jma (K w.params) TB TJ) (Ps:=[TB,TJ]) m (by decide) e ⟨rfl,by decide,by decide⟩ p v F (fun _ _ a ns o g r=>⟨a,ns,rfl,r,o,J24.empty (g TB (by simp)),J24.empty (g TJ (by simp)),fun _=>rfl⟩) fun _ _ _ _ _ z=>z
end R56
open PySem PySem.W PyProof.Rows
structure PySem.W.Fast:Prop where(tw3084333209530055356 tw1767314218834178669 tw12248836459866276949 tw756500691867306380 tw13797768694845681712 tw11427032897052076786 tw13137054367523083528 tw18439331656491976378 tw6878489673328973797 tw16560310906928421389 tw2638626721198290411 tw9162317014364420635 tw2760976555600140319 tw17091326481565170107 tw7264545284542570033 tw9800287970025398562 tw3766733283630672753 tw8452889242405429570 tw6639772038994180446 tw9292727130527797168 tw9513148093632832752 tw1762849799236838209 tw17709113899919906940 tw16201958484434598952 tw5144604856480536712 tw18334307766474481981 tw1974126642100860988 tw6692606487269723641 tw17014500912428218067 tw4771097767295749531 tw166902365029790046 tw11223583103880494631 tw7580911078042098958 tw2833417010561189069 tw11728178922556881628 tw16429988506697075003 tw14800154837580870311 tw16133183864613557038 tw14472812621472636349 tw16123219926345241963 tw5979195101001926861 tw17729720814703219343 tw13961507756012487511 tw14496306376899796977 tw8713288543781970747 tw10174522612051665656 tw11697871227765538909 tw10979668038052352303 tw3086485050023044838 tw10731859083881599699 tw3336873310752339281 tw5394486422440070347 tw392368593145576352 tw4594333477176269800 tw5859558871940386887 tw14346771387384743783 tw5715995441778571348 tw14231382434729627560 tw14792603353424631960 tw6916398524671180542 tw15455943167336811492 tw4502135597737370577 tw18406183386612599963 tw18134902600755537820 tw11933167587255254510 tw17861366474230921299 tw14710095537918636486 tw1499983882914069371 tw4278700575892200022 tw3456376429927590652 tw13842341687770485645 tw17771727681213716276 tw4441044244785384317 tw16203171457913142853 tw9450141626397156053 tw16280268360492578885 tw7963814756714491605 tw17272790869881502377 tw14014728502826945381 tw4183015682442217993 tw12669234122249991643 tw4844431016090451845 tw10543924699290290023 tw15760336958342865626 tw6640974765888375135 tw15614008719978020452 tw1109103213023191539 tw13384642273227038915 tw3699116086175616778 tw6693428228090285305 tw2952563347500707768 tw8053369863272454659 tw2300591734241039528 tw7957229401206344680 tw5778948783362299418 tw1730079821797579518 tw3184162540512733152 tw12791364305924849518 tw14878410128872648684 tw9933044889184112286 tw6557306597379353098 tw1609485334643595996 tw2070632260152942670 tw7588177669989272569 tw10915835187451855932 tw15435172678592432220 tw5427425737114900643 tw10726919900151442617 tw10380978689178429947 tw3214195965668500567 tw799340816866158309 tw8031352899580347984 tw5823984492017612579 tw16650817735740383009 tw7050642444792644165 tw2675651935618638958 tw6081853902428494444 tw10561783524966603321 tw2357584133357985711 tw10704383564836686287 tw1730900457497924107 tw2783238479972057232 tw13805417269232101831 tw15105042727572024514 tw15869409980958503938 tw16523113464010996863 tw16072839221883743269 tw1061341100064224078 tw384172358652451221 tw9417729732027665796 tw6777479003587556061 tw15366476023141968327 tw11520231420113273242 tw2132163005941590514 tw11446100589399208956 tw16027054632799486187 tw13618670555056658447 tw17810798098559616091 tw7301970467994241873 tw6820503942951336311 tw18312396630740631409 tw7124460028664633448 tw18324280021522149641 tw11457164283660189126 tw295804962236376668 tw8807102917801308750 tw5802066482877539182 tw8878569591539004051 tw3841268878173948542 tw16890393176618927196 tw13878748785681674424 tw14188193936109596472 tw17232890398757007197 tw6085717210400931212 tw8472461412609272815 tw6193641866049002985 tw4197123556375221781 tw9401516721206757436 tw8470256918847430798 tw5062254079382764967 tw12047067577097253099 tw1163098025343467927 tw16261396080838724387 tw2717313341042401192 tw3157211281533011394 tw10066110006693284765 tw14066943084592179867 tw8828550647714321528 tw9414174584890497390 tw14873672011734764058 tw15301982062182978405 tw6447248309362177741 tw7099455522878350269 tw5056471521781737368 tw8116349303653927212 tw15361615972111745352 tw15305128042177225846 tw9076810578422627673 tw1654217937340402103 tw10509517672904552328 tw8955336995932705393 tw2557417938916256199 tw5518844131210736967 tw16315973786807937807 tw14935453739478157193 tw8034684917492933479 tw16223110894103652389 tw10848739891370759807 tw6687510302117762267 tw11074355467158767989 tw3024263261852069241 tw2743067977997927253 tw12954429010075673620 tw3982362460635125943 tw15576135806560624958 tw11458038039052113964 tw15265221892047505007 tw371949942321604056 tw4230859342930198147 tw14311475142260257342 tw7157840273925216119 tw4828953284564029282 tw9359814284414078640 tw4386355621490689324 tw6853401578510836020 tw3681508970057597580 tw17929484736270109283 tw6545644371456290280 tw1573839591009043193 tw8834158989503425182 tw10257627332373023048 tw4928726338212035395 tw17957912963505112715 tw11201489625478911955 tw18014246852837622580 tw15027677196093979834 tw13953832240933309477 tw17984450340194537100 tw444175311930174172 tw3668683522908909626 tw11657652192206285106 tw7270879711096514848 tw16166468426682298301 tw15806137211973479091 tw12276422696010144899 tw14277505142372838654 tw9939870998771219289 tw13385239682372585010 tw7328826932087974560 tw7025169874047513562 tw1801775044246210174 tw4087104406845296833 tw1147488027866148535 tw15140363951583940698 tw6769049458400732547 tw6217487333924665626 tw6811037553170413393 tw17457976210582786467 tw6384618389534673281 tw14711288962021761996 tw15965005520510496347 tw11757592831563453137 tw8993780294700595507 tw15592055635312909732 tw1292710861564026247 tw7508724379595848786 tw2992484527203912082 tw16429402348676486864 tw1993572245808622480 tw11063127482045838969 tw11339690059826950300 tw16299097971136094548 tw12186320041466201305 tw17409750386815467474 tw14595523094860579715 tw6294644017847641688 tw18001529943613173287 tw11305449180459069378 tw3580256910227076689 tw12781569284017398911 tw12780834577997707362 tw9794781022761218761 tw3623146630355000951 tw2534589985159735569 tw2108544949238211234 tw7996264198479202132 tw2786597767233950682 tw603112948116539420 tw14464147230428244856 tw7373109861588690417 tw15543604680618109439 tw1480148237213223936 tw17282242576418734535 tw50660220735138732 tw8748713903583272918 tw5174699339639692185 tw2491749124287823793 tw9023716031922670455 tw14086147891028530123 tw5160166260127375671 tw11426690780187451826 tw10627187315786164353 tw4690585065538976882 tw16896596304743022833 tw7497516366682994865 tw8351391281187503937 tw9791901179427625494 tw7678570811867412318 tw4352191331643555261 tw17357808610126344122 tw11540631922854073110 tw4365154168013627829 tw6396294340069368668 tw9070352442751416067 tw11505546789558334718 tw4454672541110893030 tw12067694680911853691 tw14627526077767548475 tw8466087360086598836 tw11351375111073436087 tw9034637547313374630 tw7540203651483712406 tw7013348234234791941 tw5448917787060941187 tw4376594356260191135 tw4463804758590743756 tw832836714029160508 tw12190888710607873950 tw12784649538317300514 tw5378848321411071959 tw9175746237049105614 tw17943950442567322372 tw15445463000726666284 tw3955733909115948339 tw9106358326757001627 tw757705183677819134 tw17003365005514704687 tw17432131037395988304 tw2918051775211078947 tw3890017288225747623 tw11830927391215191697 tw6998646483288114844 tw11101036221889541022 tw7971016423987826897 tw5836883625946095144 tw3622812326375391459 tw15979427015509191042 tw7384486738102002815 tw6581234284247971764 tw5167359079527559875 tw5055319747249862889 tw16295979419661983368 tw7477492455484823953 tw14689083941492987398 tw1911223607944968252 tw5107256635614104719 tw11469037048965169974 tw1941018441732023806 tw17521473582136223086 tw11710748717418064323 tw16770963134083825170 tw7877834781871671820 tw14570702554195275323 tw10477036996796841408 tw12844844043686293756 tw12557133089818682700 tw14810984531152431934 tw15113026964823090109 tw1943252959389037736 tw2480772769403878014 tw12020872812768582589 tw4986512207014170333 tw14882543607902993549 tw16665627596758950902 tw6594055459074652332 tw8444847232676646205 tw6313911950205587696 tw4253767531554691487 tw12629732540991080922 tw1202975090405052801 tw15679049515999670088 tw11950661349680569160 tw17699476871521402173 tw5339046935088673116 tw14144975558758608871 tw17781310388677638333 tw9916827905329135098 tw13221983169613929553 tw5773875440479176639 tw5164932281724333433 tw10622055157897253420 tw12974558981043228317 tw3662104752045870626 tw2970548680796578315 tw8915755810638438918 tw14505563578146937400 tw13421727723895895415 tw17762379271538144865 tw4577164762729394894 tw15130615062754434574 tw8621646049600804649 tw7782986891750666587 tw4307345197959082375 tw8980835296462193840 tw1306164092139187324 tw8362491910401188741 tw15753187659851733404 tw6250050800566887461 tw11542611548922950410 tw12853234561741236311 tw12332891335475742417 tw2059700643989526394 tw13095149665589266327 tw6553176204218210672 tw11226761912982211535 tw13495530576022337853 tw3846424427775717146 tw11858718173945822879 tw8429092836942664844 tw10544617966366687894 tw6063090496858021129 tw14415908384811899473 tw11368085215170510850 tw9204956204006785210 tw15567669817077357951 tw663875654854867695 tw17723897023265679040 tw9499442019150792870 tw3823567864971809450 tw17687560103777168875 tw2725237821714002016 tw289433099484781012 tw2553736432453844067 tw16331177936005903496 tw13915888015816641763 tw1450355611549533928 tw12278668197009133034 tw13627965351476003669 tw2395105765775667203 tw4127468156113059843 tw8585500546652404719 tw18379228077798091255 tw3313699439757946567 tw716093201411712048 tw5212114761549964571 tw8880522180923272729 tw16568692046643453196 tw4804414205697699394 tw4151479145916333574 tw8044504369643804488 tw1963051551455619662 tw1983584182490742915 tw7950849094704187590 tw14342659480050807285 tw2103283838789510922 tw8376857237684010716 tw7191617399882107594 tw15643166995722735817 tw14669333259291990796 tw11158779204870465924 tw10735836688984768455 tw16983343666995131389 tw5656179295823935802 tw11400490888767447521 tw4660845316390018236 tw10642455324246899771 tw3202196286842135302 tw11523784469607855997 tw9676957002690493037 tw489171827736315988 tw6653775640994847153 tw7895378365126332041 tw9263318667644450674 tw5756446534529412802 tw14739902334356992744 tw10182423388902605486 tw5301190271358268716 tw5399763611061512990 tw6152819934679314993 tw10656217132794287097 tw16815552938696685179 tw13636999555805171555 tw4816717898385630512 tw3993008694045887516 tw4955263976381707919 tw2950351007679768901 tw12850251469508745698 tw5460267860875949195 tw9504723878866903746 tw18403844888503647463 tw14787248836915318514 tw10252733864219094582 tw15584935388748766248 tw13488028730452314170 tw18366920473821880641 tw11504258732212260511 tw12160503563445391354 tw17883884856966309368 tw9274445103044454306 tw413838545848626660 tw17954323779469943570 tw13734525634511395526 tw11229786876726495979 tw10030105465041583218 tw616710689890041298 tw5688872932325399610 tw13816609802279668375 tw7016408345690693049 tw11432734757186573802 tw151813629502306528 tw791999197680654930 tw10548490106957719310 tw719586511341918601 tw16923328185462708497 tw12568431177197424817 tw13619688521537652319 tw9185863244748059105 tw7214346707534219010 tw2245075626879777940 tw1689604681760698556 tw9320994765215359123 tw12937985083743458624 tw6778741735018559023 tw10848659430686557650 tw7907296474726707323 tw13995227894442828083 tw10714936154197372305 tw14015612889047817907 tw5723817487658737308 tw9541166899997537913 tw13543605477918903249 tw7682851231122552434 tw113219834690047170 tw17555859336685162201 tw4464711285295929300 tw10117969538879291923 tw9205558459941024726 tw7687231902331368938 tw14460667404815674128 tw7060564875709976985 tw12103207889053280290 tw12819189350204716309 tw11345421722846867324 tw13308496580755595254 tw13134479893996022318 tw9909435303521389333 tw9506430110153858605 tw14274126817031061158 tw5234530312971631424 tw16388590704095022789 tw15154076929305903712 tw8206723845159759266 tw496738768536595324 tw6941031714115810015 tw368490253460518320 tw14017703554232965936 tw17202713630807438811 tw7185985951652355071 tw8622289919379655969 tw9189543449539495540 tw3530026013578126650 tw11205796140534021272 tw210180576401166751 tw16114456633317508673 tw7883733944262228947 tw979159157049251691 tw9550890047388731583 tw12789936048709993095 tw5919097159728444332 tw13774067037825291408 tw978394033912088504 tw12383448255055621028 tw16101473541418414614 tw3155223350732761437 tw10420925933919587365 tw16251910637931230895 tw11603804683201427084 tw7407301533469650664 tw11644756637426812256 tw5323210183650450932 tw13410371441026560683 tw6444090583260675358 tw2862302671006263912 tw13028149333312407072 tw7730950158063416674 tw16686329882570406289 tw14805357208325220074 tw13282664265325188771 tw16547227100450515190 tw12636831418161178547 tw6261549222114315179 tw2846563665697970078 tw6372570276825244382 tw7521639122680144970 tw16114908108553674993 tw4178933559048980133 tw5017093297620555801 tw2802032178533185974 tw10925454517126055528 tw9945186285253099122 tw3140457322215876882 tw11783133267232995719 tw11197708840539095785 tw6955794552173857408 tw6655322322485297786 tw14374066501236832731 tw6798024653658005125 tw4405479847581510062 tw3812068378524932967 tw12839450945104360988 tw12342279560773716927 tw6245049679057961833 tw16341867780555534639 tw13798914745159640772 tw18272353247195495137 tw3594486974505637882 tw9841645191593209108 tw1617351926248640085 tw7693915004473094630 tw18387979964600675766:True)
set_option maxRecDepth 100000 in
set_option maxHeartbeats 0 in
theorem PySem.Challenge.cw_relaid_k56_whole_one_strand_holds : PySem.Challenge.rw_relaid_k56_whole_one_strand.Holds := by
  w_on; o_law; k_head; (case hw => w_witness2)
  k_fill
  refine R56.walk (l:= PySem.Challenge.rw_relaid_k56_whole_one_strand) rfl rfl (fun w h Y => ⟨PySem.W.km_in_of Y, PySem.W.km_tabs_of Y⟩) ?P ?F
  case P =>
    intro w P hP;simp only [List.mem_cons, List.not_mem_nil, or_false] at hP;rcases hP with rfl | rfl
    all_goals kernel_rfl
  case F =>
    intro w mg fa h KX G hmg;apply R56.law_ok hmg
    iterate 14 exact PySem.W.mg_of KX G (by k_is)
    iterate 5 exact PySem.W.mg_none_of KX G (by k_is)
    · constructor <;> exact PySem.W.mg_none_of KX G (by k_is)
    · exact ⟨PySem.W.mg_none_of KX G (by k_is), PySem.W.mg_none_of KX G (by k_is), PySem.W.mg_none_of KX G (by k_is), PySem.W.mg_none_of KX G (by k_is), PySem.W.mg_none_of KX G (by k_is), PySem.W.mg_none_of KX G (by k_is), PySem.W.mg_none_of KX G (by k_is), _, PySem.W.mg_of KX G (by k_is)⟩
    · exact ⟨PySem.W.mg_none_of KX G (by k_is), PySem.W.mg_none_of KX G (by k_is), PySem.W.mg_of KX G (by k_is), PySem.W.mg_of KX G (by k_is), by kts_exm, ⟨by k_is, by k_is, by k_is, by k_is, by k_is, by k_is, by k_is, by k_is⟩, by kit_is⟩
    · exact ⟨PySem.W.mg_of KX G (by k_is), by k_exc⟩
    iterate 11 focus (constructor; exact L2.clk (by k_is) (by k_is) (by k_is) (by k_is); all_goals (show _ = _; k_is))
    iterate 11 exact ⟨by k_is, by k_is⟩
    iterate 66 exact L2.fnk KX G (by k_is) (by k_is) (by k_is) (by k_is) (by first | exact L2.usOf1 fun _ => rfl | exact L2.usOf2 fun _ _ => rfl | exact L2.usOf3 fun _ _ _ => rfl | exact L2.usOf4 fun _ _ _ _ => rfl)
    iterate 34 exact L2.mek (by k_is) (by k_is) (by k_is) (by k_is) (by k_is) (by first | exact L2.usOf1 fun _ => rfl | exact L2.usOf2 fun _ _ => rfl | exact L2.usOf3 fun _ _ _ => rfl | exact L2.usOf4 fun _ _ _ _ => rfl | exact L2.usOf5 fun _ _ _ _ _ => rfl)
    · exact L2.bsk (by k_is) (by k_is) (by k_is) (by k_is) (by k_is) (by k_is) (L2.usOf4 fun _ _ _ _ => rfl)
    · exact R56.lnk (by k_is) (by k_is) (by k_is) (by k_is) (by k_is) (by k_is)
    · exact L2.ftk KX G (by k_is) (by k_is) (by k_is) (by k_is) (L2.usOf1 fun _ => rfl) (by kernel_rfl)
    · exact L2.ftk KX G (by k_is) (by k_is) (by k_is) (by k_is) (L2.usOf2 fun _ _ => rfl) (by kernel_rfl)
    · exact L2.flk KX G (by k_is) (by k_is) (by k_is) (by k_is) fun _ => rfl
    · rfl
#print axioms PySem.Challenge.cw_relaid_k56_whole_one_strand_holds
