import PyProof.Rows.All
import Wide.All
import OpenK.AllK
import Wide.FinOn
import Lean
import PyProof.EqAt
import PyProof.EqKinds
import PyProof.TupleCall
import KE.KSortKey
import KE.KLam
import KE.KNestM
import PySem.Challenge.RW_relaid_k52_along_an_arch
open PySem.Heap (get?_push_of_some get?_push_size lt_size)
open PySem.W (callWith_K codeIn emptyDict excIn exmOne findCls findIn fnOf handedIn hasDictIn hideAll instObj isFn keepIn kia_one kitOne lookIn makesIn methodCall_KW methodObj mg_none_of mg_of mroIn nsIn of_hideAll plainGet plainGet_of plainOver readsIn specialIn takerIn takesIn)
open List (all_eq_true append_nil ext_getElem? filter_cons flatten_cons foldl getD_eq_getElem?_getD getElem?_append_left getElem?_append_right getElem?_eq_none getElem?_map getElem?_range getElem?_set_ne getElem?_set_self getElem_idxOf idxOf_lt_length_iff length_append length_cons length_drop length_map length_range length_replicate length_set length_take map_append map_cons map_map map_nil mem_append mem_append_right mem_cons mem_cons_of_mem mem_cons_self mem_filter mem_map mem_of_getElem? mem_range mem_singleton nil_append nodup_cons not_mem_nil pairwise_cons pairwise_map replicate_succ size_toArray sum_append sum_cons sum_nil take_append_drop take_length)
open Array (length_toList)
open PyProof.Rows (boot_abs boot_isinstance boot_list boot_min boot_sum boot_tuple callWith_type1)
open PySem (boot_len mem_of_lookup)
set_option Elab.async false
set_option linter.all false
set_option maxRecDepth 100000
set_option maxHeartbeats 4000000
namespace L2
open PySem PySem.Spec PyProof.Rows
abbrev Key:=Sum Int Str
def keyIs:Key->Value->Bool
 | .inl k,v=>Value.isInt k v
 | .inr x,v=>Value.isStrOf x v
def keyH (w:World):Key->Int
 | .inl k=>hashInt k
 | .inr x=>hashStr w x
theorem J10:∀ {k:Key} {v:Value},keyIs k v=true->(∃ i t,k=Sum.inl i/\v=Value.int i t)\/(∃ x t,k=Sum.inr x/\v=Value.str x t)
 | .inl i,v,h=>by
  obtain ⟨t,e⟩:=Value.isInt_shape (k:=i) (v:=v) h;exact .inl ⟨i,t,rfl,e⟩
 | .inr x,v,h=>by
  obtain ⟨t,e⟩:=Value.isStrOf_shape (x:=x) (v:=v) h;exact .inr ⟨x,t,rfl,e⟩
theorem key_ll (a b:Int):decide ((Sum.inl a:Key)=Sum.inl b)=(a == b):=by
 by_cases e:a=b
 ·subst e;simp
 ·have h:¬ (Sum.inl a:Key)=Sum.inl b:=fun q=>e (Sum.inl.inj q);rw [decide_eq_false h];exact (beq_eq_false_iff_ne.mpr e).symm
theorem key_rr (a b:Str):decide ((Sum.inr a:Key)=Sum.inr b)=decide (a=b):=by
 by_cases e:a=b
 ·subst e;simp
 ·have h:¬ (Sum.inr a:Key)=Sum.inr b:=fun q=>e (Sum.inr.inj q);rw [decide_eq_false h,decide_eq_false e]
theorem key_lr (a:Int) (b:Str):decide ((Sum.inl a:Key)=Sum.inr b)=false:=decide_eq_false (fun q=>nomatch q)
theorem key_rl (a:Str) (b:Int):decide ((Sum.inr a:Key)=Sum.inl b)=false:=decide_eq_false (fun q=>nomatch q)
def mixKind (prog:Program) (w:World):PySem.KeyKind prog w Key where
 is:=keyIs
 hash:=keyH w
 inj:=fun v a b ha hb=>by
  rcases J10 ha with ⟨i,t,rfl,rfl⟩ | ⟨x,t,rfl,rfl⟩
  ·rcases J10 hb with ⟨j,u,rfl,e⟩ | ⟨y,u,rfl,e⟩
   ·injection e with e1 _;rw [e1]
   ·exact nomatch e
  ·rcases J10 hb with ⟨j,u,rfl,e⟩ | ⟨y,u,rfl,e⟩
   ·exact nomatch e
   ·injection e with e1 _;rw [e1]
 byValue:=fun k v h=>by
  rcases J10 h with ⟨i,t,rfl,rfl⟩ | ⟨x,t,rfl,rfl⟩ <;> rfl
 pyHash:=fun hv h=>by
  rcases J10 hv with ⟨i,t,rfl,rfl⟩ | ⟨x,t,rfl,rfl⟩
  ·exact wpAny_pyHash_int h
  ·exact wpAny_pyHash_str h
 eqBool:=fun hu hv h=>by
  rcases J10 hu with ⟨i,t,rfl,rfl⟩ | ⟨x,t,rfl,rfl⟩
  ·rcases J10 hv with ⟨j,u,rfl,rfl⟩ | ⟨y,u,rfl,rfl⟩
   ·rw [key_ll] at h;exact wpAny_eqBool_int h
   ·rw [key_lr] at h;exact SeqAt.EqAt.int_str i t y u _ _ _ _ h
  ·rcases J10 hv with ⟨j,u,rfl,rfl⟩ | ⟨y,u,rfl,rfl⟩
   ·rw [key_rl] at h;exact SeqAt.EqAt.str_int x t j u _ _ _ _ h
   ·rw [key_rr] at h;exact wpAny_eqBool_str h
 «strs»:=fun k x t v h=>by
  rcases J10 h with ⟨i,u,rfl,e⟩ | ⟨y,u,rfl,e⟩
  ·exact nomatch e
  ·injection e with e1 _
   subst e1;cases v <;> rfl
end L2
namespace L2
open PySem PySem.Spec PyProof.Rows
inductive V where
 | non | bl (b:Bool) | int (i:Int) | str (x:Str) | byt (b:Array UInt8) | flt (b:UInt64) | ref (a:Addr) | ty (n:String)
 deriving DecidableEq
def RelV:V->Value->Prop
 | .non,u=>u=Value.none
 | .bl b,u=>u=Value.bool b
 | .int i,u=>∃ t,u=Value.int i t
 | .str x,u=>∃ t,u=Value.str x t
 | .byt b,u=>∃ t,u=Value.bytes b t
 | .flt b,u=>∃ t,u=Value.float b t
 | .ref a,u=>u=Value.ref a
 | .ty n,u=>u=Value.type n
abbrev Vals:List V->List Value->Prop:=Paired RelV
theorem Vals.length {xs:List V} {us:List Value} (r:Vals xs us):xs.length=us.length:=Paired.length r
theorem Vals.get:∀ {xs:List V} {us:List Value} {i:Nat} {x:V},Vals xs us->xs[i]?=some x->∃ u,us[i]?=some u/\RelV x u
 | _,_,_,_,.nil,e=>by simp at e
 | _,_,0,_,.cons r _,e=>by simp at e;subst e;exact ⟨_,rfl,r⟩
 | _,_,i + 1,x,.cons _ t,e=>by
  obtain ⟨u,h1,h2⟩:=Vals.get (i:=i) (x:=x) t (by simpa using e);exact ⟨u,by simpa using h1,h2⟩
theorem Vals.set {x:V} {u:Value} (r:RelV x u):∀ {xs:List V} {us:List Value} (i:Nat),Vals xs us->Vals (xs.set i x) (us.set i u)
 | _,_,_,.nil=>.nil
 | _,_,0,.cons _ t=>.cons r t
 | _,_,i + 1,.cons q t=>.cons q (Vals.set r i t)
theorem Vals.append:∀ {xs ys:List V} {us ws:List Value},Vals xs us->Vals ys ws->Vals (xs ++ ys) (us ++ ws)
 | _,_,_,_,.nil,s=>s
 | _,_,_,_,.cons r t,s=>.cons r (Vals.append t s)
theorem Vals.take:∀ {xs:List V} {us:List Value} (n:Nat),Vals xs us->Vals (xs.take n) (us.take n)
 | _,_,0,_=>.nil
 | _,_,_ + 1,.nil=>.nil
 | _,_,n + 1,.cons r t=>.cons r (Vals.take n t)
theorem Vals.drop:∀ {xs:List V} {us:List Value} (n:Nat),Vals xs us->Vals (xs.drop n) (us.drop n)
 | _,_,0,r=>r
 | _,_,_ + 1,.nil=>.nil
 | _,_,n + 1,.cons _ t=>Vals.drop n t
def RelO:Option V->Option Value->Prop
 | some v,some u=>RelV v u
 | none,none=>True
 | _,_=>False
def KV {κ:Type}:List (κ × V)->List (κ × Value)->Prop:=Paired fun (p:κ × V) (q:κ × Value)=>p.1=q.1/\RelV p.2 q.2
def kV:Key->V
 | .inl i=>.int i
 | .inr x=>.str x
inductive HO where
  | lst (xs:List V)
  | tup (xs:List V)
  | dK (kvs:List (Key × V)) | dT (kvs:List (List Key × V))
  | set (S:Int->Bool) (n:Nat)
  | ins (C dx:Addr) (fs:List (Str × V))
  | own (x:Addr)
  | xd (fs:List (Str × V))
  | met (f x:Addr)
  | rng (lo hi:Int)
  | frz (o:Obj) (u:HO)
  | tbl (ps:Array Value)
  | ext (φ:Heap->Prop)
abbrev Hp:=Addr->Option HO
def upd (H:Hp) (a:Addr) (o:HO):Hp:=fun b=>if b=a then some o else H b
theorem J2 {H:Hp} {a:Addr} {o:HO}:upd H a o a=some o:=by unfold upd;rw [if_pos rfl]
theorem Jb {H:Hp} {a b:Addr} {o:HO} (h:b≠a):upd H a o b=H b:=by unfold upd;rw [if_neg h]
theorem upd_upd {H:Hp} {a:Addr} {o u:HO}:upd (upd H a o) a u=upd H a u:=by
 funext b;unfold upd;split <;> rfl
theorem ne_of {H:Hp} {a b:Addr} {o u:HO} (h:H a=some o) (h':H b=some u) (d:o≠u):a≠b:=by
 intro e;subst e;rw [h] at h';exact d (Option.some.inj h')
theorem J8 {H:Hp} {a b:Addr} {o:HO} (h:H a=some o) (h':H b=none):a≠b:=by
 intro e;subst e;rw [h] at h';cases h'
section
variable (P:Program) (w:World)
def TupX (h:Heap) (a:Addr) (items:Array Value):Prop:=∃ o,h.get? a=some o/\(o.cls=.type "tuple"/\o.dict=none)/\∃ n,o.data=.seq items n
theorem TupX.tup {h:Heap} {a:Addr} {items:Array Value} (x:TupX h a items):IsTup h a items:=let ⟨o,e,c,r⟩:=x;⟨o,e,c.1,r⟩
theorem TupX.lt {h:Heap} {a:Addr} {items:Array Value} (x:TupX h a items):a < h.objs.size:=let ⟨_,e,_⟩:=x;lt_size e
theorem TupX.new (h:Heap) (items:Array Value):TupX (h.push { cls:=.type "tuple",data:=.seq items }) h.objs.size items:=⟨_,get?_push_size _ rfl,⟨rfl,rfl⟩,_,rfl⟩
def ObjOk (H:Hp) (h:Heap) (a:Addr):HO->Prop
 | .lst xs=>xs.length<=sizeLine/\∃ (its:List Value) (n:Nat),Vals xs its/\h.get? a=some { cls:=.type "list",data:=.seq its.toArray n }
 | .tup xs=>xs.length<=sizeLine/\∃ its:List Value,Vals xs its/\TupX h a its.toArray
 | .dK kvs=>kvs.length<=sizeLine/\(a == sysModules)=false/\∃ vs,KV kvs vs/\h.DictOf (mixKind P w) a vs
 | .dT kvs=>kvs.length<=sizeLine/\(a == sysModules)=false/\∃ xs:List (List Key × Addr × Value),
   Paired (fun (p:List Key × V) (q:List Key × Addr × Value)=>p.1=q.1/\H q.2.1=some (.tup (p.1.map kV))/\RelV p.2 q.2.2) kvs xs/\
   ∃ o es ep,h.get? a=some o/\o.ExactDict/\o.data=.dict es ep/\es.toList=xs.map (entryOfKey (tupleKind (mixKind P w)))/\(xs.map (·.1)).Nodup
 | .set S n=>h.SetOf (intKind P w) a S n
 | .ins C dx fs=>H dx=some (.own a)/\fs.length<=1000/\dx≠a/\h.get? a=some (instObj C dx)/\
   ∃ mA,h.Ns1 dx mA/\(∀ f,RelO (fs.lookup f) (mA f))/\PySem.Within mA (fs.map (·.1))
 | .own _=>∃ o,h.get? a=some o
 | .xd fs=>∃ mA,h.Ns1 a mA/\∀ f,RelO (fs.lookup f) (mA f)
 | .rng lo hi=>∃ t u v,h.get? a=some { cls:=.type "range",data:=.fields #[.int lo t,.int hi u,.int 1 v] }
 | .frz o u=>h.get? a=some o/\ObjOk H h a u
 | .tbl ps=>h.get? a=some { cls:=.none,data:=.fields ps }
 | .met f x=>h.get? a=some (methodObj (.ref f) (.ref x))
 | .ext φ=>φ h/\(∃ o,h.get? a=some o)/\∀ h1 h2:Heap,φ h1->(∀ o,h1.get? a=some o->h2.get? a=some o)->φ h2
def HOk (H:Hp) (h:Heap):Prop:=∀ a o,H a=some o->ObjOk P w H h a o
end
section
variable {P:Program} {w:World} {H H':Hp} {h h':Heap} {a:Addr} {o:HO}
theorem ObjOk.lt (x:ObjOk P w H h a o):a < h.objs.size:=by
 cases o with
 | lst xs=>obtain ⟨_,_,_,_,e⟩:=x;exact lt_size e
 | tup xs=>obtain ⟨_,_,_,p⟩:=x;exact p.lt
 | dK kvs=>obtain ⟨_,_,_,_,o,_,_,e,_⟩:=x;exact lt_size e
 | dT kvs=>obtain ⟨_,_,_,_,o,_,_,e,_⟩:=x;exact lt_size e
 | set S n=>obtain ⟨o,_,_,_,e,_⟩:=x;exact lt_size e
 | ins C dx fs=>obtain ⟨_,_,_,e,_⟩:=x;exact lt_size e
 | own y=>obtain ⟨_,e⟩:=x;exact lt_size e
 | xd fs=>obtain ⟨_,⟨_,_,_,e,_⟩,_⟩:=x;exact lt_size e
 | rng lo hi=>obtain ⟨_,_,_,e⟩:=x;exact lt_size e
 | frz ob u=>obtain ⟨e,_⟩:=x;exact lt_size e
 | tbl ps=>exact lt_size (show h.get? a=some _ from x)
 | met f y=>exact lt_size (show h.get? a=some _ from x)
 | ext φ=>obtain ⟨_,⟨_,e⟩,_⟩:=x;exact lt_size e
theorem Paired.mapP {α β:Type} {F G:α->β->Prop}:∀ {l₁:List α} {l₂:List β},Paired F l₁ l₂->(∀ a b,F a b->G a b)->Paired G l₁ l₂
 | _,_,.nil,_=>.nil
 | _,_,.cons r t,f=>.cons (f _ _ r) (Paired.mapP t f)
theorem ObjOk.stay (x:ObjOk P w H h a o) (k:∀ b u,(b=a\/H b=some (.own a))->h.get? b=some u->h'.get? b=some u)
  (ho:∀ b,H b=some (.own a)->H' b=some (.own a)) (ht:∀ b xs,H b=some (.tup xs)->H' b=some (.tup xs)):ObjOk P w H' h' a o:=by
 induction o with
 | lst xs=>obtain ⟨z,its,n,r,e⟩:=x;exact ⟨z,its,n,r,k _ _ (.inl rfl) e⟩
 | tup xs=>obtain ⟨z,its,r,ob,e,c⟩:=x;exact ⟨z,its,r,ob,k _ _ (.inl rfl) e,c⟩
 | dK kvs=>obtain ⟨z,y,vs,r,ob,es,ep,e,c⟩:=x;exact ⟨z,y,vs,r,ob,es,ep,k _ _ (.inl rfl) e,c⟩
 | dT kvs =>
  obtain ⟨z,y,xs,r,ob,es,ep,e,c⟩:=x;exact ⟨z,y,xs,Paired.mapP r fun p q z=>⟨z.1,ht _ _ z.2.1,z.2.2⟩,ob,es,ep,k _ _ (.inl rfl) e,c⟩
 | set S n=>obtain ⟨ob,es,ep,t,e,c⟩:=x;exact ⟨ob,es,ep,t,k _ _ (.inl rfl) e,c⟩
 | ins C dx fs =>
  obtain ⟨d,z,ne,e,mA,⟨od,es,ep,e2,c⟩,r⟩:=x;exact ⟨ho _ d,z,ne,k _ _ (.inl rfl) e,mA,⟨od,es,ep,k _ _ (.inr d) e2,c⟩,r⟩
 | own y=>obtain ⟨ob,e⟩:=x;exact ⟨ob,k _ _ (.inl rfl) e⟩
 | xd fs=>obtain ⟨mA,⟨od,es,ep,e,c⟩,r⟩:=x;exact ⟨mA,⟨od,es,ep,k _ _ (.inl rfl) e,c⟩,r⟩
 | rng lo hi=>obtain ⟨t,u,v,e⟩:=x;exact ⟨t,u,v,k _ _ (.inl rfl) e⟩
 | frz ob u ih=>obtain ⟨e,q⟩:=x;exact ⟨k _ _ (.inl rfl) e,ih q⟩
 | tbl ps =>
  have e:h.get? a=some { cls:=.none,data:=.fields ps }:=x;show h'.get? a=some { cls:=.none,data:=.fields ps };exact k a _ (.inl rfl) e
 | met f y =>
  have e:h.get? a=some (methodObj (.ref f) (.ref y)):=x;show h'.get? a=some (methodObj (.ref f) (.ref y));exact k a _ (.inl rfl) e
 | ext φ=>obtain ⟨p,⟨o,e⟩,st⟩:=x;exact ⟨st _ _ p fun o q=>k _ _ (.inl rfl) q,⟨o,k _ _ (.inl rfl) e⟩,st⟩
theorem HOk.lt (x:HOk P w H h) (e:H a=some o):a < h.objs.size:=(x a o e).lt
theorem HOk.fresh (x:HOk P w H h) (e:h.objs.size<=a):H a=none:=by
 cases q:H a with
 | none=>rfl
 | some u=>exact absurd (Nat.lt_of_lt_of_le (x.lt q) e) (Nat.lt_irrefl _)
theorem HOk.kept (x:HOk P w H h) (k:∀ b u,h.get? b=some u->h'.get? b=some u):HOk P w H h':=fun a o e =>
 (x a o e).stay (fun b u _ q=>k b u q) (fun _ q=>q) fun _ _ q=>q
theorem HOk.laid (x:HOk P w H h) (k:∀ b u,h.get? b=some u->h'.get? b=some u) (hp:h.objs.size<=a) (new:ObjOk P w (upd H a o) h' a o):HOk P w (upd H a o) h':=fun b u e=>by
 have hn:=x.fresh hp;by_cases hb:b=a
 ·subst hb;rw [J2] at e;cases e;exact new
 ·rw [Jb hb] at e;exact (x b u e).stay (fun c v _ q=>k c v q) (fun c q=>by rw [Jb (J8 q hn)];exact q) fun c xs q=>by rw [Jb (J8 q hn)];exact q
end
def Rd (H:Hp) (a:Addr) (u:HO):Prop:=H a=some u\/∃ o,H a=some (.frz o u)
theorem Rd.ok {P:Program} {w:World} {H:Hp} {h:Heap} {a:Addr} {u:HO} (r:Rd H a u) (x:HOk P w H h):ObjOk P w H h a u:=by
 rcases r with r | ⟨o,r⟩
 ·exact x a u r
 ·obtain ⟨_,q⟩:=x a _ r;exact q
def Mut:Option HO->Prop
 | some (.lst _)=>True
 | some (.dK _)=>True
 | some (.dT _)=>True
 | some (.set _ _)=>True
 | some (.ins _ _ _)=>True
 | some (.ext _)=>True
 | _=>False
section
variable {P:Program} {w:World} {H:Hp} {h h':Heap} {x e:Addr} {o':HO}
theorem HOk.write (ok:HOk P w H h) (mu:Mut (H x)) (he:e=x\/H e=some (.own x)) (k:∀ b u,b≠e->h.get? b=some u->h'.get? b=some u) (heo:∃ u,h'.get? e=some u)
  (new:ObjOk P w (upd H x o') h' x o'):HOk P w (upd H x o') h':=fun b u q=>by
 have nown:∀ c y,H c=some (.own y)->c≠x:=fun c y r z=>by subst z;rw [r] at mu;exact mu
 have ntup:∀ c xs,H c=some (.tup xs)->c≠x:=fun c xs r z=>by subst z;rw [r] at mu;exact mu
 by_cases hb:b=x
 ·subst hb;rw [J2] at q;cases q;exact new
 ·rw [Jb hb] at q;by_cases hbe:b=e
  ·have q':H b=some (.own x):=by
    rcases he with z | z
    ·exact absurd (hbe.trans z) hb
    ·rw [hbe];exact z
   rw [q] at q';cases q';obtain ⟨v,hv⟩:=heo;exact ⟨v,by rw [hbe];exact hv⟩
  ·refine (ok b u q).stay (fun c v hc r=>k c v ?_ r) (fun c r=>by rw [Jb (nown c b r)];exact r) fun c xs r=>by rw [Jb (ntup c xs r)];exact r
   rcases hc with rfl | hc
   ·exact hbe
   ·rintro rfl;rcases he with z | z
    ·exact nown c b hc z
    ·rw [hc] at z;cases z;exact hb rfl
end
structure Un (fs ex:List Addr) (H H':Hp) (h h':Heap):Prop where
 keep:∀ b o,h.get? b=some o->H b=none->b ∉ fs->b ∉ ex->h'.get? b=some o
 slot:∀ b o,h.get? b=some o->H b=none->b∈fs->b ∉ ex->∃ sl,h'.get? b=some { o with slots:=sl }
 free:∀ b o,h.get? b=some o->H b=none->b ∉ ex->H' b=none
 there:∀ b o,h.get? b=some o->b ∉ ex->∃ o',h'.get? b=some o'
 tups:∀ b xs,H b=some (.tup xs)->H' b=some (.tup xs)
 frzs:∀ b o u,H b=some (.frz o u)->H' b=some (.frz o u)
 tbls:∀ b ps,H b=some (.tbl ps)->∃ more,H' b=some (.tbl (ps ++ more))
section
variable {fs fs' ex ex':List Addr} {H H1 H2:Hp} {h h1 h2 h':Heap} {a x e:Addr} {o:HO}
theorem Un.any (u:Un fs ex H H1 h h1) {b:Addr} {ob:Obj} (q:h.get? b=some ob) (n:H b=none) (hx:b ∉ ex):∃ sl,h1.get? b=some { ob with slots:=sl }:=by
 by_cases hb:b∈fs
 ·exact u.slot b ob q n hb hx
 ·exact ⟨ob.slots,u.keep b ob q n hb hx⟩
theorem Un.kept (k:∀ b u,h.get? b=some u->h'.get? b=some u):Un fs ex H H h h' :=
 ⟨fun b ob q _ _ _=>k b ob q,fun b ob q _ _ _=>⟨ob.slots,k b ob q⟩,fun _ _ _ n _=>n,fun b ob q _=>⟨ob,k b ob q⟩,fun _ _ q=>q,fun _ _ _ q=>q,fun _ ps q=>⟨#[],by rw [q];simp⟩⟩
theorem Un.refl:Un fs ex H H h h:=Un.kept fun _ _ q=>q
theorem Un.laid (k:∀ b u,h.get? b=some u->h'.get? b=some u) (hp:h.objs.size<=a) (hn:H a=none):Un fs ex H (upd H a o) h h' where
 keep:=fun b u q _ _ _=>k b u q
 slot:=fun b u q _ _ _=>⟨u.slots,k b u q⟩
 free:=fun b u q n _=>by rw [Jb (Nat.ne_of_lt (Nat.lt_of_lt_of_le (lt_size q) hp))];exact n
 there:=fun b u q _=>⟨u,k b u q⟩
 tups:=fun b xs q=>by rw [Jb (J8 q hn)];exact q
 frzs:=fun b u xs q=>by rw [Jb (J8 q hn)];exact q
 tbls:=fun b ps q=>⟨#[],by rw [Jb (J8 q hn),q];simp⟩
theorem Un.write (mu:Mut (H x)) (he:e=x\/H e=some (.own x)) (k:∀ b u,b≠e->h.get? b=some u->h'.get? b=some u) (heo:∃ u,h'.get? e=some u):Un fs ex H (upd H x o) h h':=by
 have hx:∀ b,H b=none->b≠x:=fun b n z=>by subst z;rw [n] at mu;exact mu
 have hb:∀ b,H b=none->b≠e:=fun b n z=>by
  subst z;rcases he with r | r
  ·exact hx b n r
  ·rw [n] at r;cases r
 have hm:∀ b u,H b=some u->¬ Mut (some u)->b≠x:=fun b u q nm z=>by subst z;rw [q] at mu;exact nm mu
 refine ⟨fun b u q n _ _=>k b u (hb b n) q,fun b u q n _ _=>⟨u.slots,k b u (hb b n) q⟩,fun b u q n _=>by rw [Jb (hx b n)];exact n,fun b u q _=>?_,
  fun b xs q=>by rw [Jb (hm b _ q fun z=>z)];exact q,fun b u xs q=>by rw [Jb (hm b _ q fun z=>z)];exact q,fun b ps q=>⟨#[],by rw [Jb (hm b _ q fun z=>z),q];simp⟩⟩
 by_cases hbe:b=e
 ·subst hbe;exact heo
 ·exact ⟨u,k b u hbe q⟩
end
def trk (h:Heap) (H:Hp):List Addr:=(List.range h.objs.size).filter fun a=>(H a).isSome
def hidT (h:Heap) (H:Hp):Heap:=hideAll h (trk h H)
theorem hidT_size (h:Heap) (H:Hp):(hidT h H).objs.size=h.objs.size:=PySem.W.hideAll_size _ _
theorem J6d {h:Heap} {H:Hp} {b:Addr} {o:Obj} (e:h.get? b=some o) (n:H b=none):(hidT h H).get? b=some o :=
 PySem.W.hideAll_get _ e fun hm=>by
  have q:(H b).isSome=true:=(mem_filter.mp hm).2;rw [n] at q;simp at q
theorem of_hidT {h:Heap} {H:Hp} {b:Addr} {o:Obj} (e:(hidT h H).get? b=some o):h.get? b=some o/\H b=none:=by
 have e':h.get? b=some o:=of_hideAll (trk h H) e;refine ⟨e',?_⟩
 cases q:H b with
 | none=>rfl
 | some x =>
  have hm:b∈trk h H:=mem_filter.mpr ⟨mem_range.mpr (lt_size e'),by simp [q]⟩;have z:(hidT h H).get? b=none:=PySem.W.hideAll_none (trk h H) hm;rw [z] at e;cases e
end L2
namespace L2
open PySem PySem.Spec PyProof.Rows
structure Mod (K:PySem.W.Frag) (mg:Str->Option Value) (base:Heap):Prop where
 kin:K.In base
 glob:base.Ns mainGlobals mg
 blt:∃ mb,base.Ns builtinsNs mb/\∀ x:Str,x≠"__name__"->mb x=bootBuiltins x
 nolimit:base.NoLimit
structure Cx where
 prog:Program
 w:World
 K:PySem.W.Frag
 mg:Str->Option Value
 base:Heap
 A:Around
 N:List Str
 s₀:Shared
 H₀:Hp
 env:Env
 outer:List Env
 stack:List Env
 ex:List Addr
 fn:Str->Bool
 calm:Bool
 pn:List (Addr × Obj)
 xe:Value->Shared->Prop
def frs (l:List Env):List Addr:=l.filterMap (·.frame)
abbrev Cx.fs (X:Cx):List Addr:=frs X.outer
def Vis (sc:Scope) (x:Str):Prop:=sc.names.lookup x=some .local\/sc.names.lookup x=some .cell\/sc.names.lookup x=some .free
def Loc (sc:Scope) (x:Str):Prop:=sc.names.lookup x=some .local\/sc.names.lookup x=some .cell
def Look (env:Env) (h:Heap) (m:Str->Option Value) (x:Str) (u:Value):Prop :=
 (env.kindOf x=some .local/\m x=some u)\/((env.kindOf x=some .cell\/env.kindOf x=some .free)/\∃ c,env.cells.lookup x=some c/\h.IsCell c (some u))
structure Cx.Ok (X:Cx):Prop where
 mod:Mod X.K X.mg X.base
 kind:X.env.scope.kind=.function
 glob:X.env.globals=mainGlobals
 blt:X.env.builtins=builtinsNs
 above:X.s₀.heap.objs.size<=X.env.locals
 inj:∀ x y c,X.env.cells.lookup x=some c->X.env.cells.lookup y=some c->x=y
 has:∀ x,(X.env.kindOf x=some .cell\/X.env.kindOf x=some .free)->∃ c,X.env.cells.lookup x=some c
 cab:∀ x c,X.fn x=true->X.env.cells.lookup x=some c->X.s₀.heap.objs.size<=c
 hd:X.calm=true->X.A.handled=none
 frames:X.A.frames=some X.stack
 stk:X.stack=X.outer\/(X.stack=X.env :: X.outer/\X.env.frame=some X.env.locals)
 exf:∀ b∈X.ex,b≠X.env.locals/\∀ x c,X.env.cells.lookup x=some c->c≠b
 bs:∀ b o,X.base.get? b=some o->X.s₀.heap.get? b=some o/\X.H₀ b=none
 bsz:X.base.objs.size<=X.s₀.heap.objs.size
 noex:∀ b o,X.base.get? b=some o->b ∉ X.ex
 exfs:∀ b∈X.ex,b ∉ X.fs
 funs:X.s₀.heap.FunFrames X.base X.outer
 frf:∀ b∈X.fs,X.H₀ b=none
structure Inv (X:Cx) (pins:List (Addr × Obj)) (σ:List (Option V)) (H:Hp) (s:Shared):Prop where
 ok:X.Ok
 os:s.os=X.s₀.os
 bare:AllBare s.gens
 base:Un X.fs X.ex X.H₀ H X.s₀.heap s.heap
 loc:∃ m,s.heap.Ns X.env.locals m/\∀ (i:Nat) (x:Str) (v:V),X.N[i]?=some x->σ[i]?=some (some v)->Vis X.env.scope x->∃ u,RelV v u/\Look X.env s.heap m x u
 cell:∀ x c,X.env.cells.lookup x=some c->∃ v,s.heap.IsCell c v
 free:H X.env.locals=none
 freeC:∀ x c,X.env.cells.lookup x=some c->H c=none
 pin:∀ p∈X.pn ++ pins,s.heap.get? p.1=some p.2/\H p.1=none/\p.1≠X.env.locals/\p.1 ∉ X.fs/\∀ v,p.2.data≠.cell v
 hok:HOk X.prog X.w H s.heap
 len:σ.length=X.N.length
section
variable {X:Cx} {pins:List (Addr × Obj)} {σ:List (Option V)} {H H':Hp} {s:Shared} {h':Heap}
theorem Cx.Ok.nofr (ok:X.Ok) {b:Addr} {o:Obj} (e:X.base.get? b=some o):b ∉ X.fs:=fun hb=>by
 have:=(ok.funs.mem hb).1;rw [e] at this;cases this
theorem Inv.bs (I:Inv X pins σ H s):∀ b o,X.base.get? b=some o->s.heap.get? b=some o/\H b=none:=fun b o e =>
 ⟨I.base.keep b o (I.ok.bs b o e).1 (I.ok.bs b o e).2 (I.ok.nofr e) (I.ok.noex b o e),I.base.free b o (I.ok.bs b o e).1 (I.ok.bs b o e).2 (I.ok.noex b o e)⟩
theorem Inv.bk (I:Inv X pins σ H s):∀ b o,X.base.get? b=some o->s.heap.get? b=some o:=fun b o e=>(I.bs b o e).1
theorem Inv.mod (I:Inv X pins σ H s):Mod X.K X.mg X.base:=I.ok.mod
theorem Inv.kIn (I:Inv X pins σ H s):X.K.In s.heap:=I.ok.mod.kin.keeps I.bk
theorem Inv.fr (I:Inv X pins σ H s):∃ m,Fr X.base X.env.locals s.heap m :=
 let ⟨m,hn,_⟩:=I.loc
 ⟨m,hn,I.bk,Nat.le_trans I.ok.bsz I.ok.above⟩
theorem Inv.lt (I:Inv X pins σ H s):X.env.locals < s.heap.objs.size:=let ⟨_,hn,_⟩:=I.loc;hn.lt
theorem Inv.sz (I:Inv X pins σ H s):X.s₀.heap.objs.size<=s.heap.objs.size:=Nat.le_trans I.ok.above (Nat.le_of_lt I.lt)
theorem Inv.nofs (I:Inv X pins σ H s) {a:Addr} (h:s.heap.objs.size<=a):a ∉ X.fs:=fun hb=>by
 obtain ⟨_,o,ho,_⟩:=I.ok.funs.mem hb;exact absurd (Nat.lt_of_lt_of_le (lt_size ho) (Nat.le_trans I.sz h)) (Nat.lt_irrefl _)
theorem Inv.cne (I:Inv X pins σ H s):∀ x c,X.env.cells.lookup x=some c->c≠X.env.locals:=fun x c e z=>by
 obtain ⟨v,o,ho,hd⟩:=I.cell x c e;obtain ⟨m,⟨o',es,ep,ho',hd',_⟩,_⟩:=I.loc;rw [z,ho'] at ho;cases ho;rw [hd'] at hd;cases hd
theorem Inv.funs (I:Inv X pins σ H s):s.heap.FunFrames X.base X.outer:=by
 have all:∀ (l:List Env),(∀ b∈frs l,b∈X.fs)->X.s₀.heap.FunFrames X.base l->s.heap.FunFrames X.base l:=by
  intro l
  induction l with
  | nil=>intro _ _;trivial
  | cons env r ih =>
   intro hs hl;obtain ⟨hk,⟨L,o,hf,hn,ho,hd⟩,hr⟩:=hl;have hL:L∈X.fs:=hs L (by unfold frs;rw [List.filterMap_cons,hf];exact mem_cons_self);obtain ⟨sl,e⟩:=I.base.slot L o ho (I.ok.frf L hL) hL fun z=>I.ok.exfs L z hL;exact ⟨hk,⟨L,_,hf,hn,e,hd⟩,ih (fun b hb=>hs b (by unfold frs;rw [List.filterMap_cons,hf];exact mem_cons_of_mem _ hb)) hr⟩
 exact all X.outer (fun _ hb=>hb) I.ok.funs
theorem Inv.stack (I:Inv X pins σ H s):s.heap.FunFrames X.base X.stack:=by
 rcases I.ok.stk with e | ⟨e,hf⟩
 ·rw [e];exact I.funs
 ·rw [e];obtain ⟨m,hn,_⟩:=I.loc;refine .cons (by rw [I.ok.kind];decide) hf hn ?_ I.funs;exact Heap.get?_none_of_le (Nat.le_trans I.ok.bsz I.ok.above)
theorem Inv.stkSub (I:Inv X pins σ H s):∀ b∈frs X.stack,b∈X.env.locals :: X.fs:=fun b hb=>by
 rcases I.ok.stk with e | ⟨e,hf⟩
 ·rw [e] at hb;exact mem_cons_of_mem _ hb
 ·rw [e] at hb;unfold frs at hb;rw [List.filterMap_cons,hf] at hb;exact hb
theorem Inv.stkFree (I:Inv X pins σ H s):∀ b∈frs X.stack,H b=none:=fun b hb=>by
 rcases mem_cons.mp (I.stkSub b hb) with e | hb
 ·rw [e];exact I.free
 ·obtain ⟨_,o,ho,_⟩:=I.ok.funs.mem hb;exact I.base.free b o ho (I.ok.frf b hb) fun z=>I.ok.exfs b z hb
theorem Inv.step {g':Array GenState} {t':Nat} {d':Drawn} {ch:List Addr} (I:Inv X pins σ H s)
  (hch:∀ b∈ch,(b∈X.ex\/X.s₀.heap.objs.size<=b)/\b≠X.env.locals/\(∀ x c,X.env.cells.lookup x=some c->c≠b)/\∀ p∈X.pn ++ pins,p.1≠b)
  (keep:∀ b o,b≠X.env.locals->b ∉ X.fs->b ∉ ch->s.heap.get? b=some o->H b=none->h'.get? b=some o)
  (slot:∀ b o,b≠X.env.locals->b∈X.fs->b ∉ ch->s.heap.get? b=some o->H b=none->∃ sl,h'.get? b=some { o with slots:=sl }) (free:∀ b o,b ∉ ch->s.heap.get? b=some o->H b=none->H' b=none)
  (there:∀ b o,b ∉ ch->s.heap.get? b=some o->∃ o',h'.get? b=some o')
  (tups:∀ b xs,H b=some (.tup xs)->H' b=some (.tup xs)) (frzs:∀ b o u,H b=some (.frz o u)->H' b=some (.frz o u)) (tbls:∀ b ps,H b=some (.tbl ps)->∃ more,H' b=some (.tbl (ps ++ more)))
  (ns:∀ m,s.heap.Ns X.env.locals m->h'.Ns X.env.locals m) (hok:HOk X.prog X.w H' h') (hg:AllBare g') :
  Inv X pins σ H' { s with heap:=h',gens:=g',drawn:=d',toks:=t' }:=by
 have neL:∀ b o,X.s₀.heap.get? b=some o->b≠X.env.locals:=fun b o e=>Nat.ne_of_lt (Nat.lt_of_lt_of_le (lt_size e) I.ok.above);have neC:∀ b o,X.s₀.heap.get? b=some o->b ∉ X.ex->b ∉ ch:=fun b o e hx hb=>by
  rcases (hch b hb).1 with z | z
  ·exact hx z
  ·exact absurd (Nat.lt_of_lt_of_le (lt_size e) z) (Nat.lt_irrefl _)
 have cellK:∀ x c,X.env.cells.lookup x=some c->∀ v,s.heap.IsCell c v->h'.IsCell c v:=fun x c e v ⟨o,ho,hd⟩=>by
  have nch:c ∉ ch:=fun z=>(hch c z).2.2.1 x c e rfl;by_cases hc:c∈X.fs
  ·obtain ⟨sl,q⟩:=slot c o (I.cne x c e) hc nch ho (I.freeC x c e);exact ⟨_,q,hd⟩
  ·exact ⟨o,keep c o (I.cne x c e) hc nch ho (I.freeC x c e),hd⟩
 refine ⟨I.ok,I.os,hg,⟨fun b o e n hb hx=>?_,fun b o e n hb hx=>?_,fun b o e n hx=>?_,fun b o e hx=>?_,fun b xs e=>tups b xs (I.base.tups b xs e),fun b o xs e=>frzs b o xs (I.base.frzs b o xs e),fun b ps e=>?_⟩,?_,fun x c e=>?_,?_,fun x c e=>?_,fun p hp=>?_,hok,I.len⟩
 ·exact keep b o (neL b o e) hb (neC b o e hx) (I.base.keep b o e n hb hx) (I.base.free b o e n hx)
 ·obtain ⟨sl,e1⟩:=I.base.slot b o e n hb hx;obtain ⟨sl',e2⟩:=slot b _ (neL b o e) hb (neC b o e hx) e1 (I.base.free b o e n hx);exact ⟨sl',e2⟩
 ·obtain ⟨o',e1⟩:=I.base.there b o e hx;exact free b o' (neC b o e hx) e1 (I.base.free b o e n hx)
 ·obtain ⟨o',e1⟩:=I.base.there b o e hx;exact there b o' (neC b o e hx) e1
 ·obtain ⟨m1,e1⟩:=I.base.tbls b ps e;obtain ⟨m2,e2⟩:=tbls b _ e1;exact ⟨m1 ++ m2,by rw [e2,Array.append_assoc]⟩
 ·obtain ⟨m,hn,hl⟩:=I.loc;refine ⟨m,ns m hn,fun i x v e1 e2 e3=>?_⟩;obtain ⟨u,r,l⟩:=hl i x v e1 e2 e3;refine ⟨u,r,?_⟩;rcases l with l | ⟨k,c,e,z⟩
  ·exact .inl l
  ·exact .inr ⟨k,c,e,cellK x c e _ z⟩
 ·obtain ⟨v,z⟩:=I.cell x c e;exact ⟨v,cellK x c e v z⟩
 ·obtain ⟨m,⟨o,_,_,ho,_⟩,_⟩:=I.loc;exact free _ o (fun z=>(hch _ z).2.1 rfl) ho I.free
 ·obtain ⟨v,o,ho,hd⟩:=I.cell x c e;exact free c o (fun z=>(hch c z).2.2.1 x c e rfl) ho (I.freeC x c e)
 ·obtain ⟨e,n,ne,nf,d⟩:=I.pin p hp;have nch:p.1 ∉ ch:=fun z=>(hch p.1 z).2.2.2 p hp rfl;exact ⟨keep p.1 p.2 ne nf nch e n,free p.1 p.2 nch e n,ne,nf,d⟩
theorem Inv.un {t':Nat} (I:Inv X pins σ H s) (u:Un X.fs [] H H' s.heap h') (hok:HOk X.prog X.w H' h'):Inv X pins σ H' { s with heap:=h',toks:=t' }:=by
 obtain ⟨m,⟨o,es,ep,ho,r⟩,_⟩:=id I.loc;obtain ⟨sl,hL⟩:=u.any ho I.free (by simp);exact I.step (g':=s.gens) (d':=s.drawn) (ch:=[]) (fun _ z=>nomatch z) (fun b o _ hb _ e n=>u.keep b o e n hb (by simp)) (fun b o _ hb _ e n=>u.slot b o e n hb (by simp)) (fun b o _ e n=>u.free b o e n (by simp)) (fun b o _ e=>u.there b o e (by simp)) u.tups u.frzs u.tbls (fun m' hm=>by
  obtain ⟨o',es',ep',ho',r'⟩:=hm;rw [ho] at ho';cases ho';exact ⟨_,es',ep',hL,r'⟩) hok I.bare
theorem Inv.call {g':Array GenState} {t':Nat} {d':Drawn} {ch:List Addr} (I:Inv X pins σ H s) (u:Un (frs X.stack) ch H H' s.heap h') (hok:HOk X.prog X.w H' h') (hg:AllBare g')
  (hch:∀ b∈ch,(b∈X.ex\/X.s₀.heap.objs.size<=b)/\b≠X.env.locals/\(∀ x c,X.env.cells.lookup x=some c->c≠b)/\∀ p∈X.pn ++ pins,p.1≠b) :
  Inv X pins σ H' { s with heap:=h',gens:=g',drawn:=d',toks:=t' }:=by
 obtain ⟨m,⟨o,es,ep,ho,r⟩,_⟩:=id I.loc;obtain ⟨sl,hL⟩:=u.any ho I.free fun z=>(hch _ z).2.1 rfl;exact I.step (ch:=ch) hch (fun b o hL hb hc e n=>u.keep b o e n (fun z=>(mem_cons.mp (I.stkSub b z)).elim hL hb) hc) (fun b o _ _ hc e n=>u.any e n hc) (fun b o hc e n=>u.free b o e n hc) (fun b o hc e=>u.there b o e hc) u.tups u.frzs u.tbls (fun m' hm=>by
  obtain ⟨o',es',ep',ho',r'⟩:=hm;rw [ho] at ho';cases ho';exact ⟨_,es',ep',hL,r'⟩) hok hg
theorem Inv.turned {t':Nat} {it:Addr} (I:Inv X pins σ H s) (k:∀ b o,b≠it->s.heap.get? b=some o->h'.get? b=some o) (hn:H it=none) (hL:it≠X.env.locals)
  (h1:it∈X.ex\/X.s₀.heap.objs.size<=it) (h2:∀ x c,X.env.cells.lookup x=some c->c≠it) (h3:∀ p∈X.pn ++ pins,p.1≠it):Inv X pins σ H { s with heap:=h',toks:=t' }:=by
 have nit:∀ b u,H b=some u->b≠it:=fun b u e z=>by rw [z,hn] at e;cases e
 refine I.step (g':=s.gens) (d':=s.drawn) (ch:=[it]) (fun b hb=>?_) (fun b o _ _ hc e _=>k b o (fun z=>hc (by simp [z])) e) (fun b o _ _ hc e _=>⟨o.slots,k b o (fun z=>hc (by simp [z])) e⟩) (fun _ _ _ _ n=>n)
  (fun b o hc e=>⟨o,k b o (fun z=>hc (by simp [z])) e⟩) (fun _ _ e=>e) (fun _ _ _ e=>e) (fun b ps e=>⟨#[],by rw [e];simp⟩) (fun m hm=>?_) (fun b u e=>?_) I.bare
 ·have e:b=it:=by simpa using hb
  subst e;exact ⟨h1,hL,h2,h3⟩
 ·obtain ⟨o,es,ep,ho,r⟩:=hm;exact ⟨o,es,ep,k _ o (Ne.symm hL) ho,r⟩
 ·refine (I.hok b u e).stay (fun c v hc q=>k c v ?_ q) (fun _ q=>q) fun _ _ q=>q;rcases hc with z | z
  ·rw [z];exact nit b u e
  ·exact nit c _ z
theorem Inv.tok (I:Inv X pins σ H s) (t:Nat):Inv X pins σ H { s with toks:=t }:=I.un (h':=s.heap) (t':=t) Un.refl I.hok
theorem Inv.kept {t':Nat} (I:Inv X pins σ H s) (k:∀ b u,s.heap.get? b=some u->h'.get? b=some u):Inv X pins σ H { s with heap:=h',toks:=t' }:=I.un (Un.kept k) (I.hok.kept k)
theorem Inv.laid {a:Addr} {o:HO} {t':Nat} (I:Inv X pins σ H s) (k:∀ b u,s.heap.get? b=some u->h'.get? b=some u) (hp:s.heap.objs.size<=a) (new:ObjOk X.prog X.w (upd H a o) h' a o) :
  Inv X pins σ (upd H a o) { s with heap:=h',toks:=t' }:=I.un (Un.laid k hp (I.hok.fresh hp)) (I.hok.laid k hp new)
theorem Inv.write {x e:Addr} {o:HO} {t':Nat} (I:Inv X pins σ H s) (mu:Mut (H x)) (he:e=x\/H e=some (.own x)) (k:∀ b u,b≠e->s.heap.get? b=some u->h'.get? b=some u) (heo:∃ u,h'.get? e=some u)
  (new:ObjOk X.prog X.w (upd H x o) h' x o):Inv X pins σ (upd H x o) { s with heap:=h',toks:=t' }:=I.un (Un.write mu he k heo) (I.hok.write mu he k heo new)
theorem Inv.pins_of {pins':List (Addr × Obj)} (I:Inv X pins σ H s) (h:∀ p∈pins',s.heap.get? p.1=some p.2/\H p.1=none/\p.1≠X.env.locals/\p.1 ∉ X.fs/\∀ v,p.2.data≠.cell v):Inv X pins' σ H s :=
 ⟨I.ok,I.os,I.bare,I.base,I.loc,I.cell,I.free,I.freeC,fun p hp=>(mem_append.mp hp).elim (fun z=>I.pin p (List.mem_append_left _ z)) (h p),I.hok,I.len⟩
theorem J68 {N:List Str} (hN:N.Nodup) {i j:Nat} {x:Str} (a:N[i]?=some x) (b:N[j]?=some x):i=j:=by
 obtain ⟨h1,e1⟩:=List.getElem?_eq_some_iff.mp a;obtain ⟨h2,e2⟩:=List.getElem?_eq_some_iff.mp b;exact (List.getElem_inj hN).mp (e1.trans e2.symm)
theorem store_ok2 {M:Model} {A:Around} {E:Value->Shared->Prop} {i:Nat} {x:Str} {v:V} {u:Value} {Q:Unit->Shared->Prop} (I:Inv X pins σ H s) (hN:X.N.Nodup) (hi:X.N[i]?=some x) (hx:Loc X.env.scope x) (r:RelV v u)
  (h:∀ s',Inv X pins (σ.set i (some v)) H s'->(∃ a,Heap.SameBut a s.heap s'.heap/\(a=X.env.locals\/X.env.cells.lookup x=some a))->Q () s') (hf:X.fn x=true\/X.env.scope.names.lookup x=some .local:=by first | exact .inl rfl | exact .inr rfl | assumption):wpAny M A (storeName X.env x u) Q E s:=by
 obtain ⟨m,hn,hl⟩:=id I.loc;have hcls:(X.env.scope.kind == .class || (X.env.scope.kind == .module && X.env.locals != X.env.globals))=false:=by rw [I.ok.kind];rfl
 have hiσ:i < σ.length:=by rw [I.len];exact (List.getElem?_eq_some_iff.mp hi).1
 have cne:=I.cne;have tracked:∀ {a:Addr} {h':Heap},(∃ o,s.heap.get? a=some o/\H a=none)->Heap.SameBut a s.heap h'->HOk X.prog X.w H h':=fun {a h'} ha hs b ob e=>by
  obtain ⟨_,_,hfree⟩:=ha;refine (I.hok b ob e).stay (fun c w' hc q=>(hs.2 c ?_).trans q) (fun _ q=>q) fun _ _ q=>q;rintro rfl;rcases hc with rfl | hc
  ·rw [hfree] at e;cases e
  ·rw [hfree] at hc;cases hc
 rcases hx with hk | hk
 ·refine wpAny_storeName_local hk hn (fun h' hn' hs=>?_) hcls;obtain ⟨oL,_,_,hoL,_⟩:=id hn;refine h _ ⟨I.ok,I.os,I.bare,⟨fun b o e n hb hx=>?_,fun b o e n hb hx=>?_,I.base.free,fun b o e hx=>?_,I.base.tups,I.base.frzs,I.base.tbls⟩,⟨_,hn',fun j y v' e1 e2 e3=>?_⟩,fun y c e=>?_,I.free,I.freeC,fun p hp=>?_,tracked ⟨oL,hoL,I.free⟩ hs,by simpa using I.len⟩ ⟨_,hs,.inl rfl⟩
  ·exact (hs.2 b (Nat.ne_of_lt (Nat.lt_of_lt_of_le (lt_size e) I.ok.above))).trans (I.base.keep b o e n hb hx)
  ·obtain ⟨sl,e1⟩:=I.base.slot b o e n hb hx;exact ⟨sl,(hs.2 b (Nat.ne_of_lt (Nat.lt_of_lt_of_le (lt_size e) I.ok.above))).trans e1⟩
  ·obtain ⟨o',e1⟩:=I.base.there b o e hx;exact ⟨o',(hs.2 b (Nat.ne_of_lt (Nat.lt_of_lt_of_le (lt_size e) I.ok.above))).trans e1⟩
  ·by_cases hj:j=i
   ·subst hj;rw [hi] at e1;cases e1;rw [getElem?_set_self hiσ] at e2;cases e2;exact ⟨u,r,.inl ⟨hk,by simp⟩⟩
   ·rw [getElem?_set_ne (Ne.symm hj)] at e2;obtain ⟨u',r',q⟩:=hl j y v' e1 e2 e3;refine ⟨u',r',?_⟩;rcases q with ⟨k,e⟩ | ⟨k,c,e,z⟩
    ·refine .inl ⟨k,?_⟩;have:y≠x:=fun e=>hj (J68 hN e1 (e ▸ hi));simp [this,e]
    ·exact .inr ⟨k,c,e,z.sameBut hs (cne y c e)⟩
  ·obtain ⟨w',z⟩:=I.cell y c e;exact ⟨w',z.sameBut hs (cne y c e)⟩
  ·obtain ⟨e,n,ne,nf,d⟩:=I.pin p hp;exact ⟨(hs.2 p.1 ne).trans e,n,ne,nf,d⟩
 ·have hfn:X.fn x=true:=by
   rcases hf with z | z
   ·exact z
   ·rw [z] at hk;cases hk
  obtain ⟨c,hc⟩:=I.ok.has x (.inl hk);obtain ⟨w',z⟩:=I.cell x c hc;refine wpAny_storeName_cell I.ok.kind hk hc z (fun h' hc' hs=>?_);obtain ⟨oc,hoc,hocd⟩:=id z;refine h { s with heap:=h' } ⟨I.ok,I.os,I.bare,⟨fun b o e n hb hx=>?_,fun b o e n hb hx=>?_,I.base.free,fun b o e hx=>?_,I.base.tups,I.base.frzs,I.base.tbls⟩,⟨m,hn.sameBut hs (Ne.symm (cne x c hc)),fun j y v' e1 e2 e3=>?_⟩,fun y c' e=>?_,I.free,I.freeC,fun p hp=>?_,tracked ⟨oc,hoc,I.freeC x c hc⟩ hs,by simpa using I.len⟩ ⟨c,hs,.inr hc⟩
  ·exact (hs.2 b (Nat.ne_of_lt (Nat.lt_of_lt_of_le (lt_size e) (I.ok.cab x c hfn hc)))).trans (I.base.keep b o e n hb hx)
  ·obtain ⟨sl,e1⟩:=I.base.slot b o e n hb hx;exact ⟨sl,(hs.2 b (Nat.ne_of_lt (Nat.lt_of_lt_of_le (lt_size e) (I.ok.cab x c hfn hc)))).trans e1⟩
  ·obtain ⟨o',e1⟩:=I.base.there b o e hx;exact ⟨o',(hs.2 b (Nat.ne_of_lt (Nat.lt_of_lt_of_le (lt_size e) (I.ok.cab x c hfn hc)))).trans e1⟩
  ·by_cases hj:j=i
   ·subst hj;rw [hi] at e1;cases e1;rw [getElem?_set_self hiσ] at e2;cases e2;exact ⟨u,r,.inr ⟨.inl hk,c,hc,hc'⟩⟩
   ·rw [getElem?_set_ne (Ne.symm hj)] at e2;obtain ⟨u',r',q⟩:=hl j y v' e1 e2 e3;refine ⟨u',r',?_⟩;rcases q with q | ⟨k,c',e,z'⟩
    ·exact .inl q
    ·refine .inr ⟨k,c',e,z'.sameBut hs ?_⟩;rintro rfl;exact hj (J68 hN e1 (I.ok.inj _ _ _ e hc ▸ hi))
  ·by_cases hcc:c'=c
   ·subst hcc;exact ⟨_,hc'⟩
   ·obtain ⟨w2,z2⟩:=I.cell y c' e;exact ⟨w2,z2.sameBut hs hcc⟩
  ·obtain ⟨e,n,ne,nf,d⟩:=I.pin p hp;refine ⟨(hs.2 p.1 ?_).trans e,n,ne,nf,d⟩;intro q;rw [q,hoc] at e;have q':oc=p.2:=Option.some.inj e;exact d w' (by rw [<- q'];exact hocd)
theorem J5q {M:Model} {A:Around} {E:Value->Shared->Prop} {i:Nat} {x:Str} {v:V} {u:Value} {Q:Unit->Shared->Prop} (I:Inv X pins σ H s) (hN:X.N.Nodup) (hi:X.N[i]?=some x) (hx:Loc X.env.scope x) (r:RelV v u)
  (h:∀ s',Inv X pins (σ.set i (some v)) H s'->Q () s') (hf:X.fn x=true\/X.env.scope.names.lookup x=some .local:=by first | exact .inl rfl | exact .inr rfl | assumption):wpAny M A (storeName X.env x u) Q E s :=
 store_ok2 I hN hi hx r (fun s' I' _=>h s' I') hf
theorem Inv.call' {s':Shared} {ch:List Addr} (I:Inv X pins σ H s) (ho:s'.os=s.os) (u:Un (frs X.stack) ch H H' s.heap s'.heap) (hok:HOk X.prog X.w H' s'.heap) (hg:AllBare s'.gens)
  (hch:∀ b∈ch,(b∈X.ex\/X.s₀.heap.objs.size<=b)/\b≠X.env.locals/\(∀ x c,X.env.cells.lookup x=some c->c≠b)/\∀ p∈X.pn ++ pins,p.1≠b):Inv X pins σ H' s':=by
 obtain ⟨h',g',d',t',o'⟩:=s';have e:o'=s.os:=ho;subst e;exact I.call (g':=g') (t':=t') (d':=d') u hok hg hch
end
abbrev XK:=Value->Option Addr->Hp->Prop
abbrev St:=List (Option V)
abbrev VK:=V->Hp->Prop
abbrev TE:=St->Hp->VK->Prop
abbrev TT:=St->Hp->(Bool->Hp->Prop)->Prop
abbrev TA:=St->Hp->(List V->Hp->Prop)->Prop
structure Ends where
 nx:St->Hp->Prop
 rt:VK
 bk:St->Hp->Prop:=fun _ _=>False
 ct:St->Hp->Prop:=fun _ _=>False
abbrev TS:=Ends->St->Hp->Prop
def EP (X:Cx) (pins:List (Addr × Obj)) (σ:St) (Q:VK) (u:Value) (s':Shared):Prop:=∃ v H',Inv X pins σ H' s'/\RelV v u/\Q v H'
def TP (X:Cx) (pins:List (Addr × Obj)) (σ:St) (Q:Bool->Hp->Prop) (b:Bool) (s':Shared):Prop:=∃ H',Inv X pins σ H' s'/\Q b H'
def AP (X:Cx) (pins:List (Addr × Obj)) (σ:St) (Q:List V->Hp->Prop) (us:List Value) (s':Shared):Prop:=∃ vs H',Inv X pins σ H' s'/\Vals vs us/\Q vs H'
def SP (X:Cx) (pins:List (Addr × Obj)) (D:Ends) (f:Flow) (s':Shared):Prop :=
 match f with
 | .next=>∃ σ' H',Inv X pins σ' H' s'/\D.nx σ' H'
 | .brk=>∃ σ' H',Inv X pins σ' H' s'/\D.bk σ' H'
 | .cont=>∃ σ' H',Inv X pins σ' H' s'/\D.ct σ' H'
 | .ret u=>∃ v σ' H',Inv X pins σ' H' s'/\RelV v u/\D.rt v H'
def PE (X:Cx) (e:Expr) (t:TE):Prop :=
 ∀ (pins:List (Addr × Obj)) (s:Shared) (σ:St) (H:Hp) (Q:VK),Inv X pins σ H s->t σ H Q->wpAny (model X.prog X.w) X.A (eval e X.env) (EP X pins σ Q) X.xe s
def PT (X:Cx) (e:Expr) (t:TT):Prop :=
 ∀ (pins:List (Addr × Obj)) (s:Shared) (σ:St) (H:Hp) (Q:Bool->Hp->Prop),Inv X pins σ H s->t σ H Q->wpAny (model X.prog X.w) X.A (isTrue e X.env (eval e X.env)) (TP X pins σ Q) X.xe s
def PW (X:Cx) (e:Expr) (t:TT):Prop :=
 ∀ (whole:Sem Value) (pins:List (Addr × Obj)) (s:Shared) (σ:St) (H:Hp) (Q:Bool->Hp->Prop),Inv X pins σ H s->t σ H Q->wpAny (model X.prog X.w) X.A (isTrue e X.env whole) (TP X pins σ Q) X.xe s
theorem PW.pt {X:Cx} {e:Expr} {t:TT} (h:PW X e t):PT X e t:=h _
def PA (X:Cx) (es:List Expr) (t:TA):Prop :=
 ∀ (pos:Pos) (pins:List (Addr × Obj)) (s:Shared) (σ:St) (H:Hp) (Q:List V->Hp->Prop),Inv X pins σ H s->t σ H Q->wpAny (model X.prog X.w) X.A (spliced (backTo pos (starEach es X.env))) (AP X pins σ Q) X.xe s
def PS (X:Cx) (st:Stmt) (t:TS):Prop :=
 ∀ (pins:List (Addr × Obj)) (s:Shared) (σ:St) (H:Hp) (D:Ends),Inv X pins σ H s->t D σ H->wpAny (model X.prog X.w) X.A (exec st X.env) (SP X pins D) X.xe s
def PSs (X:Cx) (st:List Stmt) (t:TS):Prop :=
 ∀ (pins:List (Addr × Obj)) (s:Shared) (σ:St) (H:Hp) (D:Ends),Inv X pins σ H s->t D σ H->wpAny (model X.prog X.w) X.A (execs st X.env) (SP X pins D) X.xe s
theorem thn {α:Type} {t:Sem α} {Q Q':α->Shared->Prop} {M:Model} {A:Around} {E:Value->Shared->Prop} {s:Shared} (h:wpAny M A t Q E s) (hQ:∀ a s,Q a s->Q' a s):wpAny M A t Q' E s:=wpAny_mono h hQ fun _ _ x=>x
end L2
namespace L2
open PySem PySem.Spec PyProof.Rows
section
variable {X:Cx}
def tVar (i:Nat):TE:=fun σ H Q=>∃ v,σ[i]?=some (some v)/\Q v H
def tC (v:V):TE:=fun _ H Q=>Q v H
theorem pe_var {i:Nat} {x:Str} {pos:Pos} (hN:X.N[i]?=some x) (hv:Vis X.env.scope x) (hd:(x == ("__debug__":Str))=false:=by decide) (hcd:(x == ("__classdict__":Str))=false:=by decide):PE X (.Name x pos) (tVar i):=by
 intro pins s σ H Q I h;obtain ⟨v,e,h⟩:=h;obtain ⟨m,hn,hl⟩:=I.loc;obtain ⟨u,r,l⟩:=hl i x v hN e hv;have fin:EP X pins σ Q u s:=⟨v,H,I,r,h⟩;rcases l with ⟨hk,hm⟩ | ⟨hk,c,hc,hcell⟩
 ·exact wpAny_Name (wpAny_loadName_local I.ok.kind hk hn hm fin) hd
 ·rcases hk with hk | hk
  ·exact wpAny_Name (wpAny_loadName_cell I.ok.kind hk hc hcell fin) hd
  ·exact wpAny_Name (wpAny_loadName_free I.ok.kind hk hc hcell fin hcd) hd
theorem Jd {i j pos}:PE X (.Constant (.int i) j pos) (tC (.int i)):=fun _ _ _ H _ I h=>wpAny_Constant_int ⟨.int i,H,I.tok _,⟨_,rfl⟩,h⟩
theorem pe_bl {b j pos}:PE X (.Constant (.bool b) j pos) (tC (.bl b)):=fun _ _ _ H _ I h=>Constant_bool ⟨.bl b,H,I,rfl,h⟩
theorem pe_non {j pos}:PE X (.Constant .none j pos) (tC .non):=fun _ _ _ H _ I h=>Constant_none ⟨.non,H,I,rfl,h⟩
theorem J58 {x j pos}:PE X (.Constant (.str x) j pos) (tC (.str x)):=fun _ _ _ H _ I h=>Calls.Constant_str ⟨.str x,H,I.tok _,⟨_,rfl⟩,h⟩
def Gl (X:Cx) (x:Str):Prop:=X.env.kindOf x=some .globalImplicit
theorem J3l {E:Value->Shared->Prop} {pins:List (Addr × Obj)} {s:Shared} {σ:St} {H:Hp} {x:Str} {u:Value} {pos:Pos} {Q:Value->Shared->Prop} (I:Inv X pins σ H s) (hg:Gl X x) (hm:X.mg x=some u) (h:Q u s)
  (hd:(x == ("__debug__":Str))=false:=by decide):wpAny (model X.prog X.w) X.A (eval (.Name x pos) X.env) Q E s :=
 Calls.Name_function_global I.ok.kind hg (Calls.loadGlobal_global (by rw [I.ok.glob];exact I.mod.glob.keeps I.bk) hm h) hd
theorem J6c {E:Value->Shared->Prop} {pins:List (Addr × Obj)} {s:Shared} {σ:St} {H:Hp} {x:Str} {u:Value} {pos:Pos} {Q:Value->Shared->Prop} (I:Inv X pins σ H s) (hg:Gl X x) (hm:X.mg x=none) (hv:bootBuiltins x=some u) (h:Q u s)
  (hn:x≠"__name__":=by decide) (hd:(x == ("__debug__":Str))=false:=by decide):wpAny (model X.prog X.w) X.A (eval (.Name x pos) X.env) Q E s:=by
 obtain ⟨mb,h1,h2⟩:=I.mod.blt;exact Calls.Name_function_global I.ok.kind hg (Calls.loadGlobal_builtin (by rw [I.ok.glob];exact I.mod.glob.keeps I.bk) hm (by rw [I.ok.blt];exact h1.keeps I.bk) ((h2 x hn).trans hv) h) hd
theorem J5a {x:Str} {v:V} {u:Value} {pos:Pos} (hg:Gl X x) (hm:X.mg x=some u) (r:RelV v u) (hd:(x == ("__debug__":Str))=false:=by decide):PE X (.Name x pos) (tC v) :=
 fun _ _ _ H _ I h=>J3l I hg hm ⟨v,H,I,r,h⟩ hd
theorem pe_bltn {x:Str} {v:V} {u:Value} {pos:Pos} (hg:Gl X x) (hm:X.mg x=none) (hv:bootBuiltins x=some u) (r:RelV v u) (hn:x≠"__name__":=by decide) (hd:(x == ("__debug__":Str))=false:=by decide):PE X (.Name x pos) (tC v) :=
 fun _ _ _ H _ I h=>J6c I hg hm hv ⟨v,H,I,r,h⟩ hn hd
variable {a b:Expr} {ta tb:TE} {pos:Pos}
def PC (X:Cx) (op:CmpOp) (a b:Expr) (t:TE):Prop :=
 ∀ (pins:List (Addr × Obj)) (s:Shared) (σ:St) (H:Hp) (Q:VK),Inv X pins σ H s->t σ H Q->
  wpAny (model X.prog X.w) X.A (eval a X.env) (fun v s₁=>wpAny (model X.prog X.w) X.A (eval b X.env) (fun u s₂=>wpAny (model X.prog X.w) X.A (compareOp op v u) (EP X pins σ Q) X.xe s₂) X.xe s₁) X.xe s
theorem nobehind (b:Expr) {op:CmpOp} (h:op≠.In) (h2:op≠.NotIn):behindInMarks op b=false:=by
 have e1:(op == CmpOp.In)=false:=by cases op <;> first | rfl | exact absurd rfl h
 have e2:(op == CmpOp.NotIn)=false:=by cases op <;> first | rfl | exact absurd rfl h2
 cases b <;> simp [behindInMarks,e1,e2]
def tIsN (ta:TE):TE:=fun σ H Q=>ta σ H fun x H1=>Q (.bl (decide (x=.non))) H1
theorem RelV.none_iff {x:V} {v:Value} (r:RelV x v):(v == Value.none)=decide (x=.non):=by
 cases x with
 | non=>cases r;rfl
 | bl _=>cases r;rfl
 | int _=>obtain ⟨t,rfl⟩:=r;rfl
 | str _=>obtain ⟨t,rfl⟩:=r;rfl
 | byt _=>obtain ⟨t,rfl⟩:=r;rfl
 | flt _=>obtain ⟨t,rfl⟩:=r;rfl
 | ref _=>cases r;rfl
 | ty _=>cases r;rfl
theorem pc_isN {j pos'} (ha:PE X a ta):PC X .Is a (.Constant .none j pos') (tIsN ta):=by
 intro pins s σ H Q I h;refine thn (ha pins s σ H _ I h) fun v s1 ⟨x,H1,I1,r1,q1⟩=>?_;exact Constant_none (is_none_gen ⟨.bl _,H1,I1,by rw [r1.none_iff];rfl,q1⟩)
def tB (t:TE):TT:=fun σ H Q=>t σ H fun x H1=>∃ c,x=.bl c/\Q c H1
theorem pt_cmp {op:CmpOp} {t:TE} (h:PC X op a b t) (h1:behindInMarks op b=false:=by first | exact nobehind _ (by decide) (by decide) | rfl):PT X (.Compare a [op] [b] pos) (tB t):=by
 intro pins s σ H Q I hw;refine wpAny_isTrue_Compare1 (thn (h pins s σ H _ I hw) fun v s1 h1=>thn h1 fun u s2 h2=>thn h2 fun c s3 ⟨x,H1,I1,r1,q1⟩=>?_) h1;obtain ⟨d,rfl,q⟩:=q1;cases r1;exact wpAny_truthy_bool ⟨H1,I1,q⟩
theorem J2p {e:Expr} {t:TE} (h:PE X e t) (he:∀ whole,isTrue e X.env whole=(do let v <- whole;standAt e.pos;holding [v] (truthy v)):=by intro _;rfl):PT X e (tB t):=by
 intro pins s σ H Q I hw;refine isTrue_plain (thn (h pins s σ H _ I hw) fun v s1 ⟨x,H1,I1,r1,q1⟩=>?_) (he _);obtain ⟨d,rfl,q⟩:=q1;cases r1;exact wpAny_truthy_bool ⟨H1,I1,q⟩
variable {tA tB':TT} {rest:List Expr}
def tAnd (t u:TT):TT:=fun σ H Q=>t σ H fun c H1=>if c=true then u σ H1 Q else Q false H1
def tOr (t u:TT):TT:=fun σ H Q=>t σ H fun c H1=>if c=true then Q true H1 else u σ H1 Q
def tNot (t:TT):TT:=fun σ H Q=>t σ H fun c H1=>Q (!c) H1
theorem pw_and1 (ha:PT X a tA):PW X (.BoolOp .And [a] pos) tA:=by
 intro wh pins s σ H Q I h;refine isTrue_and (thn (ha pins s σ H Q I h) fun c s1 e=>?_)
 cases c with
 | true=>exact isTrue_and_nil e
 | false=>exact e
theorem pw_or1 (ha:PT X a tA):PW X (.BoolOp .Or [a] pos) tA:=by
 intro wh pins s σ H Q I h;refine isTrue_or (thn (ha pins s σ H Q I h) fun c s1 e=>?_)
 cases c with
 | false=>exact isTrue_or_nil e
 | true=>exact e
theorem pw_and (ha:PT X a tA) (hb:PW X (.BoolOp .And (b :: rest) pos) tB'):PW X (.BoolOp .And (a :: b :: rest) pos) (tAnd tA tB'):=by
 intro wh pins s σ H Q I h;refine isTrue_and (thn (ha pins s σ H _ I h) fun c s1 ⟨H1,I1,q1⟩=>?_)
 cases c with
 | true=>exact hb wh pins s1 σ H1 Q I1 q1
 | false=>exact ⟨H1,I1,q1⟩
theorem pw_or (ha:PT X a tA) (hb:PW X (.BoolOp .Or (b :: rest) pos) tB'):PW X (.BoolOp .Or (a :: b :: rest) pos) (tOr tA tB'):=by
 intro wh pins s σ H Q I h;refine isTrue_or (thn (ha pins s σ H _ I h) fun c s1 ⟨H1,I1,q1⟩=>?_)
 cases c with
 | true=>exact ⟨H1,I1,q1⟩
 | false=>exact hb wh pins s1 σ H1 Q I1 q1
theorem pt_not (ha:PT X a tA):PT X (.UnaryOp .Not a pos) (tNot tA):=by
 intro pins s σ H Q I h;exact isTrue_not (ha pins s σ H (fun c H1=>Q (!c) H1) I h)
def tAndV (ta tb:TE):TE:=fun σ H Q=>ta σ H fun x H1=>∃ c,x=.bl c/\if c=true then tb σ H1 Q else Q (.bl false) H1
def tNotV (ta:TE):TE:=fun σ H Q=>ta σ H fun x H1=>∃ c,x=.bl c/\Q (.bl (!c)) H1
theorem pe_one {op} {t:TE} (h:PE X a t):PE X (.BoolOp op [a] pos) t:=fun pins s σ H Q I hw=>BoolOp_one (h pins s σ H Q I hw)
theorem pe_and (ha:PE X a ta) (hb:PE X (.BoolOp .And (b :: rest) pos) tb):PE X (.BoolOp .And (a :: b :: rest) pos) (tAndV ta tb):=by
 intro pins s σ H Q I h;refine BoolOp_and (thn (ha pins s σ H _ I h) fun v s1 ⟨x,H1,I1,r1,q1⟩=>?_);obtain ⟨c,rfl,q1⟩:=q1;cases r1;refine wpAny_truthy_bool ?_
 cases c with
 | true=>exact hb pins s1 σ H1 Q I1 q1
 | false=>exact ⟨.bl false,H1,I1,rfl,q1⟩
theorem pe_not (ha:PE X a ta):PE X (.UnaryOp .Not a pos) (tNotV ta):=by
 intro pins s σ H Q I h;refine UnaryOp_ (thn (ha pins s σ H _ I h) fun v s1 ⟨x,H1,I1,r1,q1⟩=>?_);obtain ⟨c,rfl,q1⟩:=q1;cases r1;exact not_of (wpAny_truthy_bool ⟨.bl (!c),H1,I1,rfl,q1⟩)
def tIf (t:TT) (ta tb:TE):TE:=fun σ H Q=>t σ H fun c H1=>if c=true then ta σ H1 Q else tb σ H1 Q
theorem J23 {c:Expr} (hc:PT X c tA) (ha:PE X a ta) (hb:PE X b tb):PE X (.IfExp c a b pos) (tIf tA ta tb):=by
 intro pins s σ H Q I h;refine wpAny_IfExp (thn (hc pins s σ H _ I h) fun d s1 ⟨H1,I1,q1⟩=>?_)
 cases d with
 | true=>exact ha pins s1 σ H1 Q I1 q1
 | false=>exact hb pins s1 σ H1 Q I1 q1
end
end L2
namespace L2
open PySem PySem.Spec PyProof.Rows
def SqL (K:PySem.W.Frag) (H:Hp) (a:Addr) (xs:List V):Prop :=
 Rd H a (.lst xs)\/
  ∃ (o:Obj) (its:Array Value) (n:Nat),K.lookup a=some o/\o.cls=.type "list"/\o.dict=none/\o.data=.seq its n/\its.size<=sizeLine/\Vals xs its.toList
def SqT (K:PySem.W.Frag) (H:Hp) (a:Addr) (xs:List V):Prop :=
 Rd H a (.tup xs)\/
  ∃ (o:Obj) (its:Array Value) (n:Nat),K.lookup a=some o/\o.cls=.type "tuple"/\o.data=.seq its n/\its.size<=sizeLine/\Vals xs its.toList
def absV:Value->Option V
 | .none=>some .non
 | .bool b=>some (.bl b)
 | .int i _=>some (.int i)
 | .str x _=>some (.str x)
 | .bytes b _=>some (.byt b)
 | .float b _=>some (.flt b)
 | .ref a=>some (.ref a)
 | .type n=>some (.ty n)
 | _=>none
theorem RelV.abs {x:V} {u:Value} (r:RelV x u):absV u=some x:=by
 cases x with
 | non=>cases r;rfl
 | bl _=>cases r;rfl
 | int _=>obtain ⟨t,rfl⟩:=r;rfl
 | str _=>obtain ⟨t,rfl⟩:=r;rfl
 | byt _=>obtain ⟨t,rfl⟩:=r;rfl
 | flt _=>obtain ⟨t,rfl⟩:=r;rfl
 | ref _=>cases r;rfl
 | ty _=>cases r;rfl
theorem RelV.inj {x y:V} {u:Value} (r:RelV x u) (q:RelV y u):x=y:=Option.some.inj (r.abs.symm.trans q.abs)
theorem Vals.inj:∀ {xs ys:List V} {us:List Value},Vals xs us->Vals ys us->xs=ys
 | _,_,_,.nil,.nil=>rfl
 | _,_,_,.cons r t,.cons r' t'=>by rw [r.inj r',Vals.inj t t']
section
variable {X:Cx} {pins:List (Addr × Obj)} {σ:St} {H:Hp} {s:Shared} {a:Addr} {xs ys:List V}
theorem SqL.of {K:PySem.W.Frag} (h:H a=some (.lst xs)):SqL K H a xs:=.inl (.inl h)
theorem SqT.of {K:PySem.W.Frag} (h:H a=some (.tup xs)):SqT K H a xs:=.inl (.inl h)
theorem Inv.list (I:Inv X pins σ H s) (h:SqL X.K H a xs):∃ its:List Value,Vals xs its/\PlainL s.heap a its.toArray/\xs.length<=sizeLine:=by
 rcases h with h | ⟨o,its,n,hk,hc,hd,hs,hz,r⟩
 ·obtain ⟨z,its,n,r,e⟩:=h.ok I.hok;exact ⟨its,r,⟨_,n,e,rfl,rfl,rfl⟩,z⟩
 ·refine ⟨its.toList,r,⟨o,n,I.kIn a o hk,hc,hd,by simpa using hs⟩,?_⟩;have e:=r.length;simp only [length_toList] at e;lia
theorem Inv.tuple (I:Inv X pins σ H s) (h:SqT X.K H a xs):∃ its:List Value,Vals xs its/\IsTup s.heap a its.toArray/\xs.length<=sizeLine:=by
 rcases h with h | ⟨o,its,n,hk,hc,hs,hz,r⟩
 ·obtain ⟨z,its,r,p⟩:=h.ok I.hok;exact ⟨its,r,p.tup,z⟩
 ·refine ⟨its.toList,r,⟨o,I.kIn a o hk,hc,n,by simpa using hs⟩,?_⟩;have e:=r.length;simp only [length_toList] at e;lia
theorem Inv.list_inj (I:Inv X pins σ H s) (h:SqL X.K H a xs) (h':SqL X.K H a ys):xs=ys:=by
 obtain ⟨its,r,⟨o,n,e,_,_,d⟩,_⟩:=I.list h;obtain ⟨its',r',⟨o',n',e',_,_,d'⟩,_⟩:=I.list h';rw [e] at e';cases e';rw [d] at d';injection d' with d1 _
 have:its=its':=by simpa using congrArg Array.toList d1
 subst this;exact r.inj r'
theorem Inv.tuple_inj (I:Inv X pins σ H s) (h:SqT X.K H a xs) (h':SqT X.K H a ys):xs=ys:=by
 obtain ⟨its,r,⟨o,e,_,n,d⟩,_⟩:=I.tuple h;obtain ⟨its',r',⟨o',e',_,n',d'⟩,_⟩:=I.tuple h';rw [e] at e';cases e';rw [d] at d';injection d' with d1 _
 have:its=its':=by simpa using congrArg Array.toList d1
 subst this;exact r.inj r'
end
abbrev Cx.wish (X:Cx) (E:Value->Shared->Prop):Cx:={ X with xe:=E }
abbrev Cx.nox (X:Cx):Cx:=X.wish fun _ _=>False
theorem Cx.Ok.wish {X:Cx} (ok:X.Ok) (E:Value->Shared->Prop):(X.wish E).Ok :=
 ⟨ok.mod,ok.kind,ok.glob,ok.blt,ok.above,ok.inj,ok.has,ok.cab,ok.hd,ok.frames,ok.stk,ok.exf,ok.bs,ok.bsz,ok.noex,ok.exfs,ok.funs,ok.frf⟩
theorem Cx.Ok.unwish {X:Cx} {E:Value->Shared->Prop} (ok:(X.wish E).Ok):X.Ok :=
 ⟨ok.mod,ok.kind,ok.glob,ok.blt,ok.above,ok.inj,ok.has,ok.cab,ok.hd,ok.frames,ok.stk,ok.exf,ok.bs,ok.bsz,ok.noex,ok.exfs,ok.funs,ok.frf⟩
section
variable {X:Cx} {pins:List (Addr × Obj)} {σ:St} {H:Hp} {s:Shared} {E:Value->Shared->Prop}
theorem Inv.wish (I:Inv X pins σ H s) (E:Value->Shared->Prop):Inv (X.wish E) pins σ H s:=⟨I.ok.wish E,I.os,I.bare,I.base,I.loc,I.cell,I.free,I.freeC,I.pin,I.hok,I.len⟩
theorem Inv.unwish (I:Inv (X.wish E) pins σ H s):Inv X pins σ H s:=⟨I.ok.unwish,I.os,I.bare,I.base,I.loc,I.cell,I.free,I.freeC,I.pin,I.hok,I.len⟩
theorem SP.unwish {D:Ends} {f:Flow} {s':Shared} (h:SP (X.wish E) pins D f s'):SP X pins D f s':=by
 cases f with
 | next=>obtain ⟨σ',H',I,q⟩:=h;exact ⟨σ',H',I.unwish,q⟩
 | brk=>obtain ⟨σ',H',I,q⟩:=h;exact ⟨σ',H',I.unwish,q⟩
 | cont=>obtain ⟨σ',H',I,q⟩:=h;exact ⟨σ',H',I.unwish,q⟩
 | ret u=>obtain ⟨v,σ',H',I,r,q⟩:=h;exact ⟨v,σ',H',I.unwish,r,q⟩
theorem PSs.nox {st:List Stmt} {t:TS} (h:PSs X.nox st t):PSs X st t:=fun pins s σ H D I hw =>
 wpAny_mono (h pins s σ H D (I.wish _) hw) (fun _ _ q=>q.unwish) fun _ _ z=>False.elim z
end
section
variable {X:Cx} {st:Stmt} {rest:List Stmt} {t u:TS} {e:Expr} {te:TE} {pos:Pos}
def tNext:TS:=fun D σ H=>D.nx σ H
def tSeq (t u:TS):TS:=fun D σ H=>t { D with nx:=u D } σ H
theorem Jn:PSs X [] tNext:=fun _ _ σ H _ I h=>wpAny_execs_nil ⟨σ,H,I,h⟩
theorem J1 (h1:PS X st t) (h2:PSs X rest u):PSs X (st :: rest) (tSeq t u):=by
 intro pins s σ H D I h;refine wpAny_execs_cons (thn (h1 pins s σ H { D with nx:=u D } I h) fun f s1 q=>?_)
 cases f with
 | next =>
  obtain ⟨σ',H',I',q⟩:=q;exact h2 pins s1 σ' H' D I' q
 | ret v=>exact q
 | brk=>exact q
 | cont=>exact q
theorem J4 (h1:PS X st t):PSs X [st] t:=by
 intro pins s σ H D I h;refine wpAny_execs_cons (thn (h1 pins s σ H D I h) fun f s1 q=>?_)
 cases f with
 | next=>exact wpAny_execs_nil q
 | ret v=>exact q
 | brk=>exact q
 | cont=>exact q
theorem Inv.quiet {pins:List (Addr × Obj)} {σ:St} {H:Hp} {s:Shared} (I:Inv X pins σ H s):interactive X.env=false:=by simp [interactive,I.ok.kind]
def tDrop (te:TE):TS:=fun D σ H=>te σ H fun _ H1=>D.nx σ H1
theorem Jz (he:PE X e te) (hs:swapsWith e none pos.line X.env=pure false:=by rfl):PS X (.Expr e pos) (tDrop te):=by
 intro pins s σ H D I h;exact wpAny_Expr_any (thn (he pins s σ H _ I h) fun v s1 ⟨x,H1,I1,r1,q1⟩=>⟨σ,H1,I1,q1⟩) I.quiet hs
def tRet (te:TE):TS:=fun D σ H=>te σ H D.rt
theorem Jh (he:PE X e te):PS X (.Return (some e) pos) (tRet te):=by
 intro pins s σ H D I h;exact wpAny_Return_some (thn (he pins s σ H _ I h) fun v s1 ⟨x,H1,I1,r1,q1⟩=>⟨x,σ,H1,I1,r1,q1⟩)
def tIfS (c:TT) (t u:TS):TS:=fun D σ H=>c σ H fun b H1=>if b=true then t D σ H1 else u D σ H1
theorem ps_if {c:Expr} {a b:List Stmt} {tc:TT} (hc:PT X c tc) (ha:PSs X a t) (hb:PSs X b u):PS X (.If c a b pos) (tIfS tc t u):=by
 intro pins s σ H D I h;refine wpAny_If (thn (hc pins s σ H _ I h) fun d s1 ⟨H1,I1,q1⟩=>?_)
 cases d with
 | true=>exact ha pins s1 σ H1 D I1 q1
 | false=>exact hb pins s1 σ H1 D I1 q1
def tNever:TS:=fun _ _ _=>False
theorem J2w:PS X st tNever:=fun _ _ _ _ _ _ h=>h.elim
end
abbrev TG:=V->St->Hp->(St->Hp->Prop)->Prop
abbrev TGs:=List V->St->Hp->(St->Hp->Prop)->Prop
def PG (X:Cx) (target:Expr) (t:TG):Prop :=
 ∀ (pins:List (Addr × Obj)) (s:Shared) (σ:St) (H:Hp) (v:V) (u:Value) (Q:St->Hp->Prop),Inv X pins σ H s->RelV v u->t v σ H Q->
  wpAny (model X.prog X.w) X.A (assign target X.env u) (fun _ s'=>∃ σ' H',Inv X pins σ' H' s'/\Q σ' H') X.xe s
def PGs (X:Cx) (ts:List Expr) (t:TGs):Prop :=
 ∀ (pins:List (Addr × Obj)) (s:Shared) (σ:St) (H:Hp) (vs:List V) (us:List Value) (Q:St->Hp->Prop),Inv X pins σ H s->Vals vs us->t vs σ H Q->
  wpAny (model X.prog X.w) X.A (assignInOrder ((assignEach ts X.env).map (·.2)) us) (fun _ s'=>∃ σ' H',Inv X pins σ' H' s'/\Q σ' H') X.xe s
abbrev TSet:=V->V->V->Hp->(Hp->Prop)->Prop
def PSet (X:Cx) (t:TSet):Prop :=
 ∀ (pins:List (Addr × Obj)) (s:Shared) (σ:St) (H:Hp) (o i v:V) (ov iv u:Value) (Q:Hp->Prop),Inv X pins σ H s->RelV o ov->RelV i iv->RelV v u->t o i v H Q->
  wpAny (model X.prog X.w) X.A (setItem ov iv u) (fun _ s'=>∃ H',Inv X pins σ H' s'/\Q H') X.xe s
section
variable {X:Cx} {pos:Pos}
def gName (i:Nat):TG:=fun v σ H Q=>Q (σ.set i (some v)) H
theorem J1g {i:Nat} {x:Str} (hN:X.N.Nodup) (hi:X.N[i]?=some x) (hx:Loc X.env.scope x) (hf:X.fn x=true\/X.env.scope.names.lookup x=some .local:=by first | exact .inl rfl | exact .inr rfl | assumption):PG X (.Name x pos) (gName i):=by
 intro pins s σ H v u Q I r h;exact wpAny_assign_Name (J5q I hN hi hx r (fun s' I'=>⟨_,H,I',h⟩) hf)
def gNil:TGs:=fun vs σ H Q=>vs=[]/\Q σ H
def gCons (t:TG) (u:TGs):TGs:=fun vs σ H Q=>∃ v r,vs=v :: r/\t v σ H fun σ' H'=>u r σ' H' Q
theorem pgs_nil:PGs X [] gNil:=by
 intro pins s σ H vs us Q I r h;obtain ⟨e,h⟩:=h;subst e;cases r;exact assignInOrder_nil ⟨σ,H,I,h⟩
theorem J2x {e:Expr} {es:List Expr} {t:TG} {u:TGs} (h1:PG X e t) (h2:PGs X es u)
  (hs:(assignEach (e :: es) X.env).map (·.2)=assign e X.env :: (assignEach es X.env).map (·.2):=by rfl):PGs X (e :: es) (gCons t u):=by
 intro pins s σ H vs us Q I r h;obtain ⟨v,vr,e1,h⟩:=h;subst e1
 cases r with
 | cons r rr =>
  rw [hs];refine assignInOrder_cons (thn (h1 pins s σ H _ _ _ I r h) fun _ s1 ⟨σ1,H1,I1,q1⟩=>?_);exact h2 pins s1 σ1 H1 _ _ Q I1 rr q1
def gTup (K:PySem.W.Frag) (n:Nat) (t:TGs):TG:=fun v σ H Q=>∃ a xs,v=.ref a/\SqT K H a xs/\xs.length=n/\t xs σ H Q
theorem pg_tup {es:List Expr} {k:Nat} {t:TGs} {n:Nat} (hc:X.calm=true) (h:PGs X es t)
  (hn:(assignEach es X.env).length=n:=by rfl) (hst:(assignEach es X.env).findIdx? (·.1)=none:=by rfl):PG X (.Tuple es k pos) (gTup X.K n t):=by
 intro pins s σ H v u Q I r hw;obtain ⟨a,xs,e1,hq,hl,hw⟩:=hw;subst e1;cases r;obtain ⟨its,rv,ht,hz⟩:=I.tuple hq;refine assign_Tuple_tuple (I.ok.hd hc) ht (by simp [hn,<- hl,rv.length]) hst fun h' hx=>?_;have I1:Inv X pins σ H { s with heap:=h' }:=I.kept (t':=s.toks) fun b o e=>hx b o (Nat.ne_of_lt (lt_size e)) e;exact h pins _ σ H xs _ Q I1 (by simpa using rv) hw
def gSub (to ti:TE) (t:TSet):TG:=fun v σ H Q=>to σ H fun o H1=>ti σ H1 fun i H2=>t o i v H2 fun H3=>Q σ H3
theorem pg_sub {o i:Expr} {to ti:TE} {t:TSet} (ho:PE X o to) (hi:PE X i ti) (hs:PSet X t)
  (ha:∀ v,assign (.Subscript o i pos) X.env v=(do
   let ov <- holding [v] (eval o X.env);let iv <- holding [v,ov] (eval i X.env)
   standAt pos
   holding [v,ov,iv] (setItem ov iv v)
   release [v,ov,iv] []):=by intro _;rfl):PG X (.Subscript o i pos) (gSub to ti t):=by
 intro pins s σ H v u Q I r h;rw [ha];refine wpAny_bind (wpAny_holding (thn (ho pins s σ H _ I h) fun ov s1 ⟨x,H1,I1,r1,q1⟩=>?_));refine wpAny_bind (wpAny_holding (thn (hi pins s1 σ H1 _ I1 q1) fun iv s2 ⟨y,H2,I2,r2,q2⟩=>?_));refine wpAny_bind (wpAny_standAt (wpAny_bind (wpAny_holding (thn (hs pins s2 σ H2 x y v ov iv u _ I2 r1 r2 r q2) fun _ s3 ⟨H3,I3,q3⟩=>?_))));exact wpAny_release ⟨σ,H3,I3,q3⟩
def tAsg (te:TE) (g:TG):TS:=fun D σ H=>te σ H fun x H1=>g x σ H1 D.nx
theorem ps_asg {tg e:Expr} {te:TE} {g:TG} (he:PE X e te) (hg:PG X tg g) (hs:swapsWithSole [tg] e pos.line X.env=pure false:=by rfl) (hw:swappedStores [tg] e X.env=pure none:=by rfl)
  (h1:(assignEach [tg] X.env).map (·.2)=[assign tg X.env]:=by rfl):PS X (.Assign [tg] e pos) (tAsg te g):=by
 intro pins s σ H D I h;refine wpAny_Assign_stores (thn (he pins s σ H _ I h) fun v s1 ⟨x,H1,I1,r1,q1⟩=>?_) hs hw;rw [h1];exact thn (hg pins s1 σ H1 x v _ I1 r1 q1) fun _ s2 q=>q
theorem Ji {i:Nat} {x:Str} {e:Expr} {te:TE} {pos':Pos} (hN:X.N.Nodup) (hi:X.N[i]?=some x) (hx:Loc X.env.scope x) (he:PE X e te) (hs:swapsWith e (some (.Name x pos')) pos.line X.env=pure false:=by rfl) (hf:X.fn x=true\/X.env.scope.names.lookup x=some .local:=by first | exact .inl rfl | exact .inr rfl | assumption) :
  PS X (.Assign [.Name x pos'] e pos) (tAsg te (gName i)):=by
 intro pins s σ H D I h;refine wpAny_Assign_Name (thn (he pins s σ H _ I h) fun v s1 ⟨y,H1,I1,r1,q1⟩=>?_) hs;exact J5q I1 hN hi hx r1 (fun s2 I2=>⟨_,H1,I2,q1⟩) hf
end
section
variable {X:Cx} {pos:Pos}
def tWhile (c:TT) (tb:TS):TS:=fun D σ H=>∃ W:Nat->St->Hp->Prop,(∃ m,W m σ H)/\∀ m σ H,W m σ H->
 c σ H fun b H1=>if b=true then ∃ N:St->Hp->Prop,(∀ σ' H',N σ' H'->∃ m',m' < m/\W m' σ' H')/\tb { D with nx:=N,ct:=N,bk:=D.nx } σ H1 else D.nx σ H1
theorem ps_while {c:Expr} {body:List Stmt} {tc:TT} {tb:TS} (hp:PassesOwn (model X.prog X.w) X.A X.env X.xe) (hc:PT X c tc) (hb:PSs X body tb):PS X (.While c body [] pos) (tWhile tc tb):=by
 intro pins s σ H D I h;obtain ⟨W,⟨m0,w0⟩,turn⟩:=h;refine wpAny_While (codeAny_whileLoop (fun n s'=>∃ σ' H',Inv X pins σ' H' s'/\W n σ' H') ?_ m0 ⟨σ,H,I,w0⟩);rintro n s1 ⟨σ1,H1,I1,w1⟩;refine wpAny_passesOwn hp (thn (hc pins s1 σ1 H1 _ I1 (turn n σ1 H1 w1)) fun b s2 ⟨H2,I2,q2⟩=>?_)
 cases b with
 | true =>
  obtain ⟨N,hN,q2⟩:=q2;rw [if_pos rfl];refine wpAny_passesOwn hp (thn (hb pins s2 σ1 H2 _ I2 q2) fun f s3 q3=>?_)
  cases f with
  | next =>
   obtain ⟨σ3,H3,I3,n3⟩:=q3;obtain ⟨m',hm,w3⟩:=hN σ3 H3 n3;exact ⟨m',hm,σ3,H3,I3,w3⟩
  | cont =>
   obtain ⟨σ3,H3,I3,n3⟩:=q3;obtain ⟨m',hm,w3⟩:=hN σ3 H3 n3;exact ⟨m',hm,σ3,H3,I3,w3⟩
  | brk=>exact q3
  | ret v=>exact q3
 | false =>
  rw [if_neg Bool.false_ne_true];exact wpAny_execs_nil ⟨σ1,H2,I2,q2⟩
end
structure It where
 go:Nat->Hp->Prop
 yld:Nat->Hp->V->Hp->Prop
 stop:Nat->Hp->Prop
def FpOk (X:Cx) (pins:List (Addr × Obj)) (H:Hp) (b:Addr):Prop :=
 H b=none/\b≠X.env.locals/\b ∉ X.fs/\(b∈X.ex\/X.s₀.heap.objs.size<=b)/\(∀ x c,X.env.cells.lookup x=some c->c≠b)/\∀ p∈X.pn ++ pins,p.1≠b
theorem Inv.fpOk {X:Cx} {pins:List (Addr × Obj)} {σ:St} {H H':Hp} {s:Shared} {b:Addr} (I:Inv X pins σ H s) (hb:s.heap.objs.size<=b) (hn:H' b=none):FpOk X pins H' b:=by
 refine ⟨hn,Nat.ne_of_gt (Nat.lt_of_lt_of_le I.lt hb),I.nofs hb,.inr (Nat.le_trans I.sz hb),fun x c e z=>?_,fun p hp z=>?_⟩
 ·obtain ⟨v,q⟩:=I.cell x c e;exact absurd (Nat.lt_of_lt_of_le q.lt (by rw [z];exact hb)) (Nat.lt_irrefl _)
 ·exact absurd (Nat.lt_of_lt_of_le (lt_size (I.pin p hp).1) (by rw [z];exact hb)) (Nat.lt_irrefl _)
structure Turn (P:Program) (w:World) (K:PySem.W.Frag) (tg:Expr) (J:It) (fp:List Addr) (it:Addr) (tn:Nat->Heap->Prop):Prop where
 mem:it∈fp
 obj:∀ i h,tn i h->∀ b∈fp,∃ o,h.get? b=some o/\∀ v,o.data≠.cell v
 keep:∀ i h h',tn i h->(∀ b∈fp,∀ o,h.get? b=some o->h'.get? b=some o)->tn i h'
 item:∀ (X:Cx),X.prog=P->X.w=w->X.K=K->X.calm=true->∀ (i:Nat) (pins:List (Addr × Obj)) (s:Shared) (σ:St) (H:Hp) (E:Value->Shared->Prop),Inv X pins σ H s->(∀ b∈fp,FpOk X pins H b)->tn i s.heap->J.go i H->
  wpAny (model P w) X.A (pyNext (.ref it)) (fun r s1=>∃ u,r=some u/\
   wpAny (model P w) X.A (letOwnedTupleGo tg (.ref it) u) (fun _ s2=>∃ x H',Inv X pins σ H' s2/\RelV x u/\J.yld i H x H'/\tn (i + 1) s2.heap/\∀ b∈fp,H' b=none) E s1) E s
 done:∀ (X:Cx),X.prog=P->X.w=w->X.K=K->X.calm=true->∀ (i:Nat) (pins:List (Addr × Obj)) (s:Shared) (σ:St) (H:Hp) (E:Value->Shared->Prop),Inv X pins σ H s->(∀ b∈fp,FpOk X pins H b)->tn i s.heap->J.stop i H->
  wpAny (model P w) X.A (pyNext (.ref it)) (fun r s1=>r=none/\Inv X pins σ H s1) E s
 self:∀ (A:Around) (i:Nat) (s:Shared) (Q:Value->Shared->Prop) (E:Value->Shared->Prop),tn i s.heap->Q (.ref it) s->wpAny (model P w) A (pyIter (.ref it)) Q E s
abbrev TI:=St->Hp->(It->Hp->Prop)->Prop
def PIE (X:Cx) (pins:List (Addr × Obj)) (σ:St) (tg:Expr) (R:It->Hp->Prop) (itv:Value) (s2:Shared):Prop :=
 ∃ (it:Addr) (fp:List Addr) (tn:Nat->Heap->Prop) (J:It) (H':Hp),itv=.ref it/\Inv X pins σ H' s2/\Turn X.prog X.w X.K tg J fp it tn/\tn 0 s2.heap/\(∀ b∈fp,FpOk X pins H' b)/\R J H'
def PI (X:Cx) (tg iter:Expr) (wi:TI):Prop :=
 ∀ (pins:List (Addr × Obj)) (s:Shared) (σ:St) (H:Hp) (R:It->Hp->Prop),Inv X pins σ H s->wi σ H R->
  wpAny (model X.prog X.w) X.A (eval iter X.env) (fun v s1=>wpAny (model X.prog X.w) X.A (pyIter v) (PIE X pins σ tg R) X.xe s1) X.xe s
theorem go_of {M : Model} {A : Around} {E : Value -> Shared -> Prop} {s : Shared} {tg : Expr} {it : Addr} {u : Value} {o : Obj} {n : String} {vs : Array Value} {Q : Unit -> Shared -> Prop} (ho : s.heap.get? it = some o) (hc : o.cls = .type n) (hd : o.data = .fields vs)
    (hn : ["enumerate", "zip", "dict_itemiterator", "dict_reverseitemiterator", "odict_iterator", "itertools.zip_longest", "itertools.pairwise"].contains n = false) (hQ : Q () s) : wpAny M A (letOwnedTupleGo tg (.ref it) u) Q E s := by
  unfold letOwnedTupleGo;cases tg <;> first
    | exact wpAny_pure hQ
    | (cases u <;> first
        | exact wpAny_pure hQ
        | (refine wpAny_bind (wpAny_load ho ?_)
           rw [hc, hd];show wpAny M A (if (["enumerate", "zip", "dict_itemiterator", "dict_reverseitemiterator", "odict_iterator", "itertools.zip_longest", "itertools.pairwise"].contains n && vs[0]? == some (rawInt _)) = true then _ else _) Q E s;rw [if_neg (by intro h; rw [hn, Bool.false_and] at h; cases h)];exact wpAny_pure hQ))
def Itl (K:PySem.W.Frag) (a:Addr):It :=
 ⟨fun i H=>∃ xs x,SqL K H a xs/\xs[i]?=some x,fun i H x H'=>H'=H/\∀ xs,SqL K H a xs->xs[i]?=some x,fun i H=>∃ xs,SqL K H a xs/\xs.length<=i⟩
def Itt (K:PySem.W.Frag) (a:Addr):It :=
 ⟨fun i H=>∃ xs x,SqT K H a xs/\xs[i]?=some x,fun i H x H'=>H'=H/\∀ xs,SqT K H a xs->xs[i]?=some x,fun i H=>∃ xs,SqT K H a xs/\xs.length<=i⟩
def Itr (lo:Int) (n:Nat):It:=⟨fun i _=>i < n,fun i H x H'=>H'=H/\x=.int (lo + i),fun i _=>n<=i⟩
theorem turn_list {P:Program} {w:World} {K:PySem.W.Frag} {tg:Expr} (a it:Addr):Turn P w K tg (Itl K a) [it] it (fun i h=>h.IsListIter it a i) where
 mem:=by simp
 obj:=fun i h st b hb=>by
  have e:b=it:=by simpa using hb
  subst e;obtain ⟨o,e,c,d⟩:=st;exact ⟨o,e,fun v z=>by rw [d] at z;cases z⟩
 keep:=fun i h h' st k=>st.at fun o e=>k it (by simp) o e
 item:=by
  intro X hP hw hK hc i pins s σ H E I hf st hg;subst hP hw hK;obtain ⟨xs,x,hq,hx⟩:=hg;obtain ⟨its,rv,p,hz⟩:=I.list hq;obtain ⟨u,hu,ru⟩:=rv.get hx;obtain ⟨f0,f1,f2,f3,f4,f5⟩:=hf it (by simp);refine wpAny_pyNext_list_item st p.isList (x:=u) (by simpa using hu) fun h' st' sb=>?_;have I1:Inv X pins σ H { s with heap:=h' }:=I.turned (t':=s.toks) (fun b o hb e=>(sb.2 b hb).trans e) f0 f1 f3 f4 f5;obtain ⟨o,e,c,d⟩:=id st';exact ⟨u,rfl,go_of (s:={ s with heap:=h' }) e c d (by decide) ⟨x,H,I1,ru,⟨rfl,fun ys hy=>by rw [I.list_inj hy hq];exact hx⟩,st',fun b hb=>(hf b hb).1⟩⟩
 done:=by
  intro X hP hw hK hc i pins s σ H E I hf st hg;subst hP hw hK;obtain ⟨xs,hq,hx⟩:=hg;obtain ⟨its,rv,p,hz⟩:=I.list hq;obtain ⟨f0,f1,f2,f3,f4,f5⟩:=hf it (by simp);have hl:=rv.length;exact wpAny_pyNext_list_end (I.ok.hd hc) st p.isList (by simp;lia) fun h' eb=>⟨rfl,I.turned (t':=s.toks) (fun b o hb e=>eb b o hb e) f0 f1 f3 f4 f5⟩
 self:=fun _ _ _ _ _ st h=>wpAny_pyIter_listiter st h
theorem turn_tuple {P:Program} {w:World} {K:PySem.W.Frag} {tg:Expr} (a it:Addr):Turn P w K tg (Itt K a) [it] it (fun i h=>h.IsTupleIter it a i) where
 mem:=by simp
 obj:=fun i h st b hb=>by
  have e:b=it:=by simpa using hb
  subst e;obtain ⟨o,e,c,d⟩:=st;exact ⟨o,e,fun v z=>by rw [d] at z;cases z⟩
 keep:=fun i h h' st k=>st.at fun o e=>k it (by simp) o e
 item:=by
  intro X hP hw hK hc i pins s σ H E I hf st hg;subst hP hw hK;obtain ⟨xs,x,hq,hx⟩:=hg;obtain ⟨its,rv,p,hz⟩:=I.tuple hq;obtain ⟨u,hu,ru⟩:=rv.get hx;obtain ⟨f0,f1,f2,f3,f4,f5⟩:=hf it (by simp);refine wpAny_pyNext_tuple_item st (show s.heap.IsTuple a its.toArray from p) (x:=u) (by simpa using hu) fun h' st' sb=>?_;have I1:Inv X pins σ H { s with heap:=h' }:=I.turned (t':=s.toks) (fun b o hb e=>(sb.2 b hb).trans e) f0 f1 f3 f4 f5;obtain ⟨o,e,c,d⟩:=id st';exact ⟨u,rfl,go_of (s:={ s with heap:=h' }) e c d (by decide) ⟨x,H,I1,ru,⟨rfl,fun ys hy=>by rw [I.tuple_inj hy hq];exact hx⟩,st',fun b hb=>(hf b hb).1⟩⟩
 done:=by
  intro X hP hw hK hc i pins s σ H E I hf st hg;subst hP hw hK;obtain ⟨xs,hq,hx⟩:=hg;obtain ⟨its,rv,p,hz⟩:=I.tuple hq;obtain ⟨f0,f1,f2,f3,f4,f5⟩:=hf it (by simp);have hl:=rv.length;exact wpAny_pyNext_tuple_end (I.ok.hd hc) st (show s.heap.IsTuple a its.toArray from p) (by simp;lia) fun h' eb=>⟨rfl,I.turned (t':=s.toks) (fun b o hb e=>eb b o hb e) f0 f1 f3 f4 f5⟩
 self:=fun _ _ _ _ _ st h=>wpAny_pyIter_tupleiter st h
theorem turn_range {P:Program} {w:World} {K:PySem.W.Frag} {tg:Expr} (it:Addr) (lo:Int) (n:Nat):Turn P w K tg (Itr lo n) [it] it (fun i h=>IsRangeIter h it (lo + (i:Nat) * 1) ((n:Int) - (i:Nat)) 1) where
 mem:=by simp
 obj:=fun i h st b hb=>by
  have e:b=it:=by simpa using hb
  subst e;exact ⟨_,st,fun v z=>by
   have z':Data.fields _=Data.cell v:=z;cases z'⟩
 keep:=fun i h h' st k=>k it (by simp) _ st
 item:=by
  intro X hP hw hK hc i pins s σ H E I hf st hg;subst hP hw hK;obtain ⟨f0,f1,f2,f3,f4,f5⟩:=hf it (by simp);have W:=Walks.range (prog:=X.prog) (w:=X.w) (I.ok.hd hc) it lo 1 n;refine W.item i s _ _ hg st fun v h' tk hv st' kk=>?_;obtain ⟨t,rfl⟩:=hv;have I1:Inv X pins σ H { s with heap:=h',toks:=tk }:=I.turned (fun b o hb e=>kk b o (by simpa using hb) e) f0 f1 f3 f4 f5;refine ⟨_,rfl,go_of (s:={ s with heap:=h',toks:=tk }) (n:="range_iterator") st' rfl rfl (by decide) ⟨.int (lo + i),H,I1,⟨t,?_⟩,⟨rfl,rfl⟩,st',fun b hb=>(hf b hb).1⟩⟩;rw [Int.mul_one]
 done:=by
  intro X hP hw hK hc i pins s σ H E I hf st hg;subst hP hw hK;obtain ⟨f0,f1,f2,f3,f4,f5⟩:=hf it (by simp);exact wpAny_pyNext_range_end (I.ok.hd hc) st (by have:n<=i:=hg;lia) fun h' eb=>⟨rfl,I.turned (t':=s.toks) (fun b o hb e=>eb b o hb e) f0 f1 f3 f4 f5⟩
 self:=fun _ _ _ _ _ st h=>wpAny_pyIter_rangeiter st h
end L2
namespace L2
open PySem PySem.Spec PyProof.Rows
section
variable {X:Cx} {tg:Expr}
def iList (K:PySem.W.Frag) (tl:TE):TI:=fun σ H R=>tl σ H fun x H1=>∃ a,x=.ref a/\(∃ xs,SqL K H1 a xs)/\R (Itl K a) H1
def iTup (K:PySem.W.Frag) (tl:TE):TI:=fun σ H R=>tl σ H fun x H1=>∃ a,x=.ref a/\(∃ xs,SqT K H1 a xs)/\R (Itt K a) H1
theorem J2f {l:Expr} {tl:TE} (hl:PE X l tl):PI X tg l (iList X.K tl):=by
 intro pins s σ H R I h;refine thn (hl pins s σ H _ I h) fun v s1 ⟨x,H1,I1,r1,q1⟩=>?_;obtain ⟨a,e,⟨xs,hq⟩,q⟩:=q1;subst e;cases r1;obtain ⟨its,rv,p,hz⟩:=I1.list hq;refine wpAny_pyIter_list p.isList ?_;refine ⟨s1.heap.objs.size,[s1.heap.objs.size],_,_,H1,rfl,I1.kept (t':=s1.toks) fun b o e=>get?_push_of_some _ e,turn_list a _,⟨_,get?_push_size _ rfl,rfl,rfl⟩,fun b hb=>?_,q⟩;have e:b=s1.heap.objs.size:=by simpa using hb
 subst e;exact I1.fpOk (Nat.le_refl _) (I1.hok.fresh (Nat.le_refl _))
theorem pi_tup {l:Expr} {tl:TE} (hl:PE X l tl):PI X tg l (iTup X.K tl):=by
 intro pins s σ H R I h;refine thn (hl pins s σ H _ I h) fun v s1 ⟨x,H1,I1,r1,q1⟩=>?_;obtain ⟨a,e,⟨xs,hq⟩,q⟩:=q1;subst e;cases r1;obtain ⟨its,rv,p,hz⟩:=I1.tuple hq;refine wpAny_pyIter_tuple (show s1.heap.IsTuple a its.toArray from p) ?_;refine ⟨s1.heap.objs.size,[s1.heap.objs.size],_,_,H1,rfl,I1.kept (t':=s1.toks) fun b o e=>get?_push_of_some _ e,turn_tuple a _,⟨_,get?_push_size _ rfl,rfl,rfl⟩,fun b hb=>?_,q⟩;have e:b=s1.heap.objs.size:=by simpa using hb
 subst e;exact I1.fpOk (Nat.le_refl _) (I1.hok.fresh (Nat.le_refl _))
theorem range_it {pins:List (Addr × Obj)} {σ:St} {H:Hp} {s:Shared} {R:It->Hp->Prop} {E:Value->Shared->Prop} {lo hi:Int} {t u v:Tok} {tk:Nat} (I:Inv X pins σ H s) (h1:-(2 ^ 62)<=lo) (h2:lo < 2 ^ 62) (h3:-(2 ^ 62)<=hi) (h4:hi < 2 ^ 62)
  (q:R (Itr lo (hi - lo).toNat) H):wpAny (model X.prog X.w) X.A (pyIter (.ref s.heap.objs.size)) (PIE X pins σ tg R) E { s with heap:=s.heap.push { cls:=.type "range",data:=.fields #[.int lo t,.int hi u,.int 1 v] },toks:=tk }:=by
 refine wpAny_pyIter_range (IsRange.new ..) (small_one h1 h2 h3 h4) ?_;have I1:Inv X pins σ H { s with heap:=s.heap.push { cls:=.type "range",data:=.fields #[.int lo t,.int hi u,.int 1 v] },toks:=tk }:=I.kept fun b o e=>get?_push_of_some _ e;refine ⟨(s.heap.push { cls:=.type "range",data:=.fields #[.int lo t,.int hi u,.int 1 v] }).objs.size,[(s.heap.push { cls:=.type "range",data:=.fields #[.int lo t,.int hi u,.int 1 v] }).objs.size],_,_,H,rfl,
  I1.kept (t':=tk) fun b o e=>get?_push_of_some _ e,turn_range _ lo (hi - lo).toNat,?_,fun b hb=>?_,q⟩
 ·have e1:lo + ((0:Nat):Int) * 1=lo:=by simp
  have e2:(((hi - lo).toNat:Nat):Int) - ((0:Nat):Int)=Builtin.Range.rangeSize lo hi 1:=by rw [rangeSize_one];split <;> lia
  show IsRangeIter _ _ (lo + ((0:Nat):Int) * 1) ((((hi - lo).toNat:Nat):Int) - ((0:Nat):Int)) 1;rw [e1,e2];exact get?_push_size _ rfl
 ·have e:b=(s.heap.push { cls:=.type "range",data:=.fields #[.int lo t,.int hi u,.int 1 v] }).objs.size:=by simpa using hb
  subst e;exact I1.fpOk (Nat.le_refl _) (I1.hok.fresh (Nat.le_refl _))
def iRng1 (ta:TA):TI:=fun σ H R=>ta σ H fun vs H1=>∃ j:Int,vs=[.int j]/\-(2 ^ 62)<=j/\j < 2 ^ 62/\R (Itr 0 j.toNat) H1
theorem J4j {a:Expr} {ta:TA} {p pos:Pos} (hg:Gl X "range") (hm:X.mg "range"=none) (ha:PA X [a] ta) (hs:starEach [a] X.env=[(false,eval a X.env)]:=by rfl):PI X tg (.Call (.Name "range" p) [a] [] pos) (iRng1 ta):=by
 intro pins s σ H R I h;refine Call_ (J6c I hg hm boot_range (callWith_type1 (thn (ha pos pins s σ H _ I h) fun us s1 ⟨vs,H1,I1,r1,q1⟩=>?_) hs rfl));obtain ⟨j,e,q1,q2,q⟩:=q1;subst e
 cases r1 with
 | cons r rr =>
  cases rr;obtain ⟨t,rfl⟩:=r;exact call_range_1 (range_it I1 (by lia) (by lia) q1 q2 (by simpa using q))
def tFor (wi:TI) (g:TG) (tb:TS):TS:=fun D σ H=>wi σ H fun J H1=>∃ W:Nat->Nat->St->Hp->Prop,(∃ m,W 0 m σ H1)/\∀ i m σ H,W i m σ H->
 (J.stop i H/\D.nx σ H)\/(J.go i H/\∃ N:St->Hp->Prop,(∀ σ' H',N σ' H'->∃ m',m' < m/\W (i + 1) m' σ' H')/\∀ x H',J.yld i H x H'->g x σ H' fun σ2 H2=>tb { D with nx:=N,ct:=N,bk:=D.nx } σ2 H2)
def pinsAt (fp:List Addr) (h:Heap):List (Addr × Obj):=fp.filterMap fun b=>(h.get? b).map fun o=>(b,o)
theorem J1u {fp:List Addr} {h:Heap} {b:Addr} {o:Obj} (hb:b∈fp) (e:h.get? b=some o):(b,o)∈pinsAt fp h:=List.mem_filterMap.mpr ⟨b,hb,by rw [e];rfl⟩
theorem of_pinsAt {fp:List Addr} {h:Heap} {p:Addr × Obj} (hp:p∈pinsAt fp h):p.1∈fp/\h.get? p.1=some p.2:=by
 obtain ⟨b,hb,e⟩:=List.mem_filterMap.mp hp
 cases q:h.get? b with
 | none=>rw [q] at e;cases e
 | some o =>
  rw [q] at e;have e':(b,o)=p:=Option.some.inj e;subst e';exact ⟨hb,q⟩
theorem Inv.pinned {pins:List (Addr × Obj)} {σ:St} {H:Hp} {s:Shared} {fp:List Addr} (I:Inv X pins σ H s) (hf:∀ b∈fp,FpOk X pins H b) (ho:∀ b∈fp,∃ o,s.heap.get? b=some o/\∀ v,o.data≠.cell v):Inv X (pins ++ pinsAt fp s.heap) σ H s :=
 I.pins_of fun p hp=>(mem_append.mp hp).elim (fun z=>I.pin p (mem_append_right _ z)) fun z=>by
  obtain ⟨hb,e⟩:=of_pinsAt z;obtain ⟨f0,f1,f2,_⟩:=hf p.1 hb;obtain ⟨o,e',d⟩:=ho p.1 hb;rw [e] at e';cases e';exact ⟨e,f0,f1,f2,d⟩
theorem Inv.unpinned {pins pl:List (Addr × Obj)} {σ:St} {H:Hp} {s:Shared} (I:Inv X (pins ++ pl) σ H s):Inv X pins σ H s:=I.pins_of fun p hp=>I.pin p (mem_append_right _ (List.mem_append_left _ hp))
theorem J34 {iter:Expr} {body:List Stmt} {wi:TI} {g:TG} {tb:TS} {pos:Pos} (hp:PassesOwn (model X.prog X.w) X.A X.env X.xe) (hc:X.calm=true) (hi:PI X tg iter wi) (hg:PG X tg g) (hb:PSs X body tb)
  (hs:∀ x,foldedSetIterable iter X.env x=pure x:=by intro _;rfl):PS X (.For tg iter body [] pos) (tFor wi g tb):=by
 intro pins s σ H D I h;refine wpAny_For (thn (hi pins s σ H _ I h) fun v s1 h1=>thn h1 fun itv s2 h2=>?_) hs;obtain ⟨it,fp,tn,J,H2,e,I2,T,st2,f2,W,⟨m0,w0⟩,turn⟩:=h2;subst e;have stat:∀ {H':Hp},(∀ b∈fp,H' b=none)->∀ b∈fp,FpOk X pins H' b:=fun hn b hb=>⟨hn b hb,(f2 b hb).2⟩;refine codeAny_forLoop_any (fun n s'=>∃ i σ' H',Inv X pins σ' H' s'/\tn i s'.heap/\(∀ b∈fp,H' b=none)/\W i n σ' H') ?_ m0 ⟨0,σ,H2,I2,st2,fun b hb=>(f2 b hb).1,w0⟩;rintro n s3 ⟨i,σ3,H3,I3,st3,fr3,w3⟩;rcases turn i n σ3 H3 w3 with ⟨stop,qn⟩ | ⟨go,N,hN,step⟩
 ·refine wpAny_passesOwn hp (thn (T.done X rfl rfl rfl hc i pins s3 σ3 H3 X.xe I3 (stat fr3) st3 stop) fun r s4 ⟨hr,I4⟩=>?_);subst hr;exact wpAny_execs_nil ⟨σ3,H3,I4,qn⟩
 ·refine wpAny_passesOwn hp (thn (T.item X rfl rfl rfl hc i pins s3 σ3 H3 X.xe I3 (stat fr3) st3 go) fun r s4 ⟨u,hr,h4⟩=>?_);subst hr;refine wpAny_passesOwn hp (thn h4 fun _ s5 ⟨x,H5,I5,r5,y5,st5,fr5⟩=>?_);have I5':=I5.pinned (stat fr5) (T.obj _ _ st5);refine wpAny_passesOwn hp (thn (hg _ s5 σ3 H5 x u _ I5' r5 (step x H5 y5)) fun _ s6 ⟨σ6,H6,I6,q6⟩=>?_);refine wpAny_passesOwn hp (thn (hb _ s6 σ6 H6 _ I6 q6) fun f s7 q7=>?_);have again:∀ {σ7:St} {H7:Hp},Inv X (pins ++ pinsAt fp s5.heap) σ7 H7 s7->N σ7 H7->∃ m,m < n/\∃ i σ' H',Inv X pins σ' H' s7/\tn i s7.heap/\(∀ b∈fp,H' b=none)/\W i m σ' H':=fun {σ7 H7} I7 n7=>by
   obtain ⟨m',hm,w7⟩:=hN σ7 H7 n7;refine ⟨m',hm,i + 1,σ7,H7,I7.unpinned,T.keep _ _ _ st5 fun b hb o e=>(I7.pin (b,o) (mem_append_right _ (mem_append_right _ (J1u hb e)))).1,fun b hb=>?_,w7⟩;obtain ⟨o,e,d⟩:=T.obj _ _ st5 b hb;exact (I7.pin (b,o) (mem_append_right _ (mem_append_right _ (J1u hb e)))).2.1
  cases f with
  | next=>obtain ⟨σ7,H7,I7,n7⟩:=q7;exact again I7 n7
  | cont=>obtain ⟨σ7,H7,I7,n7⟩:=q7;exact again I7 n7
  | brk=>obtain ⟨σ7,H7,I7,q7⟩:=q7;exact ⟨σ7,H7,I7.unpinned,q7⟩
  | ret v=>obtain ⟨x7,σ7,H7,I7,r7,q7⟩:=q7;exact ⟨x7,σ7,H7,I7.unpinned,r7,q7⟩
end
theorem J2k {K:PySem.W.Frag} {a:Addr} {xs:List V} {g:TG} {tb:TS} {D:Ends} {σ:St} {H:Hp} (Pv:Nat->St->Hp->Prop) (h0:Pv 0 σ H) (hl:∀ i σ H,i<=xs.length->Pv i σ H->SqL K H a xs)
  (hs:∀ i x σ H,xs[i]?=some x->Pv i σ H->g x σ H fun σ2 H2=>tb { D with nx:=Pv (i + 1),ct:=Pv (i + 1),bk:=D.nx } σ2 H2) (hd:∀ σ H,Pv xs.length σ H->D.nx σ H) :
  ∃ W:Nat->Nat->St->Hp->Prop,(∃ m,W 0 m σ H)/\∀ i m σ H,W i m σ H->
   ((Itl K a).stop i H/\D.nx σ H)\/((Itl K a).go i H/\∃ N:St->Hp->Prop,(∀ σ' H',N σ' H'->∃ m',m' < m/\W (i + 1) m' σ' H')/\∀ x H',(Itl K a).yld i H x H'->g x σ H' fun σ2 H2=>tb { D with nx:=N,ct:=N,bk:=D.nx } σ2 H2):=by
 refine ⟨fun i m σ H=>m=xs.length - i/\i<=xs.length/\Pv i σ H,⟨xs.length,by simp,Nat.zero_le _,h0⟩,?_⟩;rintro i m σ H ⟨rfl,hi,p⟩;have q:=hl i σ H hi p;by_cases hlt:i < xs.length
 ·refine .inr ⟨⟨xs,xs[i],q,by simp [hlt]⟩,Pv (i + 1),fun σ' H' p'=>⟨xs.length - (i + 1),by lia,rfl,hlt,p'⟩,fun x H' y=>?_⟩;obtain ⟨e,y⟩:=y;subst e;exact hs i x σ _ (y xs q) p
 ·have e:i=xs.length:=by lia
  subst e;exact .inl ⟨⟨xs,q,Nat.le_refl _⟩,hd σ H p⟩
theorem for_tup {K:PySem.W.Frag} {a:Addr} {xs:List V} {g:TG} {tb:TS} {D:Ends} {σ:St} {H:Hp} (Pv:Nat->St->Hp->Prop) (h0:Pv 0 σ H) (hl:∀ i σ H,i<=xs.length->Pv i σ H->SqT K H a xs)
  (hs:∀ i x σ H,xs[i]?=some x->Pv i σ H->g x σ H fun σ2 H2=>tb { D with nx:=Pv (i + 1),ct:=Pv (i + 1),bk:=D.nx } σ2 H2) (hd:∀ σ H,Pv xs.length σ H->D.nx σ H) :
  ∃ W:Nat->Nat->St->Hp->Prop,(∃ m,W 0 m σ H)/\∀ i m σ H,W i m σ H->
   ((Itt K a).stop i H/\D.nx σ H)\/((Itt K a).go i H/\∃ N:St->Hp->Prop,(∀ σ' H',N σ' H'->∃ m',m' < m/\W (i + 1) m' σ' H')/\∀ x H',(Itt K a).yld i H x H'->g x σ H' fun σ2 H2=>tb { D with nx:=N,ct:=N,bk:=D.nx } σ2 H2):=by
 refine ⟨fun i m σ H=>m=xs.length - i/\i<=xs.length/\Pv i σ H,⟨xs.length,by simp,Nat.zero_le _,h0⟩,?_⟩;rintro i m σ H ⟨rfl,hi,p⟩;have q:=hl i σ H hi p;by_cases hlt:i < xs.length
 ·refine .inr ⟨⟨xs,xs[i],q,by simp [hlt]⟩,Pv (i + 1),fun σ' H' p'=>⟨xs.length - (i + 1),by lia,rfl,hlt,p'⟩,fun x H' y=>?_⟩;obtain ⟨e,y⟩:=y;subst e;exact hs i x σ _ (y xs q) p
 ·have e:i=xs.length:=by lia
  subst e;exact .inl ⟨⟨xs,q,Nat.le_refl _⟩,hd σ H p⟩
theorem for_range {lo:Int} {n:Nat} {g:TG} {tb:TS} {D:Ends} {σ:St} {H:Hp} (Pv:Nat->St->Hp->Prop) (h0:Pv 0 σ H)
  (hs:∀ i σ H,i < n->Pv i σ H->g (.int (lo + i)) σ H fun σ2 H2=>tb { D with nx:=Pv (i + 1),ct:=Pv (i + 1),bk:=D.nx } σ2 H2) (hd:∀ σ H,Pv n σ H->D.nx σ H) :
  ∃ W:Nat->Nat->St->Hp->Prop,(∃ m,W 0 m σ H)/\∀ i m σ H,W i m σ H->
   ((Itr lo n).stop i H/\D.nx σ H)\/((Itr lo n).go i H/\∃ N:St->Hp->Prop,(∀ σ' H',N σ' H'->∃ m',m' < m/\W (i + 1) m' σ' H')/\∀ x H',(Itr lo n).yld i H x H'->g x σ H' fun σ2 H2=>tb { D with nx:=N,ct:=N,bk:=D.nx } σ2 H2):=by
 refine ⟨fun i m σ H=>m=n - i/\i<=n/\Pv i σ H,⟨n,by simp,Nat.zero_le _,h0⟩,?_⟩;rintro i m σ H ⟨rfl,hi,p⟩;by_cases hlt:i < n
 ·refine .inr ⟨hlt,Pv (i + 1),fun σ' H' p'=>⟨n - (i + 1),by lia,rfl,hlt,p'⟩,fun x H' y=>?_⟩;obtain ⟨e,y⟩:=y;subst e y;exact hs i σ _ hlt p
 ·have e:i=n:=by lia
  subst e;exact .inl ⟨Nat.le_refl _,hd σ H p⟩
end L2
namespace L2
open PySem PySem.Spec PyProof.Rows
abbrev R2:=V->V->Hp->VK->Prop
def OpR (X:Cx) (f:Value->Value->Sem Value) (r:R2):Prop :=
 ∀ (pins:List (Addr × Obj)) (s:Shared) (σ:St) (H:Hp) (x y:V) (v u:Value) (Q:VK),Inv X pins σ H s->RelV x v->RelV y u->r x y H Q->
  wpAny (model X.prog X.w) X.A (f v u) (EP X pins σ Q) X.xe s
def UnR (X:Cx) (f:Value->Sem Value) (r:V->Hp->VK->Prop):Prop :=
 ∀ (pins:List (Addr × Obj)) (s:Shared) (σ:St) (H:Hp) (x:V) (v:Value) (Q:VK),Inv X pins σ H s->RelV x v->r x H Q->
  wpAny (model X.prog X.w) X.A (f v) (EP X pins σ Q) X.xe s
def CallR (X:Cx) (f:Value) (r:List V->Hp->VK->Prop):Prop :=
 ∀ (pins:List (Addr × Obj)) (s:Shared) (σ:St) (H:Hp) (xs:List V) (us:List Value) (Q:VK),Inv X pins σ H s->Vals xs us->r xs H Q->
  wpAny (model X.prog X.w) X.A (call f us) (EP X pins σ Q) X.xe s
def TruR (X:Cx) (r:V->Hp->(Bool->Hp->Prop)->Prop):Prop :=
 ∀ (pins:List (Addr × Obj)) (s:Shared) (σ:St) (H:Hp) (x:V) (v:Value) (Q:Bool->Hp->Prop),Inv X pins σ H s->RelV x v->r x H Q->
  wpAny (model X.prog X.w) X.A (truthy v) (TP X pins σ Q) X.xe s
def tOp (r:R2) (ta tb:TE):TE:=fun σ H Q=>ta σ H fun x H1=>tb σ H1 fun y H2=>r x y H2 Q
def tUn (r:V->Hp->VK->Prop) (ta:TE):TE:=fun σ H Q=>ta σ H fun x H1=>r x H1 Q
def rI (C:Int->Int->Prop) (g:Int->Int->V):R2:=fun x y H Q=>∃ i j,x=.int i/\y=.int j/\C i j/\Q (g i j) H
def rI0 (g:Int->Int->V):R2:=fun x y H Q=>∃ i j,x=.int i/\y=.int j/\Q (g i j) H
def rU (g:Int->V):V->Hp->VK->Prop:=fun x H Q=>∃ i,x=.int i/\Q (g i) H
section
variable {X:Cx} {a b c:Expr} {ta tb tc:TE} {pos:Pos}
theorem binT (ha:PE X a ta) (hb:PE X b tb) {pins:List (Addr × Obj)} {s:Shared} {σ:St} {H:Hp} {R:V->V->Hp->Prop} (I:Inv X pins σ H s)
  (h:ta σ H fun x H1=>tb σ H1 fun y H2=>R x y H2) {Q:Value->Shared->Prop} {f:Value->Value->Sem Value}
  (hf:∀ v u s2 x y H2,Inv X pins σ H2 s2->RelV x v->RelV y u->R x y H2->wpAny (model X.prog X.w) X.A (f v u) Q X.xe s2) :
  wpAny (model X.prog X.w) X.A (eval a X.env) (fun v s₁=>wpAny (model X.prog X.w) X.A (eval b X.env) (fun u s₂=>wpAny (model X.prog X.w) X.A (f v u) Q X.xe s₂) X.xe s₁) X.xe s:=by
 refine thn (ha pins s σ H _ I h) fun v s1 ⟨x,H1,I1,r1,q1⟩=>?_;refine thn (hb pins s1 σ H1 _ I1 q1) fun u s2 ⟨y,H2,I2,r2,q2⟩=>?_;exact hf v u s2 x y H2 I2 r1 r2 q2
theorem pe_op {op:Operator} {r:R2} (ho:OpR X (binaryOp op) r) (ha:PE X a ta) (hb:PE X b tb):PE X (.BinOp a op b pos) (tOp r ta tb):=by
 intro pins s σ H Q I h;exact wpAny_BinOp (binT ha hb I h fun v u s2 x y H2 I2 rx ry q=>ho pins s2 σ H2 x y v u Q I2 rx ry q)
theorem pe_un {op:UnaryOp} {r:V->Hp->VK->Prop} (ho:UnR X (unaryOp op) r) (ha:PE X a ta):PE X (.UnaryOp op a pos) (tUn r ta):=by
 intro pins s σ H Q I h;exact UnaryOp_ (thn (ha pins s σ H _ I h) fun v s1 ⟨x,H1,I1,r1,q1⟩=>ho pins s1 σ H1 x v Q I1 r1 q1)
theorem opI {f:Value->Value->Sem Value} {C:Int->Int->Prop} {g:Int->Int->Int}
  (rule:∀ (i j:Int) (t u:Tok) (s:Shared) (Q:Value->Shared->Prop) (E:Value->Shared->Prop),C i j->Q (.int (g i j) s.toks) { s with toks:=s.toks + 1 }->wpAny (model X.prog X.w) X.A (f (.int i t) (.int j u)) Q E s) :
  OpR X f (rI C fun i j=>.int (g i j)):=by
 intro pins s σ H x y v u Q I rx ry h;obtain ⟨i,j,rfl,rfl,hc,q⟩:=h;obtain ⟨t,rfl⟩:=rx;obtain ⟨t',rfl⟩:=ry;exact rule i j t t' s _ _ hc ⟨.int (g i j),H,I.tok _,⟨_,rfl⟩,q⟩
theorem opI0 {f:Value->Value->Sem Value} {g:Int->Int->Int}
  (rule:∀ (i j:Int) (t u:Tok) (s:Shared) (Q:Value->Shared->Prop) (E:Value->Shared->Prop),Q (.int (g i j) s.toks) { s with toks:=s.toks + 1 }->wpAny (model X.prog X.w) X.A (f (.int i t) (.int j u)) Q E s) :
  OpR X f (rI0 fun i j=>.int (g i j)):=by
 intro pins s σ H x y v u Q I rx ry h;obtain ⟨i,j,rfl,rfl,q⟩:=h;obtain ⟨t,rfl⟩:=rx;obtain ⟨t',rfl⟩:=ry;exact rule i j t t' s _ _ ⟨.int (g i j),H,I.tok _,⟨_,rfl⟩,q⟩
theorem opB0 {f:Value->Value->Sem Value} {g:Int->Int->Bool}
  (rule:∀ (i j:Int) (t u:Tok) (s:Shared) (Q:Value->Shared->Prop) (E:Value->Shared->Prop),Q (.bool (g i j)) s->wpAny (model X.prog X.w) X.A (f (.int i t) (.int j u)) Q E s) :
  OpR X f (rI0 fun i j=>.bl (g i j)):=by
 intro pins s σ H x y v u Q I rx ry h;obtain ⟨i,j,rfl,rfl,q⟩:=h;obtain ⟨t,rfl⟩:=rx;obtain ⟨t',rfl⟩:=ry;exact rule i j t t' s _ _ ⟨.bl (g i j),H,I,rfl,q⟩
def CDiv (i j:Int):Prop:=0 < j/\j < 1073741824
def CPow (i j:Int):Prop:=0<=j/\j<=1000000/\i.natAbs < 2 ^ 64
def CMul (i j:Int):Prop:=(-(2 ^ 64) < i/\i < 2 ^ 64)\/(-(2 ^ 64) < j/\j < 2 ^ 64)
theorem CMul.ok {i j:Int} (h:CMul i j):IntMulOk i j:=by
 rcases h with ⟨h1,h2⟩ | ⟨h1,h2⟩
 ·exact .of_left (intBits_le_64 h1 h2)
 ·exact .of_right (intBits_le_64 h1 h2)
theorem J19:OpR X (binaryOp .Add) (rI0 fun i j=>.int (i + j)):=opI0 fun _ _ _ _ _ _ _ q=>add_int q
theorem J1l:OpR X (binaryOp .Sub) (rI0 fun i j=>.int (i - j)):=opI0 fun _ _ _ _ _ _ _ q=>sub_int q
theorem op_mul:OpR X (binaryOp .Mult) (rI CMul fun i j=>.int (i * j)):=opI fun _ _ _ _ _ _ _ hc q=>mul_int q hc.ok
theorem J32:OpR X (binaryOp .FloorDiv) (rI CDiv fun i j=>.int (i / j)):=opI fun i j _ _ _ _ _ hc q=>by
 have h1:(0:Int) < j:=hc.1;have h2:j < 1073741824:=hc.2;exact floordiv_int (by lia) (by rw [Int.fdiv_eq_ediv_of_nonneg i (by lia)];exact q) (.inl (PyProof.noPylong_small (by lia)))
theorem J2d:OpR X (binaryOp .Mod) (rI (fun _ j=>0 < j) fun i j=>.int (i % j)):=opI fun i j _ _ _ _ _ hc q=>by
 have h1:(0:Int) < j:=hc;exact mod_int' (by lia) (by rw [Int.fmod_eq_emod_of_nonneg i (by lia)];exact q)
theorem op_pow:OpR X (binaryOp .Pow) (rI CPow fun i j=>.int (i ^ j.toNat)):=opI fun _ _ _ _ _ _ _ hc q=>pow_int_small hc.1 hc.2.1 hc.2.2 q
theorem unI {f:Value->Sem Value} {g:Int->Int}
  (rule:∀ (i:Int) (t:Tok) (s:Shared) (Q:Value->Shared->Prop) (E:Value->Shared->Prop),Q (.int (g i) s.toks) { s with toks:=s.toks + 1 }->wpAny (model X.prog X.w) X.A (f (.int i t)) Q E s) :
  UnR X f (rU fun i=>.int (g i)):=by
 intro pins s σ H x v Q I rx h;obtain ⟨i,rfl,q⟩:=h;obtain ⟨t,rfl⟩:=rx;exact rule i t s _ _ ⟨.int (g i),H,I.tok _,⟨_,rfl⟩,q⟩
theorem J45:UnR X (unaryOp .USub) (rU fun i=>.int (-i)):=unI fun _ _ _ _ _ q=>neg_int q
end
def scal:V->V->Bool
 | .non,.non=>true | .non,.int _=>true | .int _,.non=>true | .non,.bl _=>true | .bl _,.non=>true | .non,.str _=>true | .str _,.non=>true
 | .int _,.int _=>true | .bl _,.bl _=>true | .str _,.str _=>true | .byt _,.byt _=>true
 | .int _,.str _=>true | .str _,.int _=>true | .bl _,.str _=>true | .str _,.bl _=>true
 | _,_=>false
def rEq:R2:=fun x y H Q=>scal x y=true/\Q (.bl (decide (x=y))) H
def rNe:R2:=fun x y H Q=>scal x y=true/\Q (.bl (!decide (x=y))) H
theorem dec_int {i j:Int}:decide (V.int i=V.int j)=(i == j):=by
 rw [Bool.eq_iff_iff];simp
theorem dec_bl {i j:Bool}:decide (V.bl i=V.bl j)=(i == j):=by
 rw [Bool.eq_iff_iff];simp
theorem dec_str {i j:Str}:decide (V.str i=V.str j)=(i == j):=by
 rw [Bool.eq_iff_iff];simp
theorem dec_byt {i j:Array UInt8}:decide (V.byt i=V.byt j)=(i.toList == j.toList):=by
 rw [Bool.eq_iff_iff];cases i;cases j;simp
section
variable {X:Cx} {a b c:Expr} {ta tb tc:TE} {pos:Pos}
theorem J15 {pins:List (Addr × Obj)} {σ:St} {H:Hp} {s:Shared} {Q:VK} {k k':Bool} (I:Inv X pins σ H s) (q:Q (.bl k) H) (e:k=k'):EP X pins σ Q (.bool k') s:=by
 subst e;exact ⟨.bl k,H,I,rfl,q⟩
theorem op_eq:OpR X (compareOp .Eq) rEq:=by
 intro pins s σ H x y v u Q I rx ry h;obtain ⟨hs,q⟩:=h
 cases x with
 | non =>
  cases rx
  cases y with
  | non=>cases ry;exact PySem.EqNone.eq_none_none (J15 I q (by simp))
  | bl j=>cases ry;exact PySem.EqNone.eq_none_bool (J15 I q (by simp))
  | int j=>obtain ⟨t',rfl⟩:=ry;exact PySem.EqNone.eq_none_int (J15 I q (by simp))
  | str j=>obtain ⟨t',rfl⟩:=ry;exact PySem.EqNone.eq_none_str (J15 I q (by simp))
  | _=>exact absurd (show false=true from hs) Bool.false_ne_true
 | bl i =>
  cases rx
  cases y with
  | non=>cases ry;exact PySem.EqNone.eq_bool_none (J15 I q (by simp))
  | bl j=>cases ry;exact eq_bool (J15 I q dec_bl)
  | str j=>obtain ⟨t',rfl⟩:=ry;exact PySem.EqMixed.eq_bool_str (J15 I q (by simp))
  | _=>exact absurd (show false=true from hs) Bool.false_ne_true
 | int i =>
  obtain ⟨t,rfl⟩:=rx
  cases y with
  | non=>cases ry;exact PySem.EqNone.eq_int_none (J15 I q (by simp))
  | int j=>obtain ⟨t',rfl⟩:=ry;exact eq_int (J15 I q dec_int)
  | str j=>obtain ⟨t',rfl⟩:=ry;exact PySem.EqMixed.eq_int_str (J15 I q (by simp))
  | _=>exact absurd (show false=true from hs) Bool.false_ne_true
 | str i =>
  obtain ⟨t,rfl⟩:=rx
  cases y with
  | non=>cases ry;exact PySem.EqNone.eq_str_none (J15 I q (by simp))
  | bl j=>cases ry;exact PySem.EqMixed.eq_str_bool (J15 I q (by simp))
  | int j=>obtain ⟨t',rfl⟩:=ry;exact PySem.EqMixed.eq_str_int (J15 I q (by simp))
  | str j=>obtain ⟨t',rfl⟩:=ry;exact eq_str (J15 I q dec_str)
  | _=>exact absurd (show false=true from hs) Bool.false_ne_true
 | byt i =>
  obtain ⟨t,rfl⟩:=rx
  cases y with
  | byt j=>obtain ⟨t',rfl⟩:=ry;exact PySem.W.eq_bytes (J15 I q dec_byt)
  | _=>exact absurd (show false=true from hs) Bool.false_ne_true
 | _=>cases y <;> exact absurd (show false=true from hs) Bool.false_ne_true
theorem op_ne:OpR X (compareOp .NotEq) rNe:=by
 intro pins s σ H x y v u Q I rx ry h;obtain ⟨hs,q⟩:=h
 cases x with
 | non =>
  cases rx
  cases y with
  | non=>cases ry;exact PySem.EqNone.ne_none_none (J15 I q (by simp))
  | bl j=>cases ry;exact PySem.EqNone.ne_none_bool (J15 I q (by simp))
  | int j=>obtain ⟨t',rfl⟩:=ry;exact PySem.EqNone.ne_none_int (J15 I q (by simp))
  | str j=>obtain ⟨t',rfl⟩:=ry;exact PySem.EqNone.ne_none_str (J15 I q (by simp))
  | _=>exact absurd (show false=true from hs) Bool.false_ne_true
 | bl i =>
  cases rx
  cases y with
  | non=>cases ry;exact PySem.EqNone.ne_bool_none (J15 I q (by simp))
  | bl j=>cases ry;exact ne_bool (J15 I q (congrArg not dec_bl))
  | str j=>obtain ⟨t',rfl⟩:=ry;exact PySem.EqMixed.ne_bool_str (J15 I q (by simp))
  | _=>exact absurd (show false=true from hs) Bool.false_ne_true
 | int i =>
  obtain ⟨t,rfl⟩:=rx
  cases y with
  | non=>cases ry;exact PySem.EqNone.ne_int_none (J15 I q (by simp))
  | int j=>obtain ⟨t',rfl⟩:=ry;exact ne_int (J15 I q (congrArg not dec_int))
  | str j=>obtain ⟨t',rfl⟩:=ry;exact PySem.EqMixed.ne_int_str (J15 I q (by simp))
  | _=>exact absurd (show false=true from hs) Bool.false_ne_true
 | str i =>
  obtain ⟨t,rfl⟩:=rx
  cases y with
  | non=>cases ry;exact PySem.EqNone.ne_str_none (J15 I q (by simp))
  | bl j=>cases ry;exact PySem.EqMixed.ne_str_bool (J15 I q (by simp))
  | int j=>obtain ⟨t',rfl⟩:=ry;exact PySem.EqMixed.ne_str_int (J15 I q (by simp))
  | str j=>obtain ⟨t',rfl⟩:=ry;exact ne_str (J15 I q (congrArg not dec_str))
  | _=>exact absurd (show false=true from hs) Bool.false_ne_true
 | byt i =>
  obtain ⟨t,rfl⟩:=rx
  cases y with
  | byt j=>obtain ⟨t',rfl⟩:=ry;exact PySem.W.ne_bytes (J15 I q (congrArg not dec_byt))
  | _=>exact absurd (show false=true from hs) Bool.false_ne_true
 | _=>cases y <;> exact absurd (show false=true from hs) Bool.false_ne_true
theorem op_lt:OpR X (compareOp .Lt) (rI0 fun i j=>.bl (decide (i < j))):=opB0 fun _ _ _ _ _ _ _ q=>lt_int q
theorem op_le:OpR X (compareOp .LtE) (rI0 fun i j=>.bl (decide (i<=j))):=opB0 fun _ _ _ _ _ _ _ q=>le_int q
theorem op_gt:OpR X (compareOp .Gt) (rI0 fun i j=>.bl (decide (j < i))):=opB0 fun _ _ _ _ _ _ _ q=>gt_int q
theorem op_ge:OpR X (compareOp .GtE) (rI0 fun i j=>.bl (decide (j<=i))):=opB0 fun _ _ _ _ _ _ _ q=>ge_int q
theorem op_isN:OpR X (compareOp .Is) (fun x y H Q=>y=.non/\Q (.bl (decide (x=.non))) H):=by
 intro pins s σ H x y v u Q I rx ry h;obtain ⟨rfl,q⟩:=h;cases ry;refine is_none_gen (J15 I q ?_);cases x <;> first
  | (cases rx;rfl)
  | (obtain ⟨t,rfl⟩:=rx;rfl)
theorem Jp (b:Expr) {op:CmpOp} (h:op≠.In:=by decide) (h2:op≠.NotIn:=by decide):behindInMarks op b=false:=by
 have e1:(op == CmpOp.In)=false:=by cases op <;> first | rfl | exact absurd rfl h
 have e2:(op == CmpOp.NotIn)=false:=by cases op <;> first | rfl | exact absurd rfl h2
 cases b <;> simp [behindInMarks,e1,e2]
theorem J2q {op:CmpOp} {r:R2} (ho:OpR X (compareOp op) r) (ha:PE X a ta) (hb:PE X b tb) (hm:behindInMarks op b=false):PE X (.Compare a [op] [b] pos) (tOp r ta tb):=by
 intro pins s σ H Q I h;exact wpAny_Compare1 (binT ha hb I h fun v u s2 x y H2 I2 rx ry q=>ho pins s2 σ H2 x y v u Q I2 rx ry q) hm
def tTest (t:TE):TT:=fun σ H Q=>t σ H fun x H'=>∃ k,x=.bl k/\Q k H'
theorem Jl {op:CmpOp} {r:R2} (ho:OpR X (compareOp op) r) (ha:PE X a ta) (hb:PE X b tb) (hm:behindInMarks op b=false):PT X (.Compare a [op] [b] pos) (tTest (tOp r ta tb)):=by
 intro pins s σ H Q I h;refine wpAny_isTrue_Compare1 (thn (ha pins s σ H _ I h) fun v s1 ⟨x,H1,I1,r1,q1⟩=>thn (hb pins s1 σ H1 _ I1 q1) fun u s2 ⟨y,H2,I2,r2,q2⟩ =>
  thn (ho pins s2 σ H2 x y v u _ I2 r1 r2 q2) fun c s3 ⟨z,H3,I3,r3,k,e,q3⟩=>?_) hm
 subst e;cases r3;exact wpAny_truthy_bool ⟨H3,I3,q3⟩
def TruV (K:PySem.W.Frag) (x:V) (H:Hp) (k:Bool):Prop :=
 match x with
 | .non=>k=false
 | .bl b=>k=b
 | .int i=>k=(i != 0)
 | .str y=>y.length<=sizeLine/\k=((y.length:Int) != 0)
 | .byt y=>y.size<=sizeLine/\k=((y.size:Int) != 0)
 | .ref p=>(∃ xs,SqL K H p xs/\k=!xs.isEmpty)\/(∃ xs,SqT K H p xs/\k=!xs.isEmpty)\/∃ kvs,H p=some (.dK kvs)/\k=!kvs.isEmpty
 | _=>False
theorem isEmpty_kv {κ:Type} {kvs:List (κ × V)} {vs:List (κ × Value)} (r:KV kvs vs):(!vs.isEmpty)=!kvs.isEmpty:=by
 cases r <;> rfl
theorem J5f {xs:List V} {its:List Value} (r:Vals xs its):(!its.toArray.isEmpty)=!xs.isEmpty:=by
 cases r <;> simp
theorem line63:(sizeLine:Nat) < 2 ^ 63:=by rw [sizeLine_eq];decide
theorem tru_ok:TruR X (fun x H Q=>∃ k,TruV X.K x H k/\Q k H):=by
 intro pins s σ H x v Q I rx h;obtain ⟨k,e,q⟩:=h;have hl:=line63;have hs:sizeLine=16777216:=sizeLine_eq
 cases x with
 | non =>
  cases rx;have e':k=false:=e;subst e';exact truthy_none ⟨H,I,q⟩
 | bl b =>
  cases rx;have e':k=b:=e;subst e';exact wpAny_truthy_bool ⟨H,I,q⟩
 | int i =>
  obtain ⟨t,rfl⟩:=rx;have e':k=(i != 0):=e;subst e';exact PySem.P.truthy_int ⟨H,I,q⟩
 | str y =>
  obtain ⟨t,rfl⟩:=rx;obtain ⟨hy,e'⟩:y.length<=sizeLine/\k=((y.length:Int) != 0):=e;subst e';exact PySem.P.truthy_str (by lia) ⟨H,I.tok _,q⟩
 | byt y =>
  obtain ⟨t,rfl⟩:=rx;obtain ⟨hy,e'⟩:y.size<=sizeLine/\k=((y.size:Int) != 0):=e;subst e';exact PySem.W.truthy_bytes (by lia) ⟨H,I.tok _,q⟩
 | ref p =>
  cases rx;have e':(∃ xs,SqL X.K H p xs/\k=!xs.isEmpty)\/(∃ xs,SqT X.K H p xs/\k=!xs.isEmpty)\/∃ kvs,H p=some (.dK kvs)/\k=!kvs.isEmpty:=e;rcases e' with ⟨xs,hx,e'⟩ | ⟨xs,hx,e'⟩ | ⟨kvs,hx,e'⟩
  ·subst e';obtain ⟨its,r,pl,hz⟩:=I.list hx;have hlen:=r.length;exact wpAny_truthy_list pl.isList (by simp only [size_toArray];lia) ⟨H,I.tok _,by rw [J5f r];exact q⟩
  ·subst e';obtain ⟨its,r,pl,hz⟩:=I.tuple hx;have hlen:=r.length;exact truthy_tuple pl (by simp only [size_toArray];lia) ⟨H,I.tok _,by rw [J5f r];exact q⟩
  ·subst e';obtain ⟨hz,hS,vs,r,m⟩:kvs.length<=sizeLine/\(p == sysModules)=false/\∃ vs,KV kvs vs/\s.heap.DictOf (mixKind X.prog X.w) p vs:=I.hok p _ hx;have hlen:kvs.length=vs.length:=Paired.length r;exact wpAny_truthy_dict hS m (by lia) ⟨H,I.tok _,by rw [isEmpty_kv r];exact q⟩
 | _=>exact (show False from e).elim
theorem pt_truth (ha:PE X a ta) (he:∀ whole,isTrue a X.env whole=(do let v <- whole;standAt a.pos;holding [v] (truthy v))) :
  PT X a (fun σ H Q=>ta σ H fun x H'=>∃ k,TruV X.K x H' k/\Q k H'):=by
 intro pins s σ H Q I h;exact isTrue_plain (thn (ha pins s σ H _ I h) fun v s1 ⟨x,H1,I1,r1,q1⟩=>tru_ok pins s1 σ H1 x v Q I1 r1 q1) (he _)
theorem vals1 {x:V} {us:List Value} (r:Vals [x] us):∃ u,us=[u]/\RelV x u:=by
 cases r with
 | cons r1 r2=>cases r2;exact ⟨_,rfl,r1⟩
theorem vals2 {x y:V} {us:List Value} (r:Vals [x,y] us):∃ u w',us=[u,w']/\RelV x u/\RelV y w':=by
 cases r with
 | cons r1 r2 =>
  cases r2 with
  | cons r3 r4=>cases r4;exact ⟨_,_,rfl,r1,r3⟩
theorem call_abs:CallR X (.builtin "abs") (fun xs H Q=>∃ i,xs=[.int i]/\Q (.int (if i < 0 then -i else i)) H):=by
 intro pins s σ H xs us Q I r h;obtain ⟨i,rfl,q⟩:=h;obtain ⟨u,rfl,t,rfl⟩:=vals1 r;exact call_abs_int fun u tk=>⟨.int (if i < 0 then -i else i),H,I.tok _,⟨_,rfl⟩,q⟩
theorem call_max2 (hc:X.calm=true):CallR X (.builtin "max") (fun xs H Q=>∃ i j,xs=[.int i,.int j]/\Q (.int (if j > i then j else i)) H):=by
 intro pins s σ H xs us Q I r h;obtain ⟨i,j,rfl,q⟩:=h;obtain ⟨u,w',rfl,⟨t,rfl⟩,⟨t',rfl⟩⟩:=vals2 r;refine max_two_ints (I.ok.hd hc) fun h' tk k=>⟨_,H,I.kept k,?_,q⟩;by_cases hj:j > i
 ·rw [if_pos hj,if_pos hj];exact ⟨_,rfl⟩
 ·rw [if_neg hj,if_neg hj];exact ⟨_,rfl⟩
theorem J4u (hc:X.calm=true):CallR X (.builtin "min") (fun xs H Q=>∃ i j,xs=[.int i,.int j]/\Q (.int (if j < i then j else i)) H):=by
 intro pins s σ H xs us Q I r h;obtain ⟨i,j,rfl,q⟩:=h;obtain ⟨u,w',rfl,⟨t,rfl⟩,⟨t',rfl⟩⟩:=vals2 r;refine min_two_ints (I.ok.hd hc) fun h' tk k=>⟨_,H,I.kept k,?_,q⟩;by_cases hj:j < i
 ·rw [if_pos hj,if_pos hj];exact ⟨_,rfl⟩
 ·rw [if_neg hj,if_neg hj];exact ⟨_,rfl⟩
end
end L2
namespace L2
open PySem PySem.Spec PyProof.Rows
structure ObjM (h:Heap) (x dx C:Addr) (mA:Str->Option Value):Prop where
 obj:h.get? x=some (instObj C dx)
 ns:h.Ns1 dx mA
 ne:dx≠x
theorem lookIn_ns {h:Heap} {dx:Addr} {mA:Str->Option Value} (n:h.Ns1 dx mA):∃ od,h.get? dx=some od/\∀ name,lookIn name od=some (mA name):=by
 obtain ⟨o,es,ep,ho,hd,hk,_,hm⟩:=n;refine ⟨o,ho,fun name=>?_⟩;have e:=hm name;unfold nsFind findBy at e;rw [<- Array.find?_toList] at e;unfold lookIn;rw [hd];dsimp only;split
 ·rename_i y q;rw [q] at e;exact congrArg some e
 ·rename_i q;rw [q] at e;have a:es.toList.any (·.refKey)=false:=by
   rw [List.any_eq_false];intro y hy;obtain ⟨z,t,hkey⟩:=hk y (Array.mem_toList_iff.mp hy);simp [DictEntry.refKey,hkey]
  have a':¬ es.toList.any (·.refKey)=true:=by rw [a];exact Bool.false_ne_true
  rw [if_neg a'];exact congrArg some e
theorem ObjM.look {h:Heap} {x dx C:Addr} {mA:Str->Option Value} (I:ObjM h x dx C mA):∃ od,PySem.W.InstAt h x (instObj C dx) C (some od)/\∀ name,lookIn name od=some (mA name) :=
 let ⟨od,ho,hl⟩:=lookIn_ns I.ns
 ⟨od,⟨I.obj,rfl,rfl,ho⟩,hl⟩
section
variable {prog:Program} {w:World} {A:Around} {E:Value->Shared->Prop} {s:Shared} {K:PySem.W.Frag} {x dx C f:Addr} {mA:Str->Option Value} {name:Str} {v:Value}
theorem get_map {expr:Bool} {Q:Value->Shared->Prop} (X:K.In s.heap) (I:ObjM s.heap x dx C mA) (hg:plainGet K C name=true) (hh:hasDictIn K C=true)
  (ha:findIn K (.ref C) name=some none) (hv:mA name=some v) (hv':handedIn v=true) (h:Q v { s with toks:=s.toks + 1 }) :
  wpAny (model prog w) A (getAttr (.ref x) name expr) Q E s:=by
 obtain ⟨od,J,hl⟩:=I.look;exact PySem.W.get_value X J (plainGet_of hg).1 (PySem.W.findObj_own hh ha rfl (by rw [hl,hv])) hv' h
theorem get_meth {pl:Sem Bool} {Q:Value × List Value->Shared->Prop} (X:K.In s.heap) (I:ObjM s.heap x dx C mA) (hg:plainGet K C name=true)
  (hf:findIn K (.ref C) name=some (some (.ref f))) (ht:isFn K (.ref f)=true) (hv:mA name=none) (h:Q (.ref f,[.ref x]) s) :
  wpAny (model prog w) A (getMethod (.ref x) name pl) Q E s:=by
 obtain ⟨od,J,hl⟩:=I.look;exact PySem.W.method_fn X J (plainGet_of hg).1 (plainGet_of hg).2 hf (beq_iff_eq.mp ht) (by show (lookIn name od).map (·.isSome)=some false;rw [hl,hv];rfl) h
theorem set_map {ns:List Str} {Q:Unit->Shared->Prop} (X:K.In s.heap) (I:ObjM s.heap x dx C mA)
  (hs:findIn K (.ref C) "__setattr__"=some (some (.builtin "object.__setattr__"))) (hp:plainOver K C=true) (ht:takerIn K C name=some none) (hh:hasDictIn K C=true)
  (hw:PySem.Within mA ns) (hsz:ns.length<=sizeLine)
  (h:∀ h',ObjM h' x dx C (fun y=>if y=name then some v else mA y)->Heap.SameBut dx s.heap h'->Q () { s with heap:=h',toks:=s.toks + 2 }) :
  wpAny (model prog w) A (setAttr (.ref x) name v) Q E s:=by
 obtain ⟨od,J,hl⟩:=I.look;refine PySem.W.set_plain X J hs (PySem.W.osa_open (s:={ s with toks:=s.toks + 1 }) (r:=none) X J hp ht fun b=>?_);obtain ⟨cd,hc,hd'⟩:=PySem.W.any_some hh;have hx:s.heap.get? x=some ⟨.ref C,some dx,.plain,#[]⟩:=I.obj;refine wpAny_bind (wpAny_pure (wpAny_bind (wpAny_bind (wpAny_loadPart hx (wpAny_bind (PySem.W.Looks.here (s:={ s with toks:=s.toks + 1 }) (PySem.W.looks_clsIn X hc) ?_))))));rw [hd'];refine wpAny_pure (a:=some dx) (wpAny_bind (wpAny_pure (wpAny_bind ?_)));refine wpAny_nsSet1 (s:={ s with toks:=s.toks + 1 }) I.ns fun h' hn2 hs2=>?_;obtain ⟨oD,esD,epD,hoD,hdD,hcD⟩:=hn2.count (PySem.Within.cons name v hw);refine wpAny_bind (wpAny_lookBehind hoD (by rw [hdD];exact pastItsLine_dict (Nat.le_trans hcD (by rw [length_cons];lia))) ?_);exact wpAny_pure (h _ ⟨(hs2.2 _ (Ne.symm I.ne)).trans I.obj,hn2,I.ne⟩ hs2)
theorem make_map {R:Result->Shared->Prop} {vs:List Value} {kw:List (Str × Value)} (X:K.In s.heap) (hm:makesIn K C=true)
  (hi:findIn K (.ref C) "__init__"=some (some (.ref f))) (hf:PySem.W.typeIn K (.ref f)=some (.type "function"))
  (h:codeAny (model prog w) (A.under (.builtin "type.__call__" ⟨.ref C :: vs,kw⟩)) (.call (.ref f) ⟨.ref (s.heap.objs.size + 1) :: vs,kw⟩) (PySem.W.InitBack (s.heap.objs.size + 1) R)
   { s with heap:=(s.heap.push emptyDict).push (instObj C s.heap.objs.size) }) :
  codeAny (model prog w) A (.call (.ref C) ⟨vs,kw⟩) R s:=by
 obtain ⟨hh,g,d,t,os⟩:=s;exact PySem.W.make_core (PySem.W.makes_of X hm) (PySem.W.looks_findIn X hi) (fun self=>PySem.W.bind_fn X self hf) (.inl rfl) h
end
def putF (f:Str) (v:V):List (Str × V)->List (Str × V)
 | []=>[(f,v)]
 | (g,x) :: r=>if g=f then (g,v) :: r else (g,x) :: putF f v r
theorem J29 (f g:Str) (v:V):∀ fs:List (Str × V),(putF f v fs).lookup g=if g=f then some v else fs.lookup g
 | []=>by
  show List.lookup g [(f,v)]=_;by_cases h:g=f
  ·have hb:(g == f)=true:=beq_iff_eq.mpr h;simp only [List.lookup,hb,if_pos h]
  ·have hb:(g == f)=false:=beq_eq_false_iff_ne.mpr h;simp only [List.lookup,hb,if_neg h]
 | (k,x) :: r=>by
  have ih:=J29 f g v r;rw [show putF f v ((k,x) :: r)=(if k=f then (k,v) :: r else (k,x) :: putF f v r) from rfl];by_cases hk:k=f
  ·rw [if_pos hk];by_cases h:g=k
   ·have hb:(g == k)=true:=beq_iff_eq.mpr h;simp only [List.lookup,hb,if_pos (h.trans hk)]
   ·have hb:(g == k)=false:=beq_eq_false_iff_ne.mpr h;simp only [List.lookup,hb,if_neg (fun e:g=f=>h (e.trans hk.symm))]
  ·rw [if_neg hk];by_cases h:g=k
   ·have hb:(g == k)=true:=beq_iff_eq.mpr h;simp only [List.lookup,hb,if_neg (fun e:g=f=>hk (h.symm.trans e))]
   ·have hb:(g == k)=false:=beq_eq_false_iff_ne.mpr h;simp only [List.lookup,hb];exact ih
theorem J4o (f:Str) (v:V):∀ fs:List (Str × V),f∈(putF f v fs).map (·.1)/\∀ g,g∈fs.map (·.1)->g∈(putF f v fs).map (·.1)
 | []=>⟨by simp [putF],fun g h=>by simp at h⟩
 | (k,x) :: r=>by
  obtain ⟨i1,i2⟩:=J4o f v r;rw [show putF f v ((k,x) :: r)=(if k=f then (k,v) :: r else (k,x) :: putF f v r) from rfl];by_cases hk:k=f
  ·rw [if_pos hk];subst hk;exact ⟨by simp,fun g h=>by simpa using h⟩
  ·rw [if_neg hk];refine ⟨?_,fun g h=>?_⟩
   ·rw [map_cons];exact mem_cons_of_mem _ i1
   ·rw [map_cons] at h ⊢;rcases mem_cons.mp h with e | e
    ·exact mem_cons.mpr (.inl e)
    ·exact mem_cons_of_mem _ (i2 g e)
theorem Jg (f:Str) (v:V):∀ fs:List (Str × V),(putF f v fs).length<=fs.length + 1
 | []=>by simp [putF]
 | (k,x) :: r=>by
  have ih:=Jg f v r;rw [show putF f v ((k,x) :: r)=(if k=f then (k,v) :: r else (k,x) :: putF f v r) from rfl];by_cases hk:k=f
  ·rw [if_pos hk,length_cons,length_cons];lia
  ·rw [if_neg hk,length_cons,length_cons];lia
theorem RelO.some_of {v:V} {o:Option Value} (r:RelO (some v) o):∃ u,o=some u/\RelV v u:=by
 cases o with
 | none=>exact (show False from r).elim
 | some u=>exact ⟨u,rfl,r⟩
theorem RelO.none_of {o:Option Value} (r:RelO none o):o=none:=by
 cases o with
 | none=>rfl
 | some u=>exact (show False from r).elim
theorem handed_of {v:V} {u:Value} (r:RelV v u):handedIn u=true:=by
 cases v with
 | non=>cases (show u=Value.none from r);rfl
 | bl b=>cases (show u=Value.bool b from r);rfl
 | int i=>obtain ⟨t,e⟩:=(show ∃ t,u=Value.int i t from r);cases e;rfl
 | str x=>obtain ⟨t,e⟩:=(show ∃ t,u=Value.str x t from r);cases e;rfl
 | byt b=>obtain ⟨t,e⟩:=(show ∃ t,u=Value.bytes b t from r);cases e;rfl
 | flt b=>obtain ⟨t,e⟩:=(show ∃ t,u=Value.float b t from r);cases e;rfl
 | ref a=>cases (show u=Value.ref a from r);rfl
 | ty n=>cases (show u=Value.type n from r);rfl
section
variable {P:Program} {w:World} {H H':Hp} {h h':Heap} {a C dx:Addr} {fs fs':List (Str × V)}
theorem ins_get (hok:HOk P w H h) (e:H a=some (.ins C dx fs)):∃ mA,ObjM h a dx C mA/\(∀ f,RelO (fs.lookup f) (mA f))/\PySem.Within mA (fs.map (·.1))/\fs.length<=1000/\H dx=some (.own a):=by
 obtain ⟨d,z,ne,ob,mA,n,r,q⟩:=(show ObjOk P w H h a (.ins C dx fs) from hok a _ e);exact ⟨mA,⟨ob,n,ne⟩,r,q,z,d⟩
end
structure Cls (K:PySem.W.Frag) (C:Addr):Prop where
 pg:plainGet K C Str.empty=true
 hd:hasDictIn K C=true
 po:plainOver K C=true
 sa:findIn K (.ref C) "__setattr__"=some (some (.builtin "object.__setattr__"))
theorem Cls.get {K:PySem.W.Frag} {C:Addr} (c:Cls K C) (f:Str):plainGet K C f=true:=c.pg
def NoAttr (K:PySem.W.Frag) (C:Addr) (f:Str):Prop:=findIn K (.ref C) f=some none
theorem NoAttr.taker {K:PySem.W.Frag} {C:Addr} {f:Str} (n:NoAttr K C f):takerIn K C f=some none:=by
 unfold takerIn;rw [show findIn K (.ref C) f=some none from n];rfl
structure Meth (K:PySem.W.Frag) (C:Addr) (m:Str) (f:Addr):Prop where
 at_:findIn K (.ref C) m=some (some (.ref f))
 fn:isFn K (.ref f)=true
 kp:keepIn K (.ref f)=true
section
variable {X:Cx} {pins:List (Addr × Obj)} {σ:St} {H:Hp} {s:Shared} {a C dx:Addr} {fs:List (Str × V)} {f:Str} {v:V} {A:Around} {E:Value->Shared->Prop}
theorem getattr_ok {b:Bool} {Q:Value->Shared->Prop} (I:Inv X pins σ H s) (e:H a=some (.ins C dx fs)) (c:Cls X.K C) (n:NoAttr X.K C f) (l:fs.lookup f=some v)
  (h:∀ u s',Inv X pins σ H s'->RelV v u->Q u s'):wpAny (model X.prog X.w) A (getAttr (.ref a) f b) Q E s:=by
 obtain ⟨mA,O,r,_,_,_⟩:=ins_get I.hok e;obtain ⟨u,hu,ru⟩:=RelO.some_of (v:=v) (o:=mA f) (by rw [<- l];exact r f);exact get_map I.kIn O (c.get f) c.hd n hu (handed_of ru) (h u _ (I.tok _) ru)
theorem J5g {m:Str} {g:Addr} {pl:Sem Bool} {Q:Value × List Value->Shared->Prop} (I:Inv X pins σ H s) (e:H a=some (.ins C dx fs)) (c:Cls X.K C) (k:Meth X.K C m g) (l:fs.lookup m=none)
  (h:Q (.ref g,[.ref a]) s):wpAny (model X.prog X.w) A (getMethod (.ref a) m pl) Q E s:=by
 obtain ⟨mA,O,r,_,_,_⟩:=ins_get I.hok e;have hn:mA m=none:=RelO.none_of (by rw [<- l];exact r m);exact get_meth I.kIn O (c.get m) k.at_ k.fn hn h
theorem setattr_ok {y:V} {u:Value} {Q:Unit->Shared->Prop} (I:Inv X pins σ H s) (e:H a=some (.ins C dx fs)) (c:Cls X.K C) (n:NoAttr X.K C f) (hl:fs.length < 1000) (ry:RelV y u)
  (h:∀ s',Inv X pins σ (upd H a (.ins C dx (putF f y fs))) s'->Q () s'):wpAny (model X.prog X.w) A (setAttr (.ref a) f u) Q E s:=by
 obtain ⟨mA,O,r,wi,_,ho⟩:=ins_get I.hok e;have hz:(fs.map (·.1)).length<=sizeLine:=by rw [length_map,sizeLine_eq];lia
 refine set_map I.kIn O c.sa c.po n.taker c.hd wi hz fun h' O' sb=>h _ ?_;have hd:∃ o,h'.get? dx=some o:=let ⟨o,_,_,e',_⟩:=O'.ns;⟨o,e'⟩;refine I.write (x:=a) (e:=dx) (by rw [e];exact True.intro) (.inr ho) (fun b q hb z=>(sb.2 b hb).trans z) hd ?_;refine ⟨by rw [Jb O.ne];exact ho,?_,O.ne,O'.obj,_,O'.ns,fun g=>?_,fun g hg=>?_⟩
 ·have:=Jg f y fs;lia
 ·show RelO ((putF f y fs).lookup g) (if g=f then some u else mA g);rw [J29];by_cases q:g=f
  ·rw [if_pos q,if_pos q];exact ry
  ·rw [if_neg q,if_neg q];exact r g
 ·by_cases q:g=f
  ·rw [q];exact (J4o f y fs).1
  ·refine (J4o f y fs).2 g (wi g fun z=>hg ?_);show (if g=f then some u else mA g)=none;rw [if_neg q];exact z
theorem Inv.made (I:Inv X pins σ H s):Inv X pins σ (upd (upd H s.heap.objs.size (.own (s.heap.objs.size + 1))) (s.heap.objs.size + 1) (.ins C s.heap.objs.size []))
  { s with heap:=(s.heap.push emptyDict).push (instObj C s.heap.objs.size) }:=by
 have e1:(s.heap.push emptyDict).get? s.heap.objs.size=some emptyDict:=get?_push_size s.heap rfl;have e2:((s.heap.push emptyDict).push (instObj C s.heap.objs.size)).get? (s.heap.objs.size + 1)=some (instObj C s.heap.objs.size):=by
  have:=get?_push_size (s.heap.push emptyDict) (o:=instObj C s.heap.objs.size) rfl;rwa [Heap.size_push] at this
 have e3:(s.heap.push emptyDict).Ns s.heap.objs.size (fun _=>none):=⟨emptyDict,#[],_,e1,rfl,(fun e he=>absurd he (by simp)),fun _=>rfl⟩;have I1:=I.laid (a:=s.heap.objs.size) (o:=.own (s.heap.objs.size + 1)) (h':=s.heap.push emptyDict) (t':=s.toks) (fun b u q=>get?_push_of_some _ q) (Nat.le_refl _) ⟨_,e1⟩;refine I1.laid (a:=s.heap.objs.size + 1) (o:=.ins C s.heap.objs.size []) (t':=s.toks) (fun b u q=>get?_push_of_some _ q) (Nat.le_of_eq (Heap.size_push _ _)) ?_;have ne:s.heap.objs.size≠s.heap.objs.size + 1:=Nat.ne_of_lt (Nat.lt_succ_self _);refine ⟨by rw [Jb ne,J2],Nat.zero_le _,ne,e2,fun _=>none,(Heap.Ns1.of_empty e3).at fun o q=>get?_push_of_some _ q,fun _=>True.intro,fun y hy=>absurd rfl hy⟩
theorem attr_of {prog:Program} {w:World} {env:Env} {e:Expr} {f:Str} {pos:Pos} {s:Shared} {Q:Value->Shared->Prop} (hb:attributeBase e f env (eval e env)=eval e env)
  (h:wpAny (model prog w) A (eval e env) (fun o s₁=>wpAny (model prog w) A (getAttr o f true) Q E s₁) E s):wpAny (model prog w) A (eval (.Attribute e f pos) env) Q E s :=
 Attribute_any_ h (by rw [arm_eval_Attribute,hb])
end
def tFld (K:PySem.W.Frag) (ta:TE) (f:Str):TE:=fun σ H Q=>ta σ H fun x H1=>∃ a C dx fs v,x=.ref a/\H1 a=some (.ins C dx fs)/\Cls K C/\NoAttr K C f/\fs.lookup f=some v/\Q v H1
def sFld (K:PySem.W.Frag) (ta tv:TE) (f:Str):TS:=fun D σ H=>tv σ H fun y H1=>ta σ H1 fun x H2=>∃ a C dx fs,x=.ref a/\H2 a=some (.ins C dx fs)/\Cls K C/\NoAttr K C f/\fs.length < 1000/\
 D.nx σ (upd H2 a (.ins C dx (putF f y fs)))
section
variable {X:Cx} {o e value:Expr} {f:Str} {pos pos' tpos:Pos} {ta tv:TE}
theorem Ja (he:PE X e ta) (hb:attributeBase e f X.env (eval e X.env)=eval e X.env):PE X (.Attribute e f pos) (tFld X.K ta f):=by
 intro pins s σ H Q I h;refine attr_of hb (thn (he pins s σ H _ I h) fun u s1 ⟨x,H1,I1,rx,a,C,dx,fs,v,ex,ea,c,n,l,q⟩=>?_);subst ex;obtain rfl:u=Value.ref a:=rx;exact getattr_ok I1 ea c n l fun u' s2 I2 ru=>⟨v,H1,I2,ru,q⟩
theorem J1d (ha:PE X o ta) (hv:PE X value tv) (hs:swapsWith value (some (.Attribute o f pos')) pos.line X.env=pure false):PS X (.Assign [.Attribute o f pos'] value pos) (sFld X.K ta tv f):=by
 intro pins s σ H D I h;refine plainObj_wpAny_Assign_Attribute (thn (hv pins s σ H _ I h) fun u s1 ⟨y,H1,I1,ry,q⟩=>thn (ha pins s1 σ H1 _ I1 q) fun ov s2 ⟨x,H2,I2,rx,a,C,dx,fs,ex,ea,c,n,l,q2⟩=>?_) hs;subst ex;obtain rfl:ov=Value.ref a:=rx;exact setattr_ok I2 ea c n l ry fun s3 I3=>⟨σ,_,I3,q2⟩
end
section
variable {X:Cx} {pins:List (Addr × Obj)} {σ:St} {H:Hp} {s:Shared} {A:Around} {E:Value->Shared->Prop} {Q:Value->Shared->Prop} {c:Value} {b:Bool}
inductive TyOf (K:PySem.W.Frag) (H:Hp):V->Value->Prop where
 | non:TyOf K H .non (.type "NoneType")
 | bl (x:Bool):TyOf K H (.bl x) (.type "bool")
 | int (i:Int):TyOf K H (.int i) (.type "int")
 | str (x:Str):TyOf K H (.str x) (.type "str")
 | flt (x:UInt64):TyOf K H (.flt x) (.type "float")
 | lst {a:Addr} {xs:List V} (e:H a=some (.lst xs)):TyOf K H (.ref a) (.type "list")
 | frz {a:Addr} {o:Obj} {xs:List V} (e:H a=some (.frz o (.lst xs))):TyOf K H (.ref a) (.type "list")
 | tup {a:Addr} {xs:List V} (e:H a=some (.tup xs)):TyOf K H (.ref a) (.type "tuple")
 | dK {a:Addr} {kvs:List (Key × V)} (e:H a=some (.dK kvs)):TyOf K H (.ref a) (.type "dict")
 | dT {a:Addr} {kvs:List (List Key × V)} (e:H a=some (.dT kvs)):TyOf K H (.ref a) (.type "dict")
 | ins {a C dx:Addr} {fs:List (Str × V)} (e:H a=some (.ins C dx fs)) (cl:Cls K C) (ha:findIn K (.ref C) "__class__"=some (some (.builtin "object.__class__")))
   (hn:specialIn K (.builtin "object.__class__") "__get__"=some (some (.builtin "getset_descriptor.__get__"))) (htk:takesIn K (.builtin "object.__class__")=some true)
   (hm:mroIn K C (.type "object")=some true):TyOf K H (.ref a) (.ref C)
theorem isinst_ok {x:V} {u t:Value} (I:Inv X pins σ H s) (rx:RelV x u) (ty:TyOf X.K H x t) (e:kitOne X.K t c=some b) (h:∀ tk,Q (.bool b) { s with toks:=tk }) :
  wpAny (model X.prog X.w) A (call (.builtin "isinstance") [u,c]) Q E s:=by
 cases ty with
 | non=>cases (show u=Value.none from rx);exact kia_one PySem.W.kitx_none I.kIn True.intro e (fun z=>nomatch z) h
 | bl y=>cases (show u=Value.bool y from rx);exact kia_one PySem.W.kitx_bool I.kIn True.intro e (fun z=>nomatch z) h
 | int i=>obtain ⟨t,q⟩:=(show ∃ t,u=Value.int i t from rx);cases q;exact kia_one PySem.W.kitx_int I.kIn True.intro e (fun z=>nomatch z) h
 | str y=>obtain ⟨t,q⟩:=(show ∃ t,u=Value.str y t from rx);cases q;exact kia_one PySem.W.kitx_str I.kIn True.intro e (fun z=>nomatch z) h
 | flt y=>obtain ⟨t,q⟩:=(show ∃ t,u=Value.float y t from rx);cases q;exact kia_one PySem.W.kitx_float I.kIn True.intro e (fun z=>nomatch z) h
 | @lst a xs ea =>
  cases (show u=Value.ref a from rx);obtain ⟨_,_,n,_,h1⟩:=(show ObjOk X.prog X.w H s.heap a (.lst xs) from I.hok a _ ea);exact kia_one PySem.W.kitx_list I.kIn ⟨_,h1,rfl⟩ e (fun z=>nomatch z) h
 | @frz a ob xs ea =>
  cases (show u=Value.ref a from rx);obtain ⟨_,_,_,n,_,h1⟩:=(show ObjOk X.prog X.w H s.heap a (.frz ob (.lst xs)) from I.hok a _ ea);exact kia_one PySem.W.kitx_list I.kIn ⟨_,h1,rfl⟩ e (fun z=>nomatch z) h
 | @tup a xs ea =>
  cases (show u=Value.ref a from rx);obtain ⟨_,_,_,p⟩:=(show ObjOk X.prog X.w H s.heap a (.tup xs) from I.hok a _ ea);obtain ⟨o,h1,h2,_⟩:=p;exact kia_one PySem.W.kitx_tuple I.kIn ⟨o,h1,h2.1⟩ e (fun z=>nomatch z) h
 | @dK a kvs ea =>
  cases (show u=Value.ref a from rx);obtain ⟨_,_,vs,_,p⟩:=(show ObjOk X.prog X.w H s.heap a (.dK kvs) from I.hok a _ ea);obtain ⟨o,es,ep,h1,h2,_⟩:=p;exact kia_one PySem.W.kitx_dict I.kIn ⟨o,h1,h2.1⟩ e (fun z=>nomatch z) h
 | @dT a kvs ea =>
  cases (show u=Value.ref a from rx);obtain ⟨_,_,xs,_,o,es,ep,h1,h2,_⟩:=(show ObjOk X.prog X.w H s.heap a (.dT kvs) from I.hok a _ ea);exact kia_one PySem.W.kitx_dict I.kIn ⟨o,h1,h2.1⟩ e (fun z=>nomatch z) h
 | @ins a C dx fs ea cl ha hn htk hm =>
  cases (show u=Value.ref a from rx);obtain ⟨mA,O,_⟩:=ins_get I.hok ea;obtain ⟨od,J,_⟩:=O.look;exact kia_one (PySem.W.kitx_own (cl.get _) cl.hd ha hn htk hm) I.kIn J e (fun z=>nomatch z) h
end
end L2
namespace L2
open PySem PySem.Spec PyProof.Rows
structure Room (k:Nat) (A:Around):Prop where
 hd:A.handled=none
 dp:A.depth + 3 * k + 5 < recursionLimit
 un:A.units + 16 * k + 200 < cLine
theorem Room.mono {j k:Nat} {A:Around} (r:Room k A) (h:j<=k):Room j A:=⟨r.hd,by have:=r.dp;lia,by have:=r.un;lia⟩
theorem rm {j k:Nat} {A:Around} (r:Room k A) (h:j<=k:=by decide) : Room j A:=r.mono h
theorem Room.deeper {k:Nat} {A:Around} (r:Room (k + 1) A) (env:Env):Room k (A.deeper env) :=
 ⟨r.hd,by have:=r.dp;show A.depth + 1 + 3 * k + 5 < _;lia,by have:=r.un;show A.units + 3 + 16 * k + 200 < _;lia⟩
theorem Room.in1 {k:Nat} {A:Around} (r:Room (k + 1) A):Room k A.in1 :=
 ⟨r.hd,by have:=r.dp;show A.depth + 3 * k + 5 < _;lia,by have:=r.un;show A.units + 1 + 16 * k + 200 < _;lia⟩
theorem make_depth {A:Around} {C:Addr} {us:List Value} {kw:List (Str × Value)}:(A.under (.builtin "type.__call__" ⟨.ref C :: us,kw⟩)).depth=A.depth + 1:=by
 first | rfl | simp [Around.under,Code.weight,Code.isCreation,Code.isGuard,Code.isCaller,Code.frames,Code.isFrame,guardIds]
theorem make_units {A:Around} {C:Addr} {us:List Value} {kw:List (Str × Value)}:(A.under (.builtin "type.__call__" ⟨.ref C :: us,kw⟩)).units=A.units + 1:=by
 first | rfl | simp [Around.under,Code.cUnits,Code.frames,Code.isFrame]
theorem Room.make {k:Nat} {A:Around} (r:Room (k + 1) A) (C:Addr) (us:List Value) (kw:List (Str × Value)):Room k (A.under (.builtin "type.__call__" ⟨.ref C :: us,kw⟩)) :=
 ⟨r.hd,by have:=r.dp;rw [make_depth];lia,by have:=r.un;rw [make_units];lia⟩
theorem Room.depth {k:Nat} {A:Around} (r:Room k A):A.depth < recursionLimit:=by have:=r.dp;lia
theorem Room.units {k:Nat} {A:Around} (r:Room k A):A.units + 64 < cLine:=by have:=r.un;lia
theorem Room.units0 {k:Nat} {A:Around} (r:Room k A):A.units < cLine:=by have:=r.un;lia
def tNil:TA:=fun _ H Q=>Q [] H
def tCons (ta:TE) (tr:TA):TA:=fun σ H Q=>ta σ H fun x H1=>tr σ H1 fun xs H2=>Q (x :: xs) H2
section
variable {X:Cx} {e:Expr} {es:List Expr} {te:TE} {t:TA} {pos:Pos}
theorem J3:PA X [] tNil:=fun _ _ _ _ H Q I h=>Calls.spliced_nil ⟨[],H,I,.nil,h⟩
theorem J0 (ha:PE X e te) (hr:PA X es t) (hs:starEach (e :: es) X.env=(false,eval e X.env) :: starEach es X.env:=by rfl):PA X (e :: es) (tCons te t):=by
 intro pos pins s σ H Q I h;rw [hs];show wpAny _ _ (spliced ((false,eval e X.env) :: backTo pos (starEach es X.env))) _ _ s;refine Calls.spliced_cons (thn (ha pins s σ H _ I h) fun u s1 ⟨x,H1,I1,r1,q1⟩=>?_);exact thn (hr pos pins s1 σ H1 _ I1 q1) fun us s2 ⟨xs,H2,I2,r2,q2⟩=>⟨x :: xs,H2,I2,.cons r1 r2,q2⟩
def tTup (t:TA):TE:=fun σ H Q=>t σ H fun xs H1=>xs.length<=sizeLine/\∀ p,H1 p=none->Q (.ref p) (upd H1 p (.tup xs))
def tLst (t:TA):TE:=fun σ H Q=>t σ H fun xs H1=>xs.length<=sizeLine/\∀ p,H1 p=none->Q (.ref p) (upd H1 p (.lst xs))
theorem J65 {x1} (h:PA X es t):PE X (.Tuple es x1 pos) (tTup t):=by
 intro pins s σ H Q I hq;refine wpAny_Tuple_spliced (thn (h pos pins s σ H _ I hq) fun us s1 ⟨xs,H1,I1,r,z,q⟩=>⟨by rw [<- r.length];exact z,?_⟩);have hf:H1 s1.heap.objs.size=none:=I1.hok.fresh (Nat.le_refl _);refine ⟨.ref s1.heap.objs.size,upd H1 s1.heap.objs.size (.tup xs),I1.laid (t':=s1.toks) (fun b u e=>get?_push_of_some _ e) (Nat.le_refl _) ?_,rfl,q _ hf⟩;exact ⟨z,us,r,⟨_,get?_push_size _ rfl,⟨rfl,rfl⟩,_,rfl⟩⟩
theorem J1t (h:PA X es t):PE X (.List es pos) (tLst t):=by
 intro pins s σ H Q I hq;refine wpAny_List_spliced (thn (h pos pins s σ H _ I hq) fun us s1 ⟨xs,H1,I1,r,z,q⟩=>⟨by rw [<- r.length];exact z,?_⟩);have hf:H1 s1.heap.objs.size=none:=I1.hok.fresh (Nat.le_refl _);refine ⟨.ref s1.heap.objs.size,upd H1 s1.heap.objs.size (.lst xs),I1.laid (t':=s1.toks) (fun b u e=>get?_push_of_some _ e) (Nat.le_refl _) ?_,rfl,q _ hf⟩;exact ⟨z,us,0,r,get?_push_size _ rfl⟩
end
abbrev Sp:=List V->Hp->VK->XK->Prop
abbrev CXT:=List Env->Hp->Shared->XK->Value->Shared->Prop
structure Env0 (P:Program) (w:World) (K:PySem.W.Frag) (mg:Str->Option Value) (base:Heap) (A:Around) (outer:List Env) (s:Shared) (H:Hp):Prop where
 frames:A.frames=some outer
 mod:Mod K mg base
 bs:∀ b o,base.get? b=some o->s.heap.get? b=some o/\H b=none
 bsz:base.objs.size<=s.heap.objs.size
 funs:s.heap.FunFrames base outer
 frf:∀ b∈frs outer,H b=none
 hok:HOk P w H s.heap
 bare:AllBare s.gens
def CE (outer:List Env) (P:Program) (w:World) (H:Hp) (s:Shared) (Q:VK) (u:Value) (s':Shared):Prop :=
 ∃ v H',s'.os=s.os/\AllBare s'.gens/\Un (frs outer) [] H H' s.heap s'.heap/\HOk P w H' s'.heap/\RelV v u/\Q v H'
def CR (CX:CXT) (outer:List Env) (P:Program) (w:World) (H:Hp) (s:Shared) (Q:VK) (E:XK) (r:Result) (s':Shared):Prop :=
 match r with
 | .ok (.ret u)=>CE outer P w H s Q u s'
 | .ok _=>False
 | .error e=>CX outer H s E e s'
structure FnOk (P:Program) (w:World) (K:PySem.W.Frag) (mg:Str->Option Value) (base:Heap) (CX:CXT) (k:Nat) (f:Addr) (fd:FuncData) (ps:List Str) (sp:Sp):Prop where
 len:∀ vs H Q E,sp vs H Q E->vs.length=ps.length
 run:∀ (A:Around) (outer:List Env) (s:Shared) (H:Hp) (args:Args) (us:List Value) (vs:List V) (Q:VK) (E:XK),Room k A->Env0 P w K mg base A outer s H->BindsTo s fd args (ps.zip us)->Vals vs us->sp vs H Q E->
  codeAny (model P w) A (.call (.ref f) args) (CR CX outer P w H s Q E) s
theorem Env0.make {P:Program} {w:World} {K:PySem.W.Frag} {mg:Str->Option Value} {base:Heap} {A:Around} {outer:List Env} {s:Shared} {H:Hp} (e:Env0 P w K mg base A outer s H) (C:Addr) (us:List Value) (kw:List (Str × Value)) :
  Env0 P w K mg base (A.under (.builtin "type.__call__" ⟨.ref C :: us,kw⟩)) outer s H:=⟨by first | exact e.frames | (simpa [Around.under,Code.envs,Code.isFrame,pushEnvs] using e.frames),e.mod,e.bs,e.bsz,e.funs,e.frf,e.hok,e.bare⟩
theorem Env0.in1 {P:Program} {w:World} {K:PySem.W.Frag} {mg:Str->Option Value} {base:Heap} {A:Around} {outer:List Env} {s:Shared} {H:Hp} (e:Env0 P w K mg base A outer s H) :
  Env0 P w K mg base A.in1 outer s H:=⟨e.frames,e.mod,e.bs,e.bsz,e.funs,e.frf,e.hok,e.bare⟩
section
variable {X:Cx} {pins:List (Addr × Obj)} {σ:St} {H:Hp} {s s':Shared}
theorem Inv.env0 (I:Inv X pins σ H s):Env0 X.prog X.w X.K X.mg X.base X.A X.stack s H :=
 ⟨I.ok.frames,I.ok.mod,I.bs,Nat.le_trans I.ok.bsz I.sz,I.stack,I.stkFree,I.hok,I.bare⟩
theorem Inv.after {Q:VK} {u:Value} (I:Inv X pins σ H s) (h:CE X.stack X.prog X.w H s Q u s'):EP X pins σ Q u s':=by
 obtain ⟨v,H',os,bare,un,hok,r,q⟩:=h;obtain ⟨hh,g,d,t,os'⟩:=s';obtain rfl:os'=s.os:=os;exact ⟨v,H',I.call (h':=hh) (g':=g) (d':=d) (t':=t) (ch:=[]) un hok bare (fun b z=>absurd z (by simp)),r,q⟩
end
def tCall (sp:Sp) (dvs:List V) (E:XK) (t:TA):TE:=fun σ H Q=>t σ H fun vs H1=>sp (vs ++ dvs) H1 Q E
def tMake (C:Addr) (sp:Sp) (dvs:List V) (E:XK) (t:TA):TE:=fun σ H Q=>t σ H fun vs H1=>∀ x dx,H1 x=none->H1 dx=none->dx≠x->
 sp (.ref x :: (vs ++ dvs)) (upd (upd H1 dx (.own x)) x (.ins C dx [])) (fun v H2=>v=.non/\Q (.ref x) H2) E
def Binds (K:PySem.W.Frag) (fd:FuncData) (ps:List Str) (ds:List Value):Prop :=
 ∀ (s:Shared) (us:List Value),K.In s.heap->(us ++ ds).length=ps.length->BindsTo s fd ⟨us,[]⟩ (ps.zip (us ++ ds))
theorem Binds.all {K:PySem.W.Frag} {fd:FuncData} {ps:List Str} (h:∀ us:List Value,us.length=ps.length->bindArgs fd ⟨us,[]⟩=pure (ps.zip us)):Binds K fd ps []:=fun s us _ hl=>by
 rw [append_nil] at hl ⊢;exact .of_eq (h us hl)
def J3u (CX:CXT) (X:Cx) (E:XK):Prop:=∀ (pins:List (Addr × Obj)) (σ:St) (H:Hp) (s:Shared) (e:Value) (s':Shared),Inv X pins σ H s->CX X.stack H s E e s'->X.xe e s'
section
variable {X:Cx} {CX:CXT} {k:Nat} {f C:Addr} {fd:FuncData} {ps:List Str} {sp:Sp} {dvs:List V} {ds:List Value} {E:XK} {x m:Str} {p pos apos:Pos} {e o:Expr} {es:List Expr} {ta:TE} {t:TA}
theorem run_fn {pins:List (Addr × Obj)} {σ:St} {H:Hp} {s:Shared} {Q:VK} {us:List Value} {vs:List V} (F:FnOk X.prog X.w X.K X.mg X.base CX k f fd ps sp) (hr:Room k X.A) (hb:Binds X.K fd ps ds) (hd:Vals dvs ds) (hx:J3u CX X E)
  (I:Inv X pins σ H s) (r:Vals vs us) (h:sp (vs ++ dvs) H Q E):wpAny (model X.prog X.w) X.A (call (.ref f) us) (EP X pins σ Q) X.xe s:=by
 have r2:Vals (vs ++ dvs) (us ++ ds):=r.append hd;have hl:(us ++ ds).length=ps.length:=by rw [<- r2.length];exact F.len _ _ _ _ h
 refine wpAny_call (codeAny_mono (F.run X.A X.stack s H ⟨us,[]⟩ (us ++ ds) (vs ++ dvs) Q E hr I.env0 (hb s us I.kIn hl) r2 h) fun r s' hq=>?_)
 cases r with
 | error e=>exact hx pins σ H s e s' I hq
 | ok fl =>
  cases fl with
  | ret u=>exact I.after hq
  | next=>exact False.elim hq
  | brk=>exact False.elim hq
  | cont=>exact False.elim hq
theorem Jc (F:FnOk X.prog X.w X.K X.mg X.base CX k f fd ps sp) (hr:Room k X.A) (hg:Gl X x) (hm:X.mg x=some (.ref f)) (hk:keepIn X.K (.ref f)=true) (hb:Binds X.K fd ps ds) (hd:Vals dvs ds) (hx:J3u CX X E)
  (ha:PA X (e :: es) t) (hdb:(x == ("__debug__":Str))=false:=by decide) (he:starEach (e :: es) X.env=(false,eval e X.env) :: starEach es X.env:=by rfl) (hpl:(backTo pos (starEach es X.env)).any (·.1)=false:=by rfl) :
  PE X (.Call (.Name x p) (e :: es) [] pos) (tCall sp dvs E t):=by
 intro pins s σ H Q I h;refine wpAny_Call_Name_kw (J3l I hg hm ?_ hdb);refine callWith_K (h₀:=X.base) I.ok.mod.kin hk (thn (ha pos pins s σ H _ I h) fun us s1 ⟨vs,H1,I1,r,q⟩=>⟨I1.kIn,?_⟩) he hpl;exact run_fn F hr hb hd hx I1 r q
structure Mk (K:PySem.W.Frag) (C f:Addr):Prop where
 makes:makesIn K C=true
 init:findIn K (.ref C) "__init__"=some (some (.ref f))
 fn:isFn K (.ref f)=true
 kp:keepIn K (.ref C)=true
theorem run_make {pins:List (Addr × Obj)} {σ:St} {H:Hp} {s:Shared} {Q:VK} {us:List Value} {vs:List V} (M:Mk X.K C f) (F:FnOk X.prog X.w X.K X.mg X.base CX k f fd ps sp) (hr:Room (k + 1) X.A) (hb:Binds X.K fd ps ds) (hd:Vals dvs ds)
  (hx:J3u CX X E) (I:Inv X pins σ H s) (r:Vals vs us)
  (h:∀ x dx,H x=none->H dx=none->dx≠x->sp (.ref x :: (vs ++ dvs)) (upd (upd H dx (.own x)) x (.ins C dx [])) (fun v H2=>v=.non/\Q (.ref x) H2) E) :
  wpAny (model X.prog X.w) X.A (call (.ref C) us) (EP X pins σ Q) X.xe s:=by
 have hq:=h (s.heap.objs.size + 1) s.heap.objs.size (I.hok.fresh (Nat.le_succ _)) (I.hok.fresh (Nat.le_refl _)) (Nat.ne_of_lt (Nat.lt_succ_self _));have I2:=Inv.made (C:=C) I;have r2:Vals (V.ref (s.heap.objs.size + 1) :: (vs ++ dvs)) (Value.ref (s.heap.objs.size + 1) :: (us ++ ds)):=.cons rfl (r.append hd);have hl:(Value.ref (s.heap.objs.size + 1) :: us ++ ds).length=ps.length:=by
  have e:=r2.length;rw [F.len _ _ _ _ hq] at e;exact e.symm
 refine wpAny_call (make_map (f:=f) I.kIn M.makes M.init (beq_iff_eq.mp M.fn) (codeAny_mono (F.run _ X.stack _ _ ⟨Value.ref (s.heap.objs.size + 1) :: us,[]⟩ (Value.ref (s.heap.objs.size + 1) :: (us ++ ds)) _ _ E (hr.make C us [])
  (I2.env0.make C us []) (hb _ (Value.ref (s.heap.objs.size + 1) :: us) I2.kIn hl) r2 hq) fun r s' hq'=>?_))
 cases r with
 | error e=>exact hx pins σ _ _ e s' I2 hq'
 | ok fl =>
  cases fl with
  | ret u =>
   obtain ⟨v,H',I3,rv,ev,q3⟩:=I2.after hq';subst ev;exact ⟨rv,⟨V.ref (s.heap.objs.size + 1),H',I3,rfl,q3⟩⟩
  | next=>exact False.elim hq'
  | brk=>exact False.elim hq'
  | cont=>exact False.elim hq'
theorem J16 (M:Mk X.K C f) (F:FnOk X.prog X.w X.K X.mg X.base CX k f fd ps sp) (hr:Room (k + 1) X.A) (hg:Gl X x) (hm:X.mg x=some (.ref C)) (hb:Binds X.K fd ps ds) (hd:Vals dvs ds) (hx:J3u CX X E)
  (ha:PA X (e :: es) t) (hdb:(x == ("__debug__":Str))=false:=by decide) (he:starEach (e :: es) X.env=(false,eval e X.env) :: starEach es X.env:=by rfl) (hpl:(backTo pos (starEach es X.env)).any (·.1)=false:=by rfl) :
  PE X (.Call (.Name x p) (e :: es) [] pos) (tMake C sp dvs E t):=by
 intro pins s σ H Q I h;refine wpAny_Call_Name_kw (J3l I hg hm ?_ hdb);refine callWith_K (h₀:=X.base) I.ok.mod.kin M.kp (thn (ha pos pins s σ H _ I h) fun us s1 ⟨vs,H1,I1,r,q⟩=>⟨I1.kIn,?_⟩) he hpl;exact run_make M F hr hb hd hx I1 r q
end
structure FnScope (N P:List Str) (sc:Scope):Prop where
 kind:sc.kind=.function
 co:sc.isCoroutine=false
 gen:sc.isGenerator=false
 nd:N.Nodup
 pre:N.take P.length=P
 par:∀ x∈P,sc.names.lookup x=some .local\/sc.names.lookup x=some .cell
 nofree:∀ y∈sc.names,y.2≠.free
theorem fS {N P:List Str} {sc:Scope} (a:sc.kind=.function:=by rfl) (b:sc.isCoroutine=false:=by rfl) (c:sc.isGenerator=false:=by rfl) (d:N.Nodup:=by decide +kernel) (e:N.take P.length=P:=by rfl) (f:∀ x∈P,sc.names.lookup x=some .local\/sc.names.lookup x=some .cell:=by decide +kernel) (g:∀ y∈sc.names,y.2≠.free:=by decide +kernel) : FnScope N P sc:=⟨a,b,c,d,e,f,g⟩
theorem bindL_out {kindOf:Str->Option NameKind} {x:Str}:∀ {binds:List (Str × Value)} {m:Str->Option Value},(∀ v,(x,v) ∉ binds)->bindL kindOf binds m x=m x
 | [],_,_=>rfl
 | (n,v) :: r,m,h=>by
  unfold bindL;rw [bindL_out fun w hw=>h w (mem_cons_of_mem _ hw)];split
  ·have:x≠n:=by rintro rfl;exact h v mem_cons_self
   simp [this]
  ·rfl
theorem bindC_out {kindOf:Str->Option NameKind} {x:Str}:∀ {binds:List (Str × Value)} {m:Str->Option Value},(∀ v,(x,v) ∉ binds)->bindC kindOf binds m x=m x
 | [],_,_=>rfl
 | (n,v) :: r,m,h=>by
  unfold bindC;rw [bindC_out fun w hw=>h w (mem_cons_of_mem _ hw)];split
  ·rfl
  ·have:x≠n:=by rintro rfl;exact h v mem_cons_self
   simp [this]
theorem bindL_get {kindOf:Str->Option NameKind} {x:Str} {v:Value}:∀ {P:List Str} {vs:List Value} {i:Nat} {m:Str->Option Value},P.Nodup->P[i]?=some x->vs[i]?=some v->kindOf x=some .local->
  bindL kindOf (P.zip vs) m x=some v
 | [],_,_,_,_,h,_,_=>by simp at h
 | _ :: _,[],_,_,_,_,h,_=>by simp at h
 | p :: P,w :: vs,0,m,nd,h1,h2,hk=>by
  simp at h1 h2;subst h1;subst h2;show bindL kindOf ((p,w) :: P.zip vs) m p=_;unfold bindL;rw [bindL_out fun v hv=>(nodup_cons.mp nd).1 (List.of_mem_zip hv).1,if_pos hk];simp
 | p :: P,w :: vs,i + 1,m,nd,h1,h2,hk=>by
  show bindL kindOf ((p,w) :: P.zip vs) m x=_;unfold bindL;exact bindL_get (i:=i) (nodup_cons.mp nd).2 (by simpa using h1) (by simpa using h2) hk
theorem bindC_get {kindOf:Str->Option NameKind} {x:Str} {v:Value}:∀ {P:List Str} {vs:List Value} {i:Nat} {m:Str->Option Value},P.Nodup->P[i]?=some x->vs[i]?=some v->kindOf x≠some .local->
  bindC kindOf (P.zip vs) m x=some v
 | [],_,_,_,_,h,_,_=>by simp at h
 | _ :: _,[],_,_,_,_,h,_=>by simp at h
 | p :: P,w :: vs,0,m,nd,h1,h2,hk=>by
  simp at h1 h2;subst h1;subst h2;show bindC kindOf ((p,w) :: P.zip vs) m p=_;unfold bindC;rw [bindC_out fun v hv=>(nodup_cons.mp nd).1 (List.of_mem_zip hv).1,if_neg hk];simp
 | p :: P,w :: vs,i + 1,m,nd,h1,h2,hk=>by
  show bindC kindOf ((p,w) :: P.zip vs) m x=_;unfold bindC;exact bindC_get (i:=i) (nodup_cons.mp nd).2 (by simpa using h1) (by simpa using h2) hk
def start (N:List Str) (vs:List V):St:=vs.map some ++ List.replicate (N.length - vs.length) none
def cxOf (CX:CXT) (P:Program) (w:World) (K:PySem.W.Frag) (mg:Str->Option Value) (base:Heap) (N:List Str) (qual:Str) (scope:Scope) (f:Addr) (cd:Value) (A:Around) (outer:List Env) (s:Shared) (H:Hp) (E:XK):Cx where
 prog:=P
 w:=w
 K:=K
 mg:=mg
 base:=base
 A:=A.deeper (envOfC qual scope s.heap.objs.size f cd)
 N:=N
 s₀:=s
 H₀:=H
 env:=envOfC qual scope s.heap.objs.size f cd
 outer:=outer
 stack:=envOfC qual scope s.heap.objs.size f cd :: outer
 ex:=[]
 calm:=true
 fn:=fun _=>true
 pn:=[]
 xe:=fun e s'=>wpAny (model P w) (A.deeper (envOfC qual scope s.heap.objs.size f cd)) (leaving (envOfC qual scope s.heap.objs.size f cd) e) (fun _ s''=>CX outer H s E e s'') (fun e' s''=>CX outer H s E e' s'') s'
theorem cell_has {sc:Scope} {n:Nat} {x:Str} (h:sc.names.lookup x=some .cell):∃ c,(cellsFrom n sc.names []).lookup x=some c:=by
 have q:=PySem.W.cellsFrom_some sc.names n [] (.inl h);exact Option.isSome_iff_exists.mp q
theorem inv_start {CX:CXT} {P:Program} {w:World} {K:PySem.W.Frag} {mg:Str->Option Value} {base:Heap} {N ps:List Str} {qual:Str} {scope:Scope} {f:Addr} {cd:Value} {A:Around} {outer:List Env} {s s1:Shared} {H:Hp} {E:XK} {us:List Value} {vs:List V}
  (S:FnScope N ps scope) (hd:A.handled=none) (e0:Env0 P w K mg base A outer s H) (hl:vs.length=ps.length) (r:Vals vs us)
  (x:InCallC s s.heap.objs.size (bindL (envOfC qual scope s.heap.objs.size f cd).kindOf (ps.zip us) fun _=>none) (cellsFrom (s.heap.objs.size + 1) scope.names []) (bindC (envOfC qual scope s.heap.objs.size f cd).kindOf (ps.zip us) fun _=>none) s1) :
  Inv (cxOf CX P w K mg base N qual scope f cd A outer s H E) [] (start N vs) H s1:=by
 have hpl:ps.length<=N.length:=by have:=congrArg List.length S.pre;rw [length_take] at this;lia
 obtain ⟨h1,tk,rfl,hk⟩:=x.done;have noA:∀ b:Addr,b ∉ (cxOf CX P w K mg base N qual scope f cd A outer s H E).ex:=fun b z=>absurd (show b∈([]:List Addr) from z) (by simp);refine ⟨⟨e0.mod,S.kind,rfl,rfl,Nat.le_refl _,fun y z c h1 h2=>?_,fun y hy=>?_,fun y c _ h=>?_,fun _=>hd,Around.frames_deeper e0.frames,.inr ⟨rfl,rfl⟩,fun b z=>absurd z (noA b),e0.bs,e0.bsz,fun b _ _=>noA b,fun b z=>absurd z (noA b),e0.funs,e0.frf⟩,
  rfl,e0.bare,Un.kept hk,⟨_,x.toInCall.ns,fun i y v h1 h2 h3=>?_⟩,fun y c h=>⟨_,x.cell y c h⟩,e0.hok.fresh (Nat.le_refl _),fun y c h=>?_,fun p hp=>absurd (show p∈([]:List (Addr × Obj)) from hp) (by simp),e0.hok.kept hk,?_⟩
 ·exact name_of_addr x.apart (mem_of_lookup h1) (mem_of_lookup h2)
 ·have hy:scope.names.lookup y=some .cell\/scope.names.lookup y=some .free:=hy;rcases hy with hy | hy
  ·exact cell_has hy
  ·exact absurd rfl (S.nofree _ (mem_of_lookup hy))
 ·exact Nat.le_of_lt (x.above y c (mem_of_lookup h))
 ·have hi:i < vs.length:=by
   unfold start at h2;by_cases hi:i < vs.length
   ·exact hi
   ·rw [getElem?_append_right (by simpa using hi)] at h2;rw [List.getElem?_replicate] at h2;split at h2 <;> cases h2
  have ha:vs[i]?=some v:=by
   unfold start at h2;rw [getElem?_append_left (by simpa using hi),getElem?_map] at h2
   cases e:vs[i]? with
   | none=>rw [e] at h2;cases h2
   | some a=>rw [e] at h2;cases h2;rfl
  obtain ⟨u,hu,rv⟩:=r.get ha;have hp:ps[i]?=some y:=by
   rw [<- S.pre,List.getElem?_take_of_lt (by lia)];exact h1
  have ndP:ps.Nodup:=by rw [<- S.pre];exact S.nd.sublist (List.take_sublist _ _)
  refine ⟨u,rv,?_⟩;rcases S.par y (mem_of_getElem? hp) with k | k
  ·exact .inl ⟨k,bindL_get ndP hp hu k⟩
  ·obtain ⟨c,e⟩:=cell_has (n:=s.heap.objs.size + 1) k;refine .inr ⟨.inl k,c,e,?_⟩;have q:=x.cell y c e;rw [bindC_get ndP hp hu (by show scope.names.lookup y≠_;rw [k];decide)] at q;exact q
 ·exact e0.hok.fresh (Nat.le_of_lt (x.above y c (mem_of_lookup h)))
 ·unfold start;show _=N.length;rw [length_append,length_map,length_replicate];lia
theorem fn_of {CX:CXT} {P:Program} {w:World} {K:PySem.W.Frag} {mg:Str->Option Value} {base:Heap} {k:Nat} {f:Addr} {name qual:Str} {params:Arguments} {body:List Stmt} {scope:Scope} {dV kV doc pm cdv ct oc:Value} {an od:Option Addr}
  {osl:Array (Option Value)} {N ps:List Str} {sp:Sp} (lk:K.lookup f=some ⟨oc,od,.func (fnOf name qual params body scope dV kV doc pm an cdv ct),osl⟩) (hcd:codeIn K cdv qual=true) (S:FnScope N ps scope)
  (len:∀ vs H Q E,sp vs H Q E->vs.length=ps.length)
  (hbody:∀ (A:Around) (outer:List Env) (s:Shared) (H:Hp) (vs:List V) (Q:VK) (E:XK),Room k (A.deeper (envOfC qual scope s.heap.objs.size f cdv))->sp vs H Q E->
   ∃ t,PSs (cxOf CX P w K mg base N qual scope f cdv A outer s H E) body t/\t { nx:=fun _ H'=>Q .non H',rt:=Q } (start N vs) H) :
  FnOk P w K mg base CX (k + 1) f (fnOf name qual params body scope dV kV doc pm an cdv ct) ps sp:=by
 refine ⟨len,fun A outer s H args us vs Q E hr e0 hb r hsp=>?_⟩;have hl:=len _ _ _ _ hsp;have KX:K.In s.heap:=e0.mod.kin.keeps fun b o e=>(e0.bs b o e).1;have lim:s.heap.NoLimit:=e0.mod.nolimit.keeps fun b o e=>(e0.bs b o e).1;have hkind:∀ y∈ps.zip us,scope.names.lookup y.1=some .local\/(scope.names.lookup y.1=some .cell/\((cellsFrom (s.heap.objs.size + 1) scope.names []).lookup y.1).isSome=true):=fun ⟨n,v⟩ hy=>by
  rcases S.par n (List.of_mem_zip hy).1 with q | q
  ·exact .inl q
  ·exact .inr ⟨q,PySem.W.cellsFrom_some _ _ _ (.inl q)⟩
 refine codeAny_call_function hr.depth (KX _ _ lk) rfl S.co S.gen rfl (PySem.W.codeRec_of KX hcd) (hb _ _ _ _ ?_);refine wpAny_newFunctionEnv_cells S.kind hkind fun env he s1 x=>?_;subst he;refine ⟨lim.keeps x.toInCall.keep,codeAny_func ?_⟩;obtain ⟨t,ht,hq⟩:=hbody A outer s H vs Q E (hr.deeper _) hsp;have I:Inv (cxOf CX P w K mg base N qual scope f cdv A outer s H E) [] (start N vs) H s1:=inv_start S hr.hd e0 hl r x;refine wpAny_mono (ht [] s1 (start N vs) H _ I hq) (fun fl s' hs=>?_) fun e s' hs=>hs;have fin:∀ {σ':St} {H':Hp} {v:V} {u:Value},Inv (cxOf CX P w K mg base N qual scope f cdv A outer s H E) [] σ' H' s'->RelV v u->Q v H'->CE outer P w H s Q u s' :=
  fun {σ' H' v u} J rv q=>⟨v,H',J.os,J.bare,J.base,J.hok,rv,q⟩
 cases fl with
 | ret u =>
  obtain ⟨v,σ',H',J,rv,q⟩:=hs;exact fin J rv q
 | next =>
  obtain ⟨σ',H',J,q⟩:=hs;exact fin (v:=V.non) (u:=Value.none) J rfl q
 | brk =>
  obtain ⟨_,_,_,q⟩:=hs;exact False.elim q
 | cont =>
  obtain ⟨_,_,_,q⟩:=hs;exact False.elim q
end L2
namespace L2
open PySem PySem.Spec PyProof.Rows
section
variable {X:Cx} {x:Str} {p pos:Pos} {e:Expr} {es:List Expr} {t:TA} {id T:String} {r:List V->Hp->VK->Prop}
def tCB (r:List V->Hp->VK->Prop) (t:TA):TE:=fun σ H Q=>t σ H fun vs H1=>r vs H1 Q
theorem Je (hc:CallR X (.builtin id) r) (hg:Gl X x) (hm:X.mg x=none) (hv:bootBuiltins x=some (.builtin id)) (ha:PA X (e :: es) t) (hn:x≠"__name__":=by decide) (hdb:(x == ("__debug__":Str))=false:=by decide)
  (he:starEach (e :: es) X.env=(false,eval e X.env) :: starEach es X.env:=by rfl) (hpl:(backTo pos (starEach es X.env)).any (·.1)=false:=by rfl):PE X (.Call (.Name x p) (e :: es) [] pos) (tCB r t):=by
 intro pins s σ H Q I h;refine wpAny_Call_Name_kw (J6c I hg hm hv ?_ hn hdb);exact PyProof.Rows.callWith_builtin1 (thn (ha pos pins s σ H _ I h) fun us s1 ⟨vs,H1,I1,r1,q1⟩=>hc pins s1 σ H1 vs us Q I1 r1 q1) he hpl
theorem Jk (hc:CallR X (.type T) r) (hg:Gl X x) (hm:X.mg x=none) (hv:bootBuiltins x=some (.type T)) (ha:PA X (e :: es) t) (hn:x≠"__name__":=by decide) (hdb:(x == ("__debug__":Str))=false:=by decide)
  (he:starEach (e :: es) X.env=(false,eval e X.env) :: starEach es X.env:=by rfl) (hpl:(backTo pos (starEach es X.env)).any (·.1)=false:=by rfl):PE X (.Call (.Name x p) (e :: es) [] pos) (tCB r t):=by
 intro pins s σ H Q I h;refine wpAny_Call_Name_kw (J6c I hg hm hv ?_ hn hdb);exact callWith_type1 (thn (ha pos pins s σ H _ I h) fun us s1 ⟨vs,H1,I1,r1,q1⟩=>hc pins s1 σ H1 vs us Q I1 r1 q1) he hpl
end
end L2
namespace HT
open PySem PyProof.Rows
section
variable {prog:Program} {w:World} {A:Around} {E:Value->Shared->Prop} {s:Shared}
def sIx (n d:Nat):Option Int->Nat
 | none=>d
 | some v=>if v < 0 then (v + (n:Int)).toNat else min v.toNat n
theorem sIx_none (n d:Nat):sIx n d none=d:=rfl
theorem sIx_nat (n d k:Nat):sIx n d (some (k:Int))=min k n:=by
 show (if (k:Int) < 0 then ((k:Int) + (n:Int)).toNat else min (k:Int).toNat n)=min k n;rw [if_neg (by lia),Int.toNat_natCast]
theorem sIx_le (n d:Nat) (hd:d<=n) (o:Option Int):sIx n d o<=n:=by
 cases o with
 | none=>exact hd
 | some v =>
  show (if v < 0 then (v + (n:Int)).toNat else min v.toNat n)<=n;by_cases hv:v < 0
  ·rw [if_pos hv];lia
  ·rw [if_neg hv];exact Nat.min_le_right _ _
theorem clip_eq (v:Int) (n d:Nat):(if v < 0 then max (v + (n:Int)) 0 else min v (n:Int))=((sIx n d (some v):Nat):Int):=by
 show (if v < 0 then max (v + (n:Int)) 0 else min v (n:Int))=(((if v < 0 then (v + (n:Int)).toNat else min v.toNat n):Nat):Int);by_cases hv:v < 0
 ·simp only [if_pos hv];lia
 ·simp only [if_neg hv];lia
theorem adjust_gen (lo hi:Option Int) (n:Nat):Builtin.Slice.sliceAdjust lo hi 1 (n:Int)=(((sIx n 0 lo:Nat):Int),((sIx n n hi:Nat):Int)):=by
 have h1:¬ ((1:Int) < 0):=by lia
 unfold Builtin.Slice.sliceAdjust;simp only [h1,if_false];refine Prod.ext ?_ ?_
 ·cases lo with
  | none=>rfl
  | some v=>exact clip_eq v n 0
 ·cases hi with
  | none=>rfl
  | some v=>exact clip_eq v n n
theorem places_gen (i j:Nat):Builtin.Slice.slicePlaces (i:Int) (j:Int) 1=j - i:=by
 unfold Builtin.Slice.slicePlaces;have h1:(1:Int) > 0:=by lia
 simp only [h1,if_true,Int.ediv_one];split <;> lia
theorem J54 {v:Value} {o:Option Int} {Q:Option Int->Shared->Prop} (p:IsPart v o) (h:Q o s):wpAny (model prog w) A (Builtin.Slice.slicePartIndex v) Q E s:=by
 cases p with
 | none=>exact slicePart_none h
 | int i t=>exact slicePart_int h
theorem J3f {sl:Addr} {vl vu:Value} {lo hi:Option Int} {n:Nat} {Q:Int × Int × Nat->Shared->Prop} (hs:s.heap.IsSliceOf sl vl vu .none) (pl:IsPart vl lo) (pu:IsPart vu hi)
  (h:Q (((sIx n 0 lo:Nat):Int),1,sIx n n hi - sIx n 0 lo) s):wpAny (model prog w) A (Builtin.Slice.sliceApplied (.ref sl) (pure (n:Int))) Q E s:=by
 obtain ⟨os,hos,hcs,hds⟩:=id hs;unfold Builtin.Slice.sliceApplied Builtin.Slice.sliceFields;refine wpAny_bind (wpAny_bind (wpAny_field hos hds (x:=vl) rfl (wpAny_bind (wpAny_field hos hds (x:=vu) rfl (wpAny_bind (wpAny_field hos hds (x:=.none) rfl (wpAny_pure ?_)))))));refine wpAny_bind (slicePart_none ?_);show wpAny _ _ (if ((1:Int) == 0)=true then _ else _) _ _ s;rw [if_neg (by decide)];refine wpAny_bind (J54 pl (wpAny_bind (J54 pu (wpAny_bind (wpAny_pure ?_)))));show wpAny _ _ (match Builtin.Slice.sliceAdjust lo hi 1 (n:Int) with | (lo,hi)=>pure (lo,(1:Int),Builtin.Slice.slicePlaces lo hi 1)) _ _ s;rw [adjust_gen lo hi n];show wpAny _ _ (pure (((sIx n 0 lo:Nat):Int),(1:Int),Builtin.Slice.slicePlaces ((sIx n 0 lo:Nat):Int) ((sIx n n hi:Nat):Int) 1)) _ _ s;rw [places_gen];exact wpAny_pure h
theorem pick_gen (xs:Array Value) (i k:Nat):((List.range k).filterMap fun (m:Nat)=>xs[((i:Int) + (m:Int) * 1).toNat]?).toArray=((xs.toList.drop i).take k).toArray:=by
 have e:(fun (m:Nat)=>xs[((i:Int) + (m:Int) * 1).toNat]?)=fun m=>xs[i + m]?:=by
  funext m
  have:((i:Int) + (m:Int) * 1).toNat=i + m:=by lia
  rw [this]
 rw [e];have:=pick_run xs i k;rw [List.filterMap_map] at this;have e2:((fun x=>xs[x]?) ∘ fun x=>i + x)=fun m=>xs[i + m]?:=rfl;rw [e2] at this;rw [this]
theorem getItem_tuple_cut {t sl:Addr} {items:Array Value} {vl vu:Value} {lo hi:Option Int} {Q:Value->Shared->Prop} (ht:IsTup s.heap t items) (hs:s.heap.IsSliceOf sl vl vu .none) (pl:IsPart vl lo) (pu:IsPart vu hi)
  (hw:¬ (sIx items.size 0 lo=0/\sIx items.size items.size hi=items.size))
  (h:Q (.ref s.heap.objs.size) { s with heap:=s.heap.push { cls:=.type "tuple",data:=.seq ((items.toList.drop (sIx items.size 0 lo)).take (sIx items.size items.size hi - sIx items.size 0 lo)).toArray } })
  (hsz:items.size<=sizeLine):wpAny (model prog w) A (getItem (.ref t) (.ref sl)) Q E s:=by
 have htake:sizeOk (.seq ((items.toList.drop (sIx items.size 0 lo)).take (sIx items.size items.size hi - sIx items.size 0 lo)).toArray):=by
  show ((items.toList.drop (sIx items.size 0 lo)).take (sIx items.size items.size hi - sIx items.size 0 lo)).toArray.size<=sizeLine;rw [size_toArray,length_take,length_drop,length_toList];lia
 have hj:sIx items.size items.size hi<=items.size:=sIx_le _ _ (Nat.le_refl _) hi;obtain ⟨os,hos,hcs,hds⟩:=id hs;have hTs:s.TypeIs (.ref sl) "slice":=⟨os,hos,hcs⟩;unfold getItem
 try with_reducible refine wpAny_holding ?_
 first | refine wpAny_bind (wpAny_pure ?_) | skip
 refine wpAny_bind (wpAny_sequenceKey ht.typeIs (by decide) ?_);refine wpAny_bind (wpAny_callSpecial?_slot (name:=Str.ofString "__getitem__") ht.typeIs PyProof.Rows.slot_tuple_getitem
  (wpAny_call_entry PyProof.Rows.slot_tuple_getitem ht.typeIs entry_tuple_getitem ?_ (args_tuple_getitem _ _)))
 show wpAny _ _ (Builtin.Tuple.tupleItemsOf (.ref t) >>= _) _ _ s;refine wpAny_bind (tupleItemsOf_ ht ?_);refine wpAny_bind (wpAny_typeOf hTs ?_);rw [if_pos (by decide)];refine wpAny_bind (J3f hs pl pu ?_);have hno:¬ ((((sIx items.size 0 lo:Nat):Int) == 0 && (1:Int) == 1 && (sIx items.size items.size hi - sIx items.size 0 lo) == items.size)=true):=by
  intro q;rw [Bool.and_eq_true,Bool.and_eq_true] at q;have q1:((sIx items.size 0 lo:Nat):Int)=0:=eq_of_beq q.1.1;have q2:sIx items.size items.size hi - sIx items.size 0 lo=items.size:=eq_of_beq q.2;exact hw ⟨by lia,by lia⟩
 show wpAny _ _ (if (((sIx items.size 0 lo:Nat):Int) == 0 && (1:Int) == 1 && (sIx items.size items.size hi - sIx items.size 0 lo) == items.size)=true then _ else _) _ _ s;rw [if_neg hno,pick_gen]
 first
  | exact wpAny_bind (m:=Builtin.Tuple.tupleExact _) (wpAny_newObj_type (wpAny_pure ⟨_,rfl,wpAny_pure h⟩) htake)
  | exact wpAny_bind (m:=Builtin.Tuple.tupleExact _) (wpAny_newObj_type (wpAny_bind (wpAny_pure (wpAny_pure ⟨_,rfl,wpAny_pure h⟩))) htake)
  | exact wpAny_bind (wpAny_bind (m:=Builtin.Tuple.tupleExact _) (wpAny_newObj_type (wpAny_pure (wpAny_pure ⟨_,rfl,wpAny_pure h⟩)) htake))
  | exact wpAny_bind (wpAny_bind (m:=Builtin.Tuple.tupleExact _) (wpAny_newObj_type (wpAny_pure ⟨_,rfl,wpAny_pure h⟩) htake))
end
end HT
namespace L2
open PySem PySem.Spec PyProof.Rows
abbrev TO:=St->Hp->(Option Int->Hp->Prop)->Prop
def PO (X:Cx) (e:Option Expr) (t:TO):Prop :=
 ∀ (pins:List (Addr × Obj)) (s:Shared) (σ:St) (H:Hp) (Q:Option Int->Hp->Prop),Inv X pins σ H s->t σ H Q->
  wpAny (model X.prog X.w) X.A (evalPart e X.env) (fun u s'=>∃ o H',Inv X pins σ H' s'/\IsPart u o/\Q o H') X.xe s
def tNoPart:TO:=fun _ H Q=>Q none H
def tPart (t:TE):TO:=fun σ H Q=>t σ H fun x H1=>∃ i,x=.int i/\Q (some i) H1
theorem J1i {ns:List Int}:∀ {us:List Value},Vals (ns.map V.int) us->IntsAre us ns:=by
 induction ns with
 | nil=>intro us r;rw [map_nil] at r;cases r;exact .nil
 | cons n ns ih =>
  intro us r;rw [map_cons] at r
  cases r with
  | cons r1 r2 =>
   obtain ⟨t,e⟩:=r1;subst e;exact .cons n t (ih r2)
section
variable {X:Cx} {e:Expr} {te:TE} {lo hi:Option Expr} {tl th:TO} {pos p2:Pos}
theorem J57:PO X none tNoPart:=by
 intro pins s σ H Q I h;rw [evalPart_none];exact wpAny_pure ⟨none,H,I,.none,h⟩
theorem J56 (h:PE X e te):PO X (some e) (tPart te):=by
 intro pins s σ H Q I hw;rw [evalPart_some];refine thn (h pins s σ H _ I hw) fun u s1 ⟨x,H1,I1,r1,q1⟩=>?_;obtain ⟨i,rfl,q⟩:=q1;obtain ⟨t,rfl⟩:=r1;exact ⟨some i,H1,I1,.int i t,q⟩
def SlR (X:Cx) (r:V->Option Int->Option Int->Hp->VK->Prop):Prop :=
 ∀ (pins:List (Addr × Obj)) (s:Shared) (σ:St) (H:Hp) (x:V) (v vl vu:Value) (lo hi:Option Int) (sl:Addr) (Q:VK),Inv X pins σ H s->RelV x v->s.heap.IsSliceOf sl vl vu .none->IsPart vl lo->IsPart vu hi->r x lo hi H Q->
  ∃ T id,typeLookup (.type T) "__getitem__"=pure (some (.builtin id))/\s.TypeIs v T/\wpAny (model X.prog X.w) X.A (getItem v (.ref sl)) (EP X pins σ Q) X.xe s
def tSl (r:V->Option Int->Option Int->Hp->VK->Prop) (te:TE) (tl th:TO):TE:=fun σ H Q=>te σ H fun x H1=>tl σ H1 fun l H2=>th σ H2 fun u H3=>r x l u H3 Q
theorem J3h {r:V->Option Int->Option Int->Hp->VK->Prop} (hr:SlR X r) (he:PE X e te) (hl:PO X lo tl) (hu:PO X hi th):PE X (.Subscript e (.Slice lo hi none p2) pos) (tSl r te tl th):=by
 intro pins s σ H Q I h;refine Subscript_ (thn (he pins s σ H _ I h) fun v s1 ⟨x,H1,I1,r1,q1⟩=>?_);refine wpAny_Slice (thn (hl pins s1 σ H1 _ I1 q1) fun vl s2 ⟨l,H2,I2,pl,q2⟩=>thn (hu pins s2 σ H2 _ I2 q2) fun vu s3 ⟨u,H3,I3,pu,q3⟩=>?_);rw [evalPart_none];refine wpAny_pure ?_;have I4:Inv X pins σ H3 { s3 with heap:=s3.heap.push { cls:=.type "slice",data:=.fields #[vl,vu,.none] } }:=I3.kept (t':=s3.toks) fun b ob q=>get?_push_of_some _ q;obtain ⟨T,id,hT,ht,hg⟩:=hr pins { s3 with heap:=s3.heap.push { cls:=.type "slice",data:=.fields #[vl,vu,.none] } } σ H3 x v vl vu l u s3.heap.objs.size Q I4 r1 (Heap.IsSliceOf.new ..) pl pu q3;show wpAny (model X.prog X.w) X.A (subscriptTail e (.Slice lo hi none p2) v (.ref s3.heap.objs.size)) (EP X pins σ Q) X.xe { s3 with heap:=s3.heap.push { cls:=.type "slice",data:=.fields #[vl,vu,.none] } };exact tail_any (ops:=[.ref s3.heap.objs.size,v]) ht hT hg (by with_unfolding_all rfl)
def cutV (xs:List V) (lo hi:Option Int):List V:=(xs.drop (HT.sIx xs.length 0 lo)).take (HT.sIx xs.length xs.length hi - HT.sIx xs.length 0 lo)
theorem J42 (xs:List V) (lo hi:Option Int):(cutV xs lo hi).length<=xs.length:=by
 unfold cutV;rw [length_take,length_drop];lia
def rSlT (K:PySem.W.Frag):V->Option Int->Option Int->Hp->VK->Prop:=fun x lo hi H Q=>∃ a xs,x=.ref a/\SqT K H a xs/\
 ¬ (HT.sIx xs.length 0 lo=0/\HT.sIx xs.length xs.length hi=xs.length)/\∀ p,H p=none->Q (.ref p) (upd H p (.tup (cutV xs lo hi)))
theorem sl_tup:SlR X (rSlT X.K):=by
 intro pins s σ H x v vl vu lo hi sl Q I rx hs pl pu h;obtain ⟨a,xs,rfl,hx,hw,q⟩:=h;cases rx;obtain ⟨its,r,ht,hz⟩:=I.tuple hx;have hlen:its.toArray.size=xs.length:=by rw [size_toArray];exact r.length.symm
 refine ⟨"tuple",_,PyProof.Rows.slot_tuple_getitem.lookup,ht.typeIs,?_⟩;refine HT.getItem_tuple_cut ht hs pl pu (by rw [hlen];exact hw) ?_ (by rw [hlen];exact hz);rw [hlen];refine ⟨.ref s.heap.objs.size,_,I.laid (t':=s.toks) (o:=.tup (cutV xs lo hi)) (fun b ob q=>get?_push_of_some _ q) (Nat.le_refl _) ?_,rfl,q _ (I.hok.fresh (Nat.le_refl _))⟩;exact ⟨Nat.le_trans (J42 xs lo hi) hz,_,(r.drop (HT.sIx xs.length 0 lo)).take (HT.sIx xs.length xs.length hi - HT.sIx xs.length 0 lo),TupX.new _ _⟩
end
end L2
namespace L2
open PySem PySem.Spec PyProof.Rows
def ixN (n:Nat) (i:Int):Option Nat:=if 0<=i then (if i < n then some i.toNat else none) else if -(n:Int)<=i then some (i + n).toNat else none
def atI {α:Type} (xs:List α) (i:Int):Option α:=(ixN xs.length i).bind fun j=>xs[j]?
theorem ixN_seq {n:Nat} {i:Int} {j:Nat} (h:ixN n i=some j):seqIndex? i n=some j/\j < n/\-(n:Int)<=i/\i < n:=by
 unfold ixN at h;by_cases h0:0<=i
 ·rw [if_pos h0] at h;by_cases h1:i < n
  ·rw [if_pos h1] at h;have e:i.toNat=j:=Option.some.inj h;exact ⟨by rw [seqIndex_of h0 h1,e],by lia,by lia,h1⟩
  ·rw [if_neg h1] at h;cases h
 ·rw [if_neg h0] at h;by_cases h1:-(n:Int)<=i
  ·rw [if_pos h1] at h;have e:(i + n).toNat=j:=Option.some.inj h;exact ⟨by rw [seqIndex_neg (by lia) h1,e],by lia,h1,by lia⟩
  ·rw [if_neg h1] at h;cases h
theorem atI_get {α:Type} {xs:List α} {i:Int} {v:α} (h:atI xs i=some v):∃ j,seqIndex? i xs.length=some j/\xs[j]?=some v/\j < xs.length/\-(xs.length:Int)<=i/\i < xs.length:=by
 unfold atI at h
 cases e:ixN xs.length i with
 | none=>rw [e] at h;cases h
 | some j =>
  rw [e] at h;obtain ⟨h1,h2,h3,h4⟩:=ixN_seq e;exact ⟨j,h1,h,h2,h3,h4⟩
theorem Jj {α:Type} {xs:List α} {j:Nat} {v:α} (h:xs[j]?=some v):atI xs (j:Int)=some v:=by
 have hj:j < xs.length:=(List.getElem?_eq_some_iff.mp h).1;have e:ixN xs.length (j:Int)=some j:=by
  unfold ixN;rw [if_pos (by lia),if_pos (by lia)];simp
 unfold atI;rw [e];exact h
theorem atI_last {α:Type} (xs:List α) (v:α):atI (xs ++ [v]) (-1)=some v:=by
 have hl:(xs ++ [v]).length=xs.length + 1:=by simp
 have e:ixN (xs ++ [v]).length (-1)=some xs.length:=by
  unfold ixN;rw [hl,if_neg (by decide),if_pos (by lia)]
  congr 1
  lia
 unfold atI;rw [e];show (xs ++ [v])[xs.length]?=some v;simp
def PlainIx (b:Expr):Prop:=∀ o i,subscripted b false o i=operate [o,i] (getItem o i)
def IxR (X:Cx) (r:R2):Prop :=
 ∀ (value slice:Expr) (pins:List (Addr × Obj)) (s:Shared) (σ:St) (H:Hp) (x y:V) (v u:Value) (Q:VK),Inv X pins σ H s->RelV x v->RelV y u->r x y H Q->
  subscripted slice false v u=operate [v,u] (getItem v u)->wpAny (model X.prog X.w) X.A (subscriptTail value slice v u) (EP X pins σ Q) X.xe s
def MtR (X:Cx) (id:String) (r:V->List V->Hp->VK->Prop):Prop :=
 ∀ (pins:List (Addr × Obj)) (s:Shared) (σ:St) (H:Hp) (x:V) (xs:List V) (v:Value) (us:List Value) (Q:VK),Inv X pins σ H s->RelV x v->Vals xs us->r x xs H Q->
  wpAny (model X.prog X.w) X.A (call (.builtin id) (v :: us)) (EP X pins σ Q) X.xe s
section
variable {X:Cx} {a b:Expr} {ta tb:TE} {pos:Pos}
theorem pe_ix {r:R2} (hr:IxR X r) (ha:PE X a ta) (hb:PE X b tb) (hs:PlainIx b):PE X (.Subscript a b pos) (tOp r ta tb):=by
 intro pins s σ H Q I h;exact Subscript_ (binT ha hb I h fun v u s2 x y H2 I2 rx ry q=>hr a b pins s2 σ H2 x y v u Q I2 rx ry q (hs _ _))
def rIxL (K:PySem.W.Frag):R2:=fun x y H Q=>∃ p xs i v,x=.ref p/\y=.int i/\SqL K H p xs/\atI xs i=some v/\Q v H
def rIxT (K:PySem.W.Frag):R2:=fun x y H Q=>∃ p xs i v,x=.ref p/\y=.int i/\SqT K H p xs/\atI xs i=some v/\Q v H
theorem J2s:IxR X (rIxL X.K):=by
 intro value slice pins s σ H x y v u Q I rx ry h hs;obtain ⟨p,xs,i,z,rfl,rfl,hq,he,q⟩:=h;cases rx;obtain ⟨t,rfl⟩:=ry;obtain ⟨its,r,pl,hz⟩:=I.list hq;obtain ⟨j,h1,h2,h3,h4,h5⟩:=atI_get he;obtain ⟨w,ew,rw'⟩:=r.get h2;have hl:=r.length;have hn:=line63;have fin:EP X pins σ Q w s:=⟨z,H,I,rw',q⟩;by_cases h0:0<=i
 ·have hj:i.toNat=j:=by
   rw [seqIndex_of h0 h5] at h1;exact Option.some.inj h1
  exact item_listR pl.isList h0 (by lia) (by rw [hj];simpa using ew) fin hs
 ·have hj:(i + (its.toArray.size:Int)).toNat=j:=by
   rw [seqIndex_neg (by lia) h4] at h1;rw [size_toArray,<- hl];exact Option.some.inj h1
  exact subscriptTail_builtinR (x:=w) pl.isList.typeIs slot_list_getitem.lookup
   (wpAny_getItem_list_neg (Q:=fun r s'=>r=w/\EP X pins σ Q r s') pl.isList (by lia) (by rw [size_toArray] <;> lia) (by lia) (by rw [hj];simpa using ew) ⟨rfl,fin⟩) hs
theorem Js:IxR X (rIxT X.K):=by
 intro value slice pins s σ H x y v u Q I rx ry h hs;obtain ⟨p,xs,i,z,rfl,rfl,hq,he,q⟩:=h;cases rx;obtain ⟨t,rfl⟩:=ry;obtain ⟨its,r,pl,hz⟩:=I.tuple hq;obtain ⟨j,h1,h2,h3,h4,h5⟩:=atI_get he;obtain ⟨w,ew,rw'⟩:=r.get h2;have hl:=r.length;have hn:=line63;have fin:EP X pins σ Q w s:=⟨z,H,I,rw',q⟩;exact subscriptTail_builtinR (x:=w) pl.typeIs slot_tuple_getitem.lookup
  (getItem_tuple (j:=j) (Q:=fun r s'=>r=w/\EP X pins σ Q r s') pl (by lia) (by lia) (by rw [size_toArray,<- hl];exact h1) (by simpa using ew) ⟨rfl,fin⟩) hs
theorem mapSeq_set (its:List Value) (n j:Nat) (u:Value):Obj.mapSeq (·.setIfInBounds j u) { cls:=.type "list",data:=.seq its.toArray n }={ cls:=.type "list",data:=.seq (its.set j u).toArray n }:=by
 simp [Obj.mapSeq]
theorem Inv.lst {pins:List (Addr × Obj)} {σ:St} {H:Hp} {s:Shared} {p:Addr} {xs:List V} (I:Inv X pins σ H s) (h:H p=some (.lst xs)) :
  ∃ (its:List Value) (n:Nat),Vals xs its/\s.heap.get? p=some { cls:=.type "list",data:=.seq its.toArray n }/\xs.length<=sizeLine:=by
 obtain ⟨z,its,n,r,e⟩:=I.hok p _ h;exact ⟨its,n,r,e,z⟩
theorem Inv.lstUpd {pins:List (Addr × Obj)} {σ:St} {H:Hp} {s:Shared} {p:Addr} {xs ys:List V} {its its':List Value} {n n':Nat} {f:Obj->Obj} (I:Inv X pins σ H s) (h:H p=some (.lst xs))
  (ho:s.heap.get? p=some { cls:=.type "list",data:=.seq its.toArray n }) (hf:f { cls:=.type "list",data:=.seq its.toArray n }={ cls:=.type "list",data:=.seq its'.toArray n' }) (r:Vals ys its') (hz:ys.length<=sizeLine) (t:Nat) :
  Inv X pins σ (upd H p (.lst ys)) { s with heap:=s.heap.update p f,toks:=t }:=by
 have e:(s.heap.update p f).get? p=some { cls:=.type "list",data:=.seq its'.toArray n' }:=by
  rw [Heap.get?_update_self f ho (by rw [hf] <;> rfl),hf]
 refine I.write (x:=p) (e:=p) (by rw [h];trivial) (.inl rfl) (fun b u hb q=>(Heap.get?_update_other _ _ (Ne.symm hb)).trans q) ⟨_,e⟩ ?_;exact ⟨hz,its',n',r,e⟩
def rSetL:V->V->V->Hp->(Hp->Prop)->Prop:=fun o i v H Q=>∃ p xs k j,o=.ref p/\i=.int k/\H p=some (.lst xs)/\ixN xs.length k=some j/\Q (upd H p (.lst (xs.set j v)))
theorem J48:PSet X rSetL:=by
 intro pins s σ H o i v ov iv u Q I ro ri rv h;obtain ⟨p,xs,k,j,rfl,rfl,hp,hj,q⟩:=h;cases ro;obtain ⟨t,rfl⟩:=ri;obtain ⟨its,n,r,ho,hz⟩:=I.lst hp;obtain ⟨h1,h2,h3,h4⟩:=ixN_seq hj;have hl:=r.length;have hn:=line63;have I':Inv X pins σ (upd H p (.lst (xs.set j v))) { s with heap:=s.heap.update p (Obj.mapSeq (·.setIfInBounds j u)) } :=
  I.lstUpd hp ho (mapSeq_set its n j u) (r.set rv j) (by rw [length_set];exact hz) s.toks
 by_cases h0:0<=k
 ·have hk:k.toNat=j:=by
   rw [seqIndex_of h0 h4] at h1;exact Option.some.inj h1
  exact PySem.W.ki_setAt ho h0 (by lia) (by rw [size_toArray,<- hl];exact h4) (by rw [hk];exact ⟨_,I',q⟩)
 ·have hk:(k + (its.toArray.size:Int)).toNat=j:=by
   rw [seqIndex_neg (by lia) h3] at h1;rw [size_toArray,<- hl];exact Option.some.inj h1
  exact PySem.W.ki_setBack ho (by lia) (by rw [size_toArray,<- hl];exact h3) (by lia) (by rw [hk];exact ⟨_,I',q⟩)
theorem J5v (lo hi:Option Int) (n:Nat):(sliceBounds lo hi none n).1=((HT.sIx n 0 lo:Nat):Int)/\(sliceBounds lo hi none n).2.1=((HT.sIx n n hi:Nat):Int)/\(sliceBounds lo hi none n).2.2=1:=by
 refine ⟨?_,?_,rfl⟩
 ·cases lo with
  | none=>simp [sliceBounds,HT.sIx]
  | some i =>
   simp only [sliceBounds,HT.sIx,Option.getD_none,show (1:Int) > 0 by decide,if_true];by_cases h:i < 0
   ·simp only [h,if_true] <;> lia
   ·simp only [h,if_false] <;> lia
 ·cases hi with
  | none=>simp [sliceBounds,HT.sIx]
  | some i =>
   simp only [sliceBounds,HT.sIx,Option.getD_none,show (1:Int) > 0 by decide,if_true];by_cases h:i < 0
   ·simp only [h,if_true] <;> lia
   ·simp only [h,if_false] <;> lia
theorem J53 (its:List Value) (lo hi:Option Int):slicePick its.toArray lo hi none=((its.drop (HT.sIx its.length 0 lo)).take (HT.sIx its.length its.length hi - HT.sIx its.length 0 lo)).toArray:=by
 obtain ⟨h1,h2,h3⟩:=J5v lo hi its.toArray.size;unfold slicePick;rw [h1,h2,h3];simp only [sliceRange_one,pick_run,size_toArray] <;> rfl
def rSlL (K:PySem.W.Frag):V->Option Int->Option Int->Hp->VK->Prop:=fun x lo hi H Q=>∃ a xs,x=.ref a/\SqL K H a xs/\∀ p,H p=none->Q (.ref p) (upd H p (.lst (cutV xs lo hi)))
theorem sl_list:SlR X (rSlL X.K):=by
 intro pins s σ H x v vl vu lo hi sl Q I rx hs pl pu h;obtain ⟨a,xs,rfl,hx,q⟩:=h;cases rx;obtain ⟨its,r,ht,hz⟩:=I.list hx;have hlen:=r.length;refine ⟨"list",_,slot_list_getitem.lookup,ht.isList.typeIs,?_⟩;refine wpAny_getItem_list_slice ht.isList hs pl pu .none (by simp) ?_ (by rw [size_toArray] <;> lia);rw [J53,<- hlen];refine ⟨.ref s.heap.objs.size,_,I.laid (t':=s.toks) (o:=.lst (cutV xs lo hi)) (fun b ob q=>get?_push_of_some _ q) (Nat.le_refl _) ?_,rfl,q _ (I.hok.fresh (Nat.le_refl _))⟩;exact ⟨Nat.le_trans (J42 xs lo hi) hz,_,0,(r.drop (HT.sIx xs.length 0 lo)).take (HT.sIx xs.length xs.length hi - HT.sIx xs.length 0 lo),get?_push_size _ rfl⟩
def flatV:V->Bool
 | .non=>true
 | .bl _=>true
 | .int _=>true
 | .str _=>true
 | _=>false
def eqV:V->V->Bool
 | .non,.non=>true
 | .bl a,.bl b=>a == b
 | .bl a,.int b=>(if a then 1 else 0) == b
 | .int a,.bl b=>a == (if b then 1 else 0)
 | .int a,.int b=>a == b
 | .str a,.str b=>a == b
 | _,_=>false
theorem eqAt_V {A:Around} {s:Shared} {y x:V} {u v:Value} (ry:RelV y u) (rx:RelV x v) (fy:flatV y=true) (fx:flatV x=true):SeqAt.EqAt A s u v (eqV y x):=by
 cases y with
 | non =>
  cases ry
  cases x with
  | non=>cases rx;exact SeqAt.EqAt.same _
  | bl b=>cases rx;exact SeqAt.EqAt.none_bool b
  | int b=>obtain ⟨t,rfl⟩:=rx;exact SeqAt.EqAt.none_int b t
  | str b=>obtain ⟨t,rfl⟩:=rx;exact SeqAt.EqAt.none_str b t
  | _=>exact absurd (show false=true from fx) Bool.false_ne_true
 | bl a =>
  cases ry
  cases x with
  | non=>cases rx;exact SeqAt.EqAt.bool_none a
  | bl b=>cases rx;exact SeqAt.EqAt.bool_bool a b
  | int b=>obtain ⟨t,rfl⟩:=rx;exact SeqAt.EqAt.bool_int a b t
  | str b=>obtain ⟨t,rfl⟩:=rx;exact SeqAt.EqAt.bool_str a b t
  | _=>exact absurd (show false=true from fx) Bool.false_ne_true
 | int a =>
  obtain ⟨t',rfl⟩:=ry
  cases x with
  | non=>cases rx;exact SeqAt.EqAt.int_none a t'
  | bl b=>cases rx;exact SeqAt.EqAt.int_bool a t' b
  | int b=>obtain ⟨t,rfl⟩:=rx;exact SeqAt.EqAt.int_int a t' b t
  | str b=>obtain ⟨t,rfl⟩:=rx;exact SeqAt.EqAt.int_str a t' b t
  | _=>exact absurd (show false=true from fx) Bool.false_ne_true
 | str a =>
  obtain ⟨t',rfl⟩:=ry
  cases x with
  | non=>cases rx;exact SeqAt.EqAt.str_none a t'
  | bl b=>cases rx;exact SeqAt.EqAt.str_bool a t' b
  | int b=>obtain ⟨t,rfl⟩:=rx;exact SeqAt.EqAt.str_int a t' b t
  | str b=>obtain ⟨t,rfl⟩:=rx;exact SeqAt.EqAt.str_str a t' b t
  | _=>exact absurd (show false=true from fx) Bool.false_ne_true
 | _=>exact absurd (show false=true from fy) Bool.false_ne_true
def eqU (x:V) (u:Value):Bool:=match u with
 | .none=>eqV .non x
 | .bool b=>eqV (.bl b) x
 | .int i _=>eqV (.int i) x
 | .str z _=>eqV (.str z) x
 | _=>false
theorem eqU_of {x y:V} {u:Value} (r:RelV y u) (f:flatV y=true):eqU x u=eqV y x:=by
 cases y with
 | non=>cases r;rfl
 | bl b=>cases r;rfl
 | int i=>obtain ⟨t,rfl⟩:=r;rfl
 | str z=>obtain ⟨t,rfl⟩:=r;rfl
 | _=>exact absurd (show false=true from f) Bool.false_ne_true
theorem J5n {x:V}:∀ {xs:List V} {us:List Value},Vals xs us->xs.all flatV=true->us.any (eqU x)=xs.any fun y=>eqV y x
 | _,_,.nil,_=>rfl
 | y :: xs,u :: us,.cons r t,f=>by
  rw [List.all_cons,Bool.and_eq_true] at f;rw [List.any_cons,List.any_cons,eqU_of r f.1,J5n t f.2]
theorem J3j {A:Around} {s:Shared} {x:V} {v:Value} (rx:RelV x v) (fx:flatV x=true):∀ {xs:List V} {us:List Value},Vals xs us->xs.all flatV=true->∀ u∈us,SeqAt.EqAt A s u v (eqU x u)
 | _,_,.nil,_=>fun u hu=>by cases hu
 | y :: xs,u :: us,.cons r t,f=>fun u' hu=>by
  rw [List.all_cons,Bool.and_eq_true] at f;rcases mem_cons.mp hu with rfl | hu
  ·rw [eqU_of r f.1];exact eqAt_V r rx f.1 fx
  ·exact J3j rx fx t f.2 u' hu
def inV (x:V) (xs:List V):Bool:=xs.any fun y=>eqV y x
def rIn (K:PySem.W.Frag) (neg:Bool):R2:=fun x y H Q=>∃ p xs,y=.ref p/\(SqL K H p xs\/SqT K H p xs)/\flatV x=true/\xs.all flatV=true/\Q (.bl (if neg then !inV x xs else inV x xs)) H
theorem op_in_seq:OpR X (compareOp .In) (rIn X.K false):=by
 intro pins s σ H x y v u Q I rx ry h;obtain ⟨p,xs,rfl,hq,fx,fs,q⟩:=h;cases ry;rcases hq with hq | hq
 ·obtain ⟨its,r,pl,hz⟩:=I.list hq;refine SeqAt.in_listAt (eqU x) pl.isList (fun w hw=>J3j rx fx r fs w (by simpa using hw)) ⟨.bl _,H,I,rfl,?_⟩;rw [show its.toArray.any (eqU x)=its.any (eqU x) by simp,J5n r fs];exact q
 ·obtain ⟨its,r,pl,hz⟩:=I.tuple hq;refine SeqAt.in_tupleAt (eqU x) pl (fun w hw=>J3j rx fx r fs w (by simpa using hw)) ⟨.bl _,H,I,rfl,?_⟩;rw [show its.toArray.any (eqU x)=its.any (eqU x) by simp,J5n r fs];exact q
theorem J66:OpR X (compareOp .NotIn) (rIn X.K true):=by
 intro pins s σ H x y v u Q I rx ry h;obtain ⟨p,xs,rfl,hq,fx,fs,q⟩:=h;cases ry;rcases hq with hq | hq
 ·obtain ⟨its,r,pl,hz⟩:=I.list hq;refine SeqAt.notIn_listAt (eqU x) pl.isList (fun w hw=>J3j rx fx r fs w (by simpa using hw)) ⟨.bl _,H,I,rfl,?_⟩;rw [show its.toArray.any (eqU x)=its.any (eqU x) by simp,J5n r fs];exact q
 ·obtain ⟨its,r,pl,hz⟩:=I.tuple hq;refine SeqAt.notIn_tupleAt (eqU x) pl (fun w hw=>J3j rx fx r fs w (by simpa using hw)) ⟨.bl _,H,I,rfl,?_⟩;rw [show its.toArray.any (eqU x)=its.any (eqU x) by simp,J5n r fs];exact q
theorem Jf:CallR X (.builtin "len") (fun xs H Q=>∃ p ys,xs=[.ref p]/\(SqL X.K H p ys\/SqT X.K H p ys)/\Q (.int ys.length) H):=by
 intro pins s σ H xs us Q I r h;obtain ⟨p,ys,rfl,hq,q⟩:=h;obtain ⟨u,rfl,rx⟩:=vals1 r;cases rx;have hn:=line63;rcases hq with hq | hq
 ·obtain ⟨its,r',pl,hz⟩:=I.list hq;have hlen:=r'.length;exact Calls.call_len_list pl.isList (by simp only [size_toArray] <;> lia) ⟨.int ys.length,H,I.tok _,⟨s.toks + 1,by rw [size_toArray,hlen]⟩,q⟩
 ·obtain ⟨its,r',pl,hz⟩:=I.tuple hq;have hlen:=r'.length;exact len_tuple pl (by simp only [size_toArray] <;> lia) ⟨.int ys.length,H,I.tok _,⟨s.toks + 1,by rw [size_toArray,hlen]⟩,q⟩
theorem J2l:CallR X (.type "list") (fun xs H Q=>∃ p ys,xs=[.ref p]/\(SqL X.K H p ys\/SqT X.K H p ys)/\∀ l,H l=none->Q (.ref l) (upd H l (.lst ys))):=by
 intro pins s σ H xs us Q I r h;obtain ⟨p,ys,rfl,hq,q⟩:=h;obtain ⟨u,rfl,rx⟩:=vals1 r;cases rx;have fin:∀ (its:List Value),Vals ys its->ys.length<=sizeLine->∀ (h':Heap) (c':Nat),(∀ b o',s.heap.get? b=some o'->h'.get? b=some o')->
   h'.get? s.heap.objs.size=some { cls:=.type "list",dict:=none,data:=.seq its.toArray c',slots:=#[] }->EP X pins σ Q (.ref s.heap.objs.size) { s with heap:=h' }:=fun its r' hz h' c' kp e =>
  ⟨.ref s.heap.objs.size,_,I.laid (t':=s.toks) kp (Nat.le_refl _) (show ObjOk X.prog X.w _ h' _ (.lst ys) from ⟨hz,its,c',r',e⟩),rfl,q _ (I.hok.fresh (Nat.le_refl _))⟩
 rcases hq with hq | hq
 ·obtain ⟨its,r',pl,hz⟩:=I.list hq;have hlen:=r'.length;obtain ⟨o,ho,hc,n,hd⟩:=pl.isList;exact call_list_seq p (.inl rfl) ho hc hd (fun h' c' kp e=>fin its r' hz h' c' kp e) (by simp only [size_toArray] <;> lia)
 ·obtain ⟨its,r',pl,hz⟩:=I.tuple hq;have hlen:=r'.length;obtain ⟨o,ho,hc,n,hd⟩:=pl;exact call_list_seq p (.inr rfl) ho hc hd (fun h' c' kp e=>fin its r' hz h' c' kp e) (by simp only [size_toArray] <;> lia)
theorem J5l:CallR X (.type "tuple") (fun xs H Q=>∃ p ys,xs=[.ref p]/\((SqL X.K H p ys/\∀ l,H l=none->Q (.ref l) (upd H l (.tup ys)))\/(SqT X.K H p ys/\Q (.ref p) H))):=by
 intro pins s σ H xs us Q I r h;obtain ⟨p,ys,rfl,h⟩:=h;obtain ⟨u,rfl,rx⟩:=vals1 r;cases rx;rcases h with ⟨hq,q⟩ | ⟨hq,q⟩
 ·obtain ⟨its,r',pl,hz⟩:=I.list hq;have hlen:=r'.length;refine call_tuple_list pl.isList (fun h' kp=>?_) (by simp only [size_toArray] <;> lia);have I1:Inv X pins σ H { s with heap:=h' }:=I.kept (t':=s.toks) kp;have I2:Inv X pins σ (upd H h'.objs.size (.tup ys)) { s with heap:=h'.push { cls:=.type "tuple",data:=.seq its.toArray } } :=
   I1.laid (t':=s.toks) (fun b o e=>get?_push_of_some _ e) (Nat.le_refl _) (show ObjOk X.prog X.w _ _ _ (.tup ys) from ⟨hz,its,r',TupX.new _ _⟩)
  exact ⟨.ref h'.objs.size,_,I2,rfl,q _ (I1.hok.fresh (Nat.le_refl _))⟩
 ·obtain ⟨its,r',pl,hz⟩:=I.tuple hq;exact call_tuple_same pl ⟨.ref p,H,I,rfl,q⟩
def tyV (K:PySem.W.Frag) (T:String) (x:V) (H:Hp):Prop:=match x with
 | .str _=>T="str"
 | .int _=>T="int"
 | .ref p=>(T="list"/\∃ xs,SqL K H p xs)\/(T="tuple"/\∃ o,K.lookup p=some o/\o.cls=.type "tuple"/\o.dict=none)\/
   (T="dict"/\((∃ kvs,H p=some (.dK kvs))\/∃ kvs,H p=some (.dT kvs)))\/(T="set"/\∃ S n,H p=some (.set S n))
 | _=>False
theorem tyV_is {pins:List (Addr × Obj)} {σ:St} {H:Hp} {s:Shared} {T:String} {x:V} {v:Value} (I:Inv X pins σ H s) (r:RelV x v) (ty:tyV X.K T x H) :
  s.TypeIs v T/\∀ a,v=.ref a->∃ ob,s.heap.get? a=some ob/\ob.dict=none:=by
 cases x with
 | str z =>
  obtain ⟨t,rfl⟩:=r;cases (show T="str" from ty);exact ⟨typeIs_str s z t,fun _ e=>nomatch e⟩
 | int i =>
  obtain ⟨t,rfl⟩:=r;cases (show T="int" from ty);exact ⟨typeIs_int s i t,fun _ e=>nomatch e⟩
 | ref p =>
  cases r;rcases ty with ⟨rfl,xs,hq⟩ | ⟨rfl,o,hk,hc,hd⟩ | ⟨rfl,hk⟩ | ⟨rfl,S,n,hk⟩
  ·obtain ⟨its,_,pl,_⟩:=I.list hq;refine ⟨pl.isList.typeIs,fun a e=>?_⟩;cases e;obtain ⟨o,n,e,c,hd,_⟩:=pl;exact ⟨o,e,hd⟩
  ·refine ⟨⟨o,I.kIn p o hk,hc⟩,fun a e=>?_⟩;cases e;exact ⟨o,I.kIn _ o hk,hd⟩
  ·have z:∃ o,s.heap.get? p=some o/\o.ExactDict:=by
    rcases hk with ⟨kvs,hk⟩ | ⟨kvs,hk⟩
    ·obtain ⟨_,_,_,_,o,_,_,e,ex,_⟩:=I.hok p _ hk;exact ⟨o,e,ex⟩
    ·obtain ⟨_,_,_,_,o,_,_,e,ex,_⟩:=I.hok p _ hk;exact ⟨o,e,ex⟩
   obtain ⟨o,e,ex⟩:=z;refine ⟨⟨o,e,ex.1⟩,fun a e2=>?_⟩;cases e2;exact ⟨o,e,ex.2.1⟩
  ·obtain ⟨o,_,_,_,e,ex,_⟩:=I.hok p _ hk;refine ⟨⟨o,e,ex.1⟩,fun a e2=>?_⟩;cases e2;exact ⟨o,e,ex.2.1⟩
 | _=>exact False.elim ty
def tBM (K:PySem.W.Frag) (T:String) (r:V->List V->Hp->VK->Prop) (to:TE) (t:TA):TE:=fun σ H Q=>to σ H fun x H1=>tyV K T x H1/\t σ H1 fun xs H2=>r x xs H2 Q
variable {o e:Expr} {es:List Expr} {to:TE} {t:TA} {name:Str} {apos cpos:Pos} {T id:String} {r:V->List V->Hp->VK->Prop}
theorem pe_bm (pa:PlainAttrs T) (slot:Slot T name id) (hty:typeOf (.builtin id)=pure (.type "method_descriptor")) (hm:MtR X id r) (ho:PE X o to) (ha:PA X (e :: es) t)
  (hbase:attributeBase o name X.env (eval o X.env)=eval o X.env:=by rfl)
  (hfew:((backTo cpos (starEach (e :: es) X.env)).all (fun x=>!x.1) && (backToKw cpos (keywordEach [] X.env)).all (fun x=>x.1.isSome)
   && decide ((e :: es).length + ([]:List Keyword).length + (if ([]:List Keyword).isEmpty then 0 else 1) < 30))=true:=by rfl)
  (hline:(apos.endLine == cpos.line)=true:=by rfl) (hs:starEach (e :: es) X.env=(false,eval e X.env) :: starEach es X.env:=by rfl) (hplain:(backTo cpos (starEach es X.env)).any (·.1)=false:=by rfl) :
  PE X (.Call (.Attribute o name apos) (e :: es) [] cpos) (tBM X.K T r to t):=by
 intro pins s σ H Q I h;refine wpAny_Call_method_late hbase hfew hline rfl (thn (ho pins s σ H _ I h) fun v s1 ⟨x,H1,I1,r1,ty,q1⟩=>?_);obtain ⟨h1,h2⟩:=tyV_is I1 r1 ty;refine ⟨T,id,pa,slot,hty,h1,h2,?_⟩;have hA:=ha cpos pins s1 σ H1 _ I1 q1;rw [hs] at hA ⊢;refine Calls.callWith_builtin (by show (false || (backTo cpos (starEach es X.env)).any (·.1))=false;rw [hplain] <;> rfl) (Calls.evalArgs_plain ?_);exact thn hA fun us s2 ⟨vs,H2,I2,r2,q2⟩=>hm pins s2 σ H2 x vs v us Q I2 r1 r2 q2
end
end L2
namespace L2
open PySem PySem.Spec PyProof.Rows
def MtM (X:Cx) (id:String) (r:V->List V->Hp->VK->Prop):Prop :=
 ∀ (pins:List (Addr × Obj)) (s:Shared) (σ:St) (H:Hp) (x:V) (xs:List V) (v:Value) (us:List Value) (Q:VK),Inv X pins σ H s->RelV x v->Vals xs us->r x xs H Q->
  wpAny (model X.prog X.w) X.A (call (.builtin id) (v :: us)) (EP X pins σ Q) X.xe s
theorem Vals.one:∀ {x:V} {us:List Value},Vals [x] us->∃ u,us=[u]/\RelV x u:=fun r=>vals1 r
theorem Vals.rep {xs:List V} {us:List Value} (h:Vals xs us):∀ k:Nat,Vals (List.replicate k xs).flatten (List.replicate k us).flatten
 | 0=>.nil
 | k + 1=>by
  rw [replicate_succ,replicate_succ,flatten_cons,flatten_cons];exact Vals.append h (Vals.rep h k)
theorem J4s (its:List Value):∀ (k:Nat) (acc:List Value),
  foldl (fun x1 x2=>x1 ++ x2) acc.toArray (List.replicate k its.toArray)=(acc ++ (List.replicate k its).flatten).toArray
 | 0,acc=>by simp
 | k + 1,acc=>by
  have e:acc.toArray ++ its.toArray=(acc ++ its).toArray:=by simp
  have e2:(acc ++ its) ++ (List.replicate k its).flatten=acc ++ (List.replicate (k + 1) its).flatten:=by
   rw [replicate_succ,flatten_cons,List.append_assoc]
  rw [<- e2,<- J4s its k (acc ++ its),<- e,replicate_succ,List.foldl_cons]
section
variable {X:Cx} {pins:List (Addr × Obj)} {σ:St} {H:Hp} {s:Shared} {l b:Addr} {xs ys zs:List V}
theorem Inv.lset {its its':List Value} {n:Nat} {f:Array Value->Array Value} {t':Nat} (I:Inv X pins σ H s) (hH:H l=some (.lst xs))
  (e:s.heap.get? l=some { cls:=.type "list",data:=.seq its.toArray n }) (hf:f its.toArray=its'.toArray) (hv:Vals ys its') (hz:ys.length<=sizeLine) :
  Inv X pins σ (upd H l (.lst ys)) { s with heap:=s.heap.update l (Obj.mapSeq f),toks:=t' }:=by
 have q:=PySem.IsL.update e f;rw [hf] at q;refine I.write (x:=l) (e:=l) (by rw [hH];exact trivial) (.inl rfl) (fun b' u hb hu=>(Heap.get?_update_other s.heap (Obj.mapSeq f) (Ne.symm hb)).trans hu) ⟨_,q⟩ ?_;exact ⟨hz,its',_,hv,q⟩
theorem Inv.lnew {its:List Value} {t':Nat} (I:Inv X pins σ H s) (hv:Vals ys its) (hz:ys.length<=sizeLine) :
  Inv X pins σ (upd H s.heap.objs.size (.lst ys)) { s with heap:=s.heap.push { cls:=.type "list",data:=.seq its.toArray },toks:=t' } :=
 I.laid (fun _ _ q=>get?_push_of_some _ q) (Nat.le_refl _) ⟨hz,its,0,hv,get?_push_size _ rfl⟩
theorem Inv.fresh (I:Inv X pins σ H s):H s.heap.objs.size=none:=I.hok.fresh (Nat.le_refl _)
theorem Inv.lstM (I:Inv X pins σ H s) (hH:H l=some (.lst xs)):xs.length<=sizeLine/\∃ (its:List Value) (n:Nat),Vals xs its/\xs.length=its.length/\s.heap.get? l=some { cls:=.type "list",data:=.seq its.toArray n }:=by
 obtain ⟨z,its,n,r,e⟩:=I.hok l _ hH;exact ⟨z,its,n,r,r.length,e⟩
theorem notLongL {n:Nat} (h:n<=sizeLine):Builtin.List.listTooLong n=false:=by
 unfold Builtin.List.listTooLong;exact decide_eq_false (by lia)
end
section
variable {X:Cx}
def rAppend:V->List V->Hp->VK->Prop:=fun x vs H Q=>∃ l xs y,x=.ref l/\vs=[y]/\H l=some (.lst xs)/\xs.length < sizeLine/\Q .non (upd H l (.lst (xs ++ [y])))
theorem J1b:MtM X "list.append" rAppend:=by
 intro pins s σ H x vs v us Q I rx rv h;obtain ⟨l,xs,y,rfl,rfl,hH,hz,q⟩:=h;cases rx;obtain ⟨u,rfl,ru⟩:=rv.one;obtain ⟨z,its,n,r,hl,e⟩:=I.lstM hH;refine call_meets F.slot_list_append ⟨_,e,rfl⟩ F.entry_list_append (F.args_list_append_2 _ _) (PySem.list_append l its.toArray n u (by rw [size_toArray];lia)) ⟨e,?_⟩;refine ⟨.non,_,I.lset (its':=its ++ [u]) hH e (by simp) (r.append (.cons ru .nil)) ?_,rfl,q⟩;rw [length_append,List.length_singleton];lia
def rExtend:V->List V->Hp->VK->Prop:=fun x vs H Q=>∃ l b xs zs,x=.ref l/\vs=[.ref b]/\H l=some (.lst xs)/\H b=some (.lst zs)/\xs.length + zs.length<=sizeLine/\Q .non (upd H l (.lst (xs ++ zs)))
theorem mt_extend:MtM X "list.extend" rExtend:=by
 intro pins s σ H x vs v us Q I rx rv h;obtain ⟨l,b,xs,zs,rfl,rfl,hH,hB,hz,q⟩:=h;cases rx;obtain ⟨u,rfl,ru⟩:=rv.one;cases ru;obtain ⟨z,its,n,r,hl,e⟩:=I.lstM hH;obtain ⟨z2,its2,n2,r2,hl2,e2⟩:=I.lstM hB;have hsz:its.toArray.size + its2.toArray.size<=sizeLine:=by rw [size_toArray,size_toArray];lia
 have hlong:¬ (!its.toArray.isEmpty && Builtin.List.listTooLong (its.toArray.size + its2.toArray.size))=true:=by
  rw [notLongL hsz,Bool.and_false];exact Bool.false_ne_true
 refine call_meets F.slot_list_extend ⟨_,e,rfl⟩ F.entry_list_extend (F.args_list_extend_2 _ _)
  (AutoSeq1.list_extend_list_list_0 l its.toArray n b its2.toArray n2 hlong (by rw [size_toArray];lia) (by lia)) ⟨e,e2,?_⟩
 refine ⟨.non,_,I.lset (its':=its ++ its2) hH e (by simp) (r.append r2) ?_,rfl,q⟩;rw [length_append];lia
def rCat:R2:=fun x y H Q=>∃ l b xs zs,x=.ref l/\y=.ref b/\H l=some (.lst xs)/\H b=some (.lst zs)/\xs.length + zs.length<=sizeLine/\∀ p,H p=none->Q (.ref p) (upd H p (.lst (xs ++ zs)))
theorem op_cat:OpR X (binaryOp .Add) rCat:=by
 intro pins s σ H x y v u Q I rx ry h;obtain ⟨l,b,xs,zs,rfl,rfl,hH,hB,hz,q⟩:=h;cases rx;cases ry;obtain ⟨z,its,n,r,hl,e⟩:=I.lstM hH;obtain ⟨z2,its2,n2,r2,hl2,e2⟩:=I.lstM hB;refine PySem.P.add_list e e2 ?_ (by rw [size_toArray,size_toArray];lia);have ea:its.toArray ++ its2.toArray=(its ++ its2).toArray:=by simp
 rw [ea];exact ⟨.ref _,_,I.lnew (t':=s.toks) (r.append r2) (by rw [length_append];lia),rfl,q _ I.fresh⟩
def rRep:R2:=fun x y H Q=>∃ l k xs,x=.ref l/\y=.int k/\H l=some (.lst xs)/\-(2 ^ 63)<=k/\k < 2 ^ 63/\xs.length * k.toNat<=sizeLine/\
 ∀ p,H p=none->Q (.ref p) (upd H p (.lst (List.replicate k.toNat xs).flatten))
theorem len_rep {α:Type} (xs:List α) (k:Nat):(List.replicate k xs).flatten.length=k * xs.length:=by
 induction k with
 | zero=>simp
 | succ k ih=>rw [replicate_succ,flatten_cons,length_append,ih,Nat.succ_mul,Nat.add_comm]
theorem op_rep:OpR X (binaryOp .Mult) rRep:=by
 intro pins s σ H x y v u Q I rx ry h;obtain ⟨l,k,xs,rfl,rfl,hH,h1,h2,hz,q⟩:=h;cases rx;obtain ⟨t,rfl⟩:=ry;obtain ⟨z,its,n,r,hl,e⟩:=I.lstM hH;have hlen:its.toArray.size * k.toNat<=sizeLine:=by rw [size_toArray,<- hl];exact hz
 have hcap:¬ its.toArray.size * k.toNat > (2 ^ 63 - 1) / 8:=by
  have:(sizeLine:Nat)<=(2 ^ 63 - 1) / 8:=by decide
  lia
 have hfit:¬ (!Builtin.List.listFitsIndex k)=true:=by
  rw [fitsIndex_both h1 h2];exact Bool.false_ne_true
 have hlong:¬ Builtin.List.listTooLong (its.toArray.size * k.toNat)=true:=by
  rw [notLongL hlen];exact Bool.false_ne_true
 have hnew:foldl (fun x1 x2=>x1 ++ x2) #[] (List.replicate (if its.toArray.isEmpty=true then 0 else k.toNat) its.toArray)=(List.replicate k.toNat its).flatten.toArray:=by
  have f0:∀ m:Nat,foldl (fun x1 x2=>x1 ++ x2) #[] (List.replicate m its.toArray)=(List.replicate m its).flatten.toArray:=fun m=>by
   have:=J4s its m [];rw [nil_append] at this;exact this
  rw [f0]
  cases its with
  | nil=>simp
  | cons a r'=>rw [if_neg (by simp)]
 refine wpAny_binaryOp_repeat_ref (T:="list") (U:="int") (by decide) ⟨_,e,rfl⟩ (fun s'=>typeIs_int s' k t) noFill_list_mul F.fills_int_mul F.slot_int_rmul repeat_list F.slot_int_index.lookup
  (call_meets F.slot_int_rmul (typeIs_int s k t) F.entry_int_rmul (F.args_int_rmul_2 _ _) (int___rmul___int_list k t l its.toArray n)
   ⟨e,rfl,⟨_,e,rfl⟩,call_meets F.slot_list_mul ⟨_,e,rfl⟩ F.entry_list_mul (F.args_list_mul_2 _ _) (AutoListH.list___mul___list_int_3 l its.toArray n k t hfit hcap hlong) ⟨e,?_⟩⟩)
 rw [hnew];exact ⟨.ref _,_,I.lnew (t':=s.toks) (r.rep k.toNat) (by rw [len_rep,Nat.mul_comm];exact hz),rfl,q _ I.fresh⟩
end
section
variable {prog:Program} {w:World} {A:Around} {E:Value->Shared->Prop} {s:Shared}
set_option maxRecDepth 100000 in
end
end L2
namespace Att
open PySem PySem.W PySem.Calls PyProof.Rows
theorem J3t {P:Params} {h:Heap}:∀ (ns:List Int) (vs:List Value),WellAll P h vs (ns.map WData.int)->IntsAre vs ns:=by
 intro ns
 induction ns with
 | nil =>
  intro vs w;rw [map_nil] at w;cases w;exact .nil
 | cons n ns ih =>
  intro vs w;rw [map_cons] at w
  cases w with
  | cons a b =>
   cases a;exact .cons _ _ (ih _ b)
theorem script_of {l:OpenLaw} {n:Nat} (hn:l.most=some n) {P:Params} {h:Heap} {args:List WData} {vals:List Value}
  (hpre:l.row.toRowW.claim.pre args=true) (hwl:WellAll P h vals args) :
  ∃ a vs ns,vals=[Value.ref a]/\args=[WData.list (ns.map WData.int)]/\h.get? a=some { cls:=.type "list",data:=.seq vs.toArray }/\IntsAre vs ns/\ns.length<=n:=by
 have hsh:WShape.hasAll [] args [.list .int]=true:=(pre_splitW hpre).1;have hc:l.pre.holds [] { args:=args }=true:=(pre_splitW hpre).2;obtain ⟨d,r,rfl,h1,h2⟩:=hasAllW_cons hsh;obtain rfl:=hasAllW_nil h2;obtain ⟨xs,rfl,h3⟩:=hasW_list h1;obtain ⟨ns,rfl⟩:=items_int h3;have hlen:ns.length<=n:=by
  unfold OpenLaw.pre at hc;have h4:(WTm.not (.lt (.lit (.int (n:Int))) (.len (.arg 0)))).holds [] { args:=[.list (ns.map .int)] }=true:=by
   have h4:=(holds_andW hc).1;rw [hn] at h4;exact h4
  have h5:=condW_of h4 (w_not (w_lt w_lit (w_len_list (w_arg rfl))));rw [length_map] at h5;refine Nat.le_of_not_lt fun q=>?_;have q':(n:Int) < ((ns.length:Nat):Int):=by lia
  first
   | (rw [decide_eq_true q'] at h5;exact absurd h5 (by decide))
   | (simp at h5;lia)
 cases hwl with
 | cons w1 w2 =>
  cases w2
  cases w1 with
  | list ho hall=>exact ⟨_,_,ns,rfl,rfl,ho,J3t ns _ hall,hlen⟩
theorem post_true (l:OpenLaw) (args:List WData):l.row.toRowW.claim.post args (.bool true) args=true :=
 postW_of (r:=l.row.toRowW) (X:=(true == true))
  (show WShape.has [] (.bool true) .bool=true by first | rfl | decide | simp [WShape.has,WShape.arms,WShape.armsAll])
  (show (WTm.eq .res (.lit (.bool true))).value [] { args:=args,res:=some (.bool true),after:=args }=some (.bool (true == true)) from w_eq_bool (w_res rfl) w_lit) rfl
theorem attach_call {l:OpenLaw} {n:Nat} {q:Program} {loose:List Str} {XP:(Str->Option Value)->Heap->Prop} {YP:World->Heap->Prop} {d:DefRec}
  (hn:l.most=some n) (hdf:d.params.defaults=[])
  (call:∀ (w:World) (s₀ s₁:Shared) (mg mb:Str->Option Value) (fa:Addr) (o:Obj) (pm cd doc:Value) (a:Addr) (vs:List Value) (ns:List Int),
   Ground q loose [] XP w s₀ mg mb s₁.heap->YP w s₁.heap->
   s₁.heap.get? fa=some o->o.data=.func (docDef d.name d.params d.body d.scope pm cd doc)->s₁.heap.CodeRec cd d.name->mg d.name=some (.ref fa)->
   s₁.heap.get? a=some { cls:=.type "list",data:=.seq vs.toArray }->IntsAre vs ns->ns.length<=n->s₁.gens=#[]->
   codeAny (model l.prog w) callerA (.call (.ref fa) ⟨[.ref a],[]⟩) (fun r s'=>r=.ok (.ret (.bool true))/\OldK s₁.heap s'.heap/\s'.os=s₁.os/\AllBare s'.gens) s₁) :
  WalkO q loose XP YP l.row.toRowW d [] (fun f vs=>PySem.call f vs):=by
 intro w s₀ s₁ mg mb G Y fa o pm cd doc dV kV ho hd hcd hD hmg hg args vals as hpre hlay hrd hwl hlo;obtain rfl:dV=.none:=Dflts.none hD hdf;obtain rfl:kV=.none:=Dflts.noKw hD;obtain ⟨a,vs,ns,rfl,rfl,hobj,hints,hlen⟩:=script_of hn hpre hwl;refine enter_call (codeAny_mono (call w s₀ s₁ mg mb fa o pm cd doc a vs ns G Y ho (fd_plain hd) hcd hmg hobj hints hlen hg) fun r s' hq=>?_);obtain ⟨rfl,h2,h3,h4⟩:=hq;exact ⟨.inl ⟨.bool true,.bool true,[],rfl,fun _=>rfl,.bool true,post_true l _,fun _=>⟨List.Pairwise.nil,fun _ hm=>(nomatch hm)⟩⟩,h2,h3,h4⟩
end Att
namespace L2
open PySem PySem.Spec PyProof.Rows
theorem J44:∀ {vs:List Value} {ns:List Int},IntsAre vs ns->Vals (ns.map V.int) vs
 | _,_,.nil=>.nil
 | _,_,.cons n t h=>.cons ⟨t,rfl⟩ (J44 h)
end L2
namespace L2
open PySem PySem.Spec PyProof.Rows
end L2
namespace L2
open PySem PySem.Spec PyProof.Rows
def Ju (s:Stmt) (j:Nat):Stmt:=match s with
 | .ClassDef _ _ _ body _ _ _ _ _ _ _=>body.getD j (.Pass ⟨0,0,0,0⟩)
 | _=>.Pass ⟨0,0,0,0⟩
def J26 (s:Stmt):Arguments:=match s with
 | .FunctionDef _ a _ _ _ _ _ _ _ _=>a
 | _=>{ posonlyargs:=[],args:=[],vararg:=none,kwonlyargs:=[],kw_defaults:=[],kwarg:=none,defaults:=[] }
def J1j (s:Stmt):List Stmt:=match s with
 | .FunctionDef _ _ b _ _ _ _ _ _ _=>b
 | _=>[]
def J6 (s:Stmt):Scope:=match s with
 | .FunctionDef _ _ _ _ _ _ sc _ _ _=>sc
 | _=>{ kind:=.function,names:=[],isGenerator:=false,isCoroutine:=false }
abbrev CX0:CXT:=fun _ _ _ _ _ _=>False
abbrev E0:XK:=fun _ _ _=>False
theorem pass0 {X:Cx}:J3u CX0 X E0:=fun _ _ _ _ _ _ _ h=>h.elim
structure Fun (K:PySem.W.Frag) (x qual:Str) (st:Stmt) (f:Addr) (fd:FuncData):Prop where
 ex:∃ (oc:Value) (od:Option Addr) (kV doc pm:Value) (an:Option Addr) (cdv ct:Value) (osl:Array (Option Value)),
  fd=fnOf x qual (J26 st) (J1j st) (J6 st) .none kV doc pm an cdv ct/\K.lookup f=some ⟨oc,od,.func fd,osl⟩/\codeIn K cdv qual=true
 kp:keepIn K (.ref f)=true
section
variable {P:Program} {w:World} {K:PySem.W.Frag} {mg:Str->Option Value} {base:Heap}
theorem Fun.ok {x qual:Str} {st:Stmt} {f:Addr} {fd:FuncData} {N ps:List Str} {k:Nat} {sp:Sp} (F:Fun K x qual st f fd) (S:FnScope N ps (J6 st)) (len:∀ vs H Q E,sp vs H Q E->vs.length=ps.length)
  (hbody:∀ (cdv:Value) (A:Around) (outer:List Env) (s:Shared) (H:Hp) (vs:List V) (Q:VK) (E:XK),Room k (A.deeper (envOfC qual (J6 st) s.heap.objs.size f cdv))->sp vs H Q E->
   ∃ t,PSs (cxOf CX0 P w K mg base N qual (J6 st) f cdv A outer s H E).nox (J1j st) t/\t { nx:=fun _ H'=>Q .non H',rt:=Q } (start N vs) H):FnOk P w K mg base CX0 (k + 1) f fd ps sp:=by
 obtain ⟨oc,od,kV,doc,pm,an,cdv,ct,osl,rfl,lk,hcd⟩:=F.ex;refine fn_of lk hcd S len fun A outer s H vs Q E hr hsp=>?_;obtain ⟨t,h,q⟩:=hbody cdv A outer s H vs Q E hr hsp;exact ⟨t,h.nox,q⟩
theorem Fun.binds {x qual:Str} {st:Stmt} {f:Addr} {fd:FuncData} {ps:List Str} (F:Fun K x qual st f fd)
  (h:∀ (kV doc pm:Value) (an:Option Addr) (cdv ct:Value) (us:List Value),us.length=ps.length->bindArgs (fnOf x qual (J26 st) (J1j st) (J6 st) .none kV doc pm an cdv ct) ⟨us,[]⟩=pure (ps.zip us)):Binds K fd ps []:=by
 obtain ⟨oc,od,kV,doc,pm,an,cdv,ct,osl,rfl,lk,hcd⟩:=F.ex;exact .all (h kV doc pm an cdv ct)
theorem J1e {x qual:Str} {st:Stmt} {f:Addr} {oc:Value} {od an:Option Addr} {osl:Array (Option Value)} {kV doc pm cdv ct:Value} (l:K.lookup f=some ⟨oc,od,.func (fnOf x qual (J26 st) (J1j st) (J6 st) .none kV doc pm an cdv ct),osl⟩)
  (c:codeIn K cdv qual=true) (k:keepIn K (.ref f)=true):Fun K x qual st f (fnOf x qual (J26 st) (J1j st) (J6 st) .none kV doc pm an cdv ct):=⟨⟨oc,od,kV,doc,pm,an,cdv,ct,osl,rfl,l,c⟩,k⟩
end
theorem hu_of {A:Around} {k:Nat} (hr:Room k A):A.units + 1 < cLine:=Nat.lt_of_le_of_lt (Nat.add_le_add_left (by decide:1<=64) _) hr.units
theorem Jq {n:Nat} (h:n<=1000):n < sizeLine:=Nat.lt_of_le_of_lt h (by decide)
section
variable {X:Cx}
theorem pv (i:Nat) {x:Str} {pos:Pos} (hN:X.N[i]?=some x:=by rfl) (hv:Vis X.env.scope x:=by first | exact Or.inl rfl | exact Or.inr (Or.inl rfl) | exact Or.inr (Or.inr rfl)) (hd:(x == ("__debug__":Str))=false:=by decide)
  (hcd:(x == ("__classdict__":Str))=false:=by decide):PE X (.Name x pos) (tVar i):=pe_var hN hv hd hcd
end
theorem iteF {A B:Prop} (h:B):if false=true then A else B:=by
 rw [if_neg Bool.false_ne_true];exact h
theorem iteT {A B:Prop} (h:A):if true=true then A else B:=by
 rw [if_pos rfl];exact h
theorem iteNS {c A B:Prop} [Decidable c] (hc:c) (h:B):if (!decide c)=true then A else B:=by
 rw [decide_eq_true hc];exact iteF h
def Same (H H':Hp):Prop:=∀ b o,H b=some o->H' b=some o
theorem Same.refl (H:Hp):Same H H:=fun _ _ h=>h
theorem Same.trans {H H1 H2:Hp} (a:Same H H1) (b:Same H1 H2):Same H H2:=fun c o h=>b c o (a c o h)
theorem Same.free {H H':Hp} (e:Same H H') {l:Addr} (h:H' l=Option.none):H l=Option.none:=by
 cases q:H l with
 | none=>rfl
 | some o =>
  rw [e l o q] at h;cases h
theorem Same.seq {K:PySem.W.Frag} {H H':Hp} {a:Addr} {xs:List V} (e:Same H H') (h:SqL K H a xs):SqL K H' a xs:=by
 rcases h with (h | ⟨o,h⟩) | h
 ·exact .inl (.inl (e _ _ h))
 ·exact .inl (.inr ⟨o,e _ _ h⟩)
 ·exact .inr h
end L2
namespace L2
open PySem PySem.Spec PyProof.Rows
abbrev Cx.block (X:Cx) (N:List Str) (scope:Scope) (cl:List (Str × Addr)) (C:Addr) (fp:List Addr) (s:Shared) (H:Hp):Cx :=
 { X with N:=N,s₀:=s,H₀:=H,env:=compEnvC scope cl C X.env,outer:=X.stack,stack:=X.stack,ex:=fp,fn:=fun _=>false,pn:=[],xe:=fun _ _=>False }
theorem J3w {env:Env}:∀ {names:List (Str × NameKind)} {x:Str} {k:NameKind},(names.map fun (n,k)=>if (k == NameKind.free && env.scope.kind == .function && env.kindOf n == some .cell) then (n,NameKind.cell) else (n,k)).lookup x=some k->
  k=.cell\/k=.free->(∀ p∈names,p.2≠.cell)->∃ p∈names,p.1=x/\p.2=.free
 | [],_,_,h,_,_=>by simp at h
 | (n,q) :: r,x,k,h,hk,hc=>by
  have ih:=@J3w env r x k;have hq:q≠.cell:=hc (n,q) mem_cons_self;rw [map_cons] at h;by_cases hx:x=n
  ·subst hx;by_cases e:(q == NameKind.free && env.scope.kind == .function && env.kindOf x == some .cell)=true
   ·simp only [Bool.and_eq_true] at e;exact ⟨(x,q),mem_cons_self,rfl,by simpa using e.1.1⟩
   ·have e2:List.lookup x ((x,q) :: List.map (fun (n,k)=>if (k == NameKind.free && env.scope.kind == .function && env.kindOf n == some .cell) then (n,NameKind.cell) else (n,k)) r)=some k:=by
     simpa only [e,if_false,Bool.false_eq_true] using h
    rw [List.lookup_cons_self] at e2;cases e2;rcases hk with hk | hk
    ·exact absurd hk hq
    ·exact ⟨(x,q),mem_cons_self,rfl,hk⟩
  ·have hb:(x == n)=false:=by simpa using hx
   have h':(List.map (fun (n,k)=>if (k == NameKind.free && env.scope.kind == .function && env.kindOf n == some .cell) then (n,NameKind.cell) else (n,k)) r).lookup x=some k:=by
    by_cases e:(q == NameKind.free && env.scope.kind == .function && env.kindOf n == some .cell)=true
    ·simp only [e,if_true,List.lookup_cons,hb] at h;exact h
    ·simp only [e,if_false,Bool.false_eq_true,List.lookup_cons,hb] at h;exact h
   obtain ⟨p,hp,e1,e2⟩:=ih h' hk fun p hp=>hc p (mem_cons_of_mem _ hp);exact ⟨p,mem_cons_of_mem _ hp,e1,e2⟩
def capv (σ:St) (js:List Nat):St:=js.map fun j=>(σ[j]?).join
theorem J6f {σ:St} {js:List Nat} {k:Nat} {v:V} (h:(capv σ js)[k]?=some (some v)):∃ j,js[k]?=some j/\σ[j]?=some (some v):=by
 unfold capv at h;rw [getElem?_map] at h
 cases e:js[k]? with
 | none=>rw [e] at h;cases h
 | some j =>
  rw [e] at h;refine ⟨j,rfl,?_⟩
  cases e2:σ[j]? with
  | none=>rw [Option.map_some,e2] at h;cases h
  | some o=>rw [Option.map_some,e2] at h;exact congrArg some (Option.some.inj h)
section
variable {X:Cx} {elt iter:Expr} {x y:Str} {px py:Pos} {scope:Scope} {cl:List (Str × Addr)} {pos spos:Pos} {wi:TI} {te:TE} {caps:List Str} {js:List Nat} {i:Nat}
theorem J4v {pins:List (Addr × Obj)} {σ:St} {H:Hp} {s:Shared} {C:Addr} {fp:List Addr} (I:Inv X pins σ H s) (hC:s.heap.objs.size<=C) (f2:∀ b∈fp,FpOk X pins H b) (fl:∀ b∈fp,b < s.heap.objs.size)
  (hkind:scope.kind=.function) (hcell:∀ p∈scope.names,p.2≠.cell) (hsub:∀ p∈cl,X.env.cells.lookup p.1=some p.2) (hhas:∀ p∈scope.names,p.2=.free->∃ c,cl.lookup p.1=some c) :
  (X.block (x :: caps) scope cl C fp s H).Ok where
 mod:=I.ok.mod
 kind:=hkind
 glob:=I.ok.glob
 blt:=I.ok.blt
 above:=hC
 inj:=fun a b c h1 h2=>I.ok.inj a b c (hsub _ (mem_of_lookup h1)) (hsub _ (mem_of_lookup h2))
 has:=fun a h=>by
  have h':(∃ k,(relabel scope X.env).names.lookup a=some k/\(k=.cell\/k=.free)):=by
   rcases h with h | h
   ·exact ⟨_,h,.inl rfl⟩
   ·exact ⟨_,h,.inr rfl⟩
  obtain ⟨k,h1,hk⟩:=h';obtain ⟨p,hp,e1,e2⟩:=J3w h1 hk hcell;rw [<- e1];exact hhas p hp e2
 cab:=fun _ _ h=>nomatch h
 hd:=I.ok.hd
 frames:=I.ok.frames
 stk:=.inl rfl
 exf:=fun b hb=>⟨Nat.ne_of_lt (Nat.lt_of_lt_of_le (fl b hb) hC),fun a c e=>(f2 b hb).2.2.2.2.1 a c (hsub _ (mem_of_lookup e))⟩
 bs:=I.bs
 bsz:=Nat.le_trans I.ok.bsz I.sz
 noex:=fun b o e hb=>by
  rcases (f2 b hb).2.2.2.1 with z | z
  ·exact I.ok.noex b o e z
  ·exact absurd (Nat.lt_of_lt_of_le (lt_size e) (Nat.le_trans I.ok.bsz z)) (Nat.lt_irrefl _)
 exfs:=fun b hb z=>by
  rcases mem_cons.mp (I.stkSub b z) with e | e
  ·exact (f2 b hb).2.1 e
  ·exact (f2 b hb).2.2.1 e
 funs:=I.stack
 frf:=I.stkFree
end
section
variable {X:Cx}
abbrev SqI (K:PySem.W.Frag) (H:Hp) (p:Addr) (xs:List V):Prop:=SqL K H p xs\/SqT K H p xs
theorem J4p {its:List Value} {ns:List Int} (hi:IntsAre its ns):∃ xs:Array (Int × Tok),its.toArray=intItems xs/\preSum (numAt xs) xs.size=ns.sum/\ns=xs.toList.map (·.1):=by
 obtain ⟨xs,hx⟩:=hi.allInts.items;have e1:ns=xs.toList.map (·.1):=by
  rw [<- nums_intItems,<- hx];exact (show numsOf its.toArray.toList=ns from hi.numsOf).symm
 refine ⟨xs,hx,?_,e1⟩;rw [preSum_eq,List.take_of_length_le (by simp),e1]
theorem Jx (hc:X.calm=true):CallR X (.builtin "sum") (fun xs H Q=>∃ (p:Addr) (ns:List Int),xs=[.ref p]/\SqI X.K H p (ns.map V.int)/\Q (.int ns.sum) H):=by
 intro pins s σ H xs us Q I r h;obtain ⟨p,ns,rfl,hq,q⟩:=h;obtain ⟨u,rfl,rx⟩:=vals1 r;cases rx;have hh:=I.ok.hd hc;rcases hq with hq | hq
 ·obtain ⟨its,r',pl,hz⟩:=I.list hq;obtain ⟨xs,hx,e2,_⟩:=J4p (J1i r');refine sum_intListG hh (hx ▸ pl.isList) fun h' tk t' hk=>?_;rw [e2];exact ⟨.int ns.sum,H,I.kept hk,⟨t',rfl⟩,q⟩
 ·obtain ⟨its,r',pl,hz⟩:=I.tuple hq;obtain ⟨xs,hx,e2,_⟩:=J4p (J1i r');refine PySem.W.ktm_sumG hh (hx ▸ (show s.heap.IsTuple p its.toArray from pl)) fun h' tk t' hk=>?_;rw [e2];exact ⟨.int ns.sum,H,I.kept hk,⟨t',rfl⟩,q⟩
theorem J6a {prog:Program} {w:World} {A:Around} {E:Value->Shared->Prop} {s:Shared} {l:Addr} {xs:Array (Int × Tok)} {Q:Value->Shared->Prop} (hh:A.handled=none) (ht:s.heap.IsTuple l (intItems xs)) (hne:0 < xs.size)
  (h:∀ v h' tk,(intItems xs)[argBest (fun i j=>decide (numAt xs i < numAt xs j)) (xs.size - 1)]?=some v->(∀ b o,s.heap.get? b=some o->h'.get? b=some o)->Q v { s with heap:=h',toks:=tk }) :
  wpAny (model prog w) A (call (.builtin "min") [.ref l]) Q E s:=by
 obtain ⟨o,ho,hc,n,hd⟩:=id ht;have hne':l≠s.heap.objs.size:=Nat.ne_of_lt (lt_size ho);refine call_min_walk (wpAny_pyIter_tuple ht ?_);refine ⟨s.heap.objs.size,_,_,_,_,_,_,rfl,Walks.tuple (A:=A.in1) hh _ l hne' (intItems xs),⟨⟨_,get?_push_size _ rfl,rfl,rfl⟩,ht.at fun o e=>get?_push_of_some _ e⟩,fun b hb=>?_,by simpa [intItems] using hne,CmpOf.ints_lt (numAt xs) (fun _ _=>intItems_at),fun v h' tk hP hk=>?_⟩
 ·rcases mem_cons.mp hb with rfl | hb
  ·exact lt_size (get?_push_size _ rfl)
  ·obtain rfl:=mem_singleton.mp hb;exact lt_size (get?_push_of_some _ ho)
 ·refine h v h' tk (by simpa [intItems] using hP) fun b o e=>hk b o (fun hb=>absurd (lt_size e) ((mem_singleton.mp hb) ▸ Nat.lt_irrefl _)) (get?_push_of_some _ e)
theorem best_min {ns:List Int} {xs:Array (Int × Tok)} (hns:ns=xs.toList.map (·.1)) (hsz:0 < xs.size) :
  numAt xs (argBest (fun i j=>decide (numAt xs i < numAt xs j)) (xs.size - 1))∈ns/\∀ a∈ns,numAt xs (argBest (fun i j=>decide (numAt xs i < numAt xs j)) (xs.size - 1))<=a:=by
 obtain ⟨h1,h2⟩:=argBest_lt (numAt xs) (xs.size - 1);refine ⟨?_,fun a ha=>?_⟩
 ·rw [hns,numAt_eq];exact getD_mem (by rw [length_map,length_toList];lia)
 ·rw [hns] at ha;obtain ⟨j,hj,rfl⟩:=mem_getD ha;rw [length_map,length_toList] at hj;rw [<- numAt_eq];exact h2 j (by lia)
theorem call_min (hc:X.calm=true):CallR X (.builtin "min") (fun xs H Q=>∃ (p:Addr) (ns:List Int),xs=[.ref p]/\SqI X.K H p (ns.map V.int)/\0 < ns.length/\∀ M,M∈ns->(∀ a∈ns,M<=a)->Q (.int M) H):=by
 intro pins s σ H xs us Q I r h;obtain ⟨p,ns,rfl,hq,hne,q⟩:=h;obtain ⟨u,rfl,rx⟩:=vals1 r;cases rx;have hh:=I.ok.hd hc;rcases hq with hq | hq
 ·obtain ⟨its,r',pl,hz⟩:=I.list hq;obtain ⟨xs,hx,_,e1⟩:=J4p (J1i r');have hsz:0 < xs.size:=by rw [e1,length_map,length_toList] at hne;exact hne
  refine min_intList hh (hx ▸ pl.isList) hsz fun v h' tk hv hk=>?_;obtain ⟨t,rfl⟩:=intItems_at hv;obtain ⟨b1,b2⟩:=best_min e1 hsz;exact ⟨.int _,H,I.kept hk,⟨t,rfl⟩,q _ b1 b2⟩
 ·obtain ⟨its,r',pl,hz⟩:=I.tuple hq;obtain ⟨xs,hx,_,e1⟩:=J4p (J1i r');have hsz:0 < xs.size:=by rw [e1,length_map,length_toList] at hne;exact hne
  refine J6a hh (hx ▸ (show s.heap.IsTuple p its.toArray from pl)) hsz fun v h' tk hv hk=>?_;obtain ⟨t,rfl⟩:=intItems_at hv;obtain ⟨b1,b2⟩:=best_min e1 hsz;exact ⟨.int _,H,I.kept hk,⟨t,rfl⟩,q _ b1 b2⟩
end
end L2
namespace L2
open PySem PySem.Spec PyProof.Rows
section
variable {prog:Program} {w:World} {A:Around} {E:Value->Shared->Prop} {s:Shared}
theorem J5j {l:Addr} {vs:List Value} {Q:List Value->Shared->Prop} (hl:s.heap.IsTuple l vs.toArray)
  (h:Q vs { s with heap:=(s.heap.push (seqObj "list" #[] 0)).update s.heap.objs.size (Obj.mapSeq (· ++ vs.toArray)) }) (hsz:vs.length<=sizeLine) :
  wpAny (model prog w) A (collect (.ref l)) Q E s:=by
 obtain ⟨o,ho,hc,n,hd⟩:=id hl;unfold collect;refine wpAny_bind (wpAny_runValue (codeAny_builtin entry_proto_collect' ?_));show wpAny _ _ (do again (.builtin "list.__iadd__" ⟨[<- newList [],.ref l],[]⟩)) _ _ s;refine wpAny_bind (wpAny_newList (wpAny_pure ⟨Code.quiet_builtin _ (by decide +kernel),codeAny_builtin entry_list_iadd' ?_⟩));show wpAny _ _ (Builtin.List.listExtendWith (.ref s.heap.objs.size) (.ref l) (.ref s.heap.objs.size)) _ _ { s with heap:=s.heap.push (seqObj "list" #[] 0) };unfold Builtin.List.listExtendWith;have ho':(s.heap.push (seqObj "list" #[] 0)).get? l=some o:=get?_push_of_some _ ho;refine wpAny_bind (wpAny_typeOf (T:="tuple") ⟨o,ho',hc⟩ ?_);have ht:(Value.type "tuple" == Value.type "tuple")=true:=by rfl
 rw [if_pos (by rw [ht];simp)];refine wpAny_bind (listItems_at ho' hd ?_);refine wpAny_bind (listItems_at (xs:=#[]) (n:=0) (get?_push_size _ rfl) rfl ?_);rw [if_neg (by simp)];refine wpAny_bind (listUpdate_at (xs:=#[]) (n:=0) (get?_push_size _ rfl) rfl ?_ (Nat.zero_le _) (by show (#[] ++ vs.toArray).size<=sizeLine + 1;simp only [Array.size_append,size_toArray,List.length_nil];lia));refine wpAny_pure ?_;show wpAny (model prog w) A (do
   let o <- load s.heap.objs.size
   match o.data with
   | .seq xs _=>pure xs.toList
   | _=>unsupported "internal:collect") Q E { s with heap:=(s.heap.push (seqObj "list" #[] 0)).update s.heap.objs.size (Obj.mapSeq (· ++ vs.toArray)) }
 refine wpAny_bind (wpAny_load (get?_update_seq (get?_push_size _ rfl) _) ?_);show wpAny _ _ (pure ((#[]:Array Value) ++ vs.toArray).toList) Q E _;rw [show ((#[]:Array Value) ++ vs.toArray).toList=vs by simp];exact wpAny_pure h
theorem J5u {l:Addr} {vs:List Value} {ns:List Int} {Q:Value->Shared->Prop} (hl:s.heap.IsTuple l vs.toArray) (hI:IntsAre vs ns) (h64:vs.length < 64)
  (h:∀ (out:Array Value) (ns':List Int),IntsAre out.toList ns'->ns'.Perm ns->ns'.Pairwise (·<=·)->Q (.ref (s.heap.objs.size + 1)) { s with heap:=sortedAll s.heap vs out }) :
  wpAny (model prog w) A (call (.builtin "sorted") [.ref l]) Q E s:=by
 refine Calls.call_function_entry kind_sorted plain_sorted entry_sorted (args_sorted1 _) ?_;unfold Builtin.«sorted»;refine wpAny_bind (m:=checkCount "sorted" 1 1 _) (wpAny_pure ?_);refine wpAny_bind (J5j hl ?_ (Nat.le_of_lt (Nat.lt_of_lt_of_le h64 (by rw [sizeLine_eq];decide))));refine wpAny_bind (wpAny_newList ?_);have hsz:((s.heap.push (seqObj "list" #[] 0)).update s.heap.objs.size (Obj.mapSeq (· ++ vs.toArray))).objs.size=s.heap.objs.size + 1:=by
  rw [Heap.size_update,size_push']
 have hoL:(((s.heap.push (seqObj "list" #[] 0)).update s.heap.objs.size (Obj.mapSeq (· ++ vs.toArray))).push (seqObj "list" vs.toArray 0)).get? (s.heap.objs.size + 1)=some (seqObj "list" vs.toArray 0):=by
  rw [<- hsz];exact get?_push_size _ rfl
 show wpAny _ _ _ _ _ { s with heap:=((s.heap.push (seqObj "list" #[] 0)).update s.heap.objs.size (Obj.mapSeq (· ++ vs.toArray))).push (seqObj "list" vs.toArray 0) };rw [hsz];refine wpAny_bind (wpAny_holding (wpAny_call_entry slot_list_sort ⟨_,hoL,rfl⟩ entry_list_sort (list_sort_tree hoL hI h64 fun out ns' a1 a2 a3=>⟨_,rfl,?_⟩) (args_list_sort _)));exact wpAny_pure ⟨_,rfl,h out ns' a1 a2 a3⟩
end
section
variable {X:Cx}
theorem call_sorted:CallR X (.builtin "sorted") (fun xs H Q=>∃ (p:Addr) (ns:List Int),xs=[.ref p]/\SqI X.K H p (ns.map V.int)/\ns.length < 64/\∀ l (ns':List Int),H l=none->ns'.Perm ns->ns'.Pairwise (·<=·)->Q (.ref l) (upd H l (.lst (ns'.map V.int)))):=by
 intro pins s σ H xs us Q I r h;obtain ⟨p,ns,rfl,hq,h64,q⟩:=h;obtain ⟨u,rfl,rx⟩:=vals1 r;cases rx;have fin:∀ (its:List Value) (out:Array Value) (ns':List Int),IntsAre out.toList ns'->ns'.Perm ns->ns'.Pairwise (·<=·)->EP X pins σ Q (.ref (s.heap.objs.size + 1)) { s with heap:=sortedAll s.heap its out }:=fun its out ns' a1 a2 a3=>by
  obtain ⟨e,he⟩:=sortedAll_at s.heap its out;have hz:(ns'.map V.int).length<=sizeLine:=by
   rw [length_map,a2.length_eq];exact Nat.le_of_lt (Jq (by lia))
  refine ⟨.ref _,_,I.laid (t':=s.toks) (a:=s.heap.objs.size + 1) (o:=.lst (ns'.map V.int)) (fun b o e=>sortedAll_old e) (Nat.le_succ _) ⟨hz,out.toList,e,J44 a1,he⟩,rfl,q _ ns' (I.hok.fresh (Nat.le_succ _)) a2 a3⟩
 rcases hq with hq | hq
 ·obtain ⟨its,r',pl,hz⟩:=I.list hq;have hl:=r'.length;rw [length_map] at hl;exact sorted_ints pl.isList (J1i r') (by lia) (fin its)
 ·obtain ⟨its,r',pl,hz⟩:=I.tuple hq;have hl:=r'.length;rw [length_map] at hl;exact J5u (show s.heap.IsTuple p its.toArray from pl) (J1i r') (by lia) (fin its)
theorem J3o:CallR X (.type "range") (fun xs H Q=>∃ j:Int,xs=[.int j]/\∀ r,H r=none->Q (.ref r) (upd H r (.rng 0 j))):=by
 intro pins s σ H xs us Q I r h;obtain ⟨j,rfl,q⟩:=h;obtain ⟨u,rfl,t,rfl⟩:=vals1 r;refine call_range_1 ?_;exact ⟨.ref s.heap.objs.size,_,I.laid (o:=.rng 0 j) (fun b o e=>get?_push_of_some _ e) (Nat.le_refl _) ⟨_,_,_,get?_push_size _ rfl⟩,rfl,q _ (I.hok.fresh (Nat.le_refl _))⟩
theorem J31 {f:Nat->Int}:∀ {n:Nat} {us:List Value},us.length=n->(∀ (i:Nat) (v:Value),us[i]?=some v->∃ t,v=Value.int (f i) t)->Vals ((List.range n).map fun i=>V.int (f i)) us:=by
 intro n us hl h
 induction n generalizing f us with
 | zero=>cases us with
  | nil=>exact .nil
  | cons a r=>simp at hl
 | succ n ih=>cases us with
  | nil=>simp at hl
  | cons a r =>
   obtain ⟨t,e⟩:=h 0 a rfl;subst e;rw [List.range_succ_eq_map,map_cons,map_map];exact .cons ⟨t,rfl⟩ (ih (f:=fun i=>f (i + 1)) (by simpa using hl) fun i v e=>h (i + 1) v (by simpa using e))
theorem J1r (hc:X.calm=true):CallR X (.type "list") (fun xs H Q=>∃ (r:Addr) (n:Nat),xs=[.ref r]/\H r=some (.rng 0 (n:Int))/\n<=1000/\∀ l,H l=none->Q (.ref l) (upd H l (.lst (((List.range n).map fun (i:Nat)=>(i:Int)).map V.int)))):=by
 intro pins s σ H xs us Q I r h;obtain ⟨p,n,rfl,hq,hn,q⟩:=h;simp only [map_map,Function.comp_def] at q;obtain ⟨u,rfl,rx⟩:=vals1 r;cases rx;obtain ⟨t,u,v,e⟩:=I.hok p _ hq;refine call_list_range (I.ok.hd hc) (show IsRange s.heap p 0 (n:Int) 1 t u v from e) (small_one (by lia) (by lia) (by lia) (by lia)) (by rw [rangeSize_one];split <;> lia) (n:=n) (by lia) fun h' tk acc' c' hk hS' hacc=>?_;have hv:Vals ((List.range n).map fun (i:Nat)=>V.int (i:Int)) acc'.toList:=J31 (by rw [length_toList];exact hacc.1) fun i v e=>by
  obtain ⟨t,rfl⟩:=hacc.2 i v (by simpa using e);exact ⟨t,by simp⟩
 refine ⟨.ref s.heap.objs.size,_,I.laid (o:=.lst ((List.range n).map fun (i:Nat)=>V.int (i:Int))) hk (Nat.le_refl _) ⟨?_,acc'.toList,c',hv,by simpa using hS'⟩,rfl,q _ (I.hok.fresh (Nat.le_refl _))⟩;rw [length_map,length_range];exact Nat.le_of_lt (Jq hn)
def Kin (xs ys:List V):Prop:=∀ a∈xs,∀ b∈ys,flatV a=true/\flatV b=true/\eqV a b=decide (a=b)
theorem Kin.ints (ns ms:List Int):Kin (ns.map V.int) (ms.map V.int):=fun a ha b hb=>by
 obtain ⟨i,_,rfl⟩:=mem_map.mp ha;obtain ⟨j,_,rfl⟩:=mem_map.mp hb;refine ⟨rfl,rfl,?_⟩;show (i == j)=decide (V.int i=V.int j);by_cases e:i=j
 ·subst e;simp
 ·rw [decide_eq_false (fun h=>e (V.int.inj h))];simpa using e
theorem Kin.bls (ns ms:List Bool):Kin (ns.map V.bl) (ms.map V.bl):=fun a ha b hb=>by
 obtain ⟨i,_,rfl⟩:=mem_map.mp ha;obtain ⟨j,_,rfl⟩:=mem_map.mp hb;refine ⟨rfl,rfl,?_⟩;show (i == j)=decide (V.bl i=V.bl j);cases i <;> cases j <;> rfl
def eAt (xs ys:List V) (j:Nat):Bool:=match xs[j]?,ys[j]? with
 | some a,some b=>eqV a b
 | _,_=>true
theorem all_eAt {xs ys:List V} (hl:xs.length=ys.length) (hk:Kin xs ys):((List.range xs.length).all (eAt xs ys))=decide (xs=ys):=by
 rw [Bool.eq_iff_iff,all_eq_true,decide_eq_true_iff];constructor
 ·intro h;apply ext_getElem?;intro j;by_cases hj:j < xs.length
  ·have h1:xs[j]?=some xs[j]:=List.getElem?_eq_getElem hj;have h2:ys[j]?=some (ys[j]'(hl ▸ hj)):=List.getElem?_eq_getElem (hl ▸ hj);have:=h j (mem_range.mpr hj);unfold eAt at this;rw [h1,h2] at this;have k:=(hk _ (List.getElem_mem hj) _ (List.getElem_mem (hl ▸ hj))).2.2;have this:eqV xs[j] (ys[j]'(hl ▸ hj))=true:=this;rw [k,decide_eq_true_iff] at this;rw [h1,h2,this]
  ·rw [getElem?_eq_none (by lia),getElem?_eq_none (by lia)]
 ·rintro rfl j hj;have hj':=mem_range.mp hj;unfold eAt;rw [List.getElem?_eq_getElem hj'];have k:=(hk _ (List.getElem_mem hj') _ (List.getElem_mem hj')).2.2;show eqV _ _=true;rw [k];simp
theorem eAt_at {A:Around} {s:Shared} {xs ys:List V} {its its2:List Value} (r:Vals xs its) (r2:Vals ys its2) (hk:Kin xs ys) (j:Nat) (h1:j < its.toArray.size) (h2:j < its2.toArray.size):SeqAt.EqAt A s its.toArray[j] its2.toArray[j] (eAt xs ys j):=by
 have l1:=r.length;have l2:=r2.length;rw [size_toArray] at h1 h2;have g1:xs[j]?=some (xs[j]'(by lia)):=List.getElem?_eq_getElem (by lia);have g2:ys[j]?=some (ys[j]'(by lia)):=List.getElem?_eq_getElem (by lia);obtain ⟨u,e1,ru⟩:=r.get g1;obtain ⟨v,e2,rv⟩:=r2.get g2;have e1':its.toArray[j]=u:=by
  have:=List.getElem?_eq_getElem h1;rw [e1] at this;simpa using (Option.some.inj this).symm
 have e2':its2.toArray[j]=v:=by
  have:=List.getElem?_eq_getElem h2;rw [e2] at this;simpa using (Option.some.inj this).symm
 obtain ⟨f1,f2,_⟩:=hk _ (List.getElem_mem (by lia:j < xs.length)) _ (List.getElem_mem (by lia:j < ys.length));unfold eAt;rw [g1,g2,e1',e2'];exact eqAt_V ru rv f1 f2
def rNeL (K:PySem.W.Frag):R2:=fun x y H Q=>∃ p q xs ys,x=.ref p/\y=.ref q/\SqL K H p xs/\SqL K H q ys/\Kin xs ys/\Q (.bl (!decide (xs=ys))) H
theorem op_neL (hu:X.A.units < cLine):OpR X (compareOp .NotEq) (rNeL X.K):=by
 intro pins s σ H x y v u Q I rx ry h;obtain ⟨p,q,xs,ys,rfl,rfl,hp,hq,hk,hQ⟩:=h;cases rx;cases ry;obtain ⟨its,r,pl,_⟩:=I.list hp;obtain ⟨its2,r2,pl2,_⟩:=I.list hq;have l1:=r.length;have l2:=r2.length;by_cases hl:xs.length=ys.length
 ·refine SeqAt.RcNeAt.lists pl.isList pl2.isList (by rw [size_toArray,size_toArray];lia) hu (fun j h1 h2=>eAt_at r r2 hk j h1 h2) _ _ _ _ ?_;rw [size_toArray,<- l1,all_eAt hl hk];exact ⟨.bl _,H,I,rfl,hQ⟩
 ·refine SeqAt.RcNeAt.lists_lengths pl.isList pl2.isList (by rw [size_toArray,size_toArray];simp;lia) hu _ _ _ _ ?_;rw [decide_eq_false (fun e=>hl (congrArg List.length e))] at hQ;exact ⟨.bl true,H,I,rfl,hQ⟩
theorem J30 {f:Value} (hf:f=.builtin "isinstance"):CallR X f (fun xs H Q=>∃ (x c:V) (t cv:Value) (b:Bool),xs=[x,c]/\RelV c cv/\(∀ v,RelV c v->v=cv)/\TyOf X.K H x t/\kitOne X.K t cv=some b/\Q (.bl b) H):=by
 subst hf;intro pins s σ H xs us Q I r h;obtain ⟨x,c,t,cv,b,rfl,rc,uc,ty,e,q⟩:=h;obtain ⟨u,v,rfl,ru,rv⟩:=vals2 r;obtain rfl:=uc v rv;exact isinst_ok I ru ty e fun tk=>⟨.bl b,H,I.tok tk,rfl,q⟩
end
end L2
namespace L2
open PySem PySem.Spec PyProof.Rows
theorem J3i:fillsNumberSlot (.type "tuple") "mul"=pure false :=
 PySem.fillsNumberSlot_seq (id:="tuple.__mul__") (r:=some (.builtin "tuple.__rmul__")) F.slot_tuple_mul.lookup (by decide +kernel) F.slot_tuple_rmul.lookup (by decide +kernel)
theorem J61:seqRepeat? (.type "tuple")=pure (some (.builtin "tuple.__mul__")):=by
 unfold seqRepeat?;rw [PySem.seqSlot_of (T:="tuple") (name:="__mul__") (id:="tuple.__mul__") F.slot_tuple_mul.lookup (by decide +kernel),PySem.seqSlot_of (T:="tuple") (name:="__rmul__") (id:="tuple.__rmul__") F.slot_tuple_rmul.lookup (by decide +kernel)];rfl
theorem J4q (a:Int) (t:Tok) (l:Addr) (items:Array Value) (n:Nat) (dd:Option Addr) (sl:Array (Option Value)) :
  Meets (Builtin.«int.__rmul__» ⟨[.int a t,.ref l],[]⟩) (fun _ R s=>s.heap.get? l=some { cls:=.type "tuple",dict:=dd,data:=.seq items n,slots:=sl }/\R (.ok (.ret Value.notImplemented)) s) :=
 .of_wp fun prog w A R s h=>by obtain ⟨hp,g,d,tk,os⟩:=s;obtain ⟨hl,h⟩:=h;wp_walk;exact ⟨_,rfl,h⟩
theorem tuple_mulW1 (l:Addr) (items:Array Value) (n:Nat) (dd:Option Addr) (sl:Array (Option Value)) (t:Tok) :
  Meets (Builtin.«tuple.__mul__» ⟨[.ref l,.int 1 t],[]⟩) (fun _ R s=>s.heap.get? l=some { cls:=.type "tuple",dict:=dd,data:=.seq items n,slots:=sl }/\R (.ok (.ret (.ref l))) { s with heap:=s.heap,toks:=s.toks }) :=
 .of_wp fun prog w A R s h=>by
  obtain ⟨hp,g,d,tk,os⟩:=s;obtain ⟨hl,h⟩:=h;have f1:=AutoSeq1.idx_int;have f2:=AutoSeq1.sub_tuple_tuple
  wp_walk using AutoSeq1.wpAny_loadPart' hl;exact ⟨_,rfl,h⟩
theorem tuple_mulWn (l:Addr) (items:Array Value) (n:Nat) (dd:Option Addr) (sl:Array (Option Value)) (k:Int) (t:Tok) (h1:1 < k) (h2:k < 2 ^ 63) (hne:items.isEmpty=false) (hsz:items.size * k.toNat<=sizeLine) :
  Meets (Builtin.«tuple.__mul__» ⟨[.ref l,.int k t],[]⟩) (fun _ R s=>s.heap.get? l=some { cls:=.type "tuple",dict:=dd,data:=.seq items n,slots:=sl }/\
   R (.ok (.ret (.ref s.heap.objs.size))) { s with heap:=s.heap.push { cls:=.type "tuple",data:=.seq ((List.replicate k.toNat items).foldl (· ++ ·) #[]) },toks:=s.toks }) :=
 .of_wp fun prog w A R s h=>by
  obtain ⟨hp,g,d,tk,os⟩:=s;obtain ⟨hl,h⟩:=h;have f1:=AutoSeq1.idx_int;have f2:=AutoSeq1.sub_tuple_tuple;have c1:¬ (decide (k < -(2 ^ 63)) || decide (k>=2 ^ 63))=true:=by simp;lia
  have c2:¬ (items.isEmpty || k == 1)=true:=by rw [hne];simp;lia
  have c3:¬ (decide (k<=0) || items.isEmpty)=true:=by rw [hne];simp;lia
  have ek:(items.size:Int) * k=((items.size * k.toNat:Nat):Int):=by
   rw [Int.natCast_mul,Int.toNat_of_nonneg (by lia)]
  have hs0:(sizeLine:Nat)<=(2 ^ 63 - 1) / 8:=by decide
  have c4:¬ ((items.size:Int) * k > (2 ^ 63 - 1) / 8):=by rw [ek];lia
  have c5:¬ Builtin.Tuple.tupleTooMany ((items.size:Int) * k)=true:=by
   unfold Builtin.Tuple.tupleTooMany;rw [ek,decide_eq_true_iff];lia
  have hsz2:((List.replicate k.toNat items).foldl (· ++ ·) #[]).size<=sizeLine:=by
   rw [AutoSeq1.size_joined];simp;rw [Nat.mul_comm];exact hsz
  wp_walk using AutoSeq1.wpAny_loadPart' hl
  refine wpAny_ite_false (decide_eq_false c1) ?_
  wp_walk using AutoSeq1.wpAny_loadPart' hl
  refine wpAny_ite_false (decide_eq_false c2) ?_;refine wpAny_ite_false (decide_eq_false c3) ?_;refine wpAny_ite_false (decide_eq_false c4) ?_;refine wpAny_ite_false (decide_eq_false c5) ?_
  wp_walk using AutoSeq1.wpAny_loadPart' hl
  exact ⟨_,rfl,h⟩
section
variable {X:Cx}
def rRepT:R2:=fun x y H Q=>∃ (l:Addr) (k:Int) (xs:List V),x=.ref l/\y=.int k/\H l=some (.tup xs)/\xs≠[]/\1<=k/\k < 2 ^ 63/\xs.length * k.toNat<=sizeLine/\(k=1->Q (.ref l) H)/\(1 < k->∀ p,H p=none->Q (.ref p) (upd H p (.tup (List.replicate k.toNat xs).flatten)))
theorem op_repT:OpR X (binaryOp .Mult) rRepT:=by
 intro pins s σ H x y v u Q I rx ry h;obtain ⟨l,k,xs,rfl,rfl,hH,hne,h1,h2,hz,q1,q2⟩:=h;cases rx;obtain ⟨t,rfl⟩:=ry;obtain ⟨its,r,pl,hz'⟩:=I.tuple (SqT.of hH);obtain ⟨⟨cls,dd,data,sl⟩,ho,hc,n,hd⟩:=id pl;simp only at hc hd;subst hc hd;have hl:=r.length;refine wpAny_binaryOp_repeat_ref (T:="tuple") (U:="int") (by decide) ⟨_,ho,rfl⟩ (fun s'=>typeIs_int s' k t) J3i F.fills_int_mul F.slot_int_rmul J61 F.slot_int_index.lookup
  (call_meets F.slot_int_rmul (typeIs_int s k t) F.entry_int_rmul (F.args_int_rmul_2 _ _) (J4q k t l its.toArray n dd sl) ⟨ho,rfl,⟨_,ho,rfl⟩,?_⟩)
 by_cases e:k=1
 ·subst e;exact call_meets F.slot_tuple_mul ⟨_,ho,rfl⟩ F.entry_tuple_mul (F.args_tuple_mul_2 _ _) (tuple_mulW1 l its.toArray n dd sl t) ⟨ho,⟨.ref l,H,I,rfl,q1 rfl⟩⟩
 ·have hni:its.toArray.isEmpty=false:=by
   cases its with
   | nil=>exact absurd (List.length_eq_zero_iff.mp (by simpa using hl)) hne
   | cons a r'=>rfl
  refine call_meets F.slot_tuple_mul ⟨_,ho,rfl⟩ F.entry_tuple_mul (F.args_tuple_mul_2 _ _) (tuple_mulWn l its.toArray n dd sl k t (by lia) h2 hni (by rw [size_toArray,<- hl];exact hz)) ⟨ho,?_⟩;have hnew:foldl (fun x1 x2=>x1 ++ x2) #[] (List.replicate k.toNat its.toArray)=(List.replicate k.toNat its).flatten.toArray:=by
   have:=J4s its k.toNat [];rw [nil_append] at this;exact this
  rw [hnew];refine ⟨.ref _,_,I.laid (t':=s.toks) (o:=.tup (List.replicate k.toNat xs).flatten) (fun b ob q=>get?_push_of_some _ q) (Nat.le_refl _) ⟨?_,_,r.rep k.toNat,⟨_,get?_push_size _ rfl,⟨rfl,rfl⟩,_,rfl⟩⟩,rfl,q2 (by lia) _ (I.hok.fresh (Nat.le_refl _))⟩;rw [len_rep,Nat.mul_comm];exact hz
end
section
variable {X:Cx}
@[irreducible] def rTup (K:PySem.W.Frag):List V->Hp->VK->Prop:=fun xs H Q=>∃ p ys,xs=[.ref p]/\((SqL K H p ys/\∀ l,H l=none->Q (.ref l) (upd H l (.tup ys)))\/(SqT K H p ys/\Q (.ref p) H))
theorem J12:CallR X (.type "tuple") (rTup X.K):=by
 unfold rTup;exact J5l
end
end L2
namespace L2
open PySem PySem.Spec PyProof.Rows
section
variable {prog:Program} {w:World} {A:Around} {E:Value->Shared->Prop} {z:Shared}
theorem J3s {nu tu:Addr} {j:Nat} {xs:Array Value} {y:Value} {Q:Value->Shared->Prop} (hn:z.heap.IsTupleIter nu tu j) (ht:z.heap.IsTuple tu xs) (hy:xs[j]?=some y)
  (hQ:∀ g,g.IsTupleIter nu tu (j + 1)->Heap.SameBut nu z.heap g->Q y { z with heap:=g }):wpAny (model prog w) A (Builtin.SmallTypes.nextOf (.ref nu)) Q E z:=by
 obtain ⟨on,hon,cn,dn⟩:=id hn;obtain ⟨ot,hot,_,nt,dt⟩:=ht;unfold Builtin.SmallTypes.nextOf;refine wpAny_bind (wpAny_callSpecial?_slot (name:=Str.ofString "__next__") hn.typeIs F.slot_tuple_iterator_next (wpAny_call_entry F.slot_tuple_iterator_next hn.typeIs F.entry_tuple_iterator_next ?_ (F.args_tuple_iterator_next_1 _)));show wpAny _ _ (field (.ref nu) 0 >>= _) _ _ z;refine wpAny_bind (wpAny_field hon dn (x:=.ref tu) rfl ?_);show wpAny _ _ (if (Value.ref tu == Value.none)=true then _ else _) _ _ z;rw [if_neg (show ¬ ((Value.ref tu == Value.none)=true) from Bool.false_ne_true)];show wpAny _ _ (field (.ref nu) 1 >>= _) _ _ z;refine wpAny_bind (wpAny_field hon dn (x:=.int j 0) rfl ?_);show wpAny _ _ (seqItems? (.ref tu) >>= _) _ _ z;refine wpAny_bind (wpAny_seqItems hot dt ?_);simp only [Int.toNat_natCast,hy];refine wpAny_bind (wpAny_setField hon dn (by simp) (wpAny_pure ⟨y,rfl,wpAny_pure (hQ _ ?_ (Heap.SameBut.update ..))⟩));exact ⟨_,Heap.get?_update_self _ hon (Obj.isFreed_of_fields (Obj.data_mapFields dn _)),(Obj.cls_mapFields ..).trans cn,by rw [Obj.data_mapFields dn];simp [rawInt]⟩
theorem J4m {nu tu:Addr} {j:Nat} {xs:Array Value} {Q:Value->Shared->Prop} (hh:A.handled=none) (hn:z.heap.IsTupleIter nu tu j) (ht:z.heap.IsTuple tu xs) (hy:xs[j]?=none)
  (hE:∀ g e,Heap.ExtBut nu z.heap g->(∃ o,g.get? e=some o/\o.cls=.type "StopIteration")->E (.ref e) { z with heap:=g }):wpAny (model prog w) A (Builtin.SmallTypes.nextOf (.ref nu)) Q E z:=by
 obtain ⟨on,hon,cn,dn⟩:=id hn;obtain ⟨ot,hot,_,nt,dt⟩:=ht;unfold Builtin.SmallTypes.nextOf;refine wpAny_bind (wpAny_callSpecial?_slot (name:=Str.ofString "__next__") hn.typeIs F.slot_tuple_iterator_next (wpAny_call_entry F.slot_tuple_iterator_next hn.typeIs F.entry_tuple_iterator_next ?_ (F.args_tuple_iterator_next_1 _)));show wpAny _ _ (field (.ref nu) 0 >>= _) _ _ z;refine wpAny_bind (wpAny_field hon dn (x:=.ref tu) rfl ?_);show wpAny _ _ (if (Value.ref tu == Value.none)=true then _ else _) _ _ z;rw [if_neg (show ¬ ((Value.ref tu == Value.none)=true) from Bool.false_ne_true)];show wpAny _ _ (field (.ref nu) 1 >>= _) _ _ z;refine wpAny_bind (wpAny_field hon dn (x:=.int j 0) rfl ?_);show wpAny _ _ (seqItems? (.ref tu) >>= _) _ _ z;refine wpAny_bind (wpAny_seqItems hot dt ?_);simp only [Int.toNat_natCast,hy];refine wpAny_bind (wpAny_rule (wpAny_bind (wpAny_setField hon dn (by simp) ?_)));show wpAny _ _ (newExc (.type "StopIteration") [] >>= _) _ _ _;refine wpAny_bind ?_;simp only [newExc,newTuple];refine wpAny_bind (wpAny_newObj_type ?_ (by size_fits));refine wpAny_bind (m:=firstArgMember _ _) (wpAny_of_eq (a:=Value.none) (by first | rfl | (simp only [firstArgMember];rfl)) ?_);refine wpAny_newObj_type ?_ (by size_fits);simp only [raiseNew];refine wpAny_bind (wpAny_handled ?_)
 first | rw [show A.in1.handled=none from hh] | rw [hh]
 refine wpAny_bind (wpAny_pure (wpAny_throw ?_));exact hE _ _ (((Heap.SameBut.update ..).extBut.push _).push _) ⟨_,get?_push_size _ rfl,rfl⟩
theorem enum_turn {en nu:Addr} {j:Nat} {y old:Value} {St:Heap->Prop} {Q:Value->Shared->Prop} (he:IsEnum z.heap en nu j old) (hne:en≠nu) (keepSt:∀ g g':Heap,St g->(∀ o,g.get? nu=some o->g'.get? nu=some o)->St g')
  (NX:∀ (A':Around) (E':Value->Shared->Prop) (Q':Value->Shared->Prop),(∀ g,St g->Heap.SameBut nu z.heap g->Q' y { z with heap:=g })->wpAny (model prog w) A' (Builtin.SmallTypes.nextOf (.ref nu)) Q' E' z)
  (hQ:∀ g,IsEnumOut g en nu ((j:Int) + 1) y z.heap.objs.size->St g->g.get? z.heap.objs.size=some { cls:=.type "tuple",data:=.seq #[.int j z.toks,y] }->g.objs.size=z.heap.objs.size + 1->
   (∀ b o,b≠en->b≠nu->z.heap.get? b=some o->g.get? b=some o)->Q (.ref z.heap.objs.size) { z with heap:=g,toks:=z.toks + 1 }) :
  wpAny (model prog w) A (Builtin.«enumerate.__next__» ⟨[.ref en],[]⟩) (fun fin s'=>∃ v,fin=.done (.ret v)/\Q v s') E z:=by
 obtain ⟨hp,gg,d,tk,os⟩:=z;show wpAny _ _ (field (.ref en) 2 >>= _) _ _ _;refine wpAny_bind (wpAny_field he rfl (x:=.ref nu) rfl (wpAny_bind (NX _ _ _ fun g₁ st₁ sb₁=>?_)));have sb₁:Heap.SameBut nu hp g₁:=sb₁;have e₁:IsEnum g₁ en nu j old:=(sb₁.2 en hne).trans he;show wpAny _ _ (field (.ref en) 3 >>= _) _ _ ⟨g₁,gg,d,tk,os⟩;refine wpAny_bind (wpAny_field e₁ rfl (x:=rawInt j) rfl ?_);show wpAny _ _ (field (.ref en) 4 >>= _) _ _ ⟨g₁,gg,d,tk,os⟩;refine wpAny_bind (wpAny_field e₁ rfl (x:=.none) rfl ?_);show wpAny _ _ (mkInt j >>= _) _ _ ⟨g₁,gg,d,tk,os⟩;refine wpAny_bind (wpAny_mkInt ?_);show wpAny _ _ (setField (.ref en) 3 (rawInt ((j:Int) + 1)) >>= _) _ _ ⟨g₁,gg,d,tk + 1,os⟩;refine wpAny_bind (wpAny_setField_rec e₁ (by simp) fun g₂ e₂ sb₂=>?_);have sb₂:Heap.SameBut en g₁ g₂:=sb₂;have e₂:IsEnum g₂ en nu ((j:Int) + 1) old:=e₂;show wpAny _ _ (setField (.ref en) 4 .none >>= _) _ _ ⟨g₂,gg,d,tk + 1,os⟩;refine wpAny_bind (wpAny_setField_rec e₂ (by simp) fun g₃ e₃ sb₃=>?_);have sb₃:Heap.SameBut en g₂ g₃:=sb₃;have e₃:IsEnum g₃ en nu ((j:Int) + 1) old:=e₃;show wpAny _ _ (newTuple [.int j tk,y] >>= _) _ _ ⟨g₃,gg,d,tk + 1,os⟩;refine wpAny_bind (wpAny_newTuple ?_);have st₃:St g₃:=keepSt _ _ st₁ fun o e=>sb₃.extBut _ _ (Ne.symm hne) (sb₂.extBut _ _ (Ne.symm hne) e);have e₄:IsEnum (g₃.push { cls:=.type "tuple",data:=.seq #[.int j tk,y] }) en nu ((j:Int) + 1) old:=get?_push_of_some _ e₃;have st₄:St (g₃.push { cls:=.type "tuple",data:=.seq #[.int j tk,y] }):=keepSt _ _ st₃ fun o e=>get?_push_of_some _ e;have hz:g₃.objs.size=hp.objs.size:=by rw [sb₃.1,sb₂.1,sb₁.1]
 have hel:en < hp.objs.size:=lt_size he;have t₄:(g₃.push { cls:=.type "tuple",data:=.seq #[.int j tk,y] }).get? hp.objs.size=some { cls:=.type "tuple",data:=.seq #[.int j tk,y] }:=by rw [<- hz];exact get?_push_size _ rfl
 have z₄:(g₃.push { cls:=.type "tuple",data:=.seq #[.int j tk,y] }).objs.size=hp.objs.size + 1:=by rw [Heap.size_push,hz]
 have k₄:∀ b o,b≠en->b≠nu->hp.get? b=some o->(g₃.push { cls:=.type "tuple",data:=.seq #[.int j tk,y] }).get? b=some o:=fun b o h1 h2 e =>
  get?_push_of_some _ (sb₃.extBut b o h1 (sb₂.extBut b o h1 (sb₁.extBut b o h2 e)))
 generalize g₃.push { cls:=.type "tuple",data:=.seq #[.int j tk,y] }=g₄ at e₄ st₄ t₄ z₄ k₄;show wpAny _ _ (Builtin.SmallTypes.ownedTupleIsFree (.ref en) >>= _) _ _ ⟨g₄,gg,d,tk + 1,os⟩;rw [hz];refine wpAny_bind ?_
 ·unfold Builtin.SmallTypes.ownedTupleIsFree;refine wpAny_bind (wpAny_field e₄ rfl (x:=.none) rfl (wpAny_pure ?_));simp only [if_true];refine wpAny_bind (wpAny_rule (wpAny_bind (wpAny_field e₄ rfl (x:=old) rfl (wpAny_bind (wpAny_setField_rec e₄ (by simp) fun g₅ e₅ sb₅=>?_)))));have sb₅:Heap.SameBut en g₄ g₅:=sb₅;have e₅:IsEnum g₅ en nu ((j:Int) + 1) y:=e₅;show wpAny _ _ (Builtin.SmallTypes.ownedTupleHandOut (.ref en) (.ref hp.objs.size) >>= _) _ _ ⟨g₅,gg,d,tk + 1,os⟩;refine wpAny_bind ?_
  ·unfold Builtin.SmallTypes.ownedTupleHandOut;refine wpAny_bind (wpAny_setField_rec e₅ (by simp) fun g₆ e₆ sb₆=>?_);have sb₆:Heap.SameBut en g₅ g₆:=sb₆;have e₆:IsEnumOut g₆ en nu ((j:Int) + 1) y hp.objs.size:=e₆;refine wpAny_setField_rec e₆ (by simp) fun g₇ e₇ sb₇=>?_;have sb₇:Heap.SameBut en g₆ g₇:=sb₇;have e₇:IsEnumOut g₇ en nu ((j:Int) + 1) y hp.objs.size:=e₇;have up:∀ b o,b≠en->g₄.get? b=some o->g₇.get? b=some o:=fun b o h1 e=>sb₇.extBut b o h1 (sb₆.extBut b o h1 (sb₅.extBut b o h1 e));exact wpAny_bind (wpAny_letGo (wpAny_pure ⟨_,rfl,hQ g₇ e₇ (keepSt _ _ st₄ fun o e=>up _ _ (Ne.symm hne) e) (up _ _ (Nat.ne_of_gt hel) t₄) (by rw [sb₇.1,sb₆.1,sb₅.1,z₄]) fun b o h1 h2 e=>up b o h1 (k₄ b o h1 h2 e)⟩))
theorem enumT_item {en nu tu:Addr} {j:Nat} {xs:Array Value} {y old:Value} {Q:Option Value->Shared->Prop} (he:IsEnum z.heap en nu j old) (hn:z.heap.IsTupleIter nu tu j) (ht:z.heap.IsTuple tu xs) (hy:xs[j]?=some y) (hne:en≠nu)
  (hQ:∀ g,IsEnumOut g en nu ((j:Int) + 1) y z.heap.objs.size->g.IsTupleIter nu tu (j + 1)->g.get? z.heap.objs.size=some { cls:=.type "tuple",data:=.seq #[.int j z.toks,y] }->g.objs.size=z.heap.objs.size + 1->
   (∀ b o,b≠en->b≠nu->z.heap.get? b=some o->g.get? b=some o)->Q (some (.ref z.heap.objs.size)) { z with heap:=g,toks:=z.toks + 1 }) :
  wpAny (model prog w) A (pyNext (.ref en)) Q E z:=by
 have hT:z.TypeIs (.ref en) "enumerate":=⟨_,he,rfl⟩;unfold pyNext;exact wpAny_bind (wpAny_attempt (wpAny_callSpecial?_slot (name:=Str.ofString "__next__") hT F.slot_enumerate_next (wpAny_call_entry F.slot_enumerate_next hT F.entry_enumerate_next
   (enum_turn (St:=fun g=>g.IsTupleIter nu tu (j + 1)) he hne (fun g g' st k=>let ⟨o,ho,r⟩:=st;⟨o,k o ho,r⟩) (fun A' E' Q' h=>J3s hn ht hy h) fun g a b c d k=>wpAny_pure (hQ g a b c d k)) (F.args_enumerate_next_1 _))))
theorem enumT_end {en nu tu:Addr} {j:Nat} {xs:Array Value} {old:Value} {Q:Option Value->Shared->Prop} (hh:A.handled=none) (he:IsEnum z.heap en nu j old) (hn:z.heap.IsTupleIter nu tu j) (ht:z.heap.IsTuple tu xs) (hy:xs[j]?=none)
  (hQ:∀ g,Heap.ExtBut nu z.heap g->Q none { z with heap:=g }):wpAny (model prog w) A (pyNext (.ref en)) Q E z:=by
 have hT:z.TypeIs (.ref en) "enumerate":=⟨_,he,rfl⟩;unfold pyNext;refine wpAny_bind (wpAny_attempt (wpAny_callSpecial?_slot (name:=Str.ofString "__next__") hT F.slot_enumerate_next (wpAny_call_entry F.slot_enumerate_next hT F.entry_enumerate_next ?_ (F.args_enumerate_next_1 _))));show wpAny _ _ (field (.ref en) 2 >>= _) _ _ _;refine wpAny_bind (wpAny_field he rfl (x:=.ref nu) rfl (wpAny_bind (J4m hh hn ht hy fun g x he' hx'=>?_)));obtain ⟨o,ho,hc⟩:=hx';exact wpAny_bind (wpAny_isInstance (T:="StopIteration") (b:=true) ⟨o,ho,hc⟩ isSubtype_stop (wpAny_pure (hQ _ he')))
theorem enum_newT (l:Addr) (xs:Array Value) (n:Nat) (dct:Option Addr) (sl:Array (Option Value)) :
  Meets (Builtin.«enumerate.__new__» ⟨[.type "enumerate",.ref l],[]⟩) (fun _ R s=>s.heap.get? l=some { cls:=.type "tuple",dict:=dct,data:=.seq xs n,slots:=sl }/\
   R (.ok (.ret (.ref (s.heap.push { cls:=.type "tuple_iterator",data:=.fields #[.ref l,.int 0 0] }).objs.size)))
    { s with heap:=(s.heap.push { cls:=.type "tuple_iterator",data:=.fields #[.ref l,.int 0 0] }).push { cls:=.type "enumerate",data:=.fields #[.none,.bool false,.ref s.heap.objs.size,rawInt 0,.none,.none] } }) :=
 .of_wp fun prog w A R s h=>by
  obtain ⟨hp,g,d,tk,os⟩:=s;obtain ⟨hl,h⟩:=h;have hsub:=sub_enumerate;have hTT:Heap.IsTuple (Shared.heap ⟨hp,g,d,tk,os⟩) l xs:=⟨_,hl,rfl,n,rfl⟩
  wp_walk using AutoSeq1.wpAny_loadPart' hl
  refine wpAny_stack_any fun st=>wpAny_pure ?_;split
  ·rename_i c _ _ _ _ _;cases (c == Value.type "enumerate") <;> (wp_walk using AutoSeq1.wpAny_loadPart' hl,wpAny_pyIter_tuple hTT;exact ⟨_,rfl,h⟩)
  ·(wp_walk using AutoSeq1.wpAny_loadPart' hl,wpAny_pyIter_tuple hTT;exact ⟨_,rfl,h⟩)
theorem call_enumT {l:Addr} {xs:Array Value} {Q:Value->Shared->Prop} (hL:z.heap.IsTuple l xs)
  (h:∀ g,IsEnum g (z.heap.objs.size + 1) z.heap.objs.size 0 .none->g.IsTupleIter z.heap.objs.size l 0->g.objs.size=z.heap.objs.size + 2->(∀ b o,z.heap.get? b=some o->g.get? b=some o)->Q (.ref (z.heap.objs.size + 1)) { z with heap:=g }) :
  wpAny (model prog w) A (call (.type "enumerate") [.ref l]) Q E z:=by
 obtain ⟨⟨c,dct,dt,sl⟩,hl,hc,n,hd⟩:=hL;have hc:c=.type "tuple":=hc;have hd:dt=.seq xs n:=hd;subst hc hd;refine callType_new F.called_enumerate (by decide) (F.typeCall_enumerate_1 _) (F.newCall_enumerate_1 _) (fun obj=>F.args_object_init_2 obj _) F.entry_enumerate_new (enum_newT l xs n dct sl) ⟨hl,?_⟩;have hz:(z.heap.push { cls:=.type "tuple_iterator",data:=.fields #[.ref l,.int 0 0] }).objs.size=z.heap.objs.size + 1:=Heap.size_push ..;show _/\_;rw [hz];have he:IsEnum ((z.heap.push { cls:=.type "tuple_iterator",data:=.fields #[.ref l,.int 0 0] }).push { cls:=.type "enumerate",data:=.fields #[.none,.bool false,.ref z.heap.objs.size,rawInt 0,.none,.none] }) (z.heap.objs.size + 1) z.heap.objs.size 0 .none:=by
  have q:=get?_push_size (z.heap.push { cls:=.type "tuple_iterator",data:=.fields #[.ref l,.int 0 0] }) (o:={ cls:=.type "enumerate",data:=.fields #[.none,.bool false,.ref z.heap.objs.size,rawInt 0,.none,.none] }) rfl;rw [hz] at q;exact q
 exact ⟨⟨_,he,rfl⟩,h _ he ⟨_,get?_push_of_some _ (get?_push_size _ rfl),rfl,rfl⟩ (by rw [Heap.size_push,hz]) fun b o q=>get?_push_of_some _ (get?_push_of_some _ q)⟩
end
section
variable {X:Cx} {pins:List (Addr × Obj)} {σ:St} {H:Hp} {s:Shared} {h':Heap}
theorem Inv.turned2 {t':Nat} {en nu p:Addr} {o:HO} (I:Inv X pins σ H s) (k:∀ b u,b≠en->b≠nu->s.heap.get? b=some u->h'.get? b=some u) (f1:FpOk X pins H en) (f2:FpOk X pins H nu) (hp:s.heap.objs.size<=p)
  (he:∃ u,h'.get? en=some u) (hu:∃ u,h'.get? nu=some u) (new:ObjOk X.prog X.w (upd H p o) h' p o):Inv X pins σ (upd H p o) { s with heap:=h',toks:=t' }:=by
 have hn:H p=none:=I.hok.fresh hp;have lt:∀ b u,s.heap.get? b=some u->b≠p:=fun b u e=>Nat.ne_of_lt (Nat.lt_of_lt_of_le (lt_size e) hp);have ne1:∀ b u,H b=some u->b≠en:=fun b u e z=>by rw [z,f1.1] at e;cases e
 have ne2:∀ b u,H b=some u->b≠nu:=fun b u e z=>by rw [z,f2.1] at e;cases e
 have nc:∀ b,b ∉ [en,nu]->b≠en/\b≠nu:=fun b hb=>⟨fun z=>hb (by simp [z]),fun z=>hb (by simp [z])⟩;refine I.step (g':=s.gens) (d':=s.drawn) (ch:=[en,nu]) (fun b hb=>?_) (fun b u _ _ hc e _=>k b u (nc b hc).1 (nc b hc).2 e) (fun b u _ _ hc e _=>⟨u.slots,k b u (nc b hc).1 (nc b hc).2 e⟩) (fun b u hc e n=>by rw [Jb (lt b u e)];exact n)
  (fun b u hc e=>⟨u,k b u (nc b hc).1 (nc b hc).2 e⟩) (fun b xs e=>by rw [Jb (J8 e hn)];exact e) (fun b u v e=>by rw [Jb (J8 e hn)];exact e) (fun b ps e=>⟨#[],by rw [Jb (J8 e hn),e];simp⟩) (fun m hm=>?_) (fun b u e=>?_) I.bare
 ·have hb:b=en\/b=nu:=by simpa using hb
  rcases hb with rfl | rfl
  ·exact ⟨f1.2.2.2.1,f1.2.1,f1.2.2.2.2.1,f1.2.2.2.2.2⟩
  ·exact ⟨f2.2.2.2.1,f2.2.1,f2.2.2.2.2.1,f2.2.2.2.2.2⟩
 ·obtain ⟨ob,es,ep,ho,r⟩:=hm;exact ⟨ob,es,ep,k _ ob (Ne.symm f1.2.1) (Ne.symm f2.2.1) ho,r⟩
 ·by_cases hb:b=p
  ·subst hb;rw [J2] at e;cases e;exact new
  ·rw [Jb hb] at e;refine (I.hok b u e).stay (fun c v hc q=>k c v ?_ ?_ q) (fun c q=>by rw [Jb (J8 q hn)];exact q) fun c xs q=>by rw [Jb (J8 q hn)];exact q
   ·rcases hc with q | q
    ·rw [q];exact ne1 b u e
    ·exact ne1 c _ q
   ·rcases hc with q | q
    ·rw [q];exact ne2 b u e
    ·exact ne2 c _ q
end
def Ite (K:PySem.W.Frag) (a:Addr):It :=
 ⟨fun i H=>∃ xs x,SqT K H a xs/\xs[i]?=some x,fun i H v H'=>∃ p x,v=.ref p/\H p=none/\H'=upd H p (.tup [.int (i:Int),x])/\∀ xs,SqT K H a xs->xs[i]?=some x,fun i H=>∃ xs,SqT K H a xs/\xs.length<=i⟩
theorem turn_enum {P:Program} {w:World} {K:PySem.W.Frag} {elts:List Expr} {kk:Nat} {tp:Pos} (a en nu:Addr) (hne:en≠nu):Turn P w K (.Tuple elts kk tp) (Ite K a) [en,nu] en (fun i h=>(∃ old,IsEnum h en nu (i:Int) old)/\h.IsTupleIter nu a i) where
 mem:=by simp
 obj:=fun i h st b hb=>by
  obtain ⟨⟨old,e1⟩,o,e2,_,d2⟩:=st;have hb:b=en\/b=nu:=by simpa using hb
  rcases hb with rfl | rfl
  ·exact ⟨_,e1,fun v z=>by
    have z':Data.fields _=Data.cell v:=z;cases z'⟩
  ·exact ⟨_,e2,fun v z=>by rw [d2] at z;cases z⟩
 keep:=fun i h h' st k=>by
  obtain ⟨⟨old,e1⟩,o,e2,r⟩:=st;exact ⟨⟨old,k en (by simp) _ e1⟩,o,k nu (by simp) _ e2,r⟩
 item:=by
  intro X hP hw hK hc i pins s σ H E I hf st hg;subst hP hw hK;obtain ⟨⟨old,e1⟩,e2⟩:=st;obtain ⟨xs,x,hq,hx⟩:=hg;obtain ⟨its,r,pl,hz⟩:=I.tuple hq;obtain ⟨u,hu,ru⟩:=r.get hx;have f1:=hf en (by simp);have f2:=hf nu (by simp);refine enumT_item e1 e2 (show s.heap.IsTuple a its.toArray from pl) (y:=u) (by simpa using hu) hne fun g o1 n1 t1 z1 k1=>?_;refine ⟨_,rfl,?_⟩;have he:en < s.heap.objs.size:=lt_size e1;refine wpAny_letOwnedTupleGo_enum o1 fun g2 e3 sb=>?_;have sb:Heap.SameBut en g g2:=sb;have n2:g2.IsTupleIter nu a (i + 1):=n1.extBut sb.extBut (Ne.symm hne);have kk2:∀ b o,b≠en->b≠nu->s.heap.get? b=some o->g2.get? b=some o:=fun b o h1 h2 e=>(sb.2 b h1).trans (k1 b o h1 h2 e);have t2:g2.get? s.heap.objs.size=some { cls:=.type "tuple",data:=.seq #[.int i s.toks,u] }:=(sb.2 _ (Nat.ne_of_gt he)).trans t1;obtain ⟨on,hon,_⟩:=id n2;have J:=I.turned2 (t':=s.toks + 1) (o:=.tup [.int (i:Int),x]) (p:=s.heap.objs.size) kk2 f1 f2 (Nat.le_refl _) ⟨_,e3⟩ ⟨_,hon⟩
   ⟨(by show 2<=sizeLine;decide),[.int i s.toks,u],.cons ⟨_,rfl⟩ (.cons ru .nil),⟨_,t2,⟨rfl,rfl⟩,_,rfl⟩⟩
  have hfr:H s.heap.objs.size=none:=I.hok.fresh (Nat.le_refl _);have cast:((i + 1:Nat):Int)=(i:Int) + 1:=by omega
  refine ⟨.ref s.heap.objs.size,_,J,rfl,⟨_,x,rfl,hfr,rfl,fun ys hy=>?_⟩,⟨⟨u,by rw [cast];exact e3⟩,n2⟩,fun b hb=>?_⟩
  ·rw [<- I.tuple_inj hq hy];exact hx
  ·have hbl:b < s.heap.objs.size:=by
    have hb:b=en\/b=nu:=by simpa using hb
    rcases hb with rfl | rfl
    ·exact he
    ·obtain ⟨o,ho,_⟩:=e2;exact lt_size ho
   rw [Jb (Nat.ne_of_lt hbl)];exact (hf b hb).1
 done:=by
  intro X hP hw hK hc i pins s σ H E I hf st hg;subst hP hw hK;obtain ⟨⟨old,e1⟩,e2⟩:=st;obtain ⟨xs,hq,hl⟩:=hg;obtain ⟨its,r,pl,hz⟩:=I.tuple hq;obtain ⟨f0,f1,f2,f3,f4,f5⟩:=hf nu (by simp);refine enumT_end (I.ok.hd hc) e1 e2 (show s.heap.IsTuple a its.toArray from pl) (by have:=r.length;simp;omega) fun g eb=>⟨rfl,I.turned (t':=s.toks) (fun b o hb e=>eb b o hb e) f0 f1 f3 f4 f5⟩
 self:=fun A i s Q E st h=>by
  obtain ⟨⟨old,e1⟩,_⟩:=st;exact wpAny_pyIter_enum e1 h
section
variable {X:Cx}
def iEnum (K:PySem.W.Frag) (ta:TA):TI:=fun σ H R=>ta σ H fun vs H1=>∃ a,vs=[.ref a]/\(∃ xs,SqT K H1 a xs)/\R (Ite K a) H1
theorem pi_enum {elts:List Expr} {kk:Nat} {tp:Pos} {a:Expr} {ta:TA} {p pos:Pos} (hg:Gl X "enumerate") (hm:X.mg "enumerate"=none) (ha:PA X [a] ta) (hs:starEach [a] X.env=[(false,eval a X.env)]:=by rfl):PI X (.Tuple elts kk tp) (.Call (.Name "enumerate" p) [a] [] pos) (iEnum X.K ta):=by
 intro pins s σ H R I h;refine Call_ (J6c I hg hm boot_enumerate (callWith_type1 (thn (ha pos pins s σ H _ I h) fun us s1 ⟨vs,H1,I1,r1,q1⟩=>?_) hs rfl));obtain ⟨a,e,⟨xs,hq⟩,q⟩:=q1;subst e;obtain ⟨u,rfl,ru⟩:=vals1 r1;cases ru;obtain ⟨its,r,pl,hz⟩:=I1.tuple hq;refine call_enumT (show s1.heap.IsTuple a its.toArray from pl) fun g e1 e2 z1 k1=>?_;have I2:Inv X pins σ H1 { s1 with heap:=g }:=I1.kept (t':=s1.toks) k1;refine wpAny_pyIter_enum e1 ?_;refine ⟨_,_,_,_,H1,rfl,I2,turn_enum a _ _ (Nat.succ_ne_self _),⟨⟨.none,e1⟩,e2⟩,fun b hb=>?_,q⟩;have hb:b=s1.heap.objs.size + 1\/b=s1.heap.objs.size:=by simpa using hb
 have hbs:s1.heap.objs.size<=b:=by
  rcases hb with e | e
  ·rw [e];exact Nat.le_succ _
  ·rw [e];exact Nat.le_refl _
 exact I1.fpOk hbs (I1.hok.fresh hbs)
theorem for_enum {K:PySem.W.Frag} {a:Addr} {xs:List V} {g:TG} {tb:TS} {D:Ends} {σ:St} {H:Hp} (Pv:Nat->St->Hp->Prop) (h0:Pv 0 σ H) (hl:∀ i σ H,i<=xs.length->Pv i σ H->SqT K H a xs)
  (hs:∀ i x σ H p,xs[i]?=some x->Pv i σ H->H p=none->g (.ref p) σ (upd H p (.tup [.int (i:Int),x])) fun σ2 H2=>tb { D with nx:=Pv (i + 1),ct:=Pv (i + 1),bk:=D.nx } σ2 H2) (hd:∀ σ H,Pv xs.length σ H->D.nx σ H) :
  ∃ W:Nat->Nat->St->Hp->Prop,(∃ m,W 0 m σ H)/\∀ i m σ H,W i m σ H->
   ((Ite K a).stop i H/\D.nx σ H)\/((Ite K a).go i H/\∃ N:St->Hp->Prop,(∀ σ' H',N σ' H'->∃ m',m' < m/\W (i + 1) m' σ' H')/\∀ x H',(Ite K a).yld i H x H'->g x σ H' fun σ2 H2=>tb { D with nx:=N,ct:=N,bk:=D.nx } σ2 H2):=by
 refine ⟨fun i m σ H=>m=xs.length - i/\i<=xs.length/\Pv i σ H,⟨xs.length,by simp,Nat.zero_le _,h0⟩,?_⟩;rintro i m σ H ⟨rfl,hi,p⟩;have q:=hl i σ H hi p;by_cases hlt:i < xs.length
 ·refine .inr ⟨⟨xs,xs[i],q,by simp [hlt]⟩,Pv (i + 1),fun σ' H' p'=>⟨xs.length - (i + 1),by omega,rfl,hlt,p'⟩,fun v H' y=>?_⟩;obtain ⟨pp,x,rfl,hn,rfl,y⟩:=y;exact hs i x σ H pp (y xs q) p hn
 ·have e:i=xs.length:=by omega
  subst e;exact .inl ⟨⟨xs,q,Nat.le_refl _⟩,hd σ H p⟩
end
end L2
namespace L2
open PySem PySem.Spec PyProof.Rows
end L2
namespace L2
open PySem PySem.Spec PyProof.Rows
def bmV:List Value:=[.type "ValueError",.type "Exception",.type "BaseException",.type "object"]
theorem ObjOk.has {P:Program} {w:World} {H:Hp} {h:Heap} {a:Addr} {o:HO} (x:ObjOk P w H h a o):∃ u,h.get? a=some u:=by
 cases o with
 | lst xs=>obtain ⟨_,_,_,_,e⟩:=x;exact ⟨_,e⟩
 | tup xs=>obtain ⟨_,_,_,ob,e,_⟩:=x;exact ⟨_,e⟩
 | dK kvs=>obtain ⟨_,_,_,_,o,_,_,e,_⟩:=x;exact ⟨_,e⟩
 | dT kvs=>obtain ⟨_,_,_,_,o,_,_,e,_⟩:=x;exact ⟨_,e⟩
 | set S n=>obtain ⟨o,_,_,_,e,_⟩:=x;exact ⟨_,e⟩
 | ins C dx fs=>obtain ⟨_,_,_,e,_⟩:=x;exact ⟨_,e⟩
 | own y=>exact x
 | xd fs=>obtain ⟨_,⟨_,_,_,e,_⟩,_⟩:=x;exact ⟨_,e⟩
 | rng lo hi=>obtain ⟨_,_,_,e⟩:=x;exact ⟨_,e⟩
 | frz ob u=>obtain ⟨e,_⟩:=x;exact ⟨_,e⟩
 | tbl ps=>exact ⟨_,(show h.get? a=some _ from x)⟩
 | met f y=>exact ⟨_,(show h.get? a=some _ from x)⟩
 | ext φ=>obtain ⟨_,e,_⟩:=x;exact e
theorem HOk.over {P:Program} {w:World} {H:Hp} {h h' B:Heap} (ok:HOk P w H h) (t:∀ b o,H b=some o->∃ u,B.get? b=some u) (k:B.StaysIn h) (k':B.StaysIn h'):HOk P w H h':=fun b u e=>by
 refine (ok b u e).stay (fun c v hc q=>?_) (fun _ q=>q) fun _ _ q=>q;have hc':∃ x,B.get? c=some x:=by
  rcases hc with z | z
  ·rw [z];exact t b u e
  ·exact t c _ z
 obtain ⟨x,hx⟩:=hc';have:=k c x hx;rw [q] at this;cases this;exact k' c _ hx
def Exc1 (P:Program) (w:World):CXT:=fun outer H s E e s'=>∃ (ea:Addr) (cls:Value) (H':Hp) (B:Heap) (a0:Value),e=.ref ea/\s'.os=s.os/\AllBare s'.gens/\Heap.FlyingW B outer ea cls a0 s'.heap/\
 Un (frs outer) [] H H' s.heap s'.heap/\HOk P w H' s'.heap/\H' ea=none/\s.heap.get? ea=none/\(∀ b o,H' b=some o->∃ u,B.get? b=some u)/\(∀ b u,s.heap.get? b=some u->b ∉ frs outer->∃ v,B.get? b=some v)/\E cls none H'
section
variable {P:Program} {w:World} {K:PySem.W.Frag} {mg:Str->Option Value} {base:Heap} {N:List Str} {qual:Str} {scope:Scope} {f:Addr} {cd:Value} {A:Around} {outer:List Env} {s0:Shared} {H0:Hp} {E:XK} {pins:List (Addr × Obj)} {σ:St} {H:Hp} {s:Shared}
theorem noFlds {h B:Heap} {l:List Env} (x:h.FunFrames B l) {b:Addr} (hb:b∈frs l):∃ o,h.get? b=some o/\∀ vs,o.data≠.fields vs:=(x.mem hb).2
theorem frs_cons {b:Addr} {env:Env} {L:Addr} (hf:env.frame=some L) {l:List Env}:b∈frs (env :: l)↔b=L\/b∈frs l:=by
 unfold frs;rw [List.filterMap_cons,hf];simp
theorem xe_made {ea:Addr} {cls:Value} {args:List Value} {h':Heap} (I:Inv (cxOf (Exc1 P w) P w K mg base N qual scope f cd A outer s0 H0 E) pins σ H s) (hx:Heap.MadeExcOf s.heap h' ea cls args) (q:E cls none H) :
  (cxOf (Exc1 P w) P w K mg base N qual scope f cd A outer s0 H0 E).xe (.ref ea) { s with heap:=h' }:=by
 have fr:s.heap.FunFrames base (envOfC qual scope s0.heap.objs.size f cd :: outer):=I.stack;have hin:∀ env∈(envOfC qual scope s0.heap.objs.size f cd :: outer),∀ b,env.frame=some b->b∈frs (envOfC qual scope s0.heap.objs.size f cd :: outer):=fun env he b hb=>List.mem_filterMap.mpr ⟨env,he,hb⟩;have fl:∀ {b:Addr},b∈frs (envOfC qual scope s0.heap.objs.size f cd :: outer)↔b=s0.heap.objs.size\/b∈frs outer:=frs_cons rfl;have inB:∀ b u,s.heap.get? b=some u->b ∉ frs (envOfC qual scope s0.heap.objs.size f cd :: outer)->(hideAll s.heap (frs (envOfC qual scope s0.heap.objs.size f cd :: outer))).get? b=some u:=fun b u e n=>PySem.W.hideAll_get _ e n;have nL:∀ b u,s0.heap.get? b=some u->b≠s0.heap.objs.size:=fun b u e=>Nat.ne_of_lt (lt_size e);have nf:∀ b u,s0.heap.get? b=some u->b ∉ frs outer->b ∉ frs (envOfC qual scope s0.heap.objs.size f cd :: outer):=fun b u e n z=>(fl.mp z).elim (nL b u e) n;refine wpAny_leaves_madeW (base:=hideAll s.heap (frs (envOfC qual scope s0.heap.objs.size f cd :: outer))) (h:=s.heap) (L:=s0.heap.objs.size) I.ok.frames rfl (fun b o z=>of_hideAll _ z) (PySem.W.funFrames_hide fr hin) hx fun h'' t fly tup nt ups=>?_;have up:∀ b o,s.heap.get? b=some o->b∈frs (envOfC qual scope s0.heap.objs.size f cd :: outer)->∃ sl,h''.get? b=some { o with slots:=sl }:=fun b o e hb=>by
  obtain ⟨o',e',nd⟩:=noFlds fr hb;rw [e] at e';cases e';exact ups b o (hx.keeps b o e) nd
 have there:∀ b o,s.heap.get? b=some o->∃ o',h''.get? b=some o':=fun b o e=>by
  by_cases hb:b∈frs (envOfC qual scope s0.heap.objs.size f cd :: outer)
  ·obtain ⟨sl,z⟩:=up b o e hb;exact ⟨_,z⟩
  ·exact ⟨o,fly.1 b o (inB b o e hb)⟩
 have trk:∀ b o,H b=some o->∃ u,(hideAll s.heap (frs (envOfC qual scope s0.heap.objs.size f cd :: outer))).get? b=some u:=fun b o e=>by
  obtain ⟨u,hu⟩:=(I.hok b o e).has;refine ⟨u,inB b u hu fun z=>?_⟩;have:=I.stkFree b z;rw [e] at this;cases this
 refine ⟨ea,cls,H,_,_,rfl,I.os,I.bare,fly,⟨fun b o e n hb _=>?_,fun b o e n hb _=>?_,fun b o e n hb=>I.base.free b o e n hb,fun b o e _=>?_,I.base.tups,I.base.frzs,I.base.tbls⟩,I.hok.over trk (fun b o z=>of_hideAll _ z) fly.1,?_,?_,trk,fun b u e n=>?_,q⟩
 ·exact fly.1 b o (inB b o (I.base.keep b o e n hb (by simp [cxOf])) (nf b o e hb))
 ·obtain ⟨sl,e1⟩:=I.base.slot b o e n hb (by simp [cxOf]);obtain ⟨sl',e2⟩:=up b _ e1 (fl.mpr (.inr hb));exact ⟨sl',e2⟩
 ·obtain ⟨o',e1⟩:=I.base.there b o e (by simp [cxOf]);exact there b o' e1
 ·cases z:H ea with
  | none=>rfl
  | some o =>
   obtain ⟨u,hu⟩:=(I.hok ea o z).has;have hnew:=hx.new;rw [hu] at hnew;cases hnew
 ·cases z:s0.heap.get? ea with
  | none=>rfl
  | some o =>
   obtain ⟨o',e1⟩:=I.base.there ea o z (by simp [cxOf]);have hnew:=hx.new;rw [e1] at hnew;cases hnew
 ·obtain ⟨o',e1⟩:=I.base.there b u e (by simp [cxOf]);exact ⟨o',inB b o' e1 (nf b u e n)⟩
theorem pass1:J3u (Exc1 P w) (cxOf (Exc1 P w) P w K mg base N qual scope f cd A outer s0 H0 E) E:=by
 rintro pins σ H s e s' I ⟨ea,cls,H',B,a0,rfl,os,bare,fly,un,hok,hea,new,trk,inB,q⟩;have fl:∀ {b:Addr},b∈frs (envOfC qual scope s0.heap.objs.size f cd :: outer)↔b=s0.heap.objs.size\/b∈frs outer:=frs_cons rfl;have nf:∀ b u,s0.heap.get? b=some u->b ∉ frs outer->b ∉ frs (envOfC qual scope s0.heap.objs.size f cd :: outer):=fun b u e n z=>(fl.mp z).elim (Nat.ne_of_lt (lt_size e)) n;have fly0:Heap.FlyingW B (envOfC qual scope s0.heap.objs.size f cd :: outer) ea cls a0 s'.heap:=fly;have un:Un (frs (envOfC qual scope s0.heap.objs.size f cd :: outer)) [] H H' s.heap s'.heap:=un;have inB:∀ b u,s.heap.get? b=some u->b ∉ frs (envOfC qual scope s0.heap.objs.size f cd :: outer)->∃ v,B.get? b=some v:=inB;refine wpAny_leaves_onW (L:=s0.heap.objs.size) I.ok.frames rfl fly0 fun h'' fly2 ups=>?_;have stay:∀ b o,s.heap.get? b=some o->b ∉ frs (envOfC qual scope s0.heap.objs.size f cd :: outer)->∀ o',s'.heap.get? b=some o'->h''.get? b=some o':=fun b o e n o' e'=>by
  obtain ⟨v,hv⟩:=inB b o e n;have:=fly0.1 b v hv;rw [e'] at this;cases this;exact fly2.1 b _ hv
 refine ⟨ea,cls,H',B,a0,rfl,os.trans I.os,bare,fly2,⟨fun b o e n hb _=>?_,fun b o e n hb _=>?_,fun b o e n _=>?_,fun b o e _=>?_,fun b xs e=>un.tups b xs (I.base.tups b xs e),fun b o u e=>un.frzs b o u (I.base.frzs b o u e),fun b ps e=>?_⟩,hok.over trk fly0.1 fly2.1,hea,?_,trk,fun b u e n=>?_,q⟩
 ·have e1:=I.base.keep b o e n hb (by simp [cxOf]);have n1:=I.base.free b o e n (by simp [cxOf]);exact stay b o e1 (nf b o e hb) o (un.keep b o e1 n1 (nf b o e hb) (by simp))
 ·obtain ⟨sl,e1⟩:=I.base.slot b o e n hb (by simp [cxOf]);have n1:=I.base.free b o e n (by simp [cxOf]);obtain ⟨sl',e2⟩:=un.slot b _ e1 n1 (fl.mpr (.inr hb)) (by simp);obtain ⟨o',e3,nd⟩:=noFlds fly0.2.2.1 (fl.mpr (.inr hb));rw [e2] at e3;cases e3;obtain ⟨sl'',e4⟩:=ups b _ e2 nd;exact ⟨sl'',e4⟩
 ·obtain ⟨o',e1⟩:=I.base.there b o e (by simp [cxOf]);exact un.free b o' e1 (I.base.free b o e n (by simp [cxOf])) (by simp)
 ·obtain ⟨o',e1⟩:=I.base.there b o e (by simp [cxOf]);obtain ⟨o2,e2⟩:=un.there b o' e1 (by simp);by_cases hb:b∈frs outer
  ·obtain ⟨o3,e3,nd⟩:=noFlds fly0.2.2.1 (fl.mpr (.inr hb));obtain ⟨sl,e4⟩:=ups b o3 e3 nd;exact ⟨_,e4⟩
  ·exact ⟨o2,stay b o' e1 (nf b o e hb) o2 e2⟩
 ·obtain ⟨m1,e1⟩:=I.base.tbls b ps e;obtain ⟨m2,e2⟩:=un.tbls b _ e1;exact ⟨m1 ++ m2,by rw [e2,Array.append_assoc]⟩
 ·cases z:s0.heap.get? ea with
  | none=>rfl
  | some o =>
   obtain ⟨o',e1⟩:=I.base.there ea o z (by simp [cxOf]);rw [e1] at new;cases new
 ·obtain ⟨o',e1⟩:=I.base.there b u e (by simp [cxOf]);exact inB b o' e1 (nf b u e n)
theorem passF {X:Cx}:J3u (Exc1 P w) X E0:=by
 rintro pins σ H s e s' I ⟨_,_,_,_,_,_,_,_,_,_,_,_,_,_,_,q⟩;exact False.elim q
theorem exc_obj {h:Heap} {C:Addr} {bmB:List Value} {nid:String} (X:K.In h) (q:excIn K C bmB nid=true) :
  ∃ bm N nm qn bs hdct sn sub ab col dd k0 k1 k2 k3 k5 mN,h.get? C=some (excClassObj nm qn C N bs bm hdct sn sub ab col dd k0 k1 k2 k3 k5 nid)/\h.Ns N mN/\mN "__init__"=none/\OwnTail h bmB bm:=by
 unfold excIn at q;split at q
 ·rename_i dd cdd sl ho;split at q
  ·rename_i C' bm k0 k1 k2 k3 n k5 hm hs;simp only [Bool.and_eq_true,beq_iff_eq,Bool.not_eq_true'] at q;obtain ⟨⟨⟨⟨⟨rfl,rfl⟩,q1⟩,q2⟩,q3⟩,q4⟩:=q;obtain ⟨nm,bs,mro,ns,qn,hd,sn,sub,ab,col,del⟩:=cdd;dsimp only at hm q1 q3 q4;subst hm q1;obtain ⟨l⟩:=sl;simp only at hs;subst hs;exact ⟨bm,ns,nm,qn,bs,hd,sn,sub,ab,col,dd,k0,k1,k2,k3,k5,_,X _ _ ho,.of_isNs (PySem.W.isNs_of_in X q3),PySem.W.nsMap_none_of_in X q3 q4,PySem.W.tail_of_in X q2⟩
  ·cases q
 ·cases q
theorem J22 {x:Str} {C:Addr} {msg:Str} {j:Nat} {p1 np cpos pos:Pos} (hg:Gl (cxOf (Exc1 P w) P w K mg base N qual scope f cd A outer s0 H0 E) x) (hm:mg x=some (.ref C)) (q:excIn K C bmV "ValueError.__new__"=true) (hdb:(x == ("__debug__":Str))=false:=by decide) :
  PS (cxOf (Exc1 P w) P w K mg base N qual scope f cd A outer s0 H0 E) (.Raise (some (.Call (.Name x np) [.Constant (.str msg) j p1] [] cpos)) none pos) (fun D σ H=>E (.ref C) none H):=by
 intro pins s σ H D I h;obtain ⟨bm,NN,nm,qn,bs,hdct,sn,sub,ab,col,dd,k0,k1,k2,k3,k5,mN,hC,hN,hni,T⟩:=exc_obj (I.ok.mod.kin) q;refine wpAny_Raise_call_subT (C:=C) (nm:=nm) (q:=qn) (N:=NN) (bs:=bs) (bm:=bm) (hdct:=hdct) (sn:=sn) (sub:=sub) (ab:=ab) (col:=col) (dd:=dd) (k0:=k0) (k1:=k1) (k2:=k2) (k3:=k3) (k5:=k5)
  PySem.F.excBase_ValueError (mN:=mN) (T.hasType PySem.F.excBase_ValueError.hasBase) (I.ok.hd rfl) rfl hni (J3l I hg hm ⟨rfl,?_⟩ hdb)
 refine Calls.evalArgs_plain (thn ((J0 (J58 (X:=cxOf (Exc1 P w) P w K mg base N qual scope f cd A outer s0 H0 E)) J3) cpos pins s σ H (fun vs H'=>H'=H/\vs.length=1) I ⟨rfl,rfl⟩) fun us s2 ⟨vs,H2,I2,r,e2,e3⟩=>?_);subst e2;have hl:us.length<=sizeLine:=by rw [<- r.length,e3];decide
 exact ⟨rfl,hl,I2.bk _ _ hC,hN.keeps I2.bk,T.keeps I2.bk,fun h' e hm=>xe_made I2 hm h⟩
end
theorem ps_nox {X:Cx} {st:Stmt} {t:TS} (h:PS X.nox st t):PS X st t:=fun pins s σ H D I hw =>
 wpAny_mono (h pins s σ H D (I.wish _) hw) (fun _ _ z=>z.unwish) fun _ _ z=>False.elim z
end L2
namespace L2
open PySem PySem.Spec PyProof.Rows
def excO (ea:Addr) (cls:Value):HO:=.ext fun h=>∃ o,h.get? ea=some o/\o.cls=cls
def Cx.caught (X:Cx) (ea:Addr):Cx:={ X with A:=X.A.mark (some (.ref ea)),calm:=false,xe:=fun _ _=>False }
def Ends.unset (D:Ends) (i:Nat):Ends:={ nx:=fun σ H=>D.nx (σ.set i none) H,rt:=D.rt,bk:=fun σ H=>D.bk (σ.set i none) H,ct:=fun σ H=>D.ct (σ.set i none) H }
section
variable {X:Cx} {pins:List (Addr × Obj)} {σ:St} {H:Hp} {s:Shared} {ea:Addr}
theorem Cx.Ok.caught (ok:X.Ok) (ea:Addr):(X.caught ea).Ok :=
 ⟨ok.mod,ok.kind,ok.glob,ok.blt,ok.above,ok.inj,ok.has,ok.cab,(fun z=>Bool.noConfusion z),ok.frames,ok.stk,ok.exf,ok.bs,ok.bsz,ok.noex,ok.exfs,ok.funs,ok.frf⟩
theorem Inv.caught (I:Inv X pins σ H s) (ea:Addr):Inv (X.caught ea) pins σ H s:=⟨I.ok.caught ea,I.os,I.bare,I.base,I.loc,I.cell,I.free,I.freeC,I.pin,I.hok,I.len⟩
theorem Inv.uncaught (I:Inv (X.caught ea) pins σ H s) (ok:X.Ok):Inv X pins σ H s:=⟨ok,I.os,I.bare,I.base,I.loc,I.cell,I.free,I.freeC,I.pin,I.hok,I.len⟩
theorem J35 {M:Model} {A:Around} {E:Value->Shared->Prop} {i:Nat} {x:Str} {pos:Pos} {Q:Unit->Shared->Prop} (I:Inv X pins σ H s) (hN:X.N.Nodup) (hi:X.N[i]?=some x) (hk:X.env.scope.names.lookup x=some .local)
  (h:∀ s',Inv X pins (σ.set i none) H s'->Q () s'):wpAny M A (do bindName X.env x .none;unbindBehindTheSuite X.env x pos) Q E s:=by
 obtain ⟨m,hn,hl⟩:=id I.loc;have hcls:(X.env.scope.kind == .class || (X.env.scope.kind == .module && X.env.locals != X.env.globals))=false:=by rw [I.ok.kind];rfl
 have hiσ:i < σ.length:=by rw [I.len];exact (List.getElem?_eq_some_iff.mp hi).1
 have cne:=I.cne;obtain ⟨oL,_,_,hoL,_⟩:=id hn;refine wpAny_nameGoes_keeps hk hn hcls fun h' v hn' hs=>?_;have nL:∀ b o,X.s₀.heap.get? b=some o->b≠X.env.locals:=fun b o e=>Nat.ne_of_lt (Nat.lt_of_lt_of_le (lt_size e) I.ok.above);refine h _ ⟨I.ok,I.os,I.bare,⟨fun b o e n hb hx=>?_,fun b o e n hb hx=>?_,I.base.free,fun b o e hx=>?_,I.base.tups,I.base.frzs,I.base.tbls⟩,⟨_,hn',fun j y v' e1 e2 e3=>?_⟩,fun y c e=>?_,I.free,I.freeC,fun p hp=>?_,fun b ob e=>?_,by simpa using I.len⟩
 ·exact (hs.2 b (nL b o e)).trans (I.base.keep b o e n hb hx)
 ·obtain ⟨sl,e1⟩:=I.base.slot b o e n hb hx;exact ⟨sl,(hs.2 b (nL b o e)).trans e1⟩
 ·obtain ⟨o',e1⟩:=I.base.there b o e hx;exact ⟨o',(hs.2 b (nL b o e)).trans e1⟩
 ·by_cases hj:j=i
  ·subst hj;rw [getElem?_set_self hiσ] at e2;cases e2
  ·rw [getElem?_set_ne (Ne.symm hj)] at e2;obtain ⟨u',r',q⟩:=hl j y v' e1 e2 e3;refine ⟨u',r',?_⟩;rcases q with ⟨k,e⟩ | ⟨k,c,e,z⟩
   ·refine .inl ⟨k,?_⟩;have:y≠x:=fun e=>hj (J68 hN e1 (e ▸ hi));simp [this,e]
   ·exact .inr ⟨k,c,e,z.sameBut hs (cne y c e)⟩
 ·obtain ⟨w',z⟩:=I.cell y c e;exact ⟨w',z.sameBut hs (cne y c e)⟩
 ·obtain ⟨e,n,ne,nf,d⟩:=I.pin p hp;exact ⟨(hs.2 p.1 ne).trans e,n,ne,nf,d⟩
 ·refine (I.hok b ob e).stay (fun c w' hc q=>(hs.2 c ?_).trans q) (fun _ q=>q) fun _ _ q=>q;rintro rfl;have hfree:=I.free;rcases hc with z | hc
  ·rw [<- z,hfree] at e;cases e
  ·rw [hfree] at hc;cases hc
theorem land {s1:Shared} {H':Hp} {B:Heap} {cls a0:Value} {h':Heap} (I:Inv X pins σ H s) (ho:s1.os=s.os) (bare:AllBare s1.gens) (fly:Heap.FlyingW B X.stack ea cls a0 s1.heap)
  (un:Un (frs X.stack) [] H H' s.heap s1.heap) (hok:HOk X.prog X.w H' s1.heap) (hea:H' ea=none) (new:s.heap.get? ea=none) (trk:∀ b o,H' b=some o->∃ u,B.get? b=some u)
  (inB:∀ b u,s.heap.get? b=some u->b ∉ frs X.stack->∃ v,B.get? b=some v) (fly':Heap.FlyingW B X.stack ea cls a0 h') (up:s1.heap.UpToSlots h') :
  Inv X pins σ (upd H' ea (excO ea cls)) { s1 with heap:=h' }:=by
 have neE:∀ b o,s.heap.get? b=some o->b≠ea:=fun b o e z=>by rw [z,new] at e;cases e
 have slots:∀ b o,b∈frs X.stack->s1.heap.get? b=some o->∃ sl,h'.get? b=some { o with slots:=sl }:=fun b o hb e=>by
  obtain ⟨o',e',nd⟩:=noFlds fly.2.2.1 hb;rw [e] at e';cases e';exact up b o e nd
 have stay:∀ b o,s.heap.get? b=some o->b ∉ frs X.stack->∀ o',s1.heap.get? b=some o'->h'.get? b=some o':=fun b o e n o' e'=>by
  obtain ⟨v,hv⟩:=inB b o e n;have:=fly.1 b v hv;rw [e'] at this;cases this;exact fly'.1 b _ hv
 refine I.call' (s':={ s1 with heap:=h' }) (ch:=[]) ho ⟨fun b o e n hb _=>?_,fun b o e n hb _=>?_,fun b o e n _=>?_,fun b o e _=>?_,fun b xs e=>?_,fun b o u e=>?_,fun b ps e=>?_⟩ (fun b u e=>?_) bare (fun _ z=>nomatch z)
 ·exact stay b o e hb o (un.keep b o e n hb (by simp))
 ·obtain ⟨sl,e1⟩:=un.slot b o e n hb (by simp);obtain ⟨sl',e2⟩:=slots b _ hb e1;exact ⟨sl',e2⟩
 ·rw [Jb (neE b o e)];exact un.free b o e n (by simp)
 ·obtain ⟨o',e1⟩:=un.there b o e (by simp);by_cases hb:b∈frs X.stack
  ·obtain ⟨sl,e2⟩:=slots b o' hb e1;exact ⟨_,e2⟩
  ·exact ⟨o',stay b o e hb o' e1⟩
 ·have q:=un.tups b xs e;rw [Jb (J8 q hea)];exact q
 ·have q:=un.frzs b o u e;rw [Jb (J8 q hea)];exact q
 ·obtain ⟨m,q⟩:=un.tbls b ps e;exact ⟨m,by rw [Jb (J8 q hea)];exact q⟩
 ·have hok2:=hok.over trk fly.1 fly'.1;by_cases hb:b=ea
  ·subst hb;rw [J2] at e;cases e;obtain ⟨ob,e1,e2⟩:=fly'.there;exact ⟨⟨ob,e1,e2⟩,⟨ob,e1⟩,fun h1 h2 ⟨o1,z1,z2⟩ k=>⟨o1,k o1 z1,z2⟩⟩
  ·rw [Jb hb] at e;exact (hok2 b u e).stay (fun c v _ q=>q) (fun c q=>by rw [Jb (J8 q hea)];exact q) fun c xs q=>by rw [Jb (J8 q hea)];exact q
def xCatch (K:PySem.W.Frag) (c:Value) (i:Nat) (tb:Addr->TS) (D:Ends) (σ:St):XK:=fun cls _ H2=>exmOne K cls c=some true/\∀ ea,H2 ea=none->tb ea (D.unset i) (σ.set i (some (.ref ea))) (upd H2 ea (excO ea cls))
variable {i:Nat} {n cx:Str} {c:Value} {b₀:Stmt} {suite:List Stmt} {hpos np:Pos} {tb:Addr->TS} {D:Ends}
theorem caught_at {e:Value} {s1:Shared} (hst:X.stack=X.env :: X.outer) (hfr:X.env.frame=some X.env.locals) (hgC:Gl X cx) (hmC:X.mg cx=some c) (hN:X.N.Nodup) (hi:X.N[i]?=some n) (hk:X.env.scope.names.lookup n=some .local)
  (hb:∀ ea,PSs (X.caught ea) (b₀ :: suite) (tb ea)) (I:Inv X pins σ H s) (x:Exc1 X.prog X.w X.stack H s (xCatch X.K c i tb D σ) e s1) (hdb:(cx == ("__debug__":Str))=false:=by decide) :
  wpAny (model X.prog X.w) X.A (noteFrame e X.env) (fun _ s₂=>wpAny (model X.prog X.w) X.A (setFlight e none) (fun _ s₃=>wpAny (model X.prog X.w) X.A (handleBy e X.env [.ExceptHandler (some (.Name cx np)) (some n) (b₀ :: suite) hpos]) (SP X pins D) X.xe s₃) X.xe s₂) X.xe s1:=by
 obtain ⟨ea,cls,H',B,a0,rfl,os,bare,fly,un,hok,hea,new,trk,inB,hx,q⟩:=x;have fr:X.A.frames=some (X.env :: X.outer):=by rw [<- hst];exact I.ok.frames
 have fly':Heap.FlyingW B (X.env :: X.outer) ea cls a0 s1.heap:=by rw [<- hst];exact fly
 refine wpAny_looks_onW fr hfr fly' fun h2 held up2=>?_;refine wpAny_landsW held fun h3 fly3 up3=>?_;have fly3':Heap.FlyingW B X.stack ea cls a0 h3:=by rw [hst];exact fly3
 have I3:Inv X pins σ (upd H' ea (excO ea cls)) { s1 with heap:=h3 }:=land I os bare fly un hok hea new trk inB fly3' (up2.trans up3);refine wpAny_handleBy_cons (codeAny_handlers_test ?_) (by intro q;cases q);refine J3l (X:=X.caught ea) (I3.caught ea) hgC hmC ?_ hdb;have LT:PySem.W.Looks (model X.prog X.w) h3 (typeOf (.ref ea)) cls:=by
  obtain ⟨ob,e1,e2⟩:=fly3.there;exact e2 ▸ (PySem.W.Looks.ld e1).andThen .now
 refine (PySem.W.exm_one (M:=model X.prog X.w) I3.kIn LT hx).here ?_;refine codeAny_handlers_suite_as ?_;refine lands_againW fly3 fun h4 fly4 up4=>?_;have fly4':Heap.FlyingW B X.stack ea cls a0 h4:=by rw [hst];exact fly4
 have I4:Inv X pins σ (upd H' ea (excO ea cls)) { s1 with heap:=h4 }:=land I os bare fly un hok hea new trk inB fly4' ((up2.trans up3).trans up4);refine J5q (X:=X.caught ea) (I4.caught ea) hN hi (.inl hk) (v:=.ref ea) rfl (fun s5 I5=>?_) (.inr hk);refine wpAny_mono (hb ea pins s5 _ _ (D.unset i) I5 (q ea hea)) (fun fl s6 z=>?_) fun _ _ z=>False.elim z
 cases fl with
 | next=>obtain ⟨σ',H2,I6,q6⟩:=z;exact J35 (I6.uncaught I.ok) hN hi hk fun s7 I7=>⟨_,H2,I7,q6⟩
 | brk=>obtain ⟨σ',H2,I6,q6⟩:=z;exact J35 (I6.uncaught I.ok) hN hi hk fun s7 I7=>⟨_,H2,I7,q6⟩
 | cont=>obtain ⟨σ',H2,I6,q6⟩:=z;exact J35 (I6.uncaught I.ok) hN hi hk fun s7 I7=>⟨_,H2,I7,q6⟩
 | ret u=>obtain ⟨v,σ',H2,I6,r6,q6⟩:=z;exact J35 (I6.uncaught I.ok) hN hi hk fun s7 I7=>⟨v,_,H2,I7,r6,q6⟩
end
section
variable {X:Cx} {k:Nat} {f:Addr} {fd:FuncData} {ps:List Str} {sp:Sp} {dvs:List V} {ds:List Value} {x n cx:Str} {i:Nat} {p pos cpos epos hpos np:Pos} {e:Expr} {es:List Expr} {t:TA} {c:Value} {b₀:Stmt} {suite:List Stmt} {tb:Addr->TS}
def tTryc (K:PySem.W.Frag) (sp:Sp) (dvs:List V) (c:Value) (i:Nat) (t:TA) (tb:Addr->TS):TS:=fun D σ H=>t σ H fun vs H1=>sp (vs ++ dvs) H1 (fun _ H2=>D.nx σ H2) (xCatch K c i tb D σ)
theorem ps_tryc (F:FnOk X.prog X.w X.K X.mg X.base (Exc1 X.prog X.w) k f fd ps sp) (hr:Room k X.A) (hg:Gl X x) (hm:X.mg x=some (.ref f)) (hk:keepIn X.K (.ref f)=true) (hb:Binds X.K fd ps ds) (hd:Vals dvs ds)
  (ha:PA X.nox (e :: es) t) (hst:X.stack=X.env :: X.outer) (hfr:X.env.frame=some X.env.locals) (hgC:Gl X cx) (hmC:X.mg cx=some c) (hN:X.N.Nodup) (hi:X.N[i]?=some n) (hkn:X.env.scope.names.lookup n=some .local)
  (hsu:∀ ea,PSs (X.caught ea) (b₀ :: suite) (tb ea)) (hdbC:(cx == ("__debug__":Str))=false:=by decide) (hs:swapsWith (.Call (.Name x p) (e :: es) [] cpos) none epos.line X.env=pure false:=by rfl)
  (hdb:(x == ("__debug__":Str))=false:=by decide) (he:starEach (e :: es) X.env=(false,eval e X.env) :: starEach es X.env:=by rfl) (hpl:(backTo cpos (starEach es X.env)).any (·.1)=false:=by rfl) :
  PS X (.Try [.Expr (.Call (.Name x p) (e :: es) [] cpos) epos] [.ExceptHandler (some (.Name cx np)) (some n) (b₀ :: suite) hpos] [] [] pos) (tTryc X.K sp dvs c i t tb):=by
 intro pins s σ H D I h;refine wpAny_Try_except (wpAny_execs_cons (wpAny_Expr_any ?_ I.quiet hs));refine wpAny_Call_Name_kw (J3l I hg hm ?_ hdb);refine callWith_K (h₀:=X.base) I.ok.mod.kin hk (wpAny_mono (ha cpos pins s σ H _ (I.wish _) h) (fun us s1 ⟨vs,H1,I1,r,q⟩=>⟨I1.kIn,?_⟩) fun _ _ z=>False.elim z) he hpl;have I1:=I1.unwish;have r2:Vals (vs ++ dvs) (us ++ ds):=r.append hd;have hl:(us ++ ds).length=ps.length:=by rw [<- r2.length];exact F.len _ _ _ _ q
 refine wpAny_call (codeAny_mono (F.run X.A X.stack s1 H1 ⟨us,[]⟩ (us ++ ds) (vs ++ dvs) _ _ hr I1.env0 (hb s1 us I1.kIn hl) r2 q) fun r s' hq=>?_)
 cases r with
 | error e=>exact caught_at hst hfr hgC hmC hN hi hkn hsu I1 hq hdbC
 | ok fl =>
  cases fl with
  | ret u =>
   obtain ⟨v,H2,I2,_,q2⟩:=I1.after hq;exact wpAny_execs_nil (wpAny_execs_nil (show SP X pins D .next s' from ⟨σ,H2,I2,q2⟩))
  | next=>exact False.elim hq
  | brk=>exact False.elim hq
  | cont=>exact False.elim hq
end
theorem Fun.okX {P:Program} {w:World} {K:PySem.W.Frag} {mg:Str->Option Value} {base:Heap} {x qual:Str} {st:Stmt} {f:Addr} {fd:FuncData} {N ps:List Str} {k:Nat} {sp:Sp} (F:Fun K x qual st f fd) (S:FnScope N ps (J6 st)) (len:∀ vs H Q E,sp vs H Q E->vs.length=ps.length)
  (hbody:∀ (cdv:Value) (A:Around) (outer:List Env) (s:Shared) (H:Hp) (vs:List V) (Q:VK) (E:XK),Room k (A.deeper (envOfC qual (J6 st) s.heap.objs.size f cdv))->sp vs H Q E->
   ∃ t,PSs (cxOf (Exc1 P w) P w K mg base N qual (J6 st) f cdv A outer s H E) (J1j st) t/\t { nx:=fun _ H'=>Q .non H',rt:=Q } (start N vs) H):FnOk P w K mg base (Exc1 P w) (k + 1) f fd ps sp:=by
 obtain ⟨oc,od,kV,doc,pm,an,cdv,ct,osl,rfl,lk,hcd⟩:=F.ex;exact fn_of lk hcd S len fun A outer s H vs Q E hr hsp=>hbody cdv A outer s H vs Q E hr hsp
end L2
namespace L2
open PySem PySem.Spec PyProof.Rows
structure XCls (K:PySem.W.Frag) (D:Addr):Prop where
 ga:findIn K (.ref D) "__getattribute__"=some (some (.builtin "BaseException.__getattribute__"))
 no:findIn K (.ref D) "__getattr__"=some none
 cl:findIn K (.ref D) "__class__"=some (some (.builtin "object.__class__"))
 get:specialIn K (.builtin "object.__class__") "__get__"=some (some (.builtin "getset_descriptor.__get__"))
 tk:takesIn K (.builtin "object.__class__")=some true
 mo:mroIn K D (.type "object")=some true
 mb:mroIn K D (.type "BaseException")=some true
 hd:hasDictIn K D=true
section
open PySem.W
variable {prog:Program} {w:World} {A:Around} {E:Value->Shared->Prop} {K:Frag} {x D:Addr} {hh:Heap} {g:Array GenState} {d:Drawn} {t:Nat} {os:OsState}
theorem x_find {M:Model} (X:K.In hh) (W:XCls K D):Looks M hh (Builtin.ObjectAttr.find (.ref x) (.ref D) "__class__") (.bind (.builtin "getset_descriptor.__get__") (.builtin "object.__class__")):=by
 have e1:=looks_findIn (M:=M) X W.cl;have e2:Looks M hh (Builtin.ObjectAttr.getOf (some (.builtin "object.__class__"))) (some (.builtin "getset_descriptor.__get__")):=looks_specialIn X W.get;have e3:=looks_takesIn (M:=M) X W.tk;have e4:Looks M hh (Builtin.ObjectAttr.dataDescriptor? (some (.builtin "object.__class__")) (some (.builtin "getset_descriptor.__get__"))) (some (.builtin "getset_descriptor.__get__",.builtin "object.__class__")):=e3.andThen .now;exact e1.andThen (e2.andThen (e4.andThen (Looks.tag .now)))
theorem x_get {R:Result->Shared->Prop} {tp:Value} (X:K.In hh) (W:XCls K D) (p:∃ o,hh.get? x=some o/\o.cls=.ref D) (h:R (.ok (.ret (.ref D))) ⟨hh,g,d,t,os⟩) :
  codeAny (model prog w) A (.call (.builtin "getset_descriptor.__get__") ⟨[.builtin "object.__class__",.ref x,tp],[]⟩) R ⟨hh,g,d,t,os⟩:=by
 obtain ⟨o,p1,p2⟩:=p;have L0:Looks (model prog w) hh (typeOf (.ref x)) (.ref D):=p2 ▸ (Looks.ld p1).andThen .now;have L1:=looks_mroIn (M:=model prog w) X W.mo;have ck:=KF.slot_gs.check (M:=model prog w) (A:=A);refine codeAny_call_builtin KF.slot_gs.plain KF.entry_gs ?_;refine KF.slot_gs.check _ _ _ _ _ _ _ _ KF.type_class (KF.args_gs ..) ?_;unfold Builtin.«getset_descriptor.__get__»;unfold Builtin.Getset_descriptor.descrGet;rw [dga_obj];apply wpAny_bind;apply wpAny_pure;unfold Builtin.Getset_descriptor.descrGetter Builtin.Getset_descriptor.descrCheckInstance;unfold Builtin.Getset_descriptor.descrNameAndClass isInstance;simp only [KF.owner_class]
 repeat lk
 refine ⟨Code.quiet_builtin _ (by decide +kernel),?_⟩;refine codeAny_builtin KF.entry_class ?_;unfold Builtin.«object.__class__»;unfold shownTypeOf
 repeat lk
 exact h
theorem x_class {Q:Option Value->Shared->Prop} (X:K.In hh) (W:XCls K D) (p:∃ o,hh.get? x=some o/\o.cls=.ref D) (h:Q (some (.ref D)) ⟨hh,g,d,t + 1,os⟩) :
  wpAny (model prog w) A (getAttr? (.ref x) "__class__") Q E ⟨hh,g,d,t,os⟩:=by
 have p':=p;obtain ⟨o,p1,p2⟩:=p';have L0:Looks (model prog w) hh (typeOf (.ref x)) (.ref D):=p2 ▸ (Looks.ld p1).andThen .now;have L1:=looks_findIn (M:=model prog w) X W.ga;have L2:=looks_findIn (M:=model prog w) X W.no;have L3:=x_find (x:=x) (M:=model prog w) X W;have L4:=looks_mroIn (M:=model prog w) X W.mb;have gb:=PySem.F.attrBase_ValueError.ga.bind (.ref x);unfold getAttr? getAttrBy?;unfold getAttrBy;apply wpAny_bind;apply wpAny_mkText;apply wpAny_bind;apply wpAny_attempt;apply wpAny_holding;apply wpAny_bind;refine L0.at ?_;apply wpAny_bind;refine L1.at ?_;have nb:(Value.builtin "BaseException.__getattribute__" == Value.builtin "object.__getattribute__")=false:=by decide +kernel
 show wpAny _ _ (if (onTheHeap (Value.ref D) && Value.builtin "BaseException.__getattribute__" == Value.builtin "object.__getattribute__")=true then _ else _) _ _ _;rw [nb,Bool.and_false,if_neg Bool.false_ne_true];unfold getAttrByItsOwn hookBefore;apply wpAny_bind;show wpAny _ _ (if onTheHeap (Value.ref D)=true then _ else _) _ _ _;rw [if_pos (show onTheHeap (Value.ref D)=true from rfl)];refine L2.at ?_;apply wpAny_bind;apply wpAny_attempt;apply wpAny_holding;unfold callGetattribute;rw [Bool.false_and,if_neg Bool.false_ne_true];unfold boundAndCalled;rw [gb];apply wpAny_bind;apply wpAny_pure;refine wpAny_call (codeAny_call_builtin PySem.F.attrBase_ValueError.ga.plain PySem.F.entry_bexc_ga ?_);have hk:builtinKind "BaseException.__getattribute__"=some .slot:=by decide +kernel
 have hs:splitId "BaseException.__getattribute__"=some ("BaseException","__getattribute__"):=by decide +kernel
 have ha:=PySem.F.args_bexc_ga (.ref x) (.str "__class__" t);have L5:Looks (model prog w) hh (isInstance (.ref x) (.type "BaseException")) true:=L0.andThen L4;simp only [checkBuiltinCall,hk,hs];apply wpAny_bind;refine L5.at ?_
 repeat (first | assumption | wp_step)
 rw [p2];have e2:Looks (model prog w) hh (Builtin.ObjectAttr.getOf (some (.builtin "object.__class__"))) (some (.builtin "getset_descriptor.__get__")):=looks_specialIn X W.get;have e3:=looks_takesIn (M:=model prog w) X W.tk;have e4:Looks (model prog w) hh (Builtin.ObjectAttr.dataDescriptor? (some (.builtin "object.__class__")) (some (.builtin "getset_descriptor.__get__"))) (some (.builtin "getset_descriptor.__get__",.builtin "object.__class__")):=e3.andThen .now;refine (looks_findIn (M:=model prog w) X W.cl).at ?_;apply wpAny_bind;refine e2.at ?_;apply wpAny_bind;refine e4.at ?_
 repeat (first | assumption | wp_step)
 refine x_get X W p ?_
 repeat (first | assumption | wp_step)
theorem x_isType {M:Model} (X:K.In hh) (W:XCls K D):Looks M hh (isType (.ref D)) true:=by
 obtain ⟨cd,hc,_⟩:=any_some W.hd;unfold clsIn at hc;split at hc
 next ho =>
  intro A' Q' E' s' k q;unfold isType loadHead;apply wpAny_bind;exact wpAny_loadPart (k _ _ (X _ _ ho)) (wpAny_pure q)
 next=>cases hc
theorem kitx_exc (W:XCls K D):KitX K (.ref x) (.ref D) (fun h=>∃ o,h.get? x=some o/\o.cls=.ref D) where
 ty:=fun _ _ _ ⟨_,p1,p2⟩=>p2 ▸ (Looks.ld p1).andThen .now
 it:=fun _ _ X _=>x_isType X W
 ne:=fun h tp dd its n sl X htp=>by
  obtain ⟨cd,hc,_⟩:=any_some W.hd;apply Bool.eq_false_iff.mpr;intro q;cases beq_iff_eq.mp q;unfold clsIn at hc;split at hc
  next ho=>have z:=X _ _ ho;rw [htp] at z;cases z
  next=>cases hc
 ca:=fun {_ _ _ _ _ s} X p k=>by
  obtain ⟨h0,g0,d0,t0,o0⟩:=s;exact x_class X W p k
end
theorem call_isany {X:Cx} {f:Value} (hf:f=.builtin "isinstance"):CallR X f (fun xs H Q=>∃ (ea D:Addr) (c:V) (cv:Value) (b:Bool),xs=[.ref ea,c]/\RelV c cv/\(∀ v,RelV c v->v=cv)/\H ea=some (excO ea (.ref D))/\XCls X.K D/\kitOne X.K (.ref D) cv=some b/\Q (.bl b) H):=by
 subst hf;intro pins s σ H xs us Q I r h;obtain ⟨ea,D,c,cv,b,rfl,rc,uc,e,W,kb,q⟩:=h;obtain ⟨u,v,rfl,ru,rv⟩:=vals2 r;cases (show u=Value.ref ea from ru);obtain rfl:=uc v rv;have:=I.hok ea _ e;exact kia_one (kitx_exc W) I.kIn this.1 kb (fun z=>nomatch z) fun tk=>⟨.bl b,H,I.tok tk,rfl,q⟩
end L2
namespace L2
open PySem PySem.Spec PyProof.Rows
end L2
namespace L2
open PySem PySem.Spec PyProof.Rows
def PTs (X:Cx) (ifs:List Expr) (t:TT):Prop :=
 ∀ (pins:List (Addr × Obj)) (s:Shared) (σ:St) (H:Hp) (Q:Bool->Hp->Prop),Inv X pins σ H s->t σ H Q->
  wpAny (model X.prog X.w) X.A (forIn ifs true fun c r=>if r=true then do let ok <- isTrue c X.env (eval c X.env);pure (ForInStep.yield ok) else pure (ForInStep.yield r)) (TP X pins σ Q) X.xe s
def tYes:TT:=fun _ H Q=>Q true H
theorem J3g {X:Cx}:PTs X [] tYes:=fun _ s σ H Q I h=>wpAny_tests_nil ⟨H,I,h⟩
theorem pts_one {X:Cx} {c:Expr} {t:TT} (h:PT X c t):PTs X [c] t:=fun pins s σ H Q I q=>wpAny_tests_one (h pins s σ H Q I q)
theorem J1n {prog:Program} {w:World} {A:Around} {R:Result->Shared->Prop} {s:Shared} {elt target iter:Expr} {ifs:List Expr} {scope:Scope} {pos:Pos} {it acc:Value} {env:Env} (J:Nat->Shared->Prop)
  (turn:∀ n s,J n s->wpAny (model prog w) A (pyNext it) (fun r s₁=>match r with
   | none=>R (.ok .next) s₁
   | some v=>wpAny (model prog w) A (letOwnedTupleGo target it v) (fun _ s₁'=>wpAny (model prog w) A (assign target env v) (fun _ s₂ =>
     wpAny (model prog w) A (forIn ifs true fun c r=>if r=true then do let ok <- isTrue c env (eval c env);pure (ForInStep.yield ok) else pure (ForInStep.yield r)) (fun ok s₃ =>
      if ok=true then wpAny (model prog w) A (eval elt env) (fun x s₄ =>
       wpAny (model prog w) A (call (.builtin "list.append") [acc,x]) (fun _ s₅=>∃ m,m < n/\J m s₅) (fun _ _=>False) s₄) (fun _ _=>False) s₃
      else ∃ m,m < n/\J m s₃) (fun _ _=>False) s₂) (fun _ _=>False) s₁') (fun _ _=>False) s₁) (fun _ _=>False) s)
  (n:Nat) (h:J n s):codeAny (model prog w) A (.compLoop (.ListComp elt [⟨target,iter,ifs,0⟩] scope pos) 0 it acc env) R s:=by
 refine codeAny_loop rfl J (fun n s hI=>?_) n h;show wpAny _ _ ((compTurn (.ListComp elt [⟨target,iter,ifs,0⟩] scope pos) 0 it acc env).onRaise (fun x=>do noteFrame x env;theTreesLotGoes x)) _ _ s;refine wpAny_noted ?_;rw [compTurn_list];refine wpAny_bind (wpAny_standAt (wpAny_bind (wpAny_mono (turn n s hI) (fun r s₁ h₁=>?_) fun _ _ h'=>False.elim h')))
 cases r with
 | none=>exact wpAny_pure h₁
 | some v =>
  refine wpAny_bind (wpAny_mono h₁ (fun _ s₁' h₁'=>?_) fun _ _ h'=>False.elim h');refine wpAny_bind (wpAny_mono h₁' (fun _ s₂ h₂=>wpAny_bind (wpAny_mono h₂ (fun ok s₃ h₃=>?_) fun _ _ h'=>False.elim h')) fun _ _ h'=>False.elim h')
  cases ok with
  | false=>exact wpAny_pure ⟨rfl,h₃⟩
  | true =>
   exact wpAny_bind (wpAny_bind (wpAny_mono h₃ (fun x s₄ h₄=>wpAny_bind (wpAny_mono h₄ (fun _ s₅ h₅=>wpAny_pure (wpAny_pure ⟨rfl,h₅⟩)) fun _ _ h'=>False.elim h')) fun _ _ h'=>False.elim h'))
def LCW (J:It) (tc:TT) (te:TE) (σ:St) (js:List Nat) (Q:VK) (H1:Hp) (d:Addr):Prop:=∃ W:Nat->Nat->List V->Hp->Prop,(∃ m,W 0 m [] (upd H1 d (.lst [])))/\
 ∀ i m ys H2,W i m ys H2->H2 d=some (.lst ys)/\((J.stop i H2/\Q (.ref d) H2)\/(J.go i H2/\ys.length < sizeLine/\∀ v H3,J.yld i H2 v H3->
  tc (some v :: capv σ js) H3 fun b H4=>if b=true then te (some v :: capv σ js) H4 fun y H5=>H5 d=some (.lst ys)/\∃ m',m' < m/\W (i + 1) m' (ys ++ [y]) (upd H5 d (.lst (ys ++ [y])))
   else ∃ m',m' < m/\W (i + 1) m' ys H4))
def tLC (wi:TI) (tc:TT) (te:TE) (js:List Nat):TE:=fun σ H Q=>wi σ H fun J H1=>∀ d,H1 d=none->LCW J tc te σ js Q H1 d
section
variable {X:Cx} {elt iter:Expr} {ifs:List Expr} {x y:Str} {px py:Pos} {scope:Scope} {cl:List (Str × Addr)} {pos spos:Pos} {wi:TI} {tc:TT} {te:TE} {caps:List Str} {js:List Nat} {i:Nat}
theorem comp_core {p0:Pos} {use:Option (Value->Sem Unit)} {QV:Value->Shared->Prop} {Q:VK} {pins:List (Addr × Obj)} {s:Shared} {σ:St} {H:Hp} (hc:X.calm=true) (hp:PI X (.Name x px) iter wi)
  (he:∀ (C:Addr) (fp:List Addr) (s:Shared) (H:Hp),PE (X.block (x :: caps) scope cl C fp s H) elt te)
  (ht:∀ (C:Addr) (fp:List Addr) (s:Shared) (H:Hp),PTs (X.block (x :: caps) scope cl C fp s H) ifs tc)
  (hcell:∀ p∈scope.names,p.2≠.cell) (hnames:∀ p∈scope.names,p.2=.local->scope.names.lookup p.1=some .local) (hnd:(x :: caps).Nodup)
  (hsub:∀ p∈cl,X.env.cells.lookup p.1=some p.2) (hhas:∀ p∈scope.names,p.2=.free->∃ c,cl.lookup p.1=some c) (hlen:caps.length=js.length)
  (hcaps:∀ (k:Nat) (c:Str),caps[k]?=some c->∃ (j:Nat) (a:Addr),js[k]?=some j/\X.N[j]?=some c/\X.env.scope.names.lookup c=some .cell/\cl.lookup c=some a/\(relabel scope X.env).names.lookup c=some .cell)
  (hclos:closureFor scope X.env=pure cl) (hkind:scope.kind=.function) (hx:scope.names.lookup x=some .local) (hs:∀ v,foldedSetIterable iter X.env v=pure v)
  (I:Inv X pins σ H s) (h:tLC wi tc te js σ H Q)
  (fin:∀ (d:Addr) (H':Hp) (s5:Shared) (C:Addr),Inv X pins σ H' s5->Q (.ref d) H'->(∃ m,s5.heap.Ns C m)->FpOk X pins H' C->compPost (model X.prog X.w) X.A X.xe use QV (.ref d) C (.ok .next) s5) :
  wpAny (model X.prog X.w) X.A (comprehension (.ListComp elt [⟨.Name x px,iter,ifs,0⟩] scope pos) scope X.env p0 (newList []) false (eval iter X.env) use) QV X.xe s:=by
 refine wpAny_comprehension_free (cl:=cl) (use:=use) (Q:=QV) rfl hs hclos hkind hnames (thn (hp pins s σ H _ I h) fun v s1 h1=>thn h1 fun itv s2 h2=>?_);obtain ⟨it,fp,tn,J,H2,e,I2,T,st2,f2,h3⟩:=h2;subst e;have hfr:H2 s2.heap.objs.size=none:=I2.hok.fresh (Nat.le_refl _);obtain ⟨W,⟨m0,w0⟩,hW⟩:=h3 s2.heap.objs.size hfr;refine wpAny_newObj_type (wpAny_newFunctionEnv hcell (by intro y hy;simp at hy) (fun h₁ hns₁ hsb₁=>?_) hkind);dsimp only at hns₁ hsb₁ ⊢;generalize hH2:s2.heap.push { cls:=.type "list",dict:=none,data:=.seq ([]:List Value).toArray }=G at hns₁ hsb₁ ⊢;have hC:G.objs.size=s2.heap.objs.size + 1:=by rw [<- hH2,Heap.size_push]
 have hDC:s2.heap.objs.size≠G.objs.size:=by rw [hC];exact Nat.ne_of_lt (Nat.lt_succ_self _)
 have hCle:s2.heap.objs.size<=G.objs.size:=by rw [hC];exact Nat.le_succ _
 have old:∀ b o,s2.heap.get? b=some o->h₁.get? b=some o:=fun b o e=>hsb₁.extBut b o (by rw [hC];exact Nat.ne_of_lt (Nat.lt_succ_of_lt (lt_size e))) (get?_push_of_some _ (hH2 ▸ get?_push_of_some _ e));have hacc:h₁.get? s2.heap.objs.size=some { cls:=.type "list",dict:=none,data:=.seq ([]:List Value).toArray }:=hsb₁.extBut _ _ hDC (get?_push_of_some _ (hH2 ▸ get?_push_size _ rfl));have fl:∀ b∈fp,b < s2.heap.objs.size:=fun b hb=>by
  obtain ⟨o,e,_⟩:=T.obj _ _ st2 b hb;exact lt_size e
 have hDf:s2.heap.objs.size ∉ fp:=fun hm=>Nat.lt_irrefl _ (fl _ hm);have hok1:HOk X.prog X.w (upd H2 s2.heap.objs.size (.lst [])) h₁:=I2.hok.laid old (Nat.le_refl _) ⟨Nat.zero_le _,[],0,.nil,hacc⟩;have IY0:∀ tk,Inv (X.block (x :: caps) scope cl G.objs.size fp s2 H2) [] (none :: capv σ js) (upd H2 s2.heap.objs.size (.lst [])) { s2 with heap:=h₁,toks:=tk }:=fun tk=>by
  refine ⟨J4v I2 hCle f2 fl hkind hcell hsub hhas,rfl,I2.bare,Un.laid old (Nat.le_refl _) hfr,⟨_,hns₁,fun k z v e1 e2 e3=>?_⟩,fun z c e=>?_,?_,fun z c e=>?_,fun p hp=>absurd hp (by simp),hok1,?_⟩
  ·cases k with
   | zero=>simp at e2
   | succ k =>
    have e1':caps[k]?=some z:=by simpa using e1
    have e2':(capv σ js)[k]?=some (some v):=by simpa using e2
    obtain ⟨j,a,q1,q2,q3,q4,q5⟩:=hcaps k z e1';obtain ⟨j',r1,r2⟩:=J6f e2';rw [q1] at r1;cases r1;obtain ⟨m,hm,hl⟩:=I2.loc;obtain ⟨u,ru,lu⟩:=hl j z v q2 r2 (.inr (.inl q3));refine ⟨u,ru,.inr ⟨.inl q5,a,q4,?_⟩⟩;rcases lu with ⟨k1,_⟩ | ⟨_,c,ec,o,ho,hd⟩
    ·have k1':X.env.scope.names.lookup z=some .local:=k1;rw [q3] at k1';cases k1'
    ·have:=hsub _ (mem_of_lookup q4);rw [ec] at this;cases this;exact ⟨o,old _ _ ho,hd⟩
  ·obtain ⟨v,o,ho,hd⟩:=I2.cell z c (hsub _ (mem_of_lookup e));exact ⟨v,o,old _ _ ho,hd⟩
  ·show upd H2 s2.heap.objs.size (.lst []) G.objs.size=none;rw [Jb hDC.symm];exact I2.hok.fresh hCle
  ·have ec:=hsub _ (mem_of_lookup e);obtain ⟨v,o,ho,hd⟩:=I2.cell z c ec;rw [Jb (Nat.ne_of_lt (lt_size ho))];exact I2.freeC z c ec
  ·show (none :: capv σ js).length=(x :: caps).length;unfold capv;simp [hlen]
 have stat:∀ {H':Hp},(∀ b∈fp,H' b=none)->∀ b∈fp,FpOk (X.block (x :: caps) scope cl G.objs.size fp s2 H2) [] H' b:=fun hn b hb =>
  ⟨hn b hb,Nat.ne_of_lt (Nat.lt_of_lt_of_le (fl b hb) hCle),(J4v (x:=x) (caps:=caps) I2 hCle f2 fl hkind hcell hsub hhas).exfs b hb,.inl hb,fun z c e=>(f2 b hb).2.2.2.2.1 z c (hsub _ (mem_of_lookup e)),fun p hp=>absurd hp (by simp)⟩
 have hxl:(relabel scope X.env).names.lookup x=some .local:=lookup_relabel_local hx;have loop:∀ tk,codeAny (model X.prog X.w) X.A (.compLoop (.ListComp elt [⟨.Name x px,iter,ifs,0⟩] scope pos) 0 (.ref it) (.ref s2.heap.objs.size) (compEnvC scope cl G.objs.size X.env))
   (compPost (model X.prog X.w) X.A X.xe use QV (.ref s2.heap.objs.size) G.objs.size) { s2 with heap:=h₁,toks:=tk }:=fun tk=>by
  refine J1n (fun m s'=>∃ (k:Nat) (o:Option V) (ys:List V) (H':Hp),Inv (X.block (x :: caps) scope cl G.objs.size fp s2 H2) [] (o :: capv σ js) H' s'/\tn k s'.heap/\(∀ b∈fp,H' b=none)/\W k m ys H') ?_ m0
   ⟨0,none,[],_,IY0 tk,T.keep _ _ _ st2 fun b hb o e=>old b o e,fun b hb=>by
    rw [Jb (show b≠s2.heap.objs.size from fun e=>hDf (by rw [<- e];exact hb))];exact (f2 b hb).1,w0⟩
  rintro m s3 ⟨k,o,ys,H',I3,st3,fr3,w3⟩;obtain ⟨hd,hW3⟩:=hW k m ys H' w3;rcases hW3 with ⟨stop,q⟩ | ⟨go,hz,step⟩
  ·refine thn (T.done (X.block (x :: caps) scope cl G.objs.size fp s2 H2) rfl rfl rfl hc k [] s3 _ _ (fun _ _=>False) I3 (stat fr3) st3 stop) fun r s4 ⟨hr,I4⟩=>?_;subst hr;have J5:Inv X pins σ H' s4:=I2.call' (ch:=fp) I4.os I4.base I4.hok I4.bare fun b hb=>⟨(f2 b hb).2.2.2.1,(f2 b hb).2.1,(f2 b hb).2.2.2.2.1,(f2 b hb).2.2.2.2.2⟩;exact fin _ H' s4 _ J5 q (let ⟨m,q,_⟩:=I4.loc;⟨m,q⟩) (I2.fpOk hCle I4.free)
  ·refine thn (T.item (X.block (x :: caps) scope cl G.objs.size fp s2 H2) rfl rfl rfl hc k [] s3 _ _ (fun _ _=>False) I3 (stat fr3) st3 go) fun r s4 ⟨u,hr,h4⟩=>?_;subst hr;refine thn h4 fun _ s5 ⟨v,H5,I5,r5,y5,st5,fr5⟩=>?_;have I5':=I5.pinned (stat fr5) (T.obj _ _ st5);have stp:=step v H5 y5;refine thn (J1g (X:=X.block (x :: caps) scope cl G.objs.size fp s2 H2) (i:=0) (pos:=px) hnd rfl (.inl hxl) (.inr hxl) _ s5 _ _ _ u
    (fun σ' H'=>σ'=some v :: capv σ js/\H'=H5) I5' r5 ⟨rfl,rfl⟩) fun _ s6 ⟨σ6,H6,I6,q6⟩=>?_
   obtain ⟨rfl,rfl⟩:=q6;refine thn (ht _ _ _ _ _ s6 _ _ _ I6 stp) fun ok s7 ⟨H7,I7,q7⟩=>?_;have back:∀ {s8:Shared} {H8:Hp} {o8:Option V} {ys8:List V} {m':Nat},Inv (X.block (x :: caps) scope cl G.objs.size fp s2 H2) ([] ++ pinsAt fp s5.heap) (o8 :: capv σ js) H8 s8->m' < m->W (k + 1) m' ys8 H8->
     ∃ m',m' < m/\∃ (k:Nat) (o:Option V) (ys:List V) (H':Hp),Inv (X.block (x :: caps) scope cl G.objs.size fp s2 H2) [] (o :: capv σ js) H' s8/\tn k s8.heap/\(∀ b∈fp,H' b=none)/\W k m' ys H':=fun {s8 H8 o8 ys8 m'} I8 hm w8=>by
    refine ⟨m',hm,k + 1,o8,ys8,H8,I8.unpinned,T.keep _ _ _ st5 fun b hb o e=>(I8.pin (b,o) (mem_append_right _ (mem_append_right _ (J1u hb e)))).1,fun b hb=>?_,w8⟩;obtain ⟨o,e,d⟩:=T.obj _ _ st5 b hb;exact (I8.pin (b,o) (mem_append_right _ (mem_append_right _ (J1u hb e)))).2.1
   cases ok with
   | false =>
    have q7':∃ m',m' < m/\W (k + 1) m' ys H7:=by
     have:=q7;rwa [if_neg (by decide)] at this
    obtain ⟨m',hm,w8⟩:=q7';exact back I7 hm w8
   | true =>
    have q7':te (some v :: capv σ js) H7 fun y H5=>H5 s2.heap.objs.size=some (.lst ys)/\∃ m',m' < m/\W (k + 1) m' (ys ++ [y]) (upd H5 s2.heap.objs.size (.lst (ys ++ [y]))):=by
     have:=q7;rwa [if_pos rfl] at this
    refine (show wpAny _ _ _ _ _ _ from thn (he _ _ _ _ _ s7 _ _ _ I7 q7') fun u8 s8 ⟨v8,H8,I8,r8,hd8,m',hm,w8⟩=>?_);refine thn (J1b (X:=X.block (x :: caps) scope cl G.objs.size fp s2 H2) _ s8 _ _ (.ref s2.heap.objs.size) [v8] (.ref s2.heap.objs.size) [u8]
     (fun _ H'=>H'=upd H8 s2.heap.objs.size (.lst (ys ++ [v8]))) I8 rfl (.cons r8 .nil) ⟨s2.heap.objs.size,_,v8,rfl,rfl,hd8,hz,rfl⟩) fun _ s9 ⟨_,H9,I9,_,q9⟩=>?_
    subst q9;exact back I9 hm w8
 have st1:tn 0 h₁:=T.keep _ _ _ st2 fun b hb o e=>old b o e;exact codeAny_compStart_list (loop _) (T.self X.A 0 _ _ _ st1 (loop _))
def capsOk (X:Cx) (scope:Scope) (cl:List (Str × Addr)) (caps:List Str) (js:List Nat):Bool :=
 (caps.zip js).all fun q=>X.N[q.2]? == some q.1 && X.env.scope.names.lookup q.1 == some .cell && (cl.lookup q.1).isSome && (relabel scope X.env).names.lookup q.1 == some .cell
theorem capsOk.get (hlen:caps.length=js.length) (h:capsOk X scope cl caps js=true):∀ (k:Nat) (c:Str),caps[k]?=some c->∃ (j:Nat) (a:Addr),js[k]?=some j/\X.N[j]?=some c/\X.env.scope.names.lookup c=some .cell/\cl.lookup c=some a/\(relabel scope X.env).names.lookup c=some .cell:=fun k c hk=>by
 have hkl:k < caps.length:=(List.getElem?_eq_some_iff.mp hk).1;have hj:js[k]?=some (js[k]'(hlen ▸ hkl)):=List.getElem?_eq_getElem (hlen ▸ hkl);have hm:(c,js[k]'(hlen ▸ hkl))∈caps.zip js:=by
  refine List.mem_iff_getElem?.mpr ⟨k,?_⟩;rw [List.getElem?_zip_eq_some];exact ⟨hk,hj⟩
 have:=all_eq_true.mp h _ hm;simp only [Bool.and_eq_true,beq_iff_eq] at this;obtain ⟨⟨⟨q1,q2⟩,q3⟩,q4⟩:=this;obtain ⟨a,ha⟩:=Option.isSome_iff_exists.mp q3;exact ⟨_,a,hj,q1,q2,ha,q4⟩
def freeOk (scope:Scope) (cl:List (Str × Addr)):Bool:=scope.names.all fun p=>p.2 != .free || (cl.lookup p.1).isSome
theorem freeOk.get (h:freeOk scope cl=true):∀ p∈scope.names,p.2=.free->∃ c,cl.lookup p.1=some c:=fun p hp' e=>by
 have:=all_eq_true.mp h p hp';rw [e] at this;exact Option.isSome_iff_exists.mp (by simpa using this)
theorem pe_lc (hc:X.calm=true) (hp:PI X (.Name x px) iter wi) (hclos:closureFor scope X.env=pure cl)
  (ht:∀ (C:Addr) (fp:List Addr) (s:Shared) (H:Hp),PTs (X.block (x :: caps) scope cl C fp s H) ifs tc)
  (he:∀ (C:Addr) (fp:List Addr) (s:Shared) (H:Hp),PE (X.block (x :: caps) scope cl C fp s H) elt te)
  (hcell:∀ p∈scope.names,p.2≠.cell) (hnames:∀ p∈scope.names,p.2=.local->scope.names.lookup p.1=some .local) (hnd:(x :: caps).Nodup)
  (hsub:∀ p∈cl,X.env.cells.lookup p.1=some p.2)
  (hhas:freeOk scope cl=true:=by rfl) (hlen:caps.length=js.length:=by rfl) (hcaps:capsOk X scope cl caps js=true:=by rfl)
  (hkind:scope.kind=.function:=by rfl) (hx:scope.names.lookup x=some .local:=by rfl) (hs:∀ v,foldedSetIterable iter X.env v=pure v:=by intro _;rfl) :
  PE X (.ListComp elt [⟨.Name x px,iter,ifs,0⟩] scope pos) (tLC wi tc te js):=by
 intro pins s σ H Q I h;rw [eval_ListComp];refine comp_core (use:=none) hc hp he ht hcell hnames hnd hsub (freeOk.get hhas) hlen (capsOk.get hlen hcaps) hclos hkind hx hs I h fun d H' s5 C J5 q hC fp=>?_;obtain ⟨m,nsC⟩:=hC;exact ⟨m,nsC,fun h' hs'=>⟨.ref d,H',J5.turned (h':=h') (t':=s5.toks) (it:=C) (fun b o hb e=>(hs'.2 b hb).trans e) fp.1 fp.2.1 fp.2.2.2.1 fp.2.2.2.2.1 fp.2.2.2.2.2,rfl,q⟩⟩
def tSetLC (t:TE) (i:Nat):TS:=fun D σ H=>t σ H fun v H'=>D.nx (σ.set i (some v)) H'
theorem ps_lc (hN:X.N.Nodup) (hi:X.N[i]?=some y) (hy:Loc X.env.scope y) (hc:X.calm=true) (hp:PI X (.Name x px) iter wi) (hclos:closureFor scope X.env=pure cl)
  (ht:∀ (C:Addr) (fp:List Addr) (s:Shared) (H:Hp),PTs (X.block (x :: caps) scope cl C fp s H) ifs tc)
  (he:∀ (C:Addr) (fp:List Addr) (s:Shared) (H:Hp),PE (X.block (x :: caps) scope cl C fp s H) elt te)
  (hcell:∀ p∈scope.names,p.2≠.cell) (hnames:∀ p∈scope.names,p.2=.local->scope.names.lookup p.1=some .local) (hnd:(x :: caps).Nodup)
  (hsub:∀ p∈cl,X.env.cells.lookup p.1=some p.2)
  (hhas:freeOk scope cl=true:=by rfl) (hlen:caps.length=js.length:=by rfl) (hcaps:capsOk X scope cl caps js=true:=by rfl)
  (hf:X.fn y=true\/X.env.scope.names.lookup y=some .local:=by first | exact .inl rfl | exact .inr rfl | assumption)
  (hsw:swapsWith (.ListComp elt [⟨.Name x px,iter,ifs,0⟩] scope pos) (some (.Name y py)) spos.line X.env=pure true:=by rfl)
  (hkind:scope.kind=.function:=by rfl) (hx:scope.names.lookup x=some .local:=by rfl) (hs:∀ v,foldedSetIterable iter X.env v=pure v:=by intro _;rfl) :
  PS X (.Assign [.Name y py] (.ListComp elt [⟨.Name x px,iter,ifs,0⟩] scope pos) spos) (tSetLC (tLC wi tc te js) i):=by
 intro pins s σ H D I h;rw [exec_Assign_Name_used _ _ _ _ hsw];refine wpAny_bind (wpAny_standAt (wpAny_bind ?_));show wpAny _ X.A (do let _ <- comprehension (.ListComp elt [⟨.Name x px,iter,ifs,0⟩] scope pos) scope X.env _ (newList []) false (eval iter X.env) (some (assign (.Name y py) X.env))) _ _ s;refine wpAny_bind (wpAny_mono (comp_core (use:=some (assign (.Name y py) X.env)) (QV:=fun _ s'=>SP X pins D .next s') hc hp he ht hcell hnames hnd hsub (freeOk.get hhas) hlen (capsOk.get hlen hcaps) hclos hkind hx hs I h fun d H' s5 C J5 q hC fp=>?_)
  (fun _ s' hq=>wpAny_pure (wpAny_pure hq)) fun _ _ e=>e)
 obtain ⟨mC,nsC⟩:=hC;show wpAny _ X.A (assign (.Name y py) X.env (.ref d)) _ _ s5;refine wpAny_assign_Name ?_;refine store_ok2 J5 hN hi hy (v:=.ref d) rfl (fun s6 I6 keep6=>?_) hf;obtain ⟨a,sa,ha⟩:=keep6;have aC:a≠C:=by
  rcases ha with e | e
  ·rw [e];exact Ne.symm fp.2.1
  ·exact fp.2.2.2.2.1 y a e
 exact ⟨mC,nsC.sameBut sa (Ne.symm aC),fun h' hs'=>⟨_,H',I6.turned (h':=h') (t':=s6.toks) (it:=C) (fun b o hb e=>(hs'.2 b hb).trans e) fp.1 fp.2.1 fp.2.2.2.1 fp.2.2.2.2.1 fp.2.2.2.2.2,q⟩⟩
end
theorem lc_over {J:It} {H1:Hp} {tc:TT} {te:TE} {σ:St} {js:List Nat} {Q:VK} {d:Addr} (n:Nat) (g:Nat->Bool) (f:Nat->V) (hd:H1 d=none) (hn:n<=1000)
  (hgo:∀ i H,i < n->Same H1 H->J.go i H) (hst:∀ H,Same H1 H->J.stop n H) (vv:Nat->V) (hy:∀ i H v H',i < n->Same H1 H->J.yld i H v H'->H'=H/\v=vv i)
  (hs:∀ i H Qt,i < n->Same H1 H->(∀ H',Same H H'->Qt (g i) H')->tc (some (vv i) :: capv σ js) H Qt)
  (he:∀ i H Qe,i < n->g i=true->Same H1 H->(∀ H',Same H H'->Qe (f i) H')->te (some (vv i) :: capv σ js) H Qe)
  (hq:∀ H',Same H1 H'->H' d=some (.lst (((List.range n).filter g).map f))->Q (.ref d) H') :
  ∃ W:Nat->Nat->List V->Hp->Prop,(∃ m,W 0 m [] (upd H1 d (.lst [])))/\
   ∀ i m ys H2,W i m ys H2->H2 d=some (.lst ys)/\((J.stop i H2/\Q (.ref d) H2)\/(J.go i H2/\ys.length < sizeLine/\∀ v H3,J.yld i H2 v H3->
    tc (some v :: capv σ js) H3 fun b H4=>if b=true then te (some v :: capv σ js) H4 fun y H5=>H5 d=some (.lst ys)/\∃ m',m' < m/\W (i + 1) m' (ys ++ [y]) (upd H5 d (.lst (ys ++ [y])))
     else ∃ m',m' < m/\W (i + 1) m' ys H4)):=by
 have s0:∀ o,Same H1 (upd H1 d o):=fun o b u e=>by rw [Jb (J8 e hd)];exact e
 refine ⟨fun i m ys H=>m=n - i/\i<=n/\ys=((List.range i).filter g).map f/\Same H1 H/\H d=some (.lst ys),⟨n,rfl,Nat.zero_le _,rfl,s0 _,J2⟩,?_⟩;rintro i m ys H2 ⟨rfl,hi,rfl,sm,h2⟩;refine ⟨h2,?_⟩;by_cases hlt:i < n
 ·refine .inr ⟨hgo i H2 hlt sm,?_,fun v H3 y3=>?_⟩
  ·have h1:(((List.range i).filter g).map f).length<=i:=by
    rw [length_map];exact Nat.le_trans (List.length_filter_le _ _) (by rw [length_range];exact Nat.le_refl _)
   exact Jq (by omega)
  ·obtain ⟨rfl,rfl⟩:=hy i H2 v H3 hlt sm y3;refine hs i H3 _ hlt sm fun H4 s4=>?_
   cases hg:g i with
   | false =>
    rw [if_neg (by decide)];refine ⟨n - (i + 1),by omega,rfl,hlt,?_,sm.trans s4,s4 _ _ h2⟩;rw [List.range_succ,List.filter_append,map_append];simp [hg]
   | true =>
    rw [if_pos rfl];refine he i H4 _ hlt hg (sm.trans s4) fun H5 s5=>⟨s5 _ _ (s4 _ _ h2),n - (i + 1),by omega,rfl,hlt,?_,?_,J2⟩
    ·rw [List.range_succ,List.filter_append,map_append];simp [hg]
    ·intro b u e;rw [Jb (J8 e hd)];exact s5 _ _ (s4 _ _ (sm _ _ e))
 ·have e:i=n:=by omega
  subst e;exact .inl ⟨hst H2 sm,hq H2 sm h2⟩
theorem Same.tup {K:PySem.W.Frag} {H H':Hp} {a:Addr} {xs:List V} (e:Same H H') (h:SqT K H a xs):SqT K H' a xs:=by
 rcases h with (h | ⟨o,h⟩) | h
 ·exact .inl (.inl (e _ _ h))
 ·exact .inl (.inr ⟨o,e _ _ h⟩)
 ·exact .inr h
theorem pick_all {α:Type} (G:α->Bool) (F:α->V):∀ xs:List α,
  ((List.range xs.length).filter fun i=>match xs[i]? with | some v=>G v | none=>false).map (fun i=>match xs[i]? with | some v=>F v | none=>V.non)=(xs.filter G).map F
 | []=>rfl
 | a :: r=>by
  have ih:=pick_all G F r;rw [length_cons,List.range_succ_eq_map,filter_cons,List.filter_map,filter_cons];have e:(fun i=>match (a :: r)[i]? with | some v=>G v | none=>false) ∘ Nat.succ=fun i=>match r[i]? with | some v=>G v | none=>false:=by
   funext i;simp
  have e2:(fun i=>match (a :: r)[i]? with | some v=>F v | none=>V.non) ∘ Nat.succ=fun i=>match r[i]? with | some v=>F v | none=>V.non:=by
   funext i;simp
  rw [e]
  cases hg:G a with
  | true =>
   simp only [List.getElem?_cons_zero,hg,if_true,map_cons,map_map];rw [e2,ih]
  | false =>
   simp only [List.getElem?_cons_zero,hg,Bool.false_eq_true,if_false,map_map];rw [e2,ih]
section
variable {α:Type} {K:PySem.W.Frag} {a:Addr} {H1:Hp} {tc:TT} {te:TE} {σ:St} {js:List Nat} {Q:VK} {d:Addr}
theorem lc_seq {J:It} (e:α->V) (xs:List α) (G:α->Bool) (F:α->V) (hn:xs.length<=1000) (hd:H1 d=none)
  (hgo:∀ i H,i < xs.length->Same H1 H->J.go i H) (hst:∀ H,Same H1 H->J.stop xs.length H) (hy:∀ i H v H',i < xs.length->Same H1 H->J.yld i H v H'->H'=H/\(xs.map e)[i]?=some v)
  (hs:∀ v∈xs,∀ H Qt,Same H1 H->(∀ H',Same H H'->Qt (G v) H')->tc (some (e v) :: capv σ js) H Qt)
  (he:∀ v∈xs,∀ H Qe,G v=true->Same H1 H->(∀ H',Same H H'->Qe (F v) H')->te (some (e v) :: capv σ js) H Qe)
  (hq:∀ H',Same H1 H'->H' d=some (.lst ((xs.filter G).map F))->Q (.ref d) H'):LCW J tc te σ js Q H1 d:=by
 have at_:∀ i,i < xs.length->∃ v,xs[i]?=some v/\v∈xs:=fun i hi=>⟨_,List.getElem?_eq_getElem hi,List.getElem_mem hi⟩
 refine lc_over xs.length (fun i=>match xs[i]? with | some v=>G v | none=>false) (fun i=>match xs[i]? with | some v=>F v | none=>V.non) hd hn hgo hst (fun i=>((xs.map e)[i]?).getD .non)
  (fun i H v H' hi s y=>?_) (fun i H Qt hi s k=>?_) (fun i H Qe hi hg s k=>?_) (fun H' s h=>?_)
 ·obtain ⟨e1,e2⟩:=hy i H v H' hi s y;exact ⟨e1,by rw [e2];rfl⟩
 ·obtain ⟨v,e1,hv⟩:=at_ i hi
  rw [getElem?_map,e1];refine hs v hv H Qt s fun H' s'=>?_;have:=k H' s';rw [e1] at this;exact this
 ·obtain ⟨v,e1,hv⟩:=at_ i hi
  rw [e1] at hg;rw [getElem?_map,e1];refine he v hv H Qe hg s fun H' s'=>?_;have:=k H' s';rw [e1] at this;exact this
 ·rw [pick_all] at h;exact hq H' s h
theorem lc_tup (e:α->V) (xs:List α) (G:α->Bool) (F:α->V) (hx:SqT K H1 a (xs.map e)) (hn:xs.length<=1000) (hd:H1 d=none)
  (hs:∀ v∈xs,∀ H Qt,Same H1 H->(∀ H',Same H H'->Qt (G v) H')->tc (some (e v) :: capv σ js) H Qt)
  (he:∀ v∈xs,∀ H Qe,G v=true->Same H1 H->(∀ H',Same H H'->Qe (F v) H')->te (some (e v) :: capv σ js) H Qe)
  (hq:∀ H',Same H1 H'->H' d=some (.lst ((xs.filter G).map F))->Q (.ref d) H'):LCW (Itt K a) tc te σ js Q H1 d :=
 lc_seq e xs G F hn hd (fun i H hi s=>⟨_,_,s.tup hx,by rw [getElem?_map,List.getElem?_eq_getElem hi];rfl⟩) (fun H s=>⟨_,s.tup hx,by rw [length_map];exact Nat.le_refl _⟩)
  (fun i H v H' hi s y=>⟨y.1,y.2 _ (s.tup hx)⟩) hs he hq
theorem lc_lst (e:α->V) (xs:List α) (G:α->Bool) (F:α->V) (hx:SqL K H1 a (xs.map e)) (hn:xs.length<=1000) (hd:H1 d=none)
  (hs:∀ v∈xs,∀ H Qt,Same H1 H->(∀ H',Same H H'->Qt (G v) H')->tc (some (e v) :: capv σ js) H Qt)
  (he:∀ v∈xs,∀ H Qe,G v=true->Same H1 H->(∀ H',Same H H'->Qe (F v) H')->te (some (e v) :: capv σ js) H Qe)
  (hq:∀ H',Same H1 H'->H' d=some (.lst ((xs.filter G).map F))->Q (.ref d) H'):LCW (Itl K a) tc te σ js Q H1 d :=
 lc_seq e xs G F hn hd (fun i H hi s=>⟨_,_,s.seq hx,by rw [getElem?_map,List.getElem?_eq_getElem hi];rfl⟩) (fun H s=>⟨_,s.seq hx,by rw [length_map];exact Nat.le_refl _⟩)
  (fun i H v H' hi s y=>⟨y.1,y.2 _ (s.seq hx)⟩) hs he hq
theorem lc_rng (lo:Int) (n:Nat) (G:Nat->Bool) (F:Nat->V) (hn:n<=1000) (hd:H1 d=none)
  (hs:∀ i,i < n->∀ H Qt,Same H1 H->(∀ H',Same H H'->Qt (G i) H')->tc (some (.int (lo + i)) :: capv σ js) H Qt)
  (he:∀ i,i < n->∀ H Qe,G i=true->Same H1 H->(∀ H',Same H H'->Qe (F i) H')->te (some (.int (lo + i)) :: capv σ js) H Qe)
  (hq:∀ H',Same H1 H'->H' d=some (.lst (((List.range n).filter G).map F))->Q (.ref d) H'):LCW (Itr lo n) tc te σ js Q H1 d :=
 lc_over n G F hd hn (fun i H hi _=>hi) (fun H _=>Nat.le_refl _) (fun i=>.int (lo + i)) (fun i H v H' hi _ y=>y) (fun i H Qt hi s k=>hs i hi H Qt s k) (fun i H Qe hi hg s k=>he i hi H Qe hg s k) hq
end
theorem J2t {α:Type} (xs:List α):xs.filter (fun _=>true)=xs:=List.filter_eq_self.mpr fun _ _=>rfl
theorem J59 {X:Cx} {a b:Expr} {pos:Pos} {ta tb:TE} {r:R2} (hr:IxR X r) (ha:PE X a ta) (hb:PE X b tb) (hs:PlainIx b:=by intro _ _;rfl):PE X (.Subscript a b pos) (tOp r ta tb):=pe_ix hr ha hb hs
end L2
namespace L2
open PySem PySem.Spec PyProof.Rows
section
variable {X:Cx}
def rNeT (K:PySem.W.Frag):R2:=fun x y H Q=>∃ p q xs ys,x=.ref p/\y=.ref q/\SqT K H p xs/\SqT K H q ys/\Kin xs ys/\Q (.bl (!decide (xs=ys))) H
theorem tup_all {xs ys:List V} {its its2:List Value} (l1:xs.length=its.length) (l2:ys.length=its2.length) (hk:Kin xs ys) :
  ((List.range (min its.toArray.size its2.toArray.size)).all (eAt xs ys) && its.toArray.size == its2.toArray.size)=decide (xs=ys):=by
 rw [size_toArray,size_toArray,<- l1,<- l2];by_cases hl:xs.length=ys.length
 ·rw [hl,Nat.min_self,<- hl,all_eAt hl hk];simp
 ·rw [decide_eq_false (fun e=>hl (congrArg List.length e)),show (xs.length == ys.length)=false from by simpa using hl,Bool.and_false]
theorem op_neT (hu:X.A.units < cLine):OpR X (compareOp .NotEq) (rNeT X.K):=by
 intro pins s σ H x y v u Q I rx ry h;obtain ⟨p,q,xs,ys,rfl,rfl,hp,hq,hk,hQ⟩:=h;cases rx;cases ry;obtain ⟨its,r,pl,_⟩:=I.tuple hp;obtain ⟨its2,r2,pl2,_⟩:=I.tuple hq;refine SeqAt.RcNeAt.tuples (show s.heap.IsTuple p its.toArray from pl) (show s.heap.IsTuple q its2.toArray from pl2) hu (fun j h1 h2=>eAt_at r r2 hk j h1 h2) _ _ _ _ ?_;rw [tup_all r.length r2.length hk];exact ⟨.bl _,H,I,rfl,hQ⟩
def CBig (i j:Int):Prop:=i.natAbs < 2 ^ 4000/\j.natAbs < 2 ^ 4000
theorem bits_big {k:Int} (h:k.natAbs < 2 ^ 4000):Builtin.Int.intBits k<=2 ^ 20:=by
 unfold Builtin.Int.intBits;split
 ·exact Nat.zero_le _
 ·have:k.natAbs.log2 < 4000:=by
   rcases Nat.eq_zero_or_pos k.natAbs with h0 | hp
   ·rw [h0];decide
   ·exact (Nat.log2_lt (Nat.ne_of_gt hp)).mpr h
  have h2:(4001:Nat)<=2 ^ 20:=by decide
  lia
theorem op_mulB:OpR X (binaryOp .Mult) (rI CBig fun i j=>.int (i * j)):=opI fun _ _ _ _ _ _ _ hc q=>mul_int q (.of_bits (bits_big hc.1) (bits_big hc.2))
def CDivB (i j:Int):Prop:=0 < j/\j.natAbs < 2 ^ 4000
theorem op_fdivB:OpR X (binaryOp .FloorDiv) (rI CDivB fun i j=>.int (i / j)):=opI fun i j _ _ _ _ _ hc q=>by
 have h1:(0:Int) < j:=hc.1;have h2:=hc.2;refine floordiv_int (by lia) (by rw [Int.fdiv_eq_ediv_of_nonneg i (by lia)];exact q) (.inl (PyProof.noPylong_of_log2 ?_));have h0:j.natAbs≠0:=by lia
 have:=(Nat.log2_lt h0).mpr h2;lia
def rIndexL (K:PySem.W.Frag):V->List V->Hp->VK->Prop:=fun x vs H Q=>∃ (l:Addr) (ns:List Int) (k:Int),x=.ref l/\vs=[.int k]/\SqL K H l (ns.map V.int)/\k∈ns/\Q (.int (ns.idxOf k:Nat)) H
theorem mt_indexL:MtM X "list.index" (rIndexL X.K):=by
 intro pins s σ H x vs v us Q I rx rv h;obtain ⟨l,ns,k,rfl,rfl,hH,hk,q⟩:=h;cases rx;obtain ⟨u1,rfl,⟨t,rfl⟩⟩:=rv.one;obtain ⟨its,r',pl,hz⟩:=I.list hH;have hi:=J1i r';have hlen:=hi.length;obtain ⟨⟨cls,dd,data,sl⟩,ho,hc,n,hd⟩:=id pl.isList;simp only at hc hd;subst hc hd;have hj:ns.idxOf k < ns.length:=idxOf_lt_length_iff.mpr hk;have h63:=line63;rw [length_map] at hz;refine call_meets PySem.F.slot_list_index ⟨_,ho,rfl⟩ PySem.F.entry_list_index (PySem.F.args_list_index_2 _ _)
  (SeqAt.list_indexAt l its.toArray n dd sl (.int k t) (isInt k) (ns.idxOf k) (by simpa [hlen] using hj) (by lia) ?_ ?_) ⟨ho,fun y hy=>(eq_isInt k t hi y (by simpa using hy)).at _ _,⟨.int _,H,I.tok _,⟨_,rfl⟩,q⟩⟩
 ·show isInt k its[ns.idxOf k]=true;rw [isInt_at k hi _ (by lia) hj];simpa using getElem_idxOf hj
 ·intro j hjs hlt;show isInt k its[j]=false;rw [isInt_at k hi j (by simpa using hjs) (by lia)];exact ne_of_lt_idxOf hlt _
end
def HasM (P:Program) (w:World) (K:PySem.W.Frag) (mg:Str->Option Value) (base:Heap) (CX:CXT) (k:Nat) (m:Str) (ps:List Str) (sp:Sp) (C:Addr):Prop :=
 ∃ f fd,Cls K C/\Meth K C m f/\FnOk P w K mg base CX k f fd ps sp/\Binds K fd ps []
def tMethD {ι:Type} (m:Str) (cls:ι->Addr) (sp:ι->Sp) (E:XK) (ta:TE) (t:TA):TE:=fun σ H Q=>ta σ H fun x H1=>∃ a k dx fs,x=.ref a/\H1 a=some (.ins (cls k) dx fs)/\fs.lookup m=none/\
 t σ H1 fun vs H2=>sp k (x :: vs) H2 Q E
section
variable {X:Cx} {CX:CXT} {k:Nat} {f:Addr} {fd:FuncData} {ps:List Str} {ι:Type} {cls:ι->Addr} {sp:ι->Sp} {spB:Sp} {dvs:List V} {ds:List Value} {E:XK} {x m b:Str} {p pos apos:Pos} {e o:Expr} {es:List Expr} {ta:TE} {t:TA} {B:Addr} {mc:Value}
theorem J4k {pl:Sem Bool} (he:PE X o ta) (hM:∀ i,HasM X.prog X.w X.K X.mg X.base CX k m ps (sp i) (cls i)) (hr:Room k X.A) (hx:J3u CX X E) (ha:PA X (e :: es) t)
  (hst:starEach (e :: es) X.env=(false,eval e X.env) :: starEach es X.env:=by rfl) (hpl:(backTo pos (starEach es X.env)).any (·.1)=false:=by rfl)
  (ht:eval (.Call (.Attribute o m apos) (e :: es) [] pos) X.env=(do
   let ov <- eval o X.env
   standAt apos.atName
   let (f,first) <- holding [ov] (getMethod ov m pl)
   callWith pos f first (backTo pos (starEach (e :: es) X.env)) (backToKw pos (keywordEach [] X.env))):=by rfl) :
  PE X (.Call (.Attribute o m apos) (e :: es) [] pos) (tMethD m cls sp E ta t):=by
 intro pins s σ H Q I h;refine methodCall_KW (pl:=pl) (thn (he pins s σ H _ I h) fun u s1 ⟨x,H1,I1,rx,a,i,dx,fs,ex,ea,l,q⟩=>?_) ht;subst ex;obtain rfl:u=Value.ref a:=rx;obtain ⟨f,fd,c,hm,F,hb⟩:=hM i;refine J5g I1 ea c hm l ?_;refine callWith_K (first:=[.ref a]) (h₀:=X.base) I.ok.mod.kin hm.kp (thn (ha pos pins s1 σ H1 _ I1 q) fun us s2 ⟨vs,H2,I2,r,q2⟩=>⟨I2.kIn,?_⟩) hst hpl;exact run_fn (us:=.ref a :: us) (vs:=.ref a :: vs) (dvs:=[]) F hr hb .nil hx I2 (.cons rfl r) (by rw [append_nil];exact q2)
theorem pe_methD0 {pl:Sem Bool} (he:PE X o ta) (hM:∀ i,HasM X.prog X.w X.K X.mg X.base CX k m ps (sp i) (cls i)) (hr:Room k X.A) (hx:J3u CX X E)
  (ht:eval (.Call (.Attribute o m apos) [] [] pos) X.env=(do
   let ov <- eval o X.env
   standAt apos.atName
   let (f,first) <- holding [ov] (getMethod ov m pl)
   callWith pos f first (backTo pos (starEach [] X.env)) (backToKw pos (keywordEach [] X.env))):=by rfl) :
  PE X (.Call (.Attribute o m apos) [] [] pos) (tMethD m cls sp E ta tNil):=by
 intro pins s σ H Q I h;refine methodCall_KW (pl:=pl) (thn (he pins s σ H _ I h) fun u s1 ⟨x,H1,I1,rx,a,i,dx,fs,ex,ea,l,q⟩=>?_) ht;subst ex;obtain rfl:u=Value.ref a:=rx;obtain ⟨f,fd,c,hm,F,hb⟩:=hM i;refine J5g I1 ea c hm l ?_;exact PySem.W.callWith_K0 (first:=[.ref a]) I1.kIn hm.kp (run_fn (us:=[.ref a]) (vs:=[.ref a]) (dvs:=[]) F hr hb .nil hx I1 (.cons rfl .nil) q)
structure BaseM (K:PySem.W.Frag) (B:Addr) (m:Str) (f:Addr):Prop where
 sp:specialIn K (.ref B) "__getattribute__"=some (some (.builtin "type.__getattribute__"))
 rd:readsIn K B (.type "type")=true
 fd:findCls K (.ref B) (.type "type") m=some (.val (.ref f))
 kp:keepIn K (.ref f)=true
theorem J3x {pl:Sem Bool} (M:BaseM X.K B m f) (hgB:Gl X b) (hmB:X.mg b=some (.ref B)) (F:FnOk X.prog X.w X.K X.mg X.base CX k f fd ps spB) (hr:Room k X.A) (hb:Binds X.K fd ps ds) (hd:Vals dvs ds) (hx:J3u CX X E) (ha:PA X (e :: es) t)
  (hdb:(b == ("__debug__":Str))=false:=by decide)
  (hst:starEach (e :: es) X.env=(false,eval e X.env) :: starEach es X.env:=by rfl) (hpl:(backTo pos (starEach es X.env)).any (·.1)=false:=by rfl)
  (ht:eval (.Call (.Attribute (.Name b p) m apos) (e :: es) [] pos) X.env=(do
   let ov <- eval (.Name b p) X.env
   standAt apos.atName
   let (f,first) <- holding [ov] (getMethod ov m pl)
   callWith pos f first (backTo pos (starEach (e :: es) X.env)) (backToKw pos (keywordEach [] X.env))):=by rfl) :
  PE X (.Call (.Attribute (.Name b p) m apos) (e :: es) [] pos) (tCall spB dvs E t):=by
 intro pins s σ H Q I h;refine methodCall_KW (pl:=pl) (J3l I hgB hmB ?_ hdb) ht;refine PySem.W.method_cls I.kIn M.sp (PySem.W.cls_value I.kIn M.rd M.fd rfl ?_);have I1:=I.tok (s.toks + 1);refine callWith_K (first:=[]) (h₀:=X.base) I.ok.mod.kin M.kp (thn (ha pos pins _ σ H _ I1 h) fun us s2 ⟨vs,H2,I2,r,q2⟩=>⟨I2.kIn,?_⟩) hst hpl;exact run_fn (us:=us) (vs:=vs) F hr hb hd hx I2 r q2
end
def Its (lo c:Int) (n:Nat):It:=⟨fun i _=>i < n,fun i H x H'=>H'=H/\x=.int (lo + (i:Nat) * c),fun i _=>n<=i⟩
theorem turn_steps {P:Program} {w:World} {K:PySem.W.Frag} {tg:Expr} (nu:Addr) (lo c:Int) (n:Nat):Turn P w K tg (Its lo c n) [nu] nu (fun i h=>IsRangeIter h nu (lo + (i:Nat) * c) ((n:Int) - (i:Nat)) c) where
 mem:=by simp
 obj:=fun i h st b hb=>by
  obtain rfl:b=nu:=by simpa using hb
  exact ⟨_,st,fun v z=>by
   have q:Data.fields _=Data.cell v:=z;cases q⟩
 keep:=fun i h h' st k=>k nu (by simp) _ st
 item:=by
  intro X hP hw hK hc i pins s σ H E I hf st hg;subst hP hw hK;obtain ⟨f0,f1,f2,f3,f4,f5⟩:=hf nu (by simp);refine (Walks.range (prog:=X.prog) (w:=X.w) (I.ok.hd hc) nu lo c n).item i s _ _ hg st fun v h' tk hv st' kk=>?_;obtain ⟨t,rfl⟩:=hv;have J:Inv X pins σ H { s with heap:=h',toks:=tk }:=I.turned (fun b o hb e=>kk b o (by simpa using hb) e) f0 f1 f3 f4 f5;exact ⟨_,rfl,go_of (s:={ s with heap:=h',toks:=tk }) (n:="range_iterator") st' rfl rfl (by decide) ⟨.int (lo + (i:Nat) * c),H,J,⟨t,rfl⟩,⟨rfl,rfl⟩,st',fun b hb=>(hf b hb).1⟩⟩
 done:=by
  intro X hP hw hK hc i pins s σ H E I hf st hg;subst hP hw hK;obtain ⟨f0,f1,f2,f3,f4,f5⟩:=hf nu (by simp);have hg:n<=i:=hg;exact wpAny_pyNext_range_end (I.ok.hd hc) st (by lia) fun h' eb=>⟨rfl,I.turned (t':=s.toks) (fun b o hb e=>eb b o hb e) f0 f1 f3 f4 f5⟩
 self:=fun _ _ _ _ _ st h=>wpAny_pyIter_rangeiter st h
theorem J2m {c:Int} (hc:0 < c) (a b:Int):Builtin.Range.rangeSize a b c=if a < b then (b - a - 1) / c + 1 else 0:=by
 unfold Builtin.Range.rangeSize;rw [if_pos (show c > 0 from hc)]
theorem steps_small {a b c:Int} (ha:0<=a) (ha':a<=1000) (hb:-1<=b) (hb':b<=1000) (hc:0 < c) (hc':c<=1000):Builtin.Range.small a b c=true:=by
 unfold Builtin.Range.small;rw [J2m hc];have h1:0<=(if a < b then (b - a - 1) / c + 1 else 0)/\(if a < b then (b - a - 1) / c + 1 else 0)<=1001:=by
  split
  ·have h0:0<=(b - a - 1) / c:=Int.ediv_nonneg (by lia) (by lia);have h2:(b - a - 1) / c<=b - a - 1:=Int.ediv_le_self _ (by lia);lia
  ·lia
 generalize (if a < b then (b - a - 1) / c + 1 else 0)=n at *;have h3:n * c<=1001 * 1000:=Int.mul_le_mul h1.2 hc' (by lia) (by decide);have h4:0<=n * c:=Int.mul_nonneg h1.1 (by lia);simp only [Builtin.Range.rangeFitsLong,Bool.and_eq_true,Bool.or_eq_true,decide_eq_true_eq,beq_iff_eq,show c > 0 from hc,if_true];refine ⟨?_,?_⟩ <;> lia
def iSteps (ta:TA):TI:=fun σ H R=>ta σ H fun vs H1=>∃ a b c:Int,vs=[.int a,.int b,.int c]/\(0<=a/\a<=1000/\-1<=b/\b<=1000/\0 < c/\c<=1000)/\R (Its a c (Builtin.Range.rangeSize a b c).toNat) H1
section
variable {X:Cx} {tg:Expr}
theorem pi_steps {a b c:Expr} {ta:TA} {p pos:Pos} (hg:Gl X "range") (hm:X.mg "range"=none) (ha:PA X [a,b,c] ta) (hs:starEach [a,b,c] X.env=[(false,eval a X.env),(false,eval b X.env),(false,eval c X.env)]:=by rfl) (hs2:starEach [b,c] X.env=[(false,eval b X.env),(false,eval c X.env)]:=by rfl) :
  PI X tg (.Call (.Name "range" p) [a,b,c] [] pos) (iSteps ta):=by
 intro pins s σ H R I h;refine Call_ (J6c I hg hm boot_range (callWith_type1 (thn (ha pos pins s σ H _ I h) fun us s1 ⟨vs,H1,I1,r1,q1⟩=>?_) (by rw [hs,hs2]) (by rw [hs2];rfl)));obtain ⟨i,j,c,e,⟨q1,q2,q3,q4,q5,q6⟩,q⟩:=q1;subst e
 cases r1 with
 | cons r rr =>
  cases rr with
  | cons r' rr =>
   cases rr with
   | cons r'' rr =>
    cases rr;obtain ⟨t,rfl⟩:=r;obtain ⟨t',rfl⟩:=r';obtain ⟨t'',rfl⟩:=r'';refine call_range_3 (by lia) ?_ (Or.inl (PyProof.noPylong_small (by lia)));have I2:Inv X pins σ H1 { s1 with heap:=s1.heap.push { cls:=.type "range",data:=.fields #[.int i t,.int j t',.int c t''] },toks:=s1.toks }:=I1.kept fun b o e=>get?_push_of_some _ e;refine wpAny_pyIter_range (IsRange.new ..) (steps_small q1 q2 q3 q4 q5 q6) ?_;refine ⟨(s1.heap.push { cls:=.type "range",data:=.fields #[.int i t,.int j t',.int c t''] }).objs.size,[(s1.heap.push { cls:=.type "range",data:=.fields #[.int i t,.int j t',.int c t''] }).objs.size],_,_,H1,rfl,
     I2.kept (t':=s1.toks) fun b o e=>get?_push_of_some _ e,turn_steps _ i c (Builtin.Range.rangeSize i j c).toNat,?_,fun b hb=>?_,q⟩
    ·have e1:i + ((0:Nat):Int) * c=i:=by simp
     have e2:(((Builtin.Range.rangeSize i j c).toNat:Nat):Int) - ((0:Nat):Int)=Builtin.Range.rangeSize i j c:=by
      have:0<=Builtin.Range.rangeSize i j c:=by
       rw [J2m q5];split
       ·have:=Int.ediv_nonneg (show 0<=j - i - 1 by lia) (show 0<=c by lia);lia
       ·lia
      lia
     show IsRangeIter _ _ (i + ((0:Nat):Int) * c) ((((Builtin.Range.rangeSize i j c).toNat:Nat):Int) - ((0:Nat):Int)) c;rw [e1,e2];exact get?_push_size _ rfl
    ·obtain rfl:b=(s1.heap.push { cls:=.type "range",data:=.fields #[.int i t,.int j t',.int c t''] }).objs.size:=by simpa using hb
     exact I2.fpOk (Nat.le_refl _) (I2.hok.fresh (Nat.le_refl _))
end
theorem lc_stp {H1:Hp} {tc:TT} {te:TE} {σ:St} {js:List Nat} {Q:VK} {d:Addr} (lo c:Int) (n:Nat) (F:Nat->V) (hn:n<=1000) (hd:H1 d=none)
  (hs:∀ i,i < n->∀ H Qt,Same H1 H->(∀ H',Same H H'->Qt true H')->tc (some (.int (lo + (i:Nat) * c)) :: capv σ js) H Qt)
  (he:∀ i,i < n->∀ H Qe,Same H1 H->(∀ H',Same H H'->Qe (F i) H')->te (some (.int (lo + (i:Nat) * c)) :: capv σ js) H Qe)
  (hq:∀ H',Same H1 H'->H' d=some (.lst ((List.range n).map F))->Q (.ref d) H'):LCW (Its lo c n) tc te σ js Q H1 d :=
 lc_over n (fun _=>true) F hd hn (fun i H hi _=>hi) (fun H _=>Nat.le_refl _) (fun i=>.int (lo + (i:Nat) * c)) (fun i H v H' hi _ y=>y) (fun i H Qt hi s k=>hs i hi H Qt s k) (fun i H Qe hi _ s k=>he i hi H Qe s k)
  (fun H' s h=>hq H' s (by rw [J2t] at h;exact h))
theorem steps_lt {a b c:Int} (hc:0 < c) {i:Nat} (h:i < (Builtin.Range.rangeSize a b c).toNat):a + (i:Int) * c < b:=by
 rw [J2m hc] at h;split at h
 ·have h1:(i:Int)<=(b - a - 1) / c:=by lia
  have h2:=Int.mul_le_of_le_ediv hc h1;lia
 ·simp at h
theorem steps_few {a b c:Int} (hc:0 < c):(Builtin.Range.rangeSize a b c).toNat<=(b - a).toNat:=by
 rw [J2m hc];split
 ·have h0:0<=(b - a - 1) / c:=Int.ediv_nonneg (by lia) (by lia);have h2:(b - a - 1) / c<=b - a - 1:=Int.ediv_le_self _ (by lia);lia
 ·simp
end L2
namespace L2
open PySem PySem.Spec PyProof.Rows
theorem J3q {M:Model} {A:Around} {E:Value->Shared->Prop} {s:Shared} {β:Type} (k:Nat) (f:Nat->β->Sem (ForInStep β)) (I:Nat->β->Shared->Prop) (Q:β->Shared->Prop)
  (turn:∀ i b s,i < k->I i b s->wpAny M A (f i b) (fun r s'=>match r with | .yield b'=>I (i + 1) b' s' | .done b'=>Q b' s') E s)
  (fin:∀ b s,I k b s->Q b s) (b:β) (h:I 0 b s):wpAny M A (forIn ([0:k]:Std.Legacy.Range) b f) Q E s:=by
 rw [Std.Legacy.Range.forIn_eq_forIn_range'];simp only [Std.Legacy.Range.size,Nat.sub_zero,Nat.add_sub_cancel,Nat.div_one];refine wpAny_forIn_list _ (fun rest b s'=>∃ i,rest=List.range' i (k - i)/\i<=k/\I i b s') _ ?_ ?_ _ _ ⟨0,by simp,Nat.zero_le _,h⟩
 ·rintro x rest b s' ⟨i,hr,hi,hI⟩;have hlt:i < k:=by
   rcases Nat.lt_or_ge i k with q | q
   ·exact q
   ·rw [Nat.sub_eq_zero_of_le q] at hr;simp at hr
  obtain ⟨rfl,hrest⟩:x=i/\rest=List.range' (i + 1) (k - (i + 1)):=by
   have e:k - i=(k - (i + 1)) + 1:=by omega
   rw [e,List.range'_succ] at hr;injection hr with h1 h2
   exact ⟨h1,h2⟩
  refine wpAny_mono (turn x b s' hlt hI) (fun r s2 hr2=>?_) fun _ _ z=>z
  cases r with
  | done b'=>exact hr2
  | yield b'=>exact ⟨x + 1,hrest,hlt,hr2⟩
 ·rintro b s' ⟨i,hr,hi,hI⟩;have:i=k:=by
   have:=congrArg List.length hr;simp at this;omega
  subst this;exact fin b s' hI
theorem J4x (l:Addr) (items:Array Value) (n:Nat) (dd:Option Addr) (sl:Array (Option Value)) (x:Value) (e:Value->Bool) (j:Nat) (hj:j < items.size)
  (hit:e items[j]=true) (hno:∀ m (hm:m < items.size),m < j->e items[m]=false) :
  Meets (Builtin.«tuple.index» ⟨[.ref l,x],[]⟩)
   (fun A R s=>s.heap.get? l=some { cls:=.type "tuple",dict:=dd,data:=.seq items n,slots:=sl }/\(∀ y,y∈items->SeqAt.EqAt A.in1 s y x (e y))/\R (.ok (.ret (.int j s.toks))) { s with toks:=s.toks + 1 }) :=
 .of_wp fun prog w A R s h=>by
  obtain ⟨hp,g,d,tk,os⟩:=s;obtain ⟨hl,he,h⟩:=h
  wp_walk using AutoSeq1.wpAny_loadPart' hl,J3q _ _ (fun i b s'=>b=(none,())/\s'=⟨hp,g,d,tk,os⟩/\i<=j) _
  case turn =>
   rintro i b s' hi ⟨rfl,rfl,hij⟩;have hi':i < items.size:=by simpa using hi
   dsimp only;rw [Array.getElem?_eq_getElem hi'];refine wpAny_bind (he _ (Array.getElem_mem hi') prog w _ _ ?_);rcases Nat.lt_or_ge i j with q | q
   ·rw [hno i hi' q]
    wp_walk
    exact ⟨rfl,rfl,q⟩
   ·have:i=j:=by omega
    subst this;rw [hit]
    wp_walk
    exact ⟨_,rfl,h⟩
  case fin =>
   rintro b s' ⟨rfl,rfl,hij⟩;exfalso;simp at hij;omega
  case h=>exact ⟨rfl,rfl,Nat.zero_le _⟩
def rIndexT:V->List V->Hp->VK->Prop:=fun x vs H Q=>∃ (l:Addr) (ns:List Int) (k:Int),x=.ref l/\vs=[.int k]/\H l=some (.tup (ns.map V.int))/\k∈ns/\Q (.int (ns.idxOf k:Nat)) H
theorem mt_indexT {X:Cx}:MtM X "tuple.index" rIndexT:=by
 intro pins s σ H x vs v us Q I rx rv h;obtain ⟨l,ns,k,rfl,rfl,hH,hk,q⟩:=h;cases rx;obtain ⟨u1,rfl,⟨t,rfl⟩⟩:=rv.one;obtain ⟨its,r',pl,hz⟩:=I.tuple (SqT.of hH);have hi:=J1i r';have hlen:=hi.length;obtain ⟨⟨cls,dd,data,sl⟩,ho,hc,n,hd⟩:=id pl;simp only at hc hd;subst hc hd;have hj:ns.idxOf k < ns.length:=idxOf_lt_length_iff.mpr hk;refine call_meets PySem.F.slot_tuple_index ⟨_,ho,rfl⟩ PySem.F.entry_tuple_index (PySem.F.args_tuple_index_2 _ _)
  (J4x l its.toArray n dd sl (.int k t) (isInt k) (ns.idxOf k) (by simpa [hlen] using hj) ?_ ?_) ⟨ho,fun y hy=>(eq_isInt k t hi y (by simpa using hy)).at _ _,⟨.int _,H,I.tok _,⟨_,rfl⟩,q⟩⟩
 ·show isInt k its[ns.idxOf k]=true;rw [isInt_at k hi _ (by omega) hj];simpa using getElem_idxOf hj
 ·intro j hjs hlt;show isInt k its[j]=false;rw [isInt_at k hi j (by simpa using hjs) (by omega)];exact ne_of_lt_idxOf hlt _
def tBMT (r:V->List V->Hp->VK->Prop) (to:TE) (t:TA):TE:=fun σ H Q=>to σ H fun x H1=>(∃ p xs,x=.ref p/\H1 p=some (.tup xs))/\t σ H1 fun xs H2=>r x xs H2 Q
theorem pe_bmT {X:Cx} {o e:Expr} {es:List Expr} {to:TE} {t:TA} {name:Str} {apos cpos:Pos} {id:String} {r:V->List V->Hp->VK->Prop} (slot:Slot "tuple" name id) (hty:typeOf (.builtin id)=pure (.type "method_descriptor")) (hm:MtR X id r) (ho:PE X o to) (ha:PA X (e :: es) t)
  (hbase:attributeBase o name X.env (eval o X.env)=eval o X.env:=by rfl)
  (hfew:((backTo cpos (starEach (e :: es) X.env)).all (fun x=>!x.1) && (backToKw cpos (keywordEach [] X.env)).all (fun x=>x.1.isSome)
   && decide ((e :: es).length + ([]:List Keyword).length + (if ([]:List Keyword).isEmpty then 0 else 1) < 30))=true:=by rfl)
  (hline:(apos.endLine == cpos.line)=true:=by rfl) (hs:starEach (e :: es) X.env=(false,eval e X.env) :: starEach es X.env:=by rfl) (hplain:(backTo cpos (starEach es X.env)).any (·.1)=false:=by rfl) :
  PE X (.Call (.Attribute o name apos) (e :: es) [] cpos) (tBMT r to t):=by
 intro pins s σ H Q I h;refine wpAny_Call_method_late hbase hfew hline rfl (thn (ho pins s σ H _ I h) fun v s1 ⟨x,H1,I1,r1,ty,q1⟩=>?_);obtain ⟨p,xs,rfl,hp⟩:=ty;obtain rfl:v=Value.ref p:=r1;obtain ⟨_,its,_,o,e1,⟨c1,c2⟩,_⟩:=(show ObjOk X.prog X.w H1 s1.heap p (.tup xs) from I1.hok p _ hp);refine ⟨"tuple",id,PySem.F.plainAttrs_tuple,slot,hty,⟨o,e1,c1⟩,fun a e2=>by cases e2;exact ⟨o,e1,c2⟩,?_⟩;have hA:=ha cpos pins s1 σ H1 _ I1 q1;rw [hs] at hA ⊢;refine Calls.callWith_builtin (by show (false || (backTo cpos (starEach es X.env)).any (·.1))=false;rw [hplain] <;> rfl) (Calls.evalArgs_plain ?_);exact thn hA fun us s2 ⟨vs,H2,I2,r2,q2⟩=>hm pins s2 σ H2 (.ref p) vs (.ref p) us Q I2 rfl r2 q2
section
variable {X:Cx}
theorem ix_listK (K:PySem.W.Frag) (h:X.K=K:=by rfl):IxR X (rIxL K):=by subst h;exact J2s
theorem J40 (K:PySem.W.Frag) (h:X.K=K:=by rfl):IxR X (rIxT K):=by subst h;exact Js
theorem J5b {e:Expr} {f:Str} {pos:Pos} {ta:TE} (K:PySem.W.Frag) (he:PE X e ta) (h:X.K=K:=by rfl) (hb:attributeBase e f X.env (eval e X.env)=eval e X.env:=by rfl):PE X (.Attribute e f pos) (tFld K ta f):=by subst h;exact Ja he hb
theorem call_sumK (K:PySem.W.Frag) (hc:X.calm=true:=by rfl) (h:X.K=K:=by rfl):CallR X (.builtin "sum") (fun xs H Q=>∃ (p:Addr) (ns:List Int),xs=[.ref p]/\SqI K H p (ns.map V.int)/\Q (.int ns.sum) H):=by subst h;exact Jx hc
theorem J5m (K:PySem.W.Frag) (h:X.K=K:=by rfl):CallR X (.builtin "len") (fun xs H Q=>∃ p ys,xs=[.ref p]/\(SqL K H p ys\/SqT K H p ys)/\Q (.int ys.length) H):=by subst h;exact Jf
end
end L2
namespace L2
open PySem PySem.Spec PyProof.Rows
end L2
namespace L2
open PySem PySem.Spec PyProof.Rows
structure Refs (Pr:Addr->Nat->Prop) (xs:List V) (n:Nat):Prop where
 len:xs.length=n
 at_:∀ i,i < n->∃ q,xs[i]?=some (.ref q)/\Pr q i
theorem Refs.nil {Pr:Addr->Nat->Prop}:Refs Pr [] 0:=⟨rfl,fun i h=>absurd h (Nat.not_lt_zero _)⟩
theorem Refs.snoc {Pr:Addr->Nat->Prop} {xs:List V} {n:Nat} {q:Addr} (h:Refs Pr xs n) (hq:Pr q n):Refs Pr (xs ++ [.ref q]) (n + 1):=by
 refine ⟨by rw [length_append,h.len];rfl,fun i hi=>?_⟩;by_cases c:i < n
 ·obtain ⟨p,e,hp⟩:=h.at_ i c;exact ⟨p,by rw [getElem?_append_left (by rw [h.len];exact c)];exact e,hp⟩
 ·have e:i=n:=by lia
  subst e;refine ⟨q,?_,hq⟩;rw [getElem?_append_right (by rw [h.len];exact Nat.le_refl _),h.len,Nat.sub_self];rfl
theorem Refs.mono {Pr Pr':Addr->Nat->Prop} {xs:List V} {n:Nat} (h:Refs Pr xs n) (m:∀ q i,i < n->Pr q i->Pr' q i):Refs Pr' xs n :=
 ⟨h.len,fun i hi=>let ⟨q,e,p⟩:=h.at_ i hi;⟨q,e,m q i hi p⟩⟩
def KeepD (d:Addr) (H H':Hp):Prop:=∀ b o,H b=some o->b≠d->H' b=some o
end L2
namespace Rl
def cellN (ns:List Int) (k:Nat):Int:=ns.getD k 0
theorem sum_le {b:Int}:∀ (xs:List Int),(∀ a∈xs,a<=b)->xs.sum<=(xs.length:Int) * b
 | [],_=>by simp
 | x :: xs,h=>by
  have h1:=h x mem_cons_self;have h2:=sum_le xs fun a ha=>h a (mem_cons_of_mem _ ha);rw [sum_cons,length_cons];have e:(((xs.length + 1:Nat):Int)) * b=(xs.length:Int) * b + b:=by
   rw [Int.natCast_add,Int.add_mul];simp
  lia
def sumsF (ls:List Int) (os:List Nat):Nat->List Int × Int
 | 0=>(List.replicate ls.length 0,0)
 | i + 1=>((sumsF ls os i).1.set (os.getD i 0) (sumsF ls os i).2,(sumsF ls os i).2 + ls.getD (os.getD i 0) 0)
theorem J36 (ls:List Int) (os:List Nat):∀ i,(sumsF ls os i).1.length=ls.length
 | 0=>by simp [sumsF]
 | i + 1=>by
  show ((sumsF ls os i).1.set _ _).length=_;rw [length_set];exact J36 ls os i
def firsts (ls:List Int) (os:List Nat):List Int:=(sumsF ls os os.length).1
theorem J1w (ls:List Int) (os:List Nat):(firsts ls os).length=ls.length:=J36 ls os _
theorem J3v:∀ {xs ys:List Int},xs.Perm ys->xs.Pairwise (·<=·)->ys.Pairwise (·<=·)->xs=ys
 | [],ys,h,_,_=>(List.Perm.nil_eq h)
 | x :: xs,[],h,_,_=>absurd h.length_eq (by simp)
 | x :: xs,y :: ys,h,hx,hy=>by
  have hx':=pairwise_cons.mp hx;have hy':=pairwise_cons.mp hy;have m1:x∈y :: ys:=h.mem_iff.mp mem_cons_self;have m2:y∈x :: xs:=h.mem_iff.mpr mem_cons_self;have e:x=y:=by
   rcases mem_cons.mp m1 with e | m1
   ·exact e
   ·rcases mem_cons.mp m2 with e | m2
    ·exact e.symm
    ·have a:=hx'.1 y m2;have b:=hy'.1 x m1;lia
  subst e;rw [J3v h.cons_inv hx'.2 hy'.2]
def natI (os:List Nat):List Int:=os.map fun (n:Nat)=>(n:Int)
theorem J62 (n:Nat):(natI (List.range n)).Pairwise (·<=·):=by
 unfold natI;rw [pairwise_map];exact List.pairwise_lt_range.imp fun h=>by lia
theorem J5t {os:List Nat} {n:Nat} {ns':List Int} (hp:os.Perm (List.range n)) (h1:ns'.Perm (natI os)) (h2:ns'.Pairwise (·<=·)):ns'=natI (List.range n) :=
 J3v (h1.trans (hp.map _)) h2 (J62 n)
end Rl
namespace Rl
def Jo (ls:List Int) (os:List Nat) (i:Nat):Int:=(sumsF ls os i).2
theorem J11 (ls:List Int) (os:List Nat):Jo ls os 0=0:=rfl
theorem J18 (ls:List Int) (os:List Nat) (i:Nat):Jo ls os (i + 1)=Jo ls os i + ls.getD (os.getD i 0) 0:=rfl
structure Ord (ls:List Int) (os:List Nat):Prop where
 pos:∀ a∈ls,1<=a
 perm:os.Perm (List.range ls.length)
theorem Ord.range {ls:List Int} {os:List Nat} (h:Ord ls os):Ord ls (List.range ls.length):=⟨h.pos,List.Perm.refl _⟩
theorem Ord.len {ls:List Int} {os:List Nat} (h:Ord ls os):os.length=ls.length:=by rw [h.perm.length_eq,length_range]
theorem Ord.nodup {ls:List Int} {os:List Nat} (h:Ord ls os):os.Nodup:=h.perm.nodup_iff.mpr List.nodup_range
theorem J4r {os:List Nat} {i:Nat} (h:i < os.length):os.getD i 0∈os:=by
 rw [getD_eq_getElem?_getD,List.getElem?_eq_getElem h];exact List.getElem_mem h
theorem getD_memI {ls:List Int} {i:Nat} (h:i < ls.length):ls.getD i 0∈ls:=by
 rw [getD_eq_getElem?_getD,List.getElem?_eq_getElem h];exact List.getElem_mem h
theorem Ord.lt {ls:List Int} {os:List Nat} (h:Ord ls os) {i:Nat} (hi:i < ls.length):os.getD i 0 < ls.length :=
 mem_range.mp (h.perm.mem_iff.mp (J4r (by rw [h.len];exact hi)))
theorem Ord.one {ls:List Int} {os:List Nat} (h:Ord ls os) {j:Nat} (hj:j < ls.length):1<=ls.getD j 0:=h.pos _ (getD_memI hj)
theorem Ord.inj {ls:List Int} {os:List Nat} (h:Ord ls os) {i j:Nat} (hi:i < ls.length) (hj:j < ls.length) (e:os.getD i 0=os.getD j 0):i=j:=by
 rw [getD_eq_getElem?_getD,getD_eq_getElem?_getD,List.getElem?_eq_getElem (by rw [h.len];exact hi),List.getElem?_eq_getElem (by rw [h.len];exact hj)] at e;exact (List.getElem_inj h.nodup).mp e
theorem Ord.onto {ls:List Int} {os:List Nat} (h:Ord ls os) {j:Nat} (hj:j < ls.length):∃ i,i < ls.length/\os.getD i 0=j:=by
 obtain ⟨i,hi,e⟩:=List.getElem_of_mem (h.perm.mem_iff.mpr (mem_range.mpr hj));refine ⟨i,by rw [<- h.len];exact hi,?_⟩;rw [getD_eq_getElem?_getD,List.getElem?_eq_getElem hi];exact e
theorem Ord.step {ls:List Int} {os:List Nat} (h:Ord ls os) {i:Nat} (hi:i < ls.length):Jo ls os i < Jo ls os (i + 1):=by
 have:=h.one (h.lt hi);rw [J18];lia
theorem Ord.mono {ls:List Int} {os:List Nat} (h:Ord ls os) {i:Nat}:∀ {k:Nat},i<=k->k<=ls.length->Jo ls os i<=Jo ls os k
 | 0,h1,_=>by rw [Nat.le_zero.mp h1];exact Int.le_refl _
 | k + 1,h1,h2=>by
  by_cases e:i=k + 1
  ·rw [e];exact Int.le_refl _
  ·have a:=h.mono (i:=i) (k:=k) (by lia) (by lia);have b:=h.step (i:=k) (by lia);lia
theorem set_get (f:List Int) (p q:Nat) (v:Int) (hp:p < f.length):(f.set p v).getD q 0=if q=p then v else f.getD q 0:=by
 rw [getD_eq_getElem?_getD,getD_eq_getElem?_getD];by_cases e:q=p
 ·subst e;rw [getElem?_set_self hp,if_pos rfl];rfl
 ·rw [getElem?_set_ne (Ne.symm e),if_neg e]
theorem Ord.at {ls:List Int} {os:List Nat} (h:Ord ls os) {i:Nat}:∀ {k:Nat},i < k->k<=ls.length->(sumsF ls os k).1.getD (os.getD i 0) 0=Jo ls os i
 | 0,h1,_=>absurd h1 (Nat.not_lt_zero _)
 | k + 1,h1,h2=>by
  show ((sumsF ls os k).1.set (os.getD k 0) (sumsF ls os k).2).getD (os.getD i 0) 0=_;rw [set_get _ _ _ _ (by rw [J36];exact h.lt (by lia))];by_cases e:i=k
  ·subst e;rw [if_pos rfl];rfl
  ·rw [if_neg (fun q=>e (h.inj (by lia) (by lia) q))];exact h.at (by lia) (by lia)
theorem Ord.first {ls:List Int} {os:List Nat} (h:Ord ls os) {i:Nat} (hi:i < ls.length):(firsts ls os).getD (os.getD i 0) 0=Jo ls os i:=by
 unfold firsts;rw [h.len];exact h.at hi (Nat.le_refl _)
theorem J20 (ls:List Int):(List.range ls.length).map (fun j=>ls.getD j 0)=ls:=by
 apply ext_getElem?;intro k;rw [getElem?_map];by_cases hk:k < ls.length
 ·rw [getElem?_range hk,List.getElem?_eq_getElem hk];show some (ls.getD k 0)=_;rw [getD_eq_getElem?_getD,List.getElem?_eq_getElem hk];rfl
 ·rw [getElem?_eq_none (by simpa using hk),getElem?_eq_none (by lia)];rfl
theorem J43 (ls:List Int) (os:List Nat):∀ i,i<=os.length->Jo ls os i=((os.take i).map fun j=>ls.getD j 0).sum
 | 0,_=>by simp [J11]
 | i + 1,h=>by
  rw [J18,J43 ls os i (by lia),List.take_succ,List.getElem?_eq_getElem (by lia)];simp only [Option.toList_some,map_append,map_cons,map_nil,sum_append,sum_cons,sum_nil];rw [getD_eq_getElem?_getD (l:=os),List.getElem?_eq_getElem (by lia)];simp
theorem J63 {xs ys:List Int} (h:xs.Perm ys):xs.sum=ys.sum:=by
 induction h with
 | nil=>rfl
 | cons x _ ih=>rw [sum_cons,sum_cons,ih]
 | swap x y l=>rw [sum_cons,sum_cons,sum_cons,sum_cons];lia
 | trans _ _ a b=>exact a.trans b
theorem Ord.whole {ls:List Int} {os:List Nat} (h:Ord ls os):Jo ls os ls.length=ls.sum:=by
 rw [J43 ls os _ (by rw [h.len];exact Nat.le_refl _),List.take_of_length_le (by rw [h.len];exact Nat.le_refl _)];have p:(os.map fun j=>ls.getD j 0).Perm ((List.range ls.length).map fun j=>ls.getD j 0):=h.perm.map _;rw [J63 p,J20]
def Lies (fs ls:List Int) (x:Int) (j:Nat):Prop:=j < ls.length/\fs.getD j 0<=x/\x < fs.getD j 0 + ls.getD j 0
theorem J3n {S:Nat->Int} {x:Int}:∀ (k:Nat),S 0<=x->x < S k->∃ i,i < k/\S i<=x/\x < S (i + 1)
 | 0,h0,h1=>by lia
 | k + 1,h0,h1=>by
  by_cases e:x < S k
  ·obtain ⟨i,hi,q⟩:=J3n k h0 e;exact ⟨i,by lia,q⟩
  ·exact ⟨k,by lia,by lia,h1⟩
theorem Ord.lies {ls:List Int} {os:List Nat} (h:Ord ls os) {i:Nat} {x:Int} (hi:i < ls.length) (h1:Jo ls os i<=x) (h2:x < Jo ls os (i + 1)):Lies (firsts ls os) ls x (os.getD i 0):=by
 refine ⟨h.lt hi,?_,?_⟩
 ·rw [h.first hi];exact h1
 ·rw [h.first hi];rw [J18] at h2;exact h2
theorem Ord.lies_of {ls:List Int} {os:List Nat} (h:Ord ls os) {j:Nat} {x:Int} (q:Lies (firsts ls os) ls x j):∃ i,i < ls.length/\os.getD i 0=j/\Jo ls os i<=x/\x < Jo ls os (i + 1):=by
 obtain ⟨hj,q1,q2⟩:=q;obtain ⟨i,hi,e⟩:=h.onto hj;subst e;rw [h.first hi] at q1 q2;exact ⟨i,hi,rfl,q1,by rw [J18];exact q2⟩
theorem Ord.exists {ls:List Int} {os:List Nat} (h:Ord ls os) {x:Int} (h0:0<=x) (h1:x < ls.sum):∃ j,Lies (firsts ls os) ls x j:=by
 obtain ⟨i,hi,a,b⟩:=J3n (S:=Jo ls os) ls.length (by rw [J11];exact h0) (by rw [h.whole];exact h1);exact ⟨_,h.lies hi a b⟩
theorem Ord.unique {ls:List Int} {os:List Nat} (h:Ord ls os) {x:Int} {j k:Nat} (a:Lies (firsts ls os) ls x j) (b:Lies (firsts ls os) ls x k):j=k:=by
 obtain ⟨i,hi,rfl,a1,a2⟩:=h.lies_of a;obtain ⟨i',hi',rfl,b1,b2⟩:=h.lies_of b;have:i=i':=by
  by_cases e:i < i'
  ·have:=h.mono (i:=i + 1) (k:=i') e (by lia);lia
  ·by_cases e':i' < i
   ·have:=h.mono (i:=i' + 1) (k:=i) e' (by lia);lia
   ·lia
 rw [this]
theorem Ord.inside {ls:List Int} {os:List Nat} (h:Ord ls os) {x:Int} {j:Nat} (a:Lies (firsts ls os) ls x j):0<=x/\x < ls.sum:=by
 obtain ⟨i,hi,rfl,a1,a2⟩:=h.lies_of a;have b1:=h.mono (i:=0) (k:=i) (Nat.zero_le _) (by lia);have b2:=h.mono (i:=i + 1) (k:=ls.length) (by lia) (Nat.le_refl _);rw [h.whole] at b2;rw [J11] at b1;lia
def moveN (ls:List Int) (ts:List Bool) (j:Nat) (off:Int) (fs:List Int):Int:=if ts.getD j false=true then fs.getD j 0 + ls.getD j 0 - 1 - off else fs.getD j 0 + off
theorem move_lies {ls fs gs:List Int} {ts:List Bool} {x:Int} {j:Nat} (q:Lies fs ls x j):Lies gs ls (moveN ls ts j (x - fs.getD j 0) gs) j/\moveN ls ts j (moveN ls ts j (x - fs.getD j 0) gs - gs.getD j 0) fs=x:=by
 obtain ⟨h0,h1,h2⟩:=q;unfold Lies moveN;split <;> refine ⟨⟨h0,?_,?_⟩,?_⟩ <;> lia
end Rl
namespace Rl
def lenOf (ls:List Int) (row:List Nat):Int:=(row.map fun j=>ls.getD j 0).sum
theorem J1q (ls:List Int):lenOf ls []=0:=rfl
theorem Jm (ls:List Int) (j:Nat) (os:List Nat):lenOf ls (j :: os)=ls.getD j 0 + lenOf ls os:=by
 unfold lenOf;rw [map_cons,sum_cons]
theorem J21 (ls:List Int) (xs ys:List Nat):lenOf ls (xs ++ ys)=lenOf ls xs + lenOf ls ys:=by
 unfold lenOf;rw [map_append,sum_append]
theorem J1m {ls:List Int} {xs ys:List Nat} (h:xs.Perm ys):lenOf ls xs=lenOf ls ys:=J63 (h.map _)
theorem J14 {ls:List Int} {os:List Nat} (h:∀ j∈os,0<=ls.getD j 0):0<=lenOf ls os:=by
 induction os with
 | nil=>exact Int.le_refl _
 | cons a r ih =>
  rw [Jm];have:=h a mem_cons_self;have:=ih fun j hj=>h j (mem_cons_of_mem _ hj);lia
theorem J4n {ls:List Int} {os:List Nat} (h:∀ j∈os,1<=ls.getD j 0) (hn:os≠[]):1<=lenOf ls os:=by
 cases os with
 | nil=>exact absurd rfl hn
 | cons a r =>
  rw [Jm];have:=h a mem_cons_self;have:=J14 (ls:=ls) (os:=r) fun j hj=>by have:=h j (mem_cons_of_mem _ hj);lia
  lia
theorem lenOf_mem {ls:List Int} {os:List Nat} (h:∀ j∈os,0<=ls.getD j 0) {j:Nat} (hj:j∈os):ls.getD j 0<=lenOf ls os:=by
 induction os with
 | nil=>cases hj
 | cons a r ih =>
  rw [Jm];have h1:=h a mem_cons_self;have h2:=J14 (ls:=ls) (os:=r) fun j hj=>h j (mem_cons_of_mem _ hj);rcases mem_cons.mp hj with rfl | hj
  ·lia
  ·have:=ih (fun j hj=>h j (mem_cons_of_mem _ hj)) hj;lia
structure Row (ls:List Int) (os:List Nat):Prop where
 nd:os.Nodup
 lt:∀ j∈os,j < ls.length
 pos:∀ j∈os,1<=ls.getD j 0
structure Rst where
 top:List Nat
 bot:List Nat
 ls:List Int
 ts:List Bool
structure Rst.Ok (r:Rst):Prop where
 row:Row r.ls r.top
 perm:r.bot.Perm r.top
 zl:∀ j,j ∉ r.top->r.ls.getD j 0=0
 zt:∀ j,j ∉ r.top->r.ts.getD j false=false
 len:r.ts.length=r.ls.length
 few:r.ls.length<=24
def Rst.size (r:Rst):Int:=lenOf r.ls r.top
theorem Rst.Ok.rowB {r:Rst} (h:r.Ok):Row r.ls r.bot:=⟨h.perm.nodup_iff.mpr h.row.nd,fun j hj=>h.row.lt j (h.perm.mem_iff.mp hj),fun j hj=>h.row.pos j (h.perm.mem_iff.mp hj)⟩
theorem Rst.Ok.sizeB {r:Rst} (h:r.Ok):lenOf r.ls r.bot=r.size:=J1m h.perm
theorem whole_ok {ls:List Int} {os:List Nat} {ts:List Bool} (hp:os.Perm (List.range ls.length)) (pos:∀ a∈ls,1<=a) (hts:ts.length=ls.length) (few:ls.length<=24):(Rst.mk (List.range ls.length) os ls ts).Ok where
 row:=⟨List.nodup_range,fun j hj=>mem_range.mp hj,fun j hj=>pos _ (getD_memI (mem_range.mp hj))⟩
 perm:=hp
 zl:=fun j hj=>by
  have hj:¬ j < ls.length:=fun q=>hj (mem_range.mpr q);show ls.getD j 0=0;rw [getD_eq_getElem?_getD,getElem?_eq_none (by lia)];rfl
 zt:=fun j hj=>by
  have hj:¬ j < ls.length:=fun q=>hj (mem_range.mpr q);show ts.getD j false=false;rw [getD_eq_getElem?_getD,getElem?_eq_none (by lia)];rfl
 len:=hts
 few:=few
theorem whole_size (ls:List Int) (os:List Nat) (ts:List Bool):(Rst.mk (List.range ls.length) os ls ts).size=ls.sum:=by
 show ((List.range ls.length).map fun j=>ls.getD j 0).sum=_;rw [J20]
end Rl
namespace Rl
theorem J28 {n k:Nat} (h:k < n):(List.range n).getD k 0=k:=by
 rw [getD_eq_getElem?_getD,getElem?_range h];rfl
end Rl
namespace Rl
def J9 (row:List Nat) (a:Nat):List Nat:=row.drop (row.idxOf a + 1)
def withoutR (row:List Nat) (x:Nat):List Nat:=row.filter fun j=>decide (j≠x)
def putR (row:List Nat) (w l:Nat) (ahead:Bool):List Nat :=
 (withoutR row l).take (if ahead=true then (withoutR row l).idxOf w else (withoutR row l).idxOf w + 1) ++ [l] ++ (withoutR row l).drop (if ahead=true then (withoutR row l).idxOf w else (withoutR row l).idxOf w + 1)
theorem mem_without {row:List Nat} {x j:Nat}:j∈withoutR row x↔j∈row/\j≠x:=by
 unfold withoutR;rw [mem_filter,decide_eq_true_iff]
theorem J24 {row:List Nat} (h:row.Nodup) (x:Nat):(withoutR row x).Nodup:=h.filter _
theorem J2u {row:List Nat} (h:row.Nodup) {x:Nat} (hx:x∈row):(withoutR row x).length + 1=row.length:=by
 induction row with
 | nil=>cases hx
 | cons a r ih =>
  obtain ⟨h1,h2⟩:=nodup_cons.mp h;unfold withoutR;rw [filter_cons];by_cases e:a=x
  ·subst e;have:r.filter (fun j=>decide (j≠a))=r:=List.filter_eq_self.mpr fun j hj=>decide_eq_true (fun q=>h1 (q ▸ hj));rw [if_neg (by simp),this];rfl
  ·rw [if_pos (by simpa using e)];have hx':x∈r:=(mem_cons.mp hx).resolve_left (fun q=>e q.symm);have:=ih h2 hx';unfold withoutR at this;simp only [length_cons];lia
theorem J1x {row:List Nat} (h:row.Nodup) {x:Nat} (hx:x∈row):(x :: withoutR row x).Perm row:=by
 refine (List.perm_ext_iff_of_nodup (nodup_cons.mpr ⟨fun q=>(mem_without.mp q).2 rfl,J24 h x⟩) h).mpr fun j=>?_;rw [mem_cons,mem_without];constructor
 ·rintro (rfl | q)
  ·exact hx
  ·exact q.1
 ·intro q;by_cases e:j=x
  ·exact .inl e
  ·exact .inr ⟨q,e⟩
theorem J2h {row:List Nat} (h:row.Nodup) {w l:Nat} (hl:l∈row) (ahead:Bool):(putR row w l ahead).Perm row:=by
 unfold putR;generalize (if ahead=true then (withoutR row l).idxOf w else (withoutR row l).idxOf w + 1)=n;refine List.Perm.trans ?_ (J1x h hl);have e:l :: withoutR row l=[l] ++ ((withoutR row l).take n ++ (withoutR row l).drop n):=by rw [take_append_drop];rfl
 rw [e,<- List.append_assoc];exact List.Perm.append_right _ List.perm_append_comm
theorem J2i {xs ys:List Nat} (h:xs.Perm ys) (x:Nat):(withoutR xs x).Perm (withoutR ys x):=h.filter _
theorem J1f (f:List Int) (p q:Nat) (v:Int) (hp:p < f.length):(f.set p v).getD q 0=if q=p then v else f.getD q 0:=set_get f p q v hp
theorem J2g (f:List Bool) (p q:Nat) (v:Bool) (hp:p < f.length):(f.set p v).getD q false=if q=p then v else f.getD q false:=by
 rw [getD_eq_getElem?_getD,getD_eq_getElem?_getD];by_cases e:q=p
 ·subst e;rw [getElem?_set_self hp,if_pos rfl];rfl
 ·rw [getElem?_set_ne (Ne.symm e),if_neg e]
inductive Stp where
 | home (a:Nat) | even (a b:Nat) | over (a b:Nat) | under (a b:Nat) | overs (a:Nat) (t:Int) | unders (a:Nat) (t:Int)
def Stp.winner:Stp->Nat
 | .home a=>a | .even a _=>a | .over a _=>a | .under a _=>a | .overs a _=>a | .unders a _=>a
def Stp.times:Stp->Int
 | .overs _ t=>t | .unders _ t=>t | _=>1
def Stp.losers (r:Rst):Stp->List Nat
 | .home _=>[] | .even _ b=>[b] | .over _ b=>[b] | .under _ b=>[b] | .overs a _=>J9 r.bot a | .unders a _=>J9 r.top a
def J2c (r:Rst) (w l:Nat):List Bool:=r.ts.set l (r.ts.getD w false != r.ts.getD l false)
def Stp.behind (r:Rst):Stp->Rst
 | .home a=>⟨withoutR r.top a,withoutR r.bot a,r.ls.set a 0,r.ts.set a false⟩
 | .even a b=>⟨withoutR r.top a,withoutR (putR r.bot a b false) a,r.ls.set a 0,(J2c r a b).set a false⟩
 | .over a b=>⟨r.top,putR r.bot a b (r.ts.getD a false),r.ls.set a (r.ls.getD a 0 - r.ls.getD b 0),J2c r a b⟩
 | .under a b=>⟨putR r.top a b (r.ts.getD a false),r.bot,r.ls.set a (r.ls.getD a 0 - r.ls.getD b 0),J2c r a b⟩
 | .overs a t=>⟨r.top,r.bot,r.ls.set a (r.ls.getD a 0 - t * lenOf r.ls (J9 r.bot a)),r.ts⟩
 | .unders a t=>⟨r.top,r.bot,r.ls.set a (r.ls.getD a 0 - t * lenOf r.ls (J9 r.top a)),r.ts⟩
def J1c (r:Rst) (a:Nat) (row:List Nat):Int:=if r.ts.getD a false=true then 0 else (r.ls.getD a 0 - 1) / lenOf r.ls (J9 row a)
abbrev lastT (r:Rst):Nat:=r.top.getD (r.top.length - 1) 0
abbrev lastB (r:Rst):Nat:=r.bot.getD (r.bot.length - 1) 0
def nextN (r:Rst):Stp :=
 if lastT r=lastB r then .home (lastT r)
 else if r.ls.getD (lastT r) 0=r.ls.getD (lastB r) 0 then .even (lastT r) (lastB r)
 else if r.ls.getD (lastB r) 0 < r.ls.getD (lastT r) 0 then
  (if 0 < J1c r (lastT r) r.bot then .overs (lastT r) (J1c r (lastT r) r.bot) else .over (lastT r) (lastB r))
 else (if 0 < J1c r (lastB r) r.top then .unders (lastB r) (J1c r (lastB r) r.top) else .under (lastB r) (lastT r))
theorem Rst.Ok.lens {r:Rst} (h:r.Ok):r.bot.length=r.top.length:=h.perm.length_eq
theorem Rst.Ok.mT {r:Rst} (h:r.Ok) (ne:r.top≠[]):lastT r∈r.top:=J4r (by have:=List.length_pos_iff.mpr ne;lia)
theorem Rst.Ok.mB {r:Rst} (h:r.Ok) (ne:r.top≠[]):lastB r∈r.top:=h.perm.mem_iff.mp (J4r (by have:=List.length_pos_iff.mpr ne;have:=h.lens;lia))
theorem Jw {row:List Nat} {n j:Nat} (h:j∈row.drop n):j∈row:=List.mem_of_mem_drop h
theorem behind_ne {row:List Nat} {a:Nat} (ha:a∈row) (h:row.getD (row.length - 1) 0≠a):J9 row a≠[]:=by
 unfold J9;have h1:row.idxOf a < row.length:=idxOf_lt_length_iff.mpr ha;intro e;have h2:=List.drop_eq_nil_iff.mp e;have h3:row.idxOf a=row.length - 1:=by lia
 apply h;rw [<- h3,getD_eq_getElem?_getD,List.getElem?_eq_getElem h1];exact getElem_idxOf h1
theorem Rst.Ok.of_rows {r:Rst} (h:r.Ok) {top bot:List Nat} {ls:List Int} {ts:List Bool} (ht:top.Perm r.top) (hb:bot.Perm r.top) (hl:ls.length=r.ls.length) (htl:ts.length=r.ts.length)
  (pos:∀ j∈r.top,1<=ls.getD j 0) (zl:∀ j,j ∉ r.top->ls.getD j 0=0) (zt:∀ j,j ∉ r.top->ts.getD j false=false):(Rst.mk top bot ls ts).Ok where
 row:=⟨ht.nodup_iff.mpr h.row.nd,fun j hj=>by rw [hl];exact h.row.lt j (ht.mem_iff.mp hj),fun j hj=>pos j (ht.mem_iff.mp hj)⟩
 perm:=hb.trans ht.symm
 zl:=fun j hj=>zl j fun q=>hj (ht.mem_iff.mpr q)
 zt:=fun j hj=>zt j fun q=>hj (ht.mem_iff.mpr q)
 len:=by show ts.length=ls.length;rw [hl,htl];exact h.len
 few:=by show ls.length<=24;rw [hl];exact h.few
theorem J3b {r:Rst} (h:r.Ok) {w l:Nat} (hl:l∈r.top):∀ j,j ∉ r.top->(J2c r w l).getD j false=false:=fun j hj=>by
 unfold J2c;rw [J2g _ _ _ _ (by rw [h.len];exact h.row.lt l hl),if_neg (show ¬ j=l from fun e=>hj (by rw [e];exact hl))];exact h.zt j hj
theorem set_out {r:Rst} (h:r.Ok) {a:Nat} {v:Int} (ha:a∈r.top):∀ j,j ∉ r.top->(r.ls.set a v).getD j 0=0:=fun j hj=>by
 rw [J1f _ _ _ _ (h.row.lt a ha),if_neg (show ¬ j=a from fun e=>hj (by rw [e];exact ha))];exact h.zl j hj
theorem set_pos {r:Rst} (h:r.Ok) {a:Nat} {v:Int} (ha:a∈r.top) (hv:1<=v):∀ j∈r.top,1<=(r.ls.set a v).getD j 0:=fun j hj=>by
 rw [J1f _ _ _ _ (h.row.lt a ha)];split
 ·exact hv
 ·exact h.row.pos j hj
theorem J1s (r:Rst) (w l:Nat):(J2c r w l).length=r.ts.length:=by unfold J2c;rw [length_set]
theorem Rst.Ok.less {r:Rst} (h:r.Ok) {a:Nat} (ha:a∈r.top) {bot:List Nat} {ts:List Bool} (hb:bot.Perm (withoutR r.top a)) (htl:ts.length=r.ts.length) (zt:∀ j,j ∉ r.top->ts.getD j false=false) (za:ts.getD a false=false):(Rst.mk (withoutR r.top a) bot (r.ls.set a 0) ts).Ok where
 row:=⟨J24 h.row.nd a,fun j hj=>by rw [length_set];exact h.row.lt j (mem_without.mp hj).1,fun j hj=>by
  rw [J1f _ _ _ _ (h.row.lt a ha),if_neg (mem_without.mp hj).2];exact h.row.pos j (mem_without.mp hj).1⟩
 perm:=hb
 zl:=fun j hj=>by
  show (r.ls.set a 0).getD j 0=0;rw [J1f _ _ _ _ (h.row.lt a ha)];split
  ·rfl
  ·rename_i e;exact h.zl j fun q=>hj (mem_without.mpr ⟨q,e⟩)
 zt:=fun j hj=>by
  by_cases e:j=a
  ·subst e;exact za
  ·exact zt j fun q=>hj (mem_without.mpr ⟨q,e⟩)
 len:=by show ts.length=(r.ls.set a 0).length;rw [length_set,htl];exact h.len
 few:=by show (r.ls.set a 0).length<=24;rw [length_set];exact h.few
theorem times_fit {la s:Int} (hs:1<=s):(la - 1) / s * s<=la - 1:=Int.ediv_mul_le _ (by lia)
theorem J1h {r:Rst} (h:r.Ok) (ne:r.top≠[]) {p:Stp->Prop}
  (hh:lastT r=lastB r->p (.home (lastT r)))
  (he:lastT r≠lastB r->r.ls.getD (lastT r) 0=r.ls.getD (lastB r) 0->p (.even (lastT r) (lastB r)))
  (hov:lastT r≠lastB r->r.ls.getD (lastB r) 0 < r.ls.getD (lastT r) 0->(r.ts.getD (lastT r) false=true\/r.ls.getD (lastT r) 0<=lenOf r.ls (J9 r.bot (lastT r)))->p (.over (lastT r) (lastB r)))
  (hun:lastT r≠lastB r->r.ls.getD (lastT r) 0 < r.ls.getD (lastB r) 0->(r.ts.getD (lastB r) false=true\/r.ls.getD (lastB r) 0<=lenOf r.ls (J9 r.top (lastB r)))->p (.under (lastB r) (lastT r)))
  (hos:∀ t,lastT r≠lastB r->r.ls.getD (lastB r) 0 < r.ls.getD (lastT r) 0->r.ts.getD (lastT r) false=false->1<=t->1<=lenOf r.ls (J9 r.bot (lastT r))->lenOf r.ls (J9 r.bot (lastT r)) < r.ls.getD (lastT r) 0->t=(r.ls.getD (lastT r) 0 - 1) / lenOf r.ls (J9 r.bot (lastT r))->t * lenOf r.ls (J9 r.bot (lastT r)) < r.ls.getD (lastT r) 0->p (.overs (lastT r) t))
  (hus:∀ t,lastT r≠lastB r->r.ls.getD (lastT r) 0 < r.ls.getD (lastB r) 0->r.ts.getD (lastB r) false=false->1<=t->1<=lenOf r.ls (J9 r.top (lastB r))->lenOf r.ls (J9 r.top (lastB r)) < r.ls.getD (lastB r) 0->t=(r.ls.getD (lastB r) 0 - 1) / lenOf r.ls (J9 r.top (lastB r))->t * lenOf r.ls (J9 r.top (lastB r)) < r.ls.getD (lastB r) 0->p (.unders (lastB r) t)):p (nextN r):=by
 unfold nextN;have mT:=h.mT ne;have mB:=h.mB ne;by_cases c1:lastT r=lastB r
 ·rw [if_pos c1];exact hh c1
 rw [if_neg c1];by_cases c2:r.ls.getD (lastT r) 0=r.ls.getD (lastB r) 0
 ·rw [if_pos c2];exact he c1 c2
 rw [if_neg c2];have key:∀ (row:List Nat) (a:Nat),a∈row->(∀ j∈row,1<=r.ls.getD j 0)->row.getD (row.length - 1) 0≠a->
   1<=lenOf r.ls (J9 row a)/\(0 < J1c r a row->r.ts.getD a false=false/\1<=J1c r a row/\lenOf r.ls (J9 row a) < r.ls.getD a 0/\J1c r a row=(r.ls.getD a 0 - 1) / lenOf r.ls (J9 row a)/\J1c r a row * lenOf r.ls (J9 row a) < r.ls.getD a 0)/\
   (¬ 0 < J1c r a row->r.ts.getD a false=true\/r.ls.getD a 0<=lenOf r.ls (J9 row a)):=fun row a ha hp hl=>by
  have hs:1<=lenOf r.ls (J9 row a):=J4n (fun j hj=>hp j (Jw hj)) (behind_ne ha hl);refine ⟨hs,fun hw=>?_,fun hw=>?_⟩
  ·by_cases ct:r.ts.getD a false=true
   ·unfold J1c at hw;rw [if_pos ct] at hw;lia
   ·have e:J1c r a row=(r.ls.getD a 0 - 1) / lenOf r.ls (J9 row a):=by unfold J1c;rw [if_neg ct]
    have h1:=times_fit (la:=r.ls.getD a 0) hs;rw [e] at hw ⊢;refine ⟨by simpa using ct,by lia,?_,rfl,by lia⟩;have h2:lenOf r.ls (J9 row a) * 1<=lenOf r.ls (J9 row a) * ((r.ls.getD a 0 - 1) / lenOf r.ls (J9 row a)):=Int.mul_le_mul_of_nonneg_left (by lia) (by lia);rw [Int.mul_comm (lenOf r.ls (J9 row a)) ((r.ls.getD a 0 - 1) / lenOf r.ls (J9 row a))] at h2;lia
  ·by_cases ct:r.ts.getD a false=true
   ·exact .inl ct
   ·right;have e:J1c r a row=(r.ls.getD a 0 - 1) / lenOf r.ls (J9 row a):=by unfold J1c;rw [if_neg ct]
    rw [e] at hw;by_cases q:r.ls.getD a 0<=lenOf r.ls (J9 row a)
    ·exact q
    ·have:=(Int.le_ediv_iff_mul_le (a:=1) (b:=r.ls.getD a 0 - 1) (c:=lenOf r.ls (J9 row a)) (by lia)).mpr (by lia);lia
 by_cases c3:r.ls.getD (lastB r) 0 < r.ls.getD (lastT r) 0
 ·rw [if_pos c3];obtain ⟨hs,k1,k2⟩:=key r.bot (lastT r) (h.perm.mem_iff.mpr mT) (fun j hj=>h.rowB.pos j hj) (fun e=>c1 e.symm);by_cases c4:0 < J1c r (lastT r) r.bot
  ·rw [if_pos c4];obtain ⟨q1,q2,q3,q4,q5⟩:=k1 c4;exact hos _ c1 c3 q1 q2 hs q3 q4 q5
  ·rw [if_neg c4];exact hov c1 c3 (k2 c4)
 ·rw [if_neg c3];have c3':r.ls.getD (lastT r) 0 < r.ls.getD (lastB r) 0:=by lia
  obtain ⟨hs,k1,k2⟩:=key r.top (lastB r) mB (fun j hj=>h.row.pos j hj) c1;by_cases c4:0 < J1c r (lastB r) r.top
  ·rw [if_pos c4];obtain ⟨q1,q2,q3,q4,q5⟩:=k1 c4;exact hus _ c1 c3' q1 q2 hs q3 q4 q5
  ·rw [if_neg c4];exact hun c1 c3' (k2 c4)
theorem Rst.Ok.next {r:Rst} (h:r.Ok) (ne:r.top≠[]):((nextN r).behind r).Ok:=by
 have mT:=h.mT ne;have mB:=h.mB ne;have mTb:=h.perm.mem_iff.mpr mT;have mBb:=h.perm.mem_iff.mpr mB;have ndB:=h.rowB.nd;refine J1h h ne (p:=fun s=>(s.behind r).Ok) (fun _=>?_) (fun c1 c2=>?_) (fun c1 c2 _=>?_) (fun c1 c2 _=>?_) (fun t c1 c2 c3 c4 c5 _ c6 c7=>?_) (fun t c1 c2 c3 c4 c5 _ c6 c7=>?_)
 ·refine h.less mT (J2i h.perm _) (by rw [length_set]) (fun j hj=>?_) ?_
  ·rw [J2g _ _ _ _ (by rw [h.len];exact h.row.lt _ mT)];split
   ·rfl
   ·exact h.zt j hj
  ·rw [J2g _ _ _ _ (by rw [h.len];exact h.row.lt _ mT),if_pos rfl]
 ·refine h.less mT ((J2i (J2h ndB mBb false) _).trans (J2i h.perm _)) (by rw [length_set,J1s]) (fun j hj=>?_) ?_
  ·rw [J2g _ _ _ _ (by rw [J1s,h.len];exact h.row.lt _ mT)];split
   ·rfl
   ·exact J3b h mB j hj
  ·rw [J2g _ _ _ _ (by rw [J1s,h.len];exact h.row.lt _ mT),if_pos rfl]
 ·exact h.of_rows (List.Perm.refl _) ((J2h ndB mBb _).trans h.perm) (by rw [length_set]) (J1s _ _ _) (set_pos h mT (by lia)) (set_out h mT) (J3b h mB)
 ·exact h.of_rows (J2h h.row.nd mT _) h.perm (by rw [length_set]) (J1s _ _ _) (set_pos h mB (by lia)) (set_out h mB) (J3b h mT)
 ·exact h.of_rows (List.Perm.refl _) h.perm (by rw [length_set]) rfl (set_pos h mT (by lia)) (set_out h mT) h.zt
 ·exact h.of_rows (List.Perm.refl _) h.perm (by rw [length_set]) rfl (set_pos h mB (by lia)) (set_out h mB) h.zt
theorem J67:∀ (n:Nat) (row:List Nat),row.Nodup->(∀ j∈row,j < n)->row.length<=n
 | 0,row,_,h=>by
  cases row with
  | nil=>exact Nat.le_refl _
  | cons a r=>exact absurd (h a mem_cons_self) (Nat.not_lt_zero _)
 | n + 1,row,nd,h=>by
  by_cases c:n∈row
  ·have h1:=J2u nd c;have h2:=J67 n (withoutR row n) (J24 nd n) fun j hj=>by
    have:=h j (mem_without.mp hj).1;have:=(mem_without.mp hj).2;lia
   lia
  ·have:=J67 n row nd fun j hj=>by
    have h1:=h j hj;have h2:j≠n:=fun e=>c (e ▸ hj);lia
   lia
theorem Row.len_le {ls:List Int} {row:List Nat} (h:Row ls row):row.length<=ls.length:=J67 _ _ h.nd h.lt
end Rl
namespace Rl
theorem split_last {row:List Nat} (h:row≠[]):row=row.dropLast ++ [row.getD (row.length - 1) 0]:=by
 have hl:=List.length_pos_iff.mpr h;have e:row.getD (row.length - 1) 0=row.getLast h:=by
  rw [getD_eq_getElem?_getD,List.getElem?_eq_getElem (by lia),List.getLast_eq_getElem];rfl
 rw [e];exact (List.dropLast_concat_getLast h).symm
theorem without_app (xs ys:List Nat) (x:Nat):withoutR (xs ++ ys) x=withoutR xs x ++ withoutR ys x:=by unfold withoutR;rw [List.filter_append]
theorem without_not {xs:List Nat} {x:Nat} (h:x ∉ xs):withoutR xs x=xs:=List.filter_eq_self.mpr fun j hj=>decide_eq_true (fun e=>h (e ▸ hj))
theorem J5o (x:Nat):withoutR [x] x=[]:=by unfold withoutR;simp
theorem idx_app {s:List Nat} {a:Nat} (t:List Nat) (h:a ∉ s):(s ++ a :: t).idxOf a=s.length:=by
 induction s with
 | nil=>simp
 | cons x s ih =>
  have hx:(x == a)=false:=by
   have:x≠a:=fun e=>h (by rw [e];exact mem_cons_self);simpa using this
  rw [List.cons_append,List.idxOf_cons,hx,ih fun q=>h (mem_cons_of_mem _ q)];rfl
theorem J3k (ls:List Int) (p:Nat->Bool):∀ os:List Nat,(∀ j∈os,p j=false->ls.getD j 0=0)->lenOf ls (os.filter p)=lenOf ls os
 | [],_=>rfl
 | a :: r,h=>by
  have ih:=J3k ls p r fun j hj=>h j (mem_cons_of_mem _ hj);rw [filter_cons,Jm]
  cases c:p a with
  | true=>rw [if_pos rfl,Jm,ih]
  | false=>rw [if_neg (by decide),ih,h a mem_cons_self c,Int.zero_add]
theorem Rst.Ok.size_sum {r:Rst} (h:r.Ok):r.size=r.ls.sum:=by
 have h1:lenOf r.ls (List.range r.ls.length)=r.ls.sum:=by unfold lenOf;rw [J20]
 rw [<- h1,<- J3k r.ls (fun j=>decide (j∈r.top)) (List.range r.ls.length) fun j _ hj=>h.zl j (of_decide_eq_false hj)];refine J1m ?_;refine (List.perm_ext_iff_of_nodup h.row.nd (List.nodup_range.filter _)).mpr fun j=>?_;rw [mem_filter,mem_range,decide_eq_true_iff];exact ⟨fun q=>⟨h.row.lt j q,q⟩,fun q=>q.2⟩
def NextP (r:Rst):Stp->Prop
 | .home a=>a=lastT r/\a=lastB r
 | .even a b=>a=lastT r/\b=lastB r/\a≠b/\r.ls.getD a 0=r.ls.getD b 0
 | .over a b=>a=lastT r/\b=lastB r/\a≠b/\r.ls.getD b 0 < r.ls.getD a 0
 | .under a b=>a=lastB r/\b=lastT r/\a≠b/\r.ls.getD b 0 < r.ls.getD a 0
 | .overs a t=>a=lastT r/\a≠lastB r/\r.ts.getD a false=false/\1<=t/\1<=lenOf r.ls (J9 r.bot a)/\t * lenOf r.ls (J9 r.bot a) < r.ls.getD a 0
 | .unders a t=>a=lastB r/\a≠lastT r/\r.ts.getD a false=false/\1<=t/\1<=lenOf r.ls (J9 r.top a)/\t * lenOf r.ls (J9 r.top a) < r.ls.getD a 0
theorem nextP {r:Rst} (h:r.Ok) (ne:r.top≠[]):NextP r (nextN r) :=
 J1h h ne (p:=NextP r) (fun c=>⟨rfl,c⟩) (fun c1 c2=>⟨rfl,rfl,c1,c2⟩) (fun c1 c2 _=>⟨rfl,rfl,c1,c2⟩) (fun c1 c2 _=>⟨rfl,rfl,fun e=>c1 e.symm,c2⟩)
  (fun t c1 c2 c3 c4 c5 _ _ c6=>⟨rfl,c1,c3,c4,c5,c6⟩) (fun t c1 c2 c3 c4 c5 _ _ c6=>⟨rfl,fun e=>c1 e.symm,c3,c4,c5,c6⟩)
theorem NextP.win {r:Rst} (h:r.Ok) (ne:r.top≠[]) {s:Stp} (n:NextP r s):s.winner∈r.top:=by
 have mT:=h.mT ne;have mB:=h.mB ne
 cases s with
 | home a=>rw [show (Stp.home a).winner=a from rfl,n.1];exact mT
 | even a b=>rw [show (Stp.even a b).winner=a from rfl,n.1];exact mT
 | over a b=>rw [show (Stp.over a b).winner=a from rfl,n.1];exact mT
 | under a b=>rw [show (Stp.under a b).winner=a from rfl,n.1];exact mB
 | overs a t=>rw [show (Stp.overs a t).winner=a from rfl,n.1];exact mT
 | unders a t=>rw [show (Stp.unders a t).winner=a from rfl,n.1];exact mB
theorem Rst.Ok.le_size {r:Rst} (h:r.Ok) {j:Nat} (hj:j∈r.top):r.ls.getD j 0<=r.size:=lenOf_mem (fun j hj=>by have:=h.row.pos j hj;lia) hj
theorem NextP.times {r:Rst} (h:r.Ok) (ne:r.top≠[]) {s:Stp} (n:NextP r s) (hz:r.size<=10 ^ 30):s.times.natAbs<=10 ^ 30:=by
 have hw:=h.le_size (n.win h ne);have key:∀ {t l s:Int},1<=t->1<=s->t * s < l->t<=l:=fun {t l s} h1 h2 h3=>by
  have:t * 1<=t * s:=Int.mul_le_mul_of_nonneg_left h2 (by lia);lia
 cases s with
 | overs a t =>
  obtain ⟨_,_,_,h4,h5,h6⟩:=n;have:=key h4 h5 h6;show t.natAbs<=10 ^ 30;have hw:r.ls.getD a 0<=r.size:=hw;lia
 | unders a t =>
  obtain ⟨_,_,_,h4,h5,h6⟩:=n;have:=key h4 h5 h6;show t.natAbs<=10 ^ 30;have hw:r.ls.getD a 0<=r.size:=hw;lia
 | home a=>show (1:Int).natAbs<=10 ^ 30;decide
 | even a b=>show (1:Int).natAbs<=10 ^ 30;decide
 | over a b=>show (1:Int).natAbs<=10 ^ 30;decide
 | under a b=>show (1:Int).natAbs<=10 ^ 30;decide
theorem NextP.losers_nd {r:Rst} (h:r.Ok) {s:Stp}:(s.losers r).Nodup:=by
 cases s with
 | home a=>exact List.nodup_nil
 | even a b=>exact (by simp:[b].Nodup)
 | over a b=>exact (by simp:[b].Nodup)
 | under a b=>exact (by simp:[b].Nodup)
 | overs a t=>exact List.Sublist.nodup (List.drop_sublist _ _) h.rowB.nd
 | unders a t=>exact List.Sublist.nodup (List.drop_sublist _ _) h.row.nd
end Rl
namespace Rl
theorem Jr (ls:List Int) {a:Nat} (v:Int):∀ {row:List Nat},a ∉ row->lenOf (ls.set a v) row=lenOf ls row
 | [],_=>rfl
 | b :: row,h=>by
  have h1:a≠b:=fun e=>h (e ▸ mem_cons_self ..);rw [Jm,Jm,Jr ls v (row:=row) fun q=>h (mem_cons_of_mem _ q)];rw [getD_eq_getElem?_getD,getD_eq_getElem?_getD,getElem?_set_ne h1]
theorem J2r (ls:List Int) {a:Nat} (v:Int) (ha:a < ls.length):∀ {row:List Nat},row.Nodup->a∈row->lenOf (ls.set a v) row=lenOf ls row - ls.getD a 0 + v
 | b :: row,nd,h=>by
  rw [nodup_cons] at nd;rw [Jm,Jm];by_cases e:a=b
  ·subst e;rw [Jr ls v nd.1,J1f _ _ _ _ ha,if_pos rfl];lia
  ·have h2:a∈row:=(mem_cons.mp h).resolve_left e;rw [J2r ls v ha nd.2 h2,J1f _ _ _ _ ha,if_neg (fun q=>e q.symm)];lia
theorem J33 {ls:List Int} {row:List Nat} (nd:row.Nodup) {a:Nat} (ha:a∈row):lenOf ls (withoutR row a) + ls.getD a 0=lenOf ls row:=by
 rw [<- J1m (J1x nd ha),Jm];lia
theorem J3y (row:List Nat) (a:Nat):a ∉ withoutR row a:=fun h=>(mem_without.mp h).2 rfl
def madeS (ls:List Int) (los:List Nat) (t:Int) (row:List Nat):Int:=(row.map fun j=>if j∈los then ls.getD j 0 * (1 + t) else ls.getD j 0).sum
theorem madeS_cons (ls:List Int) (los:List Nat) (t:Int) (j:Nat) (row:List Nat):madeS ls los t (j :: row)=(if j∈los then ls.getD j 0 * (1 + t) else ls.getD j 0) + madeS ls los t row:=by
 unfold madeS;rw [map_cons,sum_cons]
theorem madeS_eq (ls:List Int) (los:List Nat) (t:Int):∀ row:List Nat,madeS ls los t row=lenOf ls row + t * lenOf ls (row.filter fun j=>decide (j∈los))
 | []=>by unfold madeS;simp [J1q]
 | j :: row=>by
  rw [madeS_cons,Jm,madeS_eq ls los t row,filter_cons];by_cases c:j∈los
  ·rw [if_pos c,if_pos (decide_eq_true c),Jm,Int.mul_add,Int.mul_add,Int.mul_one,Int.mul_comm (ls.getD j 0) t];lia
  ·rw [if_neg c,if_neg (by simpa using c)];lia
theorem J41 {row los:List Nat} (nd:row.Nodup) (nl:los.Nodup) (hs:∀ j∈los,j∈row):(row.filter fun j=>decide (j∈los)).Perm los:=by
 refine (List.perm_ext_iff_of_nodup (nd.filter _) nl).mpr fun j=>?_;rw [mem_filter,decide_eq_true_iff];exact ⟨fun q=>q.2,fun q=>⟨hs j q,q⟩⟩
def Stp.isHome:Stp->Bool
 | .home _=>true | _=>false
def Stp.drops:Stp->Bool
 | .home _=>true | .even _ _=>true | _=>false
theorem Jy {row:List Nat} (nd:row.Nodup) {a:Nat} (ha:a∈row):a ∉ J9 row a:=fun h=>by
 unfold J9 at h;obtain ⟨i,hi,e⟩:=List.getElem_of_mem h;rw [List.getElem_drop] at e;have h1:row.idxOf a < row.length:=idxOf_lt_length_iff.mpr ha;have h2:row[row.idxOf a]=a:=getElem_idxOf h1;have h3:=(List.getElem_inj nd).mp (e.trans h2.symm);lia
structure Down (r:Rst) (s:Stp):Prop where
 size:(s.behind r).size + s.times * lenOf r.ls (s.losers r) + (if s.isHome=true then r.ls.getD s.winner 0 else 0)=r.size
 less:(s.behind r).size < r.size
 made:madeS (s.behind r).ls (s.losers r) s.times (s.behind r).top=(s.behind r).size + s.times * lenOf r.ls (s.losers r)
 sub:∀ j∈(s.behind r).top,j∈r.top
 len:(s.behind r).top.length + (if s.drops=true then 1 else 0)=r.top.length
theorem J2b {r l:Rst} {los:List Nat} {t:Int} {a:Nat} {v:Int} (nd:l.top.Nodup) (nl:los.Nodup) (hs:∀ j∈los,j∈l.top) (hl:l.ls=r.ls.set a v) (ha:a ∉ los) :
  madeS l.ls los t l.top=l.size + t * lenOf r.ls los:=by
 rw [madeS_eq,J1m (J41 nd nl hs)];rw [hl,Jr _ _ ha,<- hl];rfl
theorem Rst.Ok.down {r:Rst} (h:r.Ok) (ne:r.top≠[]):Down r (nextN r):=by
 have n:=nextP h ne;have ok:=h.next ne;have w:=n.win h ne;have mT:=h.mT ne;have mB:=h.mB ne;have nd:=h.row.nd;have ndB:=h.rowB.nd;have nl:=NextP.losers_nd h (s:=nextN r);have hlt:=h.row.lt;have pos:=h.row.pos;generalize nextN r=s at *
 cases s with
 | home a =>
  have wa:a∈r.top:=w;have sz:((Stp.home a).behind r).size=lenOf r.ls (withoutR r.top a):=Jr _ _ (J3y _ _);have e:=J33 (ls:=r.ls) nd wa;have p:=pos a wa;have e2:r.size=lenOf r.ls r.top:=rfl;refine ⟨?_,by lia,?_,fun j hj=>(mem_without.mp hj).1,J2u nd wa⟩
  ·show ((Stp.home a).behind r).size + 1 * lenOf r.ls [] + (if true=true then r.ls.getD a 0 else 0)=r.size;rw [if_pos rfl,J1q];lia
  ·exact J2b (a:=a) (v:=0) ok.row.nd nl (fun j hj=>nomatch hj) rfl (fun q=>nomatch q)
 | even a b =>
  obtain ⟨n1,n2,n3,n4⟩:=n;have wa:a∈r.top:=w;have wb:b∈r.top:=by rw [n2];exact mB
  have sz:((Stp.even a b).behind r).size=lenOf r.ls (withoutR r.top a):=Jr _ _ (J3y _ _);have e:=J33 (ls:=r.ls) nd wa;have p:=pos a wa;have e2:r.size=lenOf r.ls r.top:=rfl;have eb:lenOf r.ls [b]=r.ls.getD b 0:=by rw [Jm,J1q,Int.add_zero]
  refine ⟨?_,by lia,?_,fun j hj=>(mem_without.mp hj).1,J2u nd wa⟩
  ·show ((Stp.even a b).behind r).size + 1 * lenOf r.ls [b] + (if false=true then r.ls.getD a 0 else 0)=r.size;rw [if_neg (by decide),eb];lia
  ·refine J2b (a:=a) (v:=0) ok.row.nd nl (fun j hj=>?_) rfl (fun q=>?_)
   ·cases mem_singleton.mp hj;exact mem_without.mpr ⟨wb,fun e=>n3 e.symm⟩
   ·exact n3 (mem_singleton.mp q)
 | over a b =>
  obtain ⟨n1,n2,n3,n4⟩:=n;have wa:a∈r.top:=w;have wb:b∈r.top:=by rw [n2];exact mB
  have sz:((Stp.over a b).behind r).size=lenOf r.ls r.top - r.ls.getD a 0 + (r.ls.getD a 0 - r.ls.getD b 0):=J2r _ _ (hlt a wa) nd wa;have p:=pos b wb;have e2:r.size=lenOf r.ls r.top:=rfl;have eb:lenOf r.ls [b]=r.ls.getD b 0:=by rw [Jm,J1q,Int.add_zero]
  refine ⟨?_,by lia,?_,fun j hj=>hj,rfl⟩
  ·show ((Stp.over a b).behind r).size + 1 * lenOf r.ls [b] + (if false=true then r.ls.getD a 0 else 0)=r.size;rw [if_neg (by decide),eb];lia
  ·refine J2b (a:=a) (v:=r.ls.getD a 0 - r.ls.getD b 0) ok.row.nd nl (fun j hj=>?_) rfl (fun q=>?_)
   ·cases mem_singleton.mp hj;exact wb
   ·exact n3 (mem_singleton.mp q)
 | under a b =>
  obtain ⟨n1,n2,n3,n4⟩:=n;have wa:a∈r.top:=w;have wb:b∈r.top:=by rw [n2];exact mT
  have pp:=J2h nd (w:=a) wb (r.ts.getD a false);have sz:((Stp.under a b).behind r).size=lenOf r.ls r.top - r.ls.getD a 0 + (r.ls.getD a 0 - r.ls.getD b 0):=(J1m pp).trans (J2r _ _ (hlt a wa) nd wa);have p:=pos b wb;have e2:r.size=lenOf r.ls r.top:=rfl;have eb:lenOf r.ls [b]=r.ls.getD b 0:=by rw [Jm,J1q,Int.add_zero]
  refine ⟨?_,by lia,?_,fun j hj=>pp.mem_iff.mp hj,pp.length_eq⟩
  ·show ((Stp.under a b).behind r).size + 1 * lenOf r.ls [b] + (if false=true then r.ls.getD a 0 else 0)=r.size;rw [if_neg (by decide),eb];lia
  ·refine J2b (a:=a) (v:=r.ls.getD a 0 - r.ls.getD b 0) ok.row.nd nl (fun j hj=>?_) rfl (fun q=>?_)
   ·cases mem_singleton.mp hj;exact pp.mem_iff.mpr wb
   ·exact n3 (mem_singleton.mp q)
 | overs a t =>
  obtain ⟨n1,n2,n3,n4,n5,n6⟩:=n;have wa:a∈r.top:=w;have wab:a∈r.bot:=h.perm.mem_iff.mpr wa;have sz:((Stp.overs a t).behind r).size=lenOf r.ls r.top - r.ls.getD a 0 + (r.ls.getD a 0 - t * lenOf r.ls (J9 r.bot a)):=J2r _ _ (hlt a wa) nd wa;have e2:r.size=lenOf r.ls r.top:=rfl;have p:1<=t * lenOf r.ls (J9 r.bot a):=by
   have:=Int.mul_le_mul n4 n5 (by decide) (by lia);lia
  refine ⟨?_,by lia,?_,fun j hj=>hj,rfl⟩
  ·show ((Stp.overs a t).behind r).size + t * lenOf r.ls (J9 r.bot a) + (if false=true then r.ls.getD a 0 else 0)=r.size;rw [if_neg (by decide)];lia
  ·exact J2b (a:=a) ok.row.nd nl (fun j hj=>h.perm.mem_iff.mp (Jw hj)) rfl (Jy ndB wab)
 | unders a t =>
  obtain ⟨n1,n2,n3,n4,n5,n6⟩:=n;have wa:a∈r.top:=w;have sz:((Stp.unders a t).behind r).size=lenOf r.ls r.top - r.ls.getD a 0 + (r.ls.getD a 0 - t * lenOf r.ls (J9 r.top a)):=J2r _ _ (hlt a wa) nd wa;have e2:r.size=lenOf r.ls r.top:=rfl;have p:1<=t * lenOf r.ls (J9 r.top a):=by
   have:=Int.mul_le_mul n4 n5 (by decide) (by lia);lia
  refine ⟨?_,by lia,?_,fun j hj=>hj,rfl⟩
  ·show ((Stp.unders a t).behind r).size + t * lenOf r.ls (J9 r.top a) + (if false=true then r.ls.getD a 0 else 0)=r.size;rw [if_neg (by decide)];lia
  ·exact J2b (a:=a) ok.row.nd nl (fun j hj=>Jw hj) rfl (Jy nd wa)
end Rl
namespace Rl
def fS (f:Nat->Int) (row:List Nat):Int:=(row.map f).sum
theorem fS_nil (f:Nat->Int):fS f []=0:=rfl
theorem J25 (f:Nat->Int) (j:Nat) (row:List Nat):fS f (j :: row)=f j + fS f row:=by unfold fS;rw [map_cons,sum_cons]
theorem fS_perm {f:Nat->Int} {xs ys:List Nat} (h:xs.Perm ys):fS f xs=fS f ys:=J63 (h.map _)
theorem J4t {f g:Nat->Int}:∀ {row:List Nat},(∀ j∈row,f j=g j)->fS f row=fS g row
 | [],_=>rfl
 | j :: row,h=>by
  rw [J25,J25,h j mem_cons_self,J4t fun i hi=>h i (mem_cons_of_mem _ hi)]
theorem fS_add (f g:Nat->Int):∀ row:List Nat,fS (fun j=>f j + g j) row=fS f row + fS g row
 | []=>rfl
 | j :: row=>by
  rw [J25,J25,J25,fS_add f g row];lia
theorem J5i {f:Nat->Int} {row:List Nat} (nd:row.Nodup) {a:Nat} (ha:a∈row):fS f (withoutR row a) + f a=fS f row:=by
 rw [<- fS_perm (J1x nd ha),J25];lia
theorem fS_if (c:Int) (f:Nat->Int) (los:List Nat):∀ row:List Nat,fS (fun j=>if j∈los then c * f j else 0) row=c * fS f (row.filter fun j=>decide (j∈los))
 | []=>by simp [fS_nil]
 | j :: row=>by
  rw [J25,fS_if c f los row,filter_cons];by_cases q:j∈los
  ·rw [if_pos q,if_pos (decide_eq_true q),J25,Int.mul_add]
  ·rw [if_neg q,if_neg (by simpa using q)];lia
theorem fS_nonneg {f:Nat->Int}:∀ {row:List Nat},(∀ j∈row,0<=f j)->0<=fS f row
 | [],_=>Int.le_refl _
 | j :: row,h=>by
  rw [J25];have:=h j mem_cons_self;have:=fS_nonneg fun i hi=>h i (mem_cons_of_mem _ hi);lia
theorem fS_mem {f:Nat->Int}:∀ {row:List Nat},(∀ j∈row,0<=f j)->∀ {j:Nat},j∈row->f j<=fS f row
 | a :: row,h,j,hj=>by
  rw [J25];have h1:=h a mem_cons_self;have h2:=fS_nonneg fun i hi=>h i (mem_cons_of_mem _ hi);rcases mem_cons.mp hj with rfl | hj
  ·lia
  ·have:=fS_mem (fun i hi=>h i (mem_cons_of_mem _ hi)) hj;lia
def towB (s:Stp) (r:Rst) (T:List Int):List Int:=(List.range T.length).map fun j=>if j∈(s.behind r).top then (if j∈s.losers r then T.getD j 0 + T.getD s.winner 0 * s.times else T.getD j 0) else 0
theorem towB_len (s:Stp) (r:Rst) (T:List Int):(towB s r T).length=T.length:=by unfold towB;rw [length_map,length_range]
theorem towB_get (s:Stp) (r:Rst) (T:List Int) {j:Nat} (h:j < T.length):(towB s r T).getD j 0=if j∈(s.behind r).top then (if j∈s.losers r then T.getD j 0 + T.getD s.winner 0 * s.times else T.getD j 0) else 0:=by
 unfold towB;rw [getD_eq_getElem?_getD,getElem?_map,getElem?_range h];rfl
def wS (ls T:List Int) (row:List Nat):Int:=fS (fun j=>ls.getD j 0 * T.getD j 0) row
theorem stays_aux {r l:Rst} {los:List Nat} {t v:Int} {a:Nat} {T T':List Int} (nd:r.top.Nodup) (wa:a∈r.top) (ha:a < r.ls.length) (nl:los.Nodup) (hs:∀ j∈los,j∈l.top) (al:a ∉ los) (hl:l.ls=r.ls.set a v) (ndl:l.top.Nodup)
  (hT:∀ j∈l.top,T'.getD j 0=T.getD j 0 + (if j∈los then T.getD a 0 * t else 0)) (htop:l.top.Perm r.top\/(l.top.Perm (withoutR r.top a)/\v=0)) :
  wS l.ls T' l.top=wS r.ls T r.top - r.ls.getD a 0 * T.getD a 0 + v * T.getD a 0 + T.getD a 0 * t * lenOf r.ls los:=by
 have e1:wS l.ls T' l.top=wS l.ls T l.top + T.getD a 0 * t * lenOf r.ls los:=by
  have c:wS l.ls T' l.top=fS (fun j=>l.ls.getD j 0 * T.getD j 0 + (if j∈los then (T.getD a 0 * t) * l.ls.getD j 0 else 0)) l.top:=J4t fun j hj=>by
   rw [hT j hj,Int.mul_add];by_cases q:j∈los
   ·rw [if_pos q,if_pos q,Int.mul_comm (l.ls.getD j 0) (T.getD a 0 * t)]
   ·rw [if_neg q,if_neg q,Int.mul_zero]
  rw [c,fS_add,fS_if];have e:fS (fun j=>l.ls.getD j 0) (l.top.filter fun j=>decide (j∈los))=lenOf r.ls los:=by
   rw [fS_perm (J41 ndl nl hs)];show lenOf l.ls los=_;rw [hl,Jr _ _ al]
  rw [e];rfl
 have ca:l.ls.getD a 0=v:=by rw [hl,J1f _ _ _ _ ha,if_pos rfl]
 have cw:fS (fun j=>l.ls.getD j 0 * T.getD j 0) (withoutR r.top a)=fS (fun j=>r.ls.getD j 0 * T.getD j 0) (withoutR r.top a):=J4t fun j hj=>by
  have q:=(mem_without.mp hj).2;show l.ls.getD j 0 * _=_;rw [hl,J1f _ _ _ _ ha,if_neg q]
 have full:=J5i (f:=fun j=>r.ls.getD j 0 * T.getD j 0) nd wa;have e2:wS l.ls T l.top=wS r.ls T r.top - r.ls.getD a 0 * T.getD a 0 + v * T.getD a 0:=by
  rcases htop with p | ⟨p,rfl⟩
  ·have e:=J5i (f:=fun j=>l.ls.getD j 0 * T.getD j 0) nd wa;unfold wS;rw [fS_perm p,<- e,cw];simp only [ca] at *;lia
  ·unfold wS;rw [fS_perm p,cw];simp only [Int.zero_mul] at *;lia
 rw [e1,e2]
theorem J4l {r:Rst} (h:r.Ok) (ne:r.top≠[]):if (nextN r).drops=true then ((nextN r).behind r).top=withoutR r.top (nextN r).winner else ((nextN r).behind r).top.Perm r.top:=by
 refine J1h h ne (p:=fun s=>if s.drops=true then (s.behind r).top=withoutR r.top s.winner else (s.behind r).top.Perm r.top) (fun _=>?_) (fun _ _=>?_) (fun _ _ _=>?_) (fun _ _ _=>?_) (fun t _ _ _ _ _ _ _ _=>?_) (fun t _ _ _ _ _ _ _ _=>?_)
 ·show withoutR r.top (lastT r)=withoutR r.top (lastT r);rfl
 ·show withoutR r.top (lastT r)=withoutR r.top (lastT r);rfl
 ·show List.Perm r.top r.top;exact List.Perm.refl _
 ·show List.Perm (putR r.top (lastB r) (lastT r) (r.ts.getD (lastB r) false)) r.top;exact J2h h.row.nd (h.mT ne) _
 ·show List.Perm r.top r.top;exact List.Perm.refl _
 ·show List.Perm r.top r.top;exact List.Perm.refl _
structure LosP (r:Rst) (s:Stp):Prop where
 sub:∀ j∈s.losers r,j∈(s.behind r).top
 no:s.winner ∉ s.losers r
 one:1<=s.times
 tl:s.isHome=false->r.ls.getD s.winner 0 - s.times * lenOf r.ls (s.losers r)=(s.behind r).ls.getD s.winner 0
 ls:(s.behind r).ls=r.ls.set s.winner ((s.behind r).ls.getD s.winner 0)
 zero:s.drops=true->(s.behind r).ls.getD s.winner 0=0
theorem nextL {r:Rst} (h:r.Ok) (ne:r.top≠[]):LosP r (nextN r):=by
 have n:=nextP h ne;have w:=n.win h ne;have mT:=h.mT ne;have mB:=h.mB ne;have nd:=h.row.nd;have ndB:=h.rowB.nd;have hlt:=h.row.lt;generalize nextN r=s at *;have sg:∀ (v:Int),(r.ls.set s.winner v).getD s.winner 0=v:=fun v=>by rw [J1f _ _ _ _ (hlt _ w),if_pos rfl]
 have one1:∀ b,lenOf r.ls [b]=r.ls.getD b 0:=fun b=>by rw [Jm,J1q,Int.add_zero]
 cases s with
 | home a =>
  have sg:∀ (v:Int),(r.ls.set a v).getD a 0=v:=sg;refine ⟨fun j hj=>(nomatch hj),fun q=>(nomatch q),Int.le_refl _,fun q=>(nomatch q),?_,fun _=>sg 0⟩;show r.ls.set a 0=r.ls.set a ((r.ls.set a 0).getD a 0);rw [sg]
 | even a b =>
  obtain ⟨n1,n2,n3,n4⟩:=n;have sg:∀ (v:Int),(r.ls.set a v).getD a 0=v:=sg;have wb:b∈r.top:=by rw [n2];exact mB
  refine ⟨fun j hj=>?_,fun q=>n3 (mem_singleton.mp q),Int.le_refl _,fun _=>?_,?_,fun _=>sg 0⟩
  ·cases mem_singleton.mp hj;exact mem_without.mpr ⟨wb,fun e=>n3 e.symm⟩
  ·show r.ls.getD a 0 - 1 * lenOf r.ls [b]=(r.ls.set a 0).getD a 0;rw [sg,one1];lia
  ·show r.ls.set a 0=r.ls.set a ((r.ls.set a 0).getD a 0);rw [sg]
 | over a b =>
  obtain ⟨n1,n2,n3,n4⟩:=n;have sg:∀ (v:Int),(r.ls.set a v).getD a 0=v:=sg;have wb:b∈r.top:=by rw [n2];exact mB
  refine ⟨fun j hj=>?_,fun q=>n3 (mem_singleton.mp q),Int.le_refl _,fun _=>?_,?_,fun q=>nomatch q⟩
  ·cases mem_singleton.mp hj;exact wb
  ·show r.ls.getD a 0 - 1 * lenOf r.ls [b]=(r.ls.set a (r.ls.getD a 0 - r.ls.getD b 0)).getD a 0;rw [sg,one1];lia
  ·show r.ls.set a _=r.ls.set a ((r.ls.set a (r.ls.getD a 0 - r.ls.getD b 0)).getD a 0);rw [sg]
 | under a b =>
  obtain ⟨n1,n2,n3,n4⟩:=n;have sg:∀ (v:Int),(r.ls.set a v).getD a 0=v:=sg;have wb:b∈r.top:=by rw [n2];exact mT
  have pp:=J2h nd (w:=a) wb (r.ts.getD a false);refine ⟨fun j hj=>?_,fun q=>n3 (mem_singleton.mp q),Int.le_refl _,fun _=>?_,?_,fun q=>nomatch q⟩
  ·cases mem_singleton.mp hj;exact pp.mem_iff.mpr wb
  ·show r.ls.getD a 0 - 1 * lenOf r.ls [b]=(r.ls.set a (r.ls.getD a 0 - r.ls.getD b 0)).getD a 0;rw [sg,one1];lia
  ·show r.ls.set a _=r.ls.set a ((r.ls.set a (r.ls.getD a 0 - r.ls.getD b 0)).getD a 0);rw [sg]
 | overs a t =>
  obtain ⟨n1,n2,n3,n4,n5,n6⟩:=n;have sg:∀ (v:Int),(r.ls.set a v).getD a 0=v:=sg;have wab:a∈r.bot:=h.perm.mem_iff.mpr w;refine ⟨fun j hj=>h.perm.mem_iff.mp (Jw hj),Jy ndB wab,n4,fun _=>?_,?_,fun q=>nomatch q⟩
  ·show r.ls.getD a 0 - t * lenOf r.ls (J9 r.bot a)=(r.ls.set a (r.ls.getD a 0 - t * lenOf r.ls (J9 r.bot a))).getD a 0;rw [sg]
  ·show r.ls.set a _=r.ls.set a ((r.ls.set a (r.ls.getD a 0 - t * lenOf r.ls (J9 r.bot a))).getD a 0);rw [sg]
 | unders a t =>
  obtain ⟨n1,n2,n3,n4,n5,n6⟩:=n;have sg:∀ (v:Int),(r.ls.set a v).getD a 0=v:=sg;refine ⟨fun j hj=>Jw hj,Jy nd w,n4,fun _=>?_,?_,fun q=>nomatch q⟩
  ·show r.ls.getD a 0 - t * lenOf r.ls (J9 r.top a)=(r.ls.set a (r.ls.getD a 0 - t * lenOf r.ls (J9 r.top a))).getD a 0;rw [sg]
  ·show r.ls.set a _=r.ls.set a ((r.ls.set a (r.ls.getD a 0 - t * lenOf r.ls (J9 r.top a))).getD a 0);rw [sg]
structure Tow (r:Rst) (T:List Int):Prop where
 len:T.length=r.ls.length
 pos:∀ j∈r.top,1<=T.getD j 0
 sum:wS r.ls T r.top<=10 ^ 30
theorem Tow.le {r:Rst} {T:List Int} (h:r.Ok) (t:Tow r T) {j:Nat} (hj:j∈r.top):T.getD j 0<=10 ^ 30:=by
 have h1:r.ls.getD j 0 * T.getD j 0<=wS r.ls T r.top:=fS_mem (f:=fun j=>r.ls.getD j 0 * T.getD j 0) (fun i hi=>Int.mul_nonneg (by have:=h.row.pos i hi;lia) (by have:=t.pos i hi;lia)) hj;have h2:1 * T.getD j 0<=r.ls.getD j 0 * T.getD j 0:=Int.mul_le_mul_of_nonneg_right (h.row.pos j hj) (by have:=t.pos j hj;lia);have:=t.sum;lia
theorem tow_in {r:Rst} (h:r.Ok) (ne:r.top≠[]) {T:List Int} (hT:T.length=r.ls.length) {j:Nat} (hj:j∈((nextN r).behind r).top) :
  (towB (nextN r) r T).getD j 0=T.getD j 0 + (if j∈(nextN r).losers r then T.getD (nextN r).winner 0 * (nextN r).times else 0):=by
 rw [towB_get _ _ _ (by rw [hT];exact h.row.lt j ((h.down ne).sub j hj)),if_pos hj];split <;> lia
theorem Rst.Ok.stay {r:Rst} (h:r.Ok) (ne:r.top≠[]) {T:List Int} (hT:T.length=r.ls.length) :
  wS ((nextN r).behind r).ls (towB (nextN r) r T) ((nextN r).behind r).top + (if (nextN r).isHome=true then r.ls.getD (nextN r).winner 0 * T.getD (nextN r).winner 0 else 0)=wS r.ls T r.top:=by
 have n:=nextP h ne;have w:=n.win h ne;have L:=nextL h ne;have okl:=h.next ne;have nl:=NextP.losers_nd h (s:=nextN r);have tp:=J4l h ne;have tin:=fun j=>@tow_in r h ne T hT j;have e:=stays_aux (T:=T) (T':=towB (nextN r) r T) (t:=(nextN r).times) h.row.nd w (h.row.lt _ w) nl L.sub L.no L.ls okl.row.nd (fun j hj=>tin j hj) (by
  by_cases c:(nextN r).drops=true
  ·rw [if_pos c] at tp;exact .inr ⟨by rw [tp],L.zero c⟩
  ·rw [if_neg c] at tp;exact .inl tp)
 rw [e];by_cases c:(nextN r).isHome=true
 ·have d:(nextN r).drops=true:=by
   generalize nextN r=s at *;cases s <;> first | rfl | exact absurd c Bool.false_ne_true
  have l0:lenOf r.ls ((nextN r).losers r)=0:=by
   generalize nextN r=s at *;cases s <;> first | rfl | exact absurd c Bool.false_ne_true
  rw [if_pos c,L.zero d,l0];lia
 ·rw [if_neg c];have t:=L.tl (by simpa using c);rw [<- t,Int.sub_mul,Int.mul_comm (T.getD (nextN r).winner 0) (nextN r).times,Int.mul_assoc,Int.mul_assoc,Int.mul_comm (T.getD (nextN r).winner 0) (lenOf r.ls ((nextN r).losers r))];lia
theorem Tow.next {r:Rst} {T:List Int} (h:r.Ok) (ne:r.top≠[]) (t:Tow r T):Tow ((nextN r).behind r) (towB (nextN r) r T):=by
 have L:=nextL h ne;have w:=(nextP h ne).win h ne;have pw:=t.pos _ w;have st:=h.stay ne t.len;refine ⟨?_,fun j hj=>?_,?_⟩
 ·rw [towB_len,t.len,L.ls,length_set]
 ·rw [tow_in h ne t.len hj];have:=t.pos j ((h.down ne).sub j hj);have m:1 * 1<=T.getD (nextN r).winner 0 * (nextN r).times:=Int.mul_le_mul pw L.one (by decide) (by lia);split <;> lia
 ·have:=t.sum;have z:0<=r.ls.getD (nextN r).winner 0 * T.getD (nextN r).winner 0:=Int.mul_nonneg (by have:=h.row.pos _ w;lia) (by lia);by_cases c:(nextN r).isHome=true
  ·rw [if_pos c] at st;lia
  ·rw [if_neg c] at st;lia
def lg (x:Int):Nat:=Nat.log2 x.toNat
theorem lg_le {x y:Int} (h1:1<=x) (h:x<=y):lg x<=lg y:=by
 unfold lg;have hx:x.toNat≠0:=by lia
 have hy:y.toNat≠0:=by lia
 have a:=(Nat.le_log2 hx (k:=x.toNat.log2)).mp (Nat.le_refl _);exact (Nat.le_log2 hy).mpr (by lia)
theorem lg_dbl {x y z:Int} (h1:1<=x) (h2:1<=y) (h:lg x<=lg y) (hz:x + y<=z):lg x + 1<=lg z:=by
 unfold lg at *;have hx:x.toNat≠0:=by lia
 have hy:y.toNat≠0:=by lia
 have hz':z.toNat≠0:=by lia
 have a:=(Nat.le_log2 hx (k:=x.toNat.log2)).mp (Nat.le_refl _);have b:=(Nat.le_log2 hy (k:=x.toNat.log2)).mp h;refine (Nat.le_log2 hz').mpr ?_;rw [Nat.pow_succ];lia
theorem lg_small {x:Int} (h1:1<=x) (h:x<=10 ^ 30):lg x<=99:=by
 unfold lg;have hx:x.toNat≠0:=by lia
 have:=(Nat.log2_lt hx (k:=100)).mpr (by lia);lia
def nS (f:Nat->Nat) (row:List Nat):Nat:=(row.map f).sum
theorem J3z (f:Nat->Nat) (j:Nat) (row:List Nat):nS f (j :: row)=f j + nS f row:=by unfold nS;rw [map_cons,sum_cons]
theorem nS_perm {f:Nat->Nat} {xs ys:List Nat} (h:xs.Perm ys):nS f xs=nS f ys:=by
 unfold nS
 induction h with
 | nil=>rfl
 | cons x _ ih=>rw [map_cons,map_cons,sum_cons,sum_cons,ih]
 | swap x y l=>simp only [map_cons,sum_cons];lia
 | trans _ _ ih1 ih2=>exact ih1.trans ih2
theorem nS_le {f g:Nat->Nat}:∀ {row:List Nat},(∀ j∈row,f j<=g j)->nS f row<=nS g row
 | [],_=>Nat.le_refl _
 | j :: row,h=>by
  rw [J3z,J3z];have:=h j mem_cons_self;have:=nS_le fun i hi=>h i (mem_cons_of_mem _ hi);lia
theorem nS_lt {f g:Nat->Nat}:∀ {row:List Nat},(∀ j∈row,f j<=g j)->∀ {b:Nat},b∈row->f b < g b->nS f row < nS g row
 | j :: row,h,b,hb,hlt=>by
  rw [J3z,J3z];have h1:=h j mem_cons_self;have h2:=nS_le fun i hi=>h i (mem_cons_of_mem _ hi);rcases mem_cons.mp hb with rfl | hb
  ·lia
  ·have:=nS_lt (fun i hi=>h i (mem_cons_of_mem _ hi)) hb hlt;lia
theorem J5d {f:Nat->Nat} {row:List Nat} (nd:row.Nodup) {a:Nat} (ha:a∈row):nS f (withoutR row a) + f a=nS f row:=by
 rw [<- nS_perm (J1x nd ha),J3z];lia
theorem nS_max {f:Nat->Nat} {c:Nat}:∀ {row:List Nat},(∀ j∈row,f j<=c)->nS f row<=row.length * c
 | [],_=>Nat.zero_le _
 | j :: row,h=>by
  rw [J3z,length_cons,Nat.succ_mul];have:=h j mem_cons_self;have:=nS_max fun i hi=>h i (mem_cons_of_mem _ hi);lia
abbrev fE (T:List Int) (row:List Nat):Nat:=nS (fun j=>100 - lg (T.getD j 0)) row
def need (ls:List Int):Int->List Nat->Nat
 | _,[]=>0
 | x,b :: bs=>if x<=ls.getD b 0 then 1 else 1 + need ls (x - ls.getD b 0) bs
theorem need_len (ls:List Int):∀ (x:Int) (bs:List Nat),need ls x bs<=bs.length
 | _,[]=>Nat.le_refl _
 | x,b :: bs=>by
  unfold need;have:=need_len ls (x - ls.getD b 0) bs;rw [length_cons];split <;> lia
theorem need_app (ls:List Int) (ys:List Nat):∀ (x:Int) (bs:List Nat),1<=x->x<=lenOf ls bs->need ls x (bs ++ ys)=need ls x bs
 | x,[],h1,h2=>by rw [J1q] at h2;lia
 | x,b :: bs,h1,h2=>by
  rw [Jm] at h2;rw [List.cons_append];unfold need;by_cases c:x<=ls.getD b 0
  ·rw [if_pos c,if_pos c]
  ·rw [if_neg c,if_neg c,need_app ls ys (x - ls.getD b 0) bs (by lia) (by lia)]
theorem J5c {ls ls':List Int}:∀ (x:Int) {bs:List Nat},(∀ j∈bs,ls.getD j 0=ls'.getD j 0)->need ls x bs=need ls' x bs
 | _,[],_=>rfl
 | x,b :: bs,h=>by
  unfold need;rw [h b mem_cons_self,J5c (x - ls'.getD b 0) fun j hj=>h j (mem_cons_of_mem _ hj)]
def mu (r:Rst):Stp->Nat
 | .over a _=>if r.ts.getD a false=true then (J9 r.bot a).length else need r.ls (r.ls.getD a 0) (J9 r.bot a).reverse
 | .under a _=>if r.ts.getD a false=true then (J9 r.top a).length else need r.ls (r.ls.getD a 0) (J9 r.top a).reverse
 | .overs _ _=>25
 | .unders _ _=>25
 | _=>0
theorem behind_len (row:List Nat) (a:Nat):(J9 row a).length<=row.length:=by unfold J9;rw [length_drop];lia
theorem J39 {ls:List Int} {ts:List Bool} {row:List Nat} {a:Nat} (h:row.length<=24):(if ts.getD a false=true then (J9 row a).length else need ls (ls.getD a 0) (J9 row a).reverse)<=24:=by
 have h1:=behind_len row a;have h2:=need_len ls (ls.getD a 0) (J9 row a).reverse;rw [List.length_reverse] at h2;split <;> lia
theorem Rst.Ok.len24 {r:Rst} (h:r.Ok):r.top.length<=24/\r.bot.length<=24:=⟨Nat.le_trans h.row.len_le h.few,Nat.le_trans h.rowB.len_le h.few⟩
theorem mu_le {r:Rst} (h:r.Ok) (s:Stp):mu r s<=25:=by
 obtain ⟨h1,h2⟩:=h.len24
 cases s with
 | over a b=>exact Nat.le_succ_of_le (J39 h2)
 | under a b=>exact Nat.le_succ_of_le (J39 h1)
 | _=>first | exact Nat.le_refl _ | exact Nat.zero_le _
theorem J3p {s:List Nat} {a:Nat} (t:List Nat) (h:a ∉ s):J9 (s ++ a :: t) a=t:=by
 unfold J9;rw [idx_app t h,show s ++ a :: t=(s ++ [a]) ++ t by simp,show s.length + 1=(s ++ [a]).length by simp,List.drop_left]
theorem behind_put {row:List Nat} (nd:row.Nodup) {a b:Nat} (ha:a∈row) (hb:row.getD (row.length - 1) 0=b) (hab:a≠b) :
  ∃ q,J9 row a=q ++ [b]/\J9 (putR row a b false) a=b :: q/\J9 (putR row a b true) a=q/\a ∉ q:=by
 have hne:row≠[]:=fun e=>by rw [e] at ha;cases ha
 have e:=split_last hne;rw [hb] at e;generalize row.dropLast=d at e;subst e;have had:a∈d:=(mem_append.mp ha).resolve_right fun q=>hab (mem_singleton.mp q);obtain ⟨s,t,rfl⟩:=List.append_of_mem had;have n1:=List.nodup_append.mp nd;have n2:=List.nodup_append.mp n1.1;have n3:=nodup_cons.mp n2.2.1;have as:a ∉ s:=fun q=>n2.2.2 a q a mem_cons_self rfl;have bd:b ∉ s ++ a :: t:=fun q=>n1.2.2 b q b (by simp) rfl;have at_:a ∉ t:=n3.1
 have w1:withoutR (s ++ a :: t ++ [b]) b=s ++ a :: t:=by
  rw [without_app,J5o,append_nil];exact without_not bd
 have t1:(s ++ a :: t).take (s.length + 1)=s ++ [a]:=by
  rw [show s ++ a :: t=(s ++ [a]) ++ t by simp,show s.length + 1=(s ++ [a]).length by simp,List.take_left]
 have t2:(s ++ a :: t).drop (s.length + 1)=t:=by
  rw [show s ++ a :: t=(s ++ [a]) ++ t by simp,show s.length + 1=(s ++ [a]).length by simp,List.drop_left]
 refine ⟨t,?_,?_,?_,at_⟩
 ·rw [show s ++ a :: t ++ [b]=s ++ a :: (t ++ [b]) by simp];exact J3p _ as
 ·unfold putR;rw [w1,idx_app t as,if_neg (by decide),t1,t2];rw [show s ++ [a] ++ [b] ++ t=s ++ a :: (b :: t) by simp];exact J3p _ as
 ·unfold putR;rw [w1,idx_app t as,if_pos rfl,List.take_left,List.drop_left];rw [show s ++ [b] ++ a :: t=(s ++ [b]) ++ a :: t by simp];refine J3p _ fun q=>?_;rcases mem_append.mp q with q | q
  ·exact as q
  ·exact hab (mem_singleton.mp q)
theorem J2a {row:List Nat} {a:Nat} (ha:a∈row) (h:row.getD (row.length - 1) 0≠a):row.getD (row.length - 1) 0∈J9 row a:=by
 have hne:row≠[]:=fun e=>by rw [e] at ha;cases ha
 have h1:row.idxOf a < row.length:=idxOf_lt_length_iff.mpr ha;have h2:row[row.idxOf a]=a:=getElem_idxOf h1;have hl:row.length - 1 < row.length:=by lia
 have e:row.getD (row.length - 1) 0=row[row.length - 1]:=by rw [getD_eq_getElem?_getD,List.getElem?_eq_getElem hl];rfl
 rw [e] at h ⊢;have h3:row.idxOf a≠row.length - 1:=fun q=>h (by simp only [<- q];exact h2);unfold J9;refine List.mem_iff_getElem.mpr ⟨row.length - 1 - (row.idxOf a + 1),by rw [length_drop];lia,?_⟩;rw [List.getElem_drop]
 congr 1
 lia
end Rl
namespace Rl
theorem J5e (ls:List Int) (row:List Nat):lenOf ls row.reverse=lenOf ls row:=J1m (List.reverse_perm row)
theorem mu_down {ls:List Int} {ts ts':List Bool} {row:List Nat} {a b:Nat} (nd:row.Nodup) (ha:a∈row) (hb:row.getD (row.length - 1) 0=b) (hab:a≠b) (hal:a < ls.length) (hb0:1<=ls.getD b 0)
  (hgt:ls.getD b 0 < ls.getD a 0) (hc:ts.getD a false=true\/ls.getD a 0<=lenOf ls (J9 row a)) (ht:ts'.getD a false=ts.getD a false) :
  ((if ts'.getD a false=true then (J9 (putR row a b (ts.getD a false)) a).length else need (ls.set a (ls.getD a 0 - ls.getD b 0)) ((ls.set a (ls.getD a 0 - ls.getD b 0)).getD a 0) (J9 (putR row a b (ts.getD a false)) a).reverse) <
  (if ts.getD a false=true then (J9 row a).length else need ls (ls.getD a 0) (J9 row a).reverse))/\
  (ts'.getD a false=false->¬ lenOf (ls.set a (ls.getD a 0 - ls.getD b 0)) (J9 (putR row a b (ts.getD a false)) a) < (ls.set a (ls.getD a 0 - ls.getD b 0)).getD a 0):=by
 obtain ⟨q,q1,q2,q3,q4⟩:=behind_put nd ha hb hab;have sg:(ls.set a (ls.getD a 0 - ls.getD b 0)).getD a 0=ls.getD a 0 - ls.getD b 0:=by rw [J1f _ _ _ _ hal,if_pos rfl]
 rw [ht,sg];by_cases c:ts.getD a false=true
 ·rw [c,if_pos rfl,if_pos rfl,q3,q1];exact ⟨by simp,fun e=>nomatch e⟩
 ·have c':ts.getD a false=false:=by simpa using c
  have hS:=hc.resolve_left c;rw [c',if_neg (by decide),if_neg (by decide),q2,q1];rw [q1,J21,Jm,J1q] at hS;constructor
  ·rw [List.reverse_cons,List.reverse_append,List.reverse_cons,List.reverse_nil,nil_append,List.cons_append,nil_append];have e1:need ls (ls.getD a 0) (b :: q.reverse)=1 + need ls (ls.getD a 0 - ls.getD b 0) q.reverse:=by
    rw [need,if_neg (by lia)]
   have e2:need (ls.set a (ls.getD a 0 - ls.getD b 0)) (ls.getD a 0 - ls.getD b 0) (q.reverse ++ [b])=need ls (ls.getD a 0 - ls.getD b 0) (q.reverse ++ [b]):=J5c _ fun j hj=>by
    have:j≠a:=fun e=>by
     subst e;rcases mem_append.mp hj with x | x
     ·exact q4 (List.mem_reverse.mp x)
     ·exact hab (mem_singleton.mp x)
    rw [J1f _ _ _ _ hal,if_neg this]
   rw [e1,e2,need_app _ _ _ _ (by lia) (by rw [J5e];lia)];lia
  ·intro _;rw [Jr _ _ (fun x=>by
    rcases mem_cons.mp x with x | x
    ·exact hab x
    ·exact q4 x),Jm]
   lia
theorem J4y {x S t:Int} (hS:1<=S) (ht:t=(x - 1) / S):x - t * S<=S:=by
 subst ht;have h1:=Int.emod_lt_of_pos (x - 1) (show 0 < S by lia);have h2:=Int.mul_ediv_add_emod (x - 1) S;rw [Int.mul_comm] at h2;lia
theorem run_down {r:Rst} (h:r.Ok) (ne:r.top≠[]):(nextN r).drops=false->(nextN ((nextN r).behind r)).drops=false->
  ((nextN ((nextN r).behind r)).winner=(nextN r).winner/\mu ((nextN r).behind r) (nextN ((nextN r).behind r)) < mu r (nextN r))\/(nextN r).winner∈(nextN ((nextN r).behind r)).losers ((nextN r).behind r):=by
 have okl:=h.next ne;have tp:=J4l h ne;have mT:=h.mT ne;have mB:=h.mB ne;have mTb:=h.perm.mem_iff.mpr mT;have mBb:=h.perm.mem_iff.mpr mB;have nd:=h.row.nd;have ndB:=h.rowB.nd;have hlt:=h.row.lt
 revert okl tp
 refine J1h h ne (p:=fun s=>(s.behind r).Ok->(if s.drops=true then (s.behind r).top=withoutR r.top s.winner else (s.behind r).top.Perm r.top)->s.drops=false->(nextN (s.behind r)).drops=false->
  ((nextN (s.behind r)).winner=s.winner/\mu (s.behind r) (nextN (s.behind r)) < mu r s)\/s.winner∈(nextN (s.behind r)).losers (s.behind r))
  (fun _ _ _ e=>nomatch e) (fun _ _ _ _ e=>nomatch e) ?_ ?_ ?_ ?_
 ·intro c1 c2 c3 okl tp _;have tp:List.Perm ((Stp.over (lastT r) (lastB r)).behind r).top r.top:=tp;have nel:((Stp.over (lastT r) (lastB r)).behind r).top≠[]:=fun e=>ne (by rw [e] at tp;exact tp.symm.eq_nil);have et:(J2c r (lastT r) (lastB r)).getD (lastT r) false=r.ts.getD (lastT r) false:=by
   unfold J2c;rw [J2g _ _ _ _ (by rw [h.len];exact hlt _ mB),if_neg c1]
  have md:=mu_down (ts':=J2c r (lastT r) (lastB r)) ndB mTb rfl c1 (hlt _ mT) (h.row.pos _ mB) c2 c3 et;refine J1h okl nel (p:=fun s'=>s'.drops=false->(s'.winner=lastT r/\mu ((Stp.over (lastT r) (lastB r)).behind r) s' < mu r (.over (lastT r) (lastB r)))\/lastT r∈s'.losers ((Stp.over (lastT r) (lastB r)).behind r))
   (fun _ e=>nomatch e) (fun _ _ e=>nomatch e) ?_ ?_ ?_ ?_
  ·intro d1 d2 d3 _;exact .inl ⟨rfl,md.1⟩
  ·intro d1 d2 d3 _;exact .inr (mem_singleton.mpr rfl)
  ·intro t d1 d2 d3 d4 d5 d6 _ _ _;exact absurd d6 (md.2 d3)
  ·intro t d1 d2 d3 d4 d5 d6 _ _ _;exact .inr (J2a (okl.mB nel) d1)
 ·intro c1 c2 c3 okl tp _;have tp:List.Perm ((Stp.under (lastB r) (lastT r)).behind r).top r.top:=tp;have nel:((Stp.under (lastB r) (lastT r)).behind r).top≠[]:=fun e=>ne (by rw [e] at tp;exact tp.symm.eq_nil);have et:(J2c r (lastB r) (lastT r)).getD (lastB r) false=r.ts.getD (lastB r) false:=by
   unfold J2c;rw [J2g _ _ _ _ (by rw [h.len];exact hlt _ mT),if_neg (fun e=>c1 e.symm)]
  have md:=mu_down (ts':=J2c r (lastB r) (lastT r)) nd mB rfl (fun e=>c1 e.symm) (hlt _ mB) (h.row.pos _ mT) c2 c3 et;refine J1h okl nel (p:=fun s'=>s'.drops=false->(s'.winner=lastB r/\mu ((Stp.under (lastB r) (lastT r)).behind r) s' < mu r (.under (lastB r) (lastT r)))\/lastB r∈s'.losers ((Stp.under (lastB r) (lastT r)).behind r))
   (fun _ e=>nomatch e) (fun _ _ e=>nomatch e) ?_ ?_ ?_ ?_
  ·intro d1 d2 d3 _;exact .inr (mem_singleton.mpr rfl)
  ·intro d1 d2 d3 _;exact .inl ⟨rfl,md.1⟩
  ·intro t d1 d2 d3 d4 d5 d6 _ _ _;exact .inr (J2a (okl.perm.mem_iff.mpr (okl.mT nel)) (fun e=>d1 e.symm))
  ·intro t d1 d2 d3 d4 d5 d6 _ _ _;exact absurd d6 (md.2 d3)
 ·intro t c1 c2 c3 c4 c5 c6 c7 c8 okl tp _;have tp:List.Perm ((Stp.overs (lastT r) t).behind r).top r.top:=tp;have nel:((Stp.overs (lastT r) t).behind r).top≠[]:=fun e=>ne (by rw [e] at tp;exact tp.symm.eq_nil);have hx:=J4y c5 c7;have sg:((Stp.overs (lastT r) t).behind r).ls.getD (lastT r) 0=r.ls.getD (lastT r) 0 - t * lenOf r.ls (J9 r.bot (lastT r)):=by
   show (r.ls.set (lastT r) _).getD (lastT r) 0=_;rw [J1f _ _ _ _ (hlt _ mT),if_pos rfl]
  have so:lenOf ((Stp.overs (lastT r) t).behind r).ls (J9 r.bot (lastT r))=lenOf r.ls (J9 r.bot (lastT r)):=Jr _ _ (Jy ndB mTb);refine J1h okl nel (p:=fun s'=>s'.drops=false->(s'.winner=lastT r/\mu ((Stp.overs (lastT r) t).behind r) s' < mu r (.overs (lastT r) t))\/lastT r∈s'.losers ((Stp.overs (lastT r) t).behind r))
   (fun _ e=>nomatch e) (fun _ _ e=>nomatch e) ?_ ?_ ?_ ?_
  ·intro d1 d2 d3 _;refine .inl ⟨rfl,Nat.lt_succ_of_le ?_⟩;exact J39 (ls:=((Stp.overs (lastT r) t).behind r).ls) (ts:=r.ts) (a:=lastT r) h.len24.2
  ·intro d1 d2 d3 _;exact .inr (mem_singleton.mpr rfl)
  ·intro t' d1 d2 d3 d4 d5 d6 _ _ _;have d6:lenOf ((Stp.overs (lastT r) t).behind r).ls (J9 r.bot (lastT r)) < ((Stp.overs (lastT r) t).behind r).ls.getD (lastT r) 0:=d6;rw [so,sg] at d6;lia
  ·intro t' d1 d2 d3 d4 d5 d6 _ _ _;exact .inr (J2a (okl.mB nel) d1)
 ·intro t c1 c2 c3 c4 c5 c6 c7 c8 okl tp _;have tp:List.Perm ((Stp.unders (lastB r) t).behind r).top r.top:=tp;have nel:((Stp.unders (lastB r) t).behind r).top≠[]:=fun e=>ne (by rw [e] at tp;exact tp.symm.eq_nil);have hx:=J4y c5 c7;have sg:((Stp.unders (lastB r) t).behind r).ls.getD (lastB r) 0=r.ls.getD (lastB r) 0 - t * lenOf r.ls (J9 r.top (lastB r)):=by
   show (r.ls.set (lastB r) _).getD (lastB r) 0=_;rw [J1f _ _ _ _ (hlt _ mB),if_pos rfl]
  have so:lenOf ((Stp.unders (lastB r) t).behind r).ls (J9 r.top (lastB r))=lenOf r.ls (J9 r.top (lastB r)):=Jr _ _ (Jy nd mB);refine J1h okl nel (p:=fun s'=>s'.drops=false->(s'.winner=lastB r/\mu ((Stp.unders (lastB r) t).behind r) s' < mu r (.unders (lastB r) t))\/lastB r∈s'.losers ((Stp.unders (lastB r) t).behind r))
   (fun _ e=>nomatch e) (fun _ _ e=>nomatch e) ?_ ?_ ?_ ?_
  ·intro d1 d2 d3 _;exact .inr (mem_singleton.mpr rfl)
  ·intro d1 d2 d3 _;refine .inl ⟨rfl,Nat.lt_succ_of_le ?_⟩;exact J39 (ls:=((Stp.unders (lastB r) t).behind r).ls) (ts:=r.ts) (a:=lastB r) h.len24.1
  ·intro t' d1 d2 d3 d4 d5 d6 _ _ _;exact .inr (J2a (okl.perm.mem_iff.mpr (okl.mT nel)) (fun e=>d1 e.symm))
  ·intro t' d1 d2 d3 d4 d5 d6 _ _ _;have d6:lenOf ((Stp.unders (lastB r) t).behind r).ls (J9 r.top (lastB r)) < ((Stp.unders (lastB r) t).behind r).ls.getD (lastB r) 0:=d6;rw [so,sg] at d6;lia
def Up (r:Rst) (T:List Int) (s:Stp):Prop:=s.drops=true\/∃ b∈s.losers r,lg (T.getD b 0)<=lg (T.getD s.winner 0)
open Classical in
noncomputable def pot (r:Rst) (T:List Int):Nat :=
 if r.top=[] then 0 else (fE T r.top * 102 + (if Up r T (nextN r) then 0 else lg (T.getD (nextN r).winner 0) + 1)) * 26 + (if Up r T (nextN r) then 0 else mu r (nextN r))
theorem Tow.lg99 {r:Rst} {T:List Int} (h:r.Ok) (t:Tow r T) {j:Nat} (hj:j∈r.top):lg (T.getD j 0)<=99:=lg_small (t.pos j hj) (t.le h hj)
theorem pot_le {r:Rst} {T:List Int} (h:r.Ok) (t:Tow r T):pot r T<=6367451:=by
 unfold pot;by_cases c:r.top=[]
 ·rw [if_pos c];lia
 rw [if_neg c];have h1:fE T r.top<=r.top.length * 100:=nS_max fun j _=>by lia
 have h2:=h.len24.1;have h3:=t.lg99 h ((nextP h c).win h c);have h4:=mu_le h (nextN r);split <;> lia
theorem up_lt {r:Rst} {T:List Int} (h:r.Ok) (ne:r.top≠[]) (t:Tow r T):fE (towB (nextN r) r T) ((nextN r).behind r).top<=fE T r.top/\(Up r T (nextN r)->fE (towB (nextN r) r T) ((nextN r).behind r).top < fE T r.top):=by
 have L:=nextL h ne;have w:=(nextP h ne).win h ne;have pw:=t.pos _ w;have tp:=J4l h ne;have okl:=h.next ne;have tl:=t.next h ne;have sub:=(h.down ne).sub;have one:T.getD (nextN r).winner 0<=T.getD (nextN r).winner 0 * (nextN r).times:=by
  have:T.getD (nextN r).winner 0 * 1<=T.getD (nextN r).winner 0 * (nextN r).times:=Int.mul_le_mul_of_nonneg_left L.one (by lia);lia
 have le:∀ j∈((nextN r).behind r).top,T.getD j 0<=(towB (nextN r) r T).getD j 0:=fun j hj=>by
  rw [tow_in h ne t.len hj];split <;> lia
 have mono:∀ j∈((nextN r).behind r).top,100 - lg ((towB (nextN r) r T).getD j 0)<=100 - lg (T.getD j 0):=fun j hj=>by
  have:=lg_le (t.pos j (sub j hj)) (le j hj);lia
 have m:=nS_le (f:=fun j=>100 - lg ((towB (nextN r) r T).getD j 0)) (g:=fun j=>100 - lg (T.getD j 0)) mono;by_cases c:(nextN r).drops=true
 ·rw [if_pos c] at tp;have e:=J5d (f:=fun j=>100 - lg (T.getD j 0)) h.row.nd w;have g:=t.lg99 h w;rw [<- tp] at e;have:fE (towB (nextN r) r T) ((nextN r).behind r).top < fE T r.top:=by
   show nS _ _ < nS _ _;rw [<- e];lia
  exact ⟨Nat.le_of_lt this,fun _=>this⟩
 ·rw [if_neg c] at tp;have e:fE T ((nextN r).behind r).top=fE T r.top:=nS_perm tp;refine ⟨by rw [<- e];exact m,fun u=>?_⟩;rcases u with u | ⟨b,hb,hg⟩
  ·exact absurd u c
  rw [<- e];have bl:=L.sub b hb;refine nS_lt mono bl ?_;have e2:=tow_in h ne t.len bl;rw [if_pos hb] at e2;have d:=lg_dbl (z:=(towB (nextN r) r T).getD b 0) (t.pos b (sub b bl)) pw hg (by lia);have g:=tl.lg99 okl bl;lia
theorem pot_lt {r:Rst} {T:List Int} (h:r.Ok) (ne:r.top≠[]) (t:Tow r T):pot ((nextN r).behind r) (towB (nextN r) r T) < pot r T:=by
 obtain ⟨f1,f2⟩:=up_lt h ne t;have okl:=h.next ne;have tl:=t.next h ne;have L:=nextL h ne;have w:=(nextP h ne).win h ne;unfold pot;rw [if_neg ne];have fpos:1<=fE T r.top:=by
  have e:=J5d (f:=fun j=>100 - lg (T.getD j 0)) h.row.nd w;have g:=t.lg99 h w;show 1<=nS _ _;rw [<- e];lia
 by_cases c:((nextN r).behind r).top=[]
 ·rw [if_pos c];lia
 rw [if_neg c];have w':=(nextP okl c).win okl c;have g':=tl.lg99 okl w';have m':=mu_le okl (nextN ((nextN r).behind r));by_cases u:Up r T (nextN r)
 ·rw [if_pos u,if_pos u];have:=f2 u;split <;> lia
 rw [if_neg u,if_neg u];by_cases u':Up ((nextN r).behind r) (towB (nextN r) r T) (nextN ((nextN r).behind r))
 ·rw [if_pos u',if_pos u'];lia
 rw [if_neg u',if_neg u'];have d1:(nextN r).drops=false:=by
  cases q:(nextN r).drops
  ·rfl
  ·exact absurd (.inl q) u
 have d2:(nextN ((nextN r).behind r)).drops=false:=by
  cases q:(nextN ((nextN r).behind r)).drops
  ·rfl
  ·exact absurd (.inl q) u'
 have tp:=J4l h ne;rw [if_neg (by rw [d1];decide)] at tp;have wl:(nextN r).winner∈((nextN r).behind r).top:=tp.mem_iff.mpr w;have ew:(towB (nextN r) r T).getD (nextN r).winner 0=T.getD (nextN r).winner 0:=by
  rw [tow_in h ne t.len wl,if_neg L.no];lia
 rcases run_down h ne d1 d2 with ⟨e,m⟩ | q
 ·rw [e,ew];lia
 ·have hg:¬ lg ((towB (nextN r) r T).getD (nextN r).winner 0)<=lg ((towB (nextN r) r T).getD (nextN ((nextN r).behind r)).winner 0):=fun x=>u' (.inr ⟨_,q,x⟩);rw [ew] at hg;lia
abbrev Cst:=Rst × List Int
def chS (p:Cst):Cst:=((nextN p.1).behind p.1,towB (nextN p.1) p.1 p.2)
def chN (p:Cst):Nat->Cst
 | 0=>p
 | k + 1=>chS (chN p k)
abbrev Band:=Int × Int × Int × Bool
def bndB (p:Cst):List Band:=if (nextN p.1).isHome=true then [((chS p).1.size,p.1.ls.getD (nextN p.1).winner 0,p.2.getD (nextN p.1).winner 0,p.1.ts.getD (nextN p.1).winner false)] else []
def bndN (p:Cst):Nat->List Band
 | 0=>[]
 | k + 1=>bndN p k ++ bndB (chN p k)
theorem bndB_len (p:Cst):(bndB p).length<=1:=by unfold bndB;split <;> simp
theorem J6g (p:Cst):∀ k,(bndN p k).length<=k
 | 0=>Nat.le_refl _
 | k + 1=>by
  have h1:=J6g p k;have h2:=bndB_len (chN p k);show (bndN p k ++ bndB (chN p k)).length<=k + 1;rw [length_append];lia
def Long (p:Cst) (k:Nat):Prop:=∀ i < k,(chN p i).1.top≠[]
structure Cok (p:Cst):Prop where
 ok:p.1.Ok
 tow:Tow p.1 p.2
theorem Cok.next {p:Cst} (h:Cok p) (ne:p.1.top≠[]):Cok (chS p):=⟨h.ok.next ne,h.tow.next h.ok ne⟩
theorem Cok.at_ {p:Cst} (h:Cok p):∀ {k:Nat},Long p k->Cok (chN p k)
 | 0,_=>h
 | k + 1,l=>(h.at_ fun i hi=>l i (by lia)).next (l k (by lia))
theorem Cok.short {p:Cst} (h:Cok p):∀ {k:Nat},Long p k->k + pot (chN p k).1 (chN p k).2<=pot p.1 p.2
 | 0,_=>by rw [Nat.zero_add];exact Nat.le_refl _
 | k + 1,l=>by
  have h1:=h.short (k:=k) fun i hi=>l i (by lia);have c:=h.at_ (k:=k) fun i hi=>l i (by lia);have h2:pot (chS (chN p k)).1 (chS (chN p k)).2 < _:=pot_lt c.ok (l k (by lia)) c.tow;show k + 1 + pot (chS (chN p k)).1 (chS (chN p k)).2<=_;lia
theorem Cok.few {p:Cst} (h:Cok p) {k:Nat} (l:Long p k):k<=6367451:=by
 have h1:=h.short l;have h2:=pot_le h.ok h.tow;lia
theorem fS_ones {ls:List Int}:∀ {row:List Nat} {n:Nat},(∀ j∈row,j < n)->wS ls (List.replicate n 1) row=lenOf ls row
 | row,n,h=>J4t fun j hj=>by
  have:(List.replicate n (1:Int)).getD j 0=1:=by
   rw [getD_eq_getElem?_getD,List.getElem?_replicate,if_pos (h j hj)];rfl
  rw [this,Int.mul_one]
theorem whole_cok {r:Rst} (h:r.Ok) (hs:r.size<=10 ^ 30):Cok (r,List.replicate r.ls.length 1):=⟨h,by
 refine ⟨length_replicate,fun j hj=>?_,?_⟩
 ·show 1<=(List.replicate r.ls.length (1:Int)).getD j 0;rw [getD_eq_getElem?_getD,List.getElem?_replicate,if_pos (h.row.lt j hj)];exact Int.le_refl _
 ·show wS r.ls (List.replicate r.ls.length 1) r.top<=_;rw [fS_ones h.row.lt];exact hs⟩
theorem Cok.size30 {p:Cst} (h:Cok p):p.1.size<=10 ^ 30:=by
 have h1:p.1.size<=wS p.1.ls p.2 p.1.top:=by
  show lenOf _ _<=_;have:∀ row:List Nat,(∀ j∈row,j∈p.1.top)->lenOf p.1.ls row<=wS p.1.ls p.2 row:=fun row=>by
   induction row with
   | nil=>intro _;exact Int.le_refl _
   | cons a row ih =>
    intro hs;have ha:=hs a mem_cons_self;have h1:=h.ok.row.pos a ha;have h2:=h.tow.pos a ha;have h3:p.1.ls.getD a 0 * 1<=p.1.ls.getD a 0 * p.2.getD a 0:=Int.mul_le_mul_of_nonneg_left h2 (by lia);have h4:=ih fun j hj=>hs j (mem_cons_of_mem _ hj);rw [Jm];unfold wS at *;rw [J25];lia
  exact this _ fun j hj=>hj
 have:=h.tow.sum;lia
end Rl
namespace L2
open PySem PySem.Spec PySem.Calls PyProof.Rows PySem.W
section
variable {X:Cx} {pins:List (Addr × Obj)} {σ:St} {H:Hp} {A:Around} {E:Value->Shared->Prop} {s:Shared} {a kS:Addr} {vs:List Value} {kz:List Int} {keys:Array Value} {e e1:Nat} {P:PySem.Fin->Shared->Prop}
theorem fp_turn (I:Inv X pins σ H s) {b:Addr} {h':Heap} {t':Nat} (f:FpOk X pins H b) (k:Heap.SameBut b s.heap h'):Inv X pins σ H { s with heap:=h',toks:=t' } :=
 I.turned (h':=h') (t':=t') (it:=b) (fun c o hc e=>(k.2 c hc).trans e) f.1 f.2.1 f.2.2.2.1 f.2.2.2.2.1 f.2.2.2.2.2
theorem skey_tail {st:SortSt} (I:Inv X pins σ H s) (fk:FpOk X pins H kS) (fa:FpOk X pins H a) (nk:s.heap.get? kS=some (seqObj "list" keys e)) (na:s.heap.get? a=some (seqObj "list" #[] e1)) (hka:kS≠a)
  (hk:IntsAre keys.toList kz) (hlen:kz.length=vs.length) (h64:vs.length < 64) (hp:(arrOf st).Perm (keys.zip vs.toArray)) (hs:SortedTo (arrOf st) (arrOf st).size) (hfl:failedOf st=none)
  (h:∀ h' tk out c,Inv X pins σ H { s with heap:=h',toks:=tk }->h'.get? a=some (seqObj "list" out c)->KskOut false kz vs out.toList->P (.done (.ret .none)) { s with heap:=h',toks:=tk }) :
  wpAny (model X.prog X.w) A (ksk_tail a false e1 (.ref kS) st) P E s:=by
 have hsz:keys.size=vs.length:=by
  have h1:=hk.length;rw [length_toList] at h1;omega
 have hsz2:(arrOf st).size=vs.length:=by rw [hp.size_eq,Array.size_zip,hsz,size_toArray,Nat.min_self]
 have hout:(if false=true then ((arrOf st).map (·.2)).reverse else (arrOf st).map (·.2)).size=vs.length:=by
  simp only [Bool.false_eq_true,if_false,Array.size_map];exact hsz2
 have s1:=Heap.SameBut.update s.heap kS (Obj.mapSeq fun _=>(#[]:Array Value));have na1:(s.heap.update kS (Obj.mapSeq fun _=>(#[]:Array Value))).get? a=some (seqObj "list" #[] e1):=(s1.2 a hka.symm).trans na;have s2:=Heap.SameBut.update (s.heap.update kS (Obj.mapSeq fun _=>(#[]:Array Value))) a (Obj.mapSeq fun _=>if false=true then ((arrOf st).map (·.2)).reverse else (arrOf st).map (·.2));obtain ⟨c2,hc2⟩:∃ c2,((s.heap.update kS (Obj.mapSeq fun _=>(#[]:Array Value))).update a (Obj.mapSeq fun _=>if false=true then ((arrOf st).map (·.2)).reverse else (arrOf st).map (·.2))).get? a=some (seqObj "list" (if false=true then ((arrOf st).map (·.2)).reverse else (arrOf st).map (·.2)) c2) :=
  ⟨_,get?_update_seq na1 fun _=>if false=true then ((arrOf st).map (·.2)).reverse else (arrOf st).map (·.2)⟩
 unfold ksk_tail
 try dsimp only
 refine wpAny_bind (listUpdate_at nk rfl ?_ (by rw [hsz,sizeLine_eq];omega) (Nat.zero_le _));refine wpAny_bind (wpAny_letGo ?_);refine wpAny_bind (seqEpoch_at na1 rfl ?_);refine wpAny_bind (listUpdate_at na1 rfl ?_ (Nat.zero_le _) (Nat.le_trans (Nat.le_of_eq hout) (by rw [sizeLine_eq];omega)));rw [hfl];simp only [bne_self_eq_false,Bool.false_eq_true,if_false];have I1:Inv X pins σ H { s with heap:=s.heap.update kS (Obj.mapSeq fun _=>(#[]:Array Value)) }:=fp_turn (t':=s.toks) I fk s1;exact wpAny_pure (h _ _ _ c2 (fp_turn (t':=_) I1 fa s2) hc2 (ksk_out (b:=false) hk hp hs))
theorem skey_end (I:Inv X pins σ H s) (fk:FpOk X pins H kS) (fa:FpOk X pins H a) (nk:s.heap.get? kS=some (seqObj "list" keys e)) (na:s.heap.get? a=some (seqObj "list" #[] e1)) (hka:kS≠a)
  (hk:IntsAre keys.toList kz) (hlen:kz.length=vs.length) (h64:vs.length < 64)
  (h:∀ h' tk out c,Inv X pins σ H { s with heap:=h',toks:=tk }->h'.get? a=some (seqObj "list" out c)->KskOut false kz vs out.toList->P (.done (.ret .none)) { s with heap:=h',toks:=tk }) :
  wpAny (model X.prog X.w) A (ksk_end a false vs.toArray e1 (.ref kS) keys) P E s:=by
 have hsz:keys.size=vs.length:=by
  have h1:=hk.length;rw [length_toList] at h1;omega
 have hzs:(keys.zip vs.toArray).size=vs.length:=by rw [Array.size_zip,hsz,size_toArray,Nat.min_self]
 unfold ksk_end
 try dsimp only
 simp only [Bool.false_eq_true,if_false];by_cases h2:vs.toArray.size < 2
 ·rw [if_pos h2,if_pos h2];refine wpAny_bind (wpAny_pure ?_);rw [StateT.run_pure];refine wpAny_bind (wpAny_pure ?_)
  try dsimp only
  refine skey_tail (st:=SortSt.mk' general' (keys.zip vs.toArray) #[] 7 none) I fk fa nk na hka hk hlen h64 (Array.Perm.refl _) ?_ rfl h;intro i j hij hj;have hj2:j < (keys.zip vs.toArray).size:=hj;rw [hzs] at hj2;rw [size_toArray] at h2;have:i=j:=by omega
  subst this;exact Int.le_refl _
 ·rw [if_neg h2,if_neg h2];rw [size_toArray] at h2;rw [ksk_kind hk (by rw [hsz];omega)];refine wpAny_bind (wpAny_pure ?_);refine wpAny_bind (wpAny_mono (wpS_sortRuns (a₀:=keys.zip vs.toArray) (st:=SortSt.mk' oneType' (keys.zip vs.toArray) #[] 7 none)
   (Q:=fun _ st'=>(arrOf st').Perm (keys.zip vs.toArray)/\failedOf st'=none/\SortedTo (arrOf st') (keys.zip vs.toArray).size)
   (ksk_intKeys hk) ⟨Array.Perm.refl _,rfl,rfl,rfl⟩ (by rw [hzs];omega) (by rw [hzs];exact h64) fun st' a1 a2 a3=>⟨a1,a2,a3⟩) ?_ fun _ _ e=>e)
  rintro ⟨⟨⟩,st'⟩ s' ⟨rfl,hp,hf,hs⟩
  try dsimp only
  exact skey_tail I fk fa nk na hka hk hlen h64 hp (by rw [hp.size_eq];exact hs) hf h
def KeyTurn (X:Cx) (pins:List (Addr × Obj)) (σ:St) (H:Hp) (A:Around) (f v:Value) (k:Int):Prop:=∀ s',Inv X pins σ H s'->
 wpAny (model X.prog X.w) A (call f [v]) (fun r s''=>∃ t,r=.int k t/\Inv X pins σ H s''/\∀ b o,FpOk X pins H b->s'.heap.get? b=some o->s''.heap.get? b=some o) (fun _ _=>False) s'
theorem skey_rest {f:Value} (I:Inv X pins σ H s) (fk:FpOk X pins H kS) (fa:FpOk X pins H a) (nk:s.heap.get? kS=some (seqObj "list" #[] 0)) (na:s.heap.get? a=some (seqObj "list" #[] e1)) (hka:kS≠a)
  (hlen:kz.length=vs.length) (h64:vs.length < 64) (turn:∀ (i:Nat) (v:Value) (k:Int),vs[i]?=some v->kz[i]?=some k->KeyTurn X pins σ H A f v k)
  (h:∀ s' out c,Inv X pins σ H s'->s'.heap.get? a=some (seqObj "list" out c)->KskOut false kz vs out.toList->P (.done (.ret .none)) s') :
  wpAny (model X.prog X.w) A (ksk_rest a f false vs.toArray e1 (.ref kS)) P E s:=by
 unfold ksk_rest;refine wpAny_bind (wpAny_rule ?_)
 first
  | rw [List.forIn_toArray]
  | (rw [<- Array.forIn_toList];simp only [List.toList_toArray])
  | rw [<- Array.forIn_toList]
 refine wpAny_bind (ksk_fold (fun i s'=>∃ kA e,Inv X pins σ H s'/\s'.heap.get? kS=some (seqObj "list" kA e)/\s'.heap.get? a=some (seqObj "list" #[] e1)/\IntsAre kA.toList (kz.take i)) vs 0 s
  ⟨#[],0,I,nk,na,by simpa using IntsAre.nil⟩ ?step ?done)
 case step =>
  rintro j x s' hx ⟨kA,e,I',nk',na',hk⟩;simp only [Nat.zero_add] at hk ⊢;have hj:j < vs.length:=(List.getElem?_eq_some_iff.mp hx).1;obtain ⟨k,hkj⟩:∃ k,kz[j]?=some k:=⟨_,List.getElem?_eq_getElem (by omega)⟩;have hz:kA.size<=vs.length:=by
   have h1:=hk.length;rw [length_toList,length_take] at h1;omega
  refine wpAny_bind (wpAny_attempt (wpAny_mono (turn j x k hx hkj s' I') (fun v s'' he=>?_) fun _ _ hF=>hF.elim));obtain ⟨t2,rfl,I2,keep⟩:=he
  try dsimp only
  have nk2:=keep _ _ fk nk';have na2:=keep _ _ fa na';have s1:=Heap.SameBut.update s''.heap kS (Obj.mapSeq (·.push (.int k t2)));obtain ⟨c2,hc2⟩:∃ c2,(s''.heap.update kS (Obj.mapSeq (·.push (.int k t2)))).get? kS=some (seqObj "list" (kA.push (.int k t2)) c2):=⟨_,get?_update_seq nk2 (·.push (.int k t2))⟩;have ek:kz.take (j + 1)=kz.take j ++ [k]:=by rw [List.take_add_one,hkj];simp
  have ea:(kA.push (Value.int k t2)).toList=kA.toList ++ [Value.int k t2]:=by simp
  refine wpAny_bind (listUpdate_at nk2 rfl ?_ (by rw [sizeLine_eq];omega) (Nat.le_trans (Nat.le_of_eq (Array.size_push ..)) (by rw [sizeLine_eq];omega)));exact wpAny_pure ⟨rfl,kA.push (.int k t2),c2,fp_turn (t':=s''.toks) I2 fk s1,hc2,(s1.2 a hka.symm).trans na2,by rw [ea,ek];exact ksk_snoc hk⟩
 case done =>
  rintro s' ⟨kA,e,I',nk',na',hk⟩;have hk':IntsAre kA.toList kz:=by
   have e3:kz.take (0 + vs.length)=kz:=List.take_of_length_le (by omega);rw [e3] at hk;exact hk
  try dsimp only
  refine wpAny_bind (listItems_at nk' rfl ?_);exact skey_end I' fk fa nk' na' hka hk' hlen h64 fun h3 tk3 out c I3 n3 k3=>h _ out c I3 n3 k3
theorem skey_sort {f:Value} {n:Nat} (I:Inv X pins σ H s) (fa:FpOk X pins H a) (ho:s.heap.get? a=some (seqObj "list" vs.toArray n))
  (hlen:kz.length=vs.length) (h64:vs.length < 64) (turn:∀ (i:Nat) (v:Value) (k:Int),vs[i]?=some v->kz[i]?=some k->KeyTurn X pins σ H A f v k)
  (h:∀ s' out c,Inv X pins σ H s'->s'.heap.get? a=some (seqObj "list" out c)->KskOut false kz vs out.toList->P (.done (.ret .none)) s') :
  wpAny (model X.prog X.w) A (ksk_tree a f false) P E s:=by
 have ha:a < s.heap.objs.size:=lt_size ho;have s1:=Heap.SameBut.update s.heap a (Obj.mapSeq fun _=>(#[]:Array Value));obtain ⟨e1,ho1⟩:∃ e1,(s.heap.update a (Obj.mapSeq fun _=>(#[]:Array Value))).get? a=some (seqObj "list" #[] e1):=⟨_,get?_update_seq ho fun _=>#[]⟩;have hkS:((s.heap.update a (Obj.mapSeq fun _=>(#[]:Array Value))).push (seqObj "tuple" vs.toArray 0)).objs.size=s.heap.objs.size + 1:=by rw [size_push',Heap.size_update]
 unfold ksk_tree;refine wpAny_bind (listItems_at ho rfl ?_);refine wpAny_bind (listUpdate_at ho rfl ?_ (by rw [size_toArray,sizeLine_eq];omega) (Nat.zero_le _));refine wpAny_bind (seqEpoch_at ho1 rfl ?_);refine wpAny_bind (wpAny_newTuple ?_ (by show vs.length<=_;rw [sizeLine_eq];omega));refine wpAny_bind (wpAny_newList ?_ (Nat.zero_le _));refine wpAny_holding ?_;have I1:Inv X pins σ H { s with heap:=s.heap.update a (Obj.mapSeq fun _=>(#[]:Array Value)) }:=fp_turn (t':=s.toks) I fa s1;have I2:Inv X pins σ H { s with heap:=((s.heap.update a (Obj.mapSeq fun _=>(#[]:Array Value))).push (seqObj "tuple" vs.toArray 0)).push (seqObj "list" #[] 0) }:=I1.kept (t':=s.toks) fun b o e=>get?_push_of_some _ (get?_push_of_some _ e);have fk:FpOk X pins H ((s.heap.update a (Obj.mapSeq fun _=>(#[]:Array Value))).push (seqObj "tuple" vs.toArray 0)).objs.size:=by
  rw [hkS];exact I.fpOk (Nat.le_succ _) (I.hok.fresh (Nat.le_succ _))
 exact skey_rest (s:={ s with heap:=((s.heap.update a (Obj.mapSeq fun _=>(#[]:Array Value))).push (seqObj "tuple" vs.toArray 0)).push (seqObj "list" #[] 0) }) I2 fk fa (get?_push_size _ rfl)
  (get?_push_of_some _ (get?_push_of_some _ ho1)) (by rw [hkS];exact Nat.ne_of_gt (Nat.lt_succ_of_lt ha)) hlen h64 turn h
end
def cxLam (X:Cx) (A:Around) (N:List Str) (qual:Str) (scope:Scope) (f:Addr) (cd:Value) (cl:List (Str × Addr)) (s:Shared) (H:Hp):Cx where
 prog:=X.prog
 w:=X.w
 K:=X.K
 mg:=X.mg
 base:=X.base
 A:=A.deeper (envX qual scope s.heap.objs.size f cd cl)
 N:=N
 s₀:=s
 H₀:=H
 env:=envX qual scope s.heap.objs.size f cd cl
 outer:=X.stack
 stack:=envX qual scope s.heap.objs.size f cd cl :: X.stack
 ex:=[]
 calm:=true
 fn:=fun _=>false
 pn:=[]
 xe:=fun _ _=>False
structure LamOk (X:Cx) (scope:Scope) (cl:List (Str × Addr)) (x:Str) (caps:List Str) (js:List Nat):Prop where
 co:scope.isCoroutine=false
 gen:scope.isGenerator=false
 kind:scope.kind=.function
 cell:∀ p∈scope.names,p.2≠.cell
 loc:scope.names.lookup x=some .local
 sub:∀ p∈cl,X.env.cells.lookup p.1=some p.2
 has:∀ p∈scope.names,p.2=.free->∃ c,cl.lookup p.1=some c
 len:caps.length=js.length
 caps:∀ (k:Nat) (c:Str),caps[k]?=some c->∃ (j:Nat) (a:Addr),js[k]?=some j/\X.N[j]?=some c/\X.env.scope.names.lookup c=some .cell/\cl.lookup c=some a/\scope.names.lookup c=some .free
section
variable {X:Cx} {pins:List (Addr × Obj)} {σ:St} {H:Hp} {A:Around} {s:Shared} {name qual:Str} {params:Arguments} {body:Expr} {scope:Scope} {cl:List (Str × Addr)} {pm ctv:Value} {c' f:Addr} {x:Str} {caps:List Str} {js:List Nat} {te:TE}
theorem inv_lam {v:V} {u:Value} (I:Inv X pins σ H s) (L:LamOk X scope cl x caps js) (hA:A.frames=some X.stack) (hd:A.handled=none) (r:RelV v u) {h₁:Heap}
  (hns:h₁.Ns s.heap.objs.size (fun y=>([(x,u)]:List (Str × Value)).reverse.lookup y)) (hsb:Heap.SameBut s.heap.objs.size (s.heap.push { cls:=.type "frame",data:=.dict #[] }) h₁) :
  Inv (cxLam X A (x :: caps) qual scope f (.ref c') cl s H) [] (some v :: capv σ js) H { s with heap:=h₁,toks:=s.toks + 1 }:=by
 have keep:∀ b o,s.heap.get? b=some o->h₁.get? b=some o:=fun b o e=>hsb.extBut b o (Nat.ne_of_lt (lt_size e)) (get?_push_of_some _ e);have e0:=I.env0;have noA:∀ b:Addr,b ∉ (cxLam X A (x :: caps) qual scope f (.ref c') cl s H).ex:=fun b z=>absurd (show b∈([]:List Addr) from z) (by simp);refine ⟨⟨e0.mod,L.kind,rfl,rfl,Nat.le_refl _,fun a b c h1 h2=>?_,fun a h=>?_,(fun _ _ h=>nomatch h),fun _=>hd,Around.frames_deeper hA,.inr ⟨rfl,rfl⟩,fun b z=>absurd z (noA b),e0.bs,e0.bsz,fun b _ _=>noA b,fun b z=>absurd z (noA b),e0.funs,e0.frf⟩,
  rfl,I.bare,Un.kept keep,⟨_,hns,fun k q w e1 e2 e3=>?_⟩,fun q c e=>?_,I.hok.fresh (Nat.le_refl _),fun q c e=>?_,fun p hp=>absurd (show p∈([]:List (Addr × Obj)) from hp) (by simp),I.hok.kept keep,?_⟩
 ·exact I.ok.inj a b c (L.sub _ (mem_of_lookup h1)) (L.sub _ (mem_of_lookup h2))
 ·have h:scope.names.lookup a=some .cell\/scope.names.lookup a=some .free:=h;rcases h with h | h
  ·exact absurd rfl (L.cell _ (mem_of_lookup h))
  ·exact L.has _ (mem_of_lookup h) rfl
 ·cases k with
  | zero =>
   have e1:some x=some q:=e1;cases e1;have e2:some (some v)=some (some w):=e2;cases e2;refine ⟨u,r,.inl ⟨L.loc,?_⟩⟩;show (([(x,u)]:List (Str × Value)).reverse.lookup x)=some u;simp
  | succ k =>
   have e1:(x :: caps)[k + 1]?=some q:=e1;have e1':caps[k]?=some q:=by simpa using e1
   have e2':(capv σ js)[k]?=some (some w):=by simpa using e2
   obtain ⟨j,a,q1,q2,q3,q4,q5⟩:=L.caps k q e1';obtain ⟨j',r1,r2⟩:=J6f e2';rw [q1] at r1;cases r1;obtain ⟨m,hm,hl⟩:=I.loc;obtain ⟨u',ru,lu⟩:=hl j q w q2 r2 (.inr (.inl q3));refine ⟨u',ru,.inr ⟨.inr q5,a,q4,?_⟩⟩;rcases lu with ⟨k1,_⟩ | ⟨_,c,ec,o,ho,hd'⟩
   ·have k1':X.env.scope.names.lookup q=some .local:=k1;rw [q3] at k1';cases k1'
   ·have:=L.sub _ (mem_of_lookup q4);rw [ec] at this;cases this;exact ⟨o,keep _ _ ho,hd'⟩
 ·obtain ⟨w,o,ho,hd'⟩:=I.cell q c (L.sub _ (mem_of_lookup e));exact ⟨w,o,keep _ _ ho,hd'⟩
 ·exact I.freeC q c (L.sub _ (mem_of_lookup e))
 ·show (some v :: capv σ js).length=(x :: caps).length;unfold capv;simp [L.len]
theorem lam_turn {v:V} {u:Value} {k:Int} (I:Inv X pins σ H s) (L:LamOk X scope cl x caps js) (hA:A.frames=some X.stack) (hd:A.handled=none) (hroom:A.depth < recursionLimit) (r:RelV v u)
  (ho:s.heap.get? f=some (kla_obj name qual params body scope cl pm c' ctv)) (hcd:s.heap.CodeRec (.ref c') qual)
  (hbind:bindArgs (kla_fn name qual params body scope cl pm (.ref c') ctv) ⟨[u],[]⟩=pure [(x,u)])
  (he:PE (cxLam X A (x :: caps) qual scope f (.ref c') cl s H) body te) (q:te (some v :: capv σ js) H fun y H'=>y=.int k/\H'=H) :
  wpAny (model X.prog X.w) A (call (.ref f) [u]) (fun r s''=>∃ t,r=.int k t/\Inv X pins σ H s''/\∀ b o,FpOk X pins H b->s.heap.get? b=some o->s''.heap.get? b=some o) (fun _ _=>False) s:=by
 have lim:s.heap.NoLimit:=I.env0.mod.nolimit.keeps fun b o e=>(I.env0.bs b o e).1;refine wpAny_call (kla_callFunE hroom ho rfl L.co L.gen rfl hcd ?_);rw [hbind];refine wpAny_pure (wpAny_newFunctionEnv L.cell (fun y hy=>by
  have hy:y=(x,u):=by simpa using hy
  rw [hy];exact L.loc) (fun h₁ hns hsb=>⟨lim.fresh _ hsb,?_⟩) L.kind)
 refine kla_codeExpr ?_;have J:=inv_lam (qual:=qual) (f:=f) (c':=c') I L hA hd r hns hsb;refine wpAny_mono (he [] _ _ H _ J q) (fun z s' h'=>?_) fun _ _ h'=>h'.elim;obtain ⟨y,H',J',ry,ey,eH⟩:=h';rw [eH] at J';rw [ey] at ry;obtain ⟨t,rfl⟩:=ry;obtain ⟨v2,H2,I2,r2,e2,e3⟩:=I.after (Q:=fun y H'=>y=.int k/\H'=H) (u:=.int k t) (s':=s') ⟨.int k,H,J'.os,J'.bare,J'.base,J'.hok,⟨t,rfl⟩,rfl,rfl⟩;rw [e3] at I2;refine ⟨t,rfl,I2,fun b o fb e=>J'.base.keep b o e fb.1 (fun z=>?_) (fun z=>absurd (show b∈([]:List Addr) from z) (by simp))⟩;rcases mem_cons.mp (I.stkSub b z) with z | z
 ·exact fb.2.1 z
 ·exact fb.2.2.1 z
end
structure TabOk (H:Hp) (P:Addr) (pos:Pos) (qual:Str):Prop where
 ex:∃ ps,H P=some (.tbl ps)/\TriplesOk ps.toList/\∀ cv,codeAmong pos ps.toList=some cv->∃ c' oc vs t,cv=.ref c'/\H c'=some (.frz oc (.own c'))/\oc.data=.fields vs/\vs[1]?=some (.str qual t)
def isTbl:HO->Bool
 | .tbl _=>true
 | _=>false
def SameT (H H':Hp):Prop:=∀ b u,H b=some u->isTbl u=false->H' b=some u
structure BltAt (base:Heap) (mg:Str->Option Value) (P:Addr):Prop where
 ex:∃ bm o,mg "__builtins__"=some (.ref bm)/\bm≠builtinsNs/\bm≠mainGlobals/\bm≠P/\base.get? bm=some o/\o.cls=.type "module"/\o.dict=some builtinsNs/\o.data=.plain
section
variable {X:Cx} {pins:List (Addr × Obj)} {σ:St} {H:Hp} {A:Around} {s:Shared} {params:Arguments} {body:Expr} {scope:Scope} {cl:List (Str × Addr)} {c P:Addr} {pos:Pos}
theorem lam_make {Q:Value->Shared->Prop} {E:Value->Shared->Prop} (I:Inv X pins σ H s) (hdef:defaultsOf params X.env=([],[])) (hcl:closureFor scope X.env=pure cl) (hcode:X.env.code=.ref c) (C:codeHdIn X.K c P=true) (B:BltAt X.base X.mg P) (T:TabOk H P pos (X.env.qual ++ "<lambda>"))
  (h:∀ f c' ctv H' s',Inv X pins σ H' s'->s'.heap.get? f=some (kla_obj "<lambda>" (X.env.qual ++ "<lambda>") params body scope cl ((X.mg "__name__").getD .none) c' ctv)->FpOk X pins H' f->(∃ oc vs t,H' c'=some (.frz oc (.own c'))/\oc.data=.fields vs/\vs[1]?=some (.str (X.env.qual ++ "<lambda>") t))->
   SameT H H'->TabOk H' P pos (X.env.qual ++ "<lambda>")->(∀ Q pos' qual',Q≠P->TabOk H Q pos' qual'->TabOk H' Q pos' qual')->(∀ b,b < s.heap.objs.size->H b=none->H' b=none)->Q (.ref f) s') :
  wpAny (model X.prog X.w) A (eval (.Lambda params body scope pos) X.env) Q E s:=by
 obtain ⟨ps,hP,ht,hc⟩:=T.ex;obtain ⟨bm,ob,b1,b2,b3,b4,b5,b6,b7,b8⟩:=B.ex;have KX:X.K.In s.heap:=I.env0.mod.kin.keeps fun b o e=>(I.env0.bs b o e).1;have hgs:s.heap.Ns mainGlobals X.mg:=let ⟨o,es,ep,e,r⟩:=I.env0.mod.glob;⟨o,es,ep,(I.env0.bs _ _ e).1,r⟩;have hPh:s.heap.get? P=some (tabObj ps):=I.hok P _ hP;have hbA:s.heap.BuiltinsAt X.mg P:=⟨bm,ob,b1,b2,b3,b4,(I.env0.bs _ _ b5).1,b6,b7,b8⟩;have hgP:mainGlobals≠P:=fun q=>by
  obtain ⟨o,es,ep,e,hd,_⟩:=hgs;rw [q,hPh] at e;cases e;cases hd
 have CH:=codeHd_of_K KX C;refine kla_eval hdef ?_
 cases ca:codeAmong pos ps.toList with
 | none =>
  refine kla_makeFunction (mg:=X.mg) hcl I.ok.glob hgs hcode CH hPh ht ca hgP hbA fun c' ctv h' tk hx hge hlt hrec htb=>?_;obtain ⟨c2,oc,vs,t,e2,hoc,hd,hv⟩:=hrec;obtain rfl:c'=c2:=by cases e2;rfl
  have hn:H c'=none:=I.hok.fresh hge;have hPc:P≠c':=Nat.ne_of_lt (Nat.lt_of_lt_of_le (lt_size hPh) hge);obtain ⟨H',eH⟩:∃ H',H'=upd (upd H c' (.frz oc (.own c'))) P (.tbl (ps ++ #[rawInt pos.line,rawInt pos.col,.ref c'])):=⟨_,rfl⟩;have hP':H' P=some (.tbl (ps ++ #[rawInt pos.line,rawInt pos.col,.ref c'])):=by rw [eH,J2]
  have hc':H' c'=some (.frz oc (.own c')):=by rw [eH,Jb hPc.symm,J2]
  have oth:∀ b,b≠P->b≠c'->H' b=H b:=fun b n1 n2=>by rw [eH,Jb n1,Jb n2]
  have old:∀ b o,s.heap.get? b=some o->b≠c':=fun b o e=>Nat.ne_of_lt (Nat.lt_of_lt_of_le (lt_size e) hge);have tr:∀ b u,H b=some u->b≠c':=fun b u e=>J8 e hn;have kp:∀ b o,b≠P->s.heap.get? b=some o->(h'.push (kla_obj "<lambda>" (X.env.qual ++ "<lambda>") params body scope cl ((X.mg "__name__").getD .none) c' ctv)).get? b=some o:=fun b o n e=>get?_push_of_some _ (hx b o n e);have hokN:HOk X.prog X.w H' (h'.push (kla_obj "<lambda>" (X.env.qual ++ "<lambda>") params body scope cl ((X.mg "__name__").getD .none) c' ctv)):=fun b u e=>by
   by_cases e1:b=P
   ·subst e1;rw [hP'] at e;cases e;exact get?_push_of_some _ htb
   ·by_cases e2:b=c'
    ·subst e2;rw [hc'] at e;cases e;exact ⟨get?_push_of_some _ hoc,_,get?_push_of_some _ hoc⟩
    ·rw [oth b e1 e2] at e;refine (I.hok b u e).stay (fun d v hd q=>kp d v ?_ q) (fun d q=>?_) fun d xs q=>?_
     ·rcases hd with rfl | hd
      ·exact e1
      ·intro z;rw [z,hP] at hd;cases hd
     ·rw [oth d (fun z=>by rw [z,hP] at q;cases q) (tr _ _ q)];exact q
     ·rw [oth d (fun z=>by rw [z,hP] at q;cases q) (tr _ _ q)];exact q
  have un:Un X.fs [] H H' s.heap (h'.push (kla_obj "<lambda>" (X.env.qual ++ "<lambda>") params body scope cl ((X.mg "__name__").getD .none) c' ctv)):=by
   refine ⟨fun b o e n _ _=>kp b o (fun z=>by rw [z,hP] at n;cases n) e,fun b o e n _ _=>⟨o.slots,kp b o (fun z=>by rw [z,hP] at n;cases n) e⟩,fun b o e n _=>?_,fun b o e _=>?_,fun b xs e=>?_,fun b o u e=>?_,fun b qs e=>?_⟩
   ·rw [oth b (fun z=>by rw [z,hP] at n;cases n) (old b o e)];exact n
   ·by_cases z:b=P
    ·rw [z];exact ⟨_,get?_push_of_some _ htb⟩
    ·exact ⟨o,kp b o z e⟩
   ·rw [oth b (fun z=>by rw [z,hP] at e;cases e) (tr _ _ e)];exact e
   ·rw [oth b (fun z=>by rw [z,hP] at e;cases e) (tr _ _ e)];exact e
   ·by_cases z:b=P
    ·rw [z,hP] at e;cases e;exact ⟨_,by rw [z];exact hP'⟩
    ·exact ⟨#[],by rw [oth b z (tr _ _ e),e];simp⟩
  have hsz:s.heap.objs.size<=h'.objs.size:=Nat.le_trans hge (Nat.le_of_lt hlt);have hfn:H' h'.objs.size=none:=by
   rw [oth _ (Nat.ne_of_gt (Nat.lt_of_lt_of_le (lt_size hPh) hsz)) (Nat.ne_of_gt hlt)];exact I.hok.fresh hsz
  refine h _ c' ctv H' _ (I.un (t':=tk) un hokN) (get?_push_size _ rfl) (I.fpOk hsz hfn) ⟨oc,vs,t,hc',hd,hv⟩ (fun b u e z=>?_) ⟨_,hP',?_,fun cv e=>?_⟩ (fun Q pos' qual' nQ TQ=>?_) (fun b hb n=>?_)
  ·rw [oth b (fun q=>by rw [q,hP] at e;cases e;cases z) (tr _ _ e)];exact e
  ·rw [Array.toList_append];exact TriplesOk_snoc _ _ _ _ ht
  ·rw [Array.toList_append] at e;have e':codeAmong pos (ps.toList ++ [rawInt pos.line,rawInt pos.col,.ref c'])=some cv:=e;rw [codeAmong_snoc _ ht ca] at e';cases e';exact ⟨c',oc,vs,t,rfl,hc',hd,hv⟩
  ·obtain ⟨qs,q1,q2,q3⟩:=TQ.ex;refine ⟨qs,by rw [oth Q nQ (tr _ _ q1)];exact q1,q2,fun cv e=>?_⟩;obtain ⟨d,od,ws,t',r1,r2,r3,r4⟩:=q3 cv e;exact ⟨d,od,ws,t',r1,by rw [oth d (fun z=>by rw [z,hP] at r2;cases r2) (tr _ _ r2)];exact r2,r3,r4⟩
  ·rw [oth b (fun z=>by rw [z,hP] at n;cases n) (Nat.ne_of_lt (Nat.lt_of_lt_of_le hb hge))];exact n
 | some cv =>
  obtain ⟨c',oc,vs,t,rfl,hcH,hd,hv⟩:=hc cv ca;refine kla_makeFunctionHit (mg:=X.mg) hcl I.ok.glob hgs hcode CH hPh ht ca hbA fun ctv h' tk hk hsz=>?_;have kp:∀ b o,s.heap.get? b=some o->(h'.push (kla_obj "<lambda>" (X.env.qual ++ "<lambda>") params body scope cl ((X.mg "__name__").getD .none) c' ctv)).get? b=some o:=fun b o e=>get?_push_of_some _ (hk b o e);exact h _ c' ctv H _ (I.kept (t':=tk) kp) (get?_push_size _ rfl) (I.fpOk hsz (I.hok.fresh hsz)) ⟨oc,vs,t,hcH,hd,hv⟩ (fun b u e _=>e) T (fun _ _ _ _ T=>T) (fun _ _ n=>n)
end
end L2
namespace L2
open PySem PySem.Spec PySem.Calls PyProof.Rows PySem.W
section
variable {prog:Program} {w:World} {A:Around} {E:Value->Shared->Prop} {s:Shared}
theorem J5k {r:Addr} {n:Nat} {t u v:Tok} {Q:List Value->Shared->Prop} (hh:A.handled=none) (hr:IsRange s.heap r 0 (n:Int) 1 t u v) (hn:n<=1000)
  (h:∀ h' tk (acc:Array Value),(∀ b o,s.heap.get? b=some o->h'.get? b=some o)->ItemsOf (fun i v=>∃ t,v=.int (0 + (i:Int) * 1) t) acc n->Q acc.toList { s with heap:=h',toks:=tk }) :
  wpAny (model prog w) A (collect (.ref r)) Q E s:=by
 unfold collect;refine wpAny_bind (wpAny_runValue (codeAny_builtin PySem.F.entry_proto_collect ?_));rw [Around.under_plainId PySem.F.plain_proto_collect _];show wpAny _ A.in1 (newList [] >>= fun l=>again (.builtin "list.__iadd__" ⟨[l,.ref r],[]⟩)) _ _ s;refine wpAny_bind (wpAny_newObj_type ?_);refine wpAny_pure ⟨plainId_quiet PySem.F.plain_list_iadd _,codeAny_builtin PySem.F.entry_list_iadd ?_⟩;rw [Around.under_plainId PySem.F.plain_list_iadd _];have hS:(s.heap.push { cls:=.type "list",data:=.seq ([]:List Value).toArray }).get? s.heap.objs.size=some { cls:=.type "list",data:=.seq ([]:List Value).toArray }:=get?_push_size _ rfl;show wpAny _ A.in1 (Builtin.List.listExtendWith (.ref s.heap.objs.size) (.ref r) (.ref s.heap.objs.size)) _ _ _;refine wpAny_extend_range (A:=A) (prog:=prog) (w:=w) (R:=fun (res:Result) s'=>match res with
  | .ok (.ret v)=>wpAny (model prog w) A (match v with
   | .ref a=>do
    let o <- load a
    match o.data with
    | .seq xs _=>pure xs.toList
    | _=>unsupported "internal:collect"
   | _=>unsupported "internal:collect") Q E s'
  | .ok _=>False
  | .error e=>E e s') (s:={ s with heap:=s.heap.push { cls:=.type "list",data:=.seq ([]:List Value).toArray } }) hh (get?_push_of_some _ hr) (small_one (a:=0) (b:=(n:Int)) (by omega) (by omega) (by omega) (by omega)) (n:=n) (by rw [rangeSize_one];split <;> omega) (by omega) s.heap.objs.size _ _ hS fun h' tk acc' c' hk hS' hacc=>?_
 show wpAny _ A (load s.heap.objs.size >>= _) _ _ _;refine wpAny_bind (wpAny_load hS' ?_);exact wpAny_pure (h h' tk acc' (fun b o e=>hk b o (Nat.ne_of_lt (lt_size e)) (get?_push_of_some _ e)) hacc)
end
section
variable {X:Cx} {pins:List (Addr × Obj)} {σ:St} {H:Hp} {A:Around} {E:Value->Shared->Prop} {s:Shared} {vs:List Value} {kz:List Int}
theorem skey_col {f:Addr} {l:Addr} {xs:List V} {Q:Value->Shared->Prop} (hlen:kz.length=xs.length) (h64:xs.length < 64)
  (col:wpAny (model X.prog X.w) A.in1 (collect (.ref l)) (fun ws s1=>Vals xs ws/\Inv X pins σ H s1) E s)
  (turn:∀ (i:Nat) (y:V) (v:Value) (k:Int),xs[i]?=some y->RelV y v->kz[i]?=some k->KeyTurn X pins σ H A.in1.in1 (.ref f) v k)
  (h:∀ s' D out c us,Vals xs us->Inv X pins σ H s'->FpOk X pins H D->X.s₀.heap.objs.size<=D->s'.heap.get? D=some (seqObj "list" out c)->KskOut false kz us out.toList->Q (.ref D) s') :
  wpAny (model X.prog X.w) A (call (.builtin "sorted") [.ref l] [(Str.ofString "key",.ref f)]) Q E s:=by
 refine call_function_entry_kw kind_sorted plain_sorted entry_sorted (ksk_s1 _ _) ?_;unfold Builtin.«sorted»;refine wpAny_bind (m:=checkCount "sorted" 1 1 _) (wpAny_pure ?_);refine wpAny_bind (wpAny_mono col (fun vs s1 ⟨r,I1⟩=>?_) fun _ _ x=>x);have lv:=r.length;refine wpAny_bind (wpAny_newList ?_ (by rw [sizeLine_eq];omega));have hoL:(s1.heap.push (seqObj "list" vs.toArray 0)).get? s1.heap.objs.size=some (seqObj "list" vs.toArray 0):=get?_push_size _ rfl;have fD:FpOk X pins H s1.heap.objs.size:=I1.fpOk (Nat.le_refl _) (I1.hok.fresh (Nat.le_refl _));have hz:X.s₀.heap.objs.size<=s1.heap.objs.size:=I1.sz;show wpAny _ _ _ _ _ { s1 with heap:=s1.heap.push (seqObj "list" vs.toArray 0) };refine wpAny_bind (wpAny_holding (wpAny_call_entry_kw slot_list_sort ⟨_,hoL,rfl⟩ entry_list_sort ?body (ksk_l1 _ _)))
 case body =>
  show wpAny (model X.prog X.w) A.in1.in1 (Builtin.«list.sort» ⟨[.ref s1.heap.objs.size],[(Str.ofString "key",.ref f)]⟩) _ _ _;rw [ksk_t1];refine skey_sort (s:={ s1 with heap:=s1.heap.push (seqObj "list" vs.toArray 0) })
   (I1.kept (t':=s1.toks) fun b o e=>get?_push_of_some _ e) fD hoL (show kz.length=vs.length by omega) (by omega) (fun i v k e1 e2=>?_) fun s' out c I' n' k'=>⟨_,rfl,?_⟩
  ·obtain ⟨y,ey⟩:∃ y,xs[i]?=some y:=by
    have hi:i < vs.length:=(List.getElem?_eq_some_iff.mp e1).1;exact ⟨xs[i]'(by omega),List.getElem?_eq_getElem _⟩
   obtain ⟨u,eu,ru⟩:=r.get ey;rw [e1] at eu;cases eu;exact turn i y v k ey ru e2
  ·exact wpAny_pure ⟨_,rfl,h s' _ out c vs r I' fD hz n' k'⟩
theorem Inv.adopt {D:Addr} {o:HO} (I:Inv X pins σ H s) (f:FpOk X pins H D) (hz:X.s₀.heap.objs.size<=D) (new:ObjOk X.prog X.w (upd H D o) s.heap D o):Inv X pins σ (upd H D o) s:=by
 obtain ⟨f1,f2,f3,f4,f5,f6⟩:=f;have nn:∀ b u,H b=some u->b≠D:=fun b u e z=>by rw [z,f1] at e;cases e
 have kp:∀ b u,H b=some u->upd H D o b=some u:=fun b u e=>by rw [Jb (nn b u e)];exact e
 refine ⟨I.ok,I.os,I.bare,⟨I.base.keep,I.base.slot,fun b ob q n hx=>?_,I.base.there,fun b xs q=>kp _ _ (I.base.tups b xs q),fun b ob u q=>kp _ _ (I.base.frzs b ob u q),fun b ps q=>?_⟩,I.loc,I.cell,?_,fun x c e=>?_,fun p hp=>?_,fun b u e=>?_,I.len⟩
 ·rw [Jb (Nat.ne_of_lt (Nat.lt_of_lt_of_le (lt_size q) hz))];exact I.base.free b ob q n hx
 ·obtain ⟨more,e⟩:=I.base.tbls b ps q;exact ⟨more,kp _ _ e⟩
 ·rw [Jb (Ne.symm f2)];exact I.free
 ·rw [Jb (f5 x c e)];exact I.freeC x c e
 ·obtain ⟨p1,p2,p3⟩:=I.pin p hp;exact ⟨p1,by rw [Jb (f6 p hp)];exact p2,p3⟩
 ·by_cases hb:b=D
  ·subst hb;rw [J2] at e;cases e;exact new
  ·rw [Jb hb] at e;exact (I.hok b u e).stay (fun c v _ q=>q) (fun c q=>kp _ _ q) fun c xs q=>kp _ _ q
end
theorem J64 {α β:Type} {f:α->β} {ps qs:List β} (p:ps.Perm qs):∀ {z:List α},qs=z.map f->∃ zs:List α,zs.Perm z/\ps=zs.map f:=by
 induction p with
 | nil =>
  intro z e
  cases z with
  | nil=>exact ⟨[],.refl _,rfl⟩
  | cons a r=>cases e
 | cons x _ ih =>
  intro z e
  cases z with
  | nil=>cases e
  | cons a r =>
   rw [map_cons] at e;obtain ⟨e1,e2⟩:=List.cons.inj e;obtain ⟨zs,h1,h2⟩:=ih e2;exact ⟨a :: zs,.cons a h1,by rw [map_cons,<- h2,<- e1]⟩
 | swap x y l =>
  intro z e
  match z,e with
  | [],e=>cases e
  | [a],e=>simp at e
  | a :: b :: r,e =>
   simp only [map_cons,List.cons.injEq] at e;exact ⟨b :: a :: r,.swap _ _ _,by rw [map_cons,map_cons,e.1,e.2.1,e.2.2]⟩
 | trans _ _ ih1 ih2 =>
  intro z e;obtain ⟨z1,h1,h2⟩:=ih2 e;obtain ⟨z2,h3,h4⟩:=ih1 h2;exact ⟨z2,h3.trans h1,h4⟩
theorem vals_trip:∀ {ks:List Int} {xs:List V} {us:List Value},ks.length=xs.length->Vals xs us->
  ∃ z:List (Int × V × Value),z.map (fun t=>(t.1,t.2.1))=ks.zip xs/\z.map (fun t=>(t.1,t.2.2))=ks.zip us/\∀ t∈z,RelV t.2.1 t.2.2
 | [],[],_,_,.nil=>⟨[],rfl,rfl,fun _ h=>by simp at h⟩
 | k :: ks,x :: xs,u :: us,hl,.cons r rs=>by
  obtain ⟨z,h1,h2,h3⟩:=vals_trip (ks:=ks) (by simpa using hl) rs;refine ⟨(k,x,u) :: z,by simp [h1],by simp [h2],fun t ht=>?_⟩;rcases mem_cons.mp ht with rfl | ht
  ·exact r
  ·exact h3 t ht
theorem J3a:∀ {z:List (Int × V × Value)},(∀ t∈z,RelV t.2.1 t.2.2)->Vals ((z.map (fun t=>(t.1,t.2.1))).map Prod.snd) ((z.map (fun t=>(t.1,t.2.2))).map Prod.snd)
 | [],_=>.nil
 | a :: r,h=>.cons (h a (mem_cons_self ..)) (J3a fun t ht=>h t (mem_cons_of_mem _ ht))
theorem kskV {ks:List Int} {xs:List V} {us out:List Value} (hl:ks.length=xs.length) (r:Vals xs us) (k:KskOut false ks us out) :
  ∃ ys:List (Int × V),ys.Perm (ks.zip xs)/\Vals (ys.map Prod.snd) out/\ys.Pairwise (fun p q=>p.1<=q.1):=by
 obtain ⟨ps,p1,rfl,p3⟩:=k;obtain ⟨z,h1,h2,h3⟩:=vals_trip hl r;rw [<- h2] at p1;obtain ⟨zs,q1,rfl⟩:=J64 p1 rfl;refine ⟨zs.map fun t=>(t.1,t.2.1),by rw [<- h1];exact q1.map _,J3a fun t ht=>h3 t (q1.mem_iff.mp ht),?_⟩;rw [pairwise_map] at p3 ⊢;exact p3.imp fun h=>by simpa using h
def SrtOf (H:Hp) (p:Addr) (xs:List V):Prop:=H p=some (.lst xs)\/∃ n:Nat,H p=some (.rng 0 (n:Int))/\xs=(List.range n).map fun (i:Nat)=>V.int (i:Int)
def srtR (P:Addr) (pos:Pos) (qual:Str) (js:List Nat) (te:TE) (σ:St) (Q:VK) (v:V) (H1:Hp):Prop:=∃ (p:Addr) (xs:List V) (ks:List Int),v=.ref p/\SrtOf H1 p xs/\xs.length < 64/\ks.length=xs.length/\TabOk H1 P pos qual/\
 (∀ H2,SameT H1 H2->∀ (i:Nat) (y:V) (k:Int),xs[i]?=some y->ks[i]?=some k->te (some y :: capv σ js) H2 fun z H3=>z=.int k/\H3=H2)/\
 ∀ H2 l (ys:List (Int × V)),SameT H1 H2->TabOk H2 P pos qual->(∀ Q' pos' qual',Q'≠P->TabOk H1 Q' pos' qual'->TabOk H2 Q' pos' qual')->H2 l=none->ys.Perm (ks.zip xs)->ys.Pairwise (fun a b=>a.1<=b.1)->Q (.ref l) (upd H2 l (.lst (ys.map Prod.snd)))
def tSortK (P:Addr) (pos:Pos) (qual:Str) (js:List Nat) (te t1:TE):TE:=fun σ H Q=>t1 σ H (srtR P pos qual js te σ Q)
section
variable {X:Cx} {params:Arguments} {body e1:Expr} {scope:Scope} {cl:List (Str × Addr)} {c P:Addr} {lpos kp p pos:Pos} {x:Str} {caps:List Str} {js:List Nat} {te t1:TE}
theorem pe_sortK (hc:X.calm=true) (hr:Room 1 X.A) (hg:Gl X "sorted") (hm:X.mg "sorted"=none)
  (hdef:defaultsOf params X.env=([],[])) (hcl:closureFor scope X.env=pure cl) (hcode:X.env.code=.ref c) (C:codeHdIn X.K c P=true) (B:BltAt X.base X.mg P)
  (L:LamOk X scope cl x caps js) (hbind:∀ u pm cdv ctv,bindArgs (kla_fn "<lambda>" (X.env.qual ++ "<lambda>") params body scope cl pm cdv ctv) ⟨[u],[]⟩=pure [(x,u)])
  (he:∀ A f c' s H,PE (cxLam X A (x :: caps) (X.env.qual ++ "<lambda>") scope f (.ref c') cl s H) body te)
  (h1:PE X e1 t1)
  (hs:starEach [e1] X.env=(false,eval e1 X.env) :: starEach [] X.env:=by rfl) :
  PE X (.Call (.Name "sorted" p) [e1] [⟨some "key",.Lambda params body scope lpos,kp⟩] pos) (tSortK P lpos (X.env.qual ++ "<lambda>") js te t1):=by
 intro pins s σ H Q I h;refine wpAny_Call_Name_kw (J6c I hg hm rfl ?_ (by decide) (by decide));refine PyProof.Rows.callWith_kw ?_ (by rw [hs];rfl) (by rw [hs];rfl);refine thn ((J0 h1 J3 hs) pos pins s σ H (fun vs H1=>match vs with
  | [v]=>srtR P lpos (X.env.qual ++ "<lambda>") js te σ Q v H1
  | _=>False) I h) fun us s1 ⟨vs,H1,I1,r1,q1⟩=>?_
 match vs,r1,q1 with
 | [v],r1,q1 =>
  obtain ⟨q,xs,ks,rfl,hS,h64,hk,T,ht,fin⟩:=q1;obtain ⟨u,rfl,rx⟩:=vals1 r1;cases rx;refine kws_cons (lam_make I1 hdef hcl hcode C B T fun f c' ctv H2 s2 I2 ho ff cd sT T2 TQ nn=>kws_nil ?_);obtain ⟨oc,ws,t,e1,e2,e3⟩:=cd;show wpAny _ _ (call (.builtin "sorted") [.ref q] [(Str.ofString "key",.ref f)]) _ _ s2;have I3:Inv X ((f,kla_obj "<lambda>" (X.env.qual ++ "<lambda>") params body scope cl ((X.mg "__name__").getD .none) c' ctv) :: pins) σ H2 s2:=I2.pins_of fun p hp=>(mem_cons.mp hp).elim (fun z=>by
   rw [z];exact ⟨ho,ff.1,ff.2.1,ff.2.2.1,fun v q=>by cases q⟩) fun z=>I2.pin p (mem_append_right _ z)
  refine skey_col (pins:=(f,kla_obj "<lambda>" (X.env.qual ++ "<lambda>") params body scope cl ((X.mg "__name__").getD .none) c' ctv) :: pins) (σ:=σ) (H:=H2) hk h64 ?_ (fun i y v k ey ry ek s' I'=>?_) fun s' D out cc us' ru I' fD hz hD kk=>?_
  ·rcases hS with hS | ⟨n,hS,rfl⟩
   ·obtain ⟨its,r',pl,hz⟩:=I3.list (.inl (.inl (sT _ _ hS rfl)));refine collect_list pl.isList ⟨r',I3.kept (t':=s2.toks) fun b o e=>?_⟩ (by rw [sizeLine_eq];have:=r'.length;omega);have hlt:b < s2.heap.objs.size:=lt_size e;rw [Heap.get?_update_ne _ _ _ _ (Nat.ne_of_lt hlt),Heap.get?_push_ne _ _ _ (Nat.ne_of_lt hlt)];exact e
   ·obtain ⟨t,u,v,e⟩:=I3.hok q _ (sT _ _ hS rfl);refine J5k (I3.ok.hd hc) (show IsRange s2.heap q 0 (n:Int) 1 t u v from e) (by rw [length_map,length_range] at h64;omega) fun h' tk acc hkp hacc=>⟨J31 (by rw [length_toList];exact hacc.1) fun i v e=>?_,I3.kept (t':=tk) hkp⟩;obtain ⟨t,rfl⟩:=hacc.2 i v (by simpa using e);exact ⟨t,by simp⟩
  ·have po:=(I'.pin _ (mem_append_right _ (mem_cons_self ..))).1;have cr:s'.heap.CodeRec (.ref c') (X.env.qual ++ "<lambda>"):=⟨c',oc,ws,t,rfl,(I'.hok c' _ e1).1,e2,e3⟩;exact lam_turn I' L I'.ok.frames (I'.ok.hd hc) hr.depth ry po cr (hbind _ _ _ _) (he _ _ _ _ _) (ht H2 sT i y k ey ek)
  ·obtain ⟨ys,y1,y2,y3⟩:=kskV hk ru kk;have len:(ys.map Prod.snd).length<=sizeLine:=by
    rw [length_map,y1.length_eq,List.length_zip,sizeLine_eq];omega
   have J:=I'.adopt (o:=.lst (ys.map Prod.snd)) fD hz ⟨len,out.toList,cc,y2,hD⟩;exact ⟨.ref D,_,J.pins_of fun p hp=>J.pin p (mem_append_right _ (mem_cons_of_mem _ hp)),rfl,fin H2 D ys sT T2 TQ fD.1 y1 y3⟩
end
end L2
namespace L2
open PySem PySem.Spec PySem.Calls PyProof.Rows PySem.W
theorem Fun.okK {P:Program} {w:World} {K:PySem.W.Frag} {mg:Str->Option Value} {base:Heap} {x qual:Str} {st:Stmt} {f c:Addr} {fd:FuncData} {N ps:List Str} {k:Nat} {sp:Sp} (F:Fun K x qual st f fd) (hcode:fd.code=.ref c) (S:FnScope N ps (J6 st)) (len:∀ vs H Q E,sp vs H Q E->vs.length=ps.length)
  (hbody:∀ (A:Around) (outer:List Env) (s:Shared) (H:Hp) (vs:List V) (Q:VK) (E:XK),Room k (A.deeper (envOfC qual (J6 st) s.heap.objs.size f (.ref c)))->sp vs H Q E->
   ∃ t,PSs (cxOf CX0 P w K mg base N qual (J6 st) f (.ref c) A outer s H E).nox (J1j st) t/\t { nx:=fun _ H'=>Q .non H',rt:=Q } (start N vs) H):FnOk P w K mg base CX0 (k + 1) f fd ps sp:=by
 obtain ⟨oc,od,kV,doc,pm,an,cdv,ct,osl,rfl,lk,hcd⟩:=F.ex;obtain rfl:cdv=.ref c:=hcode;refine fn_of lk hcd S len fun A outer s H vs Q E hr hsp=>?_;obtain ⟨t,h,q⟩:=hbody A outer s H vs Q E hr hsp;exact ⟨t,h.nox,q⟩
theorem isTab_of {K:PySem.W.Frag} {h:Heap} {c P:Addr} (X:K.In h) (e:codeHdIn K c P=true):isCodeTable h P:=by
 obtain ⟨o,vs,_,_,_,_,_,_,_,e1,e2,e3,e4,_⟩:=codeHd_of_K X e;exact ⟨c,o,vs,e1,e2,e3,e4⟩
theorem law_callT {P:Program} {w:World} {K:PySem.W.Frag} {mg mb:Str->Option Value} {CX:CXT} {k:Nat} {fa a:Addr} {fd:FuncData} {x:Str} {sp:Sp} {s₁:Shared} {vs:List Value} {ns:List Int} {Ps:List Addr}
  (KX:K.In s₁.heap) (hns:s₁.heap.Ns mainGlobals mg) (hb:s₁.heap.Ns builtinsNs mb) (hbb:∀ x:Str,x≠"__name__"->mb x=bootBuiltins x) (hlim:s₁.heap.NoLimit) (hg:s₁.gens=#[])
  (ha:s₁.heap.get? a=some { cls:=.type "list",data:=.seq vs.toArray }) (hi:IntsAre vs ns) (hl:ns.length<=sizeLine) (hr:Room k callerA)
  (tabs:∀ P∈Ps,s₁.heap.get? P=some (tabObj #[])/\isCodeTable s₁.heap P/\K.lookup P=none)
  (hbm:∃ bm ob,mg "__builtins__"=some (.ref bm)/\bm≠builtinsNs/\s₁.heap.get? bm=some ob/\ob.cls=.type "module"/\ob.dict=some builtinsNs/\ob.data=.plain)
  (F:∀ base:Heap,K.In base->base.Ns mainGlobals mg->(∀ P∈Ps,BltAt base mg P)->FnOk P w K mg base CX k fa fd [x] sp) (hbind:∀ (s:Shared) (u:Value),BindsTo s fd ⟨[u],[]⟩ [(x,u)])
  (hsp:∀ H:Hp,(∀ P∈Ps,H P=some (.tbl #[]))->SqL K H a (ns.map V.int)->sp [.ref a] H (fun v _=>v=.bl true) fun _ _ _=>False)
  (hCX:∀ H e s',CX [] H s₁ (fun _ _ _=>False) e s'->False) :
  codeAny (model P w) callerA (.call (.ref fa) ⟨[.ref a],[]⟩) (fun r s'=>r=.ok (.ret (.bool true))/\OldK s₁.heap s'.heap/\s'.os=s₁.os/\AllBare s'.gens) s₁:=by
 have rv:=J44 hi;have lenV:=hi.length;have core:∀ H:Hp,(∀ P∈Ps,H P=some (.tbl #[]))->SqL K H a (ns.map V.int)->
   (∀ b u,H b=some u->(b∈Ps/\u=.tbl #[])\/(b=a/\K.lookup a=none/\u=.frz { cls:=.type "list",data:=.seq vs.toArray } (.lst (ns.map V.int))))->
   codeAny (model P w) callerA (.call (.ref fa) ⟨[.ref a],[]⟩) (fun r s'=>r=.ok (.ret (.bool true))/\OldK s₁.heap s'.heap/\s'.os=s₁.os/\AllBare s'.gens) s₁:=by
  intro H hT hS hA;have hok:HOk P w H s₁.heap:=fun b u e=>by
   rcases hA b u e with ⟨hb,rfl⟩ | ⟨rfl,_,rfl⟩
   ·exact (tabs b hb).1
   ·exact ⟨ha,by rw [length_map];exact hl,vs,_,rv,ha⟩
  have dictFree:∀ {b:Addr} {o:Obj} {es:Array DictEntry} {ep:Nat},s₁.heap.get? b=some o->o.data=.dict es ep->H b=none:=fun {b o es ep} e d=>by
   cases q:H b with
   | none=>rfl
   | some u =>
    rcases hA b u q with ⟨hb,_⟩ | ⟨rfl,_⟩
    ·rw [(tabs b hb).1] at e;cases e;cases d
    ·rw [ha] at e;cases e;cases d
  have nsK:∀ {b:Addr} {m:Str->Option Value},s₁.heap.Ns b m->(hidT s₁.heap H).Ns b m:=fun {b m} ⟨o,es,ep,e,d,r⟩=>⟨o,es,ep,J6d e (dictFree e d),d,r⟩;have hKb:K.In (hidT s₁.heap H):=fun b o e=>J6d (KX b o e) (by
   cases q:H b with
   | none=>rfl
   | some u =>
    rcases hA b u q with ⟨hb,_⟩ | ⟨rfl,hk,_⟩
    ·rw [(tabs b hb).2.2] at e;cases e
    ·rw [hk] at e;cases e)
  have hM:Mod K mg (hidT s₁.heap H):=⟨hKb,nsK hns,⟨mb,nsK hb,hbb⟩,let ⟨mc,h1,h2⟩:=hlim;⟨mc,nsK h1,h2⟩⟩;have e0:Env0 P w K mg (hidT s₁.heap H) callerA [] s₁ H:=⟨rfl,hM,fun b o e=>of_hidT e,Nat.le_of_eq (hidT_size _ _),trivial,fun b hb=>absurd (show b∈([]:List Addr) from hb) (by simp),hok,.of_eq hg⟩;have hBl:∀ Q∈Ps,BltAt (hidT s₁.heap H) mg Q:=fun Q hQ=>by
   obtain ⟨bm,ob,b1,b2,b3,b4,b5,b6⟩:=hbm;refine ⟨bm,ob,b1,b2,fun e=>?_,fun e=>?_,J6d b3 ?_,b4,b5,b6⟩
   ·obtain ⟨o,es,ep,e1,e2,_⟩:=hns;rw [e,e1] at b3;cases b3;rw [e2] at b6;cases b6
   ·rw [e,(tabs Q hQ).1] at b3;cases b3;cases b6
   ·cases q:H bm with
    | none=>rfl
    | some u =>
     rcases hA bm u q with ⟨hb,_⟩ | ⟨rfl,_⟩
     ·rw [(tabs bm hb).1] at b3;cases b3;cases b6
     ·rw [ha] at b3;cases b3;cases b6
  refine codeAny_mono ((F _ hKb (nsK hns) hBl).run callerA [] s₁ H ⟨[.ref a],[]⟩ [.ref a] [.ref a] _ _ hr e0 (hbind s₁ (.ref a)) (.cons rfl .nil) (hsp H hT hS)) fun r s' h=>?_
  cases r with
  | error e=>exact (hCX H e s' h).elim
  | ok fl =>
   cases fl with
   | next=>exact False.elim h
   | brk=>exact False.elim h
   | cont=>exact False.elim h
   | ret u =>
    obtain ⟨v,H',os,bare,un,hok',r',q⟩:=h;obtain rfl:v=.bl true:=q;obtain rfl:u=Value.bool true:=r';have kp:∀ b o,s₁.heap.get? b=some o->asItWas s₁.heap s'.heap b o:=fun b o e=>by
     cases q:H b with
     | none=>exact .inl (un.keep b o e q (by intro z;exact absurd (show b∈([]:List Addr) from z) (by simp)) (by simp))
     | some u =>
      rcases hA b u q with ⟨hb,rfl⟩ | ⟨rfl,_,rfl⟩
      ·obtain ⟨more,z⟩:=un.tbls b #[] q;obtain ⟨t1,t2,_⟩:=tabs b hb;rw [t1] at e;cases e;exact .inr (.inl ⟨t2,rfl,#[],more,rfl,hok' b _ z⟩)
      ·obtain ⟨e2,_⟩:=hok' b _ (un.frzs b _ _ q);rw [ha] at e;cases e;exact .inl e2
    exact ⟨rfl,⟨kp,fun b o e=>un.there b o e (by simp)⟩,os,bare⟩
 have nP:a ∉ Ps:=fun h=>by
  have e:=(tabs a h).1;rw [ha] at e;cases e
 cases hk:K.lookup a with
 | some o =>
  have e:=KX a o hk;rw [ha] at e;cases e;refine core (fun b=>if b∈Ps then some (.tbl #[]) else none) (fun P hP=>if_pos hP) (.inr ⟨_,vs.toArray,_,hk,rfl,rfl,rfl,by rw [size_toArray,lenV];exact hl,by simpa using rv⟩) fun b u z=>?_;by_cases hb:b∈Ps
  ·have z':=(if_pos hb).symm.trans z;cases z';exact .inl ⟨hb,rfl⟩
  ·have z':=(if_neg hb).symm.trans z;cases z'
 | none =>
  refine core (fun b=>if b∈Ps then some (.tbl #[]) else if b=a then some (.frz { cls:=.type "list",data:=.seq vs.toArray } (.lst (ns.map V.int))) else none) (fun P hP=>if_pos hP)
   (.inl (.inr ⟨{ cls:=.type "list",data:=.seq vs.toArray },(if_neg nP).trans (if_pos rfl)⟩)) fun b u z=>?_
  by_cases hb:b∈Ps
  ·have z':=(if_pos hb).symm.trans z;cases z';exact .inl ⟨hb,rfl⟩
  ·have z1:=(if_neg hb).symm.trans z;by_cases hba:b=a
   ·have z':=(if_pos hba).symm.trans z1;cases z';exact .inr ⟨hba,hk,rfl⟩
   ·have z':=(if_neg hba).symm.trans z1;cases z'
theorem TabOk.empty {H:Hp} {P:Addr} {pos:Pos} {qual:Str} (h:H P=some (.tbl #[])):TabOk H P pos qual:=⟨#[],h,by first | trivial | exact .nil | simp [TriplesOk],fun cv e=>by simp [codeAmong] at e⟩
end L2
namespace L2
open PySem PySem.Spec PySem.Calls PyProof.Rows PySem.W
theorem walk_ofU {l:PySem.W.OpenLaw} {n k:Nat} {q:Program} {loose:List Str} {XP:(Str->Option Value)->Heap->Prop} {YP:World->Heap->Prop} {d:DefRec} {K:Params->PySem.W.Frag} {CX:World->CXT} {sp:World->Sp} {x:Str} {Ps:List Addr}
  (hn:l.most=some n) (hn2:n<=sizeLine) (hdf:d.params.defaults=[]) (hr:Room k callerA)
  (hY:∀ (w:World) (h:Heap),YP w h->(K w.params).In h/\∀ P∈Ps,h.get? P=some (tabObj #[]))
  (hP:∀ (w:World),∀ P∈Ps,(K w.params).lookup P=none)
  (F:∀ (w:World) (mg:Str->Option Value) (fa:Addr) (h:Heap),(K w.params).In h->h.Ns mainGlobals mg->mg d.name=some (.ref fa)->
   (∀ P∈Ps,∃ c,codeHdIn (K w.params) c P=true)/\∃ fd:FuncData,(∀ (s:Shared) (u:Value),BindsTo s fd ⟨[u],[]⟩ [(x,u)])/\
    ∀ base:Heap,(K w.params).In base->base.Ns mainGlobals mg->(∀ P∈Ps,BltAt base mg P)->FnOk l.prog w (K w.params) mg base (CX w) k fa fd [x] (sp w))
  (hsp:∀ (w:World) (H:Hp) (a:Addr) (ns:List Int),ns.length<=n->(∀ P∈Ps,H P=some (.tbl #[]))->SqL (K w.params) H a (ns.map V.int)->sp w [.ref a] H (fun v _=>v=.bl true) fun _ _ _=>False)
  (hCX:∀ (w:World) (H:Hp) (s:Shared) (e:Value) (s':Shared),CX w [] H s (fun _ _ _=>False) e s'->False) :
  PySem.W.WalkO q loose XP YP l.row.toRowW d [] (fun f vs=>PySem.call f vs):=by
 refine Att.attach_call hn hdf fun w s₀ s₁ mg mb fa o pm cd doc a vs ns G Y ho hd hcd hmg hobj hints hlen hg=>?_;obtain ⟨KX,tb⟩:=hY w _ Y;obtain ⟨hC,fd,hb,hF⟩:=F w mg fa _ KX G.T.g hmg;refine law_callT KX G.T.g G.T.b G.T.builtins G.T.nolimit hg hobj hints (Nat.le_trans hlen hn2) hr (fun P hPs=>⟨tb P hPs,?_,hP w P hPs⟩) G.T.bmain hF hb (fun H hO hS=>hsp w H a ns hlen hO hS) fun H e s'=>hCX w H s₁ e s';obtain ⟨c,e⟩:=hC P hPs;exact isTab_of KX e
end L2
namespace Rl
structure Sr where
 fi:Int
 le:Int
 la:Int
 tu:Bool
def fgo (s:Sr):Int:=if s.tu=true then s.la + s.le - 1 else s.la
def lgo (s:Sr):Int:=if s.tu=true then s.la else s.la + s.le - 1
def gtog (a b:Sr):Bool:=decide ((if fgo b - lgo a < 0 then -(fgo b - lgo a) else fgo b - lgo a)=1)
def mk1 (a b:Sr):Sr:=⟨a.fi,a.le + b.le,if b.la < a.la then b.la else a.la,decide (b.la < a.la) && decide (1 < a.le + b.le)⟩
def lstp (acc:List Sr) (s:Sr):List Sr:=match acc.getLast? with
 | some a=>if gtog a s=true then acc.dropLast ++ [mk1 a s] else acc ++ [s]
 | none=>[s]
def lgst (ss:List Sr):List Sr:=ss.foldl lstp []
structure Pc (g:Int->Int) (a:Int) (s:Sr):Prop where
 fi:s.fi=a
 le:1<=s.le
 tu:s.tu=true->1 < s.le
 up:s.tu=false->∀ x,0<=x->x < s.le->g (a + x)=s.la + x
 dn:s.tu=true->∀ x,0<=x->x < s.le->g (a + x)=s.la + s.le - 1 - x
def near (u v:Int):Prop:=u - v=1\/v - u=1
def Rep (g:Int->Int):Int->List Sr->Int->Prop
 | a,[],b=>a=b
 | a,s :: r,b=>Pc g a s/\Rep g (a + s.le) r b
def RepS (g:Int->Int):Int->List Sr->Int->Prop
 | a,[],b=>a=b
 | a,s :: r,b=>Pc g a s/\(r≠[]->¬ near (g (a + s.le)) (g (a + s.le - 1)))/\RepS g (a + s.le) r b
theorem Pc.fgo {g:Int->Int} {a:Int} {s:Sr} (p:Pc g a s):fgo s=g a:=by
 unfold Rl.fgo;have l:=p.le;by_cases t:s.tu=true
 ·rw [if_pos t];have:=p.dn t 0 (by omega) (by omega);rw [show a + 0=a by omega] at this;omega
 ·rw [if_neg t];have:=p.up (by simpa using t) 0 (by omega) (by omega);rw [show a + 0=a by omega] at this;omega
theorem Pc.lgo {g:Int->Int} {a:Int} {s:Sr} (p:Pc g a s):lgo s=g (a + s.le - 1):=by
 unfold Rl.lgo;have l:=p.le;by_cases t:s.tu=true
 ·rw [if_pos t];have:=p.dn t (s.le - 1) (by omega) (by omega);rw [show a + (s.le - 1)=a + s.le - 1 by omega] at this;omega
 ·rw [if_neg t];have:=p.up (by simpa using t) (s.le - 1) (by omega) (by omega);rw [show a + (s.le - 1)=a + s.le - 1 by omega] at this;omega
theorem gtog_iff {g:Int->Int} {a:Int} {p q:Sr} (hp:Pc g a p) (hq:Pc g (a + p.le) q):gtog p q=true↔near (g (a + p.le)) (g (a + p.le - 1)):=by
 unfold gtog near;rw [hq.fgo,hp.lgo,decide_eq_true_iff];generalize g (a + p.le)=u;generalize g (a + p.le - 1)=v;split <;> omega
theorem Pc.merge {g:Int->Int} {a b:Int} {p q:Sr} (inj:∀ x y,a<=x->x < b->a<=y->y < b->g x=g y->x=y) (hp:Pc g a p) (hq:Pc g (a + p.le) q) (hb:a + p.le + q.le<=b)
  (h:near (g (a + p.le)) (g (a + p.le - 1))):Pc g a (mk1 p q):=by
 have l1:=hp.le;have l2:=hq.le;have f1:=hp.lgo;have f2:=hq.fgo;unfold Rl.lgo at f1;unfold Rl.fgo at f2;rcases h with h | h
 ·-- upward
  have pt:p.tu=false:=by
   cases t:p.tu with
   | false=>rfl
   | true =>
    have h1:=hp.tu t;have e:=hp.dn t (p.le - 2) (by omega) (by omega);rw [if_pos t] at f1;have:=inj (a + (p.le - 2)) (a + p.le) (by omega) (by omega) (by omega) (by omega) (by omega);omega
  have qt:q.tu=false:=by
   cases t:q.tu with
   | false=>rfl
   | true =>
    have h1:=hq.tu t;have e:=hq.dn t 1 (by omega) (by omega);rw [if_pos t] at f2;have:=inj (a + p.le + 1) (a + p.le - 1) (by omega) (by omega) (by omega) (by omega) (by omega);omega
  rw [pt,if_neg (by decide)] at f1;rw [qt,if_neg (by decide)] at f2;have ln:¬ q.la < p.la:=by omega
  refine ⟨hp.fi,by show 1<=p.le + q.le;omega,fun t=>by show 1 < p.le + q.le;omega,fun t x h0 h1=>?_,fun t=>?_⟩
  ·have h1:x < p.le + q.le:=h1;show g (a + x)=(if q.la < p.la then q.la else p.la) + x;rw [if_neg ln];rcases Int.lt_or_le x p.le with hx | hx
   ·exact hp.up pt x h0 hx
   ·have:=hq.up qt (x - p.le) (by omega) (by omega);rw [show a + p.le + (x - p.le)=a + x by omega] at this;omega
  ·have t:(decide (q.la < p.la) && decide (1 < p.le + q.le))=true:=t;rw [decide_eq_false ln] at t;cases t
 ·-- downward
  have pd:∀ x,0<=x->x < p.le->g (a + x)=p.la + p.le - 1 - x:=by
   cases t:p.tu with
   | true=>exact hp.dn t
   | false =>
    intro x h0 h1;rw [t,if_neg (by decide)] at f1;rcases Int.lt_or_le 1 p.le with l | l
    ·have e:=hp.up t (p.le - 2) (by omega) (by omega);have:=inj (a + (p.le - 2)) (a + p.le) (by omega) (by omega) (by omega) (by omega) (by omega);omega
    ·have e:=hp.up t x h0 h1;omega
  have qd:∀ x,0<=x->x < q.le->g (a + p.le + x)=q.la + q.le - 1 - x:=by
   cases t:q.tu with
   | true=>exact hq.dn t
   | false =>
    intro x h0 h1;rw [t,if_neg (by decide)] at f2;rcases Int.lt_or_le 1 q.le with l | l
    ·have e:=hq.up t 1 (by omega) (by omega);have:=inj (a + p.le + 1) (a + p.le - 1) (by omega) (by omega) (by omega) (by omega) (by omega);omega
    ·have e:=hq.up t x h0 h1;omega
  have e1:=pd (p.le - 1) (by omega) (by omega);have e2:=qd 0 (by omega) (by omega);rw [show a + (p.le - 1)=a + p.le - 1 by omega] at e1;rw [show a + p.le + 0=a + p.le by omega] at e2;have ln:q.la < p.la:=by omega
  refine ⟨hp.fi,by show 1<=p.le + q.le;omega,fun t=>by show 1 < p.le + q.le;omega,fun t=>?_,fun t x h0 h1=>?_⟩
  ·have t:(decide (q.la < p.la) && decide (1 < p.le + q.le))=false:=t;rw [decide_eq_true ln,decide_eq_true (by omega:1 < p.le + q.le)] at t;cases t
  ·have h1:x < p.le + q.le:=h1;show g (a + x)=(if q.la < p.la then q.la else p.la) + (p.le + q.le) - 1 - x;rw [if_pos ln];rcases Int.lt_or_le x p.le with hx | hx
   ·have:=pd x h0 hx;omega
   ·have:=qd (x - p.le) (by omega) (by omega);rw [show a + p.le + (x - p.le)=a + x by omega] at this;omega
theorem RepS.last {g:Int->Int}:∀ {init:List Sr} {a m:Int} {p:Sr},RepS g a (init ++ [p]) m->∃ k,a<=k/\Pc g k p/\m=k + p.le/\(∀ p',Pc g k p'->RepS g a (init ++ [p']) (k + p'.le))/\
  ∀ q,Pc g m q->¬ near (g m) (g (m - 1))->RepS g a (init ++ [p] ++ [q]) (m + q.le)
 | [],a,m,p,h=>by
  obtain ⟨h1,_,h3⟩:=h;have h3:a + p.le=m:=h3;subst h3;exact ⟨a,Int.le_refl _,h1,rfl,fun p' hp=>⟨hp,fun z=>absurd rfl z,rfl⟩,fun q hq hn=>⟨h1,fun _=>hn,hq,fun z=>absurd rfl z,rfl⟩⟩
 | s :: r,a,m,p,h=>by
  obtain ⟨h1,h2,h3⟩:=h;obtain ⟨k,k1,k2,k3,k4,k5⟩:=RepS.last (init:=r) h3;have:=h1.le;refine ⟨k,by omega,k2,k3,fun p' hp=>⟨h1,fun _=>h2 (by simp),k4 p' hp⟩,fun q hq hn=>⟨h1,fun _=>h2 (by simp),k5 q hq hn⟩⟩
theorem RepS.le {g:Int->Int}:∀ {ss:List Sr} {a b:Int},RepS g a ss b->a<=b
 | [],a,b,h=>Int.le_of_eq h
 | s :: r,a,b,⟨h1,_,h3⟩=>by have:=RepS.le h3;have:=h1.le;omega
theorem sr_split {acc:List Sr} {a:Sr} (e:acc.getLast?=some a):acc=acc.dropLast ++ [a]:=by
 rcases List.eq_nil_or_concat acc with rfl | ⟨l,b,rfl⟩
 ·cases e
 ·rw [List.concat_eq_append] at *;rw [List.getLast?_concat] at e;cases e;rw [List.dropLast_concat]
theorem RepS.step {g:Int->Int} {a m b:Int} {acc:List Sr} {s:Sr} (inj:∀ x y,a<=x->x < b->a<=y->y < b->g x=g y->x=y) (h:RepS g a acc m) (hs:Pc g m s) (hb:m + s.le<=b):RepS g a (lstp acc s) (m + s.le):=by
 unfold lstp
 cases e:acc.getLast? with
 | none =>
  have:acc=[]:=List.getLast?_eq_none_iff.mp e;subst this;have h:a=m:=h;subst h;exact ⟨hs,fun z=>absurd rfl z,rfl⟩
 | some p =>
  have sp:=sr_split e;dsimp only;rw [sp] at h;obtain ⟨k,k1,k2,k3,k4,k5⟩:=h.last;subst k3;by_cases c:gtog p s=true
  ·rw [if_pos c];have M:=Pc.merge (a:=k) (b:=b) (fun x y x0 x1 y0 y1 e=>inj x y (by omega) x1 (by omega) y1 e) k2 hs (by omega) ((gtog_iff k2 hs).mp c);have:=k4 _ M;rw [show k + p.le + s.le=k + (mk1 p s).le by show _=k + (p.le + s.le);omega];exact this
  ·rw [if_neg c];have:=k5 s hs fun n=>c ((gtog_iff k2 hs).mpr n);rw [<- sp] at this;exact this
theorem Rep.le {g:Int->Int}:∀ {ss:List Sr} {a b:Int},Rep g a ss b->a<=b
 | [],a,b,h=>Int.le_of_eq h
 | s :: r,a,b,⟨h1,h3⟩=>by have:=Rep.le h3;have:=h1.le;omega
theorem fold_rep {g:Int->Int} {a b:Int} (inj:∀ x y,a<=x->x < b->a<=y->y < b->g x=g y->x=y):∀ (ss:List Sr) {acc:List Sr} {m:Int},RepS g a acc m->Rep g m ss b->RepS g a (ss.foldl lstp acc) b
 | [],acc,m,h,e=>by
  have e:m=b:=e;subst e;exact h
 | s :: r,acc,m,h,⟨h1,h2⟩=>by
  rw [List.foldl_cons];exact fold_rep inj r (RepS.step inj h h1 h2.le) h2
theorem lgst_rep {g:Int->Int} {a b:Int} {ss:List Sr} (inj:∀ x y,a<=x->x < b->a<=y->y < b->g x=g y->x=y) (h:Rep g a ss b):RepS g a (lgst ss) b:=fold_rep inj ss (acc:=[]) (m:=a) rfl h
theorem Pc.near {g:Int->Int} {a m:Int} {s:Sr} (p:Pc g a s) (h0:a < m) (h1:m < a + s.le):near (g m) (g (m - 1)):=by
 cases t:s.tu with
 | false =>
  have e1:=p.up t (m - a) (by omega) (by omega);have e2:=p.up t (m - 1 - a) (by omega) (by omega);rw [show a + (m - a)=m by omega] at e1;rw [show a + (m - 1 - a)=m - 1 by omega] at e2;left;omega
 | true =>
  have e1:=p.dn t (m - a) (by omega) (by omega);have e2:=p.dn t (m - 1 - a) (by omega) (by omega);rw [show a + (m - a)=m by omega] at e1;rw [show a + (m - 1 - a)=m - 1 by omega] at e2;right;omega
theorem Pc.uni {g:Int->Int} {a:Int} {p q:Sr} (hp:Pc g a p) (hq:Pc g a q) (e:p.le=q.le):p=q:=by
 have l:=hp.le;have t:p.tu=q.tu:=by
  cases tp:p.tu with
  | false =>
   cases tq:q.tu with
   | false=>rfl
   | true =>
    have h:=hq.tu tq;have a1:=hp.up tp 0 (by omega) (by omega);have a2:=hp.up tp 1 (by omega) (by omega);have b1:=hq.dn tq 0 (by omega) (by omega);have b2:=hq.dn tq 1 (by omega) (by omega);omega
  | true =>
   cases tq:q.tu with
   | true=>rfl
   | false =>
    have h:=hp.tu tp;have a1:=hp.dn tp 0 (by omega) (by omega);have a2:=hp.dn tp 1 (by omega) (by omega);have b1:=hq.up tq 0 (by omega) (by omega);have b2:=hq.up tq 1 (by omega) (by omega);omega
 have la:p.la=q.la:=by
  cases tp:p.tu with
  | false =>
   have a1:=hp.up tp 0 (by omega) (by omega);have b1:=hq.up (by rw [<- t];exact tp) 0 (by omega) (by omega);omega
  | true =>
   have a1:=hp.dn tp 0 (by omega) (by omega);have b1:=hq.dn (by rw [<- t];exact tp) 0 (by omega) (by omega);omega
 have f:=hp.fi.trans hq.fi.symm;obtain ⟨pf,pl,pa,pt⟩:=p;obtain ⟨qf,ql,qa,qt⟩:=q;simp only at e t la f;rw [e,t,la,f]
theorem RepS.uni {g:Int->Int}:∀ {ss tt:List Sr} {a b:Int},RepS g a ss b->RepS g a tt b->ss=tt
 | [],[],_,_,_,_=>rfl
 | [],t :: r,a,b,h,⟨h1,_,h3⟩=>by
  have h:a=b:=h;have:=h3.le;have:=h1.le;omega
 | s :: r,[],a,b,⟨h1,_,h3⟩,h=>by
  have h:a=b:=h;have:=h3.le;have:=h1.le;omega
 | s :: r,t :: r',a,b,⟨h1,h2,h3⟩,⟨k1,k2,k3⟩=>by
  have l1:=h1.le;have l2:=k1.le;have e:s.le=t.le:=by
   have z1:=h3.le;have z2:=k3.le;rcases Int.lt_trichotomy s.le t.le with c | c | c
   ·have:r≠[]:=fun z=>by
     subst z;have h3:a + s.le=b:=h3;omega
    exact absurd (k1.near (m:=a + s.le) (by omega) (by omega)) (h2 this)
   ·exact c
   ·have:r'≠[]:=fun z=>by
     subst z;have k3:a + t.le=b:=k3;omega
    exact absurd (h1.near (m:=a + t.le) (by omega) (by omega)) (k2 this)
  have st:=h1.uni k1 e;subst st;rw [RepS.uni h3 k3]
end Rl
namespace Rl
def srO (ls:List Int) (os:List Nat) (ts:List Bool) (i:Nat):Sr:=⟨(firsts ls (List.range ls.length)).getD i 0,ls.getD i 0,(firsts ls os).getD i 0,ts.getD i false && decide (1 < ls.getD i 0)⟩
def srsL (ls:List Int) (os:List Nat) (ts:List Bool):List Sr:=(List.range ls.length).map (srO ls os ts)
noncomputable def gL (ls:List Int) (os:List Nat) (ts:List Bool) (x:Int):Int:=by
 classical exact if h:∃ j,Lies (firsts ls (List.range ls.length)) ls x j then moveN ls ts h.choose (x - (firsts ls (List.range ls.length)).getD h.choose 0) (firsts ls os) else 0
theorem gL_eq {ls:List Int} {os:List Nat} {ts:List Bool} (O:Ord ls os) {x:Int} {j:Nat} (q:Lies (firsts ls (List.range ls.length)) ls x j):gL ls os ts x=moveN ls ts j (x - (firsts ls (List.range ls.length)).getD j 0) (firsts ls os):=by
 unfold gL;have h:∃ j,Lies (firsts ls (List.range ls.length)) ls x j:=⟨j,q⟩;rw [dif_pos h,O.range.unique h.choose_spec q]
theorem J5h {ls:List Int} {os:List Nat} {ts:List Bool} (O:Ord ls os) {x:Int} {j:Nat} (q:Lies (firsts ls (List.range ls.length)) ls x j):Lies (firsts ls os) ls (gL ls os ts x) j:=by
 rw [gL_eq O q];exact (move_lies q).1
theorem gL_inj {ls:List Int} {os:List Nat} {ts:List Bool} (O:Ord ls os) {x y:Int} (x0:0<=x) (x1:x < ls.sum) (y0:0<=y) (y1:y < ls.sum) (e:gL ls os ts x=gL ls os ts y):x=y:=by
 obtain ⟨j,hj⟩:=O.range.exists x0 x1;obtain ⟨k,hk⟩:=O.range.exists y0 y1;have a:=J5h (ts:=ts) O hj;have b:=J5h (ts:=ts) O hk;rw [e] at a;have jk:=O.unique a b;subst jk;rw [gL_eq O hj,gL_eq O hk] at e;obtain ⟨_,_,_⟩:=hj;unfold moveN at e;split at e <;> omega
theorem gL_in {ls:List Int} {os:List Nat} {ts:List Bool} (O:Ord ls os) {x:Int} (x0:0<=x) (x1:x < ls.sum):0<=gL ls os ts x/\gL ls os ts x < ls.sum:=by
 obtain ⟨j,hj⟩:=O.range.exists x0 x1;exact O.inside (J5h O hj)
theorem J17 {ls:List Int} {os:List Nat} (O:Ord ls os) {k:Nat} (h:k < ls.length):(firsts ls (List.range ls.length)).getD k 0=Jo ls (List.range ls.length) k:=by
 have:=O.range.first h;rwa [J28 h] at this
theorem sr_pc {ls:List Int} {os:List Nat} {ts:List Bool} (O:Ord ls os) {k:Nat} (h:k < ls.length):Pc (gL ls os ts) (Jo ls (List.range ls.length) k) (srO ls os ts k):=by
 have fr:=J17 O h;have one:=O.one h;have at_:∀ x,0<=x->x < ls.getD k 0->gL ls os ts (Jo ls (List.range ls.length) k + x)=if ts.getD k false=true then (firsts ls os).getD k 0 + ls.getD k 0 - 1 - x else (firsts ls os).getD k 0 + x:=fun x h0 h1=>by
  rw [gL_eq O (j:=k) ⟨h,by omega,by omega⟩];unfold moveN;rw [fr,show Jo ls (List.range ls.length) k + x - Jo ls (List.range ls.length) k=x by omega]
 refine ⟨fr,one,fun t=>?_,fun t x h0 h1=>?_,fun t x h0 h1=>?_⟩
 ·have t:(ts.getD k false && decide (1 < ls.getD k 0))=true:=t;rw [Bool.and_eq_true] at t;exact of_decide_eq_true t.2
 ·have h1:x < ls.getD k 0:=h1;have t:(ts.getD k false && decide (1 < ls.getD k 0))=false:=t;rw [at_ x h0 h1];show _=(firsts ls os).getD k 0 + x;by_cases c:ts.getD k false=true
  ·rw [c,Bool.true_and] at t;have:=of_decide_eq_false t;rw [if_pos c];omega
  ·rw [if_neg c]
 ·have h1:x < ls.getD k 0:=h1;have t:(ts.getD k false && decide (1 < ls.getD k 0))=true:=t;rw [Bool.and_eq_true] at t;rw [at_ x h0 h1,if_pos t.1];rfl
theorem srs_from {ls:List Int} {os:List Nat} {ts:List Bool} (O:Ord ls os):∀ (d k:Nat),k + d=ls.length->Rep (gL ls os ts) (Jo ls (List.range ls.length) k) (((List.range ls.length).drop k).map (srO ls os ts)) ls.sum
 | 0,k,e=>by
  have e:k=ls.length:=by omega
  subst e;rw [List.drop_of_length_le (by simp)];exact O.range.whole
 | d + 1,k,e=>by
  have hk:k < ls.length:=by omega
  rw [List.drop_eq_getElem_cons (by simpa using hk),List.getElem_range,map_cons];refine ⟨sr_pc O hk,?_⟩;have:=srs_from (ts:=ts) O d (k + 1) (by omega);rw [J18,J28 hk] at this;exact this
theorem J4z {ls:List Int} {os:List Nat} {ts:List Bool} (O:Ord ls os):Rep (gL ls os ts) 0 (srsL ls os ts) ls.sum:=srs_from O ls.length 0 (by omega)
theorem Pc.val {g h:Int->Int} {a:Int} {s:Sr} (p:Pc g a s) (q:Pc h a s) {x:Int} (x0:a<=x) (x1:x < a + s.le):g x=h x:=by
 cases t:s.tu with
 | false =>
  have e1:=p.up t (x - a) (by omega) (by omega);have e2:=q.up t (x - a) (by omega) (by omega);rw [show a + (x - a)=x by omega] at e1 e2;omega
 | true =>
  have e1:=p.dn t (x - a) (by omega) (by omega);have e2:=q.dn t (x - a) (by omega) (by omega);rw [show a + (x - a)=x by omega] at e1 e2;omega
end Rl
namespace Rl
theorem RepS.at {g:Int->Int}:∀ {L:List Sr} {a b:Int},RepS g a L b->∀ (i:Nat) (s:Sr),L[i]?=some s->Pc g s.fi s/\a<=s.fi/\s.fi + s.le<=b
 | [],_,_,_,i,s,e=>by simp at e
 | t :: r,a,b,⟨h1,h2,h3⟩,0,s,e=>by
  have e:some t=some s:=e;cases e;have:=h3.le;have f:=h1.fi;rw [f];exact ⟨h1,Int.le_refl _,this⟩
 | t :: r,a,b,⟨h1,h2,h3⟩,i + 1,s,e=>by
  obtain ⟨p1,p2,p3⟩:=RepS.at h3 i s e;have:=h1.le;exact ⟨p1,by omega,p3⟩
theorem RepS.next {g:Int->Int}:∀ {L:List Sr} {a b:Int},RepS g a L b->∀ (i:Nat) (s t:Sr),L[i]?=some s->L[i + 1]?=some t->t.fi=s.fi + s.le
 | [],_,_,_,i,s,t,e,_=>by simp at e
 | u :: r,a,b,⟨h1,h2,h3⟩,0,s,t,e,e2=>by
  have e:some u=some s:=e;cases e
  cases r with
  | nil=>simp at e2
  | cons v r' =>
   have e2:some v=some t:=e2;cases e2;rw [h3.1.fi,h1.fi]
 | u :: r,a,b,⟨h1,h2,h3⟩,i + 1,s,t,e,e2=>RepS.next h3 i s t e e2
theorem RepS.before {g:Int->Int}:∀ {L:List Sr} {a b:Int},RepS g a L b->∀ (i j:Nat) (s t:Sr),i < j->L[i]?=some s->L[j]?=some t->s.fi + s.le<=t.fi
 | [],_,_,_,i,j,s,t,_,e,_=>by simp at e
 | u :: r,a,b,⟨h1,h2,h3⟩,0,j + 1,s,t,_,e,e2=>by
  have e:some u=some s:=e;cases e;obtain ⟨_,p2,_⟩:=RepS.at h3 j t e2;have:=h1.fi;omega
 | u :: r,a,b,⟨h1,h2,h3⟩,i + 1,j + 1,s,t,h,e,e2=>RepS.before h3 i j s t (by omega) e e2
theorem RepS.tot {g:Int->Int}:∀ {L:List Sr} {a b:Int},RepS g a L b->a + (L.map Sr.le).sum=b
 | [],a,b,e=>by
  have e:a=b:=e;simp [e]
 | s :: r,a,b,⟨_,_,h3⟩=>by
  have:=RepS.tot h3;rw [map_cons,sum_cons];omega
theorem Pc.hit {g:Int->Int} {a v:Int} {s:Sr} (p:Pc g a s) (v0:s.la<=v) (v1:v < s.la + s.le):∃ x,a<=x/\x < a + s.le/\g x=v:=by
 cases t:s.tu with
 | false=>exact ⟨a + (v - s.la),by omega,by omega,by rw [p.up t _ (by omega) (by omega)];omega⟩
 | true=>exact ⟨a + (s.la + s.le - 1 - v),by omega,by omega,by rw [p.dn t _ (by omega) (by omega)];omega⟩
theorem Pc.low {g:Int->Int} {a:Int} {s:Sr} (p:Pc g a s):∃ x,a<=x/\x < a + s.le/\g x=s.la:=p.hit (Int.le_refl _) (by have:=p.le;omega)
theorem Pc.high {g:Int->Int} {a:Int} {s:Sr} (p:Pc g a s):∃ x,a<=x/\x < a + s.le/\g x=s.la + s.le - 1:=p.hit (by have:=p.le;omega) (by omega)
def s0:Sr:=⟨0,0,0,false⟩
section
variable {g:Int->Int} {L:List Sr} {N:Int} {os:List Nat}
theorem getL {i:Nat} (h:i < L.length):L[i]?=some (L.getD i s0):=by rw [getD_eq_getElem?_getD,List.getElem?_eq_getElem h];rfl
theorem leD {i:Nat} (h:i < L.length):(L.map Sr.le).getD i 0=(L.getD i s0).le:=by
 rw [getD_eq_getElem?_getD,getElem?_map,getL h];rfl
theorem laD {i:Nat} (h:i < L.length):(L.map Sr.la).getD i 0=(L.getD i s0).la:=by
 rw [getD_eq_getElem?_getD,getElem?_map,getL h];rfl
theorem tuD {i:Nat} (h:i < L.length):(L.map Sr.tu).getD i false=(L.getD i s0).tu:=by
 rw [getD_eq_getElem?_getD,getElem?_map,getL h];rfl
theorem RepS.ord (R:RepS g 0 L N) (p:os.Perm (List.range L.length)):Ord (L.map Sr.le) os :=
 ⟨fun a ha=>by
  obtain ⟨s,hs,rfl⟩:=mem_map.mp ha;obtain ⟨i,hi,e⟩:=List.getElem_of_mem hs;exact (R.at i s (by rw [List.getElem?_eq_getElem hi,e])).1.le,by rw [length_map];exact p⟩
theorem RepS.apart (R:RepS g 0 L N) (inj:∀ x y,0<=x->x < N->0<=y->y < N->g x=g y->x=y) {i j:Nat} (hi:i < L.length) (hj:j < L.length) (ne:i≠j) (h:(L.getD i s0).la<=(L.getD j s0).la):(L.getD i s0).la + (L.getD i s0).le<=(L.getD j s0).la:=by
 obtain ⟨p1,p2,p3⟩:=R.at i _ (getL hi);obtain ⟨q1,q2,q3⟩:=R.at j _ (getL hj);rcases Int.lt_or_le (L.getD j s0).la ((L.getD i s0).la + (L.getD i s0).le) with c | c
 ·obtain ⟨x,x0,x1,ex⟩:=p1.hit h c;obtain ⟨y,y0,y1,ey⟩:=q1.low;have:=inj x y (by omega) (by omega) (by omega) (by omega) (by omega);subst this;rcases Nat.lt_or_gt_of_ne ne with l | l
  ·have:=R.before i j _ _ l (getL hi) (getL hj);omega
  ·have:=R.before j i _ _ l (getL hj) (getL hi);omega
 ·exact c
theorem RepS.laid (R:RepS g 0 L N) (inj:∀ x y,0<=x->x < N->0<=y->y < N->g x=g y->x=y) (inn:∀ x,0<=x->x < N->0<=g x/\g x < N) (p:os.Perm (List.range L.length))
  (srt:os.Pairwise (fun i j=>(L.map Sr.la).getD i 0<=(L.map Sr.la).getD j 0)):∀ k,k < L.length->(L.getD (os.getD k 0) s0).la=Jo (L.map Sr.le) os k:=by
 have O:=R.ord p;have lm:(L.map Sr.le).length=L.length:=length_map ..;have ol:os.length=L.length:=by rw [p.length_eq,length_range]
 have lt:∀ k,k < L.length->os.getD k 0 < L.length:=fun k h=>by have:=O.lt (i:=k) (by omega);omega
 have nxt:∀ k,Jo (L.map Sr.le) os (k + 1)=Jo (L.map Sr.le) os k + (L.map Sr.le).getD (os.getD k 0) 0:=fun k=>J18 _ _ k;have step:∀ k,k + 1 < L.length->(L.getD (os.getD k 0) s0).la + (L.getD (os.getD k 0) s0).le<=(L.getD (os.getD (k + 1) 0) s0).la:=fun k h=>by
  refine R.apart inj (lt k (by omega)) (lt (k + 1) h) (fun e=>?_) ?_
  ·have:=O.inj (i:=k) (j:=k + 1) (by omega) (by omega) e;omega
  ·have:=(List.pairwise_iff_getElem.mp srt) k (k + 1) (by omega) (by omega) (by omega);rw [<- laD (lt k (by omega)),<- laD (lt (k + 1) h)];rw [getD_eq_getElem?_getD (l:=os),List.getElem?_eq_getElem (by omega:k < os.length),getD_eq_getElem?_getD (l:=os),List.getElem?_eq_getElem (by omega:k + 1 < os.length)];exact this
 have lowB:∀ k,k < L.length->Jo (L.map Sr.le) os k<=(L.getD (os.getD k 0) s0).la:=by
  intro k
  induction k with
  | zero =>
   intro h;obtain ⟨p1,p2,p3⟩:=R.at _ _ (getL (lt 0 h));obtain ⟨x,x0,x1,ex⟩:=p1.low;have:=inn x (by omega) (by omega);rw [J11];omega
  | succ k ih =>
   intro h;have h1:=ih (by omega);have h2:=step k h;rw [nxt,leD (lt k (by omega))];omega
 have tot:Jo (L.map Sr.le) os L.length=N:=by
  have h:=O.whole;rw [lm] at h;have:=R.tot;omega
 have upB:∀ d k,k + d + 1=L.length->(L.getD (os.getD k 0) s0).la + (L.getD (os.getD k 0) s0).le<=Jo (L.map Sr.le) os (k + 1):=by
  intro d
  induction d with
  | zero =>
   intro k h;obtain ⟨p1,p2,p3⟩:=R.at _ _ (getL (lt k (by omega)));obtain ⟨x,x0,x1,ex⟩:=p1.high;have:=inn x (by omega) (by omega);rw [show k + 1=L.length by omega,tot];omega
  | succ d ih =>
   intro k h;have h1:=ih (k + 1) (by omega);have h2:=step k (by omega);have h3:=nxt (k + 1);rw [leD (lt (k + 1) (by omega))] at h3;omega
 intro k h;have h1:=lowB k h;have h2:=upB (L.length - 1 - k) k (by omega);rw [nxt,leD (lt k h)] at h2;omega
theorem RepS.fis (R:RepS g 0 L N):∀ k,k < L.length->(L.getD k s0).fi=Jo (L.map Sr.le) (List.range L.length) k
 | 0,h=>by
  rw [J11]
  cases L with
  | nil=>simp at h
  | cons s r=>exact R.1.fi
 | k + 1,h=>by
  have h1:=RepS.fis R k (by omega);have h2:=R.next k _ _ (getL (by omega)) (getL h);rw [h2,h1,J18,J28 (by omega:k < L.length),leD (by omega)]
theorem RepS.own (R:RepS g 0 L N) (inj:∀ x y,0<=x->x < N->0<=y->y < N->g x=g y->x=y) (inn:∀ x,0<=x->x < N->0<=g x/\g x < N) (p:os.Perm (List.range L.length))
  (srt:os.Pairwise (fun i j=>(L.map Sr.la).getD i 0<=(L.map Sr.la).getD j 0)):srsL (L.map Sr.le) os (L.map Sr.tu)=L:=by
 have O:=R.ord p;have lm:(L.map Sr.le).length=L.length:=length_map ..;apply ext_getElem?;intro i;unfold srsL;rw [lm,getElem?_map];by_cases h:i < L.length
 ·rw [getElem?_range h,getL h];refine congrArg some ?_;obtain ⟨k,hk,ek⟩:=O.onto (j:=i) (by omega);have e1:=R.laid inj inn p srt k (by omega);rw [ek] at e1;have e2:=O.first (i:=k) hk;rw [ek] at e2;have e3:=R.fis i h;have e4:=J17 O (k:=i) (by omega);rw [lm] at e4;have P:=(R.at i _ (getL h)).1;unfold srO;rw [lm,e4,<- e3,leD h,e2,<- e1,tuD h];generalize L.getD i s0=s at *;have t:(s.tu && decide (1 < s.le))=s.tu:=by
   cases q:s.tu with
   | false=>rfl
   | true=>rw [decide_eq_true (P.tu q)];rfl
  rw [t]
 ·rw [getElem?_eq_none (by simpa using h),getElem?_eq_none (by simpa using h)];rfl
end
theorem RepS.rep {g:Int->Int}:∀ {L:List Sr} {a b:Int},RepS g a L b->Rep g a L b
 | [],_,_,h=>h
 | s :: r,_,_,⟨h1,_,h3⟩=>⟨h1,RepS.rep h3⟩
theorem Rep.val {g h:Int->Int}:∀ {ss:List Sr} {a b c:Int},Rep g a ss b->Rep h a ss c->b=c/\∀ x,a<=x->x < b->g x=h x
 | [],a,b,c,e1,e2=>by
  have e1:a=b:=e1;have e2:a=c:=e2;exact ⟨by omega,fun x x0 x1=>by omega⟩
 | s :: r,a,b,c,⟨h1,h3⟩,⟨k1,k3⟩=>by
  obtain ⟨e,v⟩:=Rep.val h3 k3;refine ⟨e,fun x x0 x1=>?_⟩;rcases Int.lt_or_le x (a + s.le) with c | c
  ·exact h1.val k1 x0 c
  ·exact v x c x1
end Rl
namespace Rl
structure PlO (L:List Sr) (os:List Nat):Prop where
 perm:os.Perm (List.range L.length)
 srt:os.Pairwise (fun i j=>(L.map Sr.la).getD i 0<=(L.map Sr.la).getD j 0)
end Rl
namespace Rl
theorem flat_one {α β:Type} {f:α->List β} {g:α->β}:∀ {l:List α},(∀ o∈l,f o=[g o])->l.flatMap f=l.map g
 | [],_=>rfl
 | a :: r,h=>by
  rw [List.flatMap_cons,h a (mem_cons_self ..),flat_one fun o ho=>h o (mem_cons_of_mem _ ho)];rfl
end Rl
namespace Rl
theorem Rep.all {g:Int->Int}:∀ {L:List Sr} {a b:Int},Rep g a L b->∀ s∈L,Pc g s.fi s/\a<=s.fi/\s.fi + s.le<=b
 | [],_,_,_,s,h=>by cases h
 | t :: r,a,b,⟨h1,h2⟩,s,h=>by
  have e:=h1.fi;have l:=h1.le;have lb:=h2.le;rcases mem_cons.mp h with rfl | h
  ·rw [e];exact ⟨h1,Int.le_refl _,lb⟩
  ·obtain ⟨k1,k2,k3⟩:=Rep.all h2 s h;exact ⟨k1,by omega,k3⟩
theorem Rep.pair {g:Int->Int}:∀ {L:List Sr} {a b:Int},Rep g a L b->L.Pairwise (fun s t=>s.fi + s.le<=t.fi)
 | [],_,_,_=>.nil
 | t :: r,a,b,⟨h1,h2⟩=>.cons (fun s hs=>by have:=(h2.all s hs).2.1;have:=h1.fi;omega) (Rep.pair h2)
theorem Rep.cover {g:Int->Int}:∀ {L:List Sr} {a b:Int},Rep g a L b->∀ x,a<=x->x < b->∃ s∈L,s.fi<=x/\x < s.fi + s.le
 | [],a,b,h,x,x0,x1=>by have h:a=b:=h;omega
 | t :: r,a,b,⟨h1,h2⟩,x,x0,x1=>by
  have e:=h1.fi;by_cases c:x < a + t.le
  ·exact ⟨t,mem_cons_self ..,by omega,by omega⟩
  ·obtain ⟨s,hs,k⟩:=Rep.cover h2 x (by omega) x1;exact ⟨s,mem_cons_of_mem _ hs,k⟩
theorem cover_rep {f:Int->Int}:∀ (L:List Sr) (a N:Int),(∀ s∈L,Pc f s.fi s)->(∀ s∈L,a<=s.fi/\s.fi + s.le<=N)->L.Pairwise (fun s t=>s.fi<=t.fi)->L.Pairwise (fun s t=>s.fi + s.le<=t.fi\/t.fi + t.le<=s.fi)->
  (∀ x,a<=x->x < N->∃ s∈L,s.fi<=x/\x < s.fi + s.le)->a<=N->Rep f a L N
 | [],a,N,_,_,_,_,cv,h=>by
  show a=N;rcases Int.lt_or_le a N with c | c
  ·obtain ⟨s,hs,_⟩:=cv a (Int.le_refl _) c;cases hs
  ·omega
 | s :: r,a,N,hp,hb,hs,hd,cv,h=>by
  obtain ⟨s1,s2⟩:=pairwise_cons.mp hs;obtain ⟨d1,d2⟩:=pairwise_cons.mp hd;have hs0:=hp s (mem_cons_self ..);have l:=hs0.le;obtain ⟨b1,b2⟩:=hb s (mem_cons_self ..);have e:s.fi=a:=by
   obtain ⟨t,ht,t1,t2⟩:=cv a (Int.le_refl _) (by omega);rcases mem_cons.mp ht with rfl | ht
   ·omega
   ·have:=s1 t ht;have:=(hb t (mem_cons_of_mem _ ht)).1;omega
  refine ⟨e ▸ hs0,?_⟩;refine cover_rep r (a + s.le) N (fun t ht=>hp t (mem_cons_of_mem _ ht)) (fun t ht=>?_) s2 d2 (fun x x0 x1=>?_) (by omega)
  ·obtain ⟨c1,c2⟩:=hb t (mem_cons_of_mem _ ht);have:=(hp t (mem_cons_of_mem _ ht)).le;have:=s1 t ht;rcases d1 t ht with z | z
   ·exact ⟨by omega,c2⟩
   ·exact ⟨by omega,c2⟩
  ·obtain ⟨t,ht,t1,t2⟩:=cv x (by omega) x1;rcases mem_cons.mp ht with rfl | ht
   ·omega
   ·exact ⟨t,ht,t1,t2⟩
def jb (o t:Sr):Int:=if t.fi > o.la then t.fi else o.la
def je (o t:Sr):Int:=if t.fi + t.le < o.la + o.le then t.fi + t.le else o.la + o.le
def jpart (o t:Sr):Sr:=⟨o.fi + (if o.tu=true then o.la + o.le - je o t else jb o t - o.la),je o t - jb o t,t.la + (if t.tu=true then t.fi + t.le - je o t else jb o t - t.fi),(o.tu != t.tu) && decide (1 < je o t - jb o t)⟩
def part1 (o t:Sr):List Sr:=if je o t<=jb o t then [] else [jpart o t]
theorem j_bds (o t:Sr):o.la<=jb o t/\t.fi<=jb o t/\je o t<=o.la + o.le/\je o t<=t.fi + t.le:=by
 unfold jb je;refine ⟨?_,?_,?_,?_⟩ <;> split <;> omega
theorem j_in {o t:Sr} {v:Int} (h1:o.la<=v) (h2:v < o.la + o.le) (h3:t.fi<=v) (h4:v < t.fi + t.le):jb o t<=v/\v < je o t:=by
 unfold jb je;refine ⟨?_,?_⟩ <;> split <;> omega
theorem Pc.image {g:Int->Int} {a x:Int} {s:Sr} (p:Pc g a s) (x0:a<=x) (x1:x < a + s.le):s.la<=g x/\g x < s.la + s.le:=by
 cases t:s.tu with
 | true =>
  have:=p.dn t (x - a) (by omega) (by omega);rw [show a + (x - a)=x by omega] at this;omega
 | false =>
  have:=p.up t (x - a) (by omega) (by omega);rw [show a + (x - a)=x by omega] at this;omega
theorem J3m {g h:Int->Int} {o t:Sr} (po:Pc g o.fi o) (pt:Pc h t.fi t) (hb:jb o t < je o t) :
  Pc (fun x=>h (g x)) (jpart o t).fi (jpart o t)/\o.fi<=(jpart o t).fi/\(jpart o t).fi + (jpart o t).le<=o.fi + o.le/\∀ x,(jpart o t).fi<=x->x < (jpart o t).fi + (jpart o t).le->jb o t<=g x/\g x < je o t:=by
 obtain ⟨b1,b2,b3,b4⟩:=j_bds o t;unfold jpart;dsimp only;generalize jb o t=b at *;generalize je o t=e at *;have go:∀ x,0<=x->x < e - b->g (o.fi + (if o.tu=true then o.la + o.le - e else b - o.la) + x)=if o.tu=true then e - 1 - x else b + x:=fun x x0 x1=>by
  cases tu:o.tu with
  | true =>
   rw [if_pos rfl,if_pos rfl];have:=po.dn tu (o.la + o.le - e + x) (by omega) (by omega);rw [show o.fi + (o.la + o.le - e) + x=o.fi + (o.la + o.le - e + x) by omega,this];omega
  | false =>
   rw [if_neg (by decide),if_neg (by decide)];have:=po.up tu (b - o.la + x) (by omega) (by omega);rw [show o.fi + (b - o.la) + x=o.fi + (b - o.la + x) by omega,this];omega
 have ht:∀ v,b<=v->v < e->h v=if t.tu=true then t.la + t.le - 1 - (v - t.fi) else t.la + (v - t.fi):=fun v v0 v1=>by
  cases tu:t.tu with
  | true =>
   rw [if_pos rfl];have:=pt.dn tu (v - t.fi) (by omega) (by omega);rw [show t.fi + (v - t.fi)=v by omega] at this;exact this
  | false =>
   rw [if_neg (by decide)];have:=pt.up tu (v - t.fi) (by omega) (by omega);rw [show t.fi + (v - t.fi)=v by omega] at this;exact this
 have val:∀ x,0<=x->x < e - b->h (g (o.fi + (if o.tu=true then o.la + o.le - e else b - o.la) + x))=if (o.tu != t.tu)=true then t.la + (if t.tu=true then t.fi + t.le - e else b - t.fi) + (e - b) - 1 - x else t.la + (if t.tu=true then t.fi + t.le - e else b - t.fi) + x:=fun x x0 x1=>by
  rw [go x x0 x1,ht _ (by split <;> omega) (by split <;> omega)];cases o.tu <;> cases t.tu <;> simp <;> omega
 refine ⟨⟨rfl,by show 1<=e - b;omega,fun z=>?_,fun z x x0 x1=>?_,fun z x x0 x1=>?_⟩,?_,?_,fun x x0 x1=>?_⟩
 ·have z:((o.tu != t.tu) && decide (1 < e - b))=true:=z;rw [Bool.and_eq_true,decide_eq_true_iff] at z;exact z.2
 ·have z:((o.tu != t.tu) && decide (1 < e - b))=false:=z;have x1:x < e - b:=x1;show h (g (o.fi + _ + x))=_;rw [val x x0 x1];by_cases c:(o.tu != t.tu)=true
  ·rw [if_pos c];rw [c,Bool.true_and,decide_eq_false_iff_not] at z;show _=t.la + (if t.tu=true then t.fi + t.le - e else b - t.fi) + x;omega
  ·rw [if_neg c]
 ·have z:((o.tu != t.tu) && decide (1 < e - b))=true:=z;rw [Bool.and_eq_true] at z;have x1:x < e - b:=x1;show h (g (o.fi + _ + x))=_;rw [val x x0 x1,if_pos z.1]
 ·show o.fi<=o.fi + (if o.tu=true then o.la + o.le - e else b - o.la);split <;> omega
 ·show o.fi + (if o.tu=true then o.la + o.le - e else b - o.la) + (e - b)<=o.fi + o.le;split <;> omega
 ·have x0:o.fi + (if o.tu=true then o.la + o.le - e else b - o.la)<=x:=x0;have x1:x < o.fi + (if o.tu=true then o.la + o.le - e else b - o.la) + (e - b):=x1;have:=go (x - (o.fi + (if o.tu=true then o.la + o.le - e else b - o.la))) (by omega) (by omega);rw [show o.fi + (if o.tu=true then o.la + o.le - e else b - o.la) + (x - (o.fi + (if o.tu=true then o.la + o.le - e else b - o.la)))=x by omega] at this;rw [this];by_cases tu:o.tu=true
  ·rw [if_pos tu] at x0 x1;rw [if_pos tu,if_pos tu];omega
  ·rw [if_neg tu] at x0 x1;rw [if_neg tu,if_neg tu];omega
theorem jpart_has {g h:Int->Int} {o t:Sr} (po:Pc g o.fi o) {x:Int} (x0:o.fi<=x) (x1:x < o.fi + o.le) (h3:t.fi<=g x) (h4:g x < t.fi + t.le):jb o t < je o t/\(jpart o t).fi<=x/\x < (jpart o t).fi + (jpart o t).le:=by
 obtain ⟨i1,i2⟩:=po.image x0 x1;obtain ⟨v1,v2⟩:=j_in i1 i2 h3 h4;obtain ⟨b1,b2,b3,b4⟩:=j_bds o t;unfold jpart;dsimp only;generalize jb o t=b at *;generalize je o t=e at *;have:g x=if o.tu=true then o.la + o.le - 1 - (x - o.fi) else o.la + (x - o.fi):=by
  cases tu:o.tu with
  | true =>
   rw [if_pos rfl];have:=po.dn tu (x - o.fi) (by omega) (by omega);rwa [show o.fi + (x - o.fi)=x by omega] at this
  | false =>
   rw [if_neg (by decide)];have:=po.up tu (x - o.fi) (by omega) (by omega);rwa [show o.fi + (x - o.fi)=x by omega] at this
 rw [this] at v1 v2;by_cases tu:o.tu=true
 ·rw [if_pos tu] at v1 v2;rw [if_pos tu];exact ⟨by omega,by omega,by omega⟩
 ·rw [if_neg tu] at v1 v2;rw [if_neg tu];exact ⟨by omega,by omega,by omega⟩
def jn (os ts:List Sr):List Sr:=os.flatMap fun o=>ts.flatMap (part1 o)
theorem mem_part {o t s:Sr}:s∈part1 o t↔jb o t < je o t/\s=jpart o t:=by
 unfold part1;split
 ·constructor
  ·intro h;cases h
  ·rintro ⟨h,_⟩;omega
 ·rw [mem_singleton];exact ⟨fun h=>⟨by omega,h⟩,fun h=>h.2⟩
theorem mem_jn {os ts:List Sr} {s:Sr}:s∈jn os ts↔∃ o∈os,∃ t∈ts,jb o t < je o t/\s=jpart o t:=by
 unfold jn;simp only [List.mem_flatMap,mem_part]
theorem jn_rep {g h:Int->Int} {N:Int} {os ts L:List Sr} (ho:Rep g 0 os N) (ht:Rep h 0 ts N) (inn:∀ x,0<=x->x < N->0<=g x/\g x < N) (h0:0<=N) (p:L.Perm (jn os ts)) (srt:L.Pairwise (fun s t=>s.fi<=t.fi)):Rep (fun x=>h (g x)) 0 L N:=by
 have fact:∀ s∈jn os ts,∃ o∈os,∃ t∈ts,s=jpart o t/\Pc (fun x=>h (g x)) s.fi s/\o.fi<=s.fi/\s.fi + s.le<=o.fi + o.le/\∀ x,s.fi<=x->x < s.fi + s.le->t.fi<=g x/\g x < t.fi + t.le:=fun s hs=>by
  obtain ⟨o,ho',t,ht',hb,rfl⟩:=mem_jn.mp hs;obtain ⟨k1,k2,k3,k4⟩:=J3m (ho.all o ho').1 (ht.all t ht').1 hb;obtain ⟨b1,b2,b3,b4⟩:=j_bds o t;exact ⟨o,ho',t,ht',rfl,k1,k2,k3,fun x x0 x1=>by have:=k4 x x0 x1;omega⟩
 have dis:(jn os ts).Pairwise (fun s t=>s.fi + s.le<=t.fi\/t.fi + t.le<=s.fi):=by
  unfold jn;rw [List.pairwise_flatMap];refine ⟨fun o ho'=>?_,?_⟩
  ·rw [List.pairwise_flatMap];refine ⟨fun t ht'=>?_,?_⟩
   ·unfold part1;split
    ·exact .nil
    ·exact List.pairwise_singleton _ _
   ·refine ht.pair.imp_of_mem fun {t1 t2} m1 m2 hlt s hs u hu=>?_;obtain ⟨hb1,rfl⟩:=mem_part.mp hs;obtain ⟨hb2,rfl⟩:=mem_part.mp hu;obtain ⟨k1,k2,k3,k4⟩:=J3m (ho.all o ho').1 (ht.all t1 m1).1 hb1;obtain ⟨q1,q2,q3,q4⟩:=J3m (ho.all o ho').1 (ht.all t2 m2).1 hb2;obtain ⟨_,_,_,c4⟩:=j_bds o t1;obtain ⟨_,c2,_,_⟩:=j_bds o t2;have l1:=k1.le;have l2:=q1.le;rcases Int.lt_or_le (jpart o t1).fi (jpart o t2).fi with c | c
    ·rcases Int.lt_or_le (jpart o t2).fi ((jpart o t1).fi + (jpart o t1).le) with d | d
     ·have a1:=k4 (jpart o t2).fi (by omega) d;have a2:=q4 (jpart o t2).fi (Int.le_refl _) (by omega);omega
     ·exact .inl d
    ·rcases Int.lt_or_le (jpart o t1).fi ((jpart o t2).fi + (jpart o t2).le) with d | d
     ·have a1:=k4 (jpart o t1).fi (Int.le_refl _) (by omega);have a2:=q4 (jpart o t1).fi c d;omega
     ·exact .inr d
  ·refine ho.pair.imp_of_mem fun {o1 o2} m1 m2 hlt s hs u hu=>?_;obtain ⟨t1,n1,hs⟩:=List.mem_flatMap.mp hs;obtain ⟨t2,n2,hu⟩:=List.mem_flatMap.mp hu;obtain ⟨hb1,rfl⟩:=mem_part.mp hs;obtain ⟨hb2,rfl⟩:=mem_part.mp hu;obtain ⟨k1,k2,k3,k4⟩:=J3m (ho.all o1 m1).1 (ht.all t1 n1).1 hb1;obtain ⟨q1,q2,q3,q4⟩:=J3m (ho.all o2 m2).1 (ht.all t2 n2).1 hb2;left;omega
 refine cover_rep L 0 N (fun s hs=>?_) (fun s hs=>?_) srt ?_ (fun x x0 x1=>?_) h0
 ·obtain ⟨o,_,t,_,_,k,_⟩:=fact s (p.mem_iff.mp hs);exact k
 ·obtain ⟨o,ho',t,_,_,k,k2,k3,_⟩:=fact s (p.mem_iff.mp hs);have:=(ho.all o ho').2;omega
 ·exact (p.pairwise_iff (fun {a b} h=>h.symm)).mpr dis
 ·obtain ⟨o,ho',o1,o2⟩:=ho.cover x x0 x1;obtain ⟨i1,i2⟩:=inn x x0 x1;obtain ⟨t,ht',t1,t2⟩:=ht.cover (g x) i1 i2;obtain ⟨c1,c2,c3⟩:=jpart_has (h:=h) (ho.all o ho').1 o1 o2 t1 t2;exact ⟨jpart o t,p.mem_iff.mpr (mem_jn.mpr ⟨o,ho',t,ht',c1,rfl⟩),c2,c3⟩
theorem ind_le {α:Type} (p:α->Prop) [DecidablePred p]:∀ (L:List α),L.Pairwise (fun a b=>¬ (p a/\p b))->(L.map fun a=>if p a then 1 else 0).sum<=1
 | [],_=>by simp
 | a :: r,h=>by
  obtain ⟨h1,h2⟩:=pairwise_cons.mp h;rw [map_cons,sum_cons];by_cases c:p a
  ·have:(r.map fun a=>if p a then 1 else 0).sum=0:=by
    have:(r.map fun a=>if p a then 1 else 0)=r.map fun _=>0:=List.map_congr_left fun b hb=>if_neg fun z=>h1 b hb ⟨c,z⟩;rw [this];clear this h h1 h2
    induction r with
    | nil=>rfl
    | cons b r ih=>rw [map_cons,sum_cons,ih]
   rw [if_pos c,this];omega
  ·have:=ind_le p r h2;rw [if_neg c];omega
theorem sum_add {α:Type} (f g:α->Nat):∀ L:List α,(L.map fun a=>f a + g a).sum=(L.map f).sum + (L.map g).sum
 | []=>rfl
 | a :: r=>by simp only [map_cons,sum_cons,sum_add f g r];omega
theorem sum_swap {α β:Type} (f:α->β->Nat) (ys:List β):∀ xs:List α,(xs.map fun a=>(ys.map fun b=>f a b).sum).sum=(ys.map fun b=>(xs.map fun a=>f a b).sum).sum
 | []=>by
  have:∀ ys:List β,(ys.map fun _=>([]:List Nat).sum).sum=0:=fun ys=>by
   induction ys with
   | nil=>rfl
   | cons b r ih=>rw [map_cons,sum_cons,ih];rfl
  exact (this ys).symm
 | a :: r=>by
  rw [map_cons,sum_cons,sum_swap f ys r,<- sum_add]
  congr 1
theorem J3d {α:Type} {f g:α->Nat}:∀ {L:List α},(∀ a∈L,f a<=g a)->(L.map f).sum<=(L.map g).sum
 | [],_=>Nat.le_refl _
 | a :: r,h=>by
  rw [map_cons,sum_cons,map_cons,sum_cons];have:=h a (mem_cons_self ..);have:=J3d (L:=r) fun b hb=>h b (mem_cons_of_mem _ hb);omega
theorem J5p {α:Type}:∀ L:List α,(L.map fun _=>1).sum=L.length
 | []=>rfl
 | a :: r=>by rw [map_cons,sum_cons,J5p r,length_cons];omega
theorem jn_len {g h:Int->Int} {N:Int} {os ts:List Sr} (ho:Rep g 0 os N) (ht:Rep h 0 ts N) (inj:∀ x y,0<=x->x < N->0<=y->y < N->g x=g y->x=y):(jn os ts).length<=os.length + ts.length:=by
 have e:(jn os ts).length=(os.map fun o=>(ts.map fun t=>(part1 o t).length).sum).sum:=by
  unfold jn;rw [List.length_flatMap]
  congr 1
  refine List.map_congr_left fun o _=>?_;rw [List.length_flatMap]
 have b:∀ o t:Sr,(part1 o t).length<=(if t.fi<=o.la/\o.la < t.fi + t.le then 1 else 0) + (if o.la < t.fi/\t.fi < o.la + o.le then 1 else 0):=fun o t=>by
  unfold part1;split
  ·simp
  ·rename_i c;show 1<=_;have c:jb o t < je o t:=by omega
   unfold jb je at c;by_cases d:t.fi > o.la
   ·rw [if_pos d] at c;have:o.la < t.fi/\t.fi < o.la + o.le:=⟨d,by split at c <;> omega⟩;rw [if_pos this];omega
   ·rw [if_neg d] at c;have:t.fi<=o.la/\o.la < t.fi + t.le:=⟨by omega,by split at c <;> omega⟩;rw [if_pos this];omega
 rw [e];have h1:(os.map fun o=>(ts.map fun t=>(part1 o t).length).sum).sum<=(os.map fun o=>(ts.map fun t=>if t.fi<=o.la/\o.la < t.fi + t.le then 1 else 0).sum + (ts.map fun t=>if o.la < t.fi/\t.fi < o.la + o.le then 1 else 0).sum).sum :=
  J3d fun o _=>by rw [<- sum_add];exact J3d fun t _=>b o t
 rw [sum_add] at h1;have h2:(os.map fun o=>(ts.map fun t=>if t.fi<=o.la/\o.la < t.fi + t.le then 1 else 0).sum).sum<=os.length:=by
  rw [<- J5p os];refine J3d fun o _=>ind_le (fun t=>t.fi<=o.la/\o.la < t.fi + t.le) ts (ht.pair.imp fun {t1 t2} hlt z=>?_);omega
 have h3:(os.map fun o=>(ts.map fun t=>if o.la < t.fi/\t.fi < o.la + o.le then 1 else 0).sum).sum<=ts.length:=by
  rw [sum_swap,<- J5p ts];refine J3d fun t _=>ind_le (fun o=>o.la < t.fi/\t.fi < o.la + o.le) os (ho.pair.imp_of_mem fun {o1 o2} m1 m2 hlt z=>?_);obtain ⟨p1,p2,p3⟩:=ho.all o1 m1;obtain ⟨q1,q2,q3⟩:=ho.all o2 m2;obtain ⟨x,x0,x1,ex⟩:=p1.hit (v:=t.fi) (by omega) (by omega);obtain ⟨y,y0,y1,ey⟩:=q1.hit (v:=t.fi) (by omega) (by omega);have:=inj x y (by omega) (by omega) (by omega) (by omega) (by rw [ex,ey]);omega
 omega
end Rl
namespace Rl
structure Bij (N:Int) (g k:Int->Int):Prop where
 inn:∀ x,0<=x->x < N->0<=g x/\g x < N
 ink:∀ x,0<=x->x < N->0<=k x/\k x < N
 kg:∀ x,0<=x->x < N->k (g x)=x
 gk:∀ x,0<=x->x < N->g (k x)=x
theorem Bij.inj {N:Int} {g k:Int->Int} (b:Bij N g k):∀ x y,0<=x->x < N->0<=y->y < N->g x=g y->x=y:=fun x y x0 x1 y0 y1 e=>by
 rw [<- b.kg x x0 x1,<- b.kg y y0 y1,e]
theorem Bij.comp {N : Int} {g k h l : Int -> Int} (a : Bij N g k) (b : Bij N h l) : Bij N (fun x => h (g x)) (fun x => k (l x)) :=
  ⟨fun x x0 x1 => let ⟨i, j⟩ := a.inn x x0 x1; b.inn _ i j, fun x x0 x1 => let ⟨i, j⟩ := b.ink x x0 x1; a.ink _ i j,
   fun x x0 x1 => by obtain ⟨i, j⟩ := a.inn x x0 x1; show k (l (h (g x))) = x; rw [b.kg _ i j, a.kg x x0 x1],
   fun x x0 x1 => by obtain ⟨i, j⟩ := b.ink x x0 x1; show h (g (k (l x))) = x; rw [a.gk _ i j, b.gk x x0 x1]⟩
noncomputable def kL (ls:List Int) (os:List Nat) (ts:List Bool) (y:Int):Int:=by
 classical exact if h:∃ x,(0<=x/\x < ls.sum)/\gL ls os ts x=y then h.choose else 0
theorem gL_sur {ls:List Int} {os:List Nat} {ts:List Bool} (O:Ord ls os) {y:Int} (y0:0<=y) (y1:y < ls.sum):∃ x,(0<=x/\x < ls.sum)/\gL ls os ts x=y:=by
 obtain ⟨j,q⟩:=O.exists y0 y1;have m:=move_lies (gs:=firsts ls (List.range ls.length)) (ts:=ts) q;obtain ⟨m1,m2⟩:=m;have i:=O.range.inside m1;refine ⟨_,i,?_⟩;rw [gL_eq O m1];exact m2
theorem J2j {ls:List Int} {os:List Nat} {ts:List Bool} (O:Ord ls os):Bij ls.sum (gL ls os ts) (kL ls os ts):=by
 have sp:∀ y,0<=y->y < ls.sum->(0<=kL ls os ts y/\kL ls os ts y < ls.sum)/\gL ls os ts (kL ls os ts y)=y:=fun y y0 y1=>by
  have h:=gL_sur (ts:=ts) O y0 y1;unfold kL;rw [dif_pos h];exact h.choose_spec
 refine ⟨fun x x0 x1=>gL_in O x0 x1,fun y y0 y1=>(sp y y0 y1).1,fun x x0 x1=>?_,fun y y0 y1=>(sp y y0 y1).2⟩;obtain ⟨i,j⟩:=gL_in (ts:=ts) O x0 x1;obtain ⟨⟨a,b⟩,c⟩:=sp _ i j;exact gL_inj O a b x0 x1 c
structure PlG (g:Int->Int) (N:Int) (ls:List Int) (os:List Nat) (ts:List Bool):Prop where
 ex:∃ L,RepS g 0 L N/\ls=L.map Sr.le/\ts=L.map Sr.tu/\PlO L os
theorem PlG.ord {g:Int->Int} {N:Int} {ls:List Int} {os:List Nat} {ts:List Bool} (h:PlG g N ls os ts):Ord ls os:=by
 obtain ⟨L,R,rfl,rfl,P⟩:=h.ex;exact R.ord P.perm
theorem PlG.len {g:Int->Int} {N:Int} {ls:List Int} {os:List Nat} {ts:List Bool} (h:PlG g N ls os ts):ts.length=ls.length:=by
 obtain ⟨L,R,rfl,rfl,P⟩:=h.ex;rw [length_map,length_map]
theorem PlG.sum {g:Int->Int} {N:Int} {ls:List Int} {os:List Nat} {ts:List Bool} (h:PlG g N ls os ts):ls.sum=N:=by
 obtain ⟨L,R,rfl,rfl,P⟩:=h.ex;have:=R.tot;omega
theorem PlG.goes {g k:Int->Int} {N:Int} {ls:List Int} {os:List Nat} {ts:List Bool} (h:PlG g N ls os ts) (b:Bij N g k):∀ x,0<=x->x < N->gL ls os ts x=g x:=by
 have O:=h.ord;obtain ⟨L,R,rfl,rfl,P⟩:=h.ex;have h1:=J4z (ts:=L.map Sr.tu) O;rw [R.own b.inj b.inn P.perm P.srt] at h1;exact fun x x0 x1=>((R.rep.val h1).2 x x0 x1).symm
theorem jn_repS {g h k l:Int->Int} {N:Int} {os ts L:List Sr} (bg:Bij N g k) (bh:Bij N h l) (ho:Rep g 0 os N) (ht:Rep h 0 ts N) (h0:0<=N) (p:L.Perm (jn os ts)) (srt:L.Pairwise (fun s t=>s.fi<=t.fi)):RepS (fun x=>h (g x)) 0 (lgst L) N :=
 lgst_rep (bg.comp bh).inj (jn_rep ho ht bg.inn h0 p srt)
end Rl
namespace L2
open PySem PySem.Spec PyProof.Rows
end L2
namespace L2
open PySem PyProof.Rows
theorem lc_tupW {K:PySem.W.Frag} {a:Addr} {H1:Hp} {te:TE} {σ:St} {js:List Nat} {Q:VK} {d:Addr} (xs:List V) (F:Nat->V) (hx:SqT K H1 a xs) (hn:xs.length<=sizeLine) (hd:H1 d=none)
  (he:∀ (i:Nat) (H:Hp) (Qe:VK) (v:V),xs[i]?=some v->Same H1 H->(∀ H',Same H H'->Qe (F i) H')->te (some v :: capv σ js) H Qe)
  (hq:∀ H',Same H1 H'->H' d=some (.lst ((List.range xs.length).map F))->Q (.ref d) H'):LCW (Itt K a) tYes te σ js Q H1 d:=by
 have s0:∀ o,Same H1 (upd H1 d o):=fun o b u e=>by rw [Jb (J8 e hd)];exact e
 refine ⟨fun i m ys H=>m=xs.length - i/\i<=xs.length/\ys=(List.range i).map F/\Same H1 H/\H d=some (.lst ys),⟨xs.length,rfl,Nat.zero_le _,rfl,s0 _,J2⟩,?_⟩;rintro i m ys H2 ⟨rfl,hi,rfl,sm,h2⟩;refine ⟨h2,?_⟩;by_cases hlt:i < xs.length
 ·refine .inr ⟨⟨_,_,sm.tup hx,List.getElem?_eq_getElem hlt⟩,?_,fun v H3 y3=>?_⟩
  ·rw [length_map,length_range];lia
  ·obtain ⟨rfl,hv⟩:=y3;have hv:=hv _ (sm.tup hx);unfold tYes;dsimp only;rw [if_pos rfl];refine he i H3 _ v hv sm fun H5 s5=>⟨s5 _ _ h2,xs.length - (i + 1),by lia,rfl,hlt,?_,?_,J2⟩
   ·rw [List.range_succ,map_append];rfl
   ·intro b u e;rw [Jb (J8 e hd)];exact s5 _ _ (sm _ _ e)
 ·have e:i=xs.length:=by lia
  subst e;exact .inl ⟨⟨_,sm.tup hx,Nat.le_refl _⟩,hq H2 sm h2⟩
end L2
namespace L2
open PySem PyProof.Rows
end L2
namespace L2
open PySem PySem.Spec PyProof.Rows
def LCW2 (K:PySem.W.Frag) (J:It) (tc:TT) (te:TE) (σ:St) (js:List Nat) (Q:VK) (H1:Hp) (d:Addr):Prop:=∃ W:Nat->Nat->List V->Hp->Prop,(∃ m,W 0 m [] (upd H1 d (.lst [])))/\
 ∀ i m ys H2,W i m ys H2->H2 d=some (.lst ys)/\((J.stop i H2/\Q (.ref d) H2)\/(J.go i H2/\ys.length < sizeLine/\∀ v H3,J.yld i H2 v H3->
  ∃ p a b,v=.ref p/\SqT K H3 p [a,b]/\tc (some a :: some b :: capv σ js) H3 fun bb H4=>if bb=true then te (some a :: some b :: capv σ js) H4 fun y H5=>H5 d=some (.lst ys)/\∃ m',m' < m/\W (i + 1) m' (ys ++ [y]) (upd H5 d (.lst (ys ++ [y])))
   else ∃ m',m' < m/\W (i + 1) m' ys H4))
def tLC2 (K:PySem.W.Frag) (wi:TI) (tc:TT) (te:TE) (js:List Nat):TE:=fun σ H Q=>wi σ H fun J H1=>∀ d,H1 d=none->LCW2 K J tc te σ js Q H1 d
section
variable {X:Cx} {elt iter:Expr} {ifs:List Expr} {x y z:Str} {px py pz tp:Pos} {kk:Nat} {scope:Scope} {cl:List (Str × Addr)} {pos spos:Pos} {wi:TI} {tc:TT} {te:TE} {caps:List Str} {js:List Nat} {i:Nat}
theorem comp_core2 {p0:Pos} {use:Option (Value->Sem Unit)} {QV:Value->Shared->Prop} {Q:VK} {pins:List (Addr × Obj)} {s:Shared} {σ:St} {H:Hp} (hc:X.calm=true) (hp:PI X (.Tuple [.Name x px,.Name z pz] kk tp) iter wi)
  (he:∀ (C:Addr) (fp:List Addr) (s:Shared) (H:Hp),PE (X.block (x :: z :: caps) scope cl C fp s H) elt te)
  (ht:∀ (C:Addr) (fp:List Addr) (s:Shared) (H:Hp),PTs (X.block (x :: z :: caps) scope cl C fp s H) ifs tc)
  (hcell:∀ p∈scope.names,p.2≠.cell) (hnames:∀ p∈scope.names,p.2=.local->scope.names.lookup p.1=some .local) (hnd:(x :: z :: caps).Nodup)
  (hsub:∀ p∈cl,X.env.cells.lookup p.1=some p.2) (hhas:∀ p∈scope.names,p.2=.free->∃ c,cl.lookup p.1=some c) (hlen:caps.length=js.length)
  (hcaps:∀ (k:Nat) (c:Str),caps[k]?=some c->∃ (j:Nat) (a:Addr),js[k]?=some j/\X.N[j]?=some c/\X.env.scope.names.lookup c=some .cell/\cl.lookup c=some a/\(relabel scope X.env).names.lookup c=some .cell)
  (hclos:closureFor scope X.env=pure cl) (hkind:scope.kind=.function) (hx:scope.names.lookup x=some .local) (hz':scope.names.lookup z=some .local) (hs:∀ v,foldedSetIterable iter X.env v=pure v)
  (I:Inv X pins σ H s) (h:tLC2 X.K wi tc te js σ H Q)
  (fin:∀ (d:Addr) (H':Hp) (s5:Shared) (C:Addr),Inv X pins σ H' s5->Q (.ref d) H'->(∃ m,s5.heap.Ns C m)->FpOk X pins H' C->compPost (model X.prog X.w) X.A X.xe use QV (.ref d) C (.ok .next) s5) :
  wpAny (model X.prog X.w) X.A (comprehension (.ListComp elt [⟨.Tuple [.Name x px,.Name z pz] kk tp,iter,ifs,0⟩] scope pos) scope X.env p0 (newList []) false (eval iter X.env) use) QV X.xe s:=by
 refine wpAny_comprehension_free (cl:=cl) (use:=use) (Q:=QV) rfl hs hclos hkind hnames (thn (hp pins s σ H _ I h) fun v s1 h1=>thn h1 fun itv s2 h2=>?_);obtain ⟨it,fp,tn,J,H2,e,I2,T,st2,f2,h3⟩:=h2;subst e;have hfr:H2 s2.heap.objs.size=none:=I2.hok.fresh (Nat.le_refl _);obtain ⟨W,⟨m0,w0⟩,hW⟩:=h3 s2.heap.objs.size hfr;refine wpAny_newObj_type (wpAny_newFunctionEnv hcell (by intro y hy;simp at hy) (fun h₁ hns₁ hsb₁=>?_) hkind);dsimp only at hns₁ hsb₁ ⊢;generalize hH2:s2.heap.push { cls:=.type "list",dict:=none,data:=.seq ([]:List Value).toArray }=G at hns₁ hsb₁ ⊢;have hC:G.objs.size=s2.heap.objs.size + 1:=by rw [<- hH2,Heap.size_push]
 have hDC:s2.heap.objs.size≠G.objs.size:=by rw [hC];exact Nat.ne_of_lt (Nat.lt_succ_self _)
 have hCle:s2.heap.objs.size<=G.objs.size:=by rw [hC];exact Nat.le_succ _
 have old:∀ b o,s2.heap.get? b=some o->h₁.get? b=some o:=fun b o e=>hsb₁.extBut b o (by rw [hC];exact Nat.ne_of_lt (Nat.lt_succ_of_lt (lt_size e))) (get?_push_of_some _ (hH2 ▸ get?_push_of_some _ e));have hacc:h₁.get? s2.heap.objs.size=some { cls:=.type "list",dict:=none,data:=.seq ([]:List Value).toArray }:=hsb₁.extBut _ _ hDC (get?_push_of_some _ (hH2 ▸ get?_push_size _ rfl));have fl:∀ b∈fp,b < s2.heap.objs.size:=fun b hb=>by
  obtain ⟨o,e,_⟩:=T.obj _ _ st2 b hb;exact lt_size e
 have hDf:s2.heap.objs.size ∉ fp:=fun hm=>Nat.lt_irrefl _ (fl _ hm);have hok1:HOk X.prog X.w (upd H2 s2.heap.objs.size (.lst [])) h₁:=I2.hok.laid old (Nat.le_refl _) ⟨Nat.zero_le _,[],0,.nil,hacc⟩;have IY0:∀ tk,Inv (X.block (x :: z :: caps) scope cl G.objs.size fp s2 H2) [] (none :: none :: capv σ js) (upd H2 s2.heap.objs.size (.lst [])) { s2 with heap:=h₁,toks:=tk }:=fun tk=>by
  refine ⟨J4v I2 hCle f2 fl hkind hcell hsub hhas,rfl,I2.bare,Un.laid old (Nat.le_refl _) hfr,⟨_,hns₁,fun k q v e1 e2 e3=>?_⟩,fun q c e=>?_,?_,fun q c e=>?_,fun p hp=>absurd hp (by simp),hok1,?_⟩
  ·rcases k with _ | _ | k
   ·simp at e2
   ·simp at e2
   ·have e1':caps[k]?=some q:=by simpa using e1
    have e2':(capv σ js)[k]?=some (some v):=by simpa using e2
    obtain ⟨j,a,q1,q2,q3,q4,q5⟩:=hcaps k q e1';obtain ⟨j',r1,r2⟩:=J6f e2';rw [q1] at r1;cases r1;obtain ⟨m,hm,hl⟩:=I2.loc;obtain ⟨u,ru,lu⟩:=hl j q v q2 r2 (.inr (.inl q3));refine ⟨u,ru,.inr ⟨.inl q5,a,q4,?_⟩⟩;rcases lu with ⟨k1,_⟩ | ⟨_,c,ec,o,ho,hd⟩
    ·have k1':X.env.scope.names.lookup q=some .local:=k1;rw [q3] at k1';cases k1'
    ·have:=hsub _ (mem_of_lookup q4);rw [ec] at this;cases this;exact ⟨o,old _ _ ho,hd⟩
  ·obtain ⟨v,o,ho,hd⟩:=I2.cell q c (hsub _ (mem_of_lookup e));exact ⟨v,o,old _ _ ho,hd⟩
  ·show upd H2 s2.heap.objs.size (.lst []) G.objs.size=none;rw [Jb hDC.symm];exact I2.hok.fresh hCle
  ·have ec:=hsub _ (mem_of_lookup e);obtain ⟨v,o,ho,hd⟩:=I2.cell q c ec;rw [Jb (Nat.ne_of_lt (lt_size ho))];exact I2.freeC q c ec
  ·show (none :: none :: capv σ js).length=(x :: z :: caps).length;unfold capv;simp [hlen]
 have stat:∀ {H':Hp},(∀ b∈fp,H' b=none)->∀ b∈fp,FpOk (X.block (x :: z :: caps) scope cl G.objs.size fp s2 H2) [] H' b:=fun hn b hb =>
  ⟨hn b hb,Nat.ne_of_lt (Nat.lt_of_lt_of_le (fl b hb) hCle),(J4v (x:=x) (caps:=z :: caps) I2 hCle f2 fl hkind hcell hsub hhas).exfs b hb,.inl hb,fun q c e=>(f2 b hb).2.2.2.2.1 q c (hsub _ (mem_of_lookup e)),fun p hp=>absurd hp (by simp)⟩
 have hxl:(relabel scope X.env).names.lookup x=some .local:=lookup_relabel_local hx;have hzl:(relabel scope X.env).names.lookup z=some .local:=lookup_relabel_local hz';have loop:∀ tk,codeAny (model X.prog X.w) X.A (.compLoop (.ListComp elt [⟨.Tuple [.Name x px,.Name z pz] kk tp,iter,ifs,0⟩] scope pos) 0 (.ref it) (.ref s2.heap.objs.size) (compEnvC scope cl G.objs.size X.env))
   (compPost (model X.prog X.w) X.A X.xe use QV (.ref s2.heap.objs.size) G.objs.size) { s2 with heap:=h₁,toks:=tk }:=fun tk=>by
  refine J1n (fun m s'=>∃ (k:Nat) (o o2:Option V) (ys:List V) (H':Hp),Inv (X.block (x :: z :: caps) scope cl G.objs.size fp s2 H2) [] (o :: o2 :: capv σ js) H' s'/\tn k s'.heap/\(∀ b∈fp,H' b=none)/\W k m ys H') ?_ m0
   ⟨0,none,none,[],_,IY0 tk,T.keep _ _ _ st2 fun b hb o e=>old b o e,fun b hb=>by
    rw [Jb (show b≠s2.heap.objs.size from fun e=>hDf (by rw [<- e];exact hb))];exact (f2 b hb).1,w0⟩
  rintro m s3 ⟨k,o,o2,ys,H',I3,st3,fr3,w3⟩;obtain ⟨hd,hW3⟩:=hW k m ys H' w3;rcases hW3 with ⟨stop,q⟩ | ⟨go,hz,step⟩
  ·refine thn (T.done (X.block (x :: z :: caps) scope cl G.objs.size fp s2 H2) rfl rfl rfl hc k [] s3 _ _ (fun _ _=>False) I3 (stat fr3) st3 stop) fun r s4 ⟨hr,I4⟩=>?_;subst hr;have J5:Inv X pins σ H' s4:=I2.call' (ch:=fp) I4.os I4.base I4.hok I4.bare fun b hb=>⟨(f2 b hb).2.2.2.1,(f2 b hb).2.1,(f2 b hb).2.2.2.2.1,(f2 b hb).2.2.2.2.2⟩;exact fin _ H' s4 _ J5 q (let ⟨m,q,_⟩:=I4.loc;⟨m,q⟩) (I2.fpOk hCle I4.free)
  ·refine thn (T.item (X.block (x :: z :: caps) scope cl G.objs.size fp s2 H2) rfl rfl rfl hc k [] s3 _ _ (fun _ _=>False) I3 (stat fr3) st3 go) fun r s4 ⟨u,hr,h4⟩=>?_;subst hr;refine thn h4 fun _ s5 ⟨v,H5,I5,r5,y5,st5,fr5⟩=>?_;have I5':=I5.pinned (stat fr5) (T.obj _ _ st5);obtain ⟨pq,va,vb,rfl,sq5,stp⟩:=step v H5 y5;refine thn (pg_tup (X:=X.block (x :: z :: caps) scope cl G.objs.size fp s2 H2) (pos:=tp) (k:=kk) (n:=2) hc
     (J2x (J1g (X:=X.block (x :: z :: caps) scope cl G.objs.size fp s2 H2) (i:=0) (pos:=px) hnd rfl (.inl hxl) (.inr hxl))
      (J2x (J1g (X:=X.block (x :: z :: caps) scope cl G.objs.size fp s2 H2) (i:=1) (pos:=pz) hnd rfl (.inl hzl) (.inr hzl)) pgs_nil)) rfl rfl _ s5 _ _ _ u
    (fun σ' H'=>σ'=some va :: some vb :: capv σ js/\H'=H5) I5' r5 ⟨pq,[va,vb],rfl,sq5,rfl,va,[vb],rfl,vb,[],rfl,rfl,rfl,rfl⟩) fun _ s6 ⟨σ6,H6,I6,q6⟩=>?_
   obtain ⟨rfl,rfl⟩:=q6;refine thn (ht _ _ _ _ _ s6 _ _ _ I6 stp) fun ok s7 ⟨H7,I7,q7⟩=>?_;have back:∀ {s8:Shared} {H8:Hp} {o8 o9:Option V} {ys8:List V} {m':Nat},Inv (X.block (x :: z :: caps) scope cl G.objs.size fp s2 H2) ([] ++ pinsAt fp s5.heap) (o8 :: o9 :: capv σ js) H8 s8->m' < m->W (k + 1) m' ys8 H8->
     ∃ m',m' < m/\∃ (k:Nat) (o o2:Option V) (ys:List V) (H':Hp),Inv (X.block (x :: z :: caps) scope cl G.objs.size fp s2 H2) [] (o :: o2 :: capv σ js) H' s8/\tn k s8.heap/\(∀ b∈fp,H' b=none)/\W k m' ys H':=fun {s8 H8 o8 o9 ys8 m'} I8 hm w8=>by
    refine ⟨m',hm,k + 1,o8,o9,ys8,H8,I8.unpinned,T.keep _ _ _ st5 fun b hb o e=>(I8.pin (b,o) (mem_append_right _ (mem_append_right _ (J1u hb e)))).1,fun b hb=>?_,w8⟩;obtain ⟨o,e,d⟩:=T.obj _ _ st5 b hb;exact (I8.pin (b,o) (mem_append_right _ (mem_append_right _ (J1u hb e)))).2.1
   cases ok with
   | false =>
    have q7':∃ m',m' < m/\W (k + 1) m' ys H7:=by
     have:=q7;rwa [if_neg (by decide)] at this
    obtain ⟨m',hm,w8⟩:=q7';exact back I7 hm w8
   | true =>
    have q7':te (some va :: some vb :: capv σ js) H7 fun y H5=>H5 s2.heap.objs.size=some (.lst ys)/\∃ m',m' < m/\W (k + 1) m' (ys ++ [y]) (upd H5 s2.heap.objs.size (.lst (ys ++ [y]))):=by
     have:=q7;rwa [if_pos rfl] at this
    refine (show wpAny _ _ _ _ _ _ from thn (he _ _ _ _ _ s7 _ _ _ I7 q7') fun u8 s8 ⟨v8,H8,I8,r8,hd8,m',hm,w8⟩=>?_);refine thn (J1b (X:=X.block (x :: z :: caps) scope cl G.objs.size fp s2 H2) _ s8 _ _ (.ref s2.heap.objs.size) [v8] (.ref s2.heap.objs.size) [u8]
     (fun _ H'=>H'=upd H8 s2.heap.objs.size (.lst (ys ++ [v8]))) I8 rfl (.cons r8 .nil) ⟨s2.heap.objs.size,_,v8,rfl,rfl,hd8,hz,rfl⟩) fun _ s9 ⟨_,H9,I9,_,q9⟩=>?_
    subst q9;exact back I9 hm w8
 have st1:tn 0 h₁:=T.keep _ _ _ st2 fun b hb o e=>old b o e;exact codeAny_compStart_list (loop _) (T.self X.A 0 _ _ _ st1 (loop _))
theorem pe_lc2 (hc:X.calm=true) (hp:PI X (.Tuple [.Name x px,.Name z pz] kk tp) iter wi) (hclos:closureFor scope X.env=pure cl)
  (ht:∀ (C:Addr) (fp:List Addr) (s:Shared) (H:Hp),PTs (X.block (x :: z :: caps) scope cl C fp s H) ifs tc)
  (he:∀ (C:Addr) (fp:List Addr) (s:Shared) (H:Hp),PE (X.block (x :: z :: caps) scope cl C fp s H) elt te)
  (hcell:∀ p∈scope.names,p.2≠.cell) (hnames:∀ p∈scope.names,p.2=.local->scope.names.lookup p.1=some .local) (hnd:(x :: z :: caps).Nodup)
  (hsub:∀ p∈cl,X.env.cells.lookup p.1=some p.2)
  (hhas:freeOk scope cl=true:=by rfl) (hlen:caps.length=js.length:=by rfl) (hcaps:capsOk X scope cl caps js=true:=by rfl)
  (hkind:scope.kind=.function:=by rfl) (hx:scope.names.lookup x=some .local:=by rfl) (hz':scope.names.lookup z=some .local:=by rfl) (hs:∀ v,foldedSetIterable iter X.env v=pure v:=by intro _;rfl) :
  PE X (.ListComp elt [⟨.Tuple [.Name x px,.Name z pz] kk tp,iter,ifs,0⟩] scope pos) (tLC2 X.K wi tc te js):=by
 intro pins s σ H Q I h;rw [eval_ListComp];refine comp_core2 (use:=none) hc hp he ht hcell hnames hnd hsub (freeOk.get hhas) hlen (capsOk.get hlen hcaps) hclos hkind hx hz' hs I h fun d H' s5 C J5 q hC fp=>?_;obtain ⟨m,nsC⟩:=hC;exact ⟨m,nsC,fun h' hs'=>⟨.ref d,H',J5.turned (h':=h') (t':=s5.toks) (it:=C) (fun b o hb e=>(hs'.2 b hb).trans e) fp.1 fp.2.1 fp.2.2.2.1 fp.2.2.2.2.1 fp.2.2.2.2.2,rfl,q⟩⟩
end
section
variable {K:PySem.W.Frag} {a:Addr} {H1:Hp} {tc:TT} {te:TE} {σ:St} {js:List Nat} {Q:VK} {d:Addr}
theorem lc_enumR (xs:List V) (Pr:Hp->Addr->Nat->Prop) (hx:SqT K H1 a xs) (hn:xs.length<=sizeLine) (hd:H1 d=none)
  (mono:∀ H H' q i,KeepD d H H'->q≠d->Pr H q i->Pr H' q i)
  (he:∀ (i:Nat) (v:V),xs[i]?=some v->∀ H Qe,Same H1 H->(∃ ys,H d=some (.lst ys))->(∀ q H',Same H H'->q≠d->Pr H' q i->Qe (.ref q) H')->te (some (.int (i:Nat)) :: some v :: capv σ js) H Qe)
  (hq:∀ ys H',Same H1 H'->H' d=some (.lst ys)->Refs (fun q i=>Pr H' q i) ys xs.length->Q (.ref d) H'):LCW2 K (Ite K a) tYes te σ js Q H1 d:=by
 have s0:∀ o,Same H1 (upd H1 d o):=fun o b u e=>by rw [Jb (J8 e hd)];exact e
 refine ⟨fun i m ys H=>m=xs.length - i/\i<=xs.length/\Same H1 H/\H d=some (.lst ys)/\Refs (fun q i=>q≠d/\Pr H q i) ys i,⟨_,rfl,Nat.zero_le _,s0 _,J2,Refs.nil⟩,?_⟩;rintro i m ys H2 ⟨rfl,hi,sm,h2,rf⟩;refine ⟨h2,?_⟩;by_cases hlt:i < xs.length
 ·refine .inr ⟨⟨_,_,sm.tup hx,List.getElem?_eq_getElem hlt⟩,by rw [rf.len];lia,fun v H3 y3=>?_⟩;obtain ⟨p,x,rfl,hp,rfl,hv⟩:=y3;have hv:=hv _ (sm.tup hx);have s3:Same H2 (upd H2 p (.tup [.int (i:Int),x])):=fun b u e=>by rw [Jb (J8 e hp)];exact e
  refine ⟨p,_,_,rfl,SqT.of J2,?_⟩;unfold tYes;dsimp only;rw [if_pos rfl];refine he i x hv _ _ (sm.trans s3) ⟨_,s3 _ _ h2⟩ fun q H5 s5 hqd hpq=>⟨s5 _ _ (s3 _ _ h2),xs.length - (i + 1),by lia,rfl,hlt,?_,J2,?_⟩
  ·intro b u e;rw [Jb (J8 e hd)];exact s5 _ _ (s3 _ _ (sm _ _ e))
  ·have kd:∀ H,KeepD d H (upd H d (.lst (ys ++ [.ref q]))):=fun H b o e n=>by rw [Jb n];exact e
   refine (rf.mono fun a j _ x=>⟨x.1,?_⟩).snoc ⟨hqd,mono _ _ _ _ (kd _) hqd hpq⟩;exact mono _ _ _ _ (fun b o e n=>kd _ _ _ (s5 _ _ (s3 _ _ e)) n) x.1 x.2
 ·have e:i=xs.length:=by lia
  subst e;exact .inl ⟨⟨_,sm.tup hx,Nat.le_refl _⟩,hq ys H2 sm h2 (rf.mono fun _ _ _ x=>x.2)⟩
end
end L2
namespace Rl
end Rl
namespace Rl
end Rl
namespace Rl
end Rl
namespace Rl
end Rl
namespace Rl
end Rl
namespace Rl
end Rl
namespace Rl
end Rl
namespace Rl
end Rl
namespace Rl
end Rl
namespace Rl
end Rl
namespace Rl
end Rl
namespace Rl
end Rl
namespace PySem
namespace F
end F
end PySem
namespace L2
open PySem PyProof.Rows
end L2
namespace L2
open PySem PySem.Spec PyProof.Rows
end L2
namespace Rl
def bndS (S:List Sr):List Int:=(S.drop 1).map Sr.fi
theorem RepS.fis_gt {g:Int->Int}:∀ {S:List Sr} {a b:Int},RepS g a S b->∀ m∈S.map Sr.fi,a<=m/\m < b
 | [],_,_,_,m,h=>by cases h
 | s :: r,a,b,⟨h1,h2,h3⟩,m,h=>by
  have l:=h1.le;have e:=h1.fi;have lb:=h3.le;rw [map_cons] at h;rcases mem_cons.mp h with rfl | h
  ·exact ⟨by omega,by omega⟩
  ·have:=RepS.fis_gt h3 m h;exact ⟨by omega,this.2⟩
theorem RepS.cuts {g:Int->Int}:∀ {S:List Sr} {a b:Int},RepS g a S b->∀ m,a < m->m < b->(m∈bndS S↔¬ near (g m) (g (m - 1)))
 | [],a,b,h,m,m0,m1=>by have h:a=b:=h;omega
 | s :: r,a,b,⟨h1,h2,h3⟩,m,m0,m1=>by
  have l:=h1.le;show m∈r.map Sr.fi↔_;rcases Int.lt_trichotomy m (a + s.le) with c | c | c
  ·have n:=h1.near m0 c;exact ⟨fun h=>by have:=(h3.fis_gt m h).1;omega,fun h=>absurd n h⟩
  ·subst c
   cases r with
   | nil=>have h3:a + s.le=b:=h3;omega
   | cons t r' =>
    have e:=h3.1.fi;refine ⟨fun _=>h2 (by simp),fun _=>?_⟩;rw [map_cons,e];exact mem_cons_self ..
  ·have ih:=RepS.cuts h3 m c m1
   cases r with
   | nil=>have h3:a + s.le=b:=h3;omega
   | cons t r' =>
    have e:=h3.1.fi;rw [<- ih];show m∈t.fi :: r'.map Sr.fi↔m∈r'.map Sr.fi;rw [mem_cons];exact ⟨fun h=>h.resolve_left (by omega),.inr⟩
theorem RepS.bnd_in {g:Int->Int} {S:List Sr} {b:Int} (R:RepS g 0 S b):∀ m∈bndS S,0 < m/\m < b:=by
 cases S with
 | nil=>intro m h;cases h
 | cons s r =>
  obtain ⟨h1,h2,h3⟩:=R;intro m h;have:=h3.fis_gt m h;have:=h1.le;omega
theorem RepS.bnd_nodup {g:Int->Int}:∀ {S:List Sr} {a b:Int},RepS g a S b->(S.map Sr.fi).Nodup
 | [],_,_,_=>List.nodup_nil
 | s :: r,a,b,⟨h1,h2,h3⟩=>by
  rw [map_cons,nodup_cons];refine ⟨fun h=>?_,RepS.bnd_nodup h3⟩;have:=(h3.fis_gt _ h).1;have:=h1.le;have:=h1.fi;omega
theorem line_near {ls:List Int} {os:List Nat} {ts:List Bool} (O:Ord ls os) {m:Int} (m0:0 < m) (m1:m < ls.sum):(∃ j,1<=j/\j < ls.length/\m=Jo ls (List.range ls.length) j)\/near (gL ls os ts m) (gL ls os ts (m - 1)):=by
 obtain ⟨j,q⟩:=O.range.exists (Int.le_of_lt m0) m1;have hj:=q.1;have fj:=J17 O hj;by_cases c:m=(firsts ls (List.range ls.length)).getD j 0
 ·left;refine ⟨j,?_,hj,by rw [c,fj]⟩;rcases Nat.eq_zero_or_pos j with z | z
  ·subst z;rw [c,fj,J11] at m0;omega
  ·exact z
 ·right;have q2:Lies (firsts ls (List.range ls.length)) ls (m - 1) j:=⟨hj,by have:=q.2.1;omega,by have:=q.2.2;omega⟩;rw [gL_eq O q,gL_eq O q2];unfold moveN near;split <;> omega
theorem start_in {ls:List Int} {os:List Nat} (O:Ord ls os) {j:Nat} (h1:1<=j) (hj:j < ls.length):0 < Jo ls (List.range ls.length) j/\Jo ls (List.range ls.length) j < ls.sum:=by
 have m1:=O.range.mono (i:=1) (k:=j) h1 (by omega);have s0:Jo ls (List.range ls.length) 0 < Jo ls (List.range ls.length) 1:=O.range.step (i:=0) (by omega);have s1:=O.range.step (i:=j) hj;have m2:=O.range.mono (i:=j + 1) (k:=ls.length) (by omega) (by omega);rw [O.range.whole] at m2;rw [J11] at s0;omega
def CandC (ls ls':List Int) (k:Int->Int) (x:Int):Prop:=(∃ j,1<=j/\j < ls.length/\x=Jo ls (List.range ls.length) j)\/
 ∃ j,1<=j/\j < ls'.length/\near (k (Jo ls' (List.range ls'.length) j - 1)) (k (Jo ls' (List.range ls'.length) j))/\x=max (k (Jo ls' (List.range ls'.length) j - 1)) (k (Jo ls' (List.range ls'.length) j))
theorem cand_all {ls ls':List Int} {os os':List Nat} {ts ts':List Bool} (O:Ord ls os) (O':Ord ls' os') (hz:ls'.sum=ls.sum) {m:Int} (m0:0 < m) (m1:m < ls.sum) (n:¬ near (gL ls' os' ts' (gL ls os ts m)) (gL ls' os' ts' (gL ls os ts (m - 1)))):CandC ls ls' (kL ls os ts) m:=by
 rcases line_near (ts:=ts) O m0 m1 with h | h
 ·exact .inl h
 ·right;have b:=J2j (ts:=ts) O;have i1:=b.inn m (by omega) m1;have i2:=b.inn (m - 1) (by omega) (by omega);have k1:=b.kg m (by omega) m1;have k2:=b.kg (m - 1) (by omega) (by omega);generalize gL ls os ts m=u at *;generalize gL ls os ts (m - 1)=v at *;have key:∀ (c:Int),0 < c->c < ls.sum->¬ near (gL ls' os' ts' c) (gL ls' os' ts' (c - 1))->∃ j,1<=j/\j < ls'.length/\c=Jo ls' (List.range ls'.length) j:=fun c c0 c1 nn=>by
   rcases line_near (ts:=ts') O' c0 (by omega) with h | h
   ·exact h
   ·exact absurd h nn
  rcases h with h | h
  ·obtain ⟨j,j1,j2,e⟩:=key u (by omega) (by omega) (by rw [show u - 1=v by omega];exact n);refine ⟨j,j1,j2,?_,?_⟩
   ·rw [<- e,show u - 1=v by omega,k1,k2];unfold near;omega
   ·rw [<- e,show u - 1=v by omega,k1,k2];omega
  ·obtain ⟨j,j1,j2,e⟩:=key v (by omega) (by omega) (by
    rw [show v - 1=u by omega];intro z;exact n (by unfold near at *;omega))
   refine ⟨j,j1,j2,?_,?_⟩
   ·rw [<- e,show v - 1=u by omega,k1,k2];unfold near;omega
   ·rw [<- e,show v - 1=u by omega,k1,k2];omega
end Rl
namespace Rl
theorem nodup_len {α:Type} [DecidableEq α]:∀ {xs ys:List α},xs.Nodup->(∀ x∈xs,x∈ys)->xs.length<=ys.length
 | [],_,_,_=>Nat.zero_le _
 | x :: xs,ys,nd,h=>by
  have hx:=h x mem_cons_self;have nd':=nodup_cons.mp nd;have:=nodup_len (xs:=xs) (ys:=ys.erase x) nd'.2 fun y hy=>by
   have ne:y≠x:=fun e=>nd'.1 (e ▸ hy);exact (List.mem_erase_of_ne ne).mpr (h y (mem_cons_of_mem _ hy))
  rw [List.length_erase_of_mem hx] at this;have:=List.length_pos_of_mem hx;rw [length_cons];omega
theorem comp_few {ls ls':List Int} {os os':List Nat} {ts ts':List Bool} (O:Ord ls os) (O':Ord ls' os') (hz:ls'.sum=ls.sum) {S:List Sr} (R:RepS (fun x=>gL ls' os' ts' (gL ls os ts x)) 0 S ls.sum) (h1:1<=ls.length) (h2:1<=ls'.length):S.length + 1<=ls.length + ls'.length:=by
 have n2:(bndS S).Nodup:=by
  have:=R.bnd_nodup;unfold bndS;rw [List.map_drop];exact this.sublist (List.drop_sublist _ _)
 have c:=nodup_len n2 (ys:=((List.range (ls.length - 1)).map fun i=>Jo ls (List.range ls.length) (i + 1)) ++ ((List.range (ls'.length - 1)).map fun i=>max (kL ls os ts (Jo ls' (List.range ls'.length) (i + 1) - 1)) (kL ls os ts (Jo ls' (List.range ls'.length) (i + 1))))) fun x hx=>by
  obtain ⟨x0,x1⟩:=R.bnd_in x hx;rcases cand_all O O' hz x0 x1 ((R.cuts x x0 x1).mp hx) with ⟨j,j1,j2,rfl⟩ | ⟨j,j1,j2,_,rfl⟩
  ·exact mem_append.mpr (.inl (mem_map.mpr ⟨j - 1,mem_range.mpr (by omega),by rw [show j - 1 + 1=j by omega]⟩))
  ·exact mem_append.mpr (.inr (mem_map.mpr ⟨j - 1,mem_range.mpr (by omega),by rw [show j - 1 + 1=j by omega]⟩))
 rw [length_append,length_map,length_map,length_range,length_range] at c;have e:(bndS S).length=S.length - 1:=by unfold bndS;simp
 omega
theorem arch_eq {bs:List Int} (O:Ord bs (List.range bs.length)) {x:Int} {j:Nat} (q:Lies (firsts bs (List.range bs.length)) bs x j):gL bs (List.range bs.length) (List.replicate bs.length true) x=2 * Jo bs (List.range bs.length) j + bs.getD j 0 - 1 - x:=by
 rw [gL_eq O q];unfold moveN;have t:(List.replicate bs.length true).getD j false=true:=by
  rw [getD_eq_getElem?_getD,List.getElem?_replicate,if_pos q.1];rfl
 rw [if_pos t,J17 O q.1];omega
theorem arch_lies {bs:List Int} (O:Ord bs (List.range bs.length)) {x:Int} {j:Nat} (hj:j < bs.length) (h0:Jo bs (List.range bs.length) j<=x) (h1:x < Jo bs (List.range bs.length) j + bs.getD j 0):Lies (firsts bs (List.range bs.length)) bs x j :=
 ⟨hj,by rw [J17 O hj];exact h0,by rw [J17 O hj];exact h1⟩
theorem arch_back {bs:List Int} (O:Ord bs (List.range bs.length)) {x:Int} {j:Nat} (q:Lies (firsts bs (List.range bs.length)) bs x j):gL bs (List.range bs.length) (List.replicate bs.length true) (gL bs (List.range bs.length) (List.replicate bs.length true) x)=x:=by
 have q2:=J5h (ts:=List.replicate bs.length true) O q;rw [arch_eq O q2,arch_eq O q];omega
end Rl
namespace R52
open PySem L2 Rl
def top (i:Nat):Stmt:=PySem.Challenge.pw_relaid_k52_along_an_arch.main.body.getD i (.Pass ⟨0,0,0,0⟩)
abbrev sHold:Stmt:=top 11
abbrev sMoved:Stmt:=top 12
abbrev sAt:Stmt:=top 13
abbrev sGoes:Stmt:=top 14
abbrev sRefL:Stmt:=top 17
abbrev sRefO:Stmt:=top 18
abbrev sRefT:Stmt:=top 19
abbrev sTold:Stmt:=top 20
abbrev sFirst:Stmt:=top 21
abbrev sLenOf:Stmt:=top 25
abbrev sRestOf:Stmt:=top 26
abbrev J5w:Stmt:=top 28
abbrev J60:Stmt:=top 29
abbrev sPut:Stmt:=top 30
abbrev J5z:Stmt:=top 31
abbrev sShort:Stmt:=top 32
abbrev sTurnsB:Stmt:=top 33
abbrev sTimes:Stmt:=top 41
abbrev sOverS:Stmt:=top 42
abbrev sUnderS:Stmt:=top 43
abbrev sNext:Stmt:=top 44
abbrev sFirstT:Stmt:=top 46
abbrev sTowB:Stmt:=top 47
abbrev sBandsL:Stmt:=top 48
abbrev sStrOf:Stmt:=top 52
abbrev sFirstG:Stmt:=top 53
abbrev sLastG:Stmt:=top 54
abbrev sGoTog:Stmt:=top 55
abbrev sMade1:Stmt:=top 56
abbrev J5y:Stmt:=top 57
abbrev sLineOf:Stmt:=top 58
abbrev sPartsB:Stmt:=top 60
abbrev sJoinS:Stmt:=top 61
abbrev sLineW:Stmt:=top 62
abbrev sJoined:Stmt:=top 63
abbrev sRefB:Stmt:=top 66
abbrev sRefS:Stmt:=top 67
abbrev sTurnB:Stmt:=top 68
abbrev sOtherE:Stmt:=top 70
abbrev sArchA:Stmt:=top 71
abbrev sArchB:Stmt:=top 72
abbrev sCell:Stmt:=top 74
abbrev sWhole:Stmt:=top 75
abbrev sBlocks:Stmt:=top 76
abbrev sParted:Stmt:=top 77
abbrev sOtherL:Stmt:=top 79
abbrev sAsk:Stmt:=top 80
abbrev J5x:Stmt:=top 81
abbrev sLPlain:Stmt:=top 83
abbrev sLaw:Stmt:=top 84
abbrev sInit:Stmt:=Ju (top 22) 0
abbrev sRInit:Stmt:=Ju (top 24) 0
abbrev sStInit:Stmt:=Ju (top 34) 0
abbrev J4c:Stmt:=Ju (top 34) 2
abbrev sHoInit:Stmt:=Ju (top 35) 0
abbrev sHoWord:Stmt:=Ju (top 35) 1
abbrev J4g:Stmt:=Ju (top 35) 2
abbrev J4h:Stmt:=Ju (top 35) 3
abbrev sEvInit:Stmt:=Ju (top 36) 0
abbrev sEvWord:Stmt:=Ju (top 36) 1
abbrev J4i:Stmt:=Ju (top 36) 3
abbrev sOvInit:Stmt:=Ju (top 37) 0
abbrev sOvWord:Stmt:=Ju (top 37) 1
abbrev J4d:Stmt:=Ju (top 37) 3
abbrev sUnInit:Stmt:=Ju (top 38) 0
abbrev sUnWord:Stmt:=Ju (top 38) 1
abbrev J4b:Stmt:=Ju (top 38) 2
abbrev sOsInit:Stmt:=Ju (top 39) 0
abbrev sOsWord:Stmt:=Ju (top 39) 1
abbrev J4e:Stmt:=Ju (top 39) 2
abbrev J4f:Stmt:=Ju (top 39) 4
abbrev sUsInit:Stmt:=Ju (top 40) 0
abbrev sUsWord:Stmt:=Ju (top 40) 1
abbrev J49:Stmt:=Ju (top 40) 2
abbrev J4a:Stmt:=Ju (top 40) 3
abbrev sChInit:Stmt:=Ju (top 49) 0
abbrev sSrInit:Stmt:=Ju (top 51) 0
abbrev sArInit:Stmt:=Ju (top 69) 0
abbrev iV (ns:List Int):List V:=ns.map V.int
abbrev nV (os:List Nat):List V:=(natI os).map V.int
abbrev bV (bs:List Bool):List V:=bs.map V.bl
def SqH (H:Hp) (p:Addr) (xs:List V):Prop:=H p=some (.lst xs)\/H p=some (.tup xs)
theorem SqH.sq {K:PySem.W.Frag} {H:Hp} {p:Addr} {xs:List V} (h:SqH H p xs):SqL K H p xs\/SqT K H p xs:=h.elim (fun h=>.inl (SqL.of h)) fun h=>.inr (SqT.of h)
theorem SqH.same {H H':Hp} {p:Addr} {xs:List V} (h:SqH H p xs) (s:Same H H'):SqH H' p xs:=h.elim (fun h=>.inl (s _ _ h)) fun h=>.inr (s _ _ h)
theorem J7 {H:Hp} {l:Addr} {o:HO} (h:H l=none):Same H (upd H l o):=fun b u e=>by rw [Jb (J8 e h)];exact e
theorem iteD {c A B:Prop} [Decidable c] (hc:¬ c) (h:B):if decide c=true then A else B:=by
 rw [decide_eq_false hc];exact iteF h
theorem iteDT {c A B:Prop} [Decidable c] (hc:c) (h:A):if decide c=true then A else B:=by
 rw [decide_eq_true hc];exact iteT h
theorem iteBT {c:Bool} {A B:Prop} (h:c=true) (q:A):if c=true then A else B:=by rw [if_pos h];exact q
theorem iteBF {c:Bool} {A B:Prop} (h:¬ c=true) (q:B):if c=true then A else B:=by rw [if_neg h];exact q
theorem iteND {c A B:Prop} [Decidable c] (hc:¬ c) (h:A):if (!decide c)=true then A else B:=by
 rw [decide_eq_false hc];exact iteT h
theorem J13 {K:PySem.W.Frag} {H:Hp} {p:Addr} {xs:List V} {Q:VK} (h:SqH H p xs) (k:∀ l H',Same H H'->H' l=some (.tup xs)->Q (.ref l) H'):rTup K [V.ref p] H Q:=by
 unfold rTup;rcases h with h | h
 ·exact ⟨p,xs,rfl,.inl ⟨SqL.of h,fun l hl=>k l _ (J7 hl) J2⟩⟩
 ·exact ⟨p,xs,rfl,.inr ⟨SqT.of h,k p H (Same.refl _) h⟩⟩
theorem J1p {i j:Int} (h:i≠j):¬ V.int i=V.int j:=fun e=>h (V.int.inj e)
theorem ixN_nat {n o:Nat} (h:o < n):ixN n (o:Int)=some o:=by
 unfold ixN;rw [if_pos (by lia),if_pos (by lia)];simp
theorem J1a {ns:List Int} {j:Nat} (h:j < ns.length):(iV ns)[j]?=some (V.int (ns.getD j 0)):=by
 rw [getElem?_map,List.getElem?_eq_getElem h,getD_eq_getElem?_getD,List.getElem?_eq_getElem h];rfl
theorem iV_set (ns:List Int) (j:Nat) (z:Int):(iV ns).set j (V.int z)=iV (ns.set j z):=by
 show (ns.map V.int).set j (V.int z)=(ns.set j z).map V.int;rw [List.map_set]
theorem nV_get {os:List Nat} {j:Nat} {y:V} (h:(nV os)[j]?=some y):j < os.length/\y=V.int (os.getD j 0:Nat)/\os.getD j 0∈os:=by
 have hj:j < os.length:=by
  have:=(List.getElem?_eq_some_iff.mp h).1;simpa [natI] using this
 refine ⟨hj,?_,?_⟩
 ·rw [getElem?_map] at h;unfold natI at h;rw [getElem?_map,List.getElem?_eq_getElem hj] at h;rw [getD_eq_getElem?_getD,List.getElem?_eq_getElem hj];exact (Option.some.inj h).symm
 ·rw [getD_eq_getElem?_getD,List.getElem?_eq_getElem hj];exact List.getElem_mem hj
theorem flat_zero (n:Nat):(List.replicate n [V.int 0]).flatten=iV (List.replicate n 0):=by
 induction n with
 | zero=>rfl
 | succ n ih=>rw [replicate_succ,flatten_cons,ih,replicate_succ];rfl
theorem flat_false (n:Nat):(List.replicate n [V.bl false]).flatten=bV (List.replicate n false):=by
 induction n with
 | zero=>rfl
 | succ n ih=>rw [replicate_succ,flatten_cons,ih,replicate_succ];rfl
theorem Jt {f:Str} {v:V} {fs:List (Str × V)}:(putF f v fs).lookup f=some v:=by rw [J29,if_pos rfl]
theorem lk_ne {f g:Str} {v:V} {fs:List (Str × V)} (h:¬ g=f):(putF f v fs).lookup g=fs.lookup g:=by rw [J29,if_neg h]
theorem J1v (ls:List Int):(iV ls).length=ls.length:=length_map ..
def KeepX (x:Addr) (H H':Hp):Prop:=∀ b o,H b=some o->b≠x->H' b=some o
theorem KeepX.of {x:Addr} {H H':Hp} (s:Same H H'):KeepX x H H':=fun b o e _=>s b o e
theorem KeepX.trans {x:Addr} {H H1 H2:Hp} (a:KeepX x H H1) (b:KeepX x H1 H2):KeepX x H H2:=fun c o e n=>b c o (a c o e n) n
theorem KeepX.upd {x:Addr} {H:Hp} {o:HO}:KeepX x H (upd H x o):=fun b u e n=>by rw [Jb n];exact e
theorem KeepX.sqH {x p:Addr} {H H':Hp} {xs:List V} (k:KeepX x H H') (h:SqH H p xs) (n:p≠x):SqH H' p xs:=h.elim (fun h=>.inl (k _ _ h n)) fun h=>.inr (k _ _ h n)
theorem SqH.ne {H:Hp} {p x C dx:Addr} {xs:List V} {fs:List (Str × V)} (h:SqH H p xs) (hx:H x=some (.ins C dx fs)):p≠x:=h.elim (fun h=>ne_of h hx (by intro z;cases z)) fun h=>ne_of h hx (by intro z;cases z)
theorem J4w {ts:List Bool} {j:Nat} (h:j < ts.length):(bV ts)[j]?=some (V.bl (ts.getD j false)):=by
 rw [getElem?_map,List.getElem?_eq_getElem h,getD_eq_getElem?_getD,List.getElem?_eq_getElem h];rfl
structure TxtX (K:PySem.W.Frag) (mg:Str->Option Value) (x:Str) (CO:Addr):Prop where
 mg:mg x=some (.ref CO)
 ex:excIn K CO bmV "ValueError.__new__"=true
structure TxtR (mg:Str->Option Value):Prop where
 len:mg "len"=none
 sum:mg "sum"=none
 tuple:mg "tuple"=none
 list:mg "list"=none
 range:mg "range"=none
theorem nV_eq (row:List Nat):nV row=row.map fun (j:Nat)=>V.int (j:Int):=by
 show (row.map fun (n:Nat)=>(n:Int)).map V.int=_;rw [map_map];rfl
theorem J6b (row:List Nat):(nV row).length=row.length:=by rw [nV_eq,length_map]
theorem nV_at {row:List Nat} {i:Nat} (h:i < row.length):(nV row)[i]?=some (V.int (row.getD i 0:Nat)):=by
 rw [nV_eq,getElem?_map,getD_eq_getElem?_getD,List.getElem?_eq_getElem h];rfl
section
variable {P:Program} {w:World} {K:PySem.W.Frag} {mg:Str->Option Value} {base:Heap}
def spFirst:Sp:=fun vs H Q _=>∃ (p q:Addr) (ls:List Int) (os:List Nat),vs=[.ref p,.ref q]/\H p=some (.tup (iV ls))/\SqH H q (nV os)/\(∀ o∈os,o < ls.length)/\ls.length<=24/\
 ∀ l H',Same H H'->H' l=some (.tup (iV (firsts ls os)))->Q (.ref l) H'
theorem scFirst:FnScope ["lengths","order","firsts","place","piece"] ["lengths","order"] (J6 sFirst):=fS
def PvF (p q fl:Addr) (ls:List Int) (os:List Nat) (H:Hp) (i:Nat) (σ:St) (H2:Hp):Prop :=
 ∃ v,σ=[some (.ref p),some (.ref q),some (.ref fl),some (.int (sumsF ls os i).2),v]/\H2 fl=some (.lst (iV (sumsF ls os i).1))/\H fl=none/\Same H H2
theorem ok_first {f:Addr} {fd:FuncData} (F:Fun K "first_places" "first_places" sFirst f fd) (T:TxtR mg):FnOk P w K mg base CX0 1 f fd ["lengths","order"] spFirst:=by
 refine F.ok scFirst (fun vs H Q E h=>?_) (fun cdv A outer s H vs Q E hr h=>?_)
 ·obtain ⟨p,q,ls,os,rfl,_⟩:=h;rfl
 ·obtain ⟨p,q,ls,os,rfl,hp,hq,hlt,hn,k⟩:=h;have hl:(iV ls).length=ls.length:=length_map ..;have turn:∀ (fl:Addr) (i:Nat) (y:V) (σ:St) (H2:Hp) (D:Ends),(nV os)[i]?=some y->PvF p q fl ls os H i σ H2->D.nx=PvF p q fl ls os H (i + 1)->
    gName 4 y σ H2 fun σ2 H2=>tSeq (tAsg (tVar 3) (gSub (tVar 2) (tVar 4) rSetL)) (tAsg (tOp (rI0 fun i j=>.int (i + j)) (tVar 3) (tOp (rIxT K) (tVar 0) (tVar 4))) (gName 3)) D σ2 H2:=by
   rintro fl i y σ H2 D hy ⟨v,rfl,h1,h2,h3⟩ hD;obtain ⟨hi,rfl,hm⟩:=nV_get hy;have ho:=hlt _ hm;refine ⟨_,rfl,_,rfl,_,rfl,fl,_,_,os.getD i 0,rfl,rfl,h1,ixN_nat (by rw [length_map,J36];exact ho),?_⟩;refine ⟨_,rfl,_,rfl,_,rfl,p,_,_,_,rfl,rfl,SqT.of (xs:=iV ls) ?_,Jj (J1a ho),_,_,rfl,rfl,?_⟩
   ·rw [Jb (ne_of (h3 _ _ hp) h1 (by intro z;cases z))];exact h3 _ _ hp
   ·show D.nx _ _;rw [hD];refine ⟨_,rfl,?_,h2,fun b o e=>?_⟩
    ·rw [J2,iV_set];rfl
    ·rw [Jb (J8 e h2)];exact h3 _ _ e
  have start0:∀ fl,H fl=none->∀ H1,Same H H1->H1 fl=some (.lst (iV (List.replicate ls.length 0)))->PvF p q fl ls os H 0 [some (.ref p),some (.ref q),some (.ref fl),some (.int 0),none] H1:=fun fl h1 H1 h2 h3=>⟨none,rfl,h3,h1,h2⟩;have done:∀ fl (σ:St) (H2:Hp),PvF p q fl ls os H (nV os).length σ H2->tRet (tCB (rTup K) (tCons (tVar 2) tNil)) { nx:=fun _ H'=>Q .non H',rt:=Q } σ H2:=by
   rintro fl σ H2 ⟨v,rfl,h1,h2,h3⟩;have e:(nV os).length=os.length:=by simp [natI]
   rw [e] at h1;exact ⟨_,rfl,J13 (.inl h1) fun l H' s hl=>k l _ (h3.trans s) hl⟩
  have rep:∀ fl,H fl=none->∀ l2,(upd H fl (.lst [V.int 0])) l2=none->PvF p q l2 ls os H 0 [some (.ref p),some (.ref q),some (.ref l2),some (.int 0),none] (upd (upd H fl (.lst [V.int 0])) l2 (.lst (List.replicate ((iV ls).length:Int).toNat [V.int 0]).flatten)):=fun fl hf l2 h2 =>
   start0 l2 ((J7 hf).free h2) _ ((J7 hf).trans (J7 h2)) (by rw [J2,flat_zero,hl];rfl)
  rcases hq with hq | hq
  ·refine ⟨_,J1 (Ji (i:=2) scFirst.nd rfl (Or.inl rfl) (pe_op op_rep (J1t (J0 Jd J3)) (Je Jf (by rfl) T.len boot_len (J0 (pv 0) J3))))
    (J1 (Ji (i:=3) scFirst.nd rfl (Or.inl rfl) Jd)
    (J1 (J34 PassesOwn.never rfl (J2f (pv 1)) (J1g (i:=4) scFirst.nd rfl (Or.inl rfl)) (J1 (ps_asg (pv 3) (pg_sub (pv 2) (pv 4) J48)) (J4 (Ji (i:=3) scFirst.nd rfl (Or.inl rfl) (pe_op J19 (pv 3) (pe_ix Js (pv 0) (pv 4) (fun _ _=>rfl)))))))
    (J4 (Jh (Jk J12 (by rfl) T.tuple boot_tuple (J0 (pv 2) J3)))))),?_⟩
   refine ⟨by show 1<=sizeLine;decide,fun fl hf=>⟨_,rfl,p,_,rfl,.inr (SqT.of (J7 hf _ _ hp)),fl,_,[V.int 0],rfl,rfl,J2,by lia,by lia,?_,fun l2 h2=>?_⟩⟩
   ·show 1 * ((iV ls).length:Int).toNat<=sizeLine;have:=Jq (n:=ls.length) (by lia);lia
   ·have p0:=rep fl hf l2 h2;exact ⟨_,rfl,q,rfl,⟨_,SqL.of (((J7 hf).trans (J7 h2)) _ _ hq)⟩,J2k (K:=K) (a:=q) (xs:=nV os) (PvF p q l2 ls os H) p0 (fun i σ H2 _ ⟨_,_,_,_,s⟩=>SqL.of (s _ _ hq)) (fun i y σ H2 hi pv=>turn l2 i y σ H2 _ hi pv rfl) (fun σ H2 pv=>done l2 σ H2 pv)⟩
  ·refine ⟨_,J1 (Ji (i:=2) scFirst.nd rfl (Or.inl rfl) (pe_op op_rep (J1t (J0 Jd J3)) (Je Jf (by rfl) T.len boot_len (J0 (pv 0) J3))))
    (J1 (Ji (i:=3) scFirst.nd rfl (Or.inl rfl) Jd)
    (J1 (J34 PassesOwn.never rfl (pi_tup (pv 1)) (J1g (i:=4) scFirst.nd rfl (Or.inl rfl)) (J1 (ps_asg (pv 3) (pg_sub (pv 2) (pv 4) J48)) (J4 (Ji (i:=3) scFirst.nd rfl (Or.inl rfl) (pe_op J19 (pv 3) (pe_ix Js (pv 0) (pv 4) (fun _ _=>rfl)))))))
    (J4 (Jh (Jk J12 (by rfl) T.tuple boot_tuple (J0 (pv 2) J3)))))),?_⟩
   refine ⟨by show 1<=sizeLine;decide,fun fl hf=>⟨_,rfl,p,_,rfl,.inr (SqT.of (J7 hf _ _ hp)),fl,_,[V.int 0],rfl,rfl,J2,by lia,by lia,?_,fun l2 h2=>?_⟩⟩
   ·show 1 * ((iV ls).length:Int).toNat<=sizeLine;have:=Jq (n:=ls.length) (by lia);lia
   ·have p0:=rep fl hf l2 h2;exact ⟨_,rfl,q,rfl,⟨_,SqT.of (((J7 hf).trans (J7 h2)) _ _ hq)⟩,for_tup (K:=K) (a:=q) (xs:=nV os) (PvF p q l2 ls os H) p0 (fun i σ H2 _ ⟨_,_,_,_,s⟩=>SqT.of (s _ _ hq)) (fun i y σ H2 hi pv=>turn l2 i y σ H2 _ hi pv rfl) (fun σ H2 pv=>done l2 σ H2 pv)⟩
end
end R52
namespace R52
open PySem L2 Rl
structure Good (ls:List Int) (os:List Nat):Prop where
 lo:1<=ls.length
 hi:ls.length<=24
 pos:∀ a∈ls,1<=a
 sum:ls.sum<=10 ^ 30
 perm:os.Perm (List.range ls.length)
theorem Good.olt {ls:List Int} {os:List Nat} (g:Good ls os):∀ o∈os,o < ls.length:=fun o h=>mem_range.mp (g.perm.mem_iff.mp h)
structure Txt (K:PySem.W.Frag) (mg:Str->Option Value):Prop where
 len:mg "len"=none
 min:mg "min"=none
 sum:mg "sum"=none
 sorted:mg "sorted"=none
 list:mg "list"=none
 range:mg "range"=none
 tuple:mg "tuple"=none
 most:∃ t,mg "MOST_PIECES"=some (.int 24 t)
section
variable {P:Program} {w:World} {K:PySem.W.Frag} {mg:Str->Option Value} {base:Heap}
def spRefL:Sp:=fun vs H Q _=>∃ (p:Addr) (ls:List Int) (os:List Nat),vs=[.ref p]/\SqH H p (iV ls)/\Good ls os/\Q .non H
theorem scRefL:FnScope ["lengths"] ["lengths"] (J6 sRefL):=fS
theorem ok_refL {f:Addr} {fd:FuncData} (F:Fun K "refuse_lengths" "refuse_lengths" sRefL f fd) (T:Txt K mg):FnOk P w K mg base CX0 1 f fd ["lengths"] spRefL:=by
 refine F.ok scRefL (fun vs H Q E h=>?_) (fun cdv A outer s H vs Q E hr h=>?_)
 ·obtain ⟨p,ls,os,rfl,_⟩:=h;rfl
 ·obtain ⟨p,ls,os,rfl,hp,g,k⟩:=h;obtain ⟨t24,h24⟩:=T.most;have g1:=g.lo;have g2:=g.hi;refine ⟨_,J1 (ps_if (Jl op_eq (Je Jf (by rfl) T.len boot_len (J0 (pv 0) J3)) Jd (Jp _)) (J4 J2w) Jn)
   (J1 (ps_if (Jl op_gt (Je Jf (by rfl) T.len boot_len (J0 (pv 0) J3)) (J5a (v:=.int 24) rfl h24 ⟨_,rfl⟩) (Jp _)) (J4 J2w) Jn)
   (J1 (ps_if (Jl op_lt (Je (call_min rfl) (by rfl) T.min boot_min (J0 (pv 0) J3)) Jd (Jp _)) (J4 J2w) Jn)
   (J4 (ps_if (Jl op_gt (Je (Jx rfl) (by rfl) T.sum boot_sum (J0 (pv 0) J3)) (pe_op op_pow Jd Jd) (Jp _)) (J4 J2w) Jn)))),?_⟩
  have hl:(iV ls).length=ls.length:=length_map ..;refine ⟨_,rfl,p,_,rfl,hp.sq,rfl,_,rfl,iteD (J1p (by rw [hl];lia)) ?_⟩;refine ⟨_,rfl,p,_,rfl,hp.sq,_,_,rfl,rfl,_,rfl,iteD (by rw [hl];lia) ?_⟩;refine ⟨_,rfl,p,ls,rfl,hp.sq,by lia,fun M hM hall=>⟨_,_,rfl,rfl,_,rfl,iteD (by have:=g.pos M hM;lia) ?_⟩⟩;refine ⟨_,rfl,p,ls,rfl,hp.sq,_,_,rfl,rfl,⟨by decide,by decide,by decide⟩,_,_,rfl,rfl,_,rfl,iteD ?_ ?_⟩
  ·have:=g.sum;show ¬ (10:Int) ^ 30 < ls.sum;lia
  ·exact k
def spRefO:Sp:=fun vs H Q _=>∃ (q:Addr) (os:List Nat) (n:Nat),vs=[.ref q,.int n]/\SqH H q (nV os)/\os.Perm (List.range n)/\n<=24/\∀ H',Same H H'->Q .non H'
theorem scRefO:FnScope ["order","pieces"] ["order","pieces"] (J6 sRefO):=fS
theorem ok_refO {f:Addr} {fd:FuncData} (F:Fun K "refuse_order" "refuse_order" sRefO f fd) (T:Txt K mg):FnOk P w K mg base CX0 1 f fd ["order","pieces"] spRefO:=by
 refine F.ok scRefO (fun vs H Q E h=>?_) (fun cdv A outer s H vs Q E hr h=>?_)
 ·obtain ⟨q,os,n,rfl,_⟩:=h;rfl
 ·obtain ⟨q,os,n,rfl,hq,hp,hn,k⟩:=h;have hu:=hr.units0;refine ⟨_,J4 (ps_if (Jl (op_neL hu) (Je call_sorted (by rfl) T.sorted PyProof.Rows.boot_sorted (J0 (pv 0) J3))
   (Jk (J1r rfl) (by rfl) T.list boot_list (J0 (Jk J3o (by rfl) T.range PyProof.Rows.boot_range (J0 (pv 1) J3)) J3)) (Jp _)) (J4 J2w) Jn),?_⟩
  have ho:(natI os).length < 64:=by
   unfold natI;rw [length_map,hp.length_eq,length_range];lia
  refine ⟨_,rfl,q,natI os,rfl,hq.sq,ho,fun l ns' hl h1 h2=>?_⟩;refine ⟨_,rfl,(n:Int),rfl,fun r hr'=>⟨r,n,rfl,J2,by lia,fun l2 hl2=>?_⟩⟩;have e:=J5t hp h1 h2;have n1:l≠r:=J8 (H:=upd H l (.lst (ns'.map V.int))) J2 hr';have s1:Same (upd H l (.lst (ns'.map V.int))) (upd (upd (upd H l (.lst (ns'.map V.int))) r (.rng 0 n)) l2 (.lst (((List.range n).map fun (i:Nat)=>(i:Int)).map V.int))):=(J7 hr').trans (J7 hl2);refine ⟨l,l2,_,_,rfl,rfl,SqL.of (s1 _ _ J2),SqL.of J2,Kin.ints _ _,_,rfl,iteNS (by rw [e];rfl) ?_⟩;exact k _ ((J7 hl).trans s1)
def spRefT:Sp:=fun vs H Q _=>∃ (q:Addr) (xs:List V) (n:Nat),vs=[.ref q,.int n]/\SqH H q xs/\xs.length=n/\Q .non H
theorem scRefT:FnScope ["turned","pieces"] ["turned","pieces"] (J6 sRefT):=fS
theorem ok_refT {f:Addr} {fd:FuncData} (F:Fun K "refuse_turned" "refuse_turned" sRefT f fd) (T:Txt K mg):FnOk P w K mg base CX0 1 f fd ["turned","pieces"] spRefT:=by
 refine F.ok scRefT (fun vs H Q E h=>?_) (fun cdv A outer s H vs Q E hr h=>?_)
 ·obtain ⟨q,xs,n,rfl,_⟩:=h;rfl
 ·obtain ⟨q,xs,n,rfl,hq,hn,k⟩:=h;refine ⟨_,J4 (ps_if (Jl op_ne (Je Jf (by rfl) T.len boot_len (J0 (pv 0) J3)) (pv 1) (Jp _)) (J4 J2w) Jn),?_⟩;refine ⟨_,rfl,q,_,rfl,hq.sq,_,rfl,rfl,_,rfl,iteNS (by rw [hn]) ?_⟩;exact k
def TurnsOf (H:Hp) (tv:V) (n:Nat) (ts:List Bool):Prop:=ts.length=n/\((tv=.non/\ts=List.replicate n false)\/∃ t,tv=.ref t/\SqH H t (bV ts))
theorem TurnsOf.same {H H':Hp} {tv:V} {n:Nat} {ts:List Bool} (h:TurnsOf H tv n ts) (s:Same H H'):TurnsOf H' tv n ts:=⟨h.1,h.2.elim .inl fun ⟨t,e,q⟩=>.inr ⟨t,e,q.same s⟩⟩
def spTold:Sp:=fun vs H Q _=>∃ (tv:V) (n:Nat) (ts:List Bool),vs=[tv,.int n]/\1<=n/\n<=24/\TurnsOf H tv n ts/\∀ p H',Same H H'->H' p=some (.tup (bV ts))->Q (.ref p) H'
theorem scTold:FnScope ["turned","pieces"] ["turned","pieces"] (J6 sTold):=fS
theorem ok_told {f fT:Addr} {fd fdT:FuncData} (F:Fun K "turns_told" "turns_told" sTold f fd) (T:Txt K mg) (FT:Fun K "refuse_turned" "refuse_turned" sRefT fT fdT) (bT:Binds K fdT ["turned","pieces"] []) (mT:mg "refuse_turned"=some (.ref fT)):FnOk P w K mg base CX0 2 f fd ["turned","pieces"] spTold:=by
 have GT:FnOk P w K mg base CX0 1 fT fdT ["turned","pieces"] spRefT:=ok_refT FT T;refine F.ok scTold (fun vs H Q E h=>?_) (fun cdv A outer s H vs Q E hr h=>?_)
 ·obtain ⟨tv,n,ts,rfl,_⟩:=h;rfl
 ·obtain ⟨tv,n,ts,rfl,h1,h2,⟨ht,h3⟩,k⟩:=h;refine ⟨_,J1 (ps_if (pt_cmp (pc_isN (pv 0))) (J4 (Jh (pe_op op_repT (J65 (J0 pe_bl J3)) (pv 1)))) Jn)
   (J1 (Jz (Jc GT hr rfl mT FT.kp bT .nil pass0 (J0 (pv 0) (J0 (pv 1) J3))))
   (J4 (Jh (Jk J12 (by rfl) T.tuple boot_tuple (J0 (pv 0) J3))))),?_⟩
  rcases h3 with ⟨rfl,rfl⟩ | ⟨t,rfl,hq⟩
  ·refine ⟨_,rfl,_,rfl,iteDT rfl ?_⟩;refine ⟨by show 1<=sizeLine;decide,fun p hp=>⟨_,rfl,p,(n:Int),[V.bl false],rfl,rfl,J2,by simp,by lia,by lia,?_,fun e=>?_,fun hk p2 hp2=>?_⟩⟩
   ·show 1 * (n:Int).toNat<=sizeLine;have:=Jq (n:=n) (by lia);lia
   ·have en:n=1:=by lia
    subst en;exact k p _ (J7 hp) J2
   ·refine k p2 _ ((J7 hp).trans (J7 hp2)) ?_;rw [J2,<- flat_false];rfl
  ·refine ⟨_,rfl,_,rfl,iteD (by intro e;cases e) ?_⟩;refine ⟨_,rfl,_,rfl,t,bV ts,n,rfl,hq,by rw [length_map];exact ht,?_⟩;exact ⟨_,rfl,J13 hq k⟩
def tCut (t:TS):TS:=fun D σ H=>∃ post:St->Hp->Prop,t { D with nx:=post } σ H/\∀ σ' H',post σ' H'->D.nx σ' H'
theorem J1z {X:Cx} {st:Stmt} {t:TS} (h:PS X st t):PS X st (tCut t):=by
 intro pins s σ H D I ⟨post,q,m⟩;refine thn (h pins s σ H _ I q) fun f s' z=>?_
 cases f with
 | next=>obtain ⟨σ',H',I',z⟩:=z;exact ⟨σ',H',I',m σ' H' z⟩
 | brk=>exact z
 | cont=>exact z
 | ret u=>exact z
structure LineAt (C:Addr) (H:Hp) (x:Addr) (ls:List Int) (os:List Nat) (ts:List Bool):Prop where
 ex:∃ (dx:Addr) (fs:List (Str × V)) (pl po pt ps pd:Addr),H x=some (.ins C dx fs)/\(fs.lookup ("lengths":Str)=some (.ref pl)/\fs.lookup ("order":Str)=some (.ref po)/\fs.lookup ("turned":Str)=some (.ref pt)/\
  fs.lookup ("starts":Str)=some (.ref ps)/\fs.lookup ("laid":Str)=some (.ref pd)/\fs.lookup ("size":Str)=some (.int ls.sum))/\
  H pl=some (.tup (iV ls))/\H po=some (.tup (nV os))/\H pt=some (.tup (bV ts))/\H ps=some (.tup (iV (firsts ls (List.range ls.length))))/\H pd=some (.tup (iV (firsts ls os)))
theorem LineAt.same {C:Addr} {H H':Hp} {x:Addr} {ls:List Int} {os:List Nat} {ts:List Bool} (h:LineAt C H x ls os ts) (s:Same H H'):LineAt C H' x ls os ts:=by
 obtain ⟨dx,fs,pl,po,pt,ps,pd,h0,hl,h1,h2,h3,h4,h5⟩:=h.ex;exact ⟨dx,fs,pl,po,pt,ps,pd,s _ _ h0,hl,s _ _ h1,s _ _ h2,s _ _ h3,s _ _ h4,s _ _ h5⟩
structure TxtC (K:PySem.W.Frag) (mg:Str->Option Value) (C:Addr):Prop where
 cl:Cls K C
 nL:NoAttr K C "lengths"
 nO:NoAttr K C "order"
 nT:NoAttr K C "turned"
 nS:NoAttr K C "starts"
 nD:NoAttr K C "laid"
 nZ:NoAttr K C "size"
structure FunD (K:PySem.W.Frag) (x qual:Str) (st:Stmt) (f:Addr) (fd:FuncData) (TD:Addr):Prop where
 ex:∃ (oc:Value) (od:Option Addr) (kV doc pm:Value) (an:Option Addr) (cdv ct:Value) (osl:Array (Option Value)),
  fd=fnOf x qual (J26 st) (J1j st) (J6 st) (.ref TD) kV doc pm an cdv ct/\K.lookup f=some ⟨oc,od,.func fd,osl⟩/\codeIn K cdv qual=true
 kp:keepIn K (.ref f)=true
theorem FunD.ok {x qual:Str} {st:Stmt} {f TD:Addr} {fd:FuncData} {N ps:List Str} {k:Nat} {sp:Sp} (F:FunD K x qual st f fd TD) (S:FnScope N ps (J6 st)) (len:∀ vs H Q E,sp vs H Q E->vs.length=ps.length)
  (hbody:∀ (cdv:Value) (A:Around) (outer:List Env) (s:Shared) (H:Hp) (vs:List V) (Q:VK) (E:XK),Room k (A.deeper (PyProof.Rows.envOfC qual (J6 st) s.heap.objs.size f cdv))->sp vs H Q E->
   ∃ t,PSs (cxOf CX0 P w K mg base N qual (J6 st) f cdv A outer s H E).nox (J1j st) t/\t { nx:=fun _ H'=>Q .non H',rt:=Q } (start N vs) H):FnOk P w K mg base CX0 (k + 1) f fd ps sp:=by
 obtain ⟨oc,od,kV,doc,pm,an,cdv,ct,osl,rfl,lk,hcd⟩:=F.ex;refine fn_of lk hcd S len fun A outer s H vs Q E hr hsp=>?_;obtain ⟨t,h,q⟩:=hbody cdv A outer s H vs Q E hr hsp;exact ⟨t,h.nox,q⟩
def spInit (C:Addr):Sp:=fun vs H Q _=>∃ (x dx p q:Addr) (tv:V) (ls:List Int) (os:List Nat) (ts:List Bool),vs=[.ref x,.ref p,.ref q,tv]/\H x=some (.ins C dx [])/\SqH H p (iV ls)/\SqH H q (nV os)/\Good ls os/\TurnsOf H tv ls.length ts/\
 ∀ H',LineAt C H' x ls os ts->(∀ b o,H b=some o->b≠x->H' b=some o)->Q .non H'
theorem scInit:FnScope ["self","lengths","order","turned"] ["self","lengths","order","turned"] (J6 sInit):=fS
theorem ok_init {f fL fO fT fF TD C:Addr} {fd fdL fdO fdT fdF:FuncData} (F:FunD K "__init__" "Line.__init__" sInit f fd TD) (T:Txt K mg) (TC:TxtC K mg C)
  (GL:FnOk P w K mg base CX0 1 fL fdL ["lengths"] spRefL) (bL:Binds K fdL ["lengths"] []) (mL:mg "refuse_lengths"=some (.ref fL)) (kL:keepIn K (.ref fL)=true)
  (GO:FnOk P w K mg base CX0 1 fO fdO ["order","pieces"] spRefO) (bO:Binds K fdO ["order","pieces"] []) (mO:mg "refuse_order"=some (.ref fO)) (kO:keepIn K (.ref fO)=true)
  (GT:FnOk P w K mg base CX0 2 fT fdT ["turned","pieces"] spTold) (bT:Binds K fdT ["turned","pieces"] []) (mT:mg "turns_told"=some (.ref fT)) (kT:keepIn K (.ref fT)=true)
  (GF:FnOk P w K mg base CX0 1 fF fdF ["lengths","order"] spFirst) (bF:Binds K fdF ["lengths","order"] []) (mF:mg "first_places"=some (.ref fF)) (kF:keepIn K (.ref fF)=true) :
  FnOk P w K mg base CX0 3 f fd ["self","lengths","order","turned"] (spInit C):=by
 refine F.ok scInit (fun vs H Q E h=>?_) (fun cdv A outer s H vs Q E hr h=>?_)
 ·obtain ⟨x,dx,p,q,tv,ls,os,ts,rfl,_⟩:=h;rfl
 ·obtain ⟨x,dx,p,q,tv,ls,os,ts,rfl,hx,hp,hq,g,ht,k⟩:=h;have hr1:Room 1 _:=rm hr;have g1:=g.lo;have g2:=g.hi;have npx:=hp.ne hx;have nqx:=hq.ne hx;refine ⟨_,J1 (Jz (Jc GL hr1 rfl mL kL bL .nil pass0 (J0 (pv 1) J3)))
   (J1 (Jz (Jc GO hr1 rfl mO kO bO .nil pass0 (J0 (pv 2) (J0 (Je Jf (by rfl) T.len boot_len (J0 (pv 1) J3)) J3))))
   (J1 (J1d (pv 0) (Jc GT hr rfl mT kT bT .nil pass0 (J0 (pv 3) (J0 (Je Jf (by rfl) T.len boot_len (J0 (pv 1) J3)) J3))) rfl)
   (J1 (J1d (pv 0) (Jk J12 (by rfl) T.tuple boot_tuple (J0 (pv 1) J3)) rfl)
   (J1 (J1d (pv 0) (Jk J12 (by rfl) T.tuple boot_tuple (J0 (pv 2) J3)) rfl)
   (J1 (J1d (pv 0) (Jc GF hr1 rfl mF kF bF .nil pass0 (J0 (Ja (pv 0) rfl) (J0 (Jk (J1r rfl) (by rfl) T.list boot_list (J0 (Jk J3o (by rfl) T.range PyProof.Rows.boot_range (J0 (Je Jf (by rfl) T.len boot_len (J0 (pv 1) J3)) J3)) J3)) J3))) rfl)
   (J1 (J1d (pv 0) (Jc GF hr1 rfl mF kF bF .nil pass0 (J0 (Ja (pv 0) rfl) (J0 (Ja (pv 0) rfl) J3))) rfl)
   (J4 (J1d (pv 0) (Je (Jx rfl) (by rfl) T.sum boot_sum (J0 (Ja (pv 0) rfl) J3)) rfl)))))))),?_⟩
  refine ⟨_,rfl,p,ls,os,rfl,hp,g,?_⟩;refine ⟨_,rfl,_,rfl,p,_,rfl,hp.sq,q,os,ls.length,(by rw [J1v];rfl),hq,g.perm,g2,fun H1 s1=>?_⟩;refine ⟨_,rfl,_,rfl,p,_,rfl,(hp.same s1).sq,tv,ls.length,ts,(by rw [J1v];rfl),g1,g2,ht.same s1,fun pt H2 s2 hpt=>?_⟩;have s12:=s1.trans s2;refine ⟨_,rfl,x,C,dx,[],rfl,s12 _ _ hx,TC.cl,TC.nT,(by show 0 < 1000;decide),?_⟩;generalize hfs1:putF ("turned":Str) (.ref pt) []=fs1;generalize hH3:upd H2 x (.ins C dx fs1)=H3;have l1:fs1.length<=1:=by rw [<- hfs1];exact Jg ..
  have k3:KeepX x H H3:=by rw [<- hH3];exact (KeepX.of s12).trans KeepX.upd
  have hx3:H3 x=some (.ins C dx fs1):=by rw [<- hH3];exact J2
  have ptx:pt≠x:=ne_of hpt (s12 _ _ hx) (by intro z;cases z);have hpt3:H3 pt=some (.tup (bV ts)):=by rw [<- hH3,Jb ptx];exact hpt
  refine ⟨_,rfl,J13 (k3.sqH hp npx) fun pl H4 s4 hpl=>⟨_,rfl,x,C,dx,fs1,rfl,s4 _ _ hx3,TC.cl,TC.nL,(by lia),?_⟩⟩;generalize hfs2:putF ("lengths":Str) (.ref pl) fs1=fs2;generalize hH5:upd H4 x (.ins C dx fs2)=H5;have l2:fs2.length<=2:=by rw [<- hfs2];have:=Jg ("lengths":Str) (.ref pl) fs1;lia
  have k35:KeepX x H3 H5:=by rw [<- hH5];exact (KeepX.of s4).trans KeepX.upd
  have k5:KeepX x H H5:=k3.trans k35;have hx5:H5 x=some (.ins C dx fs2):=by rw [<- hH5];exact J2
  have plx:pl≠x:=ne_of hpl (s4 _ _ hx3) (by intro z;cases z);have hpl5:H5 pl=some (.tup (iV ls)):=by rw [<- hH5,Jb plx];exact hpl
  refine ⟨_,rfl,J13 (k5.sqH hq nqx) fun po H6 s6 hpo=>⟨_,rfl,x,C,dx,fs2,rfl,s6 _ _ hx5,TC.cl,TC.nO,(by lia),?_⟩⟩;generalize hfs3:putF ("order":Str) (.ref po) fs2=fs3;generalize hH7:upd H6 x (.ins C dx fs3)=H7;have l3:fs3.length<=3:=by rw [<- hfs3];have:=Jg ("order":Str) (.ref po) fs2;lia
  have k57:KeepX x H5 H7:=by rw [<- hH7];exact (KeepX.of s6).trans KeepX.upd
  have k7:KeepX x H H7:=k5.trans k57;have hx7:H7 x=some (.ins C dx fs3):=by rw [<- hH7];exact J2
  have pox:po≠x:=ne_of hpo (s6 _ _ hx5) (by intro z;cases z);have hpo7:H7 po=some (.tup (nV os)):=by rw [<- hH7,Jb pox];exact hpo
  have hpl7:H7 pl=some (.tup (iV ls)):=k57 _ _ hpl5 plx;have lkL:fs3.lookup ("lengths":Str)=some (.ref pl):=by rw [<- hfs3,lk_ne (by decide +kernel),<- hfs2,Jt]
  have lkO:fs3.lookup ("order":Str)=some (.ref po):=by rw [<- hfs3,Jt]
  have lkT:fs3.lookup ("turned":Str)=some (.ref pt):=by rw [<- hfs3,lk_ne (by decide +kernel),<- hfs2,lk_ne (by decide +kernel),<- hfs1,Jt]
  refine ⟨_,rfl,x,C,dx,fs3,_,rfl,hx7,TC.cl,TC.nL,lkL,_,rfl,p,_,rfl,(k7.sqH hp npx).sq,_,rfl,fun r hr'=>⟨r,_,rfl,J2,(by rw [J1v];lia),fun l hl=>?_⟩⟩;have s8:Same H7 (upd (upd H7 r (.rng 0 ((iV ls).length:Nat))) l (.lst (((List.range (iV ls).length).map fun (i:Nat)=>(i:Int)).map V.int))):=(J7 hr').trans (J7 hl);refine ⟨pl,l,ls,List.range ls.length,rfl,s8 _ _ hpl7,.inl (by rw [J2,J1v];rfl),fun o ho=>mem_range.mp ho,g2,fun ps H9 s9 hps=>?_⟩;have s79:=s8.trans s9;refine ⟨_,rfl,x,C,dx,fs3,rfl,s79 _ _ hx7,TC.cl,TC.nS,(by lia),?_⟩;generalize hfs4:putF ("starts":Str) (.ref ps) fs3=fs4;generalize hHa:upd H9 x (.ins C dx fs4)=Ha;have l4:fs4.length<=4:=by rw [<- hfs4];have:=Jg ("starts":Str) (.ref ps) fs3;lia
  have k7a:KeepX x H7 Ha:=by rw [<- hHa];exact (KeepX.of s79).trans KeepX.upd
  have hxa:Ha x=some (.ins C dx fs4):=by rw [<- hHa];exact J2
  have psx:ps≠x:=ne_of hps (s79 _ _ hx7) (by intro z;cases z);have hpsa:Ha ps=some (.tup (iV (firsts ls (List.range ls.length)))):=by rw [<- hHa,Jb psx];exact hps
  have hpla:=k7a _ _ hpl7 plx;have hpoa:=k7a _ _ hpo7 pox;have lkL4:fs4.lookup ("lengths":Str)=some (.ref pl):=by rw [<- hfs4,lk_ne (by decide +kernel),lkL]
  have lkO4:fs4.lookup ("order":Str)=some (.ref po):=by rw [<- hfs4,lk_ne (by decide +kernel),lkO]
  have lkT4:fs4.lookup ("turned":Str)=some (.ref pt):=by rw [<- hfs4,lk_ne (by decide +kernel),lkT]
  have lkS4:fs4.lookup ("starts":Str)=some (.ref ps):=by rw [<- hfs4,Jt]
  refine ⟨_,rfl,x,C,dx,fs4,_,rfl,hxa,TC.cl,TC.nL,lkL4,_,rfl,x,C,dx,fs4,_,rfl,hxa,TC.cl,TC.nO,lkO4,pl,po,ls,os,rfl,hpla,.inr hpoa,g.olt,g2,fun pd Hb sb hpd=>?_⟩;refine ⟨_,rfl,x,C,dx,fs4,rfl,sb _ _ hxa,TC.cl,TC.nD,(by lia),?_⟩;generalize hfs5:putF ("laid":Str) (.ref pd) fs4=fs5;generalize hHc:upd Hb x (.ins C dx fs5)=Hc;have l5:fs5.length<=5:=by rw [<- hfs5];have:=Jg ("laid":Str) (.ref pd) fs4;lia
  have kac:KeepX x Ha Hc:=by rw [<- hHc];exact (KeepX.of sb).trans KeepX.upd
  have hxc:Hc x=some (.ins C dx fs5):=by rw [<- hHc];exact J2
  have pdx:pd≠x:=ne_of hpd (sb _ _ hxa) (by intro z;cases z);have hpdc:Hc pd=some (.tup (iV (firsts ls os))):=by rw [<- hHc,Jb pdx];exact hpd
  have lkL5:fs5.lookup ("lengths":Str)=some (.ref pl):=by rw [<- hfs5,lk_ne (by decide +kernel),lkL4]
  refine ⟨_,rfl,x,C,dx,fs5,_,rfl,hxc,TC.cl,TC.nL,lkL5,pl,ls,rfl,.inr (SqT.of (kac _ _ hpla plx)),_,rfl,x,C,dx,fs5,rfl,hxc,TC.cl,TC.nZ,(by lia),?_⟩;have kz:KeepX x Hc (upd Hc x (.ins C dx (putF ("size":Str) (.int ls.sum) fs5))):=KeepX.upd;refine k _ ⟨dx,_,pl,po,pt,ps,pd,J2,⟨?_,?_,?_,?_,?_,Jt⟩,kz _ _ (kac _ _ hpla plx) plx,kz _ _ (kac _ _ hpoa pox) pox,kz _ _ (kac _ _ (k7a _ _ (k57 _ _ (k35 _ _ hpt3 ptx) ptx) ptx) ptx) ptx,kz _ _ (kac _ _ hpsa psx) psx,kz _ _ hpdc pdx⟩ (k7.trans (k7a.trans (kac.trans kz)))
  ·rw [lk_ne (by decide +kernel),lkL5]
  ·rw [lk_ne (by decide +kernel),<- hfs5,lk_ne (by decide +kernel),lkO4]
  ·rw [lk_ne (by decide +kernel),<- hfs5,lk_ne (by decide +kernel),lkT4]
  ·rw [lk_ne (by decide +kernel),<- hfs5,lk_ne (by decide +kernel),lkS4]
  ·rw [lk_ne (by decide +kernel),<- hfs5,Jt]
end
theorem Good.ord {ls:List Int} {os:List Nat} (g:Good ls os):Ord ls os:=⟨g.pos,g.perm⟩
theorem Good.pos_sum {ls:List Int} {os:List Nat} (g:Good ls os):0 < ls.sum:=by
 have h:=g.ord.range.mono (i:=0) (k:=ls.length) (Nat.zero_le _) (Nat.le_refl _);have h1:Jo ls (List.range ls.length) 0 < Jo ls (List.range ls.length) 1:=g.ord.range.step (i:=0) g.lo;have h2:=g.ord.range.mono (i:=1) (k:=ls.length) g.lo (Nat.le_refl _);rw [g.ord.range.whole] at h2;rw [J11] at h1;lia
end R52
namespace R52
open PySem L2 Rl
section
variable {P:Program} {w:World} {K:PySem.W.Frag} {mg:Str->Option Value} {base:Heap}
def J52 (K:PySem.W.Frag):Sp:=fun vs H Q _=>∃ (C x q dx pl:Addr) (fs:List (Str × V)) (ls:List Int) (row:List Nat),vs=[.ref x,.ref q]/\H x=some (.ins C dx fs)/\Cls K C/\NoAttr K C "lengths"/\fs.lookup ("lengths":Str)=some (.ref pl)/\
 H pl=some (.tup (iV ls))/\H q=some (.tup (nV row))/\(∀ j∈row,j < ls.length)/\row.length<=24/\∀ H',Same H H'->Q (.int (lenOf ls row)) H'
theorem scLenOf:FnScope ["rest","letters"] ["rest","letters"] (J6 sLenOf):=fS
theorem ok_lenOf {f:Addr} {fd:FuncData} (F:Fun K "length_of" "length_of" sLenOf f fd) (T:TxtR mg):FnOk P w K mg base CX0 1 f fd ["rest","letters"] (J52 K):=by
 refine F.ok scLenOf (fun vs H Q E h=>?_) (fun cdv A outer s H vs Q E hr h=>?_)
 ·obtain ⟨C,x,q,dx,pl,fs,ls,row,rfl,_⟩:=h;rfl
 ·obtain ⟨C,x,q,dx,pl,fs,ls,row,rfl,hx,hC,hN,lk,hpl,hq,hlt,hn,k⟩:=h;refine ⟨_,J4 (Jh (Je (Jx rfl) (by rfl) T.sum boot_sum (J0 (pe_lc (caps:=["rest"]) (js:=[0]) rfl (pi_tup (pv 1)) rfl (fun _ _ _ _=>J3g)
   (fun C fp s H=>J59 (J40 K) (J5b K (pv 1)) (pv 0))
   (by decide +kernel) (by decide +kernel) (by decide +kernel) (by intro p hp;simp only [mem_cons,not_mem_nil,or_false] at hp;rcases hp with rfl;rfl)) J3))),?_⟩
  refine ⟨_,rfl,q,rfl,⟨_,SqT.of hq⟩,fun d hd=>lc_tup (fun (j:Nat)=>V.int (j:Int)) row (fun _=>true) (fun j=>V.int (ls.getD j 0)) (by rw [<- nV_eq];exact SqT.of hq) (by lia) hd
   (fun _ _ H _ _ k=>k H (Same.refl _)) (fun j hj H2 Qe _ s2 k=>?_) (fun H' s' hd'=>?_)⟩
  ·exact ⟨_,rfl,x,C,dx,fs,_,rfl,s2 _ _ hx,hC,hN,lk,_,rfl,pl,_,_,_,rfl,rfl,SqT.of (s2 _ _ hpl),Jj (J1a (hlt j hj)),k _ (Same.refl _)⟩
  ·rw [J2t] at hd';refine ⟨d,row.map fun j=>ls.getD j 0,rfl,.inl (SqL.of ?_),k H' s'⟩;rw [hd',map_map];rfl
structure RestAt (CR:Addr) (H:Hp) (x:Addr) (r:Rst):Prop where
 ex:∃ (dx:Addr) (fs:List (Str × V)) (pt pb pl pu:Addr),H x=some (.ins CR dx fs)/\(fs.lookup ("top":Str)=some (.ref pt)/\fs.lookup ("bottom":Str)=some (.ref pb)/\fs.lookup ("lengths":Str)=some (.ref pl)/\
  fs.lookup ("turned":Str)=some (.ref pu)/\fs.lookup ("size":Str)=some (.int r.size))/\H pt=some (.tup (nV r.top))/\H pb=some (.tup (nV r.bot))/\H pl=some (.tup (iV r.ls))/\H pu=some (.tup (bV r.ts))
theorem RestAt.same {CR:Addr} {H H':Hp} {x:Addr} {r:Rst} (h:RestAt CR H x r) (s:Same H H'):RestAt CR H' x r:=by
 obtain ⟨dx,fs,pt,pb,pl,pu,h0,hl,h1,h2,h3,h4⟩:=h.ex;exact ⟨dx,fs,pt,pb,pl,pu,s _ _ h0,hl,s _ _ h1,s _ _ h2,s _ _ h3,s _ _ h4⟩
structure TxtRest (K:PySem.W.Frag) (CR:Addr):Prop where
 cl:Cls K CR
 nT:NoAttr K CR "top"
 nB:NoAttr K CR "bottom"
 nL:NoAttr K CR "lengths"
 nU:NoAttr K CR "turned"
 nZ:NoAttr K CR "size"
def J2n (CR:Addr):Sp:=fun vs H Q _=>∃ (x dx p1 p2 p3 p4:Addr) (r:Rst),vs=[.ref x,.ref p1,.ref p2,.ref p3,.ref p4]/\H x=some (.ins CR dx [])/\SqH H p1 (nV r.top)/\SqH H p2 (nV r.bot)/\SqH H p3 (iV r.ls)/\SqH H p4 (bV r.ts)/\
 (∀ j∈r.top,j < r.ls.length)/\r.top.length<=24/\∀ H',RestAt CR H' x r->KeepX x H H'->Q .non H'
theorem scRInit:FnScope ["self","top","bottom","lengths","turned"] ["self","top","bottom","lengths","turned"] (J6 sRInit):=fS
theorem ok_rinit {f fL CR:Addr} {fd fdL:FuncData} (F:Fun K "__init__" "Rest.__init__" sRInit f fd) (T:TxtR mg) (TR:TxtRest K CR)
  (GL:FnOk P w K mg base CX0 1 fL fdL ["rest","letters"] (J52 K)) (bL:Binds K fdL ["rest","letters"] []) (mL:mg "length_of"=some (.ref fL)) (kL:keepIn K (.ref fL)=true) :
  FnOk P w K mg base CX0 2 f fd ["self","top","bottom","lengths","turned"] (J2n CR):=by
 refine F.ok scRInit (fun vs H Q E h=>?_) (fun cdv A outer s H vs Q E hr h=>?_)
 ·obtain ⟨x,dx,p1,p2,p3,p4,r,rfl,_⟩:=h;rfl
 ·obtain ⟨x,dx,p1,p2,p3,p4,r,rfl,hx,q1,q2,q3,q4,hlt,hn,k⟩:=h;have n1:=q1.ne hx;have n2:=q2.ne hx;have n3:=q3.ne hx;have n4:=q4.ne hx;refine ⟨_,J1 (J1d (pv 0) (Jk J12 (by rfl) T.tuple boot_tuple (J0 (pv 1) J3)) rfl)
   (J1 (J1d (pv 0) (Jk J12 (by rfl) T.tuple boot_tuple (J0 (pv 2) J3)) rfl)
   (J1 (J1d (pv 0) (Jk J12 (by rfl) T.tuple boot_tuple (J0 (pv 3) J3)) rfl)
   (J1 (J1d (pv 0) (Jk J12 (by rfl) T.tuple boot_tuple (J0 (pv 4) J3)) rfl)
   (J4 (J1d (pv 0) (Jc GL hr rfl mL kL bL .nil pass0 (J0 (pv 0) (J0 (Ja (pv 0) rfl) J3))) rfl))))),?_⟩
  refine ⟨_,rfl,J13 q1 fun pt H1 s1 hpt=>⟨_,rfl,x,CR,dx,[],rfl,s1 _ _ hx,TR.cl,TR.nT,(by show 0 < 1000;decide),?_⟩⟩;generalize hfs1:putF ("top":Str) (.ref pt) []=fs1;generalize hH2:upd H1 x (.ins CR dx fs1)=H2;have l1:fs1.length<=1:=by rw [<- hfs1];exact Jg ..
  have k2:KeepX x H H2:=by rw [<- hH2];exact (KeepX.of s1).trans KeepX.upd
  have hx2:H2 x=some (.ins CR dx fs1):=by rw [<- hH2];exact J2
  have ptx:pt≠x:=ne_of hpt (s1 _ _ hx) (by intro z;cases z);have hpt2:H2 pt=some (.tup (nV r.top)):=by rw [<- hH2,Jb ptx];exact hpt
  refine ⟨_,rfl,J13 (k2.sqH q2 n2) fun pb H3 s3 hpb=>⟨_,rfl,x,CR,dx,fs1,rfl,s3 _ _ hx2,TR.cl,TR.nB,(by lia),?_⟩⟩;generalize hfs2:putF ("bottom":Str) (.ref pb) fs1=fs2;generalize hH4:upd H3 x (.ins CR dx fs2)=H4;have l2:fs2.length<=2:=by rw [<- hfs2];have:=Jg ("bottom":Str) (.ref pb) fs1;lia
  have k24:KeepX x H2 H4:=by rw [<- hH4];exact (KeepX.of s3).trans KeepX.upd
  have k4:KeepX x H H4:=k2.trans k24;have hx4:H4 x=some (.ins CR dx fs2):=by rw [<- hH4];exact J2
  have pbx:pb≠x:=ne_of hpb (s3 _ _ hx2) (by intro z;cases z);have hpb4:H4 pb=some (.tup (nV r.bot)):=by rw [<- hH4,Jb pbx];exact hpb
  refine ⟨_,rfl,J13 (k4.sqH q3 n3) fun pl H5 s5 hpl=>⟨_,rfl,x,CR,dx,fs2,rfl,s5 _ _ hx4,TR.cl,TR.nL,(by lia),?_⟩⟩;generalize hfs3:putF ("lengths":Str) (.ref pl) fs2=fs3;generalize hH6:upd H5 x (.ins CR dx fs3)=H6;have l3:fs3.length<=3:=by rw [<- hfs3];have:=Jg ("lengths":Str) (.ref pl) fs2;lia
  have k46:KeepX x H4 H6:=by rw [<- hH6];exact (KeepX.of s5).trans KeepX.upd
  have k6:KeepX x H H6:=k4.trans k46;have hx6:H6 x=some (.ins CR dx fs3):=by rw [<- hH6];exact J2
  have plx:pl≠x:=ne_of hpl (s5 _ _ hx4) (by intro z;cases z);have hpl6:H6 pl=some (.tup (iV r.ls)):=by rw [<- hH6,Jb plx];exact hpl
  refine ⟨_,rfl,J13 (k6.sqH q4 n4) fun pu H7 s7 hpu=>⟨_,rfl,x,CR,dx,fs3,rfl,s7 _ _ hx6,TR.cl,TR.nU,(by lia),?_⟩⟩;generalize hfs4:putF ("turned":Str) (.ref pu) fs3=fs4;generalize hH8:upd H7 x (.ins CR dx fs4)=H8;have l4:fs4.length<=4:=by rw [<- hfs4];have:=Jg ("turned":Str) (.ref pu) fs3;lia
  have k68:KeepX x H6 H8:=by rw [<- hH8];exact (KeepX.of s7).trans KeepX.upd
  have k8:KeepX x H H8:=k6.trans k68;have hx8:H8 x=some (.ins CR dx fs4):=by rw [<- hH8];exact J2
  have pux:pu≠x:=ne_of hpu (s7 _ _ hx6) (by intro z;cases z);have hpu8:H8 pu=some (.tup (bV r.ts)):=by rw [<- hH8,Jb pux];exact hpu
  have hpl8:H8 pl=some (.tup (iV r.ls)):=k68 _ _ hpl6 plx;have hpb8:H8 pb=some (.tup (nV r.bot)):=k68 _ _ (k46 _ _ hpb4 pbx) pbx;have hpt8:H8 pt=some (.tup (nV r.top)):=k68 _ _ (k46 _ _ (k24 _ _ hpt2 ptx) ptx) ptx;have lkT:fs4.lookup ("top":Str)=some (.ref pt):=by rw [<- hfs4,lk_ne (by decide +kernel),<- hfs3,lk_ne (by decide +kernel),<- hfs2,lk_ne (by decide +kernel),<- hfs1,Jt]
  have lkB:fs4.lookup ("bottom":Str)=some (.ref pb):=by rw [<- hfs4,lk_ne (by decide +kernel),<- hfs3,lk_ne (by decide +kernel),<- hfs2,Jt]
  have lkL:fs4.lookup ("lengths":Str)=some (.ref pl):=by rw [<- hfs4,lk_ne (by decide +kernel),<- hfs3,Jt]
  have lkU:fs4.lookup ("turned":Str)=some (.ref pu):=by rw [<- hfs4,Jt]
  refine ⟨_,rfl,_,rfl,x,CR,dx,fs4,_,rfl,hx8,TR.cl,TR.nT,lkT,CR,x,pt,dx,pl,fs4,r.ls,r.top,rfl,hx8,TR.cl,TR.nL,lkL,hpl8,hpt8,hlt,hn,fun H9 s9=>?_⟩;refine ⟨_,rfl,x,CR,dx,fs4,rfl,s9 _ _ hx8,TR.cl,TR.nZ,(by lia),?_⟩;have kz:KeepX x H8 (upd H9 x (.ins CR dx (putF ("size":Str) (.int (lenOf r.ls r.top)) fs4))):=(KeepX.of s9).trans KeepX.upd;refine k _ ⟨dx,_,pt,pb,pl,pu,J2,⟨?_,?_,?_,?_,Jt⟩,kz _ _ hpt8 ptx,kz _ _ hpb8 pbx,kz _ _ hpl8 plx,kz _ _ hpu8 pux⟩ (k8.trans kz)
  ·rw [lk_ne (by decide +kernel),lkT]
  ·rw [lk_ne (by decide +kernel),lkB]
  ·rw [lk_ne (by decide +kernel),lkL]
  ·rw [lk_ne (by decide +kernel),lkU]
abbrev J3r (ls:List Int) (os:List Nat) (ts:List Bool):Rst:=⟨List.range ls.length,os,ls,ts⟩
def spRestOf (C CR:Addr):Sp:=fun vs H Q _=>∃ (x:Addr) (ls:List Int) (os:List Nat) (ts:List Bool),vs=[.ref x]/\LineAt C H x ls os ts/\ls.length<=24/\∀ p H',Same H H'->RestAt CR H' p (J3r ls os ts)->Q (.ref p) H'
theorem scRestOf:FnScope ["line"] ["line"] (J6 sRestOf):=fS
theorem ok_restof {f fI C CR:Addr} {fd fdI:FuncData} (F:Fun K "rest_of" "rest_of" sRestOf f fd) (T:TxtR mg) (TC:TxtC K mg C)
  (M:Mk K CR fI) (GI:FnOk P w K mg base CX0 2 fI fdI ["self","top","bottom","lengths","turned"] (J2n CR)) (bI:Binds K fdI ["self","top","bottom","lengths","turned"] []) (mgR:mg "Rest"=some (.ref CR)) :
  FnOk P w K mg base CX0 4 f fd ["line"] (spRestOf C CR):=by
 refine F.ok scRestOf (fun vs H Q E h=>?_) (fun cdv A outer s H vs Q E hr h=>?_)
 ·obtain ⟨x,ls,os,ts,rfl,_⟩:=h;rfl
 ·obtain ⟨x,ls,os,ts,rfl,L,hn,k⟩:=h;obtain ⟨dx,fl,pl,po,pt,ps,pd,h0,⟨k1,k2,k3,k4,k5,k6⟩,e1,e2,e3,e4,e5⟩:=L.ex;refine ⟨_,J4 (Jh (J16 M GI hr rfl mgR bI .nil pass0 (J0 (Jk (J1r rfl) (by rfl) T.list boot_list (J0 (Jk J3o (by rfl) T.range PyProof.Rows.boot_range (J0 (Je Jf (by rfl) T.len boot_len (J0 (Ja (pv 0) rfl) J3)) J3)) J3))
   (J0 (Ja (pv 0) rfl) (J0 (Ja (pv 0) rfl) (J0 (Ja (pv 0) rfl) J3)))))),?_⟩
  refine ⟨_,rfl,x,C,dx,fl,_,rfl,h0,TC.cl,TC.nL,k1,pl,_,rfl,.inr (SqT.of e1),_,rfl,fun r hr'=>⟨r,_,rfl,J2,(by rw [J1v];lia),fun l hl=>?_⟩⟩;have s8:Same H (upd (upd H r (.rng 0 ((iV ls).length:Nat))) l (.lst (((List.range (iV ls).length).map fun (i:Nat)=>(i:Int)).map V.int))):=(J7 hr').trans (J7 hl);have hl8:(upd (upd H r (.rng 0 ((iV ls).length:Nat))) l (.lst (((List.range (iV ls).length).map fun (i:Nat)=>(i:Int)).map V.int))) l=some (.lst (nV (List.range ls.length))):=by rw [J2,J1v];rfl
  generalize (upd (upd H r (.rng 0 ((iV ls).length:Nat))) l (.lst (((List.range (iV ls).length).map fun (i:Nat)=>(i:Int)).map V.int)))=H8 at *;refine ⟨_,rfl,x,C,dx,fl,_,rfl,s8 _ _ h0,TC.cl,TC.nO,k2,_,rfl,x,C,dx,fl,_,rfl,s8 _ _ h0,TC.cl,TC.nL,k1,_,rfl,x,C,dx,fl,_,rfl,s8 _ _ h0,TC.cl,TC.nT,k3,fun y dy hy hdy hne=>?_⟩;have s9:Same H8 (upd (upd H8 dy (.own y)) y (.ins CR dy [])):=(J7 hdy).trans (J7 (by rw [Jb (Ne.symm hne)];exact hy));refine ⟨y,dy,l,po,pl,pt,J3r ls os ts,rfl,J2,.inl (s9 _ _ hl8),.inr (s9 _ _ (s8 _ _ e2)),.inr (s9 _ _ (s8 _ _ e1)),.inr (s9 _ _ (s8 _ _ e3)),fun j hj=>mem_range.mp hj,by rw [length_range];exact hn,fun H' R kp=>⟨rfl,k y H' (fun b u e=>?_) R⟩⟩;exact kp b u (s9 _ _ (s8 _ _ e)) (J8 (s8 _ _ e) hy)
inductive Kd where
 | ho | ev | ov | un | os | us
 deriving DecidableEq
def kd:Stp->Kd
 | .home _=>.ho | .even _ _=>.ev | .over _ _=>.ov | .under _ _=>.un | .overs _ _=>.os | .unders _ _=>.us
def loseV:Stp->V
 | .even _ b=>.int (b:Nat) | .over _ b=>.int (b:Nat) | .under _ b=>.int (b:Nat) | _=>.non
def stF (s:Stp):List (Str × V):=putF ("times":Str) (.int s.times) (putF ("loser":Str) (loseV s) (putF ("winner":Str) (.int (s.winner:Nat)) []))
theorem stF_w (s:Stp):(stF s).lookup ("winner":Str)=some (.int (s.winner:Nat)):=by unfold stF;rw [lk_ne (by decide +kernel),lk_ne (by decide +kernel),Jt]
theorem stF_l (s:Stp):(stF s).lookup ("loser":Str)=some (loseV s):=by unfold stF;rw [lk_ne (by decide +kernel),Jt]
theorem stF_t (s:Stp):(stF s).lookup ("times":Str)=some (.int s.times):=by unfold stF;rw [Jt]
theorem stF_no (s:Stp) {m:Str} (h1:¬ m=("times":Str)) (h2:¬ m=("loser":Str)) (h3:¬ m=("winner":Str)):(stF s).lookup m=none:=by
 unfold stF;rw [lk_ne h1,lk_ne h2,lk_ne h3];rfl
def StepAt (cs:Kd->Addr) (H:Hp) (p:Addr) (s:Stp):Prop:=∃ dx,H p=some (.ins (cs (kd s)) dx (stF s))
structure TxtS (K:PySem.W.Frag) (cs:Kd->Addr):Prop where
 cl:∀ k,Cls K (cs k)
 nW:∀ k,NoAttr K (cs k) "winner"
 nL:∀ k,NoAttr K (cs k) "loser"
 nT:∀ k,NoAttr K (cs k) "times"
def J3e (cs:Kd->Addr):Sp:=fun vs H Q _=>∃ (x dx:Addr) (k:Kd) (a b c:V),vs=[.ref x,a,b,c]/\H x=some (.ins (cs k) dx [])/\Q .non (upd H x (.ins (cs k) dx (putF ("times":Str) c (putF ("loser":Str) b (putF ("winner":Str) a [])))))
theorem scSInit:FnScope ["self","winner","loser","times"] ["self","winner","loser","times"] (J6 sStInit):=fS
theorem ok_sinit {f:Addr} {fd:FuncData} {cs:Kd->Addr} (F:Fun K "__init__" "Step.__init__" sStInit f fd) (TS:TxtS K cs):FnOk P w K mg base CX0 1 f fd ["self","winner","loser","times"] (J3e cs):=by
 refine F.ok scSInit (fun vs H Q E h=>?_) (fun cdv A outer s H vs Q E hr h=>?_)
 ·obtain ⟨x,dx,k,a,b,c,rfl,_⟩:=h;rfl
 ·obtain ⟨x,dx,k,a,b,c,rfl,hx,q⟩:=h;refine ⟨_,J1 (J1d (pv 0) (pv 1) rfl) (J1 (J1d (pv 0) (pv 2) rfl) (J4 (J1d (pv 0) (pv 3) rfl))),?_⟩;have l1:(putF ("winner":Str) a []).length<=1:=Jg ..;have l2:(putF ("loser":Str) b (putF ("winner":Str) a [])).length<=2:=by have:=Jg ("loser":Str) b (putF ("winner":Str) a []);lia
  refine ⟨_,rfl,_,rfl,x,cs k,dx,[],rfl,hx,TS.cl k,TS.nW k,(by show 0 < 1000;decide),?_⟩;refine ⟨_,rfl,_,rfl,x,cs k,dx,_,rfl,J2,TS.cl k,TS.nL k,(by lia),?_⟩;rw [upd_upd];refine ⟨_,rfl,_,rfl,x,cs k,dx,_,rfl,J2,TS.cl k,TS.nT k,(by lia),?_⟩;rw [upd_upd];exact q
def spMk (cs:Kd->Addr) (args:List V->Stp->Prop):Sp:=fun vs H Q _=>∃ (x dx:Addr) (us:List V) (s:Stp),vs=.ref x :: us/\args us s/\H x=some (.ins (cs (kd s)) dx [])/\Q .non (upd H x (.ins (cs (kd s)) dx (stF s)))
def aHo (us:List V) (s:Stp):Prop:=∃ a:Nat,us=[.int (a:Nat)]/\s=.home a
def aEv (us:List V) (s:Stp):Prop:=∃ a b:Nat,us=[.int (a:Nat),.int (b:Nat)]/\s=.even a b
def aOv (us:List V) (s:Stp):Prop:=∃ a b:Nat,us=[.int (a:Nat),.int (b:Nat)]/\s=.over a b
def aUn (us:List V) (s:Stp):Prop:=∃ a b:Nat,us=[.int (a:Nat),.int (b:Nat)]/\s=.under a b
def aOs (us:List V) (s:Stp):Prop:=∃ (a:Nat) (t:Int),us=[.int (a:Nat),.int t]/\s=.overs a t
def aUs (us:List V) (s:Stp):Prop:=∃ (a:Nat) (t:Int),us=[.int (a:Nat),.int t]/\s=.unders a t
theorem scHoInit:FnScope ["self","winner"] ["self","winner"] (J6 sHoInit):=fS
theorem ok_hoinit {f fS CS:Addr} {fd fdS:FuncData} {cs:Kd->Addr} (F:Fun K "__init__" "Home.__init__" sHoInit f fd) (B:BaseM K CS "__init__" fS) (mS:mg "Step"=some (.ref CS)) (GS:FnOk P w K mg base CX0 1 fS fdS ["self","winner","loser","times"] (J3e cs)) (bS:Binds K fdS ["self","winner","loser","times"] []) :
  FnOk P w K mg base CX0 2 f fd ["self","winner"] (spMk cs aHo):=by
 refine F.ok scHoInit (fun vs H Q E h=>?_) (fun cdv A outer s H vs Q E hr h=>?_)
 ·obtain ⟨x,dx,us,s,rfl,⟨a,rfl,rfl⟩,_⟩:=h;rfl
 ·obtain ⟨x,dx,us,s,rfl,⟨a,rfl,rfl⟩,hx,q⟩:=h;refine ⟨_,J4 (Jz (J3x B rfl mS GS hr bS .nil pass0 (J0 (pv 0) (J0 (pv 1) (J0 pe_non (J0 Jd J3)))))),?_⟩;exact ⟨_,rfl,_,rfl,x,dx,.ho,_,_,_,rfl,hx,q⟩
theorem scEvInit:FnScope ["self","winner","loser"] ["self","winner","loser"] (J6 sEvInit):=fS
theorem ok_evinit {f fS CS:Addr} {fd fdS:FuncData} {cs:Kd->Addr} (F:Fun K "__init__" "Even.__init__" sEvInit f fd) (B:BaseM K CS "__init__" fS) (mS:mg "Step"=some (.ref CS)) (GS:FnOk P w K mg base CX0 1 fS fdS ["self","winner","loser","times"] (J3e cs)) (bS:Binds K fdS ["self","winner","loser","times"] []) :
  FnOk P w K mg base CX0 2 f fd ["self","winner","loser"] (spMk cs aEv):=by
 refine F.ok scEvInit (fun vs H Q E h=>?_) (fun cdv A outer s H vs Q E hr h=>?_)
 ·obtain ⟨x,dx,us,s,rfl,⟨a,b,rfl,rfl⟩,_⟩:=h;rfl
 ·obtain ⟨x,dx,us,s,rfl,⟨a,b,rfl,rfl⟩,hx,q⟩:=h;refine ⟨_,J4 (Jz (J3x B rfl mS GS hr bS .nil pass0 (J0 (pv 0) (J0 (pv 1) (J0 (pv 2) (J0 Jd J3)))))),?_⟩;exact ⟨_,rfl,_,rfl,_,rfl,x,dx,.ev,_,_,_,rfl,hx,q⟩
theorem scOvInit:FnScope ["self","winner","loser"] ["self","winner","loser"] (J6 sOvInit):=fS
theorem ok_ovinit {f fS CS:Addr} {fd fdS:FuncData} {cs:Kd->Addr} (F:Fun K "__init__" "Over.__init__" sOvInit f fd) (B:BaseM K CS "__init__" fS) (mS:mg "Step"=some (.ref CS)) (GS:FnOk P w K mg base CX0 1 fS fdS ["self","winner","loser","times"] (J3e cs)) (bS:Binds K fdS ["self","winner","loser","times"] []) :
  FnOk P w K mg base CX0 2 f fd ["self","winner","loser"] (spMk cs aOv):=by
 refine F.ok scOvInit (fun vs H Q E h=>?_) (fun cdv A outer s H vs Q E hr h=>?_)
 ·obtain ⟨x,dx,us,s,rfl,⟨a,b,rfl,rfl⟩,_⟩:=h;rfl
 ·obtain ⟨x,dx,us,s,rfl,⟨a,b,rfl,rfl⟩,hx,q⟩:=h;refine ⟨_,J4 (Jz (J3x B rfl mS GS hr bS .nil pass0 (J0 (pv 0) (J0 (pv 1) (J0 (pv 2) (J0 Jd J3)))))),?_⟩;exact ⟨_,rfl,_,rfl,_,rfl,x,dx,.ov,_,_,_,rfl,hx,q⟩
theorem scUnInit:FnScope ["self","winner","loser"] ["self","winner","loser"] (J6 sUnInit):=fS
theorem ok_uninit {f fS CS:Addr} {fd fdS:FuncData} {cs:Kd->Addr} (F:Fun K "__init__" "Under.__init__" sUnInit f fd) (B:BaseM K CS "__init__" fS) (mS:mg "Step"=some (.ref CS)) (GS:FnOk P w K mg base CX0 1 fS fdS ["self","winner","loser","times"] (J3e cs)) (bS:Binds K fdS ["self","winner","loser","times"] []) :
  FnOk P w K mg base CX0 2 f fd ["self","winner","loser"] (spMk cs aUn):=by
 refine F.ok scUnInit (fun vs H Q E h=>?_) (fun cdv A outer s H vs Q E hr h=>?_)
 ·obtain ⟨x,dx,us,s,rfl,⟨a,b,rfl,rfl⟩,_⟩:=h;rfl
 ·obtain ⟨x,dx,us,s,rfl,⟨a,b,rfl,rfl⟩,hx,q⟩:=h;refine ⟨_,J4 (Jz (J3x B rfl mS GS hr bS .nil pass0 (J0 (pv 0) (J0 (pv 1) (J0 (pv 2) (J0 Jd J3)))))),?_⟩;exact ⟨_,rfl,_,rfl,_,rfl,x,dx,.un,_,_,_,rfl,hx,q⟩
theorem scOsInit:FnScope ["self","winner","times"] ["self","winner","times"] (J6 sOsInit):=fS
theorem ok_osinit {f fS CS:Addr} {fd fdS:FuncData} {cs:Kd->Addr} (F:Fun K "__init__" "Overs.__init__" sOsInit f fd) (B:BaseM K CS "__init__" fS) (mS:mg "Step"=some (.ref CS)) (GS:FnOk P w K mg base CX0 1 fS fdS ["self","winner","loser","times"] (J3e cs)) (bS:Binds K fdS ["self","winner","loser","times"] []) :
  FnOk P w K mg base CX0 2 f fd ["self","winner","times"] (spMk cs aOs):=by
 refine F.ok scOsInit (fun vs H Q E h=>?_) (fun cdv A outer s H vs Q E hr h=>?_)
 ·obtain ⟨x,dx,us,s,rfl,⟨a,b,rfl,rfl⟩,_⟩:=h;rfl
 ·obtain ⟨x,dx,us,s,rfl,⟨a,b,rfl,rfl⟩,hx,q⟩:=h;refine ⟨_,J4 (Jz (J3x B rfl mS GS hr bS .nil pass0 (J0 (pv 0) (J0 (pv 1) (J0 pe_non (J0 (pv 2) J3)))))),?_⟩;exact ⟨_,rfl,_,rfl,_,rfl,x,dx,.os,_,_,_,rfl,hx,q⟩
theorem scUsInit:FnScope ["self","winner","times"] ["self","winner","times"] (J6 sUsInit):=fS
theorem ok_usinit {f fS CS:Addr} {fd fdS:FuncData} {cs:Kd->Addr} (F:Fun K "__init__" "Unders.__init__" sUsInit f fd) (B:BaseM K CS "__init__" fS) (mS:mg "Step"=some (.ref CS)) (GS:FnOk P w K mg base CX0 1 fS fdS ["self","winner","loser","times"] (J3e cs)) (bS:Binds K fdS ["self","winner","loser","times"] []) :
  FnOk P w K mg base CX0 2 f fd ["self","winner","times"] (spMk cs aUs):=by
 refine F.ok scUsInit (fun vs H Q E h=>?_) (fun cdv A outer s H vs Q E hr h=>?_)
 ·obtain ⟨x,dx,us,s,rfl,⟨a,b,rfl,rfl⟩,_⟩:=h;rfl
 ·obtain ⟨x,dx,us,s,rfl,⟨a,b,rfl,rfl⟩,hx,q⟩:=h;refine ⟨_,J4 (Jz (J3x B rfl mS GS hr bS .nil pass0 (J0 (pv 0) (J0 (pv 1) (J0 pe_non (J0 (pv 2) J3)))))),?_⟩;exact ⟨_,rfl,_,rfl,_,rfl,x,dx,.us,_,_,_,rfl,hx,q⟩
def wordS:Kd->Str
 | .ho=>"home" | .ev=>"even" | .ov=>"over" | .un=>"under" | .os=>"overs" | .us=>"unders"
def J46 (k:Kd):Sp:=fun vs H Q _=>∃ x:Addr,vs=[.ref x]/\Q (.str (wordS k)) H
theorem scHoWord:FnScope ["self"] ["self"] (J6 sHoWord):=fS
theorem ok_howord {f:Addr} {fd:FuncData} (F:Fun K "word" "Home.word" sHoWord f fd):FnOk P w K mg base CX0 1 f fd ["self"] (J46 .ho):=by
 refine F.ok scHoWord (fun vs H Q E h=>?_) (fun cdv A outer s H vs Q E hr h=>?_)
 ·obtain ⟨x,rfl,_⟩:=h;rfl
 ·obtain ⟨x,rfl,q⟩:=h;exact ⟨_,J4 (Jh J58),q⟩
theorem scEvWord:FnScope ["self"] ["self"] (J6 sEvWord):=fS
theorem ok_evword {f:Addr} {fd:FuncData} (F:Fun K "word" "Even.word" sEvWord f fd):FnOk P w K mg base CX0 1 f fd ["self"] (J46 .ev):=by
 refine F.ok scEvWord (fun vs H Q E h=>?_) (fun cdv A outer s H vs Q E hr h=>?_)
 ·obtain ⟨x,rfl,_⟩:=h;rfl
 ·obtain ⟨x,rfl,q⟩:=h;exact ⟨_,J4 (Jh J58),q⟩
theorem scOvWord:FnScope ["self"] ["self"] (J6 sOvWord):=fS
theorem ok_ovword {f:Addr} {fd:FuncData} (F:Fun K "word" "Over.word" sOvWord f fd):FnOk P w K mg base CX0 1 f fd ["self"] (J46 .ov):=by
 refine F.ok scOvWord (fun vs H Q E h=>?_) (fun cdv A outer s H vs Q E hr h=>?_)
 ·obtain ⟨x,rfl,_⟩:=h;rfl
 ·obtain ⟨x,rfl,q⟩:=h;exact ⟨_,J4 (Jh J58),q⟩
theorem scUnWord:FnScope ["self"] ["self"] (J6 sUnWord):=fS
theorem ok_unword {f:Addr} {fd:FuncData} (F:Fun K "word" "Under.word" sUnWord f fd):FnOk P w K mg base CX0 1 f fd ["self"] (J46 .un):=by
 refine F.ok scUnWord (fun vs H Q E h=>?_) (fun cdv A outer s H vs Q E hr h=>?_)
 ·obtain ⟨x,rfl,_⟩:=h;rfl
 ·obtain ⟨x,rfl,q⟩:=h;exact ⟨_,J4 (Jh J58),q⟩
theorem scOsWord:FnScope ["self"] ["self"] (J6 sOsWord):=fS
theorem ok_osword {f:Addr} {fd:FuncData} (F:Fun K "word" "Overs.word" sOsWord f fd):FnOk P w K mg base CX0 1 f fd ["self"] (J46 .os):=by
 refine F.ok scOsWord (fun vs H Q E h=>?_) (fun cdv A outer s H vs Q E hr h=>?_)
 ·obtain ⟨x,rfl,_⟩:=h;rfl
 ·obtain ⟨x,rfl,q⟩:=h;exact ⟨_,J4 (Jh J58),q⟩
theorem scUsWord:FnScope ["self"] ["self"] (J6 sUsWord):=fS
theorem ok_usword {f:Addr} {fd:FuncData} (F:Fun K "word" "Unders.word" sUsWord f fd):FnOk P w K mg base CX0 1 f fd ["self"] (J46 .us):=by
 refine F.ok scUsWord (fun vs H Q E h=>?_) (fun cdv A outer s H vs Q E hr h=>?_)
 ·obtain ⟨x,rfl,_⟩:=h;rfl
 ·obtain ⟨x,rfl,q⟩:=h;exact ⟨_,J4 (Jh J58),q⟩
theorem idx_nat (row:List Nat) (a:Nat):(natI row).idxOf (a:Int)=row.idxOf a:=by
 unfold natI
 induction row with
 | nil=>rfl
 | cons x r ih =>
  rw [map_cons,List.idxOf_cons,List.idxOf_cons,ih];have e:((x:Int) == (a:Int))=(x == a):=by
   rw [Bool.eq_iff_iff,beq_iff_eq,beq_iff_eq];exact Int.ofNat_inj
  rw [e]
theorem mem_nat {row:List Nat} {a:Nat} (h:a∈row):(a:Int)∈natI row:=mem_map.mpr ⟨a,h,rfl⟩
theorem cut_nat (row:List Nat) (n:Nat) (h:n<=row.length):cutV (nV row) (some (n:Int)) none=nV (row.drop n):=by
 unfold cutV;rw [J6b,HT.sIx_nat,HT.sIx_none,Nat.min_eq_left h,nV_eq,nV_eq,List.map_drop,List.take_of_length_le (by simp)]
def J38:Sp:=fun vs H Q _=>∃ (q:Addr) (row:List Nat) (a:Nat),vs=[.ref q,.int (a:Nat)]/\H q=some (.tup (nV row))/\a∈row/\∀ p H',Same H H'->H' p=some (.tup (nV (J9 row a)))->Q (.ref p) H'
theorem scBehindL:FnScope ["row","letter"] ["row","letter"] (J6 J60):=fS
theorem ok_behindL {f:Addr} {fd:FuncData} (F:Fun K "letters_behind" "letters_behind" J60 f fd):FnOk P w K mg base CX0 1 f fd ["row","letter"] J38:=by
 refine F.ok scBehindL (fun vs H Q E h=>?_) (fun cdv A outer s H vs Q E hr h=>?_)
 ·obtain ⟨q,row,a,rfl,_⟩:=h;rfl
 ·obtain ⟨q,row,a,rfl,hq,ha,k⟩:=h;refine ⟨_,J4 (Jh (J3h sl_tup (pv 0) (J56 (pe_op J19 (pe_bmT PySem.F.slot_tuple_index PySem.F.type_tuple_index mt_indexT (pv 0) (J0 (pv 1) J3)) Jd)) J57)),?_⟩;have h1:row.idxOf a < row.length:=idxOf_lt_length_iff.mpr ha;have e:(((natI row).idxOf (a:Int):Nat):Int) + 1=((row.idxOf a + 1:Nat):Int):=by rw [idx_nat];lia
  refine ⟨_,rfl,_,rfl,⟨q,_,rfl,hq⟩,_,rfl,q,natI row,(a:Int),rfl,rfl,hq,mem_nat ha,_,_,rfl,rfl,_,rfl,q,nV row,rfl,SqT.of hq,?_,fun p hp=>k p _ (J7 hp) ?_⟩
  ·rintro ⟨z,_⟩;have z:HT.sIx (nV row).length 0 (some ((((natI row).idxOf (a:Int):Nat):Int) + 1))=0:=z;rw [e,HT.sIx_nat,J6b] at z;lia
  ·rw [J2];show some (HO.tup (cutV (nV row) (some ((((natI row).idxOf (a:Int):Nat):Int) + 1)) none))=_;rw [e,cut_nat row _ h1];rfl
def J1k (cs:Kd->Addr) (CR:Addr) (k:Kd):Sp:=fun vs H Q _=>∃ (x y:Addr) (s:Stp) (r:Rst),vs=[.ref x,.ref y]/\kd s=k/\StepAt cs H x s/\RestAt CR H y r/\s.winner∈r.top/\s.winner∈r.bot/\∀ p H',Same H H'->H' p=some (.tup (nV (s.losers r)))->Q (.ref p) H'
theorem scStLosers:FnScope ["self","rest"] ["self","rest"] (J6 J4c):=fS
theorem J2y {f CR:Addr} {fd:FuncData} {cs:Kd->Addr} (F:Fun K "losers" "Step.losers" J4c f fd) (TS:TxtS K cs) {k:Kd} (hk:k=.ev\/k=.ov\/k=.un):FnOk P w K mg base CX0 2 f fd ["self","rest"] (J1k cs CR k):=by
 refine F.ok scStLosers (fun vs H Q E h=>?_) (fun cdv A outer s H vs Q E hr h=>?_)
 ·obtain ⟨x,y,s,r,rfl,_⟩:=h;rfl
 ·obtain ⟨x,y,s,r,rfl,hs,⟨dx,hx⟩,R,_,_,q⟩:=h;obtain ⟨b,hb,hl⟩:∃ b:Nat,loseV s=.int (b:Nat)/\s.losers r=[b]:=by
   cases s with
   | even a b=>exact ⟨b,rfl,rfl⟩
   | over a b=>exact ⟨b,rfl,rfl⟩
   | under a b=>exact ⟨b,rfl,rfl⟩
   | home a=>subst hs;rcases hk with q | q | q <;> cases q
   | overs a t=>subst hs;rcases hk with q | q | q <;> cases q
   | unders a t=>subst hs;rcases hk with q | q | q <;> cases q
  refine ⟨_,J4 (Jh (J65 (J0 (Ja (pv 0) rfl) J3))),?_⟩;refine ⟨_,rfl,x,cs (kd s),dx,stF s,_,rfl,hx,TS.cl _,TS.nL _,stF_l s,(by show 1<=sizeLine;decide),fun p hp=>q p _ (J7 hp) ?_⟩;rw [J2,hb,hl];rfl
theorem scHoLosers:FnScope ["self","rest"] ["self","rest"] (J6 J4g):=fS
theorem ok_holosers {f CR:Addr} {fd:FuncData} {cs:Kd->Addr} (F:Fun K "losers" "Home.losers" J4g f fd):FnOk P w K mg base CX0 2 f fd ["self","rest"] (J1k cs CR .ho):=by
 refine F.ok scHoLosers (fun vs H Q E h=>?_) (fun cdv A outer s H vs Q E hr h=>?_)
 ·obtain ⟨x,y,s,r,rfl,_⟩:=h;rfl
 ·obtain ⟨x,y,s,r,rfl,hs,_,R,_,_,q⟩:=h
  cases s with
  | home a=>exact ⟨_,J4 (Jh (J65 J3)),Nat.zero_le _,fun p hp=>q p _ (J7 hp) J2⟩
  | even a b=>cases hs
  | over a b=>cases hs
  | under a b=>cases hs
  | overs a t=>cases hs
  | unders a t=>cases hs
theorem scOsLosers:FnScope ["self","rest"] ["self","rest"] (J6 J4e):=fS
theorem ok_oslosers {f fB CR:Addr} {fd fdB:FuncData} {cs:Kd->Addr} (F:Fun K "losers" "Overs.losers" J4e f fd) (TS:TxtS K cs) (TR:TxtRest K CR)
  (GB:FnOk P w K mg base CX0 1 fB fdB ["row","letter"] J38) (bB:Binds K fdB ["row","letter"] []) (mB:mg "letters_behind"=some (.ref fB)) (kB:keepIn K (.ref fB)=true):FnOk P w K mg base CX0 2 f fd ["self","rest"] (J1k cs CR .os):=by
 refine F.ok scOsLosers (fun vs H Q E h=>?_) (fun cdv A outer s H vs Q E hr h=>?_)
 ·obtain ⟨x,y,s,r,rfl,_⟩:=h;rfl
 ·obtain ⟨x,y,s,r,rfl,hs,⟨dx,hx⟩,R,hT,hB,q⟩:=h;obtain ⟨dr,fr,pt,pb,pl,pu,h0,⟨k1,k2,k3,k4,k5⟩,e1,e2,e3,e4⟩:=R.ex;have hl:s.losers r=J9 r.bot s.winner:=by
   cases s with
   | overs a t=>rfl
   | _=>cases hs
  refine ⟨_,J4 (Jh (Jc GB hr rfl mB kB bB .nil pass0 (J0 (Ja (pv 1) rfl) (J0 (Ja (pv 0) rfl) J3)))),?_⟩;refine ⟨_,rfl,y,CR,dr,fr,_,rfl,h0,TR.cl,TR.nB,k2,_,rfl,x,cs (kd s),dx,stF s,_,rfl,hx,TS.cl _,TS.nW _,stF_w s,pb,r.bot,s.winner,rfl,e2,hB,fun p H' s' hp=>q p H' s' ?_⟩;rw [hl];exact hp
theorem scUsLosers:FnScope ["self","rest"] ["self","rest"] (J6 J49):=fS
theorem ok_uslosers {f fB CR:Addr} {fd fdB:FuncData} {cs:Kd->Addr} (F:Fun K "losers" "Unders.losers" J49 f fd) (TS:TxtS K cs) (TR:TxtRest K CR)
  (GB:FnOk P w K mg base CX0 1 fB fdB ["row","letter"] J38) (bB:Binds K fdB ["row","letter"] []) (mB:mg "letters_behind"=some (.ref fB)) (kB:keepIn K (.ref fB)=true):FnOk P w K mg base CX0 2 f fd ["self","rest"] (J1k cs CR .us):=by
 refine F.ok scUsLosers (fun vs H Q E h=>?_) (fun cdv A outer s H vs Q E hr h=>?_)
 ·obtain ⟨x,y,s,r,rfl,_⟩:=h;rfl
 ·obtain ⟨x,y,s,r,rfl,hs,⟨dx,hx⟩,R,hT,hB,q⟩:=h;obtain ⟨dr,fr,pt,pb,pl,pu,h0,⟨k1,k2,k3,k4,k5⟩,e1,e2,e3,e4⟩:=R.ex;have hl:s.losers r=J9 r.top s.winner:=by
   cases s with
   | unders a t=>rfl
   | _=>cases hs
  refine ⟨_,J4 (Jh (Jc GB hr rfl mB kB bB .nil pass0 (J0 (Ja (pv 1) rfl) (J0 (Ja (pv 0) rfl) J3)))),?_⟩;refine ⟨_,rfl,y,CR,dr,fr,_,rfl,h0,TR.cl,TR.nT,k1,_,rfl,x,cs (kd s),dx,stF s,_,rfl,hx,TS.cl _,TS.nW _,stF_w s,pt,r.top,s.winner,rfl,e1,hT,fun p H' s' hp=>q p H' s' ?_⟩;rw [hl];exact hp
theorem J2z {cs:Kd->Addr} {H1:Hp} {x dx:Addr} {s:Stp} (hx:H1 x=none) (hdx:H1 dx=none):StepAt cs (upd (upd (upd H1 dx (.own x)) x (.ins (cs (kd s)) dx [])) x (.ins (cs (kd s)) dx (stF s))) x s/\
  Same H1 (upd (upd (upd H1 dx (.own x)) x (.ins (cs (kd s)) dx [])) x (.ins (cs (kd s)) dx (stF s))):=by
 refine ⟨⟨dx,J2⟩,fun b u e=>?_⟩;rw [Jb (J8 e hx),Jb (J8 e hx),Jb (J8 e hdx)];exact e
theorem rowFew {ls:List Int} {row:List Nat} (h:Row ls row) (hl:ls.length<=24):row.length<=24:=Nat.le_trans h.len_le hl
def spTimes (CR:Addr):Sp:=fun vs H Q _=>∃ (y q:Addr) (r:Rst) (a:Nat) (row:List Nat),vs=[.ref y,.int (a:Nat),.ref q]/\RestAt CR H y r/\r.Ok/\H q=some (.tup (nV row))/\a∈row/\a < r.ls.length/\(∀ j∈row,j < r.ls.length)/\row.length<=24/\1<=lenOf r.ls (J9 row a)/\lenOf r.ls (J9 row a)<=10 ^ 30/\
 ∀ H',Same H H'->Q (.int (J1c r a row)) H'
theorem scTimes:FnScope ["rest","winner","row"] ["rest","winner","row"] (J6 sTimes):=fS
theorem small_div {s:Int} (h1:1<=s) (h2:s<=10 ^ 30):CDivB 0 s:=by
 refine ⟨by lia,?_⟩;have h3:s.natAbs<=10 ^ 30:=by lia
 exact Nat.lt_of_le_of_lt h3 (by decide)
theorem ok_times {f fL fB CR:Addr} {fd fdL fdB:FuncData} (F:Fun K "whole_times" "whole_times" sTimes f fd) (TR:TxtRest K CR)
  (GL:FnOk P w K mg base CX0 1 fL fdL ["rest","letters"] (J52 K)) (bL:Binds K fdL ["rest","letters"] []) (mL:mg "length_of"=some (.ref fL)) (kL:keepIn K (.ref fL)=true)
  (GB:FnOk P w K mg base CX0 1 fB fdB ["row","letter"] J38) (bB:Binds K fdB ["row","letter"] []) (mB:mg "letters_behind"=some (.ref fB)) (kB:keepIn K (.ref fB)=true) :
  FnOk P w K mg base CX0 2 f fd ["rest","winner","row"] (spTimes CR):=by
 refine F.ok scTimes (fun vs H Q E h=>?_) (fun cdv A outer s H vs Q E hr h=>?_)
 ·obtain ⟨y,q,r,a,row,rfl,_⟩:=h;rfl
 ·obtain ⟨y,q,r,a,row,rfl,R,ok,hq,ha,hal,hlt,hn,h1,h2,k⟩:=h;obtain ⟨dr,fr,pt,pb,pl,pu,h0,⟨k1,k2,k3,k4,k5⟩,e1,e2,e3,e4⟩:=R.ex;refine ⟨_,J1 (ps_if (J2p (pe_ix Js (Ja (pv 0) rfl) (pv 1) (fun _ _=>rfl))) (J4 (Jh Jd)) Jn)
   (J4 (Jh (pe_op op_fdivB (pe_op J1l (pe_ix Js (Ja (pv 0) rfl) (pv 1) (fun _ _=>rfl)) Jd) (Jc GL hr rfl mL kL bL .nil pass0 (J0 (pv 0) (J0 (Jc GB hr rfl mB kB bB .nil pass0 (J0 (pv 2) (J0 (pv 1) J3))) J3)))))),?_⟩
  refine ⟨_,rfl,y,CR,dr,fr,_,rfl,h0,TR.cl,TR.nU,k4,_,rfl,pu,_,_,_,rfl,rfl,SqT.of e4,Jj (J4w (by rw [ok.len];exact hal)),_,rfl,?_⟩;unfold J1c at k;by_cases c:r.ts.getD a false=true
  ·refine iteBT c ?_;have:=k H (Same.refl _);rw [if_pos c] at this;exact this
  ·refine iteBF c ?_;refine ⟨_,rfl,y,CR,dr,fr,_,rfl,h0,TR.cl,TR.nL,k3,_,rfl,pl,_,_,_,rfl,rfl,SqT.of e3,Jj (J1a hal),_,_,rfl,rfl,_,rfl,_,rfl,_,rfl,q,row,a,rfl,hq,ha,fun p H1 s1 hp=>?_⟩;refine ⟨CR,y,p,dr,pl,fr,r.ls,J9 row a,rfl,s1 _ _ h0,TR.cl,TR.nL,k3,s1 _ _ e3,hp,fun j hj=>hlt j (Jw hj),?_,fun H2 s2=>⟨_,_,rfl,rfl,small_div h1 h2,?_⟩⟩
   ·unfold J9;rw [length_drop];lia
   ·have:=k H2 (s1.trans s2);rw [if_neg c] at this;exact this
def spOverS (cs:Kd->Addr) (CR:Addr):Sp:=fun vs H Q _=>∃ (y:Addr) (r:Rst) (a b:Nat),vs=[.ref y,.int (a:Nat),.int (b:Nat)]/\RestAt CR H y r/\r.Ok/\a∈r.bot/\1<=lenOf r.ls (J9 r.bot a)/\lenOf r.ls (J9 r.bot a)<=10 ^ 30/\
 ∀ p H',Same H H'->StepAt cs H' p (if 0 < J1c r a r.bot then .overs a (J1c r a r.bot) else .over a b)->Q (.ref p) H'
theorem scOverS:FnScope ["rest","winner","loser","times"] ["rest","winner","loser"] (J6 sOverS):=fS
theorem ok_overs {f fT fM fO CR:Addr} {fd fdT fdM fdO:FuncData} {cs:Kd->Addr} (F:Fun K "over_step" "over_step" sOverS f fd) (TR:TxtRest K CR)
  (GT:FnOk P w K mg base CX0 2 fT fdT ["rest","winner","row"] (spTimes CR)) (bT:Binds K fdT ["rest","winner","row"] []) (mT:mg "whole_times"=some (.ref fT)) (kT:keepIn K (.ref fT)=true)
  (MM:Mk K (cs .os) fM) (GM:FnOk P w K mg base CX0 2 fM fdM ["self","winner","times"] (spMk cs aOs)) (bM:Binds K fdM ["self","winner","times"] []) (mM:mg "Overs"=some (.ref (cs .os)))
  (MO:Mk K (cs .ov) fO) (GO:FnOk P w K mg base CX0 2 fO fdO ["self","winner","loser"] (spMk cs aOv)) (bO:Binds K fdO ["self","winner","loser"] []) (mO:mg "Over"=some (.ref (cs .ov))) :
  FnOk P w K mg base CX0 4 f fd ["rest","winner","loser"] (spOverS cs CR):=by
 refine F.ok scOverS (fun vs H Q E h=>?_) (fun cdv A outer s H vs Q E hr h=>?_)
 ·obtain ⟨y,r,a,b,rfl,_⟩:=h;rfl
 ·obtain ⟨y,r,a,b,rfl,R,ok,ha,h1,h2,k⟩:=h;have hr2:Room 2 _:=rm hr;obtain ⟨dr,fr,pt,pb,pl,pu,h0,⟨k1,k2,k3,k4,k5⟩,e1,e2,e3,e4⟩:=R.ex;have hrow:Row r.ls r.bot:=ok.rowB;have few:r.bot.length<=24:=rowFew hrow ok.few;refine ⟨_,J1 (Ji (i:=3) scOverS.nd rfl (Or.inl rfl) (Jc GT hr2 rfl mT kT bT .nil pass0 (J0 (pv 0) (J0 (pv 1) (J0 (Ja (pv 0) rfl) J3)))))
   (J4 (Jh (J23 (Jl op_gt (pv 3) Jd (Jp _)) (J16 MM GM hr rfl mM bM .nil pass0 (J0 (pv 1) (J0 (pv 3) J3))) (J16 MO GO hr rfl mO bO .nil pass0 (J0 (pv 1) (J0 (pv 2) J3)))))),?_⟩
  refine ⟨_,rfl,_,rfl,_,rfl,y,CR,dr,fr,_,rfl,h0,TR.cl,TR.nB,k2,y,pb,r,a,r.bot,rfl,R,ok,e2,ha,hrow.lt a ha,hrow.lt,few,h1,h2,fun H1 s1=>?_⟩;refine ⟨_,rfl,_,_,rfl,rfl,_,rfl,?_⟩;by_cases c:0 < J1c r a r.bot
  ·refine iteDT c ⟨_,rfl,_,rfl,fun x dx hx hdx hne=>?_⟩;obtain ⟨st,sm⟩:=J2z (cs:=cs) (s:=.overs a (J1c r a r.bot)) hx hdx;refine ⟨x,dx,_,.overs a (J1c r a r.bot),rfl,⟨a,_,rfl,rfl⟩,J2,rfl,k x _ (s1.trans sm) ?_⟩;rw [if_pos c];exact st
  ·refine iteD c ⟨_,rfl,_,rfl,fun x dx hx hdx hne=>?_⟩;obtain ⟨st,sm⟩:=J2z (cs:=cs) (s:=.over a b) hx hdx;refine ⟨x,dx,_,.over a b,rfl,⟨a,b,rfl,rfl⟩,J2,rfl,k x _ (s1.trans sm) ?_⟩;rw [if_neg c];exact st
def spUnderS (cs:Kd->Addr) (CR:Addr):Sp:=fun vs H Q _=>∃ (y:Addr) (r:Rst) (a b:Nat),vs=[.ref y,.int (a:Nat),.int (b:Nat)]/\RestAt CR H y r/\r.Ok/\a∈r.top/\1<=lenOf r.ls (J9 r.top a)/\lenOf r.ls (J9 r.top a)<=10 ^ 30/\
 ∀ p H',Same H H'->StepAt cs H' p (if 0 < J1c r a r.top then .unders a (J1c r a r.top) else .under a b)->Q (.ref p) H'
theorem scUnderS:FnScope ["rest","winner","loser","times"] ["rest","winner","loser"] (J6 sUnderS):=fS
theorem ok_unders {f fT fM fO CR:Addr} {fd fdT fdM fdO:FuncData} {cs:Kd->Addr} (F:Fun K "under_step" "under_step" sUnderS f fd) (TR:TxtRest K CR)
  (GT:FnOk P w K mg base CX0 2 fT fdT ["rest","winner","row"] (spTimes CR)) (bT:Binds K fdT ["rest","winner","row"] []) (mT:mg "whole_times"=some (.ref fT)) (kT:keepIn K (.ref fT)=true)
  (MM:Mk K (cs .us) fM) (GM:FnOk P w K mg base CX0 2 fM fdM ["self","winner","times"] (spMk cs aUs)) (bM:Binds K fdM ["self","winner","times"] []) (mM:mg "Unders"=some (.ref (cs .us)))
  (MO:Mk K (cs .un) fO) (GO:FnOk P w K mg base CX0 2 fO fdO ["self","winner","loser"] (spMk cs aUn)) (bO:Binds K fdO ["self","winner","loser"] []) (mO:mg "Under"=some (.ref (cs .un))) :
  FnOk P w K mg base CX0 4 f fd ["rest","winner","loser"] (spUnderS cs CR):=by
 refine F.ok scUnderS (fun vs H Q E h=>?_) (fun cdv A outer s H vs Q E hr h=>?_)
 ·obtain ⟨y,r,a,b,rfl,_⟩:=h;rfl
 ·obtain ⟨y,r,a,b,rfl,R,ok,ha,h1,h2,k⟩:=h;have hr2:Room 2 _:=rm hr;obtain ⟨dr,fr,pt,pb,pl,pu,h0,⟨k1,k2,k3,k4,k5⟩,e1,e2,e3,e4⟩:=R.ex;have hrow:Row r.ls r.top:=ok.row;have few:r.top.length<=24:=rowFew hrow ok.few;refine ⟨_,J1 (Ji (i:=3) scUnderS.nd rfl (Or.inl rfl) (Jc GT hr2 rfl mT kT bT .nil pass0 (J0 (pv 0) (J0 (pv 1) (J0 (Ja (pv 0) rfl) J3)))))
   (J4 (Jh (J23 (Jl op_gt (pv 3) Jd (Jp _)) (J16 MM GM hr rfl mM bM .nil pass0 (J0 (pv 1) (J0 (pv 3) J3))) (J16 MO GO hr rfl mO bO .nil pass0 (J0 (pv 1) (J0 (pv 2) J3)))))),?_⟩
  refine ⟨_,rfl,_,rfl,_,rfl,y,CR,dr,fr,_,rfl,h0,TR.cl,TR.nT,k1,y,pt,r,a,r.top,rfl,R,ok,e1,ha,hrow.lt a ha,hrow.lt,few,h1,h2,fun H1 s1=>?_⟩;refine ⟨_,rfl,_,_,rfl,rfl,_,rfl,?_⟩;by_cases c:0 < J1c r a r.top
  ·refine iteDT c ⟨_,rfl,_,rfl,fun x dx hx hdx hne=>?_⟩;obtain ⟨st,sm⟩:=J2z (cs:=cs) (s:=.unders a (J1c r a r.top)) hx hdx;refine ⟨x,dx,_,.unders a (J1c r a r.top),rfl,⟨a,_,rfl,rfl⟩,J2,rfl,k x _ (s1.trans sm) ?_⟩;rw [if_pos c];exact st
  ·refine iteD c ⟨_,rfl,_,rfl,fun x dx hx hdx hne=>?_⟩;obtain ⟨st,sm⟩:=J2z (cs:=cs) (s:=.under a b) hx hdx;refine ⟨x,dx,_,.under a b,rfl,⟨a,b,rfl,rfl⟩,J2,rfl,k x _ (s1.trans sm) ?_⟩;rw [if_neg c];exact st
theorem atI_lastN {row:List Nat} (h:row≠[]):atI (nV row) (-1)=some (V.int (row.getD (row.length - 1) 0:Nat)):=by
 have hl:=List.length_pos_iff.mpr h;unfold atI;have e:ixN (nV row).length (-1)=some (row.length - 1):=by
  unfold ixN;rw [J6b,if_neg (by lia),if_pos (by lia)]
  congr 1
  lia
 rw [e];show (nV row)[row.length - 1]?=_;rw [nV_at (by lia)]
def spNext (cs:Kd->Addr) (CR:Addr):Sp:=fun vs H Q _=>∃ (y:Addr) (r:Rst),vs=[.ref y]/\RestAt CR H y r/\r.Ok/\r.top≠[]/\r.size<=10 ^ 30/\∀ p H',Same H H'->StepAt cs H' p (nextN r)->Q (.ref p) H'
theorem scNext:FnScope ["rest","last_top","last_bottom"] ["rest"] (J6 sNext):=fS
theorem ok_next {f fH fE fO fU CR:Addr} {fd fdH fdE fdO fdU:FuncData} {cs:Kd->Addr} (F:Fun K "next_step" "next_step" sNext f fd) (TR:TxtRest K CR)
  (MH:Mk K (cs .ho) fH) (GH:FnOk P w K mg base CX0 2 fH fdH ["self","winner"] (spMk cs aHo)) (bH:Binds K fdH ["self","winner"] []) (mH:mg "Home"=some (.ref (cs .ho)))
  (ME:Mk K (cs .ev) fE) (GE:FnOk P w K mg base CX0 2 fE fdE ["self","winner","loser"] (spMk cs aEv)) (bE:Binds K fdE ["self","winner","loser"] []) (mE:mg "Even"=some (.ref (cs .ev)))
  (GO:FnOk P w K mg base CX0 4 fO fdO ["rest","winner","loser"] (spOverS cs CR)) (bO:Binds K fdO ["rest","winner","loser"] []) (mO:mg "over_step"=some (.ref fO)) (kO:keepIn K (.ref fO)=true)
  (GU:FnOk P w K mg base CX0 4 fU fdU ["rest","winner","loser"] (spUnderS cs CR)) (bU:Binds K fdU ["rest","winner","loser"] []) (mU:mg "under_step"=some (.ref fU)) (kU:keepIn K (.ref fU)=true) :
  FnOk P w K mg base CX0 5 f fd ["rest"] (spNext cs CR):=by
 refine F.ok scNext (fun vs H Q E h=>?_) (fun cdv A outer s H vs Q E hr h=>?_)
 ·obtain ⟨y,r,rfl,_⟩:=h;rfl
 ·obtain ⟨y,r,rfl,R,ok,ne,hz,k⟩:=h;have hr3:Room 3 _:=rm hr;obtain ⟨dr,fr,pt,pb,pl,pu,h0,⟨k1,k2,k3,k4,k5⟩,e1,e2,e3,e4⟩:=R.ex;have mT:=ok.mT ne;have mB:=ok.mB ne;have neB:r.bot≠[]:=fun e=>by
   have:=ok.lens;rw [e] at this;exact ne (List.length_eq_zero_iff.mp this.symm)
  have lT:=ok.row.lt _ mT;have lB:=ok.row.lt _ mB;refine ⟨_,J1 (Ji (i:=1) scNext.nd rfl (Or.inl rfl) (pe_ix Js (Ja (pv 0) rfl) (pe_un J45 Jd) (fun _ _=>rfl)))
   (J1 (Ji (i:=2) scNext.nd rfl (Or.inl rfl) (pe_ix Js (Ja (pv 0) rfl) (pe_un J45 Jd) (fun _ _=>rfl)))
   (J1 (ps_if (Jl op_eq (pv 1) (pv 2) (Jp _)) (J4 (Jh (J16 MH GH hr3 rfl mH bH .nil pass0 (J0 (pv 1) J3)))) Jn)
   (J1 (ps_if (Jl op_eq (pe_ix Js (Ja (pv 0) rfl) (pv 1) (fun _ _=>rfl)) (pe_ix Js (Ja (pv 0) rfl) (pv 2) (fun _ _=>rfl)) (Jp _)) (J4 (Jh (J16 ME GE hr3 rfl mE bE .nil pass0 (J0 (pv 1) (J0 (pv 2) J3))))) Jn)
   (J1 (ps_if (Jl op_gt (pe_ix Js (Ja (pv 0) rfl) (pv 1) (fun _ _=>rfl)) (pe_ix Js (Ja (pv 0) rfl) (pv 2) (fun _ _=>rfl)) (Jp _)) (J4 (Jh (Jc GO hr rfl mO kO bO .nil pass0 (J0 (pv 0) (J0 (pv 1) (J0 (pv 2) J3)))))) Jn)
   (J4 (Jh (Jc GU hr rfl mU kU bU .nil pass0 (J0 (pv 0) (J0 (pv 2) (J0 (pv 1) J3)))))))))),?_⟩
  refine ⟨_,rfl,y,CR,dr,fr,_,rfl,h0,TR.cl,TR.nT,k1,_,rfl,pt,_,_,_,rfl,rfl,SqT.of e1,atI_lastN ne,?_⟩;refine ⟨_,rfl,y,CR,dr,fr,_,rfl,h0,TR.cl,TR.nB,k2,_,rfl,pb,_,_,_,rfl,rfl,SqT.of e2,atI_lastN neB,?_⟩;refine ⟨_,rfl,_,rfl,rfl,_,rfl,?_⟩;unfold nextN at k;have inj:∀ {i j:Nat},V.int (i:Nat)=V.int (j:Nat)->i=j:=fun q=>by have:=V.int.inj q;lia
  by_cases c1:lastT r=lastB r
  ·refine iteDT (congrArg (fun n:Nat=>V.int (n:Int)) c1) ⟨_,rfl,fun x dx hx hdx hne=>?_⟩;obtain ⟨st,sm⟩:=J2z (cs:=cs) (s:=.home (lastT r)) hx hdx;refine ⟨x,dx,_,.home (lastT r),rfl,⟨_,rfl,rfl⟩,J2,rfl,k x _ sm ?_⟩;rw [if_pos c1];exact st
  refine iteD (fun q=>c1 (inj q)) ?_;rw [if_neg c1] at k;refine ⟨_,rfl,y,CR,dr,fr,_,rfl,h0,TR.cl,TR.nL,k3,_,rfl,pl,_,_,_,rfl,rfl,SqT.of e3,Jj (J1a lT),_,rfl,y,CR,dr,fr,_,rfl,h0,TR.cl,TR.nL,k3,_,rfl,pl,_,_,_,rfl,rfl,SqT.of e3,Jj (J1a lB),rfl,_,rfl,?_⟩;by_cases c2:r.ls.getD (lastT r) 0=r.ls.getD (lastB r) 0
  ·refine iteDT (congrArg V.int c2) ⟨_,rfl,_,rfl,fun x dx hx hdx hne=>?_⟩;obtain ⟨st,sm⟩:=J2z (cs:=cs) (s:=.even (lastT r) (lastB r)) hx hdx;refine ⟨x,dx,_,.even (lastT r) (lastB r),rfl,⟨_,_,rfl,rfl⟩,J2,rfl,k x _ sm ?_⟩;rw [if_pos c2];exact st
  refine iteD (J1p c2) ?_;rw [if_neg c2] at k;refine ⟨_,rfl,y,CR,dr,fr,_,rfl,h0,TR.cl,TR.nL,k3,_,rfl,pl,_,_,_,rfl,rfl,SqT.of e3,Jj (J1a lT),_,rfl,y,CR,dr,fr,_,rfl,h0,TR.cl,TR.nL,k3,_,rfl,pl,_,_,_,rfl,rfl,SqT.of e3,Jj (J1a lB),_,_,rfl,rfl,_,rfl,?_⟩;have len1:∀ (row:List Nat) (a:Nat),a∈row->row.Perm r.top->row.getD (row.length - 1) 0≠a->1<=lenOf r.ls (J9 row a)/\lenOf r.ls (J9 row a)<=10 ^ 30:=fun row a ha hp hl=>by
   have hpos:∀ j∈row,1<=r.ls.getD j 0:=fun j hj=>ok.row.pos j (hp.mem_iff.mp hj);refine ⟨J4n (fun j hj=>hpos j (Jw hj)) (behind_ne ha hl),?_⟩;have h1:lenOf r.ls row=r.size:=J1m hp;have h2:lenOf r.ls row=lenOf r.ls (row.take (row.idxOf a + 1)) + lenOf r.ls (J9 row a):=by
    rw [<- J21];show _=lenOf r.ls (row.take (row.idxOf a + 1) ++ row.drop (row.idxOf a + 1));rw [take_append_drop]
   have h3:=J14 (ls:=r.ls) (os:=row.take (row.idxOf a + 1)) fun j hj=>by have:=hpos j (List.mem_of_mem_take hj);lia
   lia
  by_cases c3:r.ls.getD (lastB r) 0 < r.ls.getD (lastT r) 0
  ·rw [if_pos c3] at k;obtain ⟨q1,q2⟩:=len1 r.bot (lastT r) (ok.perm.mem_iff.mpr mT) ok.perm (fun e=>c1 e.symm);exact iteDT c3 ⟨_,rfl,_,rfl,_,rfl,y,r,lastT r,lastB r,rfl,R,ok,ok.perm.mem_iff.mpr mT,q1,q2,k⟩
  ·rw [if_neg c3] at k;obtain ⟨q1,q2⟩:=len1 r.top (lastB r) mB (List.Perm.refl _) c1;exact iteD c3 ⟨_,rfl,_,rfl,_,rfl,y,r,lastB r,lastT r,rfl,R,ok,mB,q1,q2,k⟩
def J37:Sp:=fun vs H Q _=>∃ (q:Addr) (row:List Nat) (x:Nat),vs=[.ref q,.int (x:Nat)]/\SqH H q (nV row)/\row.length<=24/\∀ p H',Same H H'->H' p=some (.lst (nV (withoutR row x)))->Q (.ref p) H'
theorem scWithout:FnScope ["row","letter"] ["row","letter"] (J6 J5w):=fS
theorem notv {j x:Nat}:(!decide (V.int (j:Int)=V.int (x:Int)))=decide (j≠x):=by
 by_cases e:j=x
 ·rw [e];simp
 ·rw [decide_eq_false (J1p (by lia)),decide_eq_true e];rfl
theorem ok_without {f:Addr} {fd:FuncData} (F:Fun K "without" "without" J5w f fd):FnOk P w K mg base CX0 1 f fd ["row","letter"] J37:=by
 refine F.ok scWithout (fun vs H Q E h=>?_) (fun cdv A outer s H vs Q E hr h=>?_)
 ·obtain ⟨q,row,x,rfl,_⟩:=h;rfl
 ·obtain ⟨q,row,x,rfl,hq,hn,k⟩:=h;rcases hq with hq | hq
  ·refine ⟨_,J4 (Jh (pe_lc (caps:=["letter"]) (js:=[1]) rfl (J2f (pv 0)) rfl (fun C fp s H=>pts_one (Jl op_ne (pv 0) (pv 1) (Jp _))) (fun C fp s H=>pv 0)
    (by decide +kernel) (by decide +kernel) (by decide +kernel) (by intro p hp;simp only [mem_cons,not_mem_nil,or_false] at hp;rcases hp with rfl;rfl))),?_⟩
   refine ⟨_,rfl,q,rfl,⟨_,SqL.of hq⟩,fun d hd=>lc_lst (fun (j:Nat)=>V.int (j:Int)) row (fun j=>decide (j≠x)) (fun (j:Nat)=>V.int (j:Int)) (by rw [<- nV_eq];exact SqL.of hq) (by lia) hd
    (fun j _ H2 Qt _ k=>⟨_,rfl,_,rfl,rfl,_,rfl,by rw [notv];exact k H2 (Same.refl _)⟩) (fun j hj H2 Qe _ s2 k=>⟨_,rfl,k _ (Same.refl _)⟩) (fun H' s' hd'=>k d H' s' (by rw [hd',nV_eq];rfl))⟩
  ·refine ⟨_,J4 (Jh (pe_lc (caps:=["letter"]) (js:=[1]) rfl (pi_tup (pv 0)) rfl (fun C fp s H=>pts_one (Jl op_ne (pv 0) (pv 1) (Jp _))) (fun C fp s H=>pv 0)
    (by decide +kernel) (by decide +kernel) (by decide +kernel) (by intro p hp;simp only [mem_cons,not_mem_nil,or_false] at hp;rcases hp with rfl;rfl))),?_⟩
   refine ⟨_,rfl,q,rfl,⟨_,SqT.of hq⟩,fun d hd=>lc_tup (fun (j:Nat)=>V.int (j:Int)) row (fun j=>decide (j≠x)) (fun (j:Nat)=>V.int (j:Int)) (by rw [<- nV_eq];exact SqT.of hq) (by lia) hd
    (fun j _ H2 Qt _ k=>⟨_,rfl,_,rfl,rfl,_,rfl,by rw [notv];exact k H2 (Same.refl _)⟩) (fun j hj H2 Qe _ s2 k=>⟨_,rfl,k _ (Same.refl _)⟩) (fun H' s' hd'=>k d H' s' (by rw [hd',nV_eq];rfl))⟩
theorem J6e (row:List Nat) (n:Nat) (h:n<=row.length):cutV (nV row) none (some (n:Int))=nV (row.take n):=by
 unfold cutV;rw [J6b,HT.sIx_nat,HT.sIx_none,Nat.min_eq_left h,nV_eq,nV_eq,List.map_take,List.drop_zero,Nat.sub_zero]
def spPut:Sp:=fun vs H Q _=>∃ (q:Addr) (row:List Nat) (w l:Nat) (ah:Bool),vs=[.ref q,.int (w:Nat),.int (l:Nat),.bl ah]/\SqH H q (nV row)/\row.length<=24/\w∈row/\w≠l/\∀ p H',Same H H'->H' p=some (.lst (nV (putR row w l ah)))->Q (.ref p) H'
theorem scPut:FnScope ["row","winner","loser","ahead","others","at"] ["row","winner","loser","ahead"] (J6 sPut):=fS
theorem nV_app (xs ys:List Nat):nV (xs ++ ys)=nV xs ++ nV ys:=by rw [nV_eq,nV_eq,nV_eq,map_append]
theorem ok_put {f fW:Addr} {fd fdW:FuncData} (F:Fun K "put_beside" "put_beside" sPut f fd) (GW:FnOk P w K mg base CX0 1 fW fdW ["row","letter"] J37) (bW:Binds K fdW ["row","letter"] []) (mW:mg "without"=some (.ref fW)) (kW:keepIn K (.ref fW)=true) :
  FnOk P w K mg base CX0 2 f fd ["row","winner","loser","ahead"] spPut:=by
 refine F.ok scPut (fun vs H Q E h=>?_) (fun cdv A outer s H vs Q E hr h=>?_)
 ·obtain ⟨q,row,wi,lo,ah,rfl,_⟩:=h;rfl
 ·obtain ⟨q,row,wi,lo,ah,rfl,hq,hn,hw,hwl,k⟩:=h;refine ⟨_,J1 (Ji (i:=4) scPut.nd rfl (Or.inl rfl) (Jc GW hr rfl mW kW bW .nil pass0 (J0 (pv 0) (J0 (pv 2) J3))))
   (J1 (J1z (Ji (i:=5) scPut.nd rfl (Or.inl rfl) (J23 (J2p (pv 3)) (pe_bm PySem.F.plainAttrs_list PySem.F.slot_list_index PySem.F.type_list_index mt_indexL (pv 4) (J0 (pv 1) J3)) (pe_op J19 (pe_bm PySem.F.plainAttrs_list PySem.F.slot_list_index PySem.F.type_list_index mt_indexL (pv 4) (J0 (pv 1) J3)) Jd))))
   (J4 (Jh (pe_op op_cat (pe_op op_cat (J3h sl_list (pv 4) J57 (J56 (pv 5))) (J1t (J0 (pv 2) J3))) (J3h sl_list (pv 4) (J56 (pv 5)) J57))))),?_⟩
  refine ⟨_,rfl,_,rfl,q,row,lo,rfl,hq,hn,fun o H1 s1 ho=>?_⟩;have hm:wi∈withoutR row lo:=mem_without.mpr ⟨hw,hwl⟩;have hl1:(withoutR row lo).length<=24:=Nat.le_trans (List.length_filter_le _ _) hn;have k':∀ p H',Same H H'->H' p=some (.lst (nV ((withoutR row lo).take (if ah=true then (withoutR row lo).idxOf wi else (withoutR row lo).idxOf wi + 1) ++ [lo] ++ (withoutR row lo).drop (if ah=true then (withoutR row lo).idxOf wi else (withoutR row lo).idxOf wi + 1))))->Q (.ref p) H':=k;generalize withoutR row lo=os at *;have hi:os.idxOf wi < os.length:=idxOf_lt_length_iff.mpr hm;have hb:∃ n:Nat,n<=os.length/\n=(if ah=true then os.idxOf wi else os.idxOf wi + 1):=by
   refine ⟨_,?_,rfl⟩;split <;> lia
  obtain ⟨n,hn1,hn2⟩:=hb;rw [<- hn2] at k';refine ⟨fun σ' H'=>σ'=[some (.ref q),some (.int (wi:Nat)),some (.int (lo:Nat)),some (.bl ah),some (.ref o),some (.int (n:Nat))]/\H1=H',⟨_,rfl,_,rfl,?_⟩,?_⟩
  ·by_cases c:ah=true
   ·rw [if_pos c] at hn2;refine iteBT c ⟨_,rfl,.inl ⟨rfl,_,SqL.of ho⟩,_,rfl,o,natI os,(wi:Int),rfl,rfl,SqL.of ho,mem_nat hm,?_,rfl⟩;rw [hn2,<- idx_nat];rfl
   ·rw [if_neg c] at hn2;refine iteBF c ⟨_,rfl,.inl ⟨rfl,_,SqL.of ho⟩,_,rfl,o,natI os,(wi:Int),rfl,rfl,SqL.of ho,mem_nat hm,_,_,rfl,rfl,?_,rfl⟩;rw [hn2,<- idx_nat,Int.natCast_add];rfl
  rintro σ _ ⟨rfl,rfl⟩;refine ⟨_,rfl,_,rfl,_,rfl,o,_,rfl,SqL.of ho,fun a ha=>?_⟩;refine ⟨_,rfl,(by show 1<=sizeLine;decide),fun b hb=>?_⟩;have sa:=J7 (o:=.lst (cutV (nV os) none (some (n:Int)))) ha;have sb:=J7 (o:=.lst [V.int (lo:Nat)]) hb;refine ⟨a,b,_,_,rfl,rfl,sb _ _ J2,J2,?_,fun c hc=>?_⟩
  ·rw [J6e _ _ hn1,J6b,length_take];have:=Jq (n:=min n os.length + 1) (by lia);show min n os.length + 1<=sizeLine;lia
  have sc:=J7 (o:=.lst (cutV (nV os) none (some (n:Int)) ++ [V.int (lo:Nat)])) hc;refine ⟨_,rfl,_,rfl,_,rfl,o,_,rfl,SqL.of (sc _ _ (sb _ _ (sa _ _ ho))),fun d hd=>?_⟩;have sd:=J7 (o:=.lst (cutV (nV os) (some (n:Int)) none)) hd;refine ⟨c,d,_,_,rfl,rfl,sd _ _ J2,J2,?_,fun e he=>k' e _ (s1.trans (sa.trans (sb.trans (sc.trans (sd.trans (J7 he)))))) ?_⟩
  ·rw [J6e _ _ hn1,cut_nat _ _ hn1,length_append,J6b,J6b,length_take,length_drop];have:=Jq (n:=min n os.length + 1 + (os.length - n)) (by lia);show min n os.length + 1 + (os.length - n)<=sizeLine;lia
  ·rw [J2,J6e _ _ hn1,cut_nat _ _ hn1,nV_app,nV_app];rfl
def J2o:Sp:=fun vs H Q _=>∃ (q:Addr) (xs:List V) (j:Nat) (v:V),vs=[.ref q,.int (j:Nat),v]/\SqH H q xs/\j < xs.length/\∀ p H',Same H H'->H' p=some (.lst (xs.set j v))->Q (.ref p) H'
theorem scChanged:FnScope ["row","letter","entry","copied"] ["row","letter","entry"] (J6 J5z):=fS
theorem ok_changed {f:Addr} {fd:FuncData} (F:Fun K "changed" "changed" J5z f fd) (T:TxtR mg):FnOk P w K mg base CX0 1 f fd ["row","letter","entry"] J2o:=by
 refine F.ok scChanged (fun vs H Q E h=>?_) (fun cdv A outer s H vs Q E hr h=>?_)
 ·obtain ⟨q,xs,j,v,rfl,_⟩:=h;rfl
 ·obtain ⟨q,xs,j,v,rfl,hq,hj,k⟩:=h;refine ⟨_,J1 (Ji (i:=3) scChanged.nd rfl (Or.inl rfl) (Jk J2l (by rfl) T.list boot_list (J0 (pv 0) J3)))
   (J1 (ps_asg (pv 2) (pg_sub (pv 3) (pv 1) J48)) (J4 (Jh (pv 3)))),?_⟩
  refine ⟨_,rfl,q,xs,rfl,hq.sq,fun c hc=>?_⟩;refine ⟨_,rfl,_,rfl,_,rfl,c,xs,_,j,rfl,rfl,J2,ixN_nat hj,?_⟩;rw [upd_upd];exact ⟨_,rfl,k c _ (J7 hc) J2⟩
theorem bV_set (ts:List Bool) (j:Nat) (b:Bool):(bV ts).set j (V.bl b)=bV (ts.set j b):=by
 show (ts.map V.bl).set j (V.bl b)=(ts.set j b).map V.bl;rw [List.map_set]
def J50 (CR:Addr):Sp:=fun vs H Q _=>∃ (y:Addr) (r:Rst) (a:Nat) (less:Int),vs=[.ref y,.int (a:Nat),.int less]/\RestAt CR H y r/\a < r.ls.length/\∀ p H',Same H H'->H' p=some (.lst (iV (r.ls.set a (r.ls.getD a 0 - less))))->Q (.ref p) H'
theorem scShort:FnScope ["rest","winner","less"] ["rest","winner","less"] (J6 sShort):=fS
theorem ok_short {f fC CR:Addr} {fd fdC:FuncData} (F:Fun K "shortened" "shortened" sShort f fd) (TR:TxtRest K CR) (GC:FnOk P w K mg base CX0 1 fC fdC ["row","letter","entry"] J2o) (bC:Binds K fdC ["row","letter","entry"] []) (mC:mg "changed"=some (.ref fC)) (kC:keepIn K (.ref fC)=true) :
  FnOk P w K mg base CX0 2 f fd ["rest","winner","less"] (J50 CR):=by
 refine F.ok scShort (fun vs H Q E h=>?_) (fun cdv A outer s H vs Q E hr h=>?_)
 ·obtain ⟨y,r,a,less,rfl,_⟩:=h;rfl
 ·obtain ⟨y,r,a,less,rfl,R,ha,k⟩:=h;obtain ⟨dr,fr,pt,pb,pl,pu,h0,⟨k1,k2,k3,k4,k5⟩,e1,e2,e3,e4⟩:=R.ex;refine ⟨_,J4 (Jh (Jc GC hr rfl mC kC bC .nil pass0 (J0 (Ja (pv 0) rfl) (J0 (pv 1) (J0 (pe_op J1l (pe_ix Js (Ja (pv 0) rfl) (pv 1) (fun _ _=>rfl)) (pv 2)) J3))))),?_⟩;refine ⟨_,rfl,y,CR,dr,fr,_,rfl,h0,TR.cl,TR.nL,k3,_,rfl,_,rfl,y,CR,dr,fr,_,rfl,h0,TR.cl,TR.nL,k3,_,rfl,pl,_,_,_,rfl,rfl,SqT.of e3,Jj (J1a ha),_,rfl,_,_,rfl,rfl,pl,iV r.ls,a,_,rfl,.inr e3,by rw [J1v];exact ha,fun p H' s' hp=>k p H' s' ?_⟩;rw [hp,iV_set]
def J47 (CR:Addr):Sp:=fun vs H Q _=>∃ (y:Addr) (r:Rst) (a b:Nat),vs=[.ref y,.int (a:Nat),.int (b:Nat)]/\RestAt CR H y r/\a < r.ts.length/\b < r.ts.length/\∀ p H',Same H H'->H' p=some (.lst (bV (J2c r a b)))->Q (.ref p) H'
theorem scTurnsB:FnScope ["rest","winner","loser"] ["rest","winner","loser"] (J6 sTurnsB):=fS
theorem ok_turnsB {f fC CR:Addr} {fd fdC:FuncData} (F:Fun K "turns_behind" "turns_behind" sTurnsB f fd) (TR:TxtRest K CR) (GC:FnOk P w K mg base CX0 1 fC fdC ["row","letter","entry"] J2o) (bC:Binds K fdC ["row","letter","entry"] []) (mC:mg "changed"=some (.ref fC)) (kC:keepIn K (.ref fC)=true) :
  FnOk P w K mg base CX0 2 f fd ["rest","winner","loser"] (J47 CR):=by
 refine F.ok scTurnsB (fun vs H Q E h=>?_) (fun cdv A outer s H vs Q E hr h=>?_)
 ·obtain ⟨y,r,a,b,rfl,_⟩:=h;rfl
 ·obtain ⟨y,r,a,b,rfl,R,ha,hb,k⟩:=h;obtain ⟨dr,fr,pt,pb,pl,pu,h0,⟨k1,k2,k3,k4,k5⟩,e1,e2,e3,e4⟩:=R.ex;refine ⟨_,J4 (Jh (Jc GC hr rfl mC kC bC .nil pass0 (J0 (Ja (pv 0) rfl) (J0 (pv 2) (J0 (J2q op_ne (pe_ix Js (Ja (pv 0) rfl) (pv 1) (fun _ _=>rfl)) (pe_ix Js (Ja (pv 0) rfl) (pv 2) (fun _ _=>rfl)) (Jp _)) J3))))),?_⟩;refine ⟨_,rfl,y,CR,dr,fr,_,rfl,h0,TR.cl,TR.nU,k4,_,rfl,_,rfl,y,CR,dr,fr,_,rfl,h0,TR.cl,TR.nU,k4,_,rfl,pu,_,_,_,rfl,rfl,SqT.of e4,Jj (J4w ha),_,rfl,y,CR,dr,fr,_,rfl,h0,TR.cl,TR.nU,k4,_,rfl,pu,_,_,_,rfl,rfl,SqT.of e4,Jj (J4w hb),rfl,pu,bV r.ts,b,_,rfl,.inr e4,by rw [length_map];exact hb,fun p H' s' hp=>k p H' s' ?_⟩;rw [hp];unfold J2c;rw [<- bV_set];have e:(!decide (V.bl (r.ts.getD a false)=V.bl (r.ts.getD b false)))=(r.ts.getD a false != r.ts.getD b false):=by
   cases r.ts.getD a false <;> cases r.ts.getD b false <;> rfl
  rw [e]
structure Fit (s:Stp) (r:Rst):Prop where
 ok:r.Ok
 left:(s.behind r).Ok
 win:s.winner∈r.top
 lose:∀ b:Nat,loseV s=.int (b:Nat)->b∈r.top/\s.winner≠b
 few:s.times.natAbs < 2 ^ 4000
 small:r.size<=10 ^ 30
def J1y (cs:Kd->Addr) (CR:Addr) (k:Kd):Sp:=fun vs H Q _=>∃ (x y:Addr) (s:Stp) (r:Rst),vs=[.ref x,.ref y]/\kd s=k/\StepAt cs H x s/\RestAt CR H y r/\Fit s r/\∀ p H',Same H H'->RestAt CR H' p (s.behind r)->Q (.ref p) H'
theorem J27 {CR:Addr} {H:Hp} {p1 p2 p3 p4:Addr} {r:Rst} {Q:VK} (ok:r.Ok) (h1:SqH H p1 (nV r.top)) (h2:SqH H p2 (nV r.bot)) (h3:SqH H p3 (iV r.ls)) (h4:SqH H p4 (bV r.ts)) (k:∀ p H',Same H H'->RestAt CR H' p r->Q (.ref p) H') :
  ∀ x dx,H x=none->H dx=none->dx≠x->J2n CR (.ref x :: ([.ref p1,.ref p2,.ref p3,.ref p4] ++ [])) (upd (upd H dx (.own x)) x (.ins CR dx [])) (fun v H2=>v=.non/\Q (.ref x) H2) E0:=fun x dx hx hdx hne=>by
 have s0:Same H (upd (upd H dx (.own x)) x (.ins CR dx [])):=(J7 hdx).trans (J7 (by rw [Jb (Ne.symm hne)];exact hx));refine ⟨x,dx,p1,p2,p3,p4,r,rfl,J2,h1.same s0,h2.same s0,h3.same s0,h4.same s0,ok.row.lt,Nat.le_trans ok.row.len_le ok.few,fun H' R kp=>⟨rfl,k x H' (fun b u e=>?_) R⟩⟩;exact kp b u (s0 _ _ e) (J8 e hx)
theorem scHoBehind:FnScope ["self","rest","top","bottom"] ["self","rest"] (J6 J4h):=fS
theorem ok_hobehind {f fW fC fI CR:Addr} {fd fdW fdC fdI:FuncData} {cs:Kd->Addr} (F:Fun K "behind" "Home.behind" J4h f fd) (TS:TxtS K cs) (TR:TxtRest K CR)
  (GW:FnOk P w K mg base CX0 1 fW fdW ["row","letter"] J37) (bW:Binds K fdW ["row","letter"] []) (mW:mg "without"=some (.ref fW)) (kW:keepIn K (.ref fW)=true)
  (GC:FnOk P w K mg base CX0 1 fC fdC ["row","letter","entry"] J2o) (bC:Binds K fdC ["row","letter","entry"] []) (mC:mg "changed"=some (.ref fC)) (kC:keepIn K (.ref fC)=true)
  (M:Mk K CR fI) (GI:FnOk P w K mg base CX0 2 fI fdI ["self","top","bottom","lengths","turned"] (J2n CR)) (bI:Binds K fdI ["self","top","bottom","lengths","turned"] []) (mgR:mg "Rest"=some (.ref CR)) :
  FnOk P w K mg base CX0 4 f fd ["self","rest"] (J1y cs CR .ho):=by
 refine F.ok scHoBehind (fun vs H Q E h=>?_) (fun cdv A outer s H vs Q E hr h=>?_)
 ·obtain ⟨x,y,s,r,rfl,_⟩:=h;rfl
 ·obtain ⟨x,y,s,r,rfl,hs,⟨dx,hx⟩,R,fit,k⟩:=h;have hr1:Room 1 _:=rm hr;have hr2:Room 2 _:=rm hr;have ok:=fit.ok;have left:=fit.left;have win:=fit.win;have winB:=ok.perm.mem_iff.mpr win;have few:=Nat.le_trans ok.row.len_le ok.few;have fewB:=Nat.le_trans ok.rowB.len_le ok.few;have lw:=ok.row.lt _ win;obtain ⟨dr,fr,pt,pb,pl,pu,h0,⟨k1,k2,k3,k4,k5⟩,e1,e2,e3,e4⟩:=R.ex
  cases s with
  | home a =>
   have lt:a < r.ts.length:=by rw [ok.len];exact lw
   refine ⟨_,J1 (Ji (i:=2) scHoBehind.nd rfl (Or.inl rfl) (Jc GW hr1 rfl mW kW bW .nil pass0 (J0 (Ja (pv 1) rfl) (J0 (Ja (pv 0) rfl) J3))))
    (J1 (Ji (i:=3) scHoBehind.nd rfl (Or.inl rfl) (Jc GW hr1 rfl mW kW bW .nil pass0 (J0 (Ja (pv 1) rfl) (J0 (Ja (pv 0) rfl) J3))))
    (J4 (Jh (J16 M GI hr rfl mgR bI .nil pass0 (J0 (pv 2) (J0 (pv 3) (J0 (Jc GC hr1 rfl mC kC bC .nil pass0 (J0 (Ja (pv 1) rfl) (J0 (Ja (pv 0) rfl) (J0 Jd J3)))) (J0 (Jc GC hr1 rfl mC kC bC .nil pass0 (J0 (Ja (pv 1) rfl) (J0 (Ja (pv 0) rfl) (J0 pe_bl J3)))) J3)))))))),?_⟩
   refine ⟨_,rfl,y,CR,dr,fr,_,rfl,h0,TR.cl,TR.nT,k1,_,rfl,x,cs _,dx,stF _,_,rfl,hx,TS.cl _,TS.nW _,stF_w _,pt,r.top,a,rfl,.inr e1,few,fun t1 H1 s1 ht1=>?_⟩;refine ⟨_,rfl,y,CR,dr,fr,_,rfl,s1 _ _ h0,TR.cl,TR.nB,k2,_,rfl,x,cs _,dx,stF _,_,rfl,s1 _ _ hx,TS.cl _,TS.nW _,stF_w _,pb,r.bot,a,rfl,.inr (s1 _ _ e2),fewB,fun b1 H2 s12 hb1=>?_⟩;have s2:=s1.trans s12;refine ⟨_,rfl,_,rfl,_,rfl,y,CR,dr,fr,_,rfl,s2 _ _ h0,TR.cl,TR.nL,k3,_,rfl,x,cs _,dx,stF _,_,rfl,s2 _ _ hx,TS.cl _,TS.nW _,stF_w _,pl,iV r.ls,a,.int 0,rfl,.inr (s2 _ _ e3),by rw [J1v];exact lw,fun l1 H3 s23 hl1=>?_⟩;have s3:=s2.trans s23;refine ⟨_,rfl,y,CR,dr,fr,_,rfl,s3 _ _ h0,TR.cl,TR.nU,k4,_,rfl,x,cs _,dx,stF _,_,rfl,s3 _ _ hx,TS.cl _,TS.nW _,stF_w _,pu,bV r.ts,a,.bl false,rfl,.inr (s3 _ _ e4),by rw [length_map];exact lt,fun u1 H4 s34 hu1=>?_⟩;exact J27 left (.inl (s34 _ _ (s23 _ _ (s12 _ _ ht1)))) (.inl (s34 _ _ (s23 _ _ hb1))) (.inl (by rw [s34 _ _ hl1,iV_set];rfl)) (.inl (by rw [hu1,bV_set];rfl)) fun p H' s' R'=>k p H' (s3.trans (s34.trans s')) R'
  | even a b=>cases hs
  | over a b=>cases hs
  | under a b=>cases hs
  | overs a t=>cases hs
  | unders a t=>cases hs
theorem scEvBehind:FnScope ["self","rest","top","bottom","turned"] ["self","rest"] (J6 J4i):=fS
theorem ok_evbehind {f fW fP fC fT fI CR:Addr} {fd fdW fdP fdC fdT fdI:FuncData} {cs:Kd->Addr} (F:Fun K "behind" "Even.behind" J4i f fd) (TS:TxtS K cs) (TR:TxtRest K CR)
  (GW:FnOk P w K mg base CX0 1 fW fdW ["row","letter"] J37) (bW:Binds K fdW ["row","letter"] []) (mW:mg "without"=some (.ref fW)) (kW:keepIn K (.ref fW)=true)
  (GP:FnOk P w K mg base CX0 2 fP fdP ["row","winner","loser","ahead"] spPut) (bP:Binds K fdP ["row","winner","loser","ahead"] []) (mP:mg "put_beside"=some (.ref fP)) (kP:keepIn K (.ref fP)=true)
  (GC:FnOk P w K mg base CX0 1 fC fdC ["row","letter","entry"] J2o) (bC:Binds K fdC ["row","letter","entry"] []) (mC:mg "changed"=some (.ref fC)) (kC:keepIn K (.ref fC)=true)
  (GT:FnOk P w K mg base CX0 2 fT fdT ["rest","winner","loser"] (J47 CR)) (bT:Binds K fdT ["rest","winner","loser"] []) (mT:mg "turns_behind"=some (.ref fT)) (kT:keepIn K (.ref fT)=true)
  (M:Mk K CR fI) (GI:FnOk P w K mg base CX0 2 fI fdI ["self","top","bottom","lengths","turned"] (J2n CR)) (bI:Binds K fdI ["self","top","bottom","lengths","turned"] []) (mgR:mg "Rest"=some (.ref CR)) :
  FnOk P w K mg base CX0 4 f fd ["self","rest"] (J1y cs CR .ev):=by
 refine F.ok scEvBehind (fun vs H Q E h=>?_) (fun cdv A outer s H vs Q E hr h=>?_)
 ·obtain ⟨x,y,s,r,rfl,_⟩:=h;rfl
 ·obtain ⟨x,y,s,r,rfl,hs,⟨dx,hx⟩,R,fit,k⟩:=h;have hr1:Room 1 _:=rm hr;have hr2:Room 2 _:=rm hr;have ok:=fit.ok;have left:=fit.left;have win:=fit.win;have winB:=ok.perm.mem_iff.mpr win;have few:=Nat.le_trans ok.row.len_le ok.few;have fewB:=Nat.le_trans ok.rowB.len_le ok.few;have lw:=ok.row.lt _ win;obtain ⟨dr,fr,pt,pb,pl,pu,h0,⟨k1,k2,k3,k4,k5⟩,e1,e2,e3,e4⟩:=R.ex
  cases s with
  | even a b =>
   obtain ⟨lose,wl⟩:=fit.lose b rfl;have lt:a < r.ts.length:=by rw [ok.len];exact lw
   have lb:b < r.ts.length:=by rw [ok.len];exact ok.row.lt _ lose
   refine ⟨_,J1 (Ji (i:=2) scEvBehind.nd rfl (Or.inl rfl) (Jc GW hr1 rfl mW kW bW .nil pass0 (J0 (Ja (pv 1) rfl) (J0 (Ja (pv 0) rfl) J3))))
    (J1 (Ji (i:=3) scEvBehind.nd rfl (Or.inl rfl) (Jc GW hr1 rfl mW kW bW .nil pass0 (J0 (Jc GP hr2 rfl mP kP bP .nil pass0 (J0 (Ja (pv 1) rfl) (J0 (Ja (pv 0) rfl) (J0 (Ja (pv 0) rfl) (J0 pe_bl J3))))) (J0 (Ja (pv 0) rfl) J3))))
    (J1 (Ji (i:=4) scEvBehind.nd rfl (Or.inl rfl) (Jc GC hr1 rfl mC kC bC .nil pass0 (J0 (Jc GT hr2 rfl mT kT bT .nil pass0 (J0 (pv 1) (J0 (Ja (pv 0) rfl) (J0 (Ja (pv 0) rfl) J3)))) (J0 (Ja (pv 0) rfl) (J0 pe_bl J3)))))
    (J4 (Jh (J16 M GI hr rfl mgR bI .nil pass0 (J0 (pv 2) (J0 (pv 3) (J0 (Jc GC hr1 rfl mC kC bC .nil pass0 (J0 (Ja (pv 1) rfl) (J0 (Ja (pv 0) rfl) (J0 Jd J3)))) (J0 (pv 4) J3))))))))),?_⟩
   refine ⟨_,rfl,y,CR,dr,fr,_,rfl,h0,TR.cl,TR.nT,k1,_,rfl,x,cs _,dx,stF _,_,rfl,hx,TS.cl _,TS.nW _,stF_w _,pt,r.top,a,rfl,.inr e1,few,fun t1 H1 s1 ht1=>?_⟩;refine ⟨_,rfl,y,CR,dr,fr,_,rfl,s1 _ _ h0,TR.cl,TR.nB,k2,_,rfl,x,cs _,dx,stF _,_,rfl,s1 _ _ hx,TS.cl _,TS.nW _,stF_w _,_,rfl,x,cs _,dx,stF _,_,rfl,s1 _ _ hx,TS.cl _,TS.nL _,stF_l _,pb,r.bot,a,b,false,rfl,.inr (s1 _ _ e2),fewB,winB,wl,fun b0 H2 s12 hb0=>?_⟩;have s2:=s1.trans s12;have fewP:(putR r.bot a b false).length<=24:=by rw [(J2h ok.rowB.nd (ok.perm.mem_iff.mpr lose) false).length_eq];exact fewB
   refine ⟨_,rfl,x,cs _,dx,stF _,_,rfl,s2 _ _ hx,TS.cl _,TS.nW _,stF_w _,b0,_,a,rfl,.inl hb0,fewP,fun b1 H3 s23 hb1=>?_⟩;have s3:=s2.trans s23;refine ⟨_,rfl,_,rfl,x,cs _,dx,stF _,_,rfl,s3 _ _ hx,TS.cl _,TS.nW _,stF_w _,_,rfl,x,cs _,dx,stF _,_,rfl,s3 _ _ hx,TS.cl _,TS.nL _,stF_l _,y,r,a,b,rfl,R.same s3,lt,lb,fun u0 H4 s34 hu0=>?_⟩;have s4:=s3.trans s34;refine ⟨_,rfl,x,cs _,dx,stF _,_,rfl,s4 _ _ hx,TS.cl _,TS.nW _,stF_w _,u0,bV (J2c r a b),a,.bl false,rfl,.inl hu0,by rw [length_map,J1s];exact lt,fun u1 H5 s45 hu1=>?_⟩;have s5:=s4.trans s45;refine ⟨_,rfl,_,rfl,_,rfl,y,CR,dr,fr,_,rfl,s5 _ _ h0,TR.cl,TR.nL,k3,_,rfl,x,cs _,dx,stF _,_,rfl,s5 _ _ hx,TS.cl _,TS.nW _,stF_w _,pl,iV r.ls,a,.int 0,rfl,.inr (s5 _ _ e3),by rw [J1v];exact lw,fun l1 H6 s56 hl1=>⟨_,rfl,?_⟩⟩;exact J27 left (.inl (s56 _ _ (s45 _ _ (s34 _ _ (s23 _ _ (s12 _ _ ht1)))))) (.inl (s56 _ _ (s45 _ _ (s34 _ _ hb1)))) (.inl (by rw [hl1,iV_set];rfl)) (.inl (by rw [s56 _ _ hu1,bV_set];rfl)) fun p H' s' R'=>k p H' (s5.trans (s56.trans s')) R'
  | home a=>cases hs
  | over a b=>cases hs
  | under a b=>cases hs
  | overs a t=>cases hs
  | unders a t=>cases hs
theorem scOvBehind:FnScope ["self","rest","bottom","lengths"] ["self","rest"] (J6 J4d):=fS
theorem ok_ovbehind {f fP fS fT fI CR:Addr} {fd fdP fdS fdT fdI:FuncData} {cs:Kd->Addr} (F:Fun K "behind" "Over.behind" J4d f fd) (TS:TxtS K cs) (TR:TxtRest K CR)
  (GP:FnOk P w K mg base CX0 2 fP fdP ["row","winner","loser","ahead"] spPut) (bP:Binds K fdP ["row","winner","loser","ahead"] []) (mP:mg "put_beside"=some (.ref fP)) (kP:keepIn K (.ref fP)=true)
  (GS:FnOk P w K mg base CX0 2 fS fdS ["rest","winner","less"] (J50 CR)) (bS:Binds K fdS ["rest","winner","less"] []) (mS:mg "shortened"=some (.ref fS)) (kS:keepIn K (.ref fS)=true)
  (GT:FnOk P w K mg base CX0 2 fT fdT ["rest","winner","loser"] (J47 CR)) (bT:Binds K fdT ["rest","winner","loser"] []) (mT:mg "turns_behind"=some (.ref fT)) (kT:keepIn K (.ref fT)=true)
  (M:Mk K CR fI) (GI:FnOk P w K mg base CX0 2 fI fdI ["self","top","bottom","lengths","turned"] (J2n CR)) (bI:Binds K fdI ["self","top","bottom","lengths","turned"] []) (mgR:mg "Rest"=some (.ref CR)) :
  FnOk P w K mg base CX0 4 f fd ["self","rest"] (J1y cs CR .ov):=by
 refine F.ok scOvBehind (fun vs H Q E h=>?_) (fun cdv A outer s H vs Q E hr h=>?_)
 ·obtain ⟨x,y,s,r,rfl,_⟩:=h;rfl
 ·obtain ⟨x,y,s,r,rfl,hs,⟨dx,hx⟩,R,fit,k⟩:=h;have hr1:Room 1 _:=rm hr;have hr2:Room 2 _:=rm hr;have ok:=fit.ok;have left:=fit.left;have win:=fit.win;have winB:=ok.perm.mem_iff.mpr win;have few:=Nat.le_trans ok.row.len_le ok.few;have fewB:=Nat.le_trans ok.rowB.len_le ok.few;have lw:=ok.row.lt _ win;obtain ⟨dr,fr,pt,pb,pl,pu,h0,⟨k1,k2,k3,k4,k5⟩,e1,e2,e3,e4⟩:=R.ex
  cases s with
  | over a b =>
   obtain ⟨lose,wl⟩:=fit.lose b rfl;have lt:a < r.ts.length:=by rw [ok.len];exact lw
   have lbl:=ok.row.lt _ lose;have lb:b < r.ts.length:=by rw [ok.len];exact lbl
   refine ⟨_,J1 (Ji (i:=2) scOvBehind.nd rfl (Or.inl rfl) (Jc GP hr2 rfl mP kP bP .nil pass0 (J0 (Ja (pv 1) rfl) (J0 (Ja (pv 0) rfl) (J0 (Ja (pv 0) rfl) (J0 (pe_ix Js (Ja (pv 1) rfl) (Ja (pv 0) rfl) (fun _ _=>rfl)) J3))))))
    (J1 (Ji (i:=3) scOvBehind.nd rfl (Or.inl rfl) (Jc GS hr2 rfl mS kS bS .nil pass0 (J0 (pv 1) (J0 (Ja (pv 0) rfl) (J0 (pe_ix Js (Ja (pv 1) rfl) (Ja (pv 0) rfl) (fun _ _=>rfl)) J3)))))
    (J4 (Jh (J16 M GI hr rfl mgR bI .nil pass0 (J0 (Ja (pv 1) rfl) (J0 (pv 2) (J0 (pv 3) (J0 (Jc GT hr2 rfl mT kT bT .nil pass0 (J0 (pv 1) (J0 (Ja (pv 0) rfl) (J0 (Ja (pv 0) rfl) J3)))) J3)))))))),?_⟩
   refine ⟨_,rfl,y,CR,dr,fr,_,rfl,h0,TR.cl,TR.nB,k2,_,rfl,x,cs _,dx,stF _,_,rfl,hx,TS.cl _,TS.nW _,stF_w _,_,rfl,x,cs _,dx,stF _,_,rfl,hx,TS.cl _,TS.nL _,stF_l _,_,rfl,y,CR,dr,fr,_,rfl,h0,TR.cl,TR.nU,k4,_,rfl,x,cs _,dx,stF _,_,rfl,hx,TS.cl _,TS.nW _,stF_w _,pu,_,_,_,rfl,rfl,SqT.of e4,Jj (J4w lt),pb,r.bot,a,b,_,rfl,.inr e2,fewB,winB,wl,fun q1 H1 s1 hq1=>?_⟩;refine ⟨_,rfl,_,rfl,x,cs _,dx,stF _,_,rfl,s1 _ _ hx,TS.cl _,TS.nW _,stF_w _,_,rfl,y,CR,dr,fr,_,rfl,s1 _ _ h0,TR.cl,TR.nL,k3,_,rfl,x,cs _,dx,stF _,_,rfl,s1 _ _ hx,TS.cl _,TS.nL _,stF_l _,pl,_,_,_,rfl,rfl,SqT.of (s1 _ _ e3),Jj (J1a lbl),y,r,a,_,rfl,R.same s1,lw,fun l1 H2 s12 hl1=>?_⟩;have s2:=s1.trans s12;refine ⟨_,rfl,y,CR,dr,fr,_,rfl,s2 _ _ h0,TR.cl,TR.nT,k1,_,rfl,_,rfl,_,rfl,_,rfl,x,cs _,dx,stF _,_,rfl,s2 _ _ hx,TS.cl _,TS.nW _,stF_w _,_,rfl,x,cs _,dx,stF _,_,rfl,s2 _ _ hx,TS.cl _,TS.nL _,stF_l _,y,r,a,b,rfl,R.same s2,lt,lb,fun u1 H3 s23 hu1=>?_⟩;exact J27 left (.inr (s23 _ _ (s2 _ _ e1))) (.inl (s23 _ _ (s12 _ _ hq1))) (.inl (s23 _ _ hl1)) (.inl hu1) fun p H' s' R'=>k p H' (s2.trans (s23.trans s')) R'
  | home a=>cases hs
  | even a b=>cases hs
  | under a b=>cases hs
  | overs a t=>cases hs
  | unders a t=>cases hs
theorem scUnBehind:FnScope ["self","rest","top","lengths"] ["self","rest"] (J6 J4b):=fS
theorem ok_unbehind {f fP fS fT fI CR:Addr} {fd fdP fdS fdT fdI:FuncData} {cs:Kd->Addr} (F:Fun K "behind" "Under.behind" J4b f fd) (TS:TxtS K cs) (TR:TxtRest K CR)
  (GP:FnOk P w K mg base CX0 2 fP fdP ["row","winner","loser","ahead"] spPut) (bP:Binds K fdP ["row","winner","loser","ahead"] []) (mP:mg "put_beside"=some (.ref fP)) (kP:keepIn K (.ref fP)=true)
  (GS:FnOk P w K mg base CX0 2 fS fdS ["rest","winner","less"] (J50 CR)) (bS:Binds K fdS ["rest","winner","less"] []) (mS:mg "shortened"=some (.ref fS)) (kS:keepIn K (.ref fS)=true)
  (GT:FnOk P w K mg base CX0 2 fT fdT ["rest","winner","loser"] (J47 CR)) (bT:Binds K fdT ["rest","winner","loser"] []) (mT:mg "turns_behind"=some (.ref fT)) (kT:keepIn K (.ref fT)=true)
  (M:Mk K CR fI) (GI:FnOk P w K mg base CX0 2 fI fdI ["self","top","bottom","lengths","turned"] (J2n CR)) (bI:Binds K fdI ["self","top","bottom","lengths","turned"] []) (mgR:mg "Rest"=some (.ref CR)) :
  FnOk P w K mg base CX0 4 f fd ["self","rest"] (J1y cs CR .un):=by
 refine F.ok scUnBehind (fun vs H Q E h=>?_) (fun cdv A outer s H vs Q E hr h=>?_)
 ·obtain ⟨x,y,s,r,rfl,_⟩:=h;rfl
 ·obtain ⟨x,y,s,r,rfl,hs,⟨dx,hx⟩,R,fit,k⟩:=h;have hr1:Room 1 _:=rm hr;have hr2:Room 2 _:=rm hr;have ok:=fit.ok;have left:=fit.left;have win:=fit.win;have winB:=ok.perm.mem_iff.mpr win;have few:=Nat.le_trans ok.row.len_le ok.few;have fewB:=Nat.le_trans ok.rowB.len_le ok.few;have lw:=ok.row.lt _ win;obtain ⟨dr,fr,pt,pb,pl,pu,h0,⟨k1,k2,k3,k4,k5⟩,e1,e2,e3,e4⟩:=R.ex
  cases s with
  | under a b =>
   obtain ⟨lose,wl⟩:=fit.lose b rfl;have lt:a < r.ts.length:=by rw [ok.len];exact lw
   have lbl:=ok.row.lt _ lose;have lb:b < r.ts.length:=by rw [ok.len];exact lbl
   refine ⟨_,J1 (Ji (i:=2) scUnBehind.nd rfl (Or.inl rfl) (Jc GP hr2 rfl mP kP bP .nil pass0 (J0 (Ja (pv 1) rfl) (J0 (Ja (pv 0) rfl) (J0 (Ja (pv 0) rfl) (J0 (pe_ix Js (Ja (pv 1) rfl) (Ja (pv 0) rfl) (fun _ _=>rfl)) J3))))))
    (J1 (Ji (i:=3) scUnBehind.nd rfl (Or.inl rfl) (Jc GS hr2 rfl mS kS bS .nil pass0 (J0 (pv 1) (J0 (Ja (pv 0) rfl) (J0 (pe_ix Js (Ja (pv 1) rfl) (Ja (pv 0) rfl) (fun _ _=>rfl)) J3)))))
    (J4 (Jh (J16 M GI hr rfl mgR bI .nil pass0 (J0 (pv 2) (J0 (Ja (pv 1) rfl) (J0 (pv 3) (J0 (Jc GT hr2 rfl mT kT bT .nil pass0 (J0 (pv 1) (J0 (Ja (pv 0) rfl) (J0 (Ja (pv 0) rfl) J3)))) J3)))))))),?_⟩
   refine ⟨_,rfl,y,CR,dr,fr,_,rfl,h0,TR.cl,TR.nT,k1,_,rfl,x,cs _,dx,stF _,_,rfl,hx,TS.cl _,TS.nW _,stF_w _,_,rfl,x,cs _,dx,stF _,_,rfl,hx,TS.cl _,TS.nL _,stF_l _,_,rfl,y,CR,dr,fr,_,rfl,h0,TR.cl,TR.nU,k4,_,rfl,x,cs _,dx,stF _,_,rfl,hx,TS.cl _,TS.nW _,stF_w _,pu,_,_,_,rfl,rfl,SqT.of e4,Jj (J4w lt),pt,r.top,a,b,_,rfl,.inr e1,few,win,wl,fun q1 H1 s1 hq1=>?_⟩;refine ⟨_,rfl,_,rfl,x,cs _,dx,stF _,_,rfl,s1 _ _ hx,TS.cl _,TS.nW _,stF_w _,_,rfl,y,CR,dr,fr,_,rfl,s1 _ _ h0,TR.cl,TR.nL,k3,_,rfl,x,cs _,dx,stF _,_,rfl,s1 _ _ hx,TS.cl _,TS.nL _,stF_l _,pl,_,_,_,rfl,rfl,SqT.of (s1 _ _ e3),Jj (J1a lbl),y,r,a,_,rfl,R.same s1,lw,fun l1 H2 s12 hl1=>?_⟩;have s2:=s1.trans s12;refine ⟨_,rfl,_,rfl,y,CR,dr,fr,_,rfl,s2 _ _ h0,TR.cl,TR.nB,k2,_,rfl,_,rfl,_,rfl,x,cs _,dx,stF _,_,rfl,s2 _ _ hx,TS.cl _,TS.nW _,stF_w _,_,rfl,x,cs _,dx,stF _,_,rfl,s2 _ _ hx,TS.cl _,TS.nL _,stF_l _,y,r,a,b,rfl,R.same s2,lt,lb,fun u1 H3 s23 hu1=>?_⟩;exact J27 left (.inl (s23 _ _ (s12 _ _ hq1))) (.inr (s23 _ _ (s2 _ _ e2))) (.inl (s23 _ _ hl1)) (.inl hu1) fun p H' s' R'=>k p H' (s2.trans (s23.trans s')) R'
  | home a=>cases hs
  | even a b=>cases hs
  | over a b=>cases hs
  | overs a t=>cases hs
  | unders a t=>cases hs
theorem scOsBehind:FnScope ["self","rest","lengths"] ["self","rest"] (J6 J4f):=fS
theorem ok_osbehind {f fL fS fI CR:Addr} {fd fdL fdS fdI:FuncData} {cs:Kd->Addr} (F:Fun K "behind" "Overs.behind" J4f f fd) (TS:TxtS K cs) (TR:TxtRest K CR)
  (GL:FnOk P w K mg base CX0 1 fL fdL ["rest","letters"] (J52 K)) (bL:Binds K fdL ["rest","letters"] []) (mL:mg "length_of"=some (.ref fL)) (kL:keepIn K (.ref fL)=true)
  (GS:FnOk P w K mg base CX0 2 fS fdS ["rest","winner","less"] (J50 CR)) (bS:Binds K fdS ["rest","winner","less"] []) (mS:mg "shortened"=some (.ref fS)) (kS:keepIn K (.ref fS)=true)
  (M:Mk K CR fI) (GI:FnOk P w K mg base CX0 2 fI fdI ["self","top","bottom","lengths","turned"] (J2n CR)) (bI:Binds K fdI ["self","top","bottom","lengths","turned"] []) (mgR:mg "Rest"=some (.ref CR))
  (HL:∀ k,HasM P w K mg base CX0 2 "losers" ["self","rest"] (J1k cs CR k) (cs k)) :
  FnOk P w K mg base CX0 4 f fd ["self","rest"] (J1y cs CR .os):=by
 refine F.ok scOsBehind (fun vs H Q E h=>?_) (fun cdv A outer s H vs Q E hr h=>?_)
 ·obtain ⟨x,y,s,r,rfl,_⟩:=h;rfl
 ·obtain ⟨x,y,s,r,rfl,hs,⟨dx,hx⟩,R,fit,k⟩:=h;have hr1:Room 1 _:=rm hr;have hr2:Room 2 _:=rm hr;have ok:=fit.ok;have left:=fit.left;have win:=fit.win;have winB:=ok.perm.mem_iff.mpr win;have few:=Nat.le_trans ok.row.len_le ok.few;have fewB:=Nat.le_trans ok.rowB.len_le ok.few;have lw:=ok.row.lt _ win;obtain ⟨dr,fr,pt,pb,pl,pu,h0,⟨k1,k2,k3,k4,k5⟩,e1,e2,e3,e4⟩:=R.ex
  cases s with
  | overs a t =>
   have hlt:∀ j∈J9 r.bot a,j < r.ls.length:=fun j hj=>ok.rowB.lt j (Jw hj);have hln:(J9 r.bot a).length<=24:=by unfold J9;rw [length_drop];lia
   have hsz:(lenOf r.ls (J9 r.bot a)).natAbs < 2 ^ 4000:=by
    have p0:∀ j∈r.bot,1<=r.ls.getD j 0:=fun j hj=>ok.rowB.pos j hj;have h1:lenOf r.ls r.bot=r.size:=ok.sizeB;have h2:lenOf r.ls r.bot=lenOf r.ls (r.bot.take (r.bot.idxOf a + 1)) + lenOf r.ls (J9 r.bot a):=by
     rw [<- J21];show _=lenOf r.ls (r.bot.take (r.bot.idxOf a + 1) ++ r.bot.drop (r.bot.idxOf a + 1));rw [take_append_drop]
    have h3:=J14 (ls:=r.ls) (os:=r.bot.take (r.bot.idxOf a + 1)) fun j hj=>by have:=p0 j (List.mem_of_mem_take hj);lia
    have h4:=J14 (ls:=r.ls) (os:=J9 r.bot a) fun j hj=>by have:=p0 j (Jw hj);lia
    have h5:=fit.small;have h6:(lenOf r.ls (J9 r.bot a)).natAbs<=10 ^ 30:=by lia
    exact Nat.lt_of_le_of_lt h6 (by decide)
   refine ⟨_,J1 (Ji (i:=2) scOsBehind.nd rfl (Or.inl rfl) (Jc GS hr2 rfl mS kS bS .nil pass0 (J0 (pv 1) (J0 (Ja (pv 0) rfl) (J0 (pe_op op_mulB (Ja (pv 0) rfl) (Jc GL hr1 rfl mL kL bL .nil pass0 (J0 (pv 1) (J0 (J4k (sp:=J1k cs CR) (cls:=cs) (pv 0) HL hr2 pass0 (J0 (pv 1) J3)) J3)))) J3)))))
    (J4 (Jh (J16 M GI hr rfl mgR bI .nil pass0 (J0 (Ja (pv 1) rfl) (J0 (Ja (pv 1) rfl) (J0 (pv 2) (J0 (Ja (pv 1) rfl) J3))))))),?_⟩
   refine ⟨_,rfl,_,rfl,x,cs _,dx,stF _,_,rfl,hx,TS.cl _,TS.nW _,stF_w _,_,rfl,x,cs _,dx,stF _,_,rfl,hx,TS.cl _,TS.nT _,stF_t _,_,rfl,_,rfl,x,.os,dx,stF _,rfl,hx,stF_no _ (by decide +kernel) (by decide +kernel) (by decide +kernel),_,rfl,x,y,.overs a t,r,rfl,rfl,⟨dx,hx⟩,R,win,winB,fun lp H1 s1 hlp=>?_⟩;refine ⟨CR,y,lp,dr,pl,fr,r.ls,J9 r.bot a,rfl,s1 _ _ h0,TR.cl,TR.nL,k3,s1 _ _ e3,hlp,hlt,hln,fun H2 s12=>?_⟩;have s2:=s1.trans s12;refine ⟨_,_,rfl,rfl,⟨fit.few,hsz⟩,y,r,a,_,rfl,R.same s2,lw,fun l1 H3 s23 hl1=>?_⟩;have s3:=s2.trans s23;refine ⟨_,rfl,y,CR,dr,fr,_,rfl,s3 _ _ h0,TR.cl,TR.nT,k1,_,rfl,y,CR,dr,fr,_,rfl,s3 _ _ h0,TR.cl,TR.nB,k2,_,rfl,_,rfl,y,CR,dr,fr,_,rfl,s3 _ _ h0,TR.cl,TR.nU,k4,?_⟩;exact J27 left (.inr (s3 _ _ e1)) (.inr (s3 _ _ e2)) (.inl hl1) (.inr (s3 _ _ e4)) fun p H' s' R'=>k p H' (s3.trans s') R'
  | home a=>cases hs
  | even a b=>cases hs
  | over a b=>cases hs
  | under a b=>cases hs
  | unders a t=>cases hs
theorem scUsBehind:FnScope ["self","rest","lengths"] ["self","rest"] (J6 J4a):=fS
theorem ok_usbehind {f fL fS fI CR:Addr} {fd fdL fdS fdI:FuncData} {cs:Kd->Addr} (F:Fun K "behind" "Unders.behind" J4a f fd) (TS:TxtS K cs) (TR:TxtRest K CR)
  (GL:FnOk P w K mg base CX0 1 fL fdL ["rest","letters"] (J52 K)) (bL:Binds K fdL ["rest","letters"] []) (mL:mg "length_of"=some (.ref fL)) (kL:keepIn K (.ref fL)=true)
  (GS:FnOk P w K mg base CX0 2 fS fdS ["rest","winner","less"] (J50 CR)) (bS:Binds K fdS ["rest","winner","less"] []) (mS:mg "shortened"=some (.ref fS)) (kS:keepIn K (.ref fS)=true)
  (M:Mk K CR fI) (GI:FnOk P w K mg base CX0 2 fI fdI ["self","top","bottom","lengths","turned"] (J2n CR)) (bI:Binds K fdI ["self","top","bottom","lengths","turned"] []) (mgR:mg "Rest"=some (.ref CR))
  (HL:∀ k,HasM P w K mg base CX0 2 "losers" ["self","rest"] (J1k cs CR k) (cs k)) :
  FnOk P w K mg base CX0 4 f fd ["self","rest"] (J1y cs CR .us):=by
 refine F.ok scUsBehind (fun vs H Q E h=>?_) (fun cdv A outer s H vs Q E hr h=>?_)
 ·obtain ⟨x,y,s,r,rfl,_⟩:=h;rfl
 ·obtain ⟨x,y,s,r,rfl,hs,⟨dx,hx⟩,R,fit,k⟩:=h;have hr1:Room 1 _:=rm hr;have hr2:Room 2 _:=rm hr;have ok:=fit.ok;have left:=fit.left;have win:=fit.win;have winB:=ok.perm.mem_iff.mpr win;have few:=Nat.le_trans ok.row.len_le ok.few;have fewB:=Nat.le_trans ok.rowB.len_le ok.few;have lw:=ok.row.lt _ win;obtain ⟨dr,fr,pt,pb,pl,pu,h0,⟨k1,k2,k3,k4,k5⟩,e1,e2,e3,e4⟩:=R.ex
  cases s with
  | unders a t =>
   have hlt:∀ j∈J9 r.top a,j < r.ls.length:=fun j hj=>ok.row.lt j (Jw hj);have hln:(J9 r.top a).length<=24:=by unfold J9;rw [length_drop];lia
   have hsz:(lenOf r.ls (J9 r.top a)).natAbs < 2 ^ 4000:=by
    have p0:∀ j∈r.top,1<=r.ls.getD j 0:=fun j hj=>ok.row.pos j hj;have h1:lenOf r.ls r.top=r.size:=rfl;have h2:lenOf r.ls r.top=lenOf r.ls (r.top.take (r.top.idxOf a + 1)) + lenOf r.ls (J9 r.top a):=by
     rw [<- J21];show _=lenOf r.ls (r.top.take (r.top.idxOf a + 1) ++ r.top.drop (r.top.idxOf a + 1));rw [take_append_drop]
    have h3:=J14 (ls:=r.ls) (os:=r.top.take (r.top.idxOf a + 1)) fun j hj=>by have:=p0 j (List.mem_of_mem_take hj);lia
    have h4:=J14 (ls:=r.ls) (os:=J9 r.top a) fun j hj=>by have:=p0 j (Jw hj);lia
    have h5:=fit.small;have h6:(lenOf r.ls (J9 r.top a)).natAbs<=10 ^ 30:=by lia
    exact Nat.lt_of_le_of_lt h6 (by decide)
   refine ⟨_,J1 (Ji (i:=2) scUsBehind.nd rfl (Or.inl rfl) (Jc GS hr2 rfl mS kS bS .nil pass0 (J0 (pv 1) (J0 (Ja (pv 0) rfl) (J0 (pe_op op_mulB (Ja (pv 0) rfl) (Jc GL hr1 rfl mL kL bL .nil pass0 (J0 (pv 1) (J0 (J4k (sp:=J1k cs CR) (cls:=cs) (pv 0) HL hr2 pass0 (J0 (pv 1) J3)) J3)))) J3)))))
    (J4 (Jh (J16 M GI hr rfl mgR bI .nil pass0 (J0 (Ja (pv 1) rfl) (J0 (Ja (pv 1) rfl) (J0 (pv 2) (J0 (Ja (pv 1) rfl) J3))))))),?_⟩
   refine ⟨_,rfl,_,rfl,x,cs _,dx,stF _,_,rfl,hx,TS.cl _,TS.nW _,stF_w _,_,rfl,x,cs _,dx,stF _,_,rfl,hx,TS.cl _,TS.nT _,stF_t _,_,rfl,_,rfl,x,.us,dx,stF _,rfl,hx,stF_no _ (by decide +kernel) (by decide +kernel) (by decide +kernel),_,rfl,x,y,.unders a t,r,rfl,rfl,⟨dx,hx⟩,R,win,winB,fun lp H1 s1 hlp=>?_⟩;refine ⟨CR,y,lp,dr,pl,fr,r.ls,J9 r.top a,rfl,s1 _ _ h0,TR.cl,TR.nL,k3,s1 _ _ e3,hlp,hlt,hln,fun H2 s12=>?_⟩;have s2:=s1.trans s12;refine ⟨_,_,rfl,rfl,⟨fit.few,hsz⟩,y,r,a,_,rfl,R.same s2,lw,fun l1 H3 s23 hl1=>?_⟩;have s3:=s2.trans s23;refine ⟨_,rfl,y,CR,dr,fr,_,rfl,s3 _ _ h0,TR.cl,TR.nT,k1,_,rfl,y,CR,dr,fr,_,rfl,s3 _ _ h0,TR.cl,TR.nB,k2,_,rfl,_,rfl,y,CR,dr,fr,_,rfl,s3 _ _ h0,TR.cl,TR.nU,k4,?_⟩;exact J27 left (.inr (s3 _ _ e1)) (.inr (s3 _ _ e2)) (.inl hl1) (.inr (s3 _ _ e4)) fun p H' s' R'=>k p H' (s3.trans s') R'
  | home a=>cases hs
  | even a b=>cases hs
  | over a b=>cases hs
  | under a b=>cases hs
  | overs a t=>cases hs
def Frz (H H':Hp):Prop:=∀ b o,H b=some o->(∀ xs,o≠.lst xs)->H' b=some o
theorem Frz.of {H H':Hp} (s:Same H H'):Frz H H':=fun b o e _=>s b o e
theorem Frz.trans {H H1 H2:Hp} (a:Frz H H1) (b:Frz H1 H2):Frz H H2:=fun c o e n=>b c o (a c o e n) n
theorem Frz.upd {H:Hp} {l:Addr} {xs ys:List V} (h:H l=some (.lst xs)):Frz H (upd H l (.lst ys)):=fun b o e n=>by
 rw [Jb (fun q=>n xs (by subst q;rw [h] at e;exact (Option.some.inj e).symm))];exact e
theorem RestAt.frz {CR:Addr} {H H':Hp} {x:Addr} {r:Rst} (h:RestAt CR H x r) (s:Frz H H'):RestAt CR H' x r:=by
 obtain ⟨dx,fs,pt,pb,pl,pu,h0,hl,h1,h2,h3,h4⟩:=h.ex;exact ⟨dx,fs,pt,pb,pl,pu,s _ _ h0 (fun _ e=>nomatch e),hl,s _ _ h1 (fun _ e=>nomatch e),s _ _ h2 (fun _ e=>nomatch e),s _ _ h3 (fun _ e=>nomatch e),s _ _ h4 (fun _ e=>nomatch e)⟩
theorem StepAt.frz {cs:Kd->Addr} {H H':Hp} {p:Addr} {s:Stp} (h:StepAt cs H p s) (e:Frz H H'):StepAt cs H' p s:=let ⟨dx,q⟩:=h;⟨dx,e _ _ q (fun _ e=>nomatch e)⟩
theorem atI_last {xs:List V} {n:Nat} {v:V} (h:xs.length=n + 1) (e:xs[n]?=some v):atI xs (-1)=some v:=by
 unfold atI ixN;rw [if_neg (by decide),if_pos (by rw [h];lia)];show xs[((-1:Int) + (xs.length:Int)).toNat]?=some v;rw [h,show ((-1:Int) + ((n + 1:Nat):Int)).toNat=n by lia];exact e
theorem inV_nV (j:Nat) (row:List Nat):inV (V.int (j:Nat)) (nV row)=decide (j∈row):=by
 rw [nV_eq];unfold inV;rw [Bool.eq_iff_iff,List.any_eq_true,decide_eq_true_iff];constructor
 ·rintro ⟨y,hy,e⟩;obtain ⟨i,hi,rfl⟩:=mem_map.mp hy;have e':((i:Int) == (j:Int))=true:=e;have:i=j:=by have:=eq_of_beq e';lia
  exact this ▸ hi
 ·intro h;exact ⟨V.int (j:Nat),mem_map.mpr ⟨j,h,rfl⟩,(beq_self_eq_true _:((j:Int) == (j:Int))=true)⟩
theorem flat_nV (row:List Nat):(nV row).all flatV=true:=by
 rw [nV_eq,all_eq_true];intro y hy;obtain ⟨i,_,rfl⟩:=mem_map.mp hy;rfl
theorem home_kd (k:Kd):decide (V.str (wordS k)=V.str (Str.ofString "home"))=(match k with | .ho=>true | _=>false):=by cases k <;> decide +kernel
theorem home_word (s:Stp):decide (V.str (wordS (kd s))=V.str (Str.ofString "home"))=s.isHome:=by
 rw [home_kd];cases s <;> rfl
theorem flat_one (n:Nat):(List.replicate n [V.int 1]).flatten=iV (List.replicate n 1):=by
 induction n with
 | zero=>rfl
 | succ n ih=>rw [replicate_succ,flatten_cons,ih,replicate_succ];rfl
def spFirstT (C:Addr):Sp:=fun vs H Q _=>∃ (x:Addr) (ls:List Int) (os:List Nat) (ts:List Bool),vs=[.ref x]/\LineAt C H x ls os ts/\1<=ls.length/\ls.length<=24/\∀ p H',Same H H'->H' p=some (.tup (iV (List.replicate ls.length 1)))->Q (.ref p) H'
theorem scFirstT:FnScope ["line"] ["line"] (J6 sFirstT):=fS
theorem ok_firstT {f C:Addr} {fd:FuncData} (F:Fun K "first_towers" "first_towers" sFirstT f fd) (T:TxtR mg) (TC:TxtC K mg C):FnOk P w K mg base CX0 1 f fd ["line"] (spFirstT C):=by
 refine F.ok scFirstT (fun vs H Q E h=>?_) (fun cdv A outer s H vs Q E hr h=>?_)
 ·obtain ⟨x,ls,os,ts,rfl,_⟩:=h;rfl
 ·obtain ⟨x,ls,os,ts,rfl,L,h1,h2,k⟩:=h;obtain ⟨dx,fl,pl,po,pt,ps,pd,h0,⟨k1,k2,k3,k4,k5,k6⟩,e1,e2,e3,e4,e5⟩:=L.ex;refine ⟨_,J4 (Jh (pe_op op_repT (J65 (J0 Jd J3)) (Je Jf (by rfl) T.len boot_len (J0 (Ja (pv 0) rfl) J3)))),?_⟩;refine ⟨by show 1<=sizeLine;decide,fun p hp=>⟨_,rfl,x,C,dx,fl,_,rfl,J7 hp _ _ h0,TC.cl,TC.nL,k1,pl,_,rfl,.inr (SqT.of (J7 hp _ _ e1)),p,((iV ls).length:Int),[V.int 1],rfl,rfl,J2,by simp,?_,?_,?_,fun e=>?_,fun hk p2 hp2=>?_⟩⟩
  ·rw [J1v];lia
  ·rw [J1v];lia
  ·show 1 * ((iV ls).length:Int).toNat<=sizeLine;rw [J1v];have:=Jq (n:=ls.length) (by lia);lia
  ·rw [J1v] at e;have en:ls.length=1:=by lia
   refine k p _ (J7 hp) ?_;rw [J2,en];rfl
  ·refine k p2 _ ((J7 hp).trans (J7 hp2)) ?_;rw [J2,J1v,show ((ls.length:Nat):Int).toNat=ls.length by lia,flat_one]
def spTowB (cs:Kd->Addr) (CR:Addr):Sp:=fun vs H Q _=>∃ (tp x y z:Addr) (s:Stp) (r:Rst) (T:List Int),vs=[.ref tp,.ref x,.ref y,.ref z]/\H tp=some (.tup (iV T))/\StepAt cs H x s/\RestAt CR H y r/\RestAt CR H z (s.behind r)/\
 s.winner∈r.top/\s.winner∈r.bot/\s.winner < T.length/\T.length<=24/\CBig (T.getD s.winner 0) s.times/\∀ p H',Same H H'->H' p=some (.tup (iV (towB s r T)))->Q (.ref p) H'
theorem scTowB:FnScope ["towers","step","rest","behind","losers","grown","told","letter","tower"] ["towers","step","rest","behind"] (J6 sTowB):=fS
theorem iV_snoc (T:List Int) {i:Nat} (h:i < T.length):iV (T.take i) ++ [V.int (T.getD i 0)]=iV (T.take (i + 1)):=by
 show (T.take i).map V.int ++ _=(T.take (i + 1)).map V.int;rw [List.take_add_one,map_append,getD_eq_getElem?_getD,List.getElem?_eq_getElem h];rfl
theorem ok_towB {f CR:Addr} {fd:FuncData} {cs:Kd->Addr} (F:Fun K "towers_behind" "towers_behind" sTowB f fd) (T:TxtR mg) (hen:mg "enumerate"=none) (TR:TxtRest K CR) (TS:TxtS K cs)
  (HL:∀ k,HasM P w K mg base CX0 2 "losers" ["self","rest"] (J1k cs CR k) (cs k)):FnOk P w K mg base CX0 3 f fd ["towers","step","rest","behind"] (spTowB cs CR):=by
 refine F.ok scTowB (fun vs H Q E h=>?_) (fun cdv A outer s H vs Q E hr h=>?_)
 ·obtain ⟨tp,x,y,z,s,r,Tl,rfl,_⟩:=h;rfl
 ·obtain ⟨tp,x,y,z,st,r,Tl,rfl,htp,⟨dx,hx⟩,R,Z,wT,wB,wl,hn,big,k⟩:=h;have hr2:Room 2 _:=rm hr;refine ⟨_,J1 (Ji (i:=4) scTowB.nd rfl (Or.inl rfl) (J4k (sp:=J1k cs CR) (cls:=cs) (pv 1) HL hr2 pass0 (J0 (pv 2) J3)))
   (J1 (Ji (i:=5) scTowB.nd rfl (Or.inl rfl) (pe_op op_mulB (pe_ix Js (pv 0) (Ja (pv 1) rfl) (fun _ _=>rfl)) (Ja (pv 1) rfl)))
   (J1 (Ji (i:=6) scTowB.nd rfl (Or.inl rfl) (J1t J3))
   (J1 (J34 PassesOwn.never rfl (pi_enum rfl hen (J0 (pv 0) J3)) (pg_tup rfl (J2x (J1g (i:=7) scTowB.nd rfl (Or.inl rfl)) (J2x (J1g (i:=8) scTowB.nd rfl (Or.inl rfl)) pgs_nil)))
    (J4 (ps_if (Jl J66 (pv 7) (Ja (pv 3) rfl) rfl)
     (J4 (Jz (pe_bm PySem.F.plainAttrs_list PySem.F.slot_list_append PySem.F.type_list_append J1b (pv 6) (J0 Jd J3))))
     (J4 (ps_if (Jl op_in_seq (pv 7) (pv 4) rfl)
      (J4 (Jz (pe_bm PySem.F.plainAttrs_list PySem.F.slot_list_append PySem.F.type_list_append J1b (pv 6) (J0 (pe_op J19 (pv 8) (pv 5)) J3))))
      (J4 (Jz (pe_bm PySem.F.plainAttrs_list PySem.F.slot_list_append PySem.F.type_list_append J1b (pv 6) (J0 (pv 8) J3)))))))))
   (J4 (Jh (Jk J12 (by rfl) T.tuple boot_tuple (J0 (pv 6) J3))))))),?_⟩
  refine ⟨_,rfl,x,kd st,dx,stF st,rfl,hx,stF_no _ (by decide +kernel) (by decide +kernel) (by decide +kernel),_,rfl,x,y,st,r,rfl,rfl,⟨dx,hx⟩,R,wT,wB,fun lp Ha sa hlp=>?_⟩;refine ⟨_,rfl,_,rfl,x,cs (kd st),dx,stF st,_,rfl,sa _ _ hx,TS.cl _,TS.nW _,stF_w _,tp,_,_,_,rfl,rfl,SqT.of (sa _ _ htp),Jj (J1a wl),_,rfl,x,cs (kd st),dx,stF st,_,rfl,sa _ _ hx,TS.cl _,TS.nT _,stF_t _,_,_,rfl,rfl,big,?_⟩;refine ⟨Nat.zero_le _,fun tl htl=>?_⟩;have lenB:=towB_len st r Tl;have htp1:=sa _ _ htp;refine ⟨_,rfl,tp,rfl,⟨_,SqT.of (J7 htl _ _ htp1)⟩,for_enum (K:=K) (a:=tp) (xs:=iV Tl)
   (fun i σ H2=>∃ v v',σ=[some (.ref tp),some (.ref x),some (.ref y),some (.ref z),some (.ref lp),some (.int (Tl.getD st.winner 0 * st.times)),some (.ref tl),v,v']/\H2 tl=some (.lst (iV ((towB st r Tl).take i)))/\Same Ha H2)
   ⟨none,none,rfl,J2,J7 htl⟩ (fun i σ H2 _ ⟨_,_,_,_,s2⟩=>SqT.of (s2 _ _ htp1)) ?_ ?_⟩
  ·rintro i y' σ H2 t hy ⟨v,v',rfl,h1,s2⟩ ht;have hil:i < Tl.length:=by
    have:=(List.getElem?_eq_some_iff.mp hy).1;rw [length_map] at this;exact this
   rw [J1a hil] at hy;cases hy;have st2:=J7 (o:=.tup [.int (i:Int),.int (Tl.getD i 0)]) ht;have s3:=s2.trans st2;have h1':=st2 _ _ h1;obtain ⟨dz,fz,zt,zb,zl,zu,w0,⟨w1,w2,w3,w4,w5⟩,v1,v2,v3,v4⟩:=((Z.same sa).same s3).ex;have hlp':=s3 _ _ hlp;have eg:=towB_get st r Tl hil;have sn:=iV_snoc (towB st r Tl) (i:=i) (by rw [lenB];exact hil);have tlen:(iV ((towB st r Tl).take i)).length < sizeLine:=by
    rw [J1v,length_take];have:=Jq (n:=24) (by lia);lia
   have fin:∀ u,u=(towB st r Tl).getD i 0->∀ H3,H3=upd H2 t (.tup [.int (i:Int),.int (Tl.getD i 0)])->(∃ v v',[some (V.ref tp),some (.ref x),some (.ref y),some (.ref z),some (.ref lp),some (.int (Tl.getD st.winner 0 * st.times)),some (.ref tl),some (.int (i:Int)),some (.int (Tl.getD i 0))]=[some (.ref tp),some (.ref x),some (.ref y),some (.ref z),some (.ref lp),some (.int (Tl.getD st.winner 0 * st.times)),some (.ref tl),v,v']/\
     (upd H3 tl (.lst (iV ((towB st r Tl).take i) ++ [.int u]))) tl=some (.lst (iV ((towB st r Tl).take (i + 1))))/\Same Ha (upd H3 tl (.lst (iV ((towB st r Tl).take i) ++ [.int u])))):=by
    rintro u rfl H3 rfl;refine ⟨_,_,rfl,by rw [J2,sn],fun b o e=>?_⟩;rw [Jb (J8 e htl)];exact s3 _ _ e
   refine ⟨t,_,rfl,SqT.of J2,rfl,_,_,rfl,_,_,rfl,rfl,?_⟩;refine ⟨_,rfl,_,rfl,z,CR,dz,fz,_,rfl,w0,TR.cl,TR.nT,w1,zt,_,rfl,.inr (SqT.of v1),rfl,flat_nV _,_,rfl,?_⟩;by_cases c:i∈(st.behind r).top
   ·refine iteBF (show ¬ (!inV (V.int (i:Nat)) (nV (st.behind r).top))=true by rw [inV_nV];simpa using c) ?_;rw [if_pos c] at eg;refine ⟨_,rfl,_,rfl,lp,_,rfl,.inr (SqT.of hlp'),rfl,flat_nV _,_,rfl,?_⟩;by_cases c2:i∈st.losers r
    ·refine iteBT (show inV (V.int (i:Nat)) (nV (st.losers r))=true by rw [inV_nV];exact decide_eq_true c2) ?_;rw [if_pos c2] at eg;exact ⟨_,rfl,.inl ⟨rfl,_,SqL.of h1'⟩,_,rfl,_,rfl,_,_,rfl,rfl,tl,_,_,rfl,rfl,h1',tlen,fin _ eg.symm _ rfl⟩
    ·refine iteBF (show ¬ inV (V.int (i:Nat)) (nV (st.losers r))=true by rw [inV_nV];simpa using c2) ?_;rw [if_neg c2] at eg;exact ⟨_,rfl,.inl ⟨rfl,_,SqL.of h1'⟩,_,rfl,tl,_,_,rfl,rfl,h1',tlen,fin _ eg.symm _ rfl⟩
   ·refine iteBT (show (!inV (V.int (i:Nat)) (nV (st.behind r).top))=true by rw [inV_nV];simpa using c) ?_;rw [if_neg c] at eg;exact ⟨_,rfl,.inl ⟨rfl,_,SqL.of h1'⟩,tl,_,_,rfl,rfl,h1',tlen,fin _ eg.symm _ rfl⟩
  ·rintro σ H2 ⟨v,v',rfl,h1,s2⟩;rw [J1v,<- lenB,take_length] at h1;exact ⟨_,rfl,J13 (.inl h1) fun p H' s' hp=>k p H' ((sa.trans s2).trans s') hp⟩
def bandV (b:Band):List V:=[.int b.1,.int b.2.1,.int b.2.2.1,.bl b.2.2.2]
def spBandsL (cs:Kd->Addr) (CR:Addr):Sp:=fun vs H Q _=>∃ (tp x y z:Addr) (s:Stp) (r:Rst) (T:List Int),vs=[.ref x,.ref y,.ref z,.ref tp]/\H tp=some (.tup (iV T))/\StepAt cs H x s/\RestAt CR H y r/\RestAt CR H z (s.behind r)/\
 s.winner < r.ls.length/\s.winner < r.ts.length/\s.winner < T.length/\(s.isHome=false->∀ p H',Same H H'->H' p=some (.lst [])->Q (.ref p) H')/\
 (s.isHome=true->∀ p q H',Same H H'->H' p=some (.lst [.ref q])->H' q=some (.tup (bandV ((s.behind r).size,r.ls.getD s.winner 0,T.getD s.winner 0,r.ts.getD s.winner false)))->Q (.ref p) H')
theorem scBandsL:FnScope ["step","rest","behind","towers","winner"] ["step","rest","behind","towers"] (J6 sBandsL):=fS
theorem ok_bandsL {f CR:Addr} {fd:FuncData} {cs:Kd->Addr} (F:Fun K "bands_left" "bands_left" sBandsL f fd) (TR:TxtRest K CR) (TS:TxtS K cs)
  (HW:∀ k,HasM P w K mg base CX0 1 "word" ["self"] (J46 k) (cs k)):FnOk P w K mg base CX0 2 f fd ["step","rest","behind","towers"] (spBandsL cs CR):=by
 refine F.ok scBandsL (fun vs H Q E h=>?_) (fun cdv A outer s H vs Q E hr h=>?_)
 ·obtain ⟨tp,x,y,z,s,r,Tl,rfl,_⟩:=h;rfl
 ·obtain ⟨tp,x,y,z,st,r,Tl,rfl,htp,⟨dx,hx⟩,R,Z,wl,wt,wT,k0,k1⟩:=h;have hr1:Room 1 _:=rm hr;obtain ⟨dy,fy,yt,yb,yl,yu,q0,⟨q1,q2,q3,q4,q5⟩,p1,p2,p3,p4⟩:=R.ex;obtain ⟨dz,fz,zt,zb,zl,zu,w0,⟨w1,w2,w3,w4,w5⟩,v1,v2,v3,v4⟩:=Z.ex;refine ⟨_,J1 (ps_if (Jl op_ne (pe_methD0 (sp:=J46) (cls:=cs) (pv 0) HW hr1 pass0) J58 (Jp _)) (J4 (Jh (J1t J3))) Jn)
   (J1 (Ji (i:=4) scBandsL.nd rfl (Or.inl rfl) (Ja (pv 0) rfl))
   (J4 (Jh (J1t (J0 (J65 (J0 (Ja (pv 2) rfl) (J0 (pe_ix Js (Ja (pv 1) rfl) (pv 4) (fun _ _=>rfl)) (J0 (pe_ix Js (pv 3) (pv 4) (fun _ _=>rfl)) (J0 (pe_ix Js (Ja (pv 1) rfl) (pv 4) (fun _ _=>rfl)) J3))))) J3))))),?_⟩
  refine ⟨_,rfl,x,kd st,dx,stF st,rfl,hx,stF_no _ (by decide +kernel) (by decide +kernel) (by decide +kernel),x,rfl,rfl,_,rfl,?_⟩;have hw:=home_word st;by_cases c:st.isHome=true
  ·refine iteBF (show ¬ (!decide (V.str (wordS (kd st))=V.str (Str.ofString "home")))=true by rw [hw,c];decide) ?_;refine ⟨_,rfl,x,cs (kd st),dx,stF st,_,rfl,hx,TS.cl _,TS.nW _,stF_w _,?_⟩;refine ⟨_,rfl,z,CR,dz,fz,_,rfl,w0,TR.cl,TR.nZ,w5,_,rfl,y,CR,dy,fy,_,rfl,q0,TR.cl,TR.nL,q3,_,rfl,yl,_,_,_,rfl,rfl,SqT.of p3,Jj (J1a wl),_,rfl,_,rfl,tp,_,_,_,rfl,rfl,SqT.of htp,Jj (J1a wT),
    _,rfl,y,CR,dy,fy,_,rfl,q0,TR.cl,TR.nU,q4,_,rfl,yu,_,_,_,rfl,rfl,SqT.of p4,Jj (J4w wt),(by show 4<=sizeLine;decide),fun q hq=>⟨(by show 1<=sizeLine;decide),fun p hp=>?_⟩⟩
   exact k1 c p q _ ((J7 hq).trans (J7 hp)) J2 (J7 hp _ _ J2)
  ·refine iteBT (show (!decide (V.str (wordS (kd st))=V.str (Str.ofString "home")))=true by rw [hw];simpa using c) ?_;exact ⟨Nat.zero_le _,fun p hp=>k0 (by simpa using c) p _ (J7 hp) J2⟩
end
end R52
namespace R52
open PySem L2 Rl
section
theorem next_fit {r:Rst} (ok:r.Ok) (ne:r.top≠[]) (hz:r.size<=10 ^ 30):Fit (nextN r) r:=by
 have np:=nextP ok ne;refine ⟨ok,ok.next ne,np.win ok ne,fun b hb=>?_,Nat.lt_of_le_of_lt (np.times ok ne hz) (by decide),hz⟩;have mT:=ok.mT ne;have mB:=ok.mB ne;generalize nextN r=st at *;have inj:∀ {i j:Nat},V.int (i:Nat)=V.int (j:Nat)->i=j:=fun q=>by have:=V.int.inj q;lia
 cases st with
 | even a b'=>obtain rfl:=inj hb;obtain ⟨_,n2,n3,_⟩:=np;exact ⟨by rw [n2];exact mB,n3⟩
 | over a b'=>obtain rfl:=inj hb;obtain ⟨_,n2,n3,_⟩:=np;exact ⟨by rw [n2];exact mB,n3⟩
 | under a b'=>obtain rfl:=inj hb;obtain ⟨_,n2,n3,_⟩:=np;exact ⟨by rw [n2];exact mT,n3⟩
 | home a=>cases hb
 | overs a t=>cases hb
 | unders a t=>cases hb
end
section
variable {P:Program} {w:World} {K:PySem.W.Frag} {mg:Str->Option Value} {base:Heap}
structure TxtCh (K:PySem.W.Frag) (CH:Addr):Prop where
 cl:Cls K CH
 nL:NoAttr K CH "line"
 nR:NoAttr K CH "rests"
 nS:NoAttr K CH "steps"
 nT:NoAttr K CH "towers"
 nB:NoAttr K CH "bands"
abbrev bz:Band:=(0,0,0,false)
structure ChartAt (CH CR:Addr) (cs:Kd->Addr) (H:Hp) (x xl:Addr) (p0:Cst) (m:Nat):Prop where
 ex:∃ (dx:Addr) (fs:List (Str × V)) (pr ps pt pb:Addr) (xr xs xt xb:List V),H x=some (.ins CH dx fs)/\(fs.lookup ("line":Str)=some (.ref xl)/\fs.lookup ("rests":Str)=some (.ref pr)/\fs.lookup ("steps":Str)=some (.ref ps)/\fs.lookup ("towers":Str)=some (.ref pt)/\fs.lookup ("bands":Str)=some (.ref pb))/\
  (H pr=some (.tup xr)/\H ps=some (.tup xs)/\H pt=some (.tup xt)/\H pb=some (.tup xb))/\Refs (fun q i=>RestAt CR H q (chN p0 i).1) xr (m + 1)/\Refs (fun q i=>StepAt cs H q (nextN (chN p0 i).1)) xs m/\Refs (fun q i=>H q=some (.tup (iV (chN p0 i).2))) xt (m + 1)/\
  Refs (fun q i=>H q=some (.tup (bandV ((bndN p0 m).getD i bz)))) xb (bndN p0 m).length
theorem ChartAt.frz {CH CR:Addr} {cs:Kd->Addr} {H H':Hp} {x xl:Addr} {p0:Cst} {m:Nat} (h:ChartAt CH CR cs H x xl p0 m) (s:Frz H H'):ChartAt CH CR cs H' x xl p0 m:=by
 obtain ⟨dx,fs,pr,ps,pt,pb,xr,xs,xt,xb,h0,hl,⟨h1,h2,h3,h4⟩,r1,r2,r3,r4⟩:=h.ex;exact ⟨dx,fs,pr,ps,pt,pb,xr,xs,xt,xb,s _ _ h0 (fun _ e=>nomatch e),hl,⟨s _ _ h1 (fun _ e=>nomatch e),s _ _ h2 (fun _ e=>nomatch e),s _ _ h3 (fun _ e=>nomatch e),s _ _ h4 (fun _ e=>nomatch e)⟩,
  r1.mono fun q i _ a=>a.frz s,r2.mono fun q i _ a=>a.frz s,r3.mono fun q i _ a=>s _ _ a (fun _ e=>nomatch e),r4.mono fun q i _ a=>s _ _ a (fun _ e=>nomatch e)⟩
abbrev J1o (ls:List Int) (os:List Nat) (ts:List Bool):Cst:=(J3r ls os ts,List.replicate ls.length 1)
def spCInit (C CR CH:Addr) (cs:Kd->Addr):Sp:=fun vs H Q _=>∃ (x dx xl:Addr) (ls:List Int) (os:List Nat) (ts:List Bool),vs=[.ref x,.ref xl]/\H x=some (.ins CH dx [])/\LineAt C H xl ls os ts/\(J3r ls os ts).Ok/\(J3r ls os ts).size<=10 ^ 30/\1<=ls.length/\
 ∀ m H',Long (J1o ls os ts) m->(chN (J1o ls os ts) m).1.top=[]->ChartAt CH CR cs H' x xl (J1o ls os ts) m->KeepX x H H'->Q .non H'
theorem scCInit:FnScope ["self","line","rest","rests","steps","towers","bands","step","behind"] ["self","line"] (J6 sChInit):=fS
theorem line16:(6367451:Nat) + 5<=sizeLine:=by rw [sizeLine_eq];decide
theorem big_tow {p:Cst} (h:Cok p) (ne:p.1.top≠[]):CBig (p.2.getD (nextN p.1).winner 0) (nextN p.1).times:=by
 have w:=(nextP h.ok ne).win h.ok ne;have h1:=h.tow.le h.ok w;have h2:=h.tow.pos _ w;have h3:=(nextP h.ok ne).times h.ok ne h.size30;have e:(10:Nat) ^ 30 < 2 ^ 4000:=by decide
 exact ⟨Nat.lt_of_le_of_lt (show (p.2.getD (nextN p.1).winner 0).natAbs<=10 ^ 30 by lia) e,Nat.lt_of_le_of_lt h3 e⟩
theorem ok_cinit {f fRO fFT fN fBL fTB C CR CH:Addr} {fd fdRO fdFT fdN fdBL fdTB:FuncData} {cs:Kd->Addr} (F:Fun K "__init__" "Chart.__init__" sChInit f fd) (T:TxtR mg) (TR:TxtRest K CR) (TS:TxtS K cs) (TH:TxtCh K CH)
  (GRO:FnOk P w K mg base CX0 4 fRO fdRO ["line"] (spRestOf C CR)) (bRO:Binds K fdRO ["line"] []) (mRO:mg "rest_of"=some (.ref fRO)) (kRO:keepIn K (.ref fRO)=true)
  (GFT:FnOk P w K mg base CX0 1 fFT fdFT ["line"] (spFirstT C)) (bFT:Binds K fdFT ["line"] []) (mFT:mg "first_towers"=some (.ref fFT)) (kFT:keepIn K (.ref fFT)=true)
  (GN:FnOk P w K mg base CX0 5 fN fdN ["rest"] (spNext cs CR)) (bN:Binds K fdN ["rest"] []) (mN:mg "next_step"=some (.ref fN)) (kN:keepIn K (.ref fN)=true)
  (HB:∀ k,HasM P w K mg base CX0 4 "behind" ["self","rest"] (J1y cs CR k) (cs k))
  (GBL:FnOk P w K mg base CX0 2 fBL fdBL ["step","rest","behind","towers"] (spBandsL cs CR)) (bBL:Binds K fdBL ["step","rest","behind","towers"] []) (mBL:mg "bands_left"=some (.ref fBL)) (kBL:keepIn K (.ref fBL)=true)
  (GTB:FnOk P w K mg base CX0 3 fTB fdTB ["towers","step","rest","behind"] (spTowB cs CR)) (bTB:Binds K fdTB ["towers","step","rest","behind"] []) (mTB:mg "towers_behind"=some (.ref fTB)) (kTB:keepIn K (.ref fTB)=true) :
  FnOk P w K mg base CX0 6 f fd ["self","line"] (spCInit C CR CH cs):=by
 refine F.ok scCInit (fun vs H Q E h=>?_) (fun cdv A outer s H vs Q E hr h=>?_)
 ·obtain ⟨x,dx,xl,ls,os,ts,rfl,_⟩:=h;rfl
 ·obtain ⟨x,dx,xl,ls,os,ts,rfl,hx,L,ok0,hz0,h1,k⟩:=h;have hr1:Room 1 _:=rm hr;have hr2:Room 2 _:=rm hr;have hr3:Room 3 _:=rm hr;have hr4:Room 4 _:=rm hr;have hr5:Room 5 _:=rm hr;refine ⟨_,J1 (Ji (i:=2) scCInit.nd rfl (Or.inl rfl) (Jc GRO hr4 rfl mRO kRO bRO .nil pass0 (J0 (pv 1) J3)))
   (J1 (Ji (i:=3) scCInit.nd rfl (Or.inl rfl) (J1t (J0 (pv 2) J3)))
   (J1 (Ji (i:=4) scCInit.nd rfl (Or.inl rfl) (J1t J3))
   (J1 (Ji (i:=5) scCInit.nd rfl (Or.inl rfl) (J1t (J0 (Jc GFT hr1 rfl mFT kFT bFT .nil pass0 (J0 (pv 1) J3)) J3)))
   (J1 (Ji (i:=6) scCInit.nd rfl (Or.inl rfl) (J1t J3))
   (J1 (ps_while PassesOwn.never (Jl op_gt (Ja (pv 2) rfl) Jd (Jp _))
    (J1 (Ji (i:=7) scCInit.nd rfl (Or.inl rfl) (Jc GN hr5 rfl mN kN bN .nil pass0 (J0 (pv 2) J3)))
    (J1 (Ji (i:=8) scCInit.nd rfl (Or.inl rfl) (J4k (sp:=J1y cs CR) (cls:=cs) (pv 7) HB hr4 pass0 (J0 (pv 2) J3)))
    (J1 (Jz (pe_bm PySem.F.plainAttrs_list PySem.F.slot_list_extend PySem.F.type_list_extend mt_extend (pv 6) (J0 (Jc GBL hr2 rfl mBL kBL bBL .nil pass0 (J0 (pv 7) (J0 (pv 2) (J0 (pv 8) (J0 (pe_ix J2s (pv 5) (pe_un J45 Jd) (fun _ _=>rfl)) J3))))) J3)))
    (J1 (Jz (pe_bm PySem.F.plainAttrs_list PySem.F.slot_list_append PySem.F.type_list_append J1b (pv 5) (J0 (Jc GTB hr3 rfl mTB kTB bTB .nil pass0 (J0 (pe_ix J2s (pv 5) (pe_un J45 Jd) (fun _ _=>rfl)) (J0 (pv 7) (J0 (pv 2) (J0 (pv 8) J3))))) J3)))
    (J1 (Jz (pe_bm PySem.F.plainAttrs_list PySem.F.slot_list_append PySem.F.type_list_append J1b (pv 4) (J0 (pv 7) J3)))
    (J1 (Jz (pe_bm PySem.F.plainAttrs_list PySem.F.slot_list_append PySem.F.type_list_append J1b (pv 3) (J0 (pv 8) J3)))
    (J4 (Ji (i:=2) scCInit.nd rfl (Or.inl rfl) (pv 8))))))))))
   (J1 (J1d (pv 0) (pv 1) rfl)
   (J1 (J1d (pv 0) (Jk J12 (by rfl) T.tuple boot_tuple (J0 (pv 3) J3)) rfl)
   (J1 (J1d (pv 0) (Jk J12 (by rfl) T.tuple boot_tuple (J0 (pv 4) J3)) rfl)
   (J1 (J1d (pv 0) (Jk J12 (by rfl) T.tuple boot_tuple (J0 (pv 5) J3)) rfl)
   (J4 (J1d (pv 0) (Jk J12 (by rfl) T.tuple boot_tuple (J0 (pv 6) J3)) rfl))))))))))),?_⟩
  have few:=ok0.few;have cok0:Cok (J1o ls os ts):=whole_cok ok0 hz0;refine ⟨_,rfl,xl,ls,os,ts,rfl,L,few,fun y0 Hr sr R0=>?_⟩;refine ⟨_,rfl,(by show 1<=sizeLine;decide),fun lr hlr=>⟨Nat.zero_le _,fun lq hlq=>?_⟩⟩;have sa:=J7 (o:=.lst [V.ref y0]) hlr;have sb:=sa.trans (J7 (o:=.lst []) hlq);refine ⟨_,rfl,xl,ls,os,ts,rfl,(L.same sr).same sb,h1,few,fun t0 Ht st ht0=>⟨(by show 1<=sizeLine;decide),fun lt hlt=>⟨Nat.zero_le _,fun lb hlb=>?_⟩⟩⟩;have sc:=sb.trans st;have sd:=J7 (o:=.lst [V.ref t0]) hlt;have se:=J7 (o:=.lst []) hlb;have sf:=(sc.trans sd).trans se;have fr_r:Hr lr=none:=hlr;have fr_q:Hr lq=none:=sa.free hlq;have fr_t:Hr lt=none:=sc.free hlt;have fr_b:Hr lb=none:=(sc.trans sd).free hlb;have n_qr:lq≠lr:=fun e=>by rw [e,J2] at hlq;cases hlq
  have hr_t:Ht lr=some (.lst [V.ref y0]):=st _ _ (J7 (o:=.lst []) hlq _ _ J2);have hq_t:Ht lq=some (.lst []):=st _ _ J2;have n_rt:lr≠lt:=J8 hr_t hlt;have n_qt:lq≠lt:=J8 hq_t hlt;have n_rb:lr≠lb:=J8 (sd _ _ hr_t) hlb;have n_qb:lq≠lb:=J8 (sd _ _ hq_t) hlb;have n_tb:lt≠lb:=J8 (J2 (H:=Ht) (a:=lt) (o:=.lst [V.ref t0])) hlb;have gr:(upd (upd Ht lt (.lst [V.ref t0])) lb (.lst [])) lr=some (.lst [V.ref y0]):=se _ _ (sd _ _ hr_t);have gq:(upd (upd Ht lt (.lst [V.ref t0])) lb (.lst [])) lq=some (.lst []):=se _ _ (sd _ _ hq_t);have gt:(upd (upd Ht lt (.lst [V.ref t0])) lb (.lst [])) lt=some (.lst [V.ref t0]):=se _ _ J2;have gb:(upd (upd Ht lt (.lst [V.ref t0])) lb (.lst [])) lb=some (.lst []):=J2;have gy:=R0.same sf;have g0:(upd (upd Ht lt (.lst [V.ref t0])) lb (.lst [])) t0=some (.tup (iV (List.replicate ls.length 1))):=se _ _ (sd _ _ ht0);generalize (upd (upd Ht lt (.lst [V.ref t0])) lb (.lst []))=Hs at *;generalize hp0:J1o ls os ts=p0 at *;have e0:J3r ls os ts=(chN p0 0).1:=by rw [<- hp0];rfl
  have e1:List.replicate ls.length 1=(chN p0 0).2:=by rw [<- hp0];rfl
  rw [e0] at gy;rw [e1] at g0;clear R0 hr_t hq_t ht0 hlr hlq hlt hlb;have hxr:=sr _ _ hx;refine ⟨fun m σ Hw=>∃ (i:Nat) (y:Addr) (xr xs xt xb:List V) (v7 v8:Option V),σ=[some (.ref x),some (.ref xl),some (.ref y),some (.ref lr),some (.ref lq),some (.ref lt),some (.ref lb),v7,v8]/\Long p0 i/\RestAt CR Hw y (chN p0 i).1/\Same Hr Hw/\
    (Hw lr=some (.lst xr)/\Hw lq=some (.lst xs)/\Hw lt=some (.lst xt)/\Hw lb=some (.lst xb))/\Refs (fun q i=>RestAt CR Hw q (chN p0 i).1) xr (i + 1)/\Refs (fun q i=>StepAt cs Hw q (nextN (chN p0 i).1)) xs i/\Refs (fun q i=>Hw q=some (.tup (iV (chN p0 i).2))) xt (i + 1)/\
    Refs (fun q j=>Hw q=some (.tup (bandV ((bndN p0 i).getD j bz)))) xb (bndN p0 i).length/\m=(chN p0 i).1.size.toNat,
   ⟨_,0,y0,_,_,_,_,none,none,rfl,(fun i hi=>absurd hi (Nat.not_lt_zero _)),gy,sf,⟨gr,gq,gt,gb⟩,Refs.nil.snoc gy,Refs.nil,Refs.nil.snoc g0,Refs.nil,rfl⟩,?_⟩
  rintro m σ Hw ⟨i,y,xr,xs,xt,xb,v7,v8,rfl,lg,R,sw,⟨hr_,hq_,ht_,hb_⟩,rr,rs,rt,rb,rfl⟩;obtain ⟨dy,fy,yt,yb,yl,yu,q0,⟨q1,q2,q3,q4,q5⟩,p1,p2,p3,p4⟩:=R.ex;have cok:=cok0.at_ lg;have few_i:=cok0.few lg;refine ⟨_,rfl,y,CR,dy,fy,_,rfl,q0,TR.cl,TR.nZ,q5,_,_,rfl,rfl,_,rfl,?_⟩;by_cases c:(chN p0 i).1.top=[]
  ·have sz:(chN p0 i).1.size=0:=by unfold Rst.size;rw [c];rfl
   refine iteD (by rw [sz];decide) ?_;have hxw:=sw _ _ hxr;have hxw':Hw x=some (.ins CH dx []):=hxw;refine ⟨_,rfl,_,rfl,x,CH,dx,[],rfl,hxw',TH.cl,TH.nL,(by show 0 < 1000;decide),?_⟩;generalize hfs1:putF ("line":Str) (.ref xl) []=fs1;generalize hH2:upd Hw x (.ins CH dx fs1)=H2;have l1:fs1.length<=1:=by rw [<- hfs1];exact Jg ..
   have k2:KeepX x Hw H2:=by rw [<- hH2];exact KeepX.upd
   have hx2:H2 x=some (.ins CH dx fs1):=by rw [<- hH2];exact J2
   have nr:lr≠x:=ne_of hr_ hxw' (by intro z;cases z);have nq:lq≠x:=ne_of hq_ hxw' (by intro z;cases z);have nt:lt≠x:=ne_of ht_ hxw' (by intro z;cases z);have nb:lb≠x:=ne_of hb_ hxw' (by intro z;cases z);refine ⟨_,rfl,J13 (.inl (k2 _ _ hr_ nr)) fun pr H3 s3 hpr=>⟨_,rfl,x,CH,dx,fs1,rfl,s3 _ _ hx2,TH.cl,TH.nR,(by lia),?_⟩⟩;generalize hfs2:putF ("rests":Str) (.ref pr) fs1=fs2;generalize hH4:upd H3 x (.ins CH dx fs2)=H4;have l2:fs2.length<=2:=by rw [<- hfs2];have:=Jg ("rests":Str) (.ref pr) fs1;lia
   have k24:KeepX x H2 H4:=by rw [<- hH4];exact (KeepX.of s3).trans KeepX.upd
   have k4:KeepX x Hw H4:=k2.trans k24;have hx4:H4 x=some (.ins CH dx fs2):=by rw [<- hH4];exact J2
   have prx:pr≠x:=ne_of hpr (s3 _ _ hx2) (by intro z;cases z);have hpr4:H4 pr=some (.tup xr):=by rw [<- hH4,Jb prx];exact hpr
   refine ⟨_,rfl,J13 (.inl (k4 _ _ hq_ nq)) fun ps H5 s5 hps=>⟨_,rfl,x,CH,dx,fs2,rfl,s5 _ _ hx4,TH.cl,TH.nS,(by lia),?_⟩⟩;generalize hfs3:putF ("steps":Str) (.ref ps) fs2=fs3;generalize hH6:upd H5 x (.ins CH dx fs3)=H6;have l3:fs3.length<=3:=by rw [<- hfs3];have:=Jg ("steps":Str) (.ref ps) fs2;lia
   have k46:KeepX x H4 H6:=by rw [<- hH6];exact (KeepX.of s5).trans KeepX.upd
   have k6:KeepX x Hw H6:=k4.trans k46;have hx6:H6 x=some (.ins CH dx fs3):=by rw [<- hH6];exact J2
   have psx:ps≠x:=ne_of hps (s5 _ _ hx4) (by intro z;cases z);have hps6:H6 ps=some (.tup xs):=by rw [<- hH6,Jb psx];exact hps
   refine ⟨_,rfl,J13 (.inl (k6 _ _ ht_ nt)) fun pt H7 s7 hpt=>⟨_,rfl,x,CH,dx,fs3,rfl,s7 _ _ hx6,TH.cl,TH.nT,(by lia),?_⟩⟩;generalize hfs4:putF ("towers":Str) (.ref pt) fs3=fs4;generalize hH8:upd H7 x (.ins CH dx fs4)=H8;have l4:fs4.length<=4:=by rw [<- hfs4];have:=Jg ("towers":Str) (.ref pt) fs3;lia
   have k68:KeepX x H6 H8:=by rw [<- hH8];exact (KeepX.of s7).trans KeepX.upd
   have k8:KeepX x Hw H8:=k6.trans k68;have hx8:H8 x=some (.ins CH dx fs4):=by rw [<- hH8];exact J2
   have ptx:pt≠x:=ne_of hpt (s7 _ _ hx6) (by intro z;cases z);have hpt8:H8 pt=some (.tup xt):=by rw [<- hH8,Jb ptx];exact hpt
   have lkL:fs4.lookup ("line":Str)=some (.ref xl):=by rw [<- hfs4,lk_ne (by decide +kernel),<- hfs3,lk_ne (by decide +kernel),<- hfs2,lk_ne (by decide +kernel),<- hfs1,Jt]
   have lkR:fs4.lookup ("rests":Str)=some (.ref pr):=by rw [<- hfs4,lk_ne (by decide +kernel),<- hfs3,lk_ne (by decide +kernel),<- hfs2,Jt]
   have lkS:fs4.lookup ("steps":Str)=some (.ref ps):=by rw [<- hfs4,lk_ne (by decide +kernel),<- hfs3,Jt]
   have lkT:fs4.lookup ("towers":Str)=some (.ref pt):=by rw [<- hfs4,Jt]
   refine ⟨_,rfl,J13 (.inl (k8 _ _ hb_ nb)) fun pb H9 s9 hpb=>⟨_,rfl,x,CH,dx,fs4,rfl,s9 _ _ hx8,TH.cl,TH.nB,(by lia),?_⟩⟩;have k8z:KeepX x H8 (upd H9 x (.ins CH dx (putF ("bands":Str) (.ref pb) fs4))):=(KeepX.of s9).trans KeepX.upd;have kz:KeepX x Hw (upd H9 x (.ins CH dx (putF ("bands":Str) (.ref pb) fs4))):=k8.trans k8z;have pbx:pb≠x:=ne_of hpb (s9 _ _ hx8) (by intro z;cases z);have zb:(upd H9 x (.ins CH dx (putF ("bands":Str) (.ref pb) fs4))) pb=some (.tup xb):=by rw [Jb pbx];exact hpb
   have zx:(upd H9 x (.ins CH dx (putF ("bands":Str) (.ref pb) fs4))) x=some (.ins CH dx (putF ("bands":Str) (.ref pb) fs4)):=J2;generalize (upd H9 x (.ins CH dx (putF ("bands":Str) (.ref pb) fs4)))=Hz at *;have keepR:∀ q r,RestAt CR Hw q r->RestAt CR Hz q r:=fun q r a=>by
    obtain ⟨dq,fq,q1,q2,q3,q4,a0,al,a1,a2,a3,a4⟩:=a.ex;have nx:∀ {b:Addr} {zs:List V},Hw b=some (.tup zs)->Hz b=some (.tup zs):=fun e=>kz _ _ e (ne_of e hxw' (by intro z;cases z));refine ⟨dq,fq,q1,q2,q3,q4,kz _ _ a0 (fun e=>?_),al,nx a1,nx a2,nx a3,nx a4⟩;rw [e,hxw'] at a0;have:=(Option.some.inj a0);injection this with _ _ e3
    rw [<- e3] at al;exact nomatch al.1
   have keepS:∀ q s,StepAt cs Hw q s->StepAt cs Hz q s:=fun q s ⟨dq,a⟩=>⟨dq,kz _ _ a (fun e=>by
    rw [e,hxw'] at a;have:=(Option.some.inj a);injection this with _ _ e3
    have w:=stF_w s;rw [<- e3] at w;exact nomatch w)⟩
   have keepT:∀ (q:Addr) (zs:List V),Hw q=some (.tup zs)->Hz q=some (.tup zs):=fun q zs a=>kz _ _ a (ne_of a hxw' (by intro z;cases z));refine k i Hz lg c ⟨dx,_,pr,ps,pt,pb,xr,xs,xt,xb,zx,⟨by rw [lk_ne (by decide +kernel),lkL],by rw [lk_ne (by decide +kernel),lkR],by rw [lk_ne (by decide +kernel),lkS],by rw [lk_ne (by decide +kernel),lkT],Jt⟩,
    ⟨k8z _ _ (k68 _ _ (k46 _ _ hpr4 prx) prx) prx,k8z _ _ (k68 _ _ hps6 psx) psx,k8z _ _ hpt8 ptx,zb⟩,rr.mono fun q j _ a=>keepR _ _ a,rs.mono fun q j _ a=>keepS _ _ a,rt.mono fun q j _ a=>keepT _ _ a,rb.mono fun q j _ a=>keepT _ _ a⟩ ?_
   exact (KeepX.of (sr.trans sw)).trans kz
  ·have szp:0 < (chN p0 i).1.size:=by
    have:=J4n cok.ok.row.pos c;show 0 < lenOf _ _;lia
   refine iteDT szp ?_;have down:=cok.ok.down c;have win:=(nextP cok.ok c).win cok.ok c;have hz:=cok.size30;have fit:=next_fit cok.ok c hz;have tlen:=cok.tow.len;have wl:=cok.ok.row.lt _ win;have big:=big_tow cok c;have lg':Long p0 (i + 1):=fun j hj=>by
    by_cases e:j=i
    ·subst e;exact c
    ·exact lg j (by lia)
   have few':=cok0.few lg';obtain ⟨tq,etq,htq⟩:=rt.at_ i (by lia);have last:=atI_last rt.len etq;have l16:=line16;have bl:=J6g p0 i;refine ⟨_,fun σ' H' h=>h,?_⟩;refine ⟨_,rfl,y,(chN p0 i).1,rfl,R,cok.ok,c,hz,fun xp Hn sn ⟨dxp,hxp⟩=>?_⟩;refine ⟨_,rfl,xp,kd (nextN (chN p0 i).1),dxp,stF (nextN (chN p0 i).1),rfl,hxp,stF_no _ (by decide +kernel) (by decide +kernel) (by decide +kernel),_,rfl,xp,y,nextN (chN p0 i).1,(chN p0 i).1,rfl,rfl,⟨dxp,hxp⟩,R.same sn,fit,fun z Hb sbh Z=>?_⟩;have Z:RestAt CR Hb z (chN p0 (i + 1)).1:=Z;have snb:=sn.trans sbh;have X1:StepAt cs Hb xp (nextN (chN p0 i).1):=⟨dxp,sbh _ _ hxp⟩;have ht1:=snb _ _ ht_;have hb1:=snb _ _ hb_;have go:∀ (Hc:Hp) (zb:List V),Frz Hb Hc->Same Hr Hc->Hc lr=some (.lst xr)->Hc lq=some (.lst xs)->Hc lt=some (.lst xt)->Hc lb=some (.lst zb)->Refs (fun q j=>Hc q=some (.tup (bandV ((bndN p0 (i + 1)).getD j bz)))) zb (bndN p0 (i + 1)).length->
     ∀ (tq2:Addr) (Hd:Hp),Same Hc Hd->Hd tq2=some (.tup (iV (chN p0 (i + 1)).2))->
     (∃ m',m' < (chN p0 i).1.size.toNat/\∃ (i':Nat) (y':Addr) (xr' xs' xt' xb':List V) (v7 v8:Option V),[some (V.ref x),some (.ref xl),some (.ref z),some (.ref lr),some (.ref lq),some (.ref lt),some (.ref lb),some (.ref xp),some (.ref z)]=[some (.ref x),some (.ref xl),some (.ref y'),some (.ref lr),some (.ref lq),some (.ref lt),some (.ref lb),v7,v8]/\Long p0 i'/\RestAt CR (upd (upd (upd Hd lt (.lst (xt ++ [.ref tq2]))) lq (.lst (xs ++ [.ref xp]))) lr (.lst (xr ++ [.ref z]))) y' (chN p0 i').1/\Same Hr (upd (upd (upd Hd lt (.lst (xt ++ [.ref tq2]))) lq (.lst (xs ++ [.ref xp]))) lr (.lst (xr ++ [.ref z])))/\
      ((upd (upd (upd Hd lt (.lst (xt ++ [.ref tq2]))) lq (.lst (xs ++ [.ref xp]))) lr (.lst (xr ++ [.ref z]))) lr=some (.lst xr')/\(upd (upd (upd Hd lt (.lst (xt ++ [.ref tq2]))) lq (.lst (xs ++ [.ref xp]))) lr (.lst (xr ++ [.ref z]))) lq=some (.lst xs')/\(upd (upd (upd Hd lt (.lst (xt ++ [.ref tq2]))) lq (.lst (xs ++ [.ref xp]))) lr (.lst (xr ++ [.ref z]))) lt=some (.lst xt')/\(upd (upd (upd Hd lt (.lst (xt ++ [.ref tq2]))) lq (.lst (xs ++ [.ref xp]))) lr (.lst (xr ++ [.ref z]))) lb=some (.lst xb'))/\
      Refs (fun q i=>RestAt CR (upd (upd (upd Hd lt (.lst (xt ++ [.ref tq2]))) lq (.lst (xs ++ [.ref xp]))) lr (.lst (xr ++ [.ref z]))) q (chN p0 i).1) xr' (i' + 1)/\Refs (fun q i=>StepAt cs (upd (upd (upd Hd lt (.lst (xt ++ [.ref tq2]))) lq (.lst (xs ++ [.ref xp]))) lr (.lst (xr ++ [.ref z]))) q (nextN (chN p0 i).1)) xs' i'/\Refs (fun q i=>(upd (upd (upd Hd lt (.lst (xt ++ [.ref tq2]))) lq (.lst (xs ++ [.ref xp]))) lr (.lst (xr ++ [.ref z]))) q=some (.tup (iV (chN p0 i).2))) xt' (i' + 1)/\
      Refs (fun q j=>(upd (upd (upd Hd lt (.lst (xt ++ [.ref tq2]))) lq (.lst (xs ++ [.ref xp]))) lr (.lst (xr ++ [.ref z]))) q=some (.tup (bandV ((bndN p0 i').getD j bz)))) xb' (bndN p0 i').length/\m'=(chN p0 i').1.size.toNat):=by
    intro Hc zb fc src cr cq ct cb rbc tq2 Hd sd2 htq2;have dr:=sd2 _ _ cr;have dq:=sd2 _ _ cq;have dt:=sd2 _ _ ct;have db:=sd2 _ _ cb;have f1:Frz Hd (upd Hd lt (.lst (xt ++ [.ref tq2]))):=Frz.upd dt;have f2:Frz (upd Hd lt (.lst (xt ++ [.ref tq2]))) (upd (upd Hd lt (.lst (xt ++ [.ref tq2]))) lq (.lst (xs ++ [.ref xp]))):=Frz.upd (xs:=xs) (by rw [Jb n_qt];exact dq);have f3:Frz (upd (upd Hd lt (.lst (xt ++ [.ref tq2]))) lq (.lst (xs ++ [.ref xp]))) (upd (upd (upd Hd lt (.lst (xt ++ [.ref tq2]))) lq (.lst (xs ++ [.ref xp]))) lr (.lst (xr ++ [.ref z]))):=Frz.upd (xs:=xr) (by rw [Jb (Ne.symm n_qr),Jb n_rt];exact dr);have fde:=(f1.trans f2).trans f3;have sre:Same Hr (upd (upd (upd Hd lt (.lst (xt ++ [.ref tq2]))) lq (.lst (xs ++ [.ref xp]))) lr (.lst (xr ++ [.ref z]))):=fun b o e=>by
     rw [Jb (J8 e fr_r),Jb (J8 e fr_q),Jb (J8 e fr_t)];exact sd2 _ _ (src _ _ e)
    have er:(upd (upd (upd Hd lt (.lst (xt ++ [.ref tq2]))) lq (.lst (xs ++ [.ref xp]))) lr (.lst (xr ++ [.ref z]))) lr=some (.lst (xr ++ [.ref z])):=J2;have eq:(upd (upd (upd Hd lt (.lst (xt ++ [.ref tq2]))) lq (.lst (xs ++ [.ref xp]))) lr (.lst (xr ++ [.ref z]))) lq=some (.lst (xs ++ [.ref xp])):=by rw [Jb n_qr,J2]
    have et:(upd (upd (upd Hd lt (.lst (xt ++ [.ref tq2]))) lq (.lst (xs ++ [.ref xp]))) lr (.lst (xr ++ [.ref z]))) lt=some (.lst (xt ++ [.ref tq2])):=by rw [Jb (Ne.symm n_rt),Jb (Ne.symm n_qt),J2]
    have eb:(upd (upd (upd Hd lt (.lst (xt ++ [.ref tq2]))) lq (.lst (xs ++ [.ref xp]))) lr (.lst (xr ++ [.ref z]))) lb=some (.lst zb):=by rw [Jb (Ne.symm n_rb),Jb (Ne.symm n_qb),Jb (Ne.symm n_tb)];exact db
    generalize (upd (upd (upd Hd lt (.lst (xt ++ [.ref tq2]))) lq (.lst (xs ++ [.ref xp]))) lr (.lst (xr ++ [.ref z])))=He at *;have fwe:Frz Hw He:=((((Frz.of snb).trans fc).trans (Frz.of sd2)).trans fde);have fbe:Frz Hb He:=((fc).trans (Frz.of sd2)).trans fde;have Ze:=Z.frz fbe;refine ⟨(chN p0 (i + 1)).1.size.toNat,?_,i + 1,z,_,_,_,_,_,_,rfl,lg',Ze,sre,⟨er,eq,et,eb⟩,(rr.mono fun q j _ a=>a.frz fwe).snoc Ze,(rs.mono fun q j _ a=>a.frz fwe).snoc (X1.frz fbe),(rt.mono fun q j _ a=>fwe _ _ a (fun _ e=>nomatch e)).snoc (fde _ _ htq2 (fun _ e=>nomatch e)),rbc.mono fun q j _ a=>((Frz.of sd2).trans fde) _ _ a (fun _ e=>nomatch e),rfl⟩;have:=down.less;have e:(chN p0 (i + 1)).1.size=((nextN (chN p0 i).1).behind (chN p0 i).1).size:=rfl;rw [e];lia
   refine ⟨_,rfl,.inl ⟨rfl,_,SqL.of hb1⟩,_,rfl,_,rfl,_,rfl,_,rfl,_,rfl,lt,_,_,_,rfl,rfl,SqL.of ht1,last,tq,xp,y,z,nextN (chN p0 i).1,(chN p0 i).1,(chN p0 i).2,rfl,snb _ _ htq,X1,R.same snb,Z,wl,(by rw [cok.ok.len];exact wl),(by rw [tlen];exact wl),fun hh bp Hc0 sc0 hbp=>?_,fun hh bp bq Hc0 sc0 hbp hbq=>?_⟩
   ·have eB:bndN p0 (i + 1)=bndN p0 i:=by
     show bndN p0 i ++ bndB (chN p0 i)=_;unfold bndB;rw [if_neg (by rw [hh];decide),append_nil]
    have hb2:=sc0 _ _ hb1;refine ⟨lb,bp,xb,[],rfl,rfl,hb2,hbp,(by rw [rb.len];show _ + 0<=_;lia),?_⟩;have fc:Frz Hb (upd Hc0 lb (.lst (xb ++ []))):=(Frz.of sc0).trans (Frz.upd hb2);have src:Same Hr (upd Hc0 lb (.lst (xb ++ []))):=fun b o e=>by
     rw [Jb (J8 e fr_b)];exact sc0 _ _ (snb _ _ (sw _ _ e))
    have cr:(upd Hc0 lb (.lst (xb ++ []))) lr=some (.lst xr):=by rw [Jb n_rb];exact sc0 _ _ (snb _ _ hr_)
    have cq:(upd Hc0 lb (.lst (xb ++ []))) lq=some (.lst xs):=by rw [Jb n_qb];exact sc0 _ _ (snb _ _ hq_)
    have ct:(upd Hc0 lb (.lst (xb ++ []))) lt=some (.lst xt):=by rw [Jb n_tb];exact sc0 _ _ ht1
    have cb:(upd Hc0 lb (.lst (xb ++ []))) lb=some (.lst (xb ++ [])):=J2;generalize (upd Hc0 lb (.lst (xb ++ [])))=Hc at *;have rbc:Refs (fun q j=>Hc q=some (.tup (bandV ((bndN p0 (i + 1)).getD j bz)))) (xb ++ []) (bndN p0 (i + 1)).length:=by
     rw [eB,append_nil];exact rb.mono fun q j _ a=>((Frz.of snb).trans fc) _ _ a (fun _ e=>nomatch e)
    refine ⟨_,rfl,.inl ⟨rfl,_,SqL.of ct⟩,_,rfl,_,rfl,lt,_,_,_,rfl,rfl,SqL.of ct,last,_,rfl,_,rfl,_,rfl,tq,xp,y,z,nextN (chN p0 i).1,(chN p0 i).1,(chN p0 i).2,rfl,((Frz.of snb).trans fc) _ _ htq (fun _ e=>nomatch e),X1.frz fc,R.frz ((Frz.of snb).trans fc),Z.frz fc,win,cok.ok.perm.mem_iff.mpr win,(by rw [tlen];exact wl),(by rw [tlen];exact cok.ok.few),big,fun tq2 Hd sd2 htq2=>?_⟩;refine ⟨lt,_,_,rfl,rfl,sd2 _ _ ct,(by rw [rt.len];lia),?_⟩;refine ⟨_,rfl,.inl ⟨rfl,_,SqL.of (xs:=xs) (by rw [Jb n_qt];exact sd2 _ _ cq)⟩,_,rfl,lq,xs,_,rfl,rfl,(by rw [Jb n_qt];exact sd2 _ _ cq),(by rw [rs.len];lia),?_⟩;refine ⟨_,rfl,.inl ⟨rfl,_,SqL.of (xs:=xr) (by rw [Jb (Ne.symm n_qr),Jb n_rt];exact sd2 _ _ cr)⟩,_,rfl,lr,xr,_,rfl,rfl,(by rw [Jb (Ne.symm n_qr),Jb n_rt];exact sd2 _ _ cr),(by rw [rr.len];lia),?_⟩;exact ⟨_,rfl,go Hc _ fc src cr cq ct cb rbc tq2 Hd sd2 htq2⟩
   ·have eB:bndN p0 (i + 1)=bndN p0 i ++ [((chS (chN p0 i)).1.size,(chN p0 i).1.ls.getD (nextN (chN p0 i).1).winner 0,(chN p0 i).2.getD (nextN (chN p0 i).1).winner 0,(chN p0 i).1.ts.getD (nextN (chN p0 i).1).winner false)]:=by
     show bndN p0 i ++ bndB (chN p0 i)=_;unfold bndB;rw [if_pos hh]
    have hb2:=sc0 _ _ hb1;refine ⟨lb,bp,xb,[.ref bq],rfl,rfl,hb2,hbp,(by rw [rb.len];show _ + 1<=_;lia),?_⟩;have fc:Frz Hb (upd Hc0 lb (.lst (xb ++ [.ref bq]))):=(Frz.of sc0).trans (Frz.upd hb2);have fq:(upd Hc0 lb (.lst (xb ++ [.ref bq]))) bq=_:=(Frz.upd (ys:=xb ++ [.ref bq]) hb2) _ _ hbq (fun _ e=>nomatch e);have src:Same Hr (upd Hc0 lb (.lst (xb ++ [.ref bq]))):=fun b o e=>by
     rw [Jb (J8 e fr_b)];exact sc0 _ _ (snb _ _ (sw _ _ e))
    have cr:(upd Hc0 lb (.lst (xb ++ [.ref bq]))) lr=some (.lst xr):=by rw [Jb n_rb];exact sc0 _ _ (snb _ _ hr_)
    have cq:(upd Hc0 lb (.lst (xb ++ [.ref bq]))) lq=some (.lst xs):=by rw [Jb n_qb];exact sc0 _ _ (snb _ _ hq_)
    have ct:(upd Hc0 lb (.lst (xb ++ [.ref bq]))) lt=some (.lst xt):=by rw [Jb n_tb];exact sc0 _ _ ht1
    have cb:(upd Hc0 lb (.lst (xb ++ [.ref bq]))) lb=some (.lst (xb ++ [.ref bq])):=J2;generalize (upd Hc0 lb (.lst (xb ++ [.ref bq])))=Hc at *;have rbc:Refs (fun q j=>Hc q=some (.tup (bandV ((bndN p0 (i + 1)).getD j bz)))) (xb ++ [.ref bq]) (bndN p0 (i + 1)).length:=by
     have r1:Refs (fun q j=>Hc q=some (.tup (bandV ((bndN p0 (i + 1)).getD j bz)))) xb (bndN p0 i).length:=rb.mono fun q j hj a=>by
      have e:(bndN p0 (i + 1)).getD j bz=(bndN p0 i).getD j bz:=by
       rw [eB,getD_eq_getElem?_getD,getElem?_append_left hj];exact (getD_eq_getElem?_getD ..).symm
      rw [e];exact ((Frz.of snb).trans fc) _ _ a (fun _ e=>nomatch e)
     have e2:(bndN p0 (i + 1)).length=(bndN p0 i).length + 1:=by rw [eB,length_append];rfl
     rw [e2];refine r1.snoc ?_;have e:(bndN p0 (i + 1)).getD (bndN p0 i).length bz=((chS (chN p0 i)).1.size,(chN p0 i).1.ls.getD (nextN (chN p0 i).1).winner 0,(chN p0 i).2.getD (nextN (chN p0 i).1).winner 0,(chN p0 i).1.ts.getD (nextN (chN p0 i).1).winner false):=by
      rw [eB,getD_eq_getElem?_getD,getElem?_append_right (Nat.le_refl _),Nat.sub_self];rfl
     rw [e];exact fq
    refine ⟨_,rfl,.inl ⟨rfl,_,SqL.of ct⟩,_,rfl,_,rfl,lt,_,_,_,rfl,rfl,SqL.of ct,last,_,rfl,_,rfl,_,rfl,tq,xp,y,z,nextN (chN p0 i).1,(chN p0 i).1,(chN p0 i).2,rfl,((Frz.of snb).trans fc) _ _ htq (fun _ e=>nomatch e),X1.frz fc,R.frz ((Frz.of snb).trans fc),Z.frz fc,win,cok.ok.perm.mem_iff.mpr win,(by rw [tlen];exact wl),(by rw [tlen];exact cok.ok.few),big,fun tq2 Hd sd2 htq2=>?_⟩;refine ⟨lt,_,_,rfl,rfl,sd2 _ _ ct,(by rw [rt.len];lia),?_⟩;refine ⟨_,rfl,.inl ⟨rfl,_,SqL.of (xs:=xs) (by rw [Jb n_qt];exact sd2 _ _ cq)⟩,_,rfl,lq,xs,_,rfl,rfl,(by rw [Jb n_qt];exact sd2 _ _ cq),(by rw [rs.len];lia),?_⟩;refine ⟨_,rfl,.inl ⟨rfl,_,SqL.of (xs:=xr) (by rw [Jb (Ne.symm n_qr),Jb n_rt];exact sd2 _ _ cr)⟩,_,rfl,lr,xr,_,rfl,rfl,(by rw [Jb (Ne.symm n_qr),Jb n_rt];exact sd2 _ _ cr),(by rw [rr.len];lia),?_⟩;exact ⟨_,rfl,go Hc _ fc src cr cq ct cb rbc tq2 Hd sd2 htq2⟩
structure TxtSr (K:PySem.W.Frag) (CW:Addr):Prop where
 cl:Cls K CW
 nF:NoAttr K CW "first"
 nL:NoAttr K CW "length"
 nA:NoAttr K CW "laid"
 nT:NoAttr K CW "turned"
structure SrAt (CW:Addr) (H:Hp) (x:Addr) (s:Sr):Prop where
 ex:∃ (dx:Addr) (fs:List (Str × V)),H x=some (.ins CW dx fs)/\fs.lookup ("first":Str)=some (.int s.fi)/\fs.lookup ("length":Str)=some (.int s.le)/\fs.lookup ("laid":Str)=some (.int s.la)/\fs.lookup ("turned":Str)=some (.bl s.tu)
theorem SrAt.same {CW:Addr} {H H':Hp} {x:Addr} {s:Sr} (h:SrAt CW H x s) (k:Same H H'):SrAt CW H' x s :=
 let ⟨dx,fs,h0,r⟩:=h.ex;⟨dx,fs,k _ _ h0,r⟩
theorem SrAt.keep {CW d:Addr} {H H':Hp} {x:Addr} {s:Sr} (h:SrAt CW H x s) (hd:x≠d) (k:∀ b u,H b=some u->b≠d->H' b=some u):SrAt CW H' x s :=
 let ⟨dx,fs,h0,r⟩:=h.ex;⟨dx,fs,k _ _ h0 hd,r⟩
def spSr (CW:Addr):Sp:=fun vs H Q _=>∃ (x dx:Addr) (f l a:Int) (t:Bool),vs=[.ref x,.int f,.int l,.int a,.bl t]/\H x=some (.ins CW dx [])/\∀ H',SrAt CW H' x ⟨f,l,a,t && decide (1 < l)⟩->KeepX x H H'->Q .non H'
theorem scSrInit:FnScope ["self","first","length","laid","turned"] ["self","first","length","laid","turned"] (J6 sSrInit):=fS
theorem ok_sr {f  CW : Addr} {fd  : FuncData}  (F : Fun K "__init__" "Stretch.__init__" sSrInit f fd) (TW : TxtSr K CW)
 :
    FnOk P w K mg base CX0 1 f fd ["self", "first", "length", "laid", "turned"] (spSr CW) := by
  refine F.ok scSrInit (fun vs H Q E h => ?_) (fun cdv A outer s H vs Q E hr h => ?_)
  · obtain ⟨x, dx, f, l, a, t, rfl, _⟩ := h
    rfl
  · obtain ⟨x, dx, f, l, a, t, rfl, hx, k⟩ := h
    refine ⟨_, (J1 (J1d (pv 0) (pv 1) rfl)
      (J1 (J1d (pv 0) (pv 2) rfl)
      (J1 (J1d (pv 0) (pv 3) rfl)
      (J4 (J1d (pv 0) (pe_and (pv 4) (pe_one (J2q op_gt (pv 2) Jd (Jp _)))) rfl))))), ?_⟩
    refine ⟨_, rfl, _, rfl, x, CW, dx, [], rfl, hx, TW.cl, TW.nF, (by show 0 < 1000; decide), ?_⟩;generalize hfs1 : putF ("first" : Str) (.int f) [] = fs1;generalize hH1 : upd H x (.ins CW dx fs1) = H1;have l1 : fs1.length <= 1 := by rw [<- hfs1]; exact Jg ..
    have k1 : KeepX x H H1 := by rw [<- hH1]; exact KeepX.upd
    have hx1 : H1 x = some (.ins CW dx fs1) := by rw [<- hH1]; exact J2
    refine ⟨_, rfl, _, rfl, x, CW, dx, fs1, rfl, hx1, TW.cl, TW.nL, (by lia), ?_⟩;generalize hfs2 : putF ("length" : Str) (.int l) fs1 = fs2;generalize hH2 : upd H1 x (.ins CW dx fs2) = H2;have l2 : fs2.length <= 2 := by rw [<- hfs2]; have := Jg ("length" : Str) (.int l) fs1; lia
    have k2 : KeepX x H1 H2 := by rw [<- hH2]; exact KeepX.upd
    have hx2 : H2 x = some (.ins CW dx fs2) := by rw [<- hH2]; exact J2
    refine ⟨_, rfl, _, rfl, x, CW, dx, fs2, rfl, hx2, TW.cl, TW.nA, (by lia), ?_⟩;generalize hfs3 : putF ("laid" : Str) (.int a) fs2 = fs3;generalize hH3 : upd H2 x (.ins CW dx fs3) = H3;have l3 : fs3.length <= 3 := by rw [<- hfs3]; have := Jg ("laid" : Str) (.int a) fs2; lia
    have k3 : KeepX x H2 H3 := by rw [<- hH3]; exact KeepX.upd
    have hx3 : H3 x = some (.ins CW dx fs3) := by rw [<- hH3]; exact J2
    have fin : ∀ b : Bool, b = (t && decide (1 < l)) -> sFld K (tVar 0) (tC (.bl b)) "turned" { nx := fun _ H' => Q .non H', rt := Q } (start ["self", "first", "length", "laid", "turned"] [.ref x, .int f, .int l, .int a, .bl t]) H3 := fun b eb => by
      refine ⟨_, rfl, x, CW, dx, fs3, rfl, hx3, TW.cl, TW.nT, (by lia), ?_⟩;refine k _ ⟨dx, _, J2, ?_, ?_, ?_, by rw [Jt, eb]⟩ (k1.trans (k2.trans (k3.trans KeepX.upd)))
      · rw [lk_ne (by decide +kernel), <- hfs3, lk_ne (by decide +kernel), <- hfs2, lk_ne (by decide +kernel), <- hfs1, Jt]
      · rw [lk_ne (by decide +kernel), <- hfs3, lk_ne (by decide +kernel), <- hfs2, Jt]
      · rw [lk_ne (by decide +kernel), <- hfs3, Jt]
    refine ⟨_, rfl, t, rfl, ?_⟩
    cases t with
    | true =>
      rw [if_pos rfl];exact ⟨_, rfl, _, _, rfl, rfl, fin _ (by simp)⟩
    | false =>
      rw [if_neg (by decide)];exact fin false rfl
theorem sr_made {CW:Addr} {H:Hp} {f l a:Int} {t:Bool} {Q:VK} (k:∀ p H',Same H H'->SrAt CW H' p ⟨f,l,a,t && decide (1 < l)⟩->(∀ b u,H b=some u->p≠b)->Q (.ref p) H') :
  ∀ x dx,H x=none->H dx=none->dx≠x->spSr CW (.ref x :: ([.int f,.int l,.int a,.bl t] ++ [])) (upd (upd H dx (.own x)) x (.ins CW dx [])) (fun v H2=>v=.non/\Q (.ref x) H2) E0:=fun x dx hx hdx hne=>by
 have sx:=(J7 (o:=.own x) hdx).trans (J7 (l:=x) (o:=.ins CW dx []) (by rw [Jb (Ne.symm hne)];exact hx));exact ⟨x,dx,f,l,a,t,rfl,J2,fun H' S kp=>⟨rfl,k x H' (fun b u e=>kp _ _ (sx _ _ e) (J8 e hx)) S fun b u e z=>J8 e hx z.symm⟩⟩
def spFirstG (CW:Addr):Sp:=fun vs H Q _=>∃ (q:Addr) (s:Sr),vs=[.ref q]/\SrAt CW H q s/\Q (.int (fgo s)) H
def spLastG (CW:Addr):Sp:=fun vs H Q _=>∃ (q:Addr) (s:Sr),vs=[.ref q]/\SrAt CW H q s/\Q (.int (lgo s)) H
def spGoTog (CW:Addr):Sp:=fun vs H Q _=>∃ (p q:Addr) (a b:Sr),vs=[.ref p,.ref q]/\SrAt CW H p a/\SrAt CW H q b/\Q (.bl (gtog a b)) H
def spMade1 (CW:Addr):Sp:=fun vs H Q _=>∃ (p q:Addr) (a b:Sr),vs=[.ref p,.ref q]/\SrAt CW H p a/\SrAt CW H q b/\∀ r H',Same H H'->SrAt CW H' r (mk1 a b)->(∀ b u,H b=some u->r≠b)->Q (.ref r) H'
theorem scFirstG:FnScope ["stretch"] ["stretch"] (J6 sFirstG):=fS
theorem ok_firstG {f  CW : Addr} {fd  : FuncData}  (F : Fun K "first_goes" "first_goes" sFirstG f fd) (TW : TxtSr K CW)
 :
    FnOk P w K mg base CX0 1 f fd ["stretch"] (spFirstG CW) := by
  refine F.ok scFirstG (fun vs H Q E h => ?_) (fun cdv A outer s H vs Q E hr h => ?_)
  · obtain ⟨q, s0, rfl, _⟩ := h
    rfl
  · obtain ⟨q, s0, rfl, A0, k⟩ := h
    refine ⟨_, (J4 (Jh (J23 (J2p (Ja (pv 0) rfl)) (pe_op J1l (pe_op J19 (Ja (pv 0) rfl) (Ja (pv 0) rfl)) Jd) (Ja (pv 0) rfl)))), ?_⟩;obtain ⟨da, fa, a0, aF, aL, aA, aT⟩ := A0.ex;refine ⟨_, rfl, q, CW, da, fa, _, rfl, a0, TW.cl, TW.nT, aT, s0.tu, rfl, ?_⟩;unfold fgo at k;by_cases e : s0.tu = true
    · rw [if_pos e] at k ⊢
      exact ⟨_, rfl, q, CW, da, fa, _, rfl, a0, TW.cl, TW.nA, aA, _, rfl, q, CW, da, fa, _, rfl, a0, TW.cl, TW.nL, aL, _, _, rfl, rfl, _, _, rfl, rfl, k⟩
    · rw [if_neg e] at k ⊢
      exact ⟨_, rfl, q, CW, da, fa, _, rfl, a0, TW.cl, TW.nA, aA, k⟩
theorem scLastG:FnScope ["stretch"] ["stretch"] (J6 sLastG):=fS
theorem ok_lastG {f  CW : Addr} {fd  : FuncData}  (F : Fun K "last_goes" "last_goes" sLastG f fd) (TW : TxtSr K CW)
 :
    FnOk P w K mg base CX0 1 f fd ["stretch"] (spLastG CW) := by
  refine F.ok scLastG (fun vs H Q E h => ?_) (fun cdv A outer s H vs Q E hr h => ?_)
  · obtain ⟨q, s0, rfl, _⟩ := h
    rfl
  · obtain ⟨q, s0, rfl, A0, k⟩ := h
    refine ⟨_, (J4 (Jh (J23 (J2p (Ja (pv 0) rfl)) (Ja (pv 0) rfl) (pe_op J1l (pe_op J19 (Ja (pv 0) rfl) (Ja (pv 0) rfl)) Jd)))), ?_⟩;obtain ⟨da, fa, a0, aF, aL, aA, aT⟩ := A0.ex;refine ⟨_, rfl, q, CW, da, fa, _, rfl, a0, TW.cl, TW.nT, aT, s0.tu, rfl, ?_⟩;unfold lgo at k;by_cases e : s0.tu = true
    · rw [if_pos e] at k ⊢
      exact ⟨_, rfl, q, CW, da, fa, _, rfl, a0, TW.cl, TW.nA, aA, k⟩
    · rw [if_neg e] at k ⊢
      exact ⟨_, rfl, q, CW, da, fa, _, rfl, a0, TW.cl, TW.nA, aA, _, rfl, q, CW, da, fa, _, rfl, a0, TW.cl, TW.nL, aL, _, _, rfl, rfl, _, _, rfl, rfl, k⟩
theorem scGoTog:FnScope ["one","two"] ["one","two"] (J6 sGoTog):=fS
theorem ok_goTog {f fFG fLG CW:Addr} {fd fdFG fdLG:FuncData}  (F:Fun K "go_together" "go_together" sGoTog f fd) (habs:mg "abs"=none)
  (GFG:FnOk P w K mg base CX0 1 fFG fdFG ["stretch"] (spFirstG CW)) (bFG:Binds K fdFG ["stretch"] []) (mFG:mg "first_goes"=some (.ref fFG)) (kFG:keepIn K (.ref fFG)=true)
  (GLG:FnOk P w K mg base CX0 1 fLG fdLG ["stretch"] (spLastG CW)) (bLG:Binds K fdLG ["stretch"] []) (mLG:mg "last_goes"=some (.ref fLG)) (kLG:keepIn K (.ref fLG)=true) :
  FnOk P w K mg base CX0 2 f fd ["one","two"] (spGoTog CW):=by
 refine F.ok scGoTog (fun vs H Q E h=>?_) (fun cdv A outer s H vs Q E hr h=>?_)
 ·obtain ⟨p,q,a,b,rfl,_⟩:=h;rfl
 ·obtain ⟨p,q,a,b,rfl,A0,B0,k⟩:=h;have hr1:Room 1 _:=rm hr;refine ⟨_,(J4 (Jh (J2q op_eq (Je call_abs (by rfl) habs boot_abs (J0 (pe_op J1l (Jc GFG hr1 rfl mFG kFG bFG .nil pass0 (J0 (pv 1) J3)) (Jc GLG hr1 rfl mLG kLG bLG .nil pass0 (J0 (pv 0) J3))) J3)) Jd (Jp _)))),?_⟩;refine ⟨_,rfl,q,b,rfl,B0,_,rfl,p,a,rfl,A0,_,_,rfl,rfl,_,rfl,?_⟩;have e:decide (V.int (if fgo b - lgo a < 0 then -(fgo b - lgo a) else fgo b - lgo a)=V.int 1)=gtog a b:=by unfold gtog;simp only [V.int.injEq]
  exact ⟨rfl,by rw [e];exact k⟩
theorem scMade1:FnScope ["one","two"] ["one","two"] (J6 sMade1):=fS
theorem ok_made1 {f fSR CW:Addr} {fd fdSR:FuncData}  (F:Fun K "made_one" "made_one" sMade1 f fd) (TW:TxtSr K CW) (hmin:mg "min"=none)
  (MSR:Mk K CW fSR) (GSR:FnOk P w K mg base CX0 1 fSR fdSR ["self","first","length","laid","turned"] (spSr CW)) (bSR:Binds K fdSR ["self","first","length","laid","turned"] []) (mgSR:mg "Stretch"=some (.ref CW)) :
  FnOk P w K mg base CX0 3 f fd ["one","two"] (spMade1 CW):=by
 refine F.ok scMade1 (fun vs H Q E h=>?_) (fun cdv A outer s H vs Q E hr h=>?_)
 ·obtain ⟨p,q,a,b,rfl,_⟩:=h;rfl
 ·obtain ⟨p,q,a,b,rfl,A0,B0,k⟩:=h;have hr2:Room 2 _:=rm hr;refine ⟨_,(J4 (Jh (J16 MSR GSR hr2 rfl mgSR bSR .nil pass0 (J0 (Ja (pv 0) rfl) (J0 (pe_op J19 (Ja (pv 0) rfl) (Ja (pv 1) rfl)) (J0 (Je (J4u rfl) (by rfl) hmin boot_min (J0 (Ja (pv 0) rfl) (J0 (Ja (pv 1) rfl) J3))) (J0 (J2q op_lt (Ja (pv 1) rfl) (Ja (pv 0) rfl) (Jp _)) J3))))))),?_⟩;obtain ⟨da,fa,a0,aF,aL,aA,aT⟩:=A0.ex;obtain ⟨db,fb,b0,bF,bL,bA,bT⟩:=B0.ex;exact ⟨_,rfl,p,CW,da,fa,_,rfl,a0,TW.cl,TW.nF,aF,_,rfl,p,CW,da,fa,_,rfl,a0,TW.cl,TW.nL,aL,_,rfl,q,CW,db,fb,_,rfl,b0,TW.cl,TW.nL,bL,_,_,rfl,rfl,_,rfl,p,CW,da,fa,_,rfl,a0,TW.cl,TW.nA,aA,_,rfl,q,CW,db,fb,_,rfl,b0,TW.cl,TW.nA,bA,_,_,rfl,_,rfl,q,CW,db,fb,_,rfl,b0,TW.cl,TW.nA,bA,_,rfl,p,CW,da,fa,_,rfl,a0,TW.cl,TW.nA,aA,_,_,rfl,rfl,sr_made fun r H' s' R fr=>k r H' s' R fr⟩
def spStrOf (C CW:Addr):Sp:=fun vs H Q _=>∃ (x:Addr) (ls:List Int) (os:List Nat) (ts:List Bool),vs=[.ref x]/\LineAt C H x ls os ts/\ls.length<=24/\ts.length=ls.length/\∀ d ys H',Same H H'->H' d=some (.lst ys)->Refs (fun q i=>SrAt CW H' q (srO ls os ts i)) ys ls.length->Q (.ref d) H'
theorem scStrOf:FnScope ["line"] ["line"] (J6 sStrOf):=fS
theorem ok_strOf {f fSR C CW:Addr} {fd fdSR:FuncData}  (F:Fun K "stretches_of" "stretches_of" sStrOf f fd) (TC:TxtC K mg C) (henum:mg "enumerate"=none)
  (MSR:Mk K CW fSR) (GSR:FnOk P w K mg base CX0 1 fSR fdSR ["self","first","length","laid","turned"] (spSr CW)) (bSR:Binds K fdSR ["self","first","length","laid","turned"] []) (mgSR:mg "Stretch"=some (.ref CW)) :
  FnOk P w K mg base CX0 3 f fd ["line"] (spStrOf C CW):=by
 refine F.ok scStrOf (fun vs H Q E h=>?_) (fun cdv A outer s H vs Q E hr h=>?_)
 ·obtain ⟨x,ls,os,ts,rfl,_⟩:=h;rfl
 ·obtain ⟨x,ls,os,ts,rfl,L0,hn,ht,k⟩:=h;have hr2:Room 2 _:=rm hr;refine ⟨_,(J4 (Jh (pe_lc2 (caps:=["line"]) (js:=[0]) rfl (pi_enum rfl henum (J0 (Ja (pv 0) rfl) J3)) rfl (fun _ _ _ _=>J3g) (fun C fp s H=>(J16 MSR GSR hr2 rfl mgSR bSR .nil pass0 (J0 (J59 (J40 K) (J5b K (pv 2)) (pv 0)) (J0 (pv 1) (J0 (J59 (J40 K) (J5b K (pv 2)) (pv 0)) (J0 (J59 (J40 K) (J5b K (pv 2)) (pv 0)) J3)))))) (by decide +kernel) (by decide +kernel) (by decide +kernel) (by intro p hp;simp only [mem_cons,not_mem_nil,or_false] at hp;rcases hp with rfl;rfl)))),?_⟩;obtain ⟨dx,fl,pl,po,pt,ps,pd,h0,⟨k1,k2,k3,k4,k5,k6⟩,e1,e2,e3,e4,e5⟩:=L0.ex;refine ⟨_,rfl,x,C,dx,fl,_,rfl,h0,TC.cl,TC.nL,k1,pl,rfl,⟨_,SqT.of e1⟩,fun d hd=>lc_enumR (iV ls) (fun H q i=>SrAt CW H q (srO ls os ts i)) (SqT.of e1) (by rw [J1v];exact Nat.le_of_lt (Jq (by lia))) hd (fun H H' q i kd hq A=>A.keep hq kd) (fun i v hv H1 Qe s1 hex ke=>?_) (fun ys H' s' hd' rf=>k d ys H' s' hd' (by rw [J1v] at rf;exact rf))⟩;have hi:i < ls.length:=by have:=(List.getElem?_eq_some_iff.mp hv).1;rwa [J1v] at this
  obtain rfl:V.int (ls.getD i 0)=v:=Option.some.inj ((J1a hi).symm.trans hv);obtain ⟨yd,hyd⟩:=hex;exact ⟨_,rfl,x,C,dx,fl,_,rfl,s1 _ _ h0,TC.cl,TC.nS,k4,_,rfl,ps,_,_,_,rfl,rfl,SqT.of (s1 _ _ e4),Jj (J1a (by rw [J1w];exact hi)),_,rfl,_,rfl,x,C,dx,fl,_,rfl,s1 _ _ h0,TC.cl,TC.nD,k5,_,rfl,pd,_,_,_,rfl,rfl,SqT.of (s1 _ _ e5),Jj (J1a (by rw [J1w];exact hi)),_,rfl,x,C,dx,fl,_,rfl,s1 _ _ h0,TC.cl,TC.nT,k3,_,rfl,pt,_,_,_,rfl,rfl,SqT.of (s1 _ _ e3),Jj (J4w (by rw [ht];exact hi)),sr_made fun r H' s' R fr=>ke r H' s' (fr _ _ hyd) R⟩
structure SrsAt (CW:Addr) (H:Hp) (ys:List V) (ss:List Sr):Prop where
 len:ys.length=ss.length
 at_:∀ (i:Nat) (s:Sr),ss[i]?=some s->∃ q,ys[i]?=some (.ref q)/\SrAt CW H q s
theorem SrsAt.same {CW:Addr} {H H':Hp} {ys:List V} {ss:List Sr} (h:SrsAt CW H ys ss) (k:Same H H'):SrsAt CW H' ys ss:=⟨h.len,fun i s e=>let ⟨q,e1,e2⟩:=h.at_ i s e;⟨q,e1,e2.same k⟩⟩
theorem SrsAt.keepD {CW d:Addr} {H H':Hp} {ys xs:List V} {ss:List Sr} (h:SrsAt CW H ys ss) (hl:H d=some (.lst xs)) (k:∀ b u,H b=some u->b≠d->H' b=some u):SrsAt CW H' ys ss :=
 ⟨h.len,fun i s e=>let ⟨q,e1,e2⟩:=h.at_ i s e;⟨q,e1,e2.keep (by
  intro z;obtain ⟨_,_,h0,_⟩:=e2.ex;rw [z,hl] at h0;cases h0) k⟩⟩
theorem SrsAt.snoc {CW:Addr} {H:Hp} {ys:List V} {ss:List Sr} {q:Addr} {s:Sr} (h:SrsAt CW H ys ss) (A:SrAt CW H q s):SrsAt CW H (ys ++ [.ref q]) (ss ++ [s]):=by
 have hl:=h.len;refine ⟨by simp [hl],fun i t e=>?_⟩;rcases Nat.lt_or_ge i ss.length with hi | hi
 ·rw [getElem?_append_left hi] at e;obtain ⟨p,e1,e2⟩:=h.at_ i t e;exact ⟨p,by rw [getElem?_append_left (by lia)];exact e1,e2⟩
 ·rw [getElem?_append_right hi] at e;obtain ⟨h0,e0⟩:=List.getElem?_eq_some_iff.mp e;have h1:i - ss.length=0:=by simpa using h0
  rw [h1] at e;cases e;exact ⟨q,by rw [getElem?_append_right (by lia),hl,h1];rfl,A⟩
theorem SrsAt.init {CW:Addr} {H:Hp} {ys:List V} {ss:List Sr} (h:SrsAt CW H ys ss):SrsAt CW H ys.dropLast ss.dropLast:=by
 have hl:=h.len;refine ⟨by simp [hl],fun i t e=>?_⟩;rw [List.getElem?_dropLast] at e;by_cases hi:i < ss.length - 1
 ·rw [if_pos hi] at e;obtain ⟨p,e1,e2⟩:=h.at_ i t e;exact ⟨p,by rw [List.getElem?_dropLast,if_pos (by lia)];exact e1,e2⟩
 ·rw [if_neg hi] at e;cases e
theorem set_last {α:Type} {ys:List α} {x:α} (h:ys≠[]):ys.set (ys.length - 1) x=ys.dropLast ++ [x]:=by
 rcases List.eq_nil_or_concat ys with rfl | ⟨l,b,rfl⟩
 ·exact absurd rfl h
 ·rw [List.concat_eq_append,List.dropLast_concat,length_append,List.set_append_right _ _ (by simp)];simp
theorem ixN_last {n:Nat} (h:1<=n):ixN n (-1)=some (n - 1):=by
 unfold ixN;rw [if_neg (by decide),if_pos (by lia)]
 congr 1
 lia
theorem J3c {α:Type} {xs:List α} {j:Nat} {x:α} (h:xs[j]?=some x):xs.take (j + 1)=xs.take j ++ [x]:=by
 obtain ⟨hj,e⟩:=List.getElem?_eq_some_iff.mp h;rw [<- e];exact (List.take_append_getElem hj).symm
theorem lgst_snoc {ss:List Sr} {i:Nat} {s:Sr} (h:ss[i]?=some s):lgst (ss.take (i + 1))=lstp (lgst (ss.take i)) s:=by
 unfold lgst;rw [J3c h,List.foldl_append];rfl
theorem lstp_len (acc:List Sr) (s:Sr):(lstp acc s).length<=acc.length + 1:=by
 unfold lstp
 cases e:acc.getLast? with
 | none=>simp
 | some a=>dsimp only;split <;> simp
theorem fold_len:∀ (ss acc:List Sr),(ss.foldl lstp acc).length<=acc.length + ss.length
 | [],acc=>Nat.le_refl _
 | s :: r,acc=>by
  have h1:=fold_len r (lstp acc s);have h2:=lstp_len acc s;rw [List.foldl_cons,length_cons];lia
theorem lgst_len (ss:List Sr):(lgst ss).length<=ss.length:=by
 have:=fold_len ss [];rw [List.length_nil,Nat.zero_add] at this;exact this
def PvL (CW l d:Addr) (ss:List Sr) (H:Hp) (i:Nat) (σ:St) (H2:Hp):Prop:=∃ v zs,σ=[some (.ref l),some (.ref d),v]/\H2 d=some (.lst zs)/\SrsAt CW H2 zs (lgst (ss.take i))/\Same H H2
def spLongest (CW:Addr):Sp:=fun vs H Q _=>∃ (l:Addr) (ys:List V) (ss:List Sr),vs=[.ref l]/\H l=some (.lst ys)/\SrsAt CW H ys ss/\ss.length<=1000/\∀ d zs H',Same H H'->H' d=some (.lst zs)->SrsAt CW H' zs (lgst ss)->Q (.ref d) H'
theorem scLongest:FnScope ["stretches","told","stretch"] ["stretches"] (J6 J5y):=fS
theorem ok_longest {f fGT fMO CW:Addr} {fd fdGT fdMO:FuncData}  (F:Fun K "longest" "longest" J5y f fd)
  (GGT:FnOk P w K mg base CX0 2 fGT fdGT ["one","two"] (spGoTog CW)) (bGT:Binds K fdGT ["one","two"] []) (mGT:mg "go_together"=some (.ref fGT)) (kGT:keepIn K (.ref fGT)=true)
  (GMO:FnOk P w K mg base CX0 3 fMO fdMO ["one","two"] (spMade1 CW)) (bMO:Binds K fdMO ["one","two"] []) (mMO:mg "made_one"=some (.ref fMO)) (kMO:keepIn K (.ref fMO)=true) :
  FnOk P w K mg base CX0 4 f fd ["stretches"] (spLongest CW):=by
 refine F.ok scLongest (fun vs H Q E h=>?_) (fun cdv A outer s H vs Q E hr h=>?_)
 ·obtain ⟨l,ys,ss,rfl,_⟩:=h;rfl
 ·obtain ⟨l,ys,ss,rfl,hl,B,hn,k⟩:=h;have hr2:Room 2 _:=rm hr;have hr3:Room 3 _:=rm hr;refine ⟨_,(J1 (Ji (i:=1) scLongest.nd rfl (Or.inl rfl) (J1t J3))
   (J1 (J34 PassesOwn.never rfl (J2f (pv 0)) (J1g (i:=2) scLongest.nd rfl (Or.inl rfl))
    (J4 (ps_if (PW.pt (pw_and (pt_truth (pv 1) (fun _=>rfl)) (pw_and1 (J2p (Jc GGT hr2 rfl mGT kGT bGT .nil pass0 (J0 (pe_ix J2s (pv 1) (pe_un J45 Jd) (fun _ _=>rfl)) (J0 (pv 2) J3))))))) (J4 (ps_asg (Jc GMO hr3 rfl mMO kMO bMO .nil pass0 (J0 (pe_ix J2s (pv 1) (pe_un J45 Jd) (fun _ _=>rfl)) (J0 (pv 2) J3))) (pg_sub (pv 1) (pe_un J45 Jd) J48))) (J4 (Jz (pe_bm PySem.F.plainAttrs_list PySem.F.slot_list_append PySem.F.type_list_append J1b (pv 1) (J0 (pv 2) J3)))))))
   (J4 (Jh (pv 1))))),?_⟩
  refine ⟨by show 0<=sizeLine;exact Nat.zero_le _,fun d hd=>?_⟩;have s0:=J7 (o:=.lst []) hd;refine ⟨_,rfl,l,rfl,⟨_,SqL.of (s0 _ _ hl)⟩,J2k (K:=K) (a:=l) (xs:=ys) (PvL CW l d ss H) ⟨none,[],rfl,J2,⟨rfl,fun i s e=>by simp [lgst] at e⟩,s0⟩ (fun i σ H2 _ ⟨_,_,_,_,_,s⟩=>SqL.of (s _ _ hl)) (fun i y σ H2 hy pv=>?_) (fun σ H2 ⟨v,zs,e,h,A2,s⟩=>?_)⟩
  ·obtain ⟨v,zs,rfl,h2,A2,s2⟩:=pv;have hi:i < ss.length:=by rw [<- B.len];exact (List.getElem?_eq_some_iff.mp hy).1
   have es:ss[i]?=some ss[i]:=List.getElem?_eq_getElem hi;obtain ⟨q,eq,As⟩:=B.at_ i _ es;obtain rfl:V.ref q=y:=Option.some.inj (eq.symm.trans hy);generalize ss[i]=t0 at *;have As2:=As.same s2;have nx:=lgst_snoc es;have zl:(lgst (ss.take i)).length<=1000:=Nat.le_trans (lgst_len _) (by rw [length_take];lia);generalize lgst (ss.take i)=acc at *;have al:=A2.len;have nd:∀ b u,H b=some u->b≠d:=fun b u e=>J8 e hd;have app:lstp acc t0=acc ++ [t0]->PvL CW l d ss H (i + 1) [some (.ref l),some (.ref d),some (.ref q)] (upd H2 d (.lst (zs ++ [.ref q]))):=fun e=>by
    refine ⟨_,_,rfl,J2,?_,fun b u x=>by rw [Jb (nd b u x)];exact s2 _ _ x⟩;rw [nx,e];have kp:∀ b u,H2 b=some u->b≠d->upd H2 d (.lst (zs ++ [.ref q])) b=some u:=fun b u x n=>by rw [Jb n];exact x
    exact (A2.keepD h2 kp).snoc (As2.keep (by
     intro z;obtain ⟨_,_,h0,_⟩:=As2.ex;rw [z,h2] at h0;cases h0) kp)
   by_cases ze:zs=[]
   ·have ae:acc=[]:=List.eq_nil_of_length_eq_zero (by rw [<- al,ze];rfl);refine ⟨_,rfl,false,.inl ⟨zs,SqL.of h2,by rw [ze];rfl⟩,iteF (iteF ⟨_,rfl,.inl ⟨rfl,_,SqL.of h2⟩,_,rfl,d,zs,_,rfl,rfl,h2,Nat.lt_of_le_of_lt (by lia) (Jq (Nat.le_refl _)),app (by rw [ae];rfl)⟩)⟩
   ·have zn:1<=zs.length:=by cases zs with | nil=>exact absurd rfl ze | cons a r=>simp
    have ea:acc[acc.length - 1]?=some (acc[acc.length - 1]'(by lia)):=List.getElem?_eq_getElem _;obtain ⟨pa,epa,Aa⟩:=A2.at_ _ _ ea;have gl:acc.getLast?=some (acc[acc.length - 1]'(by lia)):=by rw [List.getLast?_eq_getElem?];exact ea
    generalize acc[acc.length - 1]'(by lia)=a0 at *;have lst:atI zs (-1)=some (.ref pa):=by
     unfold atI;rw [ixN_last zn,al];exact epa
    refine ⟨_,rfl,true,.inl ⟨zs,SqL.of h2,by cases zs with | nil=>exact absurd rfl ze | cons a r=>rfl⟩,iteT ⟨_,rfl,1,rfl,d,zs,_,_,rfl,rfl,SqL.of h2,lst,_,rfl,pa,q,a0,t0,rfl,Aa,As2,gtog a0 t0,rfl,?_⟩⟩;by_cases g:gtog a0 t0=true
    ·show if gtog a0 t0=true then _ else _
     rw [if_pos g];refine ⟨_,rfl,1,rfl,d,zs,_,_,rfl,rfl,SqL.of h2,lst,_,rfl,pa,q,a0,t0,rfl,Aa,As2,fun r H3 s3 R fr=>⟨_,rfl,1,rfl,d,zs,_,zs.length - 1,rfl,rfl,s3 _ _ h2,ixN_last zn,?_⟩⟩;refine ⟨_,_,rfl,J2,?_,fun b u x=>by rw [Jb (nd b u x)];exact s3 _ _ (s2 _ _ x)⟩;have el:lstp acc t0=acc.dropLast ++ [mk1 a0 t0]:=by unfold lstp;rw [gl];exact if_pos g
     have kp:∀ b u,H3 b=some u->b≠d->upd H3 d (.lst (zs.set (zs.length - 1) (.ref r))) b=some u:=fun b u x n=>by rw [Jb n];exact x
     have R':=R.keep (fr _ _ h2) kp;have A3:=((A2.same s3).keepD (s3 _ _ h2) kp).init.snoc R';rw [nx,el];rw [<- set_last ze] at A3;exact A3
    ·show if gtog a0 t0=true then _ else _
     rw [if_neg g];exact ⟨_,rfl,.inl ⟨rfl,_,SqL.of h2⟩,_,rfl,d,zs,_,rfl,rfl,h2,Nat.lt_of_le_of_lt (by lia) (Jq (Nat.le_refl _)),app (by unfold lstp;rw [gl];exact if_neg g)⟩
  ·subst e;rw [B.len,take_length] at A2;exact ⟨_,rfl,k d zs H2 s h A2⟩
def lamP:Stmt->Pos
 | .Assign _ (.Call _ _ [⟨_,.Lambda _ _ _ p,_⟩] _) _=>p
 | _=>⟨0,0,0,0⟩
abbrev lpLO:Pos:=lamP ((J1j sLineOf).getD 0 (.Pass ⟨0,0,0,0⟩))
theorem SrsAt.sameT {CW:Addr} {H H':Hp} {ys:List V} {ss:List Sr} (h:SrsAt CW H ys ss) (k:SameT H H'):SrsAt CW H' ys ss:=⟨h.len,fun i s e=>let ⟨q,e1,e2⟩:=h.at_ i s e;⟨q,e1,let ⟨dx,fs,h0,r⟩:=e2.ex;⟨dx,fs,k _ _ h0 rfl,r⟩⟩⟩
theorem Same.t {H H':Hp} (s:Same H H'):SameT H H':=fun b u e _=>s b u e
theorem SameT.trans {H H1 H2:Hp} (a:SameT H H1) (b:SameT H1 H2):SameT H H2:=fun c u e z=>b c u (a c u e z) z
theorem Jv {H H':Hp} {P:Addr} {pos:Pos} {q:Str} (h:TabOk H P pos q) (s:Same H H'):TabOk H' P pos q :=
 let ⟨ps,h1,h2,h3⟩:=h.ex;⟨ps,s _ _ h1,h2,fun cv e=>let ⟨c,oc,vs,t,r1,r2,r3⟩:=h3 cv e;⟨c,oc,vs,t,r1,s _ _ r2,r3⟩⟩
theorem lc_idx {K:PySem.W.Frag} {a d:Addr} {H1:Hp} {te:TE} {σ:St} {js:List Nat} {Q:VK} (ys:List V) (f:Nat->V) (hx:SqL K H1 a ys) (hn:ys.length<=1000) (hd:H1 d=none)
  (he:∀ (i:Nat) (v:V),ys[i]?=some v->∀ H Qe,Same H1 H->(∀ H',Same H H'->Qe (f i) H')->te (some v :: capv σ js) H Qe)
  (hq:∀ H',Same H1 H'->H' d=some (.lst ((List.range ys.length).map f))->Q (.ref d) H'):LCW (Itl K a) tYes te σ js Q H1 d :=
 lc_over ys.length (fun _=>true) f hd hn (fun i H hi s=>⟨_,_,s.seq hx,List.getElem?_eq_getElem hi⟩) (fun H s=>⟨_,s.seq hx,Nat.le_refl _⟩) (fun i=>(ys[i]?).getD .non)
  (fun i H v H' hi s y=>⟨y.1,by rw [y.2 _ (s.seq hx)];rfl⟩) (fun i H Qt hi s k=>k H (Same.refl _))
  (fun i H Qe hi _ s k=>by
   show te (some ((ys[i]?).getD .non) :: capv σ js) H Qe;rw [List.getElem?_eq_getElem hi];exact he i _ (List.getElem?_eq_getElem hi) H Qe s k) (fun H' s h=>hq H' s (by rw [J2t] at h;exact h))
theorem range_map {α β:Type} (xs:List α) (g:α->β) (f:Nat->β) (h:∀ i x,xs[i]?=some x->f i=g x):(List.range xs.length).map f=xs.map g:=by
 apply ext_getElem?;intro i;rw [getElem?_map,getElem?_map];by_cases hi:i < xs.length
 ·rw [getElem?_range hi,List.getElem?_eq_getElem hi];exact congrArg some (h i _ (List.getElem?_eq_getElem hi))
 ·rw [getElem?_eq_none (by simpa using hi),getElem?_eq_none (by simpa using hi)];rfl
theorem zip_range (ks:List Int):ks.zip ((List.range ks.length).map fun (i:Nat)=>V.int (i:Int))=(List.range ks.length).map fun (i:Nat)=>(ks.getD i 0,V.int (i:Int)):=by
 apply ext_getElem?;intro i;by_cases hi:i < ks.length
 ·have e1:ks[i]?=some (ks.getD i 0):=by rw [getD_eq_getElem?_getD,List.getElem?_eq_getElem hi];rfl
  have e2:((List.range ks.length).map fun (i:Nat)=>V.int (i:Int))[i]?=some (V.int (i:Int)):=by rw [getElem?_map,getElem?_range hi];rfl
  rw [getElem?_map,getElem?_range hi];have:=(List.getElem?_zip_eq_some (l₁:=ks) (l₂:=(List.range ks.length).map fun (i:Nat)=>V.int (i:Int)) (i:=i) (z:=(ks.getD i 0,V.int (i:Int)))).mpr ⟨e1,e2⟩;exact this
 ·rw [getElem?_eq_none (by simp;lia),getElem?_eq_none (by simpa using hi)]
def TKeep (P:Addr) (H H':Hp):Prop:=∀ (Q:Addr) (pos:Pos) (q:Str),Q≠P->TabOk H Q pos q->TabOk H' Q pos q
theorem TKeep.same {P:Addr} {H H':Hp} (s:Same H H'):TKeep P H H':=fun _ _ _ _ t=>Jv t s
theorem TKeep.trans {P:Addr} {H H1 H2:Hp} (a:TKeep P H H1) (b:TKeep P H1 H2):TKeep P H H2:=fun Q p q n t=>b Q p q n (a Q p q n t)
def spLineOf (C CW TB:Addr) (qq:Str):Sp:=fun vs H Q _=>∃ (l:Addr) (ys:List V) (ss:List Sr),vs=[.ref l]/\H l=some (.lst ys)/\SrsAt CW H ys ss/\TabOk H TB lpLO qq/\ss.length < 64/\
 (∀ os:List Nat,os.Perm (List.range ss.length)->os.Pairwise (fun i j=>(ss.map Sr.la).getD i 0<=(ss.map Sr.la).getD j 0)->Good (ss.map Sr.le) os/\
  ∀ x H',SameT H H'->TabOk H' TB lpLO qq->TKeep TB H H'->LineAt C H' x (ss.map Sr.le) os (ss.map Sr.tu)->Q (.ref x) H')
theorem scLineOf:FnScope ["stretches","order","lengths"] ["stretches"] (J6 sLineOf):=fS
theorem ok_lineOf {f fI C CW TB cc:Addr} {fd fdI:FuncData}  (F:Fun K "line_of" "line_of" sLineOf f fd) (T:TxtR mg) (hsorted:mg "sorted"=none) (TW:TxtSr K CW) (hcode:fd.code=.ref cc) (CD:PySem.W.codeHdIn K cc TB=true) (BL:BltAt base mg TB)
  (MI:Mk K C fI) (GI:FnOk P w K mg base CX0 3 fI fdI ["self","lengths","order","turned"] (spInit C)) (bI:Binds K fdI ["self","lengths","order","turned"] []) (mgI:mg "Line"=some (.ref C)) :
  FnOk P w K mg base CX0 5 f fd ["stretches"] (spLineOf C CW TB "line_of.<locals>.<lambda>"):=by
 refine F.okK hcode scLineOf (fun vs H Q E h=>?_) (fun A outer s H vs Q E hr h=>?_)
 ·obtain ⟨l,ys,ss,rfl,_⟩:=h;rfl
 ·obtain ⟨l,ys,ss,rfl,hl,B,TT,hn,k⟩:=h;have hr4:Room 4 _:=rm hr;refine ⟨_,(J1 (Ji (i:=1) scLineOf.nd rfl (Or.inl rfl) (pe_sortK (x:="piece") (caps:=["stretches"]) (js:=[0]) rfl (rm hr) (by rfl) hsorted rfl rfl rfl CD BL ⟨rfl,rfl,rfl,by decide +kernel,rfl,(by intro p hp;simp only [mem_cons,not_mem_nil,or_false] at hp;rcases hp with rfl;rfl),freeOk.get rfl,rfl,fun k c e=>match k,e with | 0,e=>by cases e;exact ⟨0,_,rfl,rfl,rfl,rfl,rfl⟩ | k + 1,e=>by simp at e⟩ (fun _ _ _ _=>rfl) (fun A f c s H=>(J5b K (J59 (ix_listK K) (pv 1) (pv 0)))) (Jk J3o (by rfl) T.range PyProof.Rows.boot_range (J0 (Je Jf (by rfl) T.len boot_len (J0 (pv 0) J3)) J3))))
   (J1 (ps_lc (i:=2) (caps:=[]) (js:=[]) scLineOf.nd rfl (Or.inl rfl) rfl (J2f (pv 0)) rfl (fun _ _ _ _=>J3g) (fun C fp s H=>(J5b K (pv 0))) (by decide +kernel) (by decide +kernel) (by decide +kernel) (by intro p hp;cases hp))
   (J4 (Jh (J16 MI GI hr4 rfl mgI bI .nil pass0 (J0 (pv 2) (J0 (pv 1) (J0 (pe_lc (caps:=[]) (js:=[]) rfl (J2f (pv 0)) rfl (fun _ _ _ _=>J3g) (fun C fp s H=>(J5b K (pv 0))) (by decide +kernel) (by decide +kernel) (by decide +kernel) (by intro p hp;cases hp)) J3)))))))),?_⟩
  have bl:=B.len;refine ⟨_,rfl,l,ys,rfl,.inl (SqL.of hl),_,rfl,fun r hr'=>?_⟩;have s1:=J7 (o:=.rng 0 (ys.length:Int)) hr';refine ⟨r,(List.range ss.length).map fun (i:Nat)=>V.int (i:Int),ss.map Sr.la,rfl,.inr ⟨ys.length,J2,by rw [bl]⟩,(by rw [length_map,length_range];exact hn),(by simp),Jv TT s1,fun H2 sT i y z ey ek=>?_,fun H2 lo zs sT T2 TQ hlo pm pw=>?_⟩
  ·have hi:i < ss.length:=by have:=(List.getElem?_eq_some_iff.mp ey).1;simpa using this
   rw [getElem?_map,getElem?_range hi] at ey;cases ey;obtain ⟨q,eq,Aq⟩:=B.at_ i _ (List.getElem?_eq_getElem hi);rw [getElem?_map,List.getElem?_eq_getElem hi] at ek;cases ek;obtain ⟨dx,fs,h0,lF,lL,lA,lT⟩:=Aq.ex;exact ⟨_,rfl,_,rfl,l,ys,_,_,rfl,rfl,SqL.of (sT _ _ (s1 _ _ hl) rfl),Jj eq,q,CW,dx,fs,_,rfl,sT _ _ (s1 _ _ h0) rfl,TW.cl,TW.nA,lA,rfl,rfl⟩
  have zr:(ss.map Sr.la).zip ((List.range ss.length).map fun (i:Nat)=>V.int (i:Int))=(List.range ss.length).map fun (i:Nat)=>((ss.map Sr.la).getD i 0,V.int (i:Int)):=by
   have:=zip_range (ss.map Sr.la);rwa [length_map] at this
  rw [zr] at pm;obtain ⟨os,po,rfl⟩:=J64 pm rfl;rw [pairwise_map] at pw;obtain ⟨gd,k⟩:=k os po pw;have en:(os.map fun (i:Nat)=>((ss.map Sr.la).getD i 0,V.int (i:Int))).map Prod.snd=nV os:=by rw [map_map,nV_eq];rfl
  rw [en];have s2:=J7 (o:=.lst (nV os)) hlo;have h3l:=s2 _ _ (sT _ _ (s1 _ _ hl) rfl);have B3:SrsAt CW (upd H2 lo (.lst (nV os))) ys ss:=((B.same s1).sameT sT).same s2;have T3:=Jv T2 s2;have TK3:TKeep TB H (upd H2 lo (.lst (nV os))):=(TKeep.same s1).trans (TKeep.trans (fun Q p q n t=>TQ Q p q n t) (TKeep.same s2));have ho:upd H2 lo (.lst (nV os)) lo=some (.lst (nV os)):=J2;have sT3:SameT H (upd H2 lo (.lst (nV os))):=SameT.trans (SameT.trans (Same.t s1) sT) (Same.t s2);generalize upd H2 lo (.lst (nV os))=H3 at *;have lc:∀ (H4:Hp) (σ:St) (d:Addr) (g:Sr->V) (nm:Str) (QQ:VK),SrsAt CW H4 ys ss->H4 l=some (.lst ys)->H4 d=none->NoAttr K CW nm->(∀ (fs:List (Str × V)) (s:Sr),fs.lookup ("first":Str)=some (.int s.fi)/\fs.lookup ("length":Str)=some (.int s.le)/\fs.lookup ("laid":Str)=some (.int s.la)/\fs.lookup ("turned":Str)=some (.bl s.tu)->fs.lookup nm=some (g s))->
    (∀ H',Same H4 H'->H' d=some (.lst (ss.map g))->QQ (.ref d) H')->LCW (Itl K l) tYes (tFld K (tVar 0) nm) σ [] QQ H4 d:=fun H4 σ d g nm QQ B4 h4 hd na lk q=>by
   refine lc_idx ys (fun i=>((ss[i]?).map g).getD .non) (SqL.of h4) (by lia) hd (fun i v hv H5 Qe s5 ke=>?_) (fun H' s' h'=>q H' s' ?_)
   ·have hi:i < ss.length:=by have:=(List.getElem?_eq_some_iff.mp hv).1;lia
    obtain ⟨q',eq,Aq⟩:=B4.at_ i _ (List.getElem?_eq_getElem hi);obtain rfl:V.ref q'=v:=Option.some.inj (eq.symm.trans hv);obtain ⟨dx,fs,h0,lF,lL,lA,lT⟩:=Aq.ex;refine ⟨_,rfl,q',CW,dx,fs,_,rfl,s5 _ _ h0,TW.cl,na,lk fs _ ⟨lF,lL,lA,lT⟩,?_⟩;have:=ke H5 (Same.refl _);rw [List.getElem?_eq_getElem hi] at this;exact this
   ·rw [h',bl];exact congrArg (fun x=>some (HO.lst x)) (range_map ss g _ fun i x e=>by show ((ss[i]?).map g).getD .non=g x;rw [e];rfl)
  refine ⟨_,rfl,l,rfl,⟨_,SqL.of h3l⟩,fun d1 hd1=>lc H3 _ d1 (fun s=>.int s.le) "length" _ B3 h3l hd1 TW.nL (fun fs s h=>h.2.1) (fun H4 s4 e4=>?_)⟩;refine ⟨_,rfl,_,rfl,_,rfl,l,rfl,⟨_,SqL.of (s4 _ _ h3l)⟩,fun d2 hd2=>lc H4 _ d2 (fun s=>.bl s.tu) "turned" _ (B3.same s4) (s4 _ _ h3l) hd2 TW.nT (fun fs s h=>h.2.2.2) (fun H5 s5 e5=>?_)⟩;have e4':H4 d1=some (.lst (iV (ss.map Sr.le))):=by rw [e4];exact congrArg (fun x=>some (HO.lst x)) (by show _=List.map V.int (ss.map Sr.le);rw [map_map];rfl)
  have e5':H5 d2=some (.lst (bV (ss.map Sr.tu))):=by rw [e5];exact congrArg (fun x=>some (HO.lst x)) (by show _=List.map V.bl (ss.map Sr.tu);rw [map_map];rfl)
  intro x dx hx hdx hne;have s6:=(J7 (o:=.own x) hdx).trans (J7 (l:=x) (o:=.ins C dx []) (by rw [Jb (Ne.symm hne)];exact hx));refine ⟨x,dx,d1,lo,.ref d2,ss.map Sr.le,os,ss.map Sr.tu,rfl,J2,.inl (s6 _ _ (s5 _ _ e4')),.inl (s6 _ _ (s5 _ _ (s4 _ _ ho))),gd,⟨by simp,.inr ⟨d2,rfl,.inl (s6 _ _ e5')⟩⟩,fun H' L kp=>⟨rfl,?_⟩⟩;have s7:Same H3 H':=fun b u e=>kp _ _ (s6 _ _ (s5 _ _ (s4 _ _ e))) (J8 (s5 _ _ (s4 _ _ e)) hx);exact k x H' (SameT.trans sT3 (Same.t s7)) (Jv T3 s7) (TK3.trans (TKeep.same s7)) L
theorem Refs.srs {CW:Addr} {H:Hp} {ys:List V} {ls:List Int} {os:List Nat} {ts:List Bool} (h:Refs (fun q i=>SrAt CW H q (srO ls os ts i)) ys ls.length):SrsAt CW H ys (srsL ls os ts):=by
 refine ⟨by unfold srsL;rw [h.len];simp,fun i s e=>?_⟩;have hi:i < ls.length:=by have:=(List.getElem?_eq_some_iff.mp e).1;simpa [srsL] using this
 unfold srsL at e;rw [getElem?_map,getElem?_range hi] at e;cases e;exact h.at_ i hi
theorem J2v (ls:List Int) (os:List Nat) (ts:List Bool):(srsL ls os ts).length=ls.length:=by unfold srsL;simp
def spPartsB (CW:Addr):Sp:=fun vs H Q _=>∃ (p q:Addr) (o t:Sr),vs=[.ref p,.ref q]/\SrAt CW H p o/\SrAt CW H q t/\∀ d ys H',H d=none->Same H H'->H' d=some (.lst ys)->SrsAt CW H' ys (part1 o t)->Q (.ref d) H'
theorem scPartsB:FnScope ["one","two","begin","one_end","two_end","end","first","laid"] ["one","two"] (J6 sPartsB):=fS
theorem ok_partsB {f fSR CW:Addr} {fd fdSR:FuncData}  (F:Fun K "parts_between" "parts_between" sPartsB f fd) (TW:TxtSr K CW) (hmax:mg "max"=none) (hmin:mg "min"=none)
  (MSR:Mk K CW fSR) (GSR:FnOk P w K mg base CX0 1 fSR fdSR ["self","first","length","laid","turned"] (spSr CW)) (bSR:Binds K fdSR ["self","first","length","laid","turned"] []) (mgSR:mg "Stretch"=some (.ref CW)) :
  FnOk P w K mg base CX0 3 f fd ["one","two"] (spPartsB CW):=by
 refine F.ok scPartsB (fun vs H Q E h=>?_) (fun cdv A outer s H vs Q E hr h=>?_)
 ·obtain ⟨p,q,o,t,rfl,_⟩:=h;rfl
 ·obtain ⟨p,q,o,t,rfl,A0,B0,k⟩:=h;have hr2:Room 2 _:=rm hr;refine ⟨_,(J1 (J1z (Ji (i:=2) scPartsB.nd rfl (Or.inl rfl) (Je (call_max2 rfl) (by rfl) hmax PyProof.Rows.boot_max (J0 (Ja (pv 0) rfl) (J0 (Ja (pv 1) rfl) J3)))))
   (J1 (J1z (Ji (i:=3) scPartsB.nd rfl (Or.inl rfl) (pe_op J19 (Ja (pv 0) rfl) (Ja (pv 0) rfl))))
   (J1 (J1z (Ji (i:=4) scPartsB.nd rfl (Or.inl rfl) (pe_op J19 (Ja (pv 1) rfl) (Ja (pv 1) rfl))))
   (J1 (J1z (Ji (i:=5) scPartsB.nd rfl (Or.inl rfl) (Je (J4u rfl) (by rfl) hmin boot_min (J0 (pv 3) (J0 (pv 4) J3)))))
   (J1 (ps_if (Jl op_ge (pv 2) (pv 5) (Jp _)) (J4 (Jh (J1t J3))) Jn)
   (J1 (J1z (Ji (i:=6) scPartsB.nd rfl (Or.inl rfl) (pe_op J19 (Ja (pv 0) rfl) (J23 (J2p (Ja (pv 0) rfl)) (pe_op J1l (pv 3) (pv 5)) (pe_op J1l (pv 2) (Ja (pv 0) rfl))))))
   (J1 (J1z (Ji (i:=7) scPartsB.nd rfl (Or.inl rfl) (pe_op J19 (Ja (pv 1) rfl) (J23 (J2p (Ja (pv 1) rfl)) (pe_op J1l (pv 4) (pv 5)) (pe_op J1l (pv 2) (Ja (pv 1) rfl))))))
   (J4 (Jh (J1t (J0 (J16 MSR GSR hr2 rfl mgSR bSR .nil pass0 (J0 (pv 6) (J0 (pe_op J1l (pv 5) (pv 2)) (J0 (pv 7) (J0 (J2q op_ne (Ja (pv 0) rfl) (Ja (pv 1) rfl) (Jp _)) J3))))) J3))))))))))),?_⟩
  obtain ⟨da,fa,a0,aF,aL,aA,aT⟩:=A0.ex;obtain ⟨db,fb,b0,bF,bL,bA,bT⟩:=B0.ex;refine ⟨fun σ' H'=>σ'=[some (.ref p),some (.ref q),some (.int (jb o t)),none,none,none,none,none]/\H=H',?_,?_⟩
  ·exact ⟨_,rfl,p,CW,da,fa,_,rfl,a0,TW.cl,TW.nA,aA,_,rfl,q,CW,db,fb,_,rfl,b0,TW.cl,TW.nF,bF,_,_,rfl,rfl,rfl⟩
  rintro σ _ ⟨rfl,rfl⟩;refine ⟨fun σ' H'=>σ'=[some (.ref p),some (.ref q),some (.int (jb o t)),some (.int (o.la + o.le)),none,none,none,none]/\H=H',?_,?_⟩
  ·exact ⟨_,rfl,p,CW,da,fa,_,rfl,a0,TW.cl,TW.nA,aA,_,rfl,p,CW,da,fa,_,rfl,a0,TW.cl,TW.nL,aL,_,_,rfl,rfl,rfl,rfl⟩
  rintro σ _ ⟨rfl,rfl⟩;refine ⟨fun σ' H'=>σ'=[some (.ref p),some (.ref q),some (.int (jb o t)),some (.int (o.la + o.le)),some (.int (t.fi + t.le)),none,none,none]/\H=H',?_,?_⟩
  ·exact ⟨_,rfl,q,CW,db,fb,_,rfl,b0,TW.cl,TW.nF,bF,_,rfl,q,CW,db,fb,_,rfl,b0,TW.cl,TW.nL,bL,_,_,rfl,rfl,rfl,rfl⟩
  rintro σ _ ⟨rfl,rfl⟩;refine ⟨fun σ' H'=>σ'=[some (.ref p),some (.ref q),some (.int (jb o t)),some (.int (o.la + o.le)),some (.int (t.fi + t.le)),some (.int (je o t)),none,none]/\H=H',?_,?_⟩
  ·exact ⟨_,rfl,_,rfl,_,_,rfl,rfl,rfl⟩
  rintro σ _ ⟨rfl,rfl⟩;refine ⟨_,rfl,_,rfl,_,_,rfl,rfl,_,rfl,?_⟩;by_cases c:je o t<=jb o t
  ·refine iteDT c ⟨by show 0<=sizeLine;exact Nat.zero_le _,fun d hd=>k d [] _ hd (J7 hd) J2 ?_⟩;have e:part1 o t=[]:=by unfold part1;exact if_pos c
   rw [e];exact ⟨rfl,fun i s z=>by simp at z⟩
  refine iteD c ?_;have ep:part1 o t=[jpart o t]:=by unfold part1;exact if_neg c
  refine ⟨fun σ' H'=>σ'=[some (.ref p),some (.ref q),some (.int (jb o t)),some (.int (o.la + o.le)),some (.int (t.fi + t.le)),some (.int (je o t)),some (.int (jpart o t).fi),none]/\H=H',?_,?_⟩
  ·refine ⟨_,rfl,p,CW,da,fa,_,rfl,a0,TW.cl,TW.nF,aF,_,rfl,p,CW,da,fa,_,rfl,a0,TW.cl,TW.nT,aT,o.tu,rfl,?_⟩;by_cases e:o.tu=true
   ·refine iteBT e ⟨_,rfl,_,rfl,_,_,rfl,rfl,_,_,rfl,rfl,?_,rfl⟩;rw [show (jpart o t).fi=o.fi + (o.la + o.le - je o t) by unfold jpart;rw [if_pos e]];rfl
   ·refine iteBF e ⟨_,rfl,_,rfl,p,CW,da,fa,_,rfl,a0,TW.cl,TW.nA,aA,_,_,rfl,rfl,_,_,rfl,rfl,?_,rfl⟩;rw [show (jpart o t).fi=o.fi + (jb o t - o.la) by unfold jpart;rw [if_neg e]];rfl
  rintro σ _ ⟨rfl,rfl⟩;refine ⟨fun σ' H'=>σ'=[some (.ref p),some (.ref q),some (.int (jb o t)),some (.int (o.la + o.le)),some (.int (t.fi + t.le)),some (.int (je o t)),some (.int (jpart o t).fi),some (.int (jpart o t).la)]/\H=H',?_,?_⟩
  ·refine ⟨_,rfl,q,CW,db,fb,_,rfl,b0,TW.cl,TW.nA,bA,_,rfl,q,CW,db,fb,_,rfl,b0,TW.cl,TW.nT,bT,t.tu,rfl,?_⟩;by_cases e:t.tu=true
   ·refine iteBT e ⟨_,rfl,_,rfl,_,_,rfl,rfl,_,_,rfl,rfl,?_,rfl⟩;rw [show (jpart o t).la=t.la + (t.fi + t.le - je o t) by unfold jpart;dsimp only;rw [if_pos e]];rfl
   ·refine iteBF e ⟨_,rfl,_,rfl,q,CW,db,fb,_,rfl,b0,TW.cl,TW.nF,bF,_,_,rfl,rfl,_,_,rfl,rfl,?_,rfl⟩;rw [show (jpart o t).la=t.la + (jb o t - t.fi) by unfold jpart;dsimp only;rw [if_neg e]];rfl
  rintro σ _ ⟨rfl,rfl⟩;refine ⟨_,rfl,_,rfl,_,rfl,_,_,rfl,rfl,_,rfl,_,rfl,p,CW,da,fa,_,rfl,a0,TW.cl,TW.nT,aT,_,rfl,q,CW,db,fb,_,rfl,b0,TW.cl,TW.nT,bT,rfl,fun x dx hx hdx hne=>sr_made (CW:=CW) (H:=H) (f:=(jpart o t).fi) (l:=je o t - jb o t) (a:=(jpart o t).la) (t:=!decide (V.bl o.tu=V.bl t.tu)) (Q:=fun v H1=>1<=sizeLine/\∀ p,H1 p=none->Q (V.ref p) (upd H1 p (.lst [v]))) (fun r H1 s1 R fr=>⟨by show 1<=sizeLine;decide,fun d hd=>k d [.ref r] _ (s1.free hd) (s1.trans (J7 hd)) J2 ?_⟩) x dx hx hdx hne⟩;have et:(!decide (V.bl o.tu=V.bl t.tu))=(o.tu != t.tu):=by cases o.tu <;> cases t.tu <;> rfl
  rw [et] at R;have R':SrAt CW H1 r (jpart o t):=R;rw [ep];refine ⟨rfl,fun i s z=>?_⟩
  match i,z with
  | 0,z=>cases Option.some.inj z;exact ⟨r,rfl,R'.same (J7 hd)⟩
  | n + 1,z=>simp at z
def lamPR:Stmt->Pos
 | .Return (some (.Call _ [.Call _ _ [⟨_,.Lambda _ _ _ p,_⟩] _] _ _)) _=>p
 | .Return (some (.Call _ _ [⟨_,.Lambda _ _ _ p,_⟩] _)) _=>p
 | _=>⟨0,0,0,0⟩
abbrev lpJS:Pos:=lamPR ((J1j sJoinS).getD 2 (.Pass ⟨0,0,0,0⟩))
theorem SrsAt.app {CW:Addr} {H:Hp} {ys zs:List V} {ss tt:List Sr} (a:SrsAt CW H ys ss) (b:SrsAt CW H zs tt):SrsAt CW H (ys ++ zs) (ss ++ tt):=by
 have hl:=a.len;refine ⟨by rw [length_append,length_append,a.len,b.len],fun i s e=>?_⟩;rcases Nat.lt_or_ge i ss.length with hi | hi
 ·rw [getElem?_append_left hi] at e;obtain ⟨q,e1,e2⟩:=a.at_ i s e;exact ⟨q,by rw [getElem?_append_left (by lia)];exact e1,e2⟩
 ·rw [getElem?_append_right hi] at e;obtain ⟨q,e1,e2⟩:=b.at_ _ s e;exact ⟨q,by rw [getElem?_append_right (by lia),hl];exact e1,e2⟩
theorem zip_idx {J:List Sr} {xs:List V} (h:xs.length=J.length):(J.map Sr.fi).zip xs=(List.range J.length).map fun i=>((J.getD i s0).fi,xs.getD i .non):=by
 apply ext_getElem?;intro i;by_cases hi:i < J.length
 ·rw [getElem?_map,getElem?_range hi];refine (List.getElem?_zip_eq_some (z:=((J.getD i s0).fi,xs.getD i .non))).mpr ⟨?_,?_⟩
  ·rw [getElem?_map,List.getElem?_eq_getElem hi,getD_eq_getElem?_getD,List.getElem?_eq_getElem hi];rfl
  ·show xs[i]?=some (xs.getD i .non);rw [getD_eq_getElem?_getD,List.getElem?_eq_getElem (by lia:i < xs.length)];rfl
 ·rw [getElem?_eq_none (by simp;lia),getElem?_eq_none (by simpa using hi)]
theorem map_getD_sr (J:List Sr):(List.range J.length).map (fun i=>J.getD i s0)=J:=by
 refine List.ext_getElem (by simp) fun i h1 h2=>?_;rw [List.getElem_map,List.getElem_range,getD_eq_getElem?_getD,List.getElem?_eq_getElem h2];rfl
theorem srt_srs {CW:Addr} {H:Hp} {xs:List V} {J:List Sr} (B:SrsAt CW H xs J) {ys:List (Int × V)} (pm:ys.Perm ((J.map Sr.fi).zip xs)) (pw:ys.Pairwise (fun a b=>a.1<=b.1)) :
  ∃ L,L.Perm J/\L.Pairwise (fun s t=>s.fi<=t.fi)/\SrsAt CW H (ys.map Prod.snd) L:=by
 rw [zip_idx B.len] at pm;obtain ⟨ix,po,rfl⟩:=J64 pm rfl;rw [pairwise_map] at pw;refine ⟨ix.map fun i=>J.getD i s0,?_,?_,?_⟩
 ·have:=po.map fun i=>J.getD i s0;rwa [map_getD_sr] at this
 ·rw [pairwise_map];exact pw
 ·refine ⟨by simp,fun i s e=>?_⟩;rw [getElem?_map] at e
  cases q:ix[i]? with
  | none=>rw [q] at e;cases e
  | some j =>
   rw [q] at e;cases e;have hj:j < J.length:=mem_range.mp (po.mem_iff.mp (mem_of_getElem? q));obtain ⟨a,e1,e2⟩:=B.at_ j (J.getD j s0) (getL hj);refine ⟨a,?_,e2⟩;rw [getElem?_map,getElem?_map,q];show some (xs.getD j .non)=_;rw [getD_eq_getElem?_getD,e1];rfl
def spJoinS (CW TJ:Addr):Sp:=fun vs H Q _=>∃ (a b:Addr) (xs ys:List V) (os ts:List Sr),vs=[.ref a,.ref b]/\H a=some (.lst xs)/\H b=some (.lst ys)/\SrsAt CW H xs os/\SrsAt CW H ys ts/\(jn os ts).length < 64/\os.length<=1000/\ts.length<=1000/\TabOk H TJ lpJS "joined_stretches.<locals>.<lambda>"/\
 ∀ L d zs H',L.Perm (jn os ts)->L.Pairwise (fun s t=>s.fi<=t.fi)->SameT H H'->TabOk H' TJ lpJS "joined_stretches.<locals>.<lambda>"->TKeep TJ H H'->H' d=some (.lst zs)->SrsAt CW H' zs (lgst L)->Q (.ref d) H'
theorem jn_snoc {os ts:List Sr} {i:Nat} {o:Sr} (h:os[i]?=some o):jn (os.take (i + 1)) ts=jn (os.take i) ts ++ ts.flatMap (part1 o):=by
 unfold jn;rw [J3c h,List.flatMap_append,List.flatMap_cons,List.flatMap_nil,append_nil]
theorem fm_snoc {ts:List Sr} {o:Sr} {j:Nat} {t:Sr} (h:ts[j]?=some t):(ts.take (j + 1)).flatMap (part1 o)=(ts.take j).flatMap (part1 o) ++ part1 o t:=by
 rw [J3c h,List.flatMap_append,List.flatMap_cons,List.flatMap_nil,append_nil]
theorem fm_le {ts:List Sr} {o:Sr} (j:Nat):((ts.take j).flatMap (part1 o)).length<=(ts.flatMap (part1 o)).length:=by
 have:ts.flatMap (part1 o)=(ts.take j).flatMap (part1 o) ++ (ts.drop j).flatMap (part1 o):=by rw [<- List.flatMap_append,take_append_drop]
 rw [this,length_append];lia
theorem jn_le {os ts:List Sr} (i:Nat):(jn (os.take i) ts).length<=(jn os ts).length:=by
 have:jn os ts=jn (os.take i) ts ++ jn (os.drop i) ts:=by unfold jn;rw [<- List.flatMap_append,take_append_drop]
 rw [this,length_append];lia
theorem scJoinS:FnScope ["ones","twos","parts","one","two"] ["ones","twos"] (J6 sJoinS):=fS
theorem ok_joinS {f fPB fLN CW TJ cc:Addr} {fd fdPB fdLN:FuncData}  (F:Fun K "joined_stretches" "joined_stretches" sJoinS f fd) (T:TxtR mg) (hsorted:mg "sorted"=none) (TW:TxtSr K CW) (hcode:fd.code=.ref cc) (CD:PySem.W.codeHdIn K cc TJ=true) (BL:BltAt base mg TJ)
  (GPB:FnOk P w K mg base CX0 3 fPB fdPB ["one","two"] (spPartsB CW)) (bPB:Binds K fdPB ["one","two"] []) (mPB:mg "parts_between"=some (.ref fPB)) (kPB:keepIn K (.ref fPB)=true)
  (GLN:FnOk P w K mg base CX0 4 fLN fdLN ["stretches"] (spLongest CW)) (bLN:Binds K fdLN ["stretches"] []) (mLN:mg "longest"=some (.ref fLN)) (kLN:keepIn K (.ref fLN)=true) :
  FnOk P w K mg base CX0 5 f fd ["ones","twos"] (spJoinS CW TJ):=by
 refine F.okK hcode scJoinS (fun vs H Q E h=>?_) (fun A outer s H vs Q E hr h=>?_)
 ·obtain ⟨a,b,xs,ys,os,ts,rfl,_⟩:=h;rfl
 ·obtain ⟨a,b,xs,ys,os,ts,rfl,ha,hb,A,B,h64,n1,n2,TT,k⟩:=h;have hr3:Room 3 _:=rm hr;have hr4:Room 4 _:=rm hr;refine ⟨_,(J1 (Ji (i:=2) scJoinS.nd rfl (Or.inl rfl) (J1t J3))
   (J1 (J34 PassesOwn.never rfl (J2f (pv 0)) (J1g (i:=3) scJoinS.nd rfl (Or.inl rfl))
    (J4 (J34 PassesOwn.never rfl (J2f (pv 1)) (J1g (i:=4) scJoinS.nd rfl (Or.inl rfl))
     (J4 (Jz (pe_bm PySem.F.plainAttrs_list PySem.F.slot_list_extend PySem.F.type_list_extend mt_extend (pv 2) (J0 (Jc GPB hr3 rfl mPB kPB bPB .nil pass0 (J0 (pv 3) (J0 (pv 4) J3))) J3)))))))
   (J4 (Jh (Jc GLN hr4 rfl mLN kLN bLN .nil pass0 (J0 (pe_sortK (x:="part") (caps:=[]) (js:=[]) rfl (rm hr) (by rfl) hsorted rfl rfl rfl CD BL ⟨rfl,rfl,rfl,by decide +kernel,rfl,(by intro p hp;cases hp),freeOk.get rfl,rfl,fun k c e=>by simp at e⟩ (fun _ _ _ _=>rfl) (fun A f c s H=>(J5b K (pv 0))) (pv 2)) J3)))))),?_⟩
  refine ⟨by show 0<=sizeLine;exact Nat.zero_le _,fun d hd=>?_⟩;have s0':=J7 (o:=.lst []) hd;have nd:∀ {b':Addr} {u:HO},H b'=some u->b'≠d:=fun {b' u} e=>J8 e hd;have sm:=Jq (n:=100) (by decide);refine ⟨_,rfl,a,rfl,⟨_,SqL.of (s0' _ _ ha)⟩,J2k (K:=K) (a:=a) (xs:=xs) (fun i σ Hw=>∃ v3 v4 zs,σ=[some (.ref a),some (.ref b),some (.ref d),v3,v4]/\Hw d=some (.lst zs)/\SrsAt CW Hw zs (jn (os.take i) ts)/\Same H Hw)
   ⟨none,none,[],rfl,J2,⟨rfl,fun i s e=>by simp [jn] at e⟩,s0'⟩ (fun i σ Hw _ ⟨_,_,_,_,_,_,s⟩=>SqL.of (s _ _ ha)) (fun i y σ Hw hy pv=>?_) (fun σ Hw ⟨v3,v4,zs,e,hdw,Z,s⟩=>?_)⟩
  ·obtain ⟨v3,v4,zs,rfl,hdw,Z,sw⟩:=pv;have hi:i < os.length:=by rw [<- A.len];exact (List.getElem?_eq_some_iff.mp hy).1
   have eo:os[i]?=some os[i]:=List.getElem?_eq_getElem hi;obtain ⟨p,ep,Ap⟩:=A.at_ i _ eo;obtain rfl:V.ref p=y:=Option.some.inj (ep.symm.trans hy);generalize os[i]=o at eo Ap;have sj:=jn_snoc (ts:=ts) eo;have j64:=jn_le (ts:=ts) (os:=os) (i + 1);rw [sj,length_append] at j64;refine ⟨_,rfl,b,rfl,⟨_,SqL.of (sw _ _ hb)⟩,J2k (K:=K) (a:=b) (xs:=ys) (fun j σ Hx=>∃ v4 zs,σ=[some (.ref a),some (.ref b),some (.ref d),some (.ref p),v4]/\Hx d=some (.lst zs)/\SrsAt CW Hx zs (jn (os.take i) ts ++ (ts.take j).flatMap (part1 o))/\Same H Hx)
    ⟨v4,zs,rfl,hdw,by rw [show (ts.take 0).flatMap (part1 o)=[] from rfl,append_nil];exact Z,sw⟩ (fun j σ Hx _ ⟨_,_,_,_,_,s⟩=>SqL.of (s _ _ hb)) (fun j y σ Hx hy pv=>?_) (fun σ Hx ⟨v4,zs,e,hdx,Z,s⟩=>?_)⟩
   ·obtain ⟨v4,zs,rfl,hdx,Z,sx⟩:=pv;have hj:j < ts.length:=by rw [<- B.len];exact (List.getElem?_eq_some_iff.mp hy).1
    have et:ts[j]?=some ts[j]:=List.getElem?_eq_getElem hj;obtain ⟨q,eq,Bq⟩:=B.at_ j _ et;obtain rfl:V.ref q=y:=Option.some.inj (eq.symm.trans hy);generalize ts[j]=t at et Bq;have zl:=Z.len;rw [length_append] at zl;have f1:=fm_le (ts:=ts) (o:=o) (j + 1);rw [fm_snoc et,length_append] at f1;refine ⟨_,rfl,.inl ⟨rfl,_,SqL.of hdx⟩,_,rfl,_,rfl,p,q,o,t,rfl,Ap.same sx,Bq.same sx,fun e ws Hy he sy hy' W=>⟨d,e,zs,ws,rfl,rfl,sy _ _ hdx,hy',(by rw [W.len];lia),?_⟩⟩;have ned:e≠d:=fun z=>by rw [z,hdx] at he;cases he
    have kp:∀ b' u,Hy b'=some u->b'≠d->upd Hy d (.lst (zs ++ ws)) b'=some u:=fun b' u e' n=>by rw [Jb n];exact e'
    refine ⟨_,_,rfl,J2,?_,fun b' u e'=>kp _ _ (sy _ _ (sx _ _ e')) (nd e')⟩;rw [fm_snoc et,<- List.append_assoc];exact ((Z.same sy).keepD (sy _ _ hdx) kp).app (W.keepD (sy _ _ hdx) kp)
   ·subst e;rw [B.len,take_length,<- sj] at Z;exact ⟨_,_,_,rfl,hdx,Z,s⟩
  subst e;rw [A.len,take_length] at Z;have zl:=Z.len;refine ⟨_,rfl,d,zs,(jn os ts).map Sr.fi,rfl,.inl hdw,(by rw [zl];exact h64),(by rw [length_map,zl]),Jv TT s,fun H2 sT i y z ey ek=>?_,fun H2 l us sT T2 TQ hl pm pw=>?_⟩
  ·have hi:i < (jn os ts).length:=by rw [<- zl];exact (List.getElem?_eq_some_iff.mp ey).1
   obtain ⟨q,eq,Aq⟩:=Z.at_ i _ (List.getElem?_eq_getElem hi);obtain rfl:V.ref q=y:=Option.some.inj (eq.symm.trans ey);rw [getElem?_map,List.getElem?_eq_getElem hi] at ek;cases ek;obtain ⟨dx,fs,h0,lF,lL,lA,lT⟩:=Aq.ex;exact ⟨_,rfl,q,CW,dx,fs,_,rfl,sT _ _ h0 rfl,TW.cl,TW.nF,lF,rfl,rfl⟩
  obtain ⟨L,p1,p2,S⟩:=srt_srs (Z.sameT sT) pm pw;have s2:=J7 (o:=.lst (us.map Prod.snd)) hl;have ll:=p1.length_eq;refine ⟨l,_,L,rfl,J2,S.same s2,(by lia),fun d2 ws H3 s3 e3 W=>?_⟩;exact k L d2 ws H3 p1 p2 (SameT.trans (Same.t s) (SameT.trans sT (Same.t (s2.trans s3)))) (Jv T2 (s2.trans s3)) ((TKeep.same s).trans (TKeep.trans (fun Q p q n t=>TQ Q p q n t) (TKeep.same (s2.trans s3)))) e3 W
theorem repS_good {g:Int->Int} {N:Int} {L:List Sr} {os:List Nat} (R:RepS g 0 L N) (h1:1<=N) (h2:N<=10 ^ 30) (hl:L.length<=24) (p:os.Perm (List.range L.length)):Good (L.map Sr.le) os:=by
 have O:=R.ord p;have t:=R.tot;refine ⟨?_,by rw [length_map];exact hl,O.pos,by lia,O.perm⟩;rw [length_map]
 cases L with
 | nil=>have:(0:Int)=N:=R;lia
 | cons a r=>simp
def spLineWX (C CW TB CM:Addr):Sp:=fun vs H Q E=>∃ (l:Addr) (ys:List V) (ss:List Sr),vs=[.ref l]/\H l=some (.lst ys)/\SrsAt CW H ys ss/\TabOk H TB lpLO "line_of.<locals>.<lambda>"/\(24 < ss.length->E (.ref CM) none H)/\
 (ss.length<=24->∀ os:List Nat,os.Perm (List.range ss.length)->os.Pairwise (fun i j=>(ss.map Sr.la).getD i 0<=(ss.map Sr.la).getD j 0)->Good (ss.map Sr.le) os/\
  ∀ x H',SameT H H'->TabOk H' TB lpLO "line_of.<locals>.<lambda>"->TKeep TB H H'->LineAt C H' x (ss.map Sr.le) os (ss.map Sr.tu)->Q (.ref x) H')
theorem scLineW:FnScope ["stretches"] ["stretches"] (J6 sLineW):=fS
theorem ok_lineWX {f fLO C CW TB CM:Addr} {fd fdLO:FuncData} {t24:Tok} (F:Fun K "line_within" "line_within" sLineW f fd) (T:TxtR mg) (h24:mg "MOST_PIECES"=some (.int 24 t24)) (TM:TxtX K mg "TooMany" CM)
  (GLO:FnOk P w K mg base CX0 5 fLO fdLO ["stretches"] (spLineOf C CW TB "line_of.<locals>.<lambda>")) (bLO:Binds K fdLO ["stretches"] []) (mLO:mg "line_of"=some (.ref fLO)) (kLO:keepIn K (.ref fLO)=true) :
  FnOk P w K mg base (Exc1 P w) 6 f fd ["stretches"] (spLineWX C CW TB CM):=by
 refine F.okX scLineW (fun vs H Q E h=>?_) (fun cdv A outer s H vs Q E hr h=>?_)
 ·obtain ⟨l,ys,ss,rfl,_⟩:=h;rfl
 ·obtain ⟨l,ys,ss,rfl,hl,B,TT,kx,k⟩:=h;have hr5:Room 5 _:=rm hr;refine ⟨_,(J1 (ps_if (Jl op_gt (Je Jf (by rfl) T.len boot_len (J0 (pv 0) J3)) (J5a (v:=.int 24) rfl h24 ⟨_,rfl⟩) (Jp _)) (J4 (J22 rfl TM.mg TM.ex)) Jn)
   (J4 (Jh (Jc GLO hr5 rfl mLO kLO bLO .nil pass0 (J0 (pv 0) J3))))),?_⟩
  have bl:=B.len;refine ⟨_,rfl,l,ys,rfl,.inl (SqL.of hl),_,_,rfl,rfl,_,rfl,?_⟩;by_cases c:(24:Int) < (ys.length:Int)
  ·exact iteDT c (kx (by lia))
  ·exact iteD c ⟨_,rfl,l,ys,ss,rfl,hl,B,TT,by lia,k (by lia)⟩
def spJoinedX (C CW TB TJ CU CM:Addr):Sp:=fun vs H Q E=>∃ (x y:Addr) (ls ls':List Int) (os os':List Nat) (ts ts':List Bool),vs=[.ref x,.ref y]/\LineAt C H x ls os ts/\LineAt C H y ls' os' ts'/\Good ls os/\Good ls' os'/\ts.length=ls.length/\ts'.length=ls'.length/\ls.length + ls'.length < 64/\TabOk H TB lpLO "line_of.<locals>.<lambda>"/\TabOk H TJ lpJS "joined_stretches.<locals>.<lambda>"/\
 (ls'.sum≠ls.sum->E (.ref CU) none H)/\
 (ls'.sum=ls.sum->∀ S,RepS (fun x=>gL ls' os' ts' (gL ls os ts x)) 0 S ls.sum->(24 < S.length->∀ H',SameT H H'->E (.ref CM) none H')/\
  (S.length<=24->∀ z l o t H',SameT H H'->TabOk H' TB lpLO "line_of.<locals>.<lambda>"->TabOk H' TJ lpJS "joined_stretches.<locals>.<lambda>"->PlG (fun x=>gL ls' os' ts' (gL ls os ts x)) ls.sum l o t->l.length=S.length->Good l o->LineAt C H' z l o t->Q (.ref z) H'))
theorem scJoined:FnScope ["one","two"] ["one","two"] (J6 sJoined):=fS
theorem ok_joinedX {f fLW fJS fSO C CW TB TJ CU CM:Addr} {fd fdLW fdJS fdSO:FuncData}  (F:Fun K "joined" "joined" sJoined f fd) (TC:TxtC K mg C) (TBJ:TB≠TJ) (TU:TxtX K mg "Unlike" CU)
  (GLW:FnOk P w K mg base (Exc1 P w) 6 fLW fdLW ["stretches"] (spLineWX C CW TB CM)) (bLW:Binds K fdLW ["stretches"] []) (mLW:mg "line_within"=some (.ref fLW)) (kLW:keepIn K (.ref fLW)=true)
  (GJS:FnOk P w K mg base CX0 5 fJS fdJS ["ones","twos"] (spJoinS CW TJ)) (bJS:Binds K fdJS ["ones","twos"] []) (mJS:mg "joined_stretches"=some (.ref fJS)) (kJS:keepIn K (.ref fJS)=true)
  (GSO:FnOk P w K mg base CX0 3 fSO fdSO ["line"] (spStrOf C CW)) (bSO:Binds K fdSO ["line"] []) (mSO:mg "stretches_of"=some (.ref fSO)) (kSO:keepIn K (.ref fSO)=true) :
  FnOk P w K mg base (Exc1 P w) 7 f fd ["one","two"] (spJoinedX C CW TB TJ CU CM):=by
 refine F.okX scJoined (fun vs H Q E h=>?_) (fun cdv A outer s H vs Q E hr h=>?_)
 ·obtain ⟨x,y,ls,ls',os,os',ts,ts',rfl,_⟩:=h;rfl
 ·obtain ⟨x,y,ls,ls',os,os',ts,ts',rfl,L1,L2,G1,G2,t1,t2,h64,Tb,Tj,ku,k⟩:=h;have hr3:Room 3 _:=rm hr;have hr5:Room 5 _:=rm hr;have hr6:Room 6 _:=rm hr;refine ⟨_,(J1 (ps_if (Jl op_ne (Ja (pv 0) rfl) (Ja (pv 1) rfl) (Jp _)) (J4 (J22 rfl TU.mg TU.ex)) Jn)
   (J4 (Jh (Jc GLW hr6 rfl mLW kLW bLW .nil pass1 (J0 (Jc GJS hr5 rfl mJS kJS bJS .nil pass0 (J0 (Jc GSO hr3 rfl mSO kSO bSO .nil pass0 (J0 (pv 0) J3)) (J0 (Jc GSO hr3 rfl mSO kSO bSO .nil pass0 (J0 (pv 1) J3)) J3))) J3))))),?_⟩
  obtain ⟨dx,fl,pl,po,pt,ps,pd,h0,⟨k1,k2,k3,k4,k5,k6⟩,e1,e2,e3,e4,e5⟩:=L1.ex;obtain ⟨dy,fy,ql,qo,qt,qs,qd,g0,⟨j1,j2,j3,j4,j5,j6⟩,f1,f2,f3,f4,f5⟩:=L2.ex;have O1:=G1.ord;have O2:=G2.ord;refine ⟨_,rfl,x,C,dx,fl,_,rfl,h0,TC.cl,TC.nZ,k6,_,rfl,y,C,dy,fy,_,rfl,g0,TC.cl,TC.nZ,j6,rfl,_,rfl,?_⟩;by_cases hz:ls'.sum=ls.sum
  case neg=>exact iteND (fun e=>hz (V.int.inj e).symm) (ku hz)
  refine iteNS (by rw [hz]) ?_;have b1:=J2j (ts:=ts) O1;have b2:=J2j (ts:=ts') O2;rw [hz] at b2;have r1:=J4z (ts:=ts) O1;have r2:=J4z (ts:=ts') O2;rw [hz] at r2;have jl:=jn_len r1 r2 b1.inj;rw [J2v,J2v] at jl;have p1:=G1.pos_sum;have hi1:=G1.hi;have hi2:=G2.hi;refine ⟨_,rfl,x,ls,os,ts,rfl,L1,G1.hi,t1,fun d1 ys1 H1 s1 q1 rf1=>⟨_,rfl,y,ls',os',ts',rfl,L2.same s1,G2.hi,t2,fun d2 ys2 H2 s2 q2 rf2=>?_⟩⟩;have s12:=s1.trans s2;refine ⟨d1,d2,ys1,ys2,srsL ls os ts,srsL ls' os' ts',rfl,s2 _ _ q1,q2,(Refs.srs rf1).same s2,Refs.srs rf2,(by lia),(by rw [J2v];lia),(by rw [J2v];lia),Jv Tj s12,fun L d zs H3 pm pw sT T4 TK4 e S=>?_⟩;have R:=jn_repS b1 b2 r1 r2 (by lia) pm pw;obtain ⟨kx,kq⟩:=k hz _ R;have sT3:=SameT.trans (Same.t s12) sT;refine ⟨d,zs,lgst L,rfl,e,S,TK4 _ _ _ TBJ (Jv Tb s12),fun c=>kx c H3 sT3,fun c o po' pw'=>⟨repS_good R p1 G1.sum c po',fun z H4 sT4 T6 TK6 LZ=>?_⟩⟩;exact kq c z _ o _ H4 (SameT.trans sT3 sT4) T6 (TK6 _ _ _ (Ne.symm TBJ) T4) ⟨lgst L,R,rfl,rfl,⟨po',pw'⟩⟩ (length_map ..) (repS_good R p1 G1.sum c po') LZ
structure GoodB (bs:List Int):Prop where
 lo:1<=bs.length
 hi:bs.length<=12
 pos:∀ a∈bs,1<=a
def spRefB (CB:Addr):Sp:=fun vs H Q E=>∃ (p:Addr) (bs:List Int),vs=[.ref p]/\SqH H p (iV bs)/\(GoodB bs->Q .non H)/\(¬ GoodB bs->E (.ref CB) none H)
def spRefS (CB:Addr):Sp:=fun vs H Q E=>∃ (p q:Addr) (as bs:List Int),vs=[.ref p,.ref q]/\SqH H p (iV as)/\SqH H q (iV bs)/\(as.sum=bs.sum/\as.sum<=10 ^ 30->Q .non H)/\(¬ (as.sum=bs.sum/\as.sum<=10 ^ 30)->E (.ref CB) none H)
theorem scRefB:FnScope ["lengths"] ["lengths"] (J6 sRefB):=fS
theorem ok_refB {f  CB : Addr} {fd  : FuncData} {t12 : Tok} (F : Fun K "refuse_blocks" "refuse_blocks" sRefB f fd) (T : TxtR mg) (hmin : mg "min" = none) (h12 : mg "MOST_BLOCKS" = some (.int 12 t12)) (TAr : TxtX K mg "BadArches" CB)
 :
    FnOk P w K mg base (Exc1 P w) 1 f fd ["lengths"] (spRefB CB) := by
  refine F.okX scRefB (fun vs H Q E h => ?_) (fun cdv A outer s H vs Q E hr h => ?_)
  · obtain ⟨p, bs, rfl, _⟩ := h
    rfl
  · obtain ⟨p, bs, rfl, hp, k, kx⟩ := h
    refine ⟨_, (J1 (ps_if (Jl op_eq (Je Jf (by rfl) T.len boot_len (J0 (pv 0) J3)) Jd (Jp _)) (J4 (J22 rfl TAr.mg TAr.ex)) Jn)
      (J1 (ps_if (Jl op_gt (Je Jf (by rfl) T.len boot_len (J0 (pv 0) J3)) (J5a (v := .int 12) rfl h12 ⟨_, rfl⟩) (Jp _)) (J4 (J22 rfl TAr.mg TAr.ex)) Jn)
      (J4 (ps_if (Jl op_lt (Je (call_min rfl) (by rfl) hmin boot_min (J0 (pv 0) J3)) Jd (Jp _)) (J4 (J22 rfl TAr.mg TAr.ex)) Jn)))), ?_⟩
    have hl : (iV bs).length = bs.length := length_map ..;refine ⟨_, rfl, p, _, rfl, hp.sq, rfl, _, rfl, ?_⟩;by_cases c0 : bs.length = 0
    · exact iteDT (by rw [hl, c0]; rfl) (kx fun g => by have := g.lo; lia)
    refine iteD (J1p (by rw [hl]; lia)) ?_;refine ⟨_, rfl, p, _, rfl, hp.sq, _, _, rfl, rfl, _, rfl, ?_⟩;by_cases c1 : (12 : Int) < ((iV bs).length : Int)
    · exact iteDT c1 (kx fun g => by have := g.hi; lia)
    refine iteD c1 ?_;refine ⟨_, rfl, p, bs, rfl, hp.sq, by lia, fun M hM hall => ⟨_, _, rfl, rfl, _, rfl, ?_⟩⟩;by_cases c2 : M < 1
    · exact iteDT c2 (kx fun g => by have := g.pos M hM; lia)
    · exact iteD c2 (k ⟨by lia, by lia, fun a ha => by have := hall a ha; lia⟩)
theorem scRefS:FnScope ["above","below"] ["above","below"] (J6 sRefS):=fS
theorem ok_refS {f  CB : Addr} {fd  : FuncData}  (F : Fun K "refuse_sums" "refuse_sums" sRefS f fd) (T : TxtR mg) (TAr : TxtX K mg "BadArches" CB)
 :
    FnOk P w K mg base (Exc1 P w) 1 f fd ["above", "below"] (spRefS CB) := by
  refine F.okX scRefS (fun vs H Q E h => ?_) (fun cdv A outer s H vs Q E hr h => ?_)
  · obtain ⟨p, q, as, bs, rfl, _⟩ := h
    rfl
  · obtain ⟨p, q, as, bs, rfl, hp, hq, k, kx⟩ := h
    refine ⟨_, (J1 (ps_if (Jl op_ne (Je (Jx rfl) (by rfl) T.sum boot_sum (J0 (pv 0) J3)) (Je (Jx rfl) (by rfl) T.sum boot_sum (J0 (pv 1) J3)) (Jp _)) (J4 (J22 rfl TAr.mg TAr.ex)) Jn)
      (J4 (ps_if (Jl op_gt (Je (Jx rfl) (by rfl) T.sum boot_sum (J0 (pv 0) J3)) (pe_op op_pow Jd Jd) (Jp _)) (J4 (J22 rfl TAr.mg TAr.ex)) Jn))), ?_⟩
    refine ⟨_, rfl, p, as, rfl, hp.sq, _, rfl, q, bs, rfl, hq.sq, rfl, _, rfl, ?_⟩;by_cases c0 : as.sum = bs.sum
    case neg => exact iteND (fun e => c0 (V.int.inj e)) (kx fun g => c0 g.1)
    refine iteNS (by rw [c0]) ?_;refine ⟨_, rfl, p, as, rfl, hp.sq, _, _, rfl, rfl, ⟨by decide, by decide, by decide⟩, _, _, rfl, rfl, _, rfl, ?_⟩;by_cases c1 : (10 : Int) ^ (30 : Int).toNat < as.sum
    · exact iteDT c1 (kx fun g => by have := g.2; have e : (10 : Int) ^ (30 : Int).toNat = 10 ^ 30 := rfl; lia)
    · exact iteD c1 (k ⟨c0, by have e : (10 : Int) ^ (30 : Int).toNat = 10 ^ 30 := rfl; lia⟩)
def spTurnB (C:Addr):Sp:=fun vs H Q _=>∃ (p:Addr) (bs:List Int),vs=[.ref p]/\SqH H p (iV bs)/\GoodB bs/\bs.sum<=10 ^ 30/\∀ x H',Same H H'->LineAt C H' x bs (List.range bs.length) (List.replicate bs.length true)->Q (.ref x) H'
theorem GoodB.good {bs:List Int} (g:GoodB bs) (h:bs.sum<=10 ^ 30):Good bs (List.range bs.length):=⟨g.lo,by have:=g.hi;lia,g.pos,h,List.Perm.refl _⟩
theorem SqH.up {H H':Hp} {p:Addr} {xs:List V} (h:SqH H p xs) (s:Same H H'):SqH H' p xs:=by
 rcases h with h | h
 ·exact .inl (s _ _ h)
 ·exact .inr (s _ _ h)
theorem scTurnB:FnScope ["lengths"] ["lengths"] (J6 sTurnB):=fS
theorem ok_turnB {f fI C:Addr} {fd fdI:FuncData}  (F:Fun K "turned_blocks" "turned_blocks" sTurnB f fd) (T:TxtR mg)
  (MI:Mk K C fI) (GI:FnOk P w K mg base CX0 3 fI fdI ["self","lengths","order","turned"] (spInit C)) (bI:Binds K fdI ["self","lengths","order","turned"] []) (mgI:mg "Line"=some (.ref C)) :
  FnOk P w K mg base CX0 5 f fd ["lengths"] (spTurnB C):=by
 refine F.ok scTurnB (fun vs H Q E h=>?_) (fun cdv A outer s H vs Q E hr h=>?_)
 ·obtain ⟨p,bs,rfl,_⟩:=h;rfl
 ·obtain ⟨p,bs,rfl,hp,g,hs,k⟩:=h;have hr4:Room 4 _:=rm hr;refine ⟨_,(J4 (Jh (J16 MI GI hr4 rfl mgI bI .nil pass0 (J0 (pv 0) (J0 (Jk (J1r rfl) (by rfl) T.list boot_list (J0 (Jk J3o (by rfl) T.range PyProof.Rows.boot_range (J0 (Je Jf (by rfl) T.len boot_len (J0 (pv 0) J3)) J3)) J3)) (J0 (pe_op op_rep (J1t (J0 pe_bl J3)) (Je Jf (by rfl) T.len boot_len (J0 (pv 0) J3))) J3)))))),?_⟩;have hl:(iV bs).length=bs.length:=length_map ..;have h12:=g.hi;have sm:=Jq (n:=100) (by decide);refine ⟨_,rfl,_,rfl,p,_,rfl,hp.sq,_,rfl,fun r hr'=>?_⟩;have s1:=J7 (o:=.rng 0 ((iV bs).length:Int)) hr';refine ⟨r,bs.length,rfl,(by rw [J2,hl]),by lia,fun lo hlo=>?_⟩;have s2:=J7 (o:=.lst (nV (List.range bs.length))) hlo;refine ⟨by show 1<=sizeLine;lia,fun l1 hl1=>?_⟩;have s3:=J7 (o:=.lst [V.bl true]) hl1;have s123:=s1.trans (s2.trans s3);refine ⟨_,rfl,p,_,rfl,(hp.up s123).sq,l1,_,[V.bl true],rfl,rfl,J2,by lia,by rw [hl];lia,(by show 1 * ((iV bs).length:Int).toNat<=sizeLine;rw [hl];lia),fun l2 hl2=>?_⟩;have eT:(List.replicate ((iV bs).length:Int).toNat [V.bl true]).flatten=bV (List.replicate bs.length true):=by
   rw [hl,Int.toNat_natCast];show _=(List.replicate bs.length true).map V.bl;rw [List.map_replicate];generalize bs.length=n
   induction n with
   | zero=>rfl
   | succ n ih=>rw [replicate_succ,flatten_cons,ih,replicate_succ];rfl
  rw [eT];have s4:=J7 (o:=.lst (bV (List.replicate bs.length true))) hl2;have s14:=s123.trans s4;have q2:=s4 _ _ (s3 _ _ (show upd (upd H r (.rng 0 ((iV bs).length:Int))) lo (.lst (nV (List.range bs.length))) lo=some (.lst (nV (List.range bs.length))) from J2));have q4:upd (upd (upd (upd H r (.rng 0 ((iV bs).length:Int))) lo (.lst (nV (List.range bs.length)))) l1 (.lst [V.bl true])) l2 (.lst (bV (List.replicate bs.length true))) l2=some (.lst (bV (List.replicate bs.length true))):=J2;refine fun x dx hx hdx hne=>?_;have s6:=(J7 (o:=.own x) hdx).trans (J7 (l:=x) (o:=.ins C dx []) (by rw [Jb (Ne.symm hne)];exact hx));refine ⟨x,dx,p,lo,.ref l2,bs,List.range bs.length,List.replicate bs.length true,rfl,J2,(hp.up (s14.trans s6)),.inl (s6 _ _ q2),g.good hs,⟨length_replicate,.inr ⟨l2,rfl,.inl (s6 _ _ q4)⟩⟩,fun H' L kp=>⟨rfl,?_⟩⟩;exact k x H' (fun b u e=>kp _ _ (s6 _ _ (s14 _ _ e)) (J8 (s14 _ _ e) hx)) L
structure TxtAr (K:PySem.W.Frag) (CAr:Addr):Prop where
 cl:Cls K CAr
 nA:NoAttr K CAr "above"
 nB:NoAttr K CAr "below"
 nZ:NoAttr K CAr "size"
 nL:NoAttr K CAr "line"
 nC:NoAttr K CAr "chart"
noncomputable def gT (bs:List Int):Int->Int:=gL bs (List.range bs.length) (List.replicate bs.length true)
structure GoodA (as bs:List Int):Prop where
 a:GoodB as
 b:GoodB bs
 eq:as.sum=bs.sum
 le:as.sum<=10 ^ 30
structure ChB (CH:Addr) (H:Hp) (xc xl:Addr) (ls:List Int) (os:List Nat) (ts:List Bool):Prop where
 ex:∃ (dc:Addr) (fc:List (Str × V)) (pr pb:Addr) (xb:List V) (m:Nat),H xc=some (.ins CH dc fc)/\fc.lookup ("line":Str)=some (.ref xl)/\fc.lookup ("rests":Str)=some (.ref pr)/\fc.lookup ("bands":Str)=some (.ref pb)/\H pb=some (.tup xb)/\Long (J1o ls os ts) m/\(chN (J1o ls os ts) m).1.top=[]/\
  Refs (fun q i=>H q=some (.tup (bandV ((bndN (J1o ls os ts) m).getD i bz)))) xb (bndN (J1o ls os ts) m).length
structure ArAt (C CH CR CAr:Addr) (cs:Kd->Addr) (H:Hp) (x:Addr) (as bs:List Int):Prop where
 ex:∃ (dx:Addr) (fs:List (Str × V)) (pa pb xl xc:Addr) (ls:List Int) (os:List Nat) (ts:List Bool),H x=some (.ins CAr dx fs)/\fs.lookup ("above":Str)=some (.ref pa)/\fs.lookup ("below":Str)=some (.ref pb)/\fs.lookup ("size":Str)=some (.int as.sum)/\fs.lookup ("line":Str)=some (.ref xl)/\fs.lookup ("chart":Str)=some (.ref xc)/\
  H pa=some (.tup (iV as))/\H pb=some (.tup (iV bs))/\LineAt C H xl ls os ts/\Good ls os/\ts.length=ls.length/\PlG (fun y=>gT bs (gT as y)) as.sum ls os ts/\ls.length + 1<=as.length + bs.length/\ChB CH H xc xl ls os ts
def KeepT (x:Addr) (H H':Hp):Prop:=∀ b u,H b=some u->b≠x->isTbl u=false->H' b=some u
def spArInit (C CH CR CAr CB TB TJ:Addr) (cs:Kd->Addr):Sp:=fun vs H Q E=>∃ (x dx p q:Addr) (as bs:List Int),vs=[.ref x,.ref p,.ref q]/\H x=some (.ins CAr dx [])/\SqH H p (iV as)/\SqH H q (iV bs)/\p≠x/\q≠x/\TabOk H TB lpLO "line_of.<locals>.<lambda>"/\TabOk H TJ lpJS "joined_stretches.<locals>.<lambda>"/\
 (¬ GoodA as bs->E (.ref CB) none H)/\(GoodA as bs->∀ H',ArAt C CH CR CAr cs H' x as bs->KeepT x H H'->TabOk H' TB lpLO "line_of.<locals>.<lambda>"->TabOk H' TJ lpJS "joined_stretches.<locals>.<lambda>"->Q .non H')
theorem comp_len {ls ls':List Int} {os os':List Nat} {ts ts':List Bool} (O:Ord ls os) (O':Ord ls' os') (hz:ls'.sum=ls.sum) (h0:0<=ls.sum) {S:List Sr} (R:RepS (fun x=>gL ls' os' ts' (gL ls os ts x)) 0 S ls.sum):S.length<=ls.length + ls'.length:=by
 have b1:=J2j (ts:=ts) O;have b2:=J2j (ts:=ts') O';rw [hz] at b2;have r1:=J4z (ts:=ts) O;have r2:=J4z (ts:=ts') O';rw [hz] at r2;have jl:=jn_len r1 r2 b1.inj;rw [J2v,J2v] at jl;have pm:=List.mergeSort_perm (jn (srsL ls os ts) (srsL ls' os' ts')) (fun s t=>decide (s.fi<=t.fi));have pw:((jn (srsL ls os ts) (srsL ls' os' ts')).mergeSort (fun s t=>decide (s.fi<=t.fi))).Pairwise (fun s t=>s.fi<=t.fi):=by
  have:=List.pairwise_mergeSort (le:=fun (s t:Sr)=>decide (s.fi<=t.fi)) (fun a b c h1 h2=>by simp only [decide_eq_true_iff] at *;lia) (fun a b=>by simp only [Bool.or_eq_true,decide_eq_true_iff];lia) (jn (srsL ls os ts) (srsL ls' os' ts'));exact this.imp fun h=>by simpa using h
 have R2:=jn_repS b1 b2 r1 r2 h0 pm pw;rw [R.uni R2];have:=lgst_len ((jn (srsL ls os ts) (srsL ls' os' ts')).mergeSort (fun s t=>decide (s.fi<=t.fi)));have:=pm.length_eq;lia
theorem KeepT.of {x:Addr} {H H':Hp} (s:SameT H H'):KeepT x H H':=fun b u e _ z=>s b u e z
theorem KeepT.trans {x:Addr} {H H1 H2:Hp} (a:KeepT x H H1) (b:KeepT x H1 H2):KeepT x H H2:=fun c u e n z=>b c u (a c u e n z) n z
theorem KeepT.upd {x:Addr} {H:Hp} {o:HO}:KeepT x H (upd H x o):=fun b u e n _=>by rw [Jb n];exact e
theorem LineAt.put {C x xl CX dx:Addr} {H:Hp} {ls:List Int} {os:List Nat} {ts:List Bool} {fs:List (Str × V)} {ob:HO} (L:LineAt C H xl ls os ts) (hx:H x=some (.ins CX dx fs)) (n:fs.lookup ("lengths":Str)=none):LineAt C (upd H x ob) xl ls os ts:=by
 obtain ⟨dl,fl,pl,po,pt,ps,pd,h0,⟨k1,kr⟩,e1,e2,e3,e4,e5⟩:=L.ex;have tu:∀ {b:Addr} {xs:List V},H b=some (.tup xs)->upd H x ob b=some (.tup xs):=fun {b xs} e=>by rw [Jb (fun z=>by rw [z,hx] at e;cases e)];exact e
 refine ⟨dl,fl,pl,po,pt,ps,pd,?_,⟨k1,kr⟩,tu e1,tu e2,tu e3,tu e4,tu e5⟩;rw [Jb (fun z=>?_)]
 ·exact h0
 ·rw [z,hx] at h0;cases h0;rw [n] at k1;cases k1
theorem J2e {H:Hp} {x CX dx T:Addr} {fs:List (Str × V)} {ob:HO} {pos:Pos} {q:Str} (hx:H x=some (.ins CX dx fs)) (t:TabOk H T pos q):TabOk (upd H x ob) T pos q:=by
 obtain ⟨ps,h1,h2,h3⟩:=t.ex;refine ⟨ps,by rw [Jb (fun e=>by rw [e,hx] at h1;cases h1)];exact h1,h2,fun cv e=>?_⟩;obtain ⟨c,oc,vs,t,r1,r2,r3⟩:=h3 cv e;exact ⟨c,oc,vs,t,r1,by rw [Jb (fun e=>by rw [e,hx] at r2;cases r2)];exact r2,r3⟩
theorem ChB.put {CH x xc xl CX dx:Addr} {H:Hp} {ls:List Int} {os:List Nat} {ts:List Bool} {fs:List (Str × V)} {ob:HO} (A:ChB CH H xc xl ls os ts) (hx:H x=some (.ins CX dx fs)) (n:fs.lookup ("rests":Str)=none):ChB CH (upd H x ob) xc xl ls os ts:=by
 obtain ⟨dc,fc,pr,pb,xb,m,h0,h1,h2,h3,h4,lg,tp,r⟩:=A.ex;have tu:∀ {b:Addr} {xs:List V},H b=some (.tup xs)->upd H x ob b=some (.tup xs):=fun {b xs} e=>by rw [Jb (fun z=>by rw [z,hx] at e;cases e)];exact e
 refine ⟨dc,fc,pr,pb,xb,m,?_,h1,h2,h3,tu h4,lg,tp,r.mono fun q i _ a=>tu a⟩;rw [Jb (fun z=>?_)]
 ·exact h0
 ·rw [z,hx] at h0;cases h0;rw [n] at h2;cases h2
theorem scArInit:FnScope ["self","above","below"] ["self","above","below"] (J6 sArInit):=fS
theorem ok_arInit {f fRB fRS fTBk fJD fCH C CH CR CAr CB CW TB TJ CU CM:Addr} {fd fdRB fdRS fdTBk fdJD fdCH:FuncData} {cs:Kd->Addr} (F:Fun K "__init__" "Arches.__init__" sArInit f fd) (T:TxtR mg) (TA:TxtAr K CAr)
  (GRB:FnOk P w K mg base (Exc1 P w) 1 fRB fdRB ["lengths"] (spRefB CB)) (bRB:Binds K fdRB ["lengths"] []) (mRB:mg "refuse_blocks"=some (.ref fRB)) (kRB:keepIn K (.ref fRB)=true)
  (GRS:FnOk P w K mg base (Exc1 P w) 1 fRS fdRS ["above","below"] (spRefS CB)) (bRS:Binds K fdRS ["above","below"] []) (mRS:mg "refuse_sums"=some (.ref fRS)) (kRS:keepIn K (.ref fRS)=true)
  (GTBk:FnOk P w K mg base CX0 5 fTBk fdTBk ["lengths"] (spTurnB C)) (bTBk:Binds K fdTBk ["lengths"] []) (mTBk:mg "turned_blocks"=some (.ref fTBk)) (kTBk:keepIn K (.ref fTBk)=true)
  (GJD:FnOk P w K mg base (Exc1 P w) 7 fJD fdJD ["one","two"] (spJoinedX C CW TB TJ CU CM)) (bJD:Binds K fdJD ["one","two"] []) (mJD:mg "joined"=some (.ref fJD)) (kJD:keepIn K (.ref fJD)=true)
  (MCH:Mk K CH fCH) (GCH:FnOk P w K mg base CX0 6 fCH fdCH ["self","line"] (spCInit C CR CH cs)) (bCH:Binds K fdCH ["self","line"] []) (mgCH:mg "Chart"=some (.ref CH)) :
  FnOk P w K mg base (Exc1 P w) 8 f fd ["self","above","below"] (spArInit C CH CR CAr CB TB TJ cs):=by
 refine F.okX scArInit (fun vs H Q E h=>?_) (fun cdv A outer s H vs Q E hr h=>?_)
 ·obtain ⟨x,dx,p,q,as,bs,rfl,_⟩:=h;rfl
 ·obtain ⟨x,dx,p,q,as,bs,rfl,hx,hp,hq,npx,nqx,Tb,Tj,kx,k⟩:=h;have hr1:Room 1 _:=rm hr;have hr5:Room 5 _:=rm hr;have hr7:Room 7 _:=rm hr;refine ⟨_,(J1 (Jz (Jc GRB hr1 rfl mRB kRB bRB .nil pass1 (J0 (pv 1) J3)))
   (J1 (Jz (Jc GRB hr1 rfl mRB kRB bRB .nil pass1 (J0 (pv 2) J3)))
   (J1 (Jz (Jc GRS hr1 rfl mRS kRS bRS .nil pass1 (J0 (pv 1) (J0 (pv 2) J3))))
   (J1 (J1d (pv 0) (Jk J12 (by rfl) T.tuple boot_tuple (J0 (pv 1) J3)) rfl)
   (J1 (J1d (pv 0) (Jk J12 (by rfl) T.tuple boot_tuple (J0 (pv 2) J3)) rfl)
   (J1 (J1d (pv 0) (Je (Jx rfl) (by rfl) T.sum boot_sum (J0 (Ja (pv 0) rfl) J3)) rfl)
   (J1 (J1d (pv 0) (Jc GJD hr7 rfl mJD kJD bJD .nil pass1 (J0 (Jc GTBk hr5 rfl mTBk kTBk bTBk .nil pass0 (J0 (Ja (pv 0) rfl) J3)) (J0 (Jc GTBk hr5 rfl mTBk kTBk bTBk .nil pass0 (J0 (Ja (pv 0) rfl) J3)) J3))) rfl)
   (J4 (J1d (pv 0) (J16 MCH GCH hr7 rfl mgCH bCH .nil pass0 (J0 (Ja (pv 0) rfl) J3)) rfl))))))))),?_⟩
  refine ⟨_,rfl,p,as,rfl,hp,fun ga=>?_,fun n=>kx fun g=>n g.a⟩;refine ⟨_,rfl,q,bs,rfl,hq,fun gb=>?_,fun n=>kx fun g=>n g.b⟩;refine ⟨_,rfl,_,rfl,p,q,as,bs,rfl,hp,hq,fun gs=>?_,fun n=>kx fun g=>n ⟨g.eq,g.le⟩⟩;have gA:GoodA as bs:=⟨ga,gb,gs.1,gs.2⟩;have k:=k gA;refine ⟨_,rfl,J13 hp fun pa H1 s1 hpa=>⟨_,rfl,x,CAr,dx,[],rfl,s1 _ _ hx,TA.cl,TA.nA,(by show 0 < 1000;decide),?_⟩⟩;generalize hfs1:putF ("above":Str) (.ref pa) []=fs1;have l1:fs1.length<=1:=by rw [<- hfs1];exact Jg ..
  have hx1:=s1 _ _ hx;have kk1:KeepT x H (upd H1 x (.ins CAr dx fs1)):=(KeepT.of (Same.t s1)).trans KeepT.upd;have nax:pa≠x:=fun e=>by rw [e,hx1] at hpa;cases hpa
  have hpa2:upd H1 x (.ins CAr dx fs1) pa=some (.tup (iV as)):=by rw [Jb nax];exact hpa
  have hx2:upd H1 x (.ins CAr dx fs1) x=some (.ins CAr dx fs1):=J2;have Tb2:TabOk (upd H1 x (.ins CAr dx fs1)) TB lpLO "line_of.<locals>.<lambda>":=J2e hx1 (Jv Tb s1);have Tj2:TabOk (upd H1 x (.ins CAr dx fs1)) TJ lpJS "joined_stretches.<locals>.<lambda>":=J2e hx1 (Jv Tj s1);have hq2:SqH (upd H1 x (.ins CAr dx fs1)) q (iV bs):=by
   rcases hq with h | h
   ·exact .inl (by rw [Jb nqx];exact s1 _ _ h)
   ·exact .inr (by rw [Jb nqx];exact s1 _ _ h)
  generalize upd H1 x (.ins CAr dx fs1)=H2 at *;refine ⟨_,rfl,J13 hq2 fun pb H3 s3 hpb=>⟨_,rfl,x,CAr,dx,fs1,rfl,s3 _ _ hx2,TA.cl,TA.nB,(by lia),?_⟩⟩;generalize hfs2:putF ("below":Str) (.ref pb) fs1=fs2;have l2:fs2.length<=2:=by rw [<- hfs2];have:=Jg ("below":Str) (.ref pb) fs1;lia
  have hx3:=s3 _ _ hx2;have kk2:KeepT x H (upd H3 x (.ins CAr dx fs2)):=kk1.trans ((KeepT.of (Same.t s3)).trans KeepT.upd);have nbx:pb≠x:=fun e=>by rw [e,hx3] at hpb;cases hpb
  have hpb4:upd H3 x (.ins CAr dx fs2) pb=some (.tup (iV bs)):=by rw [Jb nbx];exact hpb
  have hpa4:upd H3 x (.ins CAr dx fs2) pa=some (.tup (iV as)):=by rw [Jb nax];exact s3 _ _ hpa2
  have hx4:upd H3 x (.ins CAr dx fs2) x=some (.ins CAr dx fs2):=J2;have Tb4:TabOk (upd H3 x (.ins CAr dx fs2)) TB lpLO "line_of.<locals>.<lambda>":=J2e hx3 (Jv Tb2 s3);have Tj4:TabOk (upd H3 x (.ins CAr dx fs2)) TJ lpJS "joined_stretches.<locals>.<lambda>":=J2e hx3 (Jv Tj2 s3);generalize upd H3 x (.ins CAr dx fs2)=H4 at *;have a2:fs2.lookup ("above":Str)=some (.ref pa):=by rw [<- hfs2,lk_ne (by decide +kernel),<- hfs1,Jt]
  have b2:fs2.lookup ("below":Str)=some (.ref pb):=by rw [<- hfs2,Jt]
  refine ⟨_,rfl,x,CAr,dx,fs2,_,rfl,hx4,TA.cl,TA.nA,a2,pa,as,rfl,.inr (SqT.of hpa4),_,rfl,x,CAr,dx,fs2,rfl,hx4,TA.cl,TA.nZ,(by lia),?_⟩;generalize hfs3:putF ("size":Str) (.int as.sum) fs2=fs3;have l3:fs3.length<=3:=by rw [<- hfs3];have:=Jg ("size":Str) (.int as.sum) fs2;lia
  have kk3:KeepT x H (upd H4 x (.ins CAr dx fs3)):=kk2.trans KeepT.upd;have hpb5:upd H4 x (.ins CAr dx fs3) pb=some (.tup (iV bs)):=by rw [Jb nbx];exact hpb4
  have hpa5:upd H4 x (.ins CAr dx fs3) pa=some (.tup (iV as)):=by rw [Jb nax];exact hpa4
  have hx5:upd H4 x (.ins CAr dx fs3) x=some (.ins CAr dx fs3):=J2;have Tb5:TabOk (upd H4 x (.ins CAr dx fs3)) TB lpLO "line_of.<locals>.<lambda>":=J2e hx4 Tb4;have Tj5:TabOk (upd H4 x (.ins CAr dx fs3)) TJ lpJS "joined_stretches.<locals>.<lambda>":=J2e hx4 Tj4;generalize upd H4 x (.ins CAr dx fs3)=H5 at *;have a3:fs3.lookup ("above":Str)=some (.ref pa):=by rw [<- hfs3,lk_ne (by decide +kernel)];exact a2
  have b3:fs3.lookup ("below":Str)=some (.ref pb):=by rw [<- hfs3,lk_ne (by decide +kernel)];exact b2
  have z3:fs3.lookup ("size":Str)=some (.int as.sum):=by rw [<- hfs3,Jt]
  have hi1:=ga.hi;have hi2:=gb.hi;have leB:bs.sum<=10 ^ 30:=by rw [<- gs.1];exact gs.2
  refine ⟨_,rfl,x,CAr,dx,fs3,_,rfl,hx5,TA.cl,TA.nA,a3,pa,as,rfl,.inr hpa5,ga,gs.2,fun x1 H6 s6 L1=>⟨_,rfl,x,CAr,dx,fs3,_,rfl,s6 _ _ hx5,TA.cl,TA.nB,b3,pb,bs,rfl,.inr (s6 _ _ hpb5),gb,leB,fun x2 H7 s7 L2=>?_⟩⟩;have s67:=s6.trans s7;have gda:=ga.good gs.2;have gdb:=gb.good leB;refine ⟨x1,x2,as,bs,_,_,_,_,rfl,L1.same s7,L2,gda,gdb,length_replicate,length_replicate,by lia,Jv Tb5 s67,Jv Tj5 s67,fun n=>absurd gs.1.symm n,fun hz S R=>⟨fun c=>?_,fun c xl l o t H8 s8 Tb8 Tj8 PG el GL LX=>?_⟩⟩
  ·have:=comp_len gda.ord gdb.ord hz (by have:=gda.pos_sum;lia) R;lia
  have sT8:=SameT.trans (Same.t s67) s8;have hx8:=sT8 _ _ hx5 rfl;refine ⟨_,rfl,x,CAr,dx,fs3,rfl,hx8,TA.cl,TA.nL,(by lia),?_⟩;generalize hfs4:putF ("line":Str) (.ref xl) fs3=fs4;have l4:fs4.length<=4:=by rw [<- hfs4];have:=Jg ("line":Str) (.ref xl) fs3;lia
  have kk4:KeepT x H (upd H8 x (.ins CAr dx fs4)):=kk3.trans ((KeepT.of sT8).trans KeepT.upd);have n3:fs3.lookup ("lengths":Str)=none:=by rw [<- hfs3,lk_ne (by decide +kernel),<- hfs2,lk_ne (by decide +kernel),<- hfs1,lk_ne (by decide +kernel)];rfl
  have n4:fs4.lookup ("lengths":Str)=none:=by rw [<- hfs4,lk_ne (by decide +kernel)];exact n3
  have LX9:LineAt C (upd H8 x (.ins CAr dx fs4)) xl l o t:=LX.put hx8 n3;have hpb9:upd H8 x (.ins CAr dx fs4) pb=some (.tup (iV bs)):=by rw [Jb nbx];exact sT8 _ _ hpb5 rfl
  have hpa9:upd H8 x (.ins CAr dx fs4) pa=some (.tup (iV as)):=by rw [Jb nax];exact sT8 _ _ hpa5 rfl
  have hx9:upd H8 x (.ins CAr dx fs4) x=some (.ins CAr dx fs4):=J2;have Tb9:TabOk (upd H8 x (.ins CAr dx fs4)) TB lpLO "line_of.<locals>.<lambda>":=J2e hx8 Tb8;have Tj9:TabOk (upd H8 x (.ins CAr dx fs4)) TJ lpJS "joined_stretches.<locals>.<lambda>":=J2e hx8 Tj8;generalize upd H8 x (.ins CAr dx fs4)=H9 at *;have a4:fs4.lookup ("above":Str)=some (.ref pa):=by rw [<- hfs4,lk_ne (by decide +kernel)];exact a3
  have b4:fs4.lookup ("below":Str)=some (.ref pb):=by rw [<- hfs4,lk_ne (by decide +kernel)];exact b3
  have z4:fs4.lookup ("size":Str)=some (.int as.sum):=by rw [<- hfs4,lk_ne (by decide +kernel)];exact z3
  have i4:fs4.lookup ("line":Str)=some (.ref xl):=by rw [<- hfs4,Jt]
  have tl:t.length=l.length:=PG.len;have ok0:(J3r l o t).Ok:=whole_ok GL.perm GL.pos tl GL.hi;have z0:(J3r l o t).size<=10 ^ 30:=by rw [ok0.size_sum];exact GL.sum
  refine ⟨_,rfl,x,CAr,dx,fs4,_,rfl,hx9,TA.cl,TA.nL,i4,fun xc dc hxc hdc hnc=>?_⟩;have sc:=(J7 (o:=.own xc) hdc).trans (J7 (l:=xc) (o:=.ins CH dc []) (by rw [Jb (Ne.symm hnc)];exact hxc));refine ⟨xc,dc,xl,l,o,t,rfl,J2,LX9.same sc,ok0,z0,GL.lo,fun m H10 lg tp A0 kc=>⟨rfl,?_⟩⟩;have s10:Same H9 H10:=fun b u e=>kc _ _ (sc _ _ e) (J8 e hxc);have hx10:=s10 _ _ hx9;refine ⟨_,rfl,x,CAr,dx,fs4,rfl,hx10,TA.cl,TA.nC,(by lia),?_⟩;generalize hfs5:putF ("chart":Str) (.ref xc) fs4=fs5;refine k _ ⟨dx,fs5,pa,pb,xl,xc,l,o,t,J2,?_,?_,?_,?_,?_,?_,?_,(LX9.same s10).put hx10 n4,GL,tl,PG,(by have:=comp_few gda.ord gdb.ord hz R ga.lo gb.lo;lia),ChB.put ⟨by
   obtain ⟨dc,fc,pr,ps,pt,pb,xr,xs,xt,xb,c0,⟨c1,c2,c3,c4,c5⟩,⟨d1,d2,d3,d4⟩,r1,r2,r3,r4⟩:=A0.ex;exact ⟨dc,fc,pr,pb,xb,m,c0,c1,c2,c5,d4,lg,tp,r4⟩⟩ hx10 (by rw [<- hfs4,lk_ne (by decide +kernel),<- hfs3,lk_ne (by decide +kernel),<- hfs2,lk_ne (by decide +kernel),<- hfs1,lk_ne (by decide +kernel)];rfl)⟩ (kk4.trans ((KeepT.of (Same.t s10)).trans KeepT.upd)) (J2e hx10 (Jv Tb9 s10)) (J2e hx10 (Jv Tj9 s10))
  ·rw [<- hfs5,lk_ne (by decide +kernel)];exact a4
  ·rw [<- hfs5,lk_ne (by decide +kernel)];exact b4
  ·rw [<- hfs5,lk_ne (by decide +kernel)];exact z4
  ·rw [<- hfs5,lk_ne (by decide +kernel)];exact i4
  ·rw [<- hfs5,Jt]
  ·rw [Jb nax];exact s10 _ _ hpa9
  ·rw [Jb nbx];exact s10 _ _ hpb9
def spHold (CO:Addr):Sp:=fun vs H Q E=>∃ (p q:Addr) (fs ls:List Int) (x:Int),vs=[.ref p,.ref q,.int x]/\H p=some (.tup (iV fs))/\H q=some (.tup (iV ls))/\fs.length=ls.length/\(∀ (j:Nat) H',Same H H'->Lies fs ls x j->Q (.int j) H')/\
 ((∀ j,¬ Lies fs ls x j)->∀ H',Same H H'->E (.ref CO) none H')
theorem scHold:FnScope ["firsts","lengths","x","piece","first"] ["firsts","lengths","x"] (J6 sHold):=fS
theorem ok_hold {f CO:Addr} {fd:FuncData} (F:Fun K "piece_holding" "piece_holding" sHold f fd) (hen:mg "enumerate"=none) (TO:TxtX K mg "Outside" CO):FnOk P w K mg base (Exc1 P w) 1 f fd ["firsts","lengths","x"] (spHold CO):=by
 refine F.okX scHold (fun vs H Q E h=>?_) (fun cdv A outer s H vs Q E hr h=>?_)
 ·obtain ⟨p,q,fs,ls,x,rfl,_⟩:=h;rfl
 ·obtain ⟨p,q,fs,ls,x,rfl,hp,hq,hl,k,kx⟩:=h;refine ⟨_,J1 (ps_nox (J34 PassesOwn.never rfl (pi_enum rfl hen (J0 (pv 0) J3)) (pg_tup rfl (J2x (J1g (i:=3) scHold.nd rfl (Or.inl rfl)) (J2x (J1g (i:=4) scHold.nd rfl (Or.inl rfl)) pgs_nil)))
    (J4 (ps_if (PW.pt (pw_and (Jl op_le (pv 4) (pv 2) (Jp _)) (pw_and1 (Jl op_lt (pv 2) (pe_op J19 (pv 4) (pe_ix Js (pv 1) (pv 3) (fun _ _=>rfl))) (Jp _))))) (J4 (Jh (pv 3))) Jn))))
   (J4 (J22 rfl TO.mg TO.ex)),?_⟩
  refine ⟨_,rfl,p,rfl,⟨_,SqT.of hp⟩,for_enum (K:=K) (a:=p) (xs:=iV fs) (fun i σ H2=>∃ v v',σ=[some (.ref p),some (.ref q),some (.int x),v,v']/\Same H H2/\∀ j,j < i->¬ Lies fs ls x j) ⟨none,none,rfl,Same.refl _,fun j h=>absurd h (Nat.not_lt_zero _)⟩ (fun i σ H2 _ ⟨_,_,_,s,_⟩=>SqT.of (s _ _ hp)) ?_ ?_⟩
  ·rintro i y σ H2 t hy ⟨v,v',rfl,s2,hi⟩ ht;have hil:i < fs.length:=by
    have:=(List.getElem?_eq_some_iff.mp hy).1;rw [length_map] at this;exact this
   rw [J1a hil] at hy;cases hy;have s3:Same H (upd H2 t (.tup [.int (i:Int),.int (fs.getD i 0)])):=s2.trans (J7 ht);have nxt:¬ Lies fs ls x i->∀ j,j < i + 1->¬ Lies fs ls x j:=fun n j hj=>by
    by_cases e:j=i
    ·rw [e];exact n
    ·exact hi j (by omega)
   refine ⟨t,_,rfl,SqT.of J2,rfl,_,_,rfl,_,_,rfl,rfl,?_⟩;refine ⟨_,rfl,_,rfl,_,_,rfl,rfl,_,rfl,?_⟩;by_cases c1:fs.getD i 0<=x
   ·refine iteDT c1 ?_;refine ⟨_,rfl,_,rfl,_,rfl,_,rfl,q,_,_,_,rfl,rfl,SqT.of (s3 _ _ hq),Jj (J1a (by rw [<- hl];exact hil)),_,_,rfl,rfl,_,_,rfl,rfl,_,rfl,?_⟩;by_cases c2:x < fs.getD i 0 + ls.getD i 0
    ·refine iteDT c2 ?_;exact ⟨_,rfl,k i _ s3 ⟨by rw [<- hl];exact hil,c1,c2⟩⟩
    ·exact iteD c2 ⟨_,_,rfl,s3,nxt fun q=>c2 q.2.2⟩
   ·exact iteD c1 (iteF ⟨_,_,rfl,s3,nxt fun q=>c1 q.2.1⟩)
  ·rintro σ H2 ⟨v,v',rfl,s2,hi⟩;rw [length_map] at hi;exact kx (fun j q=>hi j (by rw [hl];exact q.1) q) _ s2
abbrev startsN (ls:List Int):List Int:=firsts ls (List.range ls.length)
theorem Good.none {ls:List Int} {os:List Nat} (g:Good ls os) {y:Int} (n:∀ j,¬ Lies (firsts ls os) ls y j):¬ (0<=y/\y < ls.sum):=fun ⟨a,b⟩=>let ⟨j,hj⟩:=g.ord.exists a b;n j hj
theorem Good.none0 {ls:List Int} {os:List Nat} (g:Good ls os) {y:Int} (n:∀ j,¬ Lies (startsN ls) ls y j):¬ (0<=y/\y < ls.sum):=fun ⟨a,b⟩=>let ⟨j,hj⟩:=g.ord.range.exists a b;n j hj
def spMoved (C:Addr):Sp:=fun vs H Q _=>∃ (x p:Addr) (ls:List Int) (os:List Nat) (ts:List Bool) (fs:List Int) (j:Nat) (off:Int),vs=[.ref x,.int j,.int off,.ref p]/\LineAt C H x ls os ts/\H p=some (.tup (iV fs))/\fs.length=ls.length/\ts.length=ls.length/\j < ls.length/\Q (.int (moveN ls ts j off fs)) H
theorem scMoved:FnScope ["line","piece","offset","firsts"] ["line","piece","offset","firsts"] (J6 sMoved):=fS
theorem ok_moved {f C:Addr} {fd:FuncData} (F:Fun K "moved" "moved" sMoved f fd) (TC:TxtC K mg C):FnOk P w K mg base CX0 1 f fd ["line","piece","offset","firsts"] (spMoved C):=by
 refine F.ok scMoved (fun vs H Q E h=>?_) (fun cdv A outer s H vs Q E hr h=>?_)
 ·obtain ⟨x,p,ls,os,ts,fs,j,off,rfl,_⟩:=h;rfl
 ·obtain ⟨x,p,ls,os,ts,fs,j,off,rfl,L,hp,hl,ht,hj,k⟩:=h;obtain ⟨dx,fl,pl,po,pt,ps,pd,h0,⟨k1,k2,k3,k4,k5,k6⟩,e1,e2,e3,e4,e5⟩:=L.ex;refine ⟨_,J1 (ps_if (J2p (pe_ix Js (Ja (pv 0) rfl) (pv 1) (fun _ _=>rfl))) (J4 (Jh (pe_op J1l (pe_op J1l (pe_op J19 (pe_ix Js (pv 3) (pv 1) (fun _ _=>rfl)) (pe_ix Js (Ja (pv 0) rfl) (pv 1) (fun _ _=>rfl))) Jd) (pv 2)))) Jn)
   (J4 (Jh (pe_op J19 (pe_ix Js (pv 3) (pv 1) (fun _ _=>rfl)) (pv 2)))),?_⟩
  refine ⟨_,rfl,x,C,dx,fl,_,rfl,h0,TC.cl,TC.nT,k3,_,rfl,pt,_,_,_,rfl,rfl,SqT.of e3,Jj (J4w (by rw [ht];exact hj)),_,rfl,?_⟩;unfold moveN at k;by_cases c:ts.getD j false=true
  ·rw [if_pos c] at k;rw [if_pos c];exact ⟨_,rfl,_,rfl,p,_,_,_,rfl,rfl,SqT.of hp,Jj (J1a (by rw [hl];exact hj)),_,rfl,x,C,dx,fl,_,rfl,h0,TC.cl,TC.nL,k1,_,rfl,pl,_,_,_,rfl,rfl,SqT.of e1,Jj (J1a hj),_,_,rfl,rfl,_,_,rfl,rfl,_,rfl,_,_,rfl,rfl,k⟩
  ·rw [if_neg c] at k;rw [if_neg c];exact ⟨_,rfl,_,rfl,p,_,_,_,rfl,rfl,SqT.of hp,Jj (J1a (by rw [hl];exact hj)),_,rfl,_,_,rfl,rfl,k⟩
def spAt (CO C:Addr):Sp:=fun vs H Q E=>∃ (x:Addr) (ls:List Int) (os:List Nat) (ts:List Bool) (y:Int),vs=[.ref x,.int y]/\LineAt C H x ls os ts/\Good ls os/\(∀ (j:Nat) H',Same H H'->Lies (startsN ls) ls y j->Q (.int j) H')/\
 (¬ (0<=y/\y < ls.sum)->∀ H',Same H H'->E (.ref CO) none H')
theorem scAt:FnScope ["line","x"] ["line","x"] (J6 sAt):=fS
theorem ok_at {f fH CO C:Addr} {fd fdH:FuncData} (F:Fun K "piece_at" "piece_at" sAt f fd) (TC:TxtC K mg C) (GH:FnOk P w K mg base (Exc1 P w) 1 fH fdH ["firsts","lengths","x"] (spHold CO)) (bH:Binds K fdH ["firsts","lengths","x"] []) (mH:mg "piece_holding"=some (.ref fH)) (kH:keepIn K (.ref fH)=true) :
  FnOk P w K mg base (Exc1 P w) 2 f fd ["line","x"] (spAt CO C):=by
 refine F.okX scAt (fun vs H Q E h=>?_) (fun cdv A outer s H vs Q E hr h=>?_)
 ·obtain ⟨x,ls,os,ts,y,rfl,_⟩:=h;rfl
 ·obtain ⟨x,ls,os,ts,y,rfl,L,g,k,kx⟩:=h;obtain ⟨dx,fl,pl,po,pt,ps,pd,h0,⟨k1,k2,k3,k4,k5,k6⟩,e1,e2,e3,e4,e5⟩:=L.ex;refine ⟨_,J4 (Jh (Jc GH hr rfl mH kH bH .nil pass1 (J0 (Ja (pv 0) rfl) (J0 (Ja (pv 0) rfl) (J0 (pv 1) J3))))),?_⟩;exact ⟨_,rfl,x,C,dx,fl,_,rfl,h0,TC.cl,TC.nS,k4,_,rfl,x,C,dx,fl,_,rfl,h0,TC.cl,TC.nL,k1,_,rfl,ps,pl,startsN ls,ls,y,rfl,e4,e1,J1w _ _,k,fun n=>kx (g.none0 n)⟩
def spGoes (CO C:Addr):Sp:=fun vs H Q E=>∃ (x:Addr) (ls:List Int) (os:List Nat) (ts:List Bool) (y:Int),vs=[.ref x,.int y]/\LineAt C H x ls os ts/\Good ls os/\ts.length=ls.length/\
 (∀ (j:Nat) H',Same H H'->Lies (startsN ls) ls y j->Q (.int (moveN ls ts j (y - (startsN ls).getD j 0) (firsts ls os))) H')/\(¬ (0<=y/\y < ls.sum)->∀ H',Same H H'->E (.ref CO) none H')
theorem scGoes:FnScope ["line","x","piece"] ["line","x"] (J6 sGoes):=fS
theorem ok_goes {f fA fM CO C:Addr} {fd fdA fdM:FuncData} (F:Fun K "goes" "goes" sGoes f fd) (TC:TxtC K mg C) (GA:FnOk P w K mg base (Exc1 P w) 2 fA fdA ["line","x"] (spAt CO C)) (bA:Binds K fdA ["line","x"] []) (mA:mg "piece_at"=some (.ref fA)) (kA:keepIn K (.ref fA)=true)
  (GM:FnOk P w K mg base CX0 1 fM fdM ["line","piece","offset","firsts"] (spMoved C)) (bM:Binds K fdM ["line","piece","offset","firsts"] []) (mM:mg "moved"=some (.ref fM)) (kM:keepIn K (.ref fM)=true) :
  FnOk P w K mg base (Exc1 P w) 3 f fd ["line","x"] (spGoes CO C):=by
 refine F.okX scGoes (fun vs H Q E h=>?_) (fun cdv A outer s H vs Q E hr h=>?_)
 ·obtain ⟨x,ls,os,ts,y,rfl,_⟩:=h;rfl
 ·obtain ⟨x,ls,os,ts,y,rfl,L,g,ht,k,kx⟩:=h;have hr1:Room 1 _:=rm hr;refine ⟨_,J1 (Ji (i:=2) scGoes.nd rfl (Or.inl rfl) (Jc GA hr rfl mA kA bA .nil pass1 (J0 (pv 0) (J0 (pv 1) J3))))
   (J4 (Jh (Jc GM hr1 rfl mM kM bM .nil pass0 (J0 (pv 0) (J0 (pv 2) (J0 (pe_op J1l (pv 1) (pe_ix Js (Ja (pv 0) rfl) (pv 2) (fun _ _=>rfl))) (J0 (Ja (pv 0) rfl) J3))))))),?_⟩
  refine ⟨_,rfl,_,rfl,x,ls,os,ts,y,rfl,L,g,fun j H1 s1 hj=>?_,kx⟩;have L1:=L.same s1;obtain ⟨dx,fl,pl,po,pt,ps,pd,h0,⟨k1,k2,k3,k4,k5,k6⟩,e1,e2,e3,e4,e5⟩:=L1.ex;exact ⟨_,rfl,_,rfl,_,rfl,_,rfl,x,C,dx,fl,_,rfl,h0,TC.cl,TC.nS,k4,_,rfl,ps,_,_,_,rfl,rfl,SqT.of e4,Jj (J1a (by rw [J1w];exact hj.1)),_,_,rfl,rfl,_,rfl,x,C,dx,fl,_,rfl,h0,TC.cl,TC.nD,k5,
   x,pd,ls,os,ts,firsts ls os,j,_,rfl,L1,e5,J1w _ _,ht,hj.1,k j H1 s1 hj⟩
noncomputable def endV (bs:List Int) (x:Int):V:=if gT bs x=x then .non else .int (gT bs x)
def J5s (CO:Addr):Sp:=fun vs H Q E=>∃ (p:Addr) (bs:List Int) (x:Int),vs=[.ref p,.int x]/\SqH H p (iV bs)/\GoodB bs/\bs.sum<=10 ^ 30/\(∀ (j:Nat) H',Same H H'->Lies (startsN bs) bs x j->Q (endV bs x) H')/\(¬ (0<=x/\x < bs.sum)->∀ H',Same H H'->E (.ref CO) none H')
theorem scOtherE:FnScope ["lengths","x","end"] ["lengths","x"] (J6 sOtherE):=fS
theorem ok_otherE {f fGG fTBk C CO:Addr} {fd fdGG fdTBk:FuncData}  (F:Fun K "other_end" "other_end" sOtherE f fd)
  (GGG:FnOk P w K mg base (Exc1 P w) 3 fGG fdGG ["line","x"] (spGoes CO C)) (bGG:Binds K fdGG ["line","x"] []) (mGG:mg "goes"=some (.ref fGG)) (kGG:keepIn K (.ref fGG)=true)
  (GTBk:FnOk P w K mg base CX0 5 fTBk fdTBk ["lengths"] (spTurnB C)) (bTBk:Binds K fdTBk ["lengths"] []) (mTBk:mg "turned_blocks"=some (.ref fTBk)) (kTBk:keepIn K (.ref fTBk)=true) :
  FnOk P w K mg base (Exc1 P w) 6 f fd ["lengths","x"] (J5s CO):=by
 refine F.okX scOtherE (fun vs H Q E h=>?_) (fun cdv A outer s H vs Q E hr h=>?_)
 ·obtain ⟨p,bs,x,rfl,_⟩:=h;rfl
 ·obtain ⟨p,bs,x,rfl,hp,g,hs,k,kx⟩:=h;have hr3:Room 3 _:=rm hr;have hr5:Room 5 _:=rm hr;refine ⟨_,(J1 (Ji (i:=2) scOtherE.nd rfl (Or.inl rfl) (Jc GGG hr3 rfl mGG kGG bGG .nil pass1 (J0 (Jc GTBk hr5 rfl mTBk kTBk bTBk .nil pass0 (J0 (pv 0) J3)) (J0 (pv 1) J3))))
   (J4 (Jh (J23 (Jl op_eq (pv 2) (pv 1) (Jp _)) pe_non (pv 2))))),?_⟩
  have gd:=g.good hs;refine ⟨_,rfl,p,bs,rfl,hp,g,hs,fun xl H1 s1 L=>⟨_,rfl,xl,bs,_,_,x,rfl,L,gd,length_replicate,fun j H2 s2 lies=>?_,fun n H2 s2=>kx n H2 (s1.trans s2)⟩⟩;have e:moveN bs (List.replicate bs.length true) j (x - (startsN bs).getD j 0) (firsts bs (List.range bs.length))=gT bs x:=(gL_eq gd.ord lies).symm;rw [e];have kq:=k j H2 (s1.trans s2) lies;refine ⟨_,rfl,_,rfl,rfl,_,rfl,?_⟩;unfold endV at kq;by_cases c:gT bs x=x
  ·rw [if_pos c] at kq;exact iteDT (congrArg V.int c) kq
  ·rw [if_neg c] at kq;exact iteD (J1p c) ⟨_,rfl,kq⟩
def spArchS (CO C CH CR CAr:Addr) (cs:Kd->Addr) (up:Bool):Sp:=fun vs H Q E=>∃ (y:Addr) (as bs:List Int) (x:Int),vs=[.ref y,.int x]/\ArAt C CH CR CAr cs H y as bs/\GoodA as bs/\(∀ (j:Nat) H',Same H H'->Lies (startsN (if up=true then as else bs)) (if up=true then as else bs) x j->Q (endV (if up=true then as else bs) x) H')/\(¬ (0<=x/\x < as.sum)->∀ H',Same H H'->E (.ref CO) none H')
theorem sc_ok_archA:FnScope ["arches","x"] ["arches","x"] (J6 sArchA):=fS
theorem ok_archA {f fOE C CH CR CAr CO:Addr} {fd fdOE:FuncData} {cs:Kd->Addr} (F:Fun K "arch_above" "arch_above" sArchA f fd) (TA:TxtAr K CAr)
  (GOE:FnOk P w K mg base (Exc1 P w) 6 fOE fdOE ["lengths","x"] (J5s CO)) (bOE:Binds K fdOE ["lengths","x"] []) (mOE:mg "other_end"=some (.ref fOE)) (kOE:keepIn K (.ref fOE)=true) :
  FnOk P w K mg base (Exc1 P w) 7 f fd ["arches","x"] (spArchS CO C CH CR CAr cs true):=by
 refine F.okX sc_ok_archA (fun vs H Q E h=>?_) (fun cdv A outer s H vs Q E hr h=>?_)
 ·obtain ⟨y,as,bs,x,rfl,_⟩:=h;rfl
 ·obtain ⟨y,as,bs,x,rfl,A,G,k,kx⟩:=h;have hr6:Room 6 _:=rm hr;refine ⟨_,(J4 (Jh (Jc GOE hr6 rfl mOE kOE bOE .nil pass1 (J0 (Ja (pv 0) rfl) (J0 (pv 1) J3))))),?_⟩;obtain ⟨dy,fs,pa,pb,xl,xc,ls,os,ts,h0,fA,fB,fZ,fL,fC,hpa,hpb,hrest⟩:=A.ex;exact ⟨_,rfl,y,CAr,dy,fs,_,rfl,h0,TA.cl,TA.nA,fA,_,rfl,pa,as,x,rfl,.inr hpa,G.a,G.le,fun j H' s lies=>k j H' s lies,fun n H' s=>kx (fun z=>n ⟨z.1,by have:=G.eq;omega⟩) H' s⟩
theorem sc_ok_archB:FnScope ["arches","x"] ["arches","x"] (J6 sArchB):=fS
theorem ok_archB {f fOE C CH CR CAr CO:Addr} {fd fdOE:FuncData} {cs:Kd->Addr} (F:Fun K "arch_below" "arch_below" sArchB f fd) (TA:TxtAr K CAr)
  (GOE:FnOk P w K mg base (Exc1 P w) 6 fOE fdOE ["lengths","x"] (J5s CO)) (bOE:Binds K fdOE ["lengths","x"] []) (mOE:mg "other_end"=some (.ref fOE)) (kOE:keepIn K (.ref fOE)=true) :
  FnOk P w K mg base (Exc1 P w) 7 f fd ["arches","x"] (spArchS CO C CH CR CAr cs false):=by
 refine F.okX sc_ok_archB (fun vs H Q E h=>?_) (fun cdv A outer s H vs Q E hr h=>?_)
 ·obtain ⟨y,as,bs,x,rfl,_⟩:=h;rfl
 ·obtain ⟨y,as,bs,x,rfl,A,G,k,kx⟩:=h;have hr6:Room 6 _:=rm hr;refine ⟨_,(J4 (Jh (Jc GOE hr6 rfl mOE kOE bOE .nil pass1 (J0 (Ja (pv 0) rfl) (J0 (pv 1) J3))))),?_⟩;obtain ⟨dy,fs,pa,pb,xl,xc,ls,os,ts,h0,fA,fB,fZ,fL,fC,hpa,hpb,hrest⟩:=A.ex;exact ⟨_,rfl,y,CAr,dy,fs,_,rfl,h0,TA.cl,TA.nB,fB,_,rfl,pb,bs,x,rfl,.inr hpb,G.b,(by rw [<- G.eq];exact G.le),fun j H' s lies=>k j H' s lies,fun n H' s=>kx (fun z=>n ⟨z.1,by have:=G.eq;omega⟩) H' s⟩
end
end R52
namespace R52
open PySem L2 Rl
section
def pickL (ns:List Int) (lo st:Nat):List Int:=(List.range (Builtin.Range.rangeSize (lo:Int) (ns.length:Int) (st:Int)).toNat).map fun i=>ns.getD (lo + i * st) 0
def lenK (ns:List Int) (lo many:Nat) (span:Int) (k:Nat):Int:=1 + (pickL ns (lo + k) many).sum % span
def lensN (ns:List Int) (lo many:Nat) (span:Int):List Int:=(List.range many).map (lenK ns lo many span)
theorem lensN_len (ns:List Int) (lo many:Nat) (span:Int):(lensN ns lo many span).length=many:=by simp [lensN]
theorem lensN_mem {ns:List Int} {lo many:Nat} {span:Int} (hs:0 < span):∀ a∈lensN ns lo many span,1<=a/\a<=span:=fun a h=>by
 obtain ⟨k,_,rfl⟩:=mem_map.mp h;unfold lenK;have h1:=Int.emod_nonneg (pickL ns (lo + k) many).sum (show span≠0 by omega);have h2:=Int.emod_lt_of_pos (pickL ns (lo + k) many).sum hs;omega
theorem pick_read {K:PySem.W.Frag} {H1:Hp} {σ:St} {js:List Nat} {Q:VK} {d a:Addr} {ns:List Int} {lo st:Nat} (hS:SqL K H1 a (iV ns)) (hn:ns.length<=63) (hst:0 < st) (hd:H1 d=none) (e1:σ[js.getD 0 0]?=some (some (.ref a))) (ej:js=[js.getD 0 0])
  (hq:∀ H',Same H1 H'->H' d=some (.lst (iV (pickL ns lo st)))->Q (.ref d) H') :
  LCW (Its (lo:Int) (st:Int) (Builtin.Range.rangeSize (lo:Int) (ns.length:Int) (st:Int)).toNat) tYes (tOp (rIxL K) (tVar 1) (tVar 0)) σ js Q H1 d:=by
 have hc:(0:Int) < (st:Int):=by omega
 have few:=steps_few (a:=(lo:Int)) (b:=(ns.length:Int)) hc;refine lc_stp (lo:Int) (st:Int) _ (fun i=>V.int (ns.getD (lo + i * st) 0)) (by omega) hd (fun _ _ H _ _ k=>k H (Same.refl _)) (fun i hi H2 Qe s2 k=>?_) (fun H' s' h=>hq H' s' ?_)
 ·have hlt:=steps_lt hc hi;have e:(lo:Int) + (i:Int) * (st:Int)=((lo + i * st:Nat):Int):=by rw [Int.natCast_add,Int.natCast_mul]
  rw [e] at hlt;refine ⟨.ref a,?_,.int ((lo + i * st:Nat):Int),by rw [<- e];rfl,a,_,_,_,rfl,rfl,s2.seq hS,Jj (J1a (by omega)),k _ (Same.refl _)⟩;rw [ej];show (capv σ [js.getD 0 0])[0]?=_;unfold capv;rw [map_cons,List.getElem?_cons_zero,e1];rfl
 ·rw [h];unfold pickL;show _=some (HO.lst ((List.map _ _).map V.int));rw [map_map];rfl
end
section
variable {P:Program} {w:World} {K:PySem.W.Frag} {mg:Str->Option Value} {base:Heap}
def spCell (K:PySem.W.Frag):Sp:=fun vs H Q _=>∃ (a:Addr) (ns:List Int) (j:Nat),vs=[.ref a,.int j]/\SqL K H a (iV ns)/\Q (.int (cellN ns j)) H
theorem scCell:FnScope ["script","k"] ["script","k"] (J6 sCell):=fS
theorem ok_cell {f:Addr} {fd:FuncData} (F:Fun K "_law_cell" "_law_cell" sCell f fd) (T:TxtR mg):FnOk P w K mg base CX0 1 f fd ["script","k"] (spCell K):=by
 refine F.ok scCell (fun vs H Q E h=>?_) (fun cdv A outer s H vs Q E hr h=>?_)
 ·obtain ⟨a,ns,j,rfl,_⟩:=h;rfl
 ·obtain ⟨a,ns,j,rfl,hS,k⟩:=h;refine ⟨_,J1 (ps_if (Jl op_lt (pv 1) (Je Jf (by rfl) T.len boot_len (J0 (pv 0) J3)) (Jp _)) (J4 (Jh (pe_ix J2s (pv 0) (pv 1) (fun _ _=>rfl)))) Jn) (J4 (Jh Jd)),?_⟩;refine ⟨_,rfl,_,rfl,a,_,rfl,.inl hS,_,_,rfl,rfl,_,rfl,?_⟩;have hl:(iV ns).length=ns.length:=length_map ..;by_cases hj:j < ns.length
  ·refine iteDT (by rw [hl];omega) ?_;exact ⟨_,rfl,_,rfl,a,_,_,_,rfl,rfl,hS,Jj (J1a hj),k⟩
  ·refine iteD (by rw [hl];omega) ?_;have e:cellN ns j=0:=by
    unfold cellN;rw [getD_eq_getElem?_getD,getElem?_eq_none (by omega)];rfl
   rw [e] at k;exact k
structure TxtL (K:PySem.W.Frag) (mg:Str->Option Value):Prop where
 isi:mg "isinstance"=none
 int:mg "int"=none
 bool:mg "bool"=none
 kib:kitOne K (.type "int") (.type "bool")=some false
def spWhole:Sp:=fun vs H Q _=>∃ i:Int,vs=[.int i]/\Q (.bl true) H
theorem scWhole:FnScope ["found"] ["found"] (J6 sWhole):=fS
theorem ok_whole {f:Addr} {fd:FuncData} (F:Fun K "_law_whole" "_law_whole" sWhole f fd) (TL:TxtL K mg):FnOk P w K mg base CX0 1 f fd ["found"] spWhole:=by
 refine F.ok scWhole (fun vs H Q E h=>?_) (fun cdv A outer s H vs Q E hr h=>?_)
 ·obtain ⟨i,rfl,_⟩:=h;rfl
 ·obtain ⟨i,rfl,k⟩:=h;refine ⟨_,J4 (Jh (pe_and (Je (J30 rfl) (by rfl) TL.isi boot_isinstance (J0 (pv 0) (J0 (pe_bltn (v:=.ty "int") rfl TL.int PyProof.Rows.boot_int rfl) J3)))
   (pe_one (pe_not (Je (J30 rfl) (by rfl) TL.isi boot_isinstance (J0 (pv 0) (J0 (pe_bltn (v:=.ty "bool") rfl TL.bool PyProof.Rows.boot_bool rfl) J3))))))),?_⟩
  refine ⟨_,rfl,_,.ty "int",.type "int",.type "int",true,rfl,rfl,fun v h=>h,.int i,rfl,true,rfl,iteT ?_⟩;exact ⟨_,rfl,_,.ty "bool",.type "int",.type "bool",false,rfl,rfl,fun v h=>h,.int i,TL.kib,false,rfl,k⟩
abbrev sArchL:Stmt:=top 78
abbrev sRightL:Stmt:=top 82
def spBlocks (K:PySem.W.Frag):Sp:=fun vs H Q _=>∃ (a:Addr) (ns:List Int) (many:Nat) (span:Int),vs=[.ref a,.int many,.int span]/\SqL K H a (iV ns)/\ns.length<=63/\1<=many/\many<=24/\0 < span/\∀ l H',Same H H'->H l=none->H' l=some (.lst (iV (lensN ns 1 many span)))->Q (.ref l) H'
theorem scBlocks:FnScope ["script","many","span"] ["script","many","span"] (J6 sBlocks):=fS
theorem ok_blocks {f   : Addr} {fd  : FuncData}  (F : Fun K "_law_blocks" "_law_blocks" sBlocks f fd) (T : TxtR mg)
 :
    FnOk P w K mg base CX0 1 f fd ["script", "many", "span"] (spBlocks K) := by
  refine F.ok scBlocks (fun vs H Q E h => ?_) (fun cdv A outer s H vs Q E hr h => ?_)
  · obtain ⟨a, ns, many, span, rfl, _⟩ := h
    rfl
  · obtain ⟨a, ns, many, span, rfl, hS, hlen, y1, y2, t0, k⟩ := h
    refine ⟨_, (J4 (Jh (pe_lc (caps := ["script", "many", "span"]) (js := [0, 1, 2]) rfl (J4j rfl T.range (J0 (pv 1) J3)) rfl (fun _ _ _ _ => J3g) (fun C fp s H => (pe_op J19 Jd (pe_op J2d (Je (call_sumK K) (by rfl) T.sum boot_sum (J0 (pe_lc (caps := ["script"]) (js := [1]) rfl (pi_steps rfl T.range (J0 (pe_op J19 Jd (pv 0)) (J0 (Je (J5m K) (by rfl) T.len boot_len (J0 (pv 1) J3)) (J0 (pv 2) J3)))) rfl (fun _ _ _ _ => J3g) (fun C fp s H => (J59 (ix_listK K) (pv 1) (pv 0))) (by decide +kernel) (by decide +kernel) (by decide +kernel) (by intro p hp; simp only [mem_cons, not_mem_nil, or_false] at hp; rcases hp with rfl; rfl)) J3)) (pv 3)))) (by decide +kernel) (by decide +kernel) (by decide +kernel) (by intro p hp; simp only [mem_cons, not_mem_nil, or_false] at hp; rcases hp with rfl | rfl | rfl <;> rfl)))), ?_⟩;refine ⟨_, rfl, (many : Int), rfl, by omega, by omega, fun dl hdl => lc_rng 0 many (fun _ => true) (fun k => V.int (lenK ns 1 many span k)) (by omega) hdl (fun _ _ H _ _ k => k H (Same.refl _)) (fun kk hkk H2 Qe _ s2 q => ?_) (fun H2 s2 hl2 => ?_)⟩
    · have e2 : (1 : Int) + (0 + (kk : Int)) = ((1 + kk : Nat) : Int) := by omega
      refine ⟨_, rfl, _, _, rfl, rfl, _, rfl, a, _, rfl, .inl (s2.seq hS), _, rfl, ((1 + kk : Nat) : Int), (ns.length : Int), (many : Int), ?_, ⟨by omega, by omega, by omega, by omega, by omega, by omega⟩, fun d2 hd2 => pick_read (s2.seq hS) hlen (by omega) hd2 rfl rfl fun H3 s3 h3 => ?_⟩
      · rw [<- e2, J1v]
      · exact ⟨d2, _, rfl, .inl (SqL.of h3), _, rfl, _, _, rfl, rfl, t0, _, _, rfl, rfl, q _ s3⟩
    rw [J2t] at hl2;refine k dl H2 s2 hdl ?_;rw [hl2];show _ = some (HO.lst ((List.map _ _).map V.int));rw [map_map]; rfl
def spPartedA (K:PySem.W.Frag):Sp:=fun vs H Q _=>∃ (a:Addr) (ns:List Int) (many:Nat) (tot:Int),vs=[.ref a,.int tot,.int many]/\SqL K H a (iV ns)/\1<=many/\many<=24/\1<=tot/\∀ l bs H',Same H H'->H l=none->H' l=some (.lst (iV bs))->1<=bs.length->bs.length<=many->(∀ b∈bs,1<=b)->bs.sum=tot->Q (.ref l) H'
theorem scParted:FnScope ["script","total","many","found","mixed","k","part"] ["script","total","many"] (J6 sParted):=fS
theorem ok_partedA {f   : Addr} {fd  : FuncData}  (F : Fun K "_law_parted" "_law_parted" sParted f fd) (T : TxtR mg) (hmin : mg "min" = none)
 :
    FnOk P w K mg base CX0 1 f fd ["script", "total", "many"] (spPartedA K) := by
  refine F.ok scParted (fun vs H Q E h => ?_) (fun cdv A outer s H vs Q E hr h => ?_)
  · obtain ⟨a, ns, many, tot, rfl, _⟩ := h
    rfl
  · obtain ⟨a, ns, many, tot, rfl, hS, y1, y2, t0, k⟩ := h
    refine ⟨_, (J1 (Ji (i := 3) scParted.nd rfl (Or.inl rfl) (J1t J3))
      (J1 (Ji (i := 4) scParted.nd rfl (Or.inl rfl) (pe_op J19 Jd (pe_op J2d (Je (Jx rfl) (by rfl) T.sum boot_sum (J0 (pv 0) J3)) Jd)))
      (J1 (J34 PassesOwn.never rfl (J4j rfl T.range (J0 (pe_op J1l (pv 2) Jd) J3)) (J1g (i := 5) scParted.nd rfl (Or.inl rfl))
        (J4 (ps_if (Jl op_gt (pv 1) Jd (Jp _)) (J1 (Ji (i := 4) scParted.nd rfl (Or.inl rfl) (pe_op J2d (pe_op op_mul (pv 4) Jd) Jd))
          (J1 (Ji (i := 6) scParted.nd rfl (Or.inl rfl) (pe_op J19 Jd (pe_op J2d (pe_op J19 (pv 4) (pe_op J32 (Je (Jx rfl) (by rfl) T.sum boot_sum (J0 (pv 0) J3)) (pe_op J19 (pv 5) Jd))) (pe_op J1l (pv 1) Jd))))
          (J1 (J1z (ps_if (Jl op_eq (pe_op J2d (pv 4) Jd) Jd (Jp _)) (J4 (Ji (i := 6) scParted.nd rfl (Or.inl rfl) (pe_op J19 Jd (pe_op J2d (pv 4) (Je (J4u rfl) (by rfl) hmin boot_min (J0 Jd (J0 (pe_op J1l (pv 1) Jd) J3))))))) Jn))
          (J1 (Jz (pe_bm PySem.F.plainAttrs_list PySem.F.slot_list_append PySem.F.type_list_append J1b (pv 3) (J0 (pv 6) J3)))
          (J4 (Ji (i := 1) scParted.nd rfl (Or.inl rfl) (pe_op J1l (pv 1) (pv 6)))))))) Jn)))
      (J1 (Jz (pe_bm PySem.F.plainAttrs_list PySem.F.slot_list_append PySem.F.type_list_append J1b (pv 3) (J0 (pv 1) J3)))
      (J4 (Jh (pv 3))))))), ?_⟩
    have sm := Jq (n := 100) (by decide);have z0 : 0 <= ns.sum % 1000000006 := Int.emod_nonneg _ (by decide);have z1 : ns.sum % 1000000006 < 1000000006 := Int.emod_lt_of_pos _ (by decide);refine ⟨Nat.zero_le _, fun l hl => ?_⟩;have s1 := J7 (o := .lst []) hl;refine ⟨_, rfl, a, ns, rfl, .inl (s1.seq hS), _, _, rfl, rfl, (by show (0 : Int) < 1000000006; decide), _, _, rfl, rfl, ?_⟩;refine ⟨_, rfl, _, _, rfl, rfl, ((many - 1 : Nat) : Int), (by show [V.int ((many : Int) - 1)] = _; rw [show (many : Int) - 1 = ((many - 1 : Nat) : Int) by omega]), by omega, by omega, for_range (lo := 0) (n := many - 1) (fun i σ H2 => ∃ tt mx v6 v7 bs, σ = [some (.ref a), some (.int tt), some (.int many), some (.ref l), some (.int mx), v6, v7] /\ H2 l = some (.lst (iV bs)) /\ Same H H2 /\ bs.length <= i /\ (∀ b ∈ bs, 1 <= b) /\ bs.sum + tt = tot /\ 1 <= tt /\ 0 <= mx /\ mx < 2147483647)
      ⟨tot, _, none, none, [], rfl, J2, s1, Nat.zero_le _, (fun b hb => absurd hb not_mem_nil), (by simp), t0, by omega, by omega⟩ ?_ ?_⟩
    · rintro i σ H2 hi ⟨tt, mx, v6, v7, bs, rfl, hb, s2, n1, n2, n3, n4, m0, m1⟩
      refine ⟨_, rfl, _, _, rfl, rfl, _, rfl, ?_⟩;by_cases c : 1 < tt
      case neg => exact iteD c ⟨tt, mx, _, v7, bs, rfl, hb, s2, by omega, n2, n3, n4, m0, m1⟩
      refine iteDT c ?_;refine ⟨_, rfl, _, _, rfl, rfl, .inl ⟨by omega, by omega⟩, _, _, rfl, rfl, (by show (0 : Int) < 2147483647; decide), ?_⟩;have q0 : 0 <= mx * 48271 % 2147483647 := Int.emod_nonneg _ (by decide);have q1 : mx * 48271 % 2147483647 < 2147483647 := Int.emod_lt_of_pos _ (by decide);refine ⟨_, rfl, _, rfl, a, ns, rfl, .inl (s2.seq hS), _, rfl, _, _, rfl, rfl, _, _, rfl, rfl, ⟨by omega, by omega⟩, _, _, rfl, rfl, _, rfl, _, _, rfl, rfl, _, _, rfl, rfl, (by show 0 < tt - 1; omega), _, _, rfl, rfl, ?_⟩;obtain ⟨pt, ept⟩ : ∃ pt : Int, pt = 1 + (mx * 48271 % 2147483647 + ns.sum / (0 + (i : Int) + 2)) % (tt - 1) := ⟨_, rfl⟩;have p0 : 0 <= (mx * 48271 % 2147483647 + ns.sum / (0 + (i : Int) + 2)) % (tt - 1) := Int.emod_nonneg _ (by omega);have p1 : (mx * 48271 % 2147483647 + ns.sum / (0 + (i : Int) + 2)) % (tt - 1) < tt - 1 := Int.emod_lt_of_pos _ (by omega);refine ⟨fun σ' H' => ∃ pt, σ' = [some (.ref a), some (.int tt), some (.int many), some (.ref l), some (.int (mx * 48271 % 2147483647)), some (.int (0 + (i : Int))), some (.int pt)] /\ 1 <= pt /\ pt <= tt - 1 /\ H2 = H', ?_, ?_⟩
      · refine ⟨_, rfl, _, _, rfl, rfl, (by show (0 : Int) < 3; decide), rfl, _, rfl, ?_⟩
        by_cases c3 : mx * 48271 % 2147483647 % 3 = 1
        · refine iteDT (congrArg V.int c3) ?_
          have d0 : 0 < (if tt - 1 < 4 then tt - 1 else (4 : Int)) /\ (if tt - 1 < 4 then tt - 1 else (4 : Int)) <= tt - 1 := by split <;> omega
          have r0 : 0 <= mx * 48271 % 2147483647 % (if tt - 1 < 4 then tt - 1 else (4 : Int)) := Int.emod_nonneg _ (by omega);have r1 : mx * 48271 % 2147483647 % (if tt - 1 < 4 then tt - 1 else (4 : Int)) < (if tt - 1 < 4 then tt - 1 else (4 : Int)) := Int.emod_lt_of_pos _ d0.1;exact ⟨_, rfl, _, rfl, _, _, rfl, rfl, _, _, rfl, _, _, rfl, rfl, d0.1, _, _, rfl, rfl, _, rfl, by omega, by omega, rfl⟩
        · refine iteD (J1p c3) ⟨pt, by rw [ept]; rfl, by omega, by omega, rfl⟩
      rintro σ _ ⟨pt, rfl, w1, w2, rfl⟩;have lb : (iV bs).length = bs.length := length_map ..;refine ⟨_, rfl, .inl ⟨rfl, _, SqL.of hb⟩, _, rfl, l, _, _, rfl, rfl, hb, by rw [lb]; omega, ?_⟩;refine ⟨_, rfl, _, rfl, _, _, rfl, rfl, ?_⟩;refine ⟨tt - pt, _, _, _, bs ++ [pt], rfl, (by rw [J2]; exact congrArg (fun z => some (HO.lst z)) (by show _ = List.map V.int _; rw [map_append]; rfl)), fun b u z => (by rw [Jb (J8 z hl)]; exact s2 _ _ z), (by rw [length_append]; show bs.length + 1 <= i + 1; omega), fun b hb' => ?_, (by rw [sum_append]; simp only [sum_cons, sum_nil]; omega), by omega, q0, q1⟩;rcases mem_append.mp hb' with z | z
      · exact n2 b z
      · rw [mem_singleton.mp z]; exact w1
    · rintro σ H2 ⟨tt, mx, v6, v7, bs, rfl, hb, s2, n1, n2, n3, n4, m0, m1⟩
      have lb : (iV bs).length = bs.length := length_map ..;refine ⟨_, rfl, .inl ⟨rfl, _, SqL.of hb⟩, _, rfl, l, _, _, rfl, rfl, hb, by rw [lb]; omega, ?_⟩;refine ⟨_, rfl, k l (bs ++ [tt]) _ (fun b u z => (by rw [Jb (J8 z hl)]; exact s2 _ _ z)) hl (by rw [J2]; exact congrArg (fun z => some (HO.lst z)) (by show _ = List.map V.int _; rw [map_append]; rfl)) (by rw [length_append]; show 1 <= bs.length + 1; omega) (by rw [length_append]; show bs.length + 1 <= many; omega) (fun b hb' => ?_) (by rw [sum_append]; simp only [sum_cons, sum_nil]; omega)⟩;rcases mem_append.mp hb' with z | z
      · exact n2 b z
      · rw [mem_singleton.mp z]; exact n4
def spansA:List V:=[V.int 3,V.int 9,V.int 1000,V.int (10 ^ (28:Int).toNat)]
def spArchesL (K:PySem.W.Frag):Sp:=fun vs H Q _=>∃ (a sp:Addr) (ns:List Int),vs=[.ref a,.ref sp]/\SqL K H a (iV ns)/\ns.length<=63/\H sp=some (.lst spansA)/\∀ p l1 l2 as bs H',Same H H'->H' p=some (.tup [.ref l1,.ref l2])->H' l1=some (.lst (iV as))->H' l2=some (.lst (iV bs))->l1≠l2->GoodA as bs->Q (.ref p) H'
theorem menuA {m:Int} (h0:0<=m) (h1:m < 4):∃ span:Int,atI spansA m=some (V.int span)/\(span=3\/span=9\/span=1000\/span=10 ^ 28):=by
 have h:m=0\/m=1\/m=2\/m=3:=by omega
 rcases h with rfl | rfl | rfl | rfl
 ·exact ⟨3,rfl,.inl rfl⟩
 ·exact ⟨9,rfl,.inr (.inl rfl)⟩
 ·exact ⟨1000,rfl,.inr (.inr (.inl rfl))⟩
 ·exact ⟨10 ^ 28,rfl,.inr (.inr (.inr rfl))⟩
theorem lensA {ns:List Int} {many:Nat} {span:Int} (h:0 < span) (y1:1<=many) (y2:many<=12) (hs:span<=10 ^ 28):GoodB (lensN ns 1 many span)/\(lensN ns 1 many span).sum<=10 ^ 30/\1<=(lensN ns 1 many span).sum:=by
 have hl:=lensN_len ns 1 many span;have hm:=lensN_mem (ns:=ns) (lo:=1) (many:=many) h;have g:GoodB (lensN ns 1 many span):=⟨by omega,by omega,fun a ha=>(hm a ha).1⟩;have e1:=sum_le (lensN ns 1 many span) fun a ha=>(hm a ha).2;rw [hl] at e1;have e2:(many:Int) * span<=12 * 10 ^ 28:=Int.mul_le_mul (by omega) hs (by omega) (by decide);have q:(12:Int) * 10 ^ 28<=10 ^ 30:=by decide
 refine ⟨g,by omega,?_⟩;have:=(g.good (show (lensN ns 1 many span).sum<=10 ^ 30 by omega)).pos_sum;omega
theorem scArchL:FnScope ["script","spans","first","span","most","above","below"] ["script","spans"] (J6 sArchL):=fS
theorem ok_archesL {f fC fBk fPt :Addr} {fd fdC fdBk fdPt:FuncData}  (F:Fun K "_law_arches" "_law_arches" sArchL f fd) (T:TxtR mg)
  (GC:FnOk P w K mg base CX0 1 fC fdC ["script","k"] (spCell K)) (bC:Binds K fdC ["script","k"] []) (mC:mg "_law_cell"=some (.ref fC)) (kC:keepIn K (.ref fC)=true)
  (GBk:FnOk P w K mg base CX0 1 fBk fdBk ["script","many","span"] (spBlocks K)) (bBk:Binds K fdBk ["script","many","span"] []) (mBk:mg "_law_blocks"=some (.ref fBk)) (kBk:keepIn K (.ref fBk)=true)
  (GPt:FnOk P w K mg base CX0 1 fPt fdPt ["script","total","many"] (spPartedA K)) (bPt:Binds K fdPt ["script","total","many"] []) (mPt:mg "_law_parted"=some (.ref fPt)) (kPt:keepIn K (.ref fPt)=true) :
  FnOk P w K mg base CX0 2 f fd ["script","spans"] (spArchesL K):=by
 refine F.ok scArchL (fun vs H Q E h=>?_) (fun cdv A outer s H vs Q E hr h=>?_)
 ·obtain ⟨a,sp,ns,rfl,_⟩:=h;rfl
 ·obtain ⟨a,sp,ns,rfl,hS,hlen,hsp,k⟩:=h;have hr1:Room 1 _:=rm hr;refine ⟨_,(J1 (Ji (i:=2) scArchL.nd rfl (Or.inl rfl) (Jc GC hr1 rfl mC kC bC .nil pass0 (J0 (pv 0) (J0 Jd J3))))
   (J1 (Ji (i:=3) scArchL.nd rfl (Or.inl rfl) (pe_ix J2s (pv 1) (pe_op J2d (pe_op J32 (pv 2) Jd) (Je Jf (by rfl) T.len boot_len (J0 (pv 1) J3))) (fun _ _=>rfl)))
   (J1 (Ji (i:=4) scArchL.nd rfl (Or.inl rfl) Jd)
   (J1 (J1z (ps_if (Jl op_eq (pv 3) Jd (Jp _)) (J4 (Ji (i:=4) scArchL.nd rfl (Or.inl rfl) Jd)) Jn))
   (J1 (J1z (ps_if (Jl op_eq (pv 3) Jd (Jp _)) (J4 (Ji (i:=4) scArchL.nd rfl (Or.inl rfl) Jd)) Jn))
   (J1 (J1z (ps_if (Jl op_eq (pv 3) (pe_op op_pow Jd Jd) (Jp _)) (J4 (Ji (i:=4) scArchL.nd rfl (Or.inl rfl) Jd)) Jn))
   (J1 (Ji (i:=5) scArchL.nd rfl (Or.inl rfl) (Jc GBk hr1 rfl mBk kBk bBk .nil pass0 (J0 (pv 0) (J0 (pe_op J19 Jd (pe_op J2d (pv 2) (pv 4))) (J0 (pv 3) J3)))))
   (J1 (Ji (i:=6) scArchL.nd rfl (Or.inl rfl) (Jc GPt hr1 rfl mPt kPt bPt .nil pass0 (J0 (pv 0) (J0 (Je (Jx rfl) (by rfl) T.sum boot_sum (J0 (pv 5) J3)) (J0 (pe_op J19 Jd (pe_op J2d (pe_op J32 (pv 2) Jd) (pv 4))) J3)))))
   (J1 (ps_if (Jl op_eq (pe_op J2d (pe_op J32 (pv 2) Jd) Jd) Jd (Jp _)) (J4 (Jh (J65 (J0 (pv 6) (J0 (pv 5) J3))))) Jn)
   (J4 (Jh (J65 (J0 (pv 5) (J0 (pv 6) J3)))))))))))))),?_⟩
  obtain ⟨span,hat,cs4⟩:=menuA (m:=cellN ns 0 / 144 % 4) (Int.emod_nonneg _ (by decide)) (Int.emod_lt_of_pos _ (by decide));have e28:(10:Int) ^ (28:Int).toNat=10 ^ 28:=rfl;refine ⟨_,rfl,a,ns,0,rfl,hS,?_⟩;refine ⟨_,rfl,_,rfl,_,_,rfl,rfl,⟨by decide,by decide⟩,_,rfl,sp,_,rfl,.inl (SqL.of hsp),_,_,rfl,rfl,(by show (0:Int) < 4;decide),sp,_,_,V.int span,rfl,rfl,SqL.of hsp,hat,?_⟩;refine ⟨fun σ' H'=>∃ m:Int,σ'=[some (.ref a),some (.ref sp),some (.int (cellN ns 0)),some (.int span),some (.int m),none,none]/\(span=3->m=12)/\(span≠3->m=5)/\H=H',?_,?_⟩
  ·refine ⟨_,rfl,rfl,_,rfl,?_⟩;by_cases c:span=3
   ·exact iteDT (congrArg V.int c) ⟨12,rfl,fun _=>rfl,fun n=>absurd c n,rfl⟩
   ·exact iteD (J1p c) ⟨5,rfl,fun n=>absurd n c,fun _=>rfl,rfl⟩
  rintro σ _ ⟨m,rfl,ma,mb,rfl⟩;refine ⟨fun σ' H'=>∃ m:Int,σ'=[some (.ref a),some (.ref sp),some (.int (cellN ns 0)),some (.int span),some (.int m),none,none]/\(span=3->m=12)/\(span=1000->m=7)/\(span≠3->span≠1000->m=5)/\H=H',?_,?_⟩
  ·refine ⟨_,rfl,rfl,_,rfl,?_⟩;by_cases c:span=1000
   ·exact iteDT (congrArg V.int c) ⟨7,rfl,fun _=>by omega,fun _=>rfl,fun _ n=>absurd c n,rfl⟩
   ·exact iteD (J1p c) ⟨m,rfl,ma,fun n=>absurd n c,fun n _=>mb n,rfl⟩
  rintro σ _ ⟨m,rfl,ma,mb,mc,rfl⟩;refine ⟨fun σ' H'=>∃ m:Int,σ'=[some (.ref a),some (.ref sp),some (.int (cellN ns 0)),some (.int span),some (.int m),none,none]/\(1<=m/\m<=12)/\H=H',?_,?_⟩
  ·refine ⟨_,rfl,_,_,rfl,rfl,⟨by decide,by decide,by decide⟩,rfl,_,rfl,?_⟩;by_cases c:span=10 ^ 28
   ·exact iteDT (congrArg V.int (by rw [e28];exact c)) ⟨3,rfl,⟨by decide,by decide⟩,rfl⟩
   ·exact iteD (J1p (by rw [e28];exact c)) ⟨m,rfl,⟨by omega,by omega⟩,rfl⟩
  rintro σ _ ⟨m,rfl,⟨ma,mb⟩,rfl⟩;have sp0:0 < span:=by omega
  have q1000:(1000:Int)<=10 ^ 28:=by decide
  have sp1:span<=10 ^ 28:=by omega
  have a0:0<=cellN ns 0 % m:=Int.emod_nonneg _ (by omega);have a1:cellN ns 0 % m < m:=Int.emod_lt_of_pos _ (by omega);have b0:0<=cellN ns 0 / 12 % m:=Int.emod_nonneg _ (by omega);have b1:cellN ns 0 / 12 % m < m:=Int.emod_lt_of_pos _ (by omega);obtain ⟨m1,em1⟩:∃ m1:Nat,(m1:Int)=1 + cellN ns 0 % m:=⟨(1 + cellN ns 0 % m).toNat,by omega⟩;obtain ⟨m2,em2⟩:∃ m2:Nat,(m2:Int)=1 + cellN ns 0 / 12 % m:=⟨(1 + cellN ns 0 / 12 % m).toNat,by omega⟩;obtain ⟨ga,ha,hb⟩:=lensA (ns:=ns) (many:=m1) sp0 (by omega) (by omega) sp1;refine ⟨_,rfl,_,rfl,_,rfl,_,_,rfl,rfl,(by show 0 < m;omega),_,_,rfl,rfl,_,rfl,a,ns,m1,span,(by rw [em1];rfl),hS,hlen,by omega,by omega,sp0,fun la H1 s1 fa hla=>?_⟩;generalize lensN ns 1 m1 span=as at *;refine ⟨_,rfl,_,rfl,la,as,rfl,.inl (SqL.of hla),_,rfl,_,_,rfl,rfl,⟨by decide,by decide⟩,_,rfl,_,_,rfl,rfl,(by show 0 < m;omega),_,_,rfl,rfl,a,ns,m2,as.sum,(by rw [em2];rfl),s1.seq hS,by omega,by omega,hb,fun lb bs H2 s2 fb hlb n1 n2 n3 n4=>?_⟩;have gb:GoodB bs:=⟨n1,by omega,n3⟩;have nab:la≠lb:=J8 hla fb;have s12:=s1.trans s2;have hla2:=s2 _ _ hla;refine ⟨_,rfl,_,_,rfl,rfl,⟨by decide,by decide⟩,_,_,rfl,rfl,(by show (0:Int) < 2;decide),rfl,_,rfl,?_⟩;have sm:=Jq (n:=100) (by decide);by_cases c:cellN ns 0 / 576 % 2=1
  ·refine iteDT (congrArg V.int c) ?_;refine ⟨_,rfl,_,rfl,(by show 2<=sizeLine;omega),fun tp htp=>?_⟩;have s3:=J7 (o:=.tup [.ref lb,.ref la]) htp;exact k tp lb la bs as _ (s12.trans s3) J2 (s3 _ _ hlb) (s3 _ _ hla2) (Ne.symm nab) ⟨gb,ga,n4,by omega⟩
  ·refine iteD (J1p c) ?_;refine ⟨_,rfl,_,rfl,(by show 2<=sizeLine;omega),fun tp htp=>?_⟩;have s3:=J7 (o:=.tup [.ref la,.ref lb]) htp;exact k tp la lb as bs _ (s12.trans s3) J2 (s3 _ _ hla2) (s3 _ _ hlb) nab ⟨ga,gb,n4.symm,ha⟩
def J5r:Sp:=fun vs H Q _=>∃ (p:Addr) (bs:List Int) (x:Int),vs=[.ref p,.int x]/\H p=some (.lst (iV bs))/\GoodB bs/\bs.sum<=10 ^ 30/\0<=x/\x < bs.sum/\∀ H',Same H H'->Q (.int (gT bs x)) H'
theorem scOtherL:FnScope ["blocks","x","start","block"] ["blocks","x"] (J6 sOtherL):=fS
theorem ok_otherL {f   : Addr} {fd  : FuncData}  (F : Fun K "_law_other" "_law_other" sOtherL f fd) 
 :
    FnOk P w K mg base CX0 1 f fd ["blocks", "x"] J5r := by
  refine F.ok scOtherL (fun vs H Q E h => ?_) (fun cdv A outer s H vs Q E hr h => ?_)
  · obtain ⟨p, bs, x, rfl, _⟩ := h
    rfl
  · obtain ⟨p, bs, x, rfl, hp, g, hs, x0, x1, k⟩ := h
    refine ⟨_, (J1 (Ji (i := 2) scOtherL.nd rfl (Or.inl rfl) Jd)
      (J1 (J34 PassesOwn.never rfl (J2f (pv 0)) (J1g (i := 3) scOtherL.nd rfl (Or.inl rfl))
        (J1 (ps_if (Jl op_lt (pv 1) (pe_op J19 (pv 2) (pv 3)) (Jp _)) (J4 (Jh (pe_op J1l (pe_op J1l (pe_op J19 (pe_op op_mul Jd (pv 2)) (pv 3)) Jd) (pv 1)))) Jn)
        (J4 (Ji (i := 2) scOtherL.nd rfl (Or.inl rfl) (pe_op J19 (pv 2) (pv 3))))))
      (J4 (Jh (pv 1))))), ?_⟩
    have gd := g.good hs;have O := gd.ord;have lb : (iV bs).length = bs.length := length_map ..;have inr := O.whole;refine ⟨_, rfl, p, rfl, ⟨_, SqL.of hp⟩, J2k (K := K) (a := p) (xs := iV bs) (fun i σ H2 => ∃ v, σ = [some (.ref p), some (.int x), some (.int (Jo bs (List.range bs.length) i)), v] /\ H = H2 /\ Jo bs (List.range bs.length) i <= x)
      ⟨none, rfl, rfl, by rw [J11]; exact x0⟩ (fun i σ H2 _ ⟨_, _, e, _⟩ => by rw [<- e]; exact SqL.of hp) ?_ ?_⟩
    · rintro i v0 σ _ hv ⟨v, rfl, rfl, hx⟩
      have hi : i < bs.length := by
        have := (List.getElem?_eq_some_iff.mp hv).1;rw [lb] at this; exact this
      rw [J1a hi] at hv;cases hv;have st : Jo bs (List.range bs.length) (i + 1) = Jo bs (List.range bs.length) i + bs.getD i 0 := by rw [J18, J28 hi]
      refine ⟨_, rfl, _, rfl, _, rfl, _, _, rfl, rfl, _, _, rfl, rfl, _, rfl, ?_⟩;by_cases c : x < Jo bs (List.range bs.length) i + bs.getD i 0
      · refine iteDT c ?_
        have e := arch_eq O (arch_lies O hi hx c);refine ⟨_, rfl, _, _, rfl, rfl, .inl ⟨by decide, by decide⟩, _, rfl, _, _, rfl, rfl, _, _, rfl, rfl, _, rfl, _, _, rfl, rfl, ?_⟩;have kq := k H (Same.refl _);unfold gT at kq;rw [e] at kq;exact kq
      · refine iteD c ?_
        exact ⟨_, rfl, _, rfl, _, _, rfl, rfl, _, (by rw [st]; rfl), rfl, by omega⟩
    · rintro σ _ ⟨v, rfl, rfl, hx⟩
      exfalso;rw [lb] at hx;omega
def sideB (side:Int) (as bs:List Int):List Int:=if side=0 then as else bs
def spAskA (CO C CH CR CAr:Addr) (cs:Kd->Addr):Sp:=fun vs H Q E=>∃ (side:Int) (y:Addr) (as bs:List Int) (x:Int),vs=[.int side,.ref y,.int x]/\ArAt C CH CR CAr cs H y as bs/\GoodA as bs/\(∀ (j:Nat) H',Same H H'->Lies (startsN (sideB side as bs)) (sideB side as bs) x j->Q (endV (sideB side as bs) x) H')/\(¬ (0<=x/\x < as.sum)->∀ H',Same H H'->E (.ref CO) none H')
theorem scAskA:FnScope ["side","arches","x"] ["side","arches","x"] (J6 sAsk):=fS
theorem ok_askA {f fAA fAB C CH CR CAr CO:Addr} {fd fdAA fdAB:FuncData} {cs:Kd->Addr} (F:Fun K "_law_ask" "_law_ask" sAsk f fd)
  (GAA:FnOk P w K mg base (Exc1 P w) 7 fAA fdAA ["arches","x"] (spArchS CO C CH CR CAr cs true)) (bAA:Binds K fdAA ["arches","x"] []) (mAA:mg "arch_above"=some (.ref fAA)) (kAA:keepIn K (.ref fAA)=true)
  (GAB:FnOk P w K mg base (Exc1 P w) 7 fAB fdAB ["arches","x"] (spArchS CO C CH CR CAr cs false)) (bAB:Binds K fdAB ["arches","x"] []) (mAB:mg "arch_below"=some (.ref fAB)) (kAB:keepIn K (.ref fAB)=true) :
  FnOk P w K mg base (Exc1 P w) 8 f fd ["side","arches","x"] (spAskA CO C CH CR CAr cs):=by
 refine F.okX scAskA (fun vs H Q E h=>?_) (fun cdv A outer s H vs Q E hr h=>?_)
 ·obtain ⟨side,y,as,bs,x,rfl,_⟩:=h;rfl
 ·obtain ⟨side,y,as,bs,x,rfl,A,G,k,kx⟩:=h;have hr7:Room 7 _:=rm hr;refine ⟨_,(J1 (ps_if (Jl op_eq (pv 0) Jd (Jp _)) (J4 (Jh (Jc GAA hr7 rfl mAA kAA bAA .nil pass1 (J0 (pv 1) (J0 (pv 2) J3))))) Jn)
   (J4 (Jh (Jc GAB hr7 rfl mAB kAB bAB .nil pass1 (J0 (pv 1) (J0 (pv 2) J3)))))),?_⟩
  refine ⟨_,rfl,rfl,_,rfl,?_⟩;unfold sideB at k;by_cases c:side=0
  ·rw [if_pos c] at k;exact iteDT (congrArg V.int c) ⟨_,rfl,_,rfl,y,as,bs,x,rfl,A,G,fun j H' s l=>k j H' s l,fun n H' s=>kx n H' s⟩
  ·rw [if_neg c] at k;exact iteD (J1p c) ⟨_,rfl,_,rfl,y,as,bs,x,rfl,A,G,fun j H' s l=>k j H' s l,fun n H' s=>kx n H' s⟩
def J51 (C CH CR CAr:Addr) (cs:Kd->Addr):Sp:=fun vs H Q _=>∃ (side:Int) (y:Addr) (as bs:List Int) (x:Int),vs=[.int side,.ref y,.int x]/\ArAt C CH CR CAr cs H y as bs/\GoodA as bs/\¬ (0<=x/\x < as.sum)/\(∀ j,¬ Lies (startsN (sideB side as bs)) (sideB side as bs) x j)/\∀ H',Same H H'->Q (.bl true) H'
structure Tx52 (K:PySem.W.Frag) (mg:Str->Option Value) (CL CO:Addr):Prop where
 isi:mg "isinstance"=none
 ml:mg "LineError"=some (.ref CL)
 mo:mg "Outside"=some (.ref CO)
 xl:exmOne K (.ref CO) (.ref CL)=some true
 xc:XCls K CO
 ko:kitOne K (.ref CO) (.ref CO)=some true
theorem scRefusedO:FnScope ["side","arches","x","found","e"] ["side","arches","x"] (J6 J5x):=fS
theorem ok_refusedO {f fAk C CH CR CAr CO CL:Addr} {fd fdAk:FuncData} {cs:Kd->Addr} (F:Fun K "_law_refused" "_law_refused" J5x f fd) (TX:Tx52 K mg CL CO)
  (GAk:FnOk P w K mg base (Exc1 P w) 8 fAk fdAk ["side","arches","x"] (spAskA CO C CH CR CAr cs)) (bAk:Binds K fdAk ["side","arches","x"] []) (mAk:mg "_law_ask"=some (.ref fAk)) (kAk:keepIn K (.ref fAk)=true) :
  FnOk P w K mg base CX0 9 f fd ["side","arches","x"] (J51 C CH CR CAr cs):=by
 refine F.ok scRefusedO (fun vs H Q E h=>?_) (fun cdv A outer s H vs Q E hr h=>?_)
 ·obtain ⟨side,y,as,bs,x,rfl,_⟩:=h;rfl
 ·obtain ⟨side,y,as,bs,x,rfl,A,G,n,nl,k⟩:=h;have hr8:Room 8 _:=rm hr;refine ⟨_,(J1 (Ji (i:=3) scRefusedO.nd rfl (Or.inl rfl) pe_non)
   (J1 (ps_tryc (i:=4) GAk hr8 rfl mAk kAk bAk .nil (J0 (pv 0) (J0 (pv 1) (J0 (pv 2) J3))) rfl rfl rfl TX.ml scRefusedO.nd rfl rfl (fun ea=>J4 (Ji (i:=3) scRefusedO.nd rfl (Or.inl rfl) (pv 4))))
   (J4 (Jh (Je (call_isany rfl) (by rfl) TX.isi boot_isinstance (J0 (pv 3) (J0 (J5a (v:=.ref CO) rfl TX.mo rfl) J3))))))),?_⟩
  refine ⟨_,rfl,_,rfl,_,rfl,side,y,as,bs,x,rfl,A,G,fun j H' s l=>absurd l (nl j),fun _ H1 s1=>⟨TX.xl,fun ea hea=>?_⟩⟩;refine ⟨_,rfl,?_⟩;exact ⟨_,rfl,ea,CO,.ref CO,.ref CO,true,rfl,rfl,fun v h=>h,J2,TX.xc,TX.ko,k _ (s1.trans (J7 hea))⟩
def spRightA (C CH CR CAr:Addr) (cs:Kd->Addr):Sp:=fun vs H Q _=>∃ (side:Int) (y p:Addr) (as bs:List Int) (x:Int),vs=[.int side,.ref y,.ref p,.int x]/\ArAt C CH CR CAr cs H y as bs/\GoodA as bs/\H p=some (.lst (iV (sideB side as bs)))/\0<=x/\x < as.sum/\∀ H',Same H H'->Q (.bl true) H'
theorem J55 {side:Int} {as bs:List Int} (G:GoodA as bs):GoodB (sideB side as bs)/\(sideB side as bs).sum=as.sum:=by
 unfold sideB;split
 ·exact ⟨G.a,rfl⟩
 ·exact ⟨G.b,G.eq.symm⟩
theorem ArAt.same {C CH CR CAr:Addr} {cs:Kd->Addr} {H H':Hp} {y:Addr} {as bs:List Int} (A:ArAt C CH CR CAr cs H y as bs) (s:Same H H'):ArAt C CH CR CAr cs H' y as bs:=by
 obtain ⟨dy,fs,pa,pb,xl,xc,ls,os,ts,h0,fA,fB,fZ,fL,fC,hpa,hpb,L,gd,tl,pg,le,cb⟩:=A.ex;obtain ⟨dc,fc,pr,pd,xb,m,c0,c1,c2,c3,c4,lg,tp,r⟩:=cb.ex;exact ⟨dy,fs,pa,pb,xl,xc,ls,os,ts,s _ _ h0,fA,fB,fZ,fL,fC,s _ _ hpa,s _ _ hpb,L.same s,gd,tl,pg,le,⟨dc,fc,pr,pd,xb,m,s _ _ c0,c1,c2,c3,s _ _ c4,lg,tp,r.mono fun q i _ a=>s _ _ a⟩⟩
theorem scRightL:FnScope ["side","arches","blocks","x","due","found"] ["side","arches","blocks","x"] (J6 sRightL):=fS
theorem ok_rightA {f fOt fAk fW C CH CR CAr CO:Addr} {fd fdOt fdAk fdW:FuncData} {cs:Kd->Addr} (F:Fun K "_law_right" "_law_right" sRightL f fd)
  (GOt:FnOk P w K mg base CX0 1 fOt fdOt ["blocks","x"] J5r) (bOt:Binds K fdOt ["blocks","x"] []) (mOt:mg "_law_other"=some (.ref fOt)) (kOt:keepIn K (.ref fOt)=true)
  (GAk:FnOk P w K mg base (Exc1 P w) 8 fAk fdAk ["side","arches","x"] (spAskA CO C CH CR CAr cs)) (bAk:Binds K fdAk ["side","arches","x"] []) (mAk:mg "_law_ask"=some (.ref fAk)) (kAk:keepIn K (.ref fAk)=true)
  (GW:FnOk P w K mg base CX0 1 fW fdW ["found"] spWhole) (bW:Binds K fdW ["found"] []) (mW:mg "_law_whole"=some (.ref fW)) (kW:keepIn K (.ref fW)=true) :
  FnOk P w K mg base CX0 9 f fd ["side","arches","blocks","x"] (spRightA C CH CR CAr cs):=by
 refine F.ok scRightL (fun vs H Q E h=>?_) (fun cdv A outer s H vs Q E hr h=>?_)
 ·obtain ⟨side,y,p,as,bs,x,rfl,_⟩:=h;rfl
 ·obtain ⟨side,y,p,as,bs,x,rfl,A,G,hp,x0,x1,k⟩:=h;have hr1:Room 1 _:=rm hr;have hr8:Room 8 _:=rm hr;refine ⟨_,(J1 (Ji (i:=4) scRightL.nd rfl (Or.inl rfl) (Jc GOt hr1 rfl mOt kOt bOt .nil pass0 (J0 (pv 2) (J0 (pv 3) J3))))
   (J1 (Ji (i:=5) scRightL.nd rfl (Or.inl rfl) (Jc GAk hr8 rfl mAk kAk bAk .nil passF (J0 (pv 0) (J0 (pv 1) (J0 (pv 3) J3)))))
   (J1 (ps_if (Jl op_eq (pv 4) (pv 3) (Jp _)) (J4 (Jh (J2q op_isN (pv 5) pe_non (Jp _)))) Jn)
   (J4 (Jh (pe_and (Jc GW hr1 rfl mW kW bW .nil pass0 (J0 (pv 5) J3)) (pe_and (J2q op_eq (pv 5) (pv 4) (Jp _)) (pe_one (J2q op_eq (Jc GAk hr8 rfl mAk kAk bAk .nil passF (J0 (pv 0) (J0 (pv 1) (J0 (pv 5) J3)))) (pv 3) (Jp _)))))))))),?_⟩
  obtain ⟨gB,eS⟩:=J55 (side:=side) G;have le:(sideB side as bs).sum<=10 ^ 30:=by rw [eS];exact G.le
  have O:=(gB.good le).ord;have x1':x < (sideB side as bs).sum:=by rw [eS];exact x1
  refine ⟨_,rfl,_,rfl,p,_,x,rfl,hp,gB,le,x0,x1',fun H1 s1=>?_⟩;refine ⟨_,rfl,_,rfl,_,rfl,side,y,as,bs,x,rfl,A.same s1,G,fun j H2 s2 lies=>?_,fun n=>absurd ⟨x0,x1⟩ n⟩;have s12:=s1.trans s2;have q2:=J5h (ts:=List.replicate (sideB side as bs).length true) O lies;have bk:=arch_back O lies;have b2:=gL_in (ts:=List.replicate (sideB side as bs).length true) O x0 x1';rw [eS] at b2;refine ⟨_,rfl,_,rfl,rfl,_,rfl,?_⟩;unfold endV;by_cases c:gT (sideB side as bs) x=x
  ·refine iteDT (congrArg V.int c) ?_;rw [if_pos c];refine ⟨_,rfl,rfl,?_⟩;rw [decide_eq_true rfl];exact k _ s12
  ·refine iteD (J1p c) ?_;rw [if_neg c];refine ⟨_,rfl,_,rfl,true,rfl,iteT ?_⟩;refine ⟨_,rfl,_,rfl,rfl,_,rfl,iteDT rfl ?_⟩;refine ⟨_,rfl,_,rfl,_,rfl,side,y,as,bs,gT (sideB side as bs) x,rfl,A.same s12,G,fun j2 H3 s3 lies2=>?_,fun n=>absurd b2 n⟩;have e:endV (sideB side as bs) (gT (sideB side as bs) x)=.int x:=by
    unfold endV;have e2:gT (sideB side as bs) (gT (sideB side as bs) x)=x:=bk;rw [e2,if_neg (fun z=>c z.symm)]
   rw [e];refine ⟨_,rfl,rfl,?_⟩;rw [decide_eq_true rfl];exact k _ (s12.trans s3)
structure PlainL (ls:List Int) (os:List Nat) (ts:List Bool):Prop where
 one:∀ j,j < ls.length->ls.getD j 0=1->ts.getD j false=false
 cut:∀ j,1<=j->j < ls.length->¬ near (gL ls os ts (Jo ls (List.range ls.length) j)) (gL ls os ts (Jo ls (List.range ls.length) j - 1))
theorem repS_tus {g:Int->Int}:∀ {S:List Sr} {a b:Int},RepS g a S b->∀ s∈S,s.tu=true->1 < s.le
 | [],_,_,_,s,h=>by cases h
 | t :: r,a,b,⟨h1,_,h3⟩,s,h=>by
  rcases mem_cons.mp h with rfl | h
  ·exact h1.tu
  ·exact repS_tus h3 s h
theorem plG_plainL {g k:Int->Int} {N:Int} {ls:List Int} {os:List Nat} {ts:List Bool} (h:PlG g N ls os ts) (b:Bij N g k):PlainL ls os ts:=by
 have O:=h.ord;have go:=h.goes b;have sm:=h.sum;obtain ⟨L,R,e1,e2,P⟩:=h.ex;have ow:=R.own b.inj b.inn P.perm P.srt;rw [<- e1,<- e2] at ow;have hl:ls.length=L.length:=by rw [e1,length_map]
 refine ⟨fun j hj e=>?_,fun j j1 hj=>?_⟩
 ·have hj':j < L.length:=by omega
  have a1:ls.getD j 0=L[j].le:=by rw [e1,getD_eq_getElem?_getD,getElem?_map,List.getElem?_eq_getElem hj'];rfl
  have a2:ts.getD j false=L[j].tu:=by rw [e2,getD_eq_getElem?_getD,getElem?_map,List.getElem?_eq_getElem hj'];rfl
  rw [a2]
  cases c:L[j].tu with
  | false=>rfl
  | true=>have:=repS_tus R _ (List.getElem_mem hj') c;omega
 ·have s:=start_in O j1 hj;rw [sm] at s;rw [go _ (by omega) s.2,go _ (by omega) (by omega)];refine (R.cuts _ s.1 s.2).mp ?_;rw [<- ow];unfold bndS;refine mem_map.mpr ⟨srO ls os ts j,mem_of_getElem? (i:=j - 1) ?_,J17 O hj⟩;unfold srsL;rw [List.getElem?_drop,show 1 + (j - 1)=j by omega,getElem?_map,getElem?_range hj];rfl
def spPlainL (C:Addr):Sp:=fun vs H Q _=>∃ (x:Addr) (ls:List Int) (os:List Nat) (ts:List Bool),vs=[.ref x]/\LineAt C H x ls os ts/\Good ls os/\ts.length=ls.length/\PlainL ls os ts/\∀ H',Same H H'->Q (.bl true) H'
theorem abs_near9 (a b:Int):((if a - b < 0 then -(a - b) else a - b)=1)↔near a b:=by
 unfold near;split <;> omega
theorem scPlainL:FnScope ["line","k","begin"] ["line"] (J6 sLPlain):=fS
theorem ok_plainL {f fGG C CO:Addr} {fd fdGG:FuncData}  (F:Fun K "_law_plain" "_law_plain" sLPlain f fd) (T:TxtR mg) (TC:TxtC K mg C) (habs:mg "abs"=none)
  (GGG:FnOk P w K mg base (Exc1 P w) 3 fGG fdGG ["line","x"] (spGoes CO C)) (bGG:Binds K fdGG ["line","x"] []) (mGG:mg "goes"=some (.ref fGG)) (kGG:keepIn K (.ref fGG)=true) :
  FnOk P w K mg base CX0 4 f fd ["line"] (spPlainL C):=by
 refine F.ok scPlainL (fun vs H Q E h=>?_) (fun cdv A outer s H vs Q E hr h=>?_)
 ·obtain ⟨x,ls,os,ts,rfl,_⟩:=h;rfl
 ·obtain ⟨x,ls,os,ts,rfl,L,G,tl,PL,k⟩:=h;have hr3:Room 3 _:=rm hr;refine ⟨_,(J1 (J34 PassesOwn.never rfl (J4j rfl T.range (J0 (Je Jf (by rfl) T.len boot_len (J0 (Ja (pv 0) rfl) J3)) J3)) (J1g (i:=1) scPlainL.nd rfl (Or.inl rfl))
    (J1 (J1z (ps_if (PW.pt (pw_and (Jl op_eq (pe_ix Js (Ja (pv 0) rfl) (pv 1) (fun _ _=>rfl)) Jd (Jp _)) (pw_and1 (J2p (pe_ix Js (Ja (pv 0) rfl) (pv 1) (fun _ _=>rfl)))))) (J4 (Jh pe_bl)) Jn))
    (J1 (Ji (i:=2) scPlainL.nd rfl (Or.inl rfl) (pe_ix Js (Ja (pv 0) rfl) (pv 1) (fun _ _=>rfl)))
    (J4 (ps_if (PW.pt (pw_and (Jl op_gt (pv 1) Jd (Jp _)) (pw_and1 (Jl op_eq (Je call_abs (by rfl) habs boot_abs (J0 (pe_op J1l (Jc GGG hr3 rfl mGG kGG bGG .nil passF (J0 (pv 0) (J0 (pv 2) J3))) (Jc GGG hr3 rfl mGG kGG bGG .nil passF (J0 (pv 0) (J0 (pe_op J1l (pv 2) Jd) J3)))) J3)) Jd (Jp _))))) (J4 (Jh pe_bl)) Jn)))))
   (J4 (Jh pe_bl))),?_⟩
  obtain ⟨dx,fl,pl,po,pt,ps,pd,h0,⟨k1,k2,k3,k4,k5,k6⟩,e1,e2,e3,e4,e5⟩:=L.ex;have O:=G.ord;have sm:=Jq (n:=100) (by decide);have hi24:=G.hi;have ll:(iV ls).length=ls.length:=length_map ..;refine ⟨_,rfl,x,C,dx,fl,_,rfl,h0,TC.cl,TC.nL,k1,pl,_,rfl,.inr (SqT.of e1),(ls.length:Int),by rw [ll],by omega,by omega,for_range (lo:=0) (n:=ls.length) (fun i σ H2=>∃ v1 v2,σ=[some (.ref x),v1,v2]/\Same H H2) ⟨none,none,rfl,Same.refl _⟩ ?_ ?_⟩
  ·rintro i σ H2 hi ⟨v1,v2,rfl,s2⟩;rw [Int.zero_add];refine ⟨fun σ' H'=>σ'=[some (.ref x),some (.int (i:Int)),v2]/\H2=H',?_,?_⟩
   ·refine ⟨_,rfl,x,C,dx,fl,_,rfl,s2 _ _ h0,TC.cl,TC.nL,k1,_,rfl,pl,_,_,_,rfl,rfl,SqT.of (s2 _ _ e1),Jj (J1a hi),rfl,_,rfl,?_⟩;by_cases c:ls.getD i 0=1
    ·refine iteDT (congrArg V.int c) ⟨_,rfl,x,C,dx,fl,_,rfl,s2 _ _ h0,TC.cl,TC.nT,k3,_,rfl,pt,_,_,_,rfl,rfl,SqT.of (s2 _ _ e3),Jj (J4w (by rw [tl];exact hi)),_,rfl,?_⟩;rw [PL.one i hi c];exact iteF ⟨rfl,rfl⟩
    ·exact iteD (J1p c) (iteF ⟨rfl,rfl⟩)
   rintro σ _ ⟨rfl,rfl⟩;have L2':=L.same s2;obtain ⟨m,em⟩:∃ m,m=Jo ls (List.range ls.length) i:=⟨_,rfl⟩;have fr:=J17 O hi;have at1:=Jj (J1a (ns:=firsts ls (List.range ls.length)) (j:=i) (by rw [J1w];exact hi));rw [fr,<- em] at at1;refine ⟨_,rfl,x,C,dx,fl,_,rfl,s2 _ _ h0,TC.cl,TC.nS,k4,_,rfl,ps,_,_,_,rfl,rfl,SqT.of (s2 _ _ e4),at1,?_⟩;refine ⟨_,rfl,_,_,rfl,rfl,_,rfl,?_⟩;by_cases c:(0:Int) < (i:Int)
   case neg=>exact iteD c (iteF ⟨_,_,rfl,s2⟩)
   have i1:1<=i:=by omega
   have ct:=PL.cut i i1 hi;obtain ⟨m0,m1⟩:=start_in O i1 hi;rw [<- em] at ct m0 m1;refine iteDT c ⟨_,rfl,_,rfl,x,ls,os,ts,m,rfl,L2',G,tl,fun j H3 s3 lies=>?_,fun n=>absurd ⟨by omega,m1⟩ n⟩;rw [<- gL_eq (ts:=ts) O lies];refine ⟨_,rfl,_,rfl,_,_,rfl,rfl,x,ls,os,ts,m - 1,rfl,L2'.same s3,G,tl,fun j' H4 s4 lies'=>?_,fun n=>absurd ⟨by omega,by omega⟩ n⟩;rw [<- gL_eq (ts:=ts) O lies'];refine ⟨_,_,rfl,rfl,_,rfl,rfl,_,rfl,iteD (J1p (fun z=>ct ((abs_near9 _ _).mp z))) ?_⟩;exact ⟨_,_,rfl,s2.trans (s3.trans s4)⟩
  ·rintro σ H2 ⟨v1,v2,rfl,s2⟩;exact k _ s2
end
end R52
namespace R52
open PySem L2 Rl
section
structure TxtI (K:PySem.W.Frag) (C:Addr):Prop where
 ha:findIn K (.ref C) "__class__"=some (some (.builtin "object.__class__"))
 hn:specialIn K (.builtin "object.__class__") "__get__"=some (some (.builtin "getset_descriptor.__get__"))
 ht:takesIn K (.builtin "object.__class__")=some true
 hm:mroIn K C (.type "object")=some true
theorem TxtI.ty {K:PySem.W.Frag} {C:Addr} (I:TxtI K C) (cl:Cls K C) {H:Hp} {a dx:Addr} {fs:List (Str × V)} (e:H a=some (.ins C dx fs)):TyOf K H (.ref a) (.ref C):=.ins e cl I.ha I.hn I.ht I.hm
end
section
variable {P:Program} {w:World} {K:PySem.W.Frag} {mg:Str->Option Value} {base:Heap}
def spLaw (K:PySem.W.Frag) (TB TJ:Addr):Sp:=fun vs H Q _=>∃ (a:Addr) (ns:List Int),vs=[.ref a]/\SqL K H a (ns.map V.int)/\ns.length<=63/\TabOk H TB lpLO "line_of.<locals>.<lambda>"/\TabOk H TJ lpJS "joined_stretches.<locals>.<lambda>"/\∀ H',Q (.bl true) H'
def bandS (bs:List Band):Int:=(bs.map fun b=>b.2.1 * b.2.2.1).sum
theorem bandS_app (xs ys:List Band):bandS (xs ++ ys)=bandS xs + bandS ys:=by unfold bandS;rw [map_append,sum_append]
theorem cok_sum {p:Cst} (h:Cok p):∀ {k:Nat},Long p k->wS (chN p k).1.ls (chN p k).2 (chN p k).1.top + bandS (bndN p k)=wS p.1.ls p.2 p.1.top
 | 0,_=>by show wS p.1.ls p.2 p.1.top + 0=_;omega
 | k + 1,l=>by
  have l':Long p k:=fun i hi=>l i (by omega);have ih:=cok_sum h l';have c:=h.at_ l';have st:=c.ok.stay (l k (by omega)) c.tow.len;show wS (chS (chN p k)).1.ls (chS (chN p k)).2 (chS (chN p k)).1.top + bandS (bndN p k ++ bndB (chN p k))=_;have st':wS (chS (chN p k)).1.ls (chS (chN p k)).2 (chS (chN p k)).1.top + (if (nextN (chN p k).1).isHome=true then (chN p k).1.ls.getD (nextN (chN p k).1).winner 0 * (chN p k).2.getD (nextN (chN p k).1).winner 0 else 0)=wS (chN p k).1.ls (chN p k).2 (chN p k).1.top:=st;rw [bandS_app,<- ih,<- st'];unfold bndB;by_cases c:(nextN (chN p k).1).isHome=true
  ·rw [if_pos c,if_pos c];show _ + (_ + (((chN p k).1.ls.getD (nextN (chN p k).1).winner 0 * (chN p k).2.getD (nextN (chN p k).1).winner 0) + 0))=_;omega
  ·rw [if_neg c,if_neg c];show _ + (_ + 0)=_;omega
theorem bndN_big {p:Cst} (h:Cok p):∀ {m:Nat},Long p m->∀ b∈bndN p m,CBig b.2.1 b.2.2.1
 | 0,_,b,hb=>by cases hb
 | m + 1,l,b,hb=>by
  have hb:b∈bndN p m ++ bndB (chN p m):=hb;have l':Long p m:=fun i hi=>l i (by omega);rcases mem_append.mp hb with hb | hb
  ·exact bndN_big h l' b hb
  ·unfold bndB at hb;split at hb
   ·rw [mem_singleton.mp hb];have c:=h.at_ l';have ne:=l m (by omega);have wj:=(nextP c.ok ne).win c.ok ne;have b1:=c.ok.row.pos _ wj;have b2:=c.tow.pos _ wj;have b3:=c.tow.le c.ok wj;have b4:=c.ok.le_size wj;have b5:=c.size30;have e:(10:Nat) ^ 30 < 2 ^ 4000:=by decide
    exact ⟨Nat.lt_of_le_of_lt (show ((chN p m).1.ls.getD (nextN (chN p m).1).winner 0).natAbs<=10 ^ 30 by omega) e,Nat.lt_of_le_of_lt (show ((chN p m).2.getD (nextN (chN p m).1).winner 0).natAbs<=10 ^ 30 by omega) e⟩
   ·cases hb
theorem bands_all {ls:List Int} {os:List Nat} {ts:List Bool} (G:Good ls os) (tl:ts.length=ls.length) {m:Nat} (lg:Long (J1o ls os ts) m) (tp:(chN (J1o ls os ts) m).1.top=[]):bandS (bndN (J1o ls os ts) m)=ls.sum/\(∀ b∈bndN (J1o ls os ts) m,CBig b.2.1 b.2.2.1)/\(bndN (J1o ls os ts) m).length<=6367451:=by
 have ok0:(J3r ls os ts).Ok:=whole_ok G.perm G.pos tl G.hi;have z0:(J3r ls os ts).size<=10 ^ 30:=by rw [ok0.size_sum];exact G.sum
 have cok0:Cok (J1o ls os ts):=whole_cok ok0 z0;have sum0:wS (J1o ls os ts).1.ls (J1o ls os ts).2 (J1o ls os ts).1.top=ls.sum:=by
  show wS ls (List.replicate ls.length 1) (List.range ls.length)=_;rw [fS_ones (fun j hj=>mem_range.mp hj)];exact whole_size ls os ts
 have s:=cok_sum cok0 lg;rw [sum0,tp] at s;have w0:wS (chN (J1o ls os ts) m).1.ls (chN (J1o ls os ts) m).2 []=0:=rfl;rw [w0] at s;refine ⟨by omega,bndN_big cok0 lg,?_⟩;have:=cok0.few lg;have:=J6g (J1o ls os ts) m;omega
theorem mid_in:∀ (as:List Int) (i:Nat),(∀ a∈as,1<=a)->i < as.length->0<=(as.take i).sum/\(as.take i).sum + as.getD i 0<=as.sum/\1<=as.getD i 0
 | [],i,_,hi=>absurd hi (Nat.not_lt_zero _)
 | b :: r,0,h,_=>by
  have p:=h b (mem_cons_self ..);have q:∀ (r:List Int),(∀ a∈r,1<=a)->0<=r.sum:=fun r=>by
   induction r with
   | nil=>intro _;exact Int.le_refl _
   | cons c r ih=>intro h;have:=ih fun a ha=>h a (mem_cons_of_mem _ ha);have:=h c (mem_cons_self ..);rw [sum_cons];omega
  have:=q r fun a ha=>h a (mem_cons_of_mem _ ha);show 0<=(0:Int)/\0 + b<=(b :: r).sum/\1<=b;rw [sum_cons];omega
 | b :: r,i + 1,h,hi=>by
  have p:=h b (mem_cons_self ..);have ih:=mid_in r i (fun a ha=>h a (mem_cons_of_mem _ ha)) (Nat.lt_of_succ_lt_succ hi);show 0<=(b :: r.take i).sum/\(b :: r.take i).sum + r.getD i 0<=(b :: r).sum/\1<=r.getD i 0;rw [sum_cons,sum_cons];omega
theorem half_in {as:List Int} (h:∀ a∈as,1<=a) {i:Nat} (hi:i < as.length):0<=(as.take i).sum + as.getD i 0 / 2/\(as.take i).sum + as.getD i 0 / 2 < as.sum:=by
 have:=mid_in as i h hi;omega
theorem cutV_toA (xs:List V) (n:Nat) (h:n<=xs.length):cutV xs none (some (n:Int))=xs.take n:=by
 unfold cutV;rw [HT.sIx_nat,HT.sIx_none,Nat.min_eq_left h,List.drop_zero,Nat.sub_zero]
theorem keepT_seq {K:PySem.W.Frag} {x a:Addr} {H H':Hp} {xs:List V} {dx CX:Addr} {fs:List (Str × V)} (hx:H x=some (.ins CX dx fs)) (kT:KeepT x H H') (h:SqL K H a xs):SqL K H' a xs:=by
 rcases h with (h | ⟨o,h⟩) | h
 ·exact .inl (.inl (kT _ _ h (fun e=>by rw [e,hx] at h;cases h) rfl))
 ·exact .inl (.inr ⟨o,kT _ _ h (fun e=>by rw [e,hx] at h;cases h) rfl⟩)
 ·exact .inr h
theorem no_lies {side:Int} {as bs:List Int} (G:GoodA as bs) {x:Int} (n:¬ (0<=x/\x < as.sum)):∀ j,¬ Lies (startsN (sideB side as bs)) (sideB side as bs) x j:=fun j q=>by
 obtain ⟨gB,eS⟩:=J55 (side:=side) G;have O:=(gB.good (show (sideB side as bs).sum<=10 ^ 30 by rw [eS];exact G.le)).ord;have:=O.range.inside q;rw [eS] at this;exact n this
theorem J69 {K:PySem.W.Frag} {H:Hp} {p:Addr} {xs:List V} {Q:VK} (h:H p=some (.tup xs)) (kn:Kin xs xs) (k:Q (.bl false) H):rNeT K (.ref p) (.ref p) H Q :=
 ⟨p,p,xs,xs,rfl,rfl,SqT.of h,SqT.of h,kn,by rw [decide_eq_true rfl];exact k⟩
theorem range_bands (bn:List Band):((List.range bn.length).map fun i=>(bn.getD i bz).2.1 * (bn.getD i bz).2.2.1).sum=bandS bn:=by
 unfold bandS
 congr 1
 refine List.ext_getElem (by simp) fun i h1 h2=>?_;have hi:i < bn.length:=by simpa using h2
 rw [List.getElem_map,List.getElem_map,List.getElem_range,getD_eq_getElem?_getD,List.getElem?_eq_getElem hi];rfl
theorem two_goes {as bs ls:List Int} {os:List Nat} {ts:List Bool} (G:GoodA as bs) (pg:PlG (fun y=>gT bs (gT as y)) as.sum ls os ts):(∀ x,0<=x->x < as.sum->gL ls os ts x=gT bs (gT as x))/\PlainL ls os ts:=by
 have b1:=J2j (ts:=List.replicate as.length true) (G.a.good G.le).ord;have b2:=J2j (ts:=List.replicate bs.length true) (G.b.good (show bs.sum<=10 ^ 30 by rw [<- G.eq];exact G.le)).ord;rw [<- G.eq] at b2;exact ⟨pg.goes (b1.comp b2),plG_plainL pg (b1.comp b2)⟩
theorem scLaw:FnScope ["script","drawn","arches","size","at","middle","low","other","asked","x","found","far","told","cut"] ["script"] (J6 sLaw):=fS
theorem ok_law {f fC fLA fRf fAR fW fRi fOt fGG fPl C CH CR CAr CB TB TJ CO:Addr} {fd fdC fdLA fdRf fdAR fdW fdRi fdOt fdGG fdPl:FuncData} {cs:Kd->Addr} (F:Fun K "law" "law" sLaw f fd) (T:TxtR mg) (TA:TxtAr K CAr) (TC:TxtC K mg C) (TH:TxtCh K CH) (TI:TxtI K C) (hisi:mg "isinstance"=none) (mgL:mg "Line"=some (.ref C)) (ktL:kitOne K (.ref C) (.ref C)=some true)
  (GC:FnOk P w K mg base CX0 1 fC fdC ["script","k"] (spCell K)) (bC:Binds K fdC ["script","k"] []) (mC:mg "_law_cell"=some (.ref fC)) (kC:keepIn K (.ref fC)=true)
  (GLA:FnOk P w K mg base CX0 2 fLA fdLA ["script","spans"] (spArchesL K)) (bLA:Binds K fdLA ["script","spans"] []) (mLA:mg "_law_arches"=some (.ref fLA)) (kLA:keepIn K (.ref fLA)=true)
  (GRf:FnOk P w K mg base CX0 9 fRf fdRf ["side","arches","x"] (J51 C CH CR CAr cs)) (bRf:Binds K fdRf ["side","arches","x"] []) (mRf:mg "_law_refused"=some (.ref fRf)) (kRf:keepIn K (.ref fRf)=true)
  (MAR:Mk K CAr fAR) (GAR:FnOk P w K mg base (Exc1 P w) 8 fAR fdAR ["self","above","below"] (spArInit C CH CR CAr CB TB TJ cs)) (bAR:Binds K fdAR ["self","above","below"] []) (mgAR:mg "Arches"=some (.ref CAr))
  (GW:FnOk P w K mg base CX0 1 fW fdW ["found"] spWhole) (bW:Binds K fdW ["found"] []) (mW:mg "_law_whole"=some (.ref fW)) (kW:keepIn K (.ref fW)=true)
  (GRi:FnOk P w K mg base CX0 9 fRi fdRi ["side","arches","blocks","x"] (spRightA C CH CR CAr cs)) (bRi:Binds K fdRi ["side","arches","blocks","x"] []) (mRi:mg "_law_right"=some (.ref fRi)) (kRi:keepIn K (.ref fRi)=true)
  (GOt:FnOk P w K mg base CX0 1 fOt fdOt ["blocks","x"] J5r) (bOt:Binds K fdOt ["blocks","x"] []) (mOt:mg "_law_other"=some (.ref fOt)) (kOt:keepIn K (.ref fOt)=true)
  (GGG:FnOk P w K mg base (Exc1 P w) 3 fGG fdGG ["line","x"] (spGoes CO C)) (bGG:Binds K fdGG ["line","x"] []) (mGG:mg "goes"=some (.ref fGG)) (kGG:keepIn K (.ref fGG)=true)
  (GPl:FnOk P w K mg base CX0 4 fPl fdPl ["line"] (spPlainL C)) (bPl:Binds K fdPl ["line"] []) (mPl:mg "_law_plain"=some (.ref fPl)) (kPl:keepIn K (.ref fPl)=true) :
  FnOk P w K mg base CX0 10 f fd ["script"] (spLaw K TB TJ):=by
 refine F.ok scLaw (fun vs H Q E h=>?_) (fun cdv A outer s H vs Q E hr h=>?_)
 ·obtain ⟨a,ns,rfl,_⟩:=h;rfl
 ·obtain ⟨a,ns,rfl,hS,hlen,Tb,Tj,k⟩:=h;have hr1:Room 1 _:=rm hr;have hr2:Room 2 _:=rm hr;have hr3:Room 3 _:=rm hr;have hr4:Room 4 _:=rm hr;have hr9:Room 9 _:=rm hr;have hu1:=hu_of hr;refine ⟨_,(J1 (Ji (i:=1) scLaw.nd rfl (Or.inl rfl) (Jc GLA hr2 rfl mLA kLA bLA .nil pass0 (J0 (pv 0) (J0 (J1t (J0 Jd (J0 Jd (J0 Jd (J0 (pe_op op_pow Jd Jd) J3))))) J3))))
   (J1 (Ji (i:=2) scLaw.nd rfl (Or.inl rfl) (J16 MAR GAR hr9 rfl mgAR bAR .nil passF (J0 (Jk J2l (by rfl) T.list boot_list (J0 (pe_ix Js (pv 1) Jd (fun _ _=>rfl)) J3)) (J0 (Jk J2l (by rfl) T.list boot_list (J0 (pe_ix Js (pv 1) Jd (fun _ _=>rfl)) J3)) J3))))
   (J1 (Ji (i:=3) scLaw.nd rfl (Or.inl rfl) (Je (Jx rfl) (by rfl) T.sum boot_sum (J0 (pe_ix Js (pv 1) Jd (fun _ _=>rfl)) J3)))
   (J1 (J1z (Ji (i:=4) scLaw.nd rfl (Or.inl rfl) (pe_op J2d (Je (Jx rfl) (by rfl) T.sum boot_sum (J0 (pv 0) J3)) (Je Jf (by rfl) T.len boot_len (J0 (pe_ix Js (pv 1) Jd (fun _ _=>rfl)) J3)))))
   (J1 (J1z (Ji (i:=5) scLaw.nd rfl (Or.inl rfl) (pe_op J19 (Je (Jx rfl) (by rfl) T.sum boot_sum (J0 (J3h sl_list (pe_ix Js (pv 1) Jd (fun _ _=>rfl)) J57 (J56 (pv 4))) J3)) (pe_op J32 (pe_ix J2s (pe_ix Js (pv 1) Jd (fun _ _=>rfl)) (pv 4) (fun _ _=>rfl)) Jd))))
   (J1 (J1z (Ji (i:=6) scLaw.nd rfl (Or.inl rfl) (pe_op J2d (Je (Jx rfl) (by rfl) T.sum boot_sum (J0 (pv 0) J3)) (Je Jf (by rfl) T.len boot_len (J0 (pe_ix Js (pv 1) Jd (fun _ _=>rfl)) J3)))))
   (J1 (J1z (Ji (i:=7) scLaw.nd rfl (Or.inl rfl) (pe_op J19 (Je (Jx rfl) (by rfl) T.sum boot_sum (J0 (J3h sl_list (pe_ix Js (pv 1) Jd (fun _ _=>rfl)) J57 (J56 (pv 6))) J3)) (pe_op J32 (pe_ix J2s (pe_ix Js (pv 1) Jd (fun _ _=>rfl)) (pv 6) (fun _ _=>rfl)) Jd))))
   (J1 (J1z (Ji (i:=8) scLaw.nd rfl (Or.inl rfl) (J1t (J0 (pe_op J2d (pe_op J32 (Je (Jx rfl) (by rfl) T.sum boot_sum (J0 (pv 0) J3)) Jd) (pv 3)) (J0 (pe_op J2d (Jc GC hr1 rfl mC kC bC .nil pass0 (J0 (pv 0) (J0 Jd J3))) (pv 3)) (J0 (pv 5) J3))))))
   (J1 (J34 PassesOwn.never rfl (J2f (pe_op op_cat (pv 8) (J1t (J0 (pv 7) (J0 Jd (J0 (pe_op J1l (pv 3) Jd) J3)))))) (J1g (i:=9) scLaw.nd rfl (Or.inl rfl))
    (J1 (ps_if (PW.pt (pw_or (pt_not (J2p (Jc GRi hr9 rfl mRi kRi bRi .nil pass0 (J0 Jd (J0 (pv 2) (J0 (pe_ix Js (pv 1) Jd (fun _ _=>rfl)) (J0 (pv 9) J3))))))) (pw_or1 (pt_not (J2p (Jc GRi hr9 rfl mRi kRi bRi .nil pass0 (J0 Jd (J0 (pv 2) (J0 (pe_ix Js (pv 1) Jd (fun _ _=>rfl)) (J0 (pv 9) J3)))))))))) (J4 (Jh pe_bl)) Jn)
    (J1 (Ji (i:=10) scLaw.nd rfl (Or.inl rfl) (Jc GGG hr3 rfl mGG kGG bGG .nil passF (J0 (Ja (pv 2) rfl) (J0 (pv 9) J3))))
    (J4 (ps_if (PW.pt (pw_or (pt_not (J2p (Jc GW hr1 rfl mW kW bW .nil pass0 (J0 (pv 10) J3)))) (pw_or1 (Jl op_ne (pv 10) (Jc GOt hr1 rfl mOt kOt bOt .nil pass0 (J0 (pe_ix Js (pv 1) Jd (fun _ _=>rfl)) (J0 (Jc GOt hr1 rfl mOt kOt bOt .nil pass0 (J0 (pe_ix Js (pv 1) Jd (fun _ _=>rfl)) (J0 (pv 9) J3))) J3))) (Jp _))))) (J4 (Jh pe_bl)) Jn)))))
   (J1 (J1z (Ji (i:=11) scLaw.nd rfl (Or.inl rfl) (pe_op J2d (Je (Jx rfl) (by rfl) T.sum boot_sum (J0 (pv 0) J3)) (pe_op op_pow Jd Jd))))
   (J1 (J34 PassesOwn.never rfl (J2f (J1t (J0 (pv 3) (J0 (pe_op J19 (pv 3) (pv 11)) (J0 (pe_un J45 Jd) (J0 (pe_op J1l (pe_un J45 Jd) (pv 11)) J3)))))) (J1g (i:=9) scLaw.nd rfl (Or.inl rfl))
    (J4 (ps_if (PW.pt (pw_or (pt_not (J2p (Jc GRf hr9 rfl mRf kRf bRf .nil pass0 (J0 Jd (J0 (pv 2) (J0 (pv 9) J3)))))) (pw_or1 (pt_not (J2p (Jc GRf hr9 rfl mRf kRf bRf .nil pass0 (J0 Jd (J0 (pv 2) (J0 (pv 9) J3))))))))) (J4 (Jh pe_bl)) Jn)))
   (J1 (J1z (Ji (i:=9) scLaw.nd rfl (Or.inl rfl) (pe_op J2d (pe_op J32 (Je (Jx rfl) (by rfl) T.sum boot_sum (J0 (pv 0) J3)) Jd) (pv 3))))
   (J1 (Ji (i:=12) scLaw.nd rfl (Or.inl rfl) (Ja (Ja (pv 2) rfl) rfl))
   (J1 (ps_if (PW.pt (pw_or (Jl (op_neT (Nat.lt_of_succ_lt hu1)) (Ja (pv 12) rfl) (Ja (Ja (pv 2) rfl) rfl) (Jp _)) (pw_or (Jl (op_neT (Nat.lt_of_succ_lt hu1)) (Ja (pv 12) rfl) (Ja (Ja (pv 2) rfl) rfl) (Jp _)) (pw_or1 (Jl (op_neT (Nat.lt_of_succ_lt hu1)) (Ja (pv 12) rfl) (Ja (Ja (pv 2) rfl) rfl) (Jp _)))))) (J4 (Jh pe_bl)) Jn)
   (J1 (ps_if (Jl op_ne (Jc GGG hr3 rfl mGG kGG bGG .nil passF (J0 (pv 12) (J0 (pv 9) J3))) (Jc GGG hr3 rfl mGG kGG bGG .nil passF (J0 (Ja (pv 2) rfl) (J0 (pv 9) J3))) (Jp _)) (J4 (Jh pe_bl)) Jn)
   (J1 (ps_if (Jl op_ne (Je (Jx rfl) (by rfl) T.sum boot_sum (J0 (pe_lc (caps:=[]) (js:=[]) rfl (pi_tup (Ja (Ja (pv 2) rfl) rfl)) rfl (fun _ _ _ _=>J3g) (fun C fp s H=>(pe_op op_mulB (J59 (J40 K) (pv 0) Jd) (J59 (J40 K) (pv 0) Jd))) (by decide +kernel) (by decide +kernel) (by decide +kernel) (by intro p hp;cases hp)) J3)) (pv 3) (Jp _)) (J4 (Jh pe_bl)) Jn)
   (J1 (Ji (i:=13) scLaw.nd rfl (Or.inl rfl) (Ja (pv 2) rfl))
   (J4 (Jh (pe_and (Je (J30 rfl) (by rfl) hisi boot_isinstance (J0 (pv 13) (J0 (J5a (v:=.ref C) rfl mgL rfl) J3))) (pe_and (J2q op_lt (Je Jf (by rfl) T.len boot_len (J0 (Ja (pv 13) rfl) J3)) Jd (Jp _)) (pe_one (Jc GPl hr4 rfl mPl kPl bPl .nil pass0 (J0 (pv 13) J3)))))))))))))))))))))))),?_⟩
  have sm:=Jq (n:=100) (by decide);refine ⟨_,rfl,_,_,rfl,rfl,⟨by decide,by decide,by decide⟩,(by show 4<=sizeLine;omega),fun sp hsp=>?_⟩;have s1:=J7 (o:=.lst spansA) hsp;refine ⟨a,sp,ns,rfl,s1.seq hS,hlen,J2,fun p l1 l2 as bs H2 s2 hp h1 h2 n12 G=>?_⟩;have s12:=s1.trans s2;have hS2:=s12.seq hS;have Tb2:=Jv Tb s12;have Tj2:=Jv Tj s12;have ga:=G.a;have gb:=G.b;have lo1:=ga.lo;have lo2:=gb.lo;have hi1:=ga.hi;have hi2:=gb.hi;have lla:(iV as).length=as.length:=length_map ..;have llb:(iV bs).length=bs.length:=length_map ..;refine ⟨_,rfl,p,_,_,_,rfl,rfl,SqT.of hp,Jj (j:=0) rfl,l1,_,rfl,.inl (SqL.of h1),fun m1 hm1=>?_⟩;have t1:=J7 (o:=.lst (iV as)) hm1;have hp3:=t1 _ _ hp;have h23:=t1 _ _ h2;refine ⟨_,rfl,p,_,_,_,rfl,rfl,SqT.of hp3,Jj (j:=1) rfl,l2,_,rfl,.inl (SqL.of h23),fun m2 hm2=>?_⟩;have t2:=J7 (o:=.lst (iV bs)) hm2;have e1:=t2 _ _ (show upd H2 m1 (.lst (iV as)) m1=_ from J2);have e2:upd (upd H2 m1 (.lst (iV as))) m2 (.lst (iV bs)) m2=some (.lst (iV bs)):=J2;have t12:=t1.trans t2;generalize upd (upd H2 m1 (.lst (iV as))) m2 (.lst (iV bs))=H4 at *;intro x dx hx hdx hne;have s6:=(J7 (o:=.own x) hdx).trans (J7 (l:=x) (o:=.ins CAr dx []) (by rw [Jb (Ne.symm hne)];exact hx));have s26:=t12.trans s6;refine ⟨x,dx,m1,m2,as,bs,rfl,J2,.inl (s6 _ _ e1),.inl (s6 _ _ e2),J8 e1 hx,J8 e2 hx,Jv Tb2 s26,Jv Tj2 s26,fun n=>absurd G n,fun _ H7 Ar kT Tb7 Tj7=>⟨rfl,?_⟩⟩;have up:∀ {b:Addr} {u:HO},H4 b=some u->isTbl u=false->H7 b=some u:=fun {b u} e z=>kT _ _ (s6 _ _ e) (J8 e hx) z;have qp:=up (t12 _ _ hp) rfl;have r1:=up (t12 _ _ h1) rfl;have r2:=up (t12 _ _ h2) rfl;have hS7:=keepT_seq J2 kT (s26.seq hS2);clear up kT Tb7 Tj7 s26 s6 t12 e1 e2 t1 t2 hm1 hm2 h23 hp3 Tb2 Tj2 hS2 hp h1 h2 hS Tb Tj s12 s2 s1 hsp hx hdx hne;have pos:=ga.pos;have posb:=gb.pos;have c0:0<=ns.sum % (as.length:Int):=Int.emod_nonneg _ (by omega);have c1:ns.sum % (as.length:Int) < as.length:=Int.emod_lt_of_pos _ (by omega);obtain ⟨i,ei⟩:∃ i:Nat,ns.sum % (as.length:Int)=(i:Int):=⟨(ns.sum % (as.length:Int)).toNat,by omega⟩;have d0:0<=ns.sum % (bs.length:Int):=Int.emod_nonneg _ (by omega);have d1:ns.sum % (bs.length:Int) < bs.length:=Int.emod_lt_of_pos _ (by omega);obtain ⟨j,ej⟩:∃ j:Nat,ns.sum % (bs.length:Int)=(j:Int):=⟨(ns.sum % (bs.length:Int)).toNat,by omega⟩;have ei':ns.sum % ((iV as).length:Int)=(i:Int):=by rw [lla];exact ei
  have ej':ns.sum % ((iV bs).length:Int)=(j:Int):=by rw [llb];exact ej
  have hi:i < as.length:=by omega
  have hj:j < bs.length:=by omega
  obtain ⟨q0,q1⟩:=half_in pos hi;obtain ⟨w0,w1⟩:=half_in posb hj;rw [<- G.eq] at w1;refine ⟨_,rfl,p,_,_,_,rfl,rfl,SqT.of qp,Jj (j:=0) rfl,l1,as,rfl,.inl (SqL.of r1),?_⟩;refine ⟨fun σ' H'=>σ'=[some (.ref a),some (.ref p),some (.ref x),some (.int as.sum),some (.int (i:Nat)),none,none,none,none,none,none,none,none,none]/\H7=H',?_,?_⟩
  ·exact ⟨_,rfl,a,ns,rfl,.inl hS7,_,rfl,p,_,_,_,rfl,rfl,SqT.of qp,Jj (j:=0) rfl,l1,_,rfl,.inl (SqL.of r1),_,_,rfl,rfl,(by rw [lla];omega),by rw [<- ei'];rfl,rfl⟩
  rintro σ _ ⟨rfl,rfl⟩;refine ⟨fun σ' H'=>σ'=[some (.ref a),some (.ref p),some (.ref x),some (.int as.sum),some (.int (i:Nat)),some (.int ((as.take i).sum + as.getD i 0 / 2)),none,none,none,none,none,none,none,none]/\Same H7 H',?_,?_⟩
  ·refine ⟨_,rfl,p,_,_,_,rfl,rfl,SqT.of qp,Jj (j:=0) rfl,_,rfl,_,rfl,l1,_,rfl,SqL.of r1,fun d hd=>?_⟩;rw [cutV_toA _ _ (by rw [lla];omega),<- List.map_take];have u:=J7 (o:=.lst (iV (as.take i))) hd;exact ⟨d,_,rfl,.inl (SqL.of J2),_,rfl,p,_,_,_,rfl,rfl,SqT.of (u _ _ qp),Jj (j:=0) rfl,_,rfl,l1,_,_,_,rfl,rfl,SqL.of (u _ _ r1),Jj (J1a hi),_,_,rfl,rfl,⟨by decide,by decide⟩,_,_,rfl,rfl,rfl,u⟩
  rintro σ H8 ⟨rfl,s8⟩;refine ⟨fun σ' H'=>σ'=[some (.ref a),some (.ref p),some (.ref x),some (.int as.sum),some (.int (i:Nat)),some (.int ((as.take i).sum + as.getD i 0 / 2)),some (.int (j:Nat)),none,none,none,none,none,none,none]/\H8=H',?_,?_⟩
  ·exact ⟨_,rfl,a,ns,rfl,.inl (s8.seq hS7),_,rfl,p,_,_,_,rfl,rfl,SqT.of (s8 _ _ qp),Jj (j:=1) rfl,l2,_,rfl,.inl (SqL.of (s8 _ _ r2)),_,_,rfl,rfl,(by rw [llb];omega),by rw [<- ej'];rfl,rfl⟩
  rintro σ _ ⟨rfl,rfl⟩;refine ⟨fun σ' H'=>σ'=[some (.ref a),some (.ref p),some (.ref x),some (.int as.sum),some (.int (i:Nat)),some (.int ((as.take i).sum + as.getD i 0 / 2)),some (.int (j:Nat)),some (.int ((bs.take j).sum + bs.getD j 0 / 2)),none,none,none,none,none,none]/\Same H7 H',?_,?_⟩
  ·refine ⟨_,rfl,p,_,_,_,rfl,rfl,SqT.of (s8 _ _ qp),Jj (j:=1) rfl,_,rfl,_,rfl,l2,_,rfl,SqL.of (s8 _ _ r2),fun d hd=>?_⟩;rw [cutV_toA _ _ (by rw [llb];omega),<- List.map_take];have u:=J7 (o:=.lst (iV (bs.take j))) hd;have s9:=s8.trans u;exact ⟨d,_,rfl,.inl (SqL.of J2),_,rfl,p,_,_,_,rfl,rfl,SqT.of (s9 _ _ qp),Jj (j:=1) rfl,_,rfl,l2,_,_,_,rfl,rfl,SqL.of (s9 _ _ r2),Jj (J1a hj),_,_,rfl,rfl,⟨by decide,by decide⟩,_,_,rfl,rfl,rfl,s9⟩
  rintro σ H9 ⟨rfl,s9⟩;obtain ⟨x1,ex1⟩:∃ x1,x1=ns.sum / 3 % as.sum:=⟨_,rfl⟩;obtain ⟨x2,ex2⟩:∃ x2,x2=cellN ns 1 % as.sum:=⟨_,rfl⟩;obtain ⟨x3,ex3⟩:∃ x3,x3=(as.take i).sum + as.getD i 0 / 2:=⟨_,rfl⟩;obtain ⟨x4,ex4⟩:∃ x4,x4=(bs.take j).sum + bs.getD j 0 / 2:=⟨_,rfl⟩;have pS:0 < as.sum:=by omega
  have x10:0<=x1/\x1 < as.sum:=by rw [ex1];exact ⟨Int.emod_nonneg _ (by omega),Int.emod_lt_of_pos _ pS⟩
  have x20:0<=x2/\x2 < as.sum:=by rw [ex2];exact ⟨Int.emod_nonneg _ (by omega),Int.emod_lt_of_pos _ pS⟩
  rw [<- ex3] at q0 q1 ⊢;rw [<- ex4] at w0 w1 ⊢;refine ⟨fun σ' H'=>∃ la,σ'=[some (.ref a),some (.ref p),some (.ref x),some (.int as.sum),some (.int (i:Nat)),some (.int x3),some (.int (j:Nat)),some (.int x4),some (.ref la),none,none,none,none,none]/\H' la=some (.lst (iV [x1,x2,x3]))/\Same H7 H',?_,?_⟩
  ·refine ⟨_,rfl,a,ns,rfl,.inl (s9.seq hS7),_,_,rfl,rfl,⟨by decide,by decide⟩,_,rfl,_,_,rfl,rfl,pS,_,rfl,a,ns,1,rfl,s9.seq hS7,_,rfl,_,_,rfl,rfl,pS,_,rfl,(by show 3<=sizeLine;omega),fun d hd=>?_⟩;exact ⟨d,rfl,by rw [J2,ex1,ex2];rfl,s9.trans (J7 hd)⟩
  rintro σ H10 ⟨la,rfl,hla,s10⟩;refine ⟨_,rfl,_,rfl,_,rfl,_,_,rfl,rfl,(by show 3<=sizeLine;omega),fun d2 hd2=>?_⟩;have u2:=J7 (o:=.lst (iV [x4,0,as.sum - 1])) hd2;refine ⟨la,d2,_,_,rfl,rfl,u2 _ _ hla,J2,(by show 3 + 3<=sizeLine;omega),fun d3 hd3=>?_⟩;have u3:=J7 (o:=.lst (iV [x1,x2,x3,x4,0,as.sum - 1])) hd3;have s13:=s10.trans (u2.trans u3);have h13:upd (upd H10 d2 (.lst (iV [x4,0,as.sum - 1]))) d3 (.lst (iV [x1,x2,x3,x4,0,as.sum - 1])) d3=some (.lst (iV [x1,x2,x3,x4,0,as.sum - 1])):=J2;obtain ⟨H13,e13⟩:∃ H13,H13=upd (upd H10 d2 (.lst [V.int x4,V.int 0,(fun (i j:Int)=>V.int (i - j)) as.sum 1])) d3 (.lst (iV [x1,x2,x3] ++ [V.int x4,V.int 0,(fun (i j:Int)=>V.int (i - j)) as.sum 1])):=⟨_,rfl⟩;replace s13:Same H7 H13:=by rw [e13];exact s13
  replace h13:H13 d3=some (.lst (iV [x1,x2,x3,x4,0,as.sum - 1])):=by rw [e13];exact h13
  rw [<- e13];clear e13;clear u2 u3 hd2 hd3;obtain ⟨dx',fs,pa,pb,xl,xc,ls,os,ts,h0,fA,fB,fZ,fL,fC,hpa,hpb,L,gd,tl,pg,le,cb⟩:=Ar.ex;obtain ⟨tw,plain⟩:=two_goes G pg;have esum:=pg.sum;have O:=gd.ord;have le2:bs.sum<=10 ^ 30:=by rw [<- G.eq];exact G.le
  have OA:=(ga.good G.le).ord;refine ⟨d3,rfl,⟨_,SqL.of h13⟩,J2k (K:=K) (a:=d3) (xs:=iV [x1,x2,x3,x4,0,as.sum - 1]) (fun _ σ Hw=>∃ v9 v10,σ=[some (.ref a),some (.ref p),some (.ref x),some (.int as.sum),some (.int (i:Nat)),some (.int x3),some (.int (j:Nat)),some (.int x4),some (.ref la),v9,v10,none,none,none]/\Same H13 Hw) ⟨none,none,rfl,Same.refl _⟩ (fun i σ Hw _ ⟨_,_,_,e⟩=>SqL.of (e _ _ h13)) ?_ ?_⟩
  ·rintro i' y σ Hw hy ⟨v9,v10,rfl,sw⟩;obtain ⟨z,hz,rfl⟩:=mem_map.mp (mem_of_getElem? hy);have zz:0<=z/\z < as.sum:=by
    simp only [mem_cons,not_mem_nil,or_false] at hz;rcases hz with e | e | e | e | e | e <;> rw [e] <;> first | exact x10 | exact x20 | exact ⟨q0,q1⟩ | exact ⟨w0,w1⟩ | omega
   have s7w:=s13.trans sw;refine ⟨_,rfl,_,rfl,p,_,_,_,rfl,rfl,SqT.of (s7w _ _ qp),Jj (j:=0) rfl,_,rfl,0,x,l1,as,bs,z,rfl,Ar.same s7w,G,s7w _ _ r1,zz.1,zz.2,fun H14 s14=>⟨true,rfl,iteF ?_⟩⟩;have s714:=s7w.trans s14;refine ⟨_,rfl,_,rfl,p,_,_,_,rfl,rfl,SqT.of (s714 _ _ qp),Jj (j:=1) rfl,_,rfl,1,x,l2,as,bs,z,rfl,Ar.same s714,G,s714 _ _ r2,zz.1,zz.2,fun H15 s15=>⟨true,rfl,iteF ?_⟩⟩;have s715:=s714.trans s15;refine ⟨_,rfl,x,CAr,dx',fs,_,rfl,s715 _ _ h0,TA.cl,TA.nL,fL,_,rfl,xl,ls,os,ts,z,rfl,L.same s715,gd,tl,fun j H16 s16 lies=>?_,fun n=>absurd ⟨zz.1,by rw [esum];exact zz.2⟩ n⟩;rw [<- gL_eq (ts:=ts) O lies,tw z zz.1 zz.2];have s716:=s715.trans s16;refine ⟨_,rfl,_,rfl,true,rfl,iteF ?_⟩;have b2:=gL_in (ts:=List.replicate as.length true) OA zz.1 zz.2;refine ⟨_,rfl,_,rfl,p,_,_,_,rfl,rfl,SqT.of (s716 _ _ qp),Jj (j:=1) rfl,_,rfl,p,_,_,_,rfl,rfl,SqT.of (s716 _ _ qp),Jj (j:=0) rfl,_,rfl,l1,as,z,rfl,s716 _ _ r1,ga,G.le,zz.1,zz.2,fun H17 s17=>?_⟩;refine ⟨l2,bs,gT as z,rfl,s17 _ _ (s716 _ _ r2),gb,le2,b2.1,by rw [<- G.eq];exact b2.2,fun H18 s18=>⟨rfl,_,rfl,iteNS rfl ?_⟩⟩;exact ⟨_,_,rfl,sw.trans (s14.trans (s15.trans (s16.trans (s17.trans s18))))⟩
  ·rintro σ Hw ⟨v9,v10,rfl,sw⟩;have s7w:=s13.trans sw;clear sw s13 h13;have f0:0<=ns.sum % (10 ^ (40:Int).toNat):=Int.emod_nonneg _ (by decide);refine ⟨fun σ' H'=>∃ far,0<=far/\σ'=[some (.ref a),some (.ref p),some (.ref x),some (.int as.sum),some (.int (i:Nat)),some (.int x3),some (.int (j:Nat)),some (.int x4),some (.ref la),v9,v10,some (.int far),none,none]/\Hw=H',⟨_,rfl,a,ns,rfl,.inl (s7w.seq hS7),_,_,rfl,rfl,⟨by decide,by decide,by decide⟩,_,_,rfl,rfl,(by show (0:Int) < 10 ^ (40:Int).toNat;decide),_,f0,rfl,rfl⟩,?_⟩;rintro σ _ ⟨far,f0,rfl,rfl⟩;refine ⟨_,rfl,_,rfl,_,rfl,_,_,rfl,rfl,_,rfl,_,rfl,_,rfl,_,_,rfl,rfl,(by show 4<=sizeLine;omega),fun d4 hd4=>?_⟩;have u4:=J7 (o:=.lst (iV [as.sum,as.sum + far,-1,-1 - far])) hd4;have h20:upd Hw d4 (.lst (iV [as.sum,as.sum + far,-1,-1 - far])) d4=some (.lst (iV [as.sum,as.sum + far,-1,-1 - far])):=J2;have s20:=s7w.trans u4;refine ⟨d4,rfl,⟨_,SqL.of h20⟩,J2k (K:=K) (a:=d4) (xs:=iV [as.sum,as.sum + far,-1,-1 - far]) (fun _ σ H2=>∃ v9,σ=[some (.ref a),some (.ref p),some (.ref x),some (.int as.sum),some (.int (i:Nat)),some (.int x3),some (.int (j:Nat)),some (.int x4),some (.ref la),v9,v10,some (.int far),none,none]/\Same (upd Hw d4 (.lst (iV [as.sum,as.sum + far,-1,-1 - far]))) H2) ⟨v9,rfl,Same.refl _⟩ (fun i σ H2 _ ⟨_,_,e⟩=>SqL.of (e _ _ h20)) ?_ ?_⟩
   ·rintro i' y σ H2 hy ⟨v9,rfl,s2⟩;obtain ⟨z,hz,rfl⟩:=mem_map.mp (mem_of_getElem? hy);have n:¬ (0<=z/\z < as.sum):=by
     simp only [mem_cons,not_mem_nil,or_false] at hz;rcases hz with e | e | e | e <;> rw [e] <;> omega
    have s72:=s20.trans s2;refine ⟨_,rfl,_,rfl,0,x,as,bs,z,rfl,Ar.same s72,G,n,no_lies G n,fun H21 s21=>⟨true,rfl,iteF ?_⟩⟩;have s721:=s72.trans s21;exact ⟨_,rfl,_,rfl,1,x,as,bs,z,rfl,Ar.same s721,G,n,no_lies G n,fun H22 s22=>⟨true,rfl,iteF ⟨_,rfl,s2.trans (s21.trans s22)⟩⟩⟩
   ·rintro σ H2 ⟨v9,rfl,s2⟩;have s72:=s20.trans s2;clear s2 s20 h20 u4 s7w;refine ⟨fun σ' H'=>σ'=[some (.ref a),some (.ref p),some (.ref x),some (.int as.sum),some (.int (i:Nat)),some (.int x3),some (.int (j:Nat)),some (.int x4),some (.ref la),some (.int x1),v10,some (.int far),none,none]/\H2=H',⟨_,rfl,a,ns,rfl,.inl (s72.seq hS7),_,_,rfl,rfl,⟨by decide,by decide⟩,_,rfl,_,_,rfl,rfl,pS,by rw [ex1];rfl,rfl⟩,?_⟩;rintro σ _ ⟨rfl,rfl⟩;obtain ⟨dc,fc,pr,pd,xb,m,c0,c1,c2,c3,c4,lg,tp,rb⟩:=cb.ex;obtain ⟨dl,fl,pl,po,pt,ps,pe,l0,⟨k1,k2,k3,k4,k5,k6⟩,e1,e2,e3,e4,e5⟩:=L.ex;refine ⟨_,rfl,x,CAr,dx',fs,_,rfl,s72 _ _ h0,TA.cl,TA.nC,fC,xc,CH,dc,fc,_,rfl,s72 _ _ c0,TH.cl,TH.nL,c1,?_⟩;refine ⟨_,rfl,xl,C,dl,fl,_,rfl,s72 _ _ l0,TC.cl,TC.nL,k1,_,rfl,x,CAr,dx',fs,_,rfl,s72 _ _ h0,TA.cl,TA.nL,fL,xl,C,dl,fl,_,rfl,s72 _ _ l0,TC.cl,TC.nL,k1,J69 (s72 _ _ e1) (Kin.ints ls ls) ⟨false,rfl,iteF ?_⟩⟩;refine ⟨_,rfl,xl,C,dl,fl,_,rfl,s72 _ _ l0,TC.cl,TC.nO,k2,_,rfl,x,CAr,dx',fs,_,rfl,s72 _ _ h0,TA.cl,TA.nL,fL,xl,C,dl,fl,_,rfl,s72 _ _ l0,TC.cl,TC.nO,k2,J69 (s72 _ _ e2) (Kin.ints (natI os) (natI os)) ⟨false,rfl,iteF ?_⟩⟩;refine ⟨_,rfl,xl,C,dl,fl,_,rfl,s72 _ _ l0,TC.cl,TC.nT,k3,_,rfl,x,CAr,dx',fs,_,rfl,s72 _ _ h0,TA.cl,TA.nL,fL,xl,C,dl,fl,_,rfl,s72 _ _ l0,TC.cl,TC.nT,k3,J69 (s72 _ _ e3) (Kin.bls ts ts) ⟨false,rfl,iteF ?_⟩⟩;have xs1:x1 < ls.sum:=by rw [esum];exact x10.2
    refine ⟨_,rfl,_,rfl,xl,ls,os,ts,x1,rfl,L.same s72,gd,tl,fun j1 H3 s3 lies=>?_,fun n=>absurd ⟨x10.1,xs1⟩ n⟩;rw [<- gL_eq (ts:=ts) O lies];have s73:=s72.trans s3;refine ⟨_,rfl,x,CAr,dx',fs,_,rfl,s73 _ _ h0,TA.cl,TA.nL,fL,_,rfl,xl,ls,os,ts,x1,rfl,L.same s73,gd,tl,fun j2 H4 s4 lies2=>?_,fun n=>absurd ⟨x10.1,xs1⟩ n⟩;rw [<- gL_eq (ts:=ts) O lies2];refine ⟨rfl,_,rfl,iteNS rfl ?_⟩;have s74:=s73.trans s4;obtain ⟨bsum,big,few⟩:=bands_all gd tl lg tp;have xbl:=rb.len;generalize bndN (J1o ls os ts) m=bn at rb bsum big few xbl;refine ⟨_,rfl,x,CAr,dx',fs,_,rfl,s74 _ _ h0,TA.cl,TA.nC,fC,xc,CH,dc,fc,_,rfl,s74 _ _ c0,TH.cl,TH.nB,c3,pd,rfl,⟨_,SqT.of (s74 _ _ c4)⟩,fun d5 hd5=>lc_tupW xb (fun i=>V.int ((bn.getD i bz).2.1 * (bn.getD i bz).2.2.1)) (SqT.of (s74 _ _ c4)) (by have:=line16;omega) hd5 (fun i5 Hc Qe v ev sc q=>?_) (fun Hc sc hd'=>?_)⟩
    ·have hi5:i5 < bn.length:=by have:=(List.getElem?_eq_some_iff.mp ev).1;omega
     obtain ⟨q5,e5,hq5⟩:=rb.at_ i5 hi5;rw [ev] at e5;cases e5;have hq6:=sc _ _ (s74 _ _ hq5);have bg:=big (bn.getD i5 bz) (by rw [getD_eq_getElem?_getD,List.getElem?_eq_getElem hi5];exact List.getElem_mem hi5);exact ⟨_,rfl,q5,_,_,_,rfl,rfl,SqT.of hq6,Jj (j:=1) rfl,_,rfl,q5,_,_,_,rfl,rfl,SqT.of hq6,Jj (j:=2) rfl,_,_,rfl,rfl,bg,q _ (Same.refl _)⟩
    have s75:=s74.trans sc;refine ⟨d5,(List.range xb.length).map fun i=>(bn.getD i bz).2.1 * (bn.getD i bz).2.2.1,rfl,.inl (SqL.of (by rw [hd',map_map];rfl)),_,rfl,rfl,_,rfl,iteNS (congrArg V.int (by rw [xbl,range_bands,<- esum];exact bsum)) ?_⟩;refine ⟨_,rfl,x,CAr,dx',fs,_,rfl,s75 _ _ h0,TA.cl,TA.nL,fL,?_⟩;refine ⟨_,rfl,.ref xl,.ref C,.ref C,.ref C,true,rfl,rfl,fun v h=>h,TI.ty TC.cl (s75 _ _ l0),ktL,true,rfl,iteT ?_⟩;refine ⟨_,rfl,xl,C,dl,fl,_,rfl,s75 _ _ l0,TC.cl,TC.nL,k1,pl,_,rfl,.inr (SqT.of (s75 _ _ e1)),_,_,rfl,rfl,_,rfl,iteDT (by rw [length_map];omega) ?_⟩;exact ⟨_,rfl,xl,ls,os,ts,rfl,L.same s75,gd,tl,plain,fun H' _=>k H'⟩
end
end R52
namespace R52
open PySem L2 Rl
theorem kib (K:PySem.W.Frag):kitOne K (.type "int") (.type "bool")=some false:=by kernel_rfl
theorem dflt_binds {K:PySem.W.Frag} {x qual:Str} {st:Stmt} {f TD:Addr} {fd:FuncData} {cT:Value} {dT:Option Addr} {nT:Nat} {slT:Array (Option Value)} (F:FunD K x qual st f fd TD) (lT:K.lookup TD=some ⟨cT,dT,.seq #[.none] nT,slT⟩) (ps:List Str)
  (h0:∀ (kV doc pm:Value) (an:Option Addr) (cdv ct:Value) (us:List Value),us.length=ps.length->∃ k,bindArgs (fnOf x qual (J26 st) (J1j st) (J6 st) (.ref TD) kV doc pm an cdv ct) ⟨us,[]⟩=seqItems? (.ref TD) >>= k/\k (some #[.none])=pure (ps.zip us))
  (h1:∀ (kV doc pm:Value) (an:Option Addr) (cdv ct:Value) (us:List Value),(us ++ [Value.none]).length=ps.length->∃ k,bindArgs (fnOf x qual (J26 st) (J1j st) (J6 st) (.ref TD) kV doc pm an cdv ct) ⟨us,[]⟩=seqItems? (.ref TD) >>= k/\k (some #[.none])=pure (ps.zip (us ++ [Value.none]))) :
  Binds K fd ps []/\Binds K fd ps [.none]:=by
 obtain ⟨oc,od,kV,doc,pm,an,cdv,ct,osl,rfl,lk,hcd⟩:=F.ex;refine ⟨fun s us X hl=>?_,fun s us X hl=>?_⟩
 ·rw [append_nil] at hl ⊢;obtain ⟨k,e1,e2⟩:=h0 kV doc pm an cdv ct us hl;exact BindsTo.of_defaults (T:=TD) rfl (X _ _ lT) rfl e1 e2
 ·obtain ⟨k,e1,e2⟩:=h1 kV doc pm an cdv ct us hl;exact BindsTo.of_defaults (T:=TD) rfl (X _ _ lT) rfl e1 e2
def csOf (a b c d e f:Addr):Kd->Addr
 | .ho=>a | .ev=>b | .ov=>c | .un=>d | .os=>e | .us=>f
abbrev DfI (K:PySem.W.Frag) (x:Str) (st:Stmt) (f:Addr) (od an:Option Addr) (sl:Array (Option Value)) (oc kV dc pm cd ct:Value):Prop:=nsIn K mainGlobals x=some (some (.ref f))/\K.lookup f=some ⟨oc,od,.func (fnOf x x (J26 st) (J1j st) (J6 st) .none kV dc pm an cd ct),sl⟩/\codeIn K cd x=true/\keepIn K (.ref f)=true
abbrev MeI (K:PySem.W.Frag) (C:Addr) (x q:Str) (st:Stmt) (D:Value) (f:Addr) (od an:Option Addr) (sl:Array (Option Value)) (oc kV dc pm cd ct:Value):Prop:=findIn K (.ref C) x=some (some (.ref f))/\isFn K (.ref f)=true/\K.lookup f=some ⟨oc,od,.func (fnOf x q (J26 st) (J1j st) (J6 st) D kV dc pm an cd ct),sl⟩/\codeIn K cd q=true/\keepIn K (.ref f)=true
abbrev NaI (K:PySem.W.Frag) (x:Str) (C:Addr):Prop:=nsIn K mainGlobals x=some (some (.ref C))
abbrev NzI (K:PySem.W.Frag) (x:Str):Prop:=nsIn K mainGlobals x=some none
abbrev FiI (K:PySem.W.Frag) (C:Addr) (x:Str) (f:Addr):Prop:=findIn K (.ref C) x=some (some (.ref f))
abbrev FnI (K:PySem.W.Frag) (C:Addr) (x:Str):Prop:=findIn K (.ref C) x=some none
abbrev ClI (K:PySem.W.Frag) (C:Addr):Prop:=plainGet K C Str.empty=true/\hasDictIn K C=true/\plainOver K C=true/\findIn K (.ref C) "__setattr__"=some (some (.builtin "object.__setattr__"))
abbrev MkI (K:PySem.W.Frag) (C:Addr):Prop:=makesIn K C=true/\keepIn K (.ref C)=true
theorem dfn {K:PySem.W.Frag} {h:Heap} {mg:Str->Option Value} (X:K.In h) (G:h.Ns mainGlobals mg) {x:Str} {st:Stmt} {f:Addr} {od an:Option Addr} {sl:Array (Option Value)} {oc kV dc pm cd ct:Value} (d:DfI K x st f od an sl oc kV dc pm cd ct) :
  Fun K x x st f (fnOf x x (J26 st) (J1j st) (J6 st) .none kV dc pm an cd ct)/\mg x=some (.ref f)/\keepIn K (.ref f)=true:=⟨J1e d.2.1 d.2.2.1 d.2.2.2,mg_of X G d.1,d.2.2.2⟩
theorem clf {K:PySem.W.Frag} {C:Addr} (d:ClI K C):Cls K C:=⟨d.1,d.2.1,d.2.2.1,d.2.2.2⟩
theorem usOf1 {P:List PySem.Value → Prop} (h : ∀ a0,P [a0]) : ∀ us : List PySem.Value,us.length = 1 → P us
 | [a0],_ => h a0
theorem usOf2 {P:List PySem.Value → Prop} (h : ∀ a0 a1,P [a0,a1]) : ∀ us : List PySem.Value,us.length = 2 → P us
 | [a0,a1],_ => h a0 a1
theorem usOf3 {P:List PySem.Value → Prop} (h : ∀ a0 a1 a2,P [a0,a1,a2]) : ∀ us : List PySem.Value,us.length = 3 → P us
 | [a0,a1,a2],_ => h a0 a1 a2
theorem usOf4 {P:List PySem.Value → Prop} (h : ∀ a0 a1 a2 a3,P [a0,a1,a2,a3]) : ∀ us : List PySem.Value,us.length = 4 → P us
 | [a0,a1,a2,a3],_ => h a0 a1 a2 a3
theorem usOf5 {P:List PySem.Value → Prop} (h : ∀ a0 a1 a2 a3 a4,P [a0,a1,a2,a3,a4]) : ∀ us : List PySem.Value,us.length = 5 → P us
 | [a0,a1,a2,a3,a4],_ => h a0 a1 a2 a3 a4
theorem all_mk {l : PySem.W.OpenLaw} {w : World} {K : PySem.W.Frag} {h : Heap} {mg : Str -> Option Value} {fa  CL TB TJ cc cj CTooMany CUnlike CBadArches COutside C CR CH CW CAr CSt CHo CEv COv CUn COs CUs : Addr} (X : K.In h) (G : h.Ns mainGlobals mg) (hfa : mg "law" = some (.ref fa))
    {f0 f1 f2 f3 f4 f5 f6 f7 f8 f9 f10 f11 f12 f13 f14 f15 f16 f17 f18 f19 f20 f21 f22 f23 f24 f25 f26 f27 f28 f29 f30 f31 f32 f33 f34 f35 f36 f37 f38 f39 f40 f41 f42 f43 f44 f45 f46 f47 f48 f49 f50 f51 f_LI f_RI f_HI f_WI f_YI f_StI f_StL f_HoI f_HoW f_HoL f_HoB f_EvI f_EvW f_EvB f_OvI f_OvW f_OvB f_UnI f_UnW f_UnB f_OsI f_OsW f_OsL f_OsB f_UsI f_UsW f_UsL f_UsB : Addr} {od0 an0 od1 an1 od2 an2 od3 an3 od4 an4 od5 an5 od6 an6 od7 an7 od8 an8 od9 an9 od10 an10 od11 an11 od12 an12 od13 an13 od14 an14 od15 an15 od16 an16 od17 an17 od18 an18 od19 an19 od20 an20 od21 an21 od22 an22 od23 an23 od24 an24 od25 an25 od26 an26 od27 an27 od28 an28 od29 an29 od30 an30 od31 an31 od32 an32 od33 an33 od34 an34 od35 an35 od36 an36 od37 an37 od38 an38 od39 an39 od40 an40 od41 an41 od42 an42 od43 an43 od44 an44 od45 an45 od46 an46 od47 an47 od48 an48 od49 an49 od50 an50 od51 an51 od_LI an_LI od_RI an_RI od_HI an_HI od_WI an_WI od_YI an_YI od_StI an_StI od_StL an_StL od_HoI an_HoI od_HoW an_HoW od_HoL an_HoL od_HoB an_HoB od_EvI an_EvI od_EvW an_EvW od_EvB an_EvB od_OvI an_OvI od_OvW an_OvW od_OvB an_OvB od_UnI an_UnI od_UnW an_UnW od_UnB an_UnB od_OsI an_OsI od_OsW an_OsW od_OsL an_OsL od_OsB an_OsB od_UsI an_UsI od_UsW an_UsW od_UsL an_UsL od_UsB an_UsB : Option Addr} {sl0 sl1 sl2 sl3 sl4 sl5 sl6 sl7 sl8 sl9 sl10 sl11 sl12 sl13 sl14 sl15 sl16 sl17 sl18 sl19 sl20 sl21 sl22 sl23 sl24 sl25 sl26 sl27 sl28 sl29 sl30 sl31 sl32 sl33 sl34 sl35 sl36 sl37 sl38 sl39 sl40 sl41 sl42 sl43 sl44 sl45 sl46 sl47 sl48 sl49 sl50 sl51 sl_LI sl_RI sl_HI sl_WI sl_YI sl_StI sl_StL sl_HoI sl_HoW sl_HoL sl_HoB sl_EvI sl_EvW sl_EvB sl_OvI sl_OvW sl_OvB sl_UnI sl_UnW sl_UnB sl_OsI sl_OsW sl_OsL sl_OsB sl_UsI sl_UsW sl_UsL sl_UsB : Array (Option Value)} {oc0 kV0 dc0 pm0 cd0 ct0 oc1 kV1 dc1 pm1 cd1 ct1 oc2 kV2 dc2 pm2 cd2 ct2 oc3 kV3 dc3 pm3 cd3 ct3 oc4 kV4 dc4 pm4 cd4 ct4 oc5 kV5 dc5 pm5 cd5 ct5 oc6 kV6 dc6 pm6 cd6 ct6 oc7 kV7 dc7 pm7 cd7 ct7 oc8 kV8 dc8 pm8 cd8 ct8 oc9 kV9 dc9 pm9 cd9 ct9 oc10 kV10 dc10 pm10 cd10 ct10 oc11 kV11 dc11 pm11 cd11 ct11 oc12 kV12 dc12 pm12 cd12 ct12 oc13 kV13 dc13 pm13 cd13 ct13 oc14 kV14 dc14 pm14 cd14 ct14 oc15 kV15 dc15 pm15 cd15 ct15 oc16 kV16 dc16 pm16 cd16 ct16 oc17 kV17 dc17 pm17 cd17 ct17 oc18 kV18 dc18 pm18 cd18 ct18 oc19 kV19 dc19 pm19 cd19 ct19 oc20 kV20 dc20 pm20 cd20 ct20 oc21 kV21 dc21 pm21 cd21 ct21 oc22 kV22 dc22 pm22 cd22 ct22 oc23 kV23 dc23 pm23 cd23 ct23 oc24 kV24 dc24 pm24 cd24 ct24 oc25 kV25 dc25 pm25 cd25 ct25 oc26 kV26 dc26 pm26 cd26 ct26 oc27 kV27 dc27 pm27 cd27 ct27 oc28 kV28 dc28 pm28 cd28 ct28 oc29 kV29 dc29 pm29 cd29 ct29 oc30 kV30 dc30 pm30 cd30 ct30 oc31 kV31 dc31 pm31 cd31 ct31 oc32 kV32 dc32 pm32 cd32 ct32 oc33 kV33 dc33 pm33 cd33 ct33 oc34 kV34 dc34 pm34 cd34 ct34 oc35 kV35 dc35 pm35 cd35 ct35 oc36 kV36 dc36 pm36 cd36 ct36 oc37 kV37 dc37 pm37 cd37 ct37 oc38 kV38 dc38 pm38 cd38 ct38 oc39 kV39 dc39 pm39 cd39 ct39 oc40 kV40 dc40 pm40 cd40 ct40 oc41 kV41 dc41 pm41 cd41 ct41 oc42 kV42 dc42 pm42 cd42 ct42 oc43 kV43 dc43 pm43 cd43 ct43 oc44 kV44 dc44 pm44 cd44 ct44 oc45 kV45 dc45 pm45 cd45 ct45 oc46 kV46 dc46 pm46 cd46 ct46 oc47 kV47 dc47 pm47 cd47 ct47 oc48 kV48 dc48 pm48 cd48 ct48 oc49 kV49 dc49 pm49 cd49 ct49 oc50 kV50 dc50 pm50 cd50 ct50 oc51 kV51 dc51 pm51 cd51 ct51 oc_LI kV_LI dc_LI pm_LI cd_LI ct_LI oc_RI kV_RI dc_RI pm_RI cd_RI ct_RI oc_HI kV_HI dc_HI pm_HI cd_HI ct_HI oc_WI kV_WI dc_WI pm_WI cd_WI ct_WI oc_YI kV_YI dc_YI pm_YI cd_YI ct_YI oc_StI kV_StI dc_StI pm_StI cd_StI ct_StI oc_StL kV_StL dc_StL pm_StL cd_StL ct_StL oc_HoI kV_HoI dc_HoI pm_HoI cd_HoI ct_HoI oc_HoW kV_HoW dc_HoW pm_HoW cd_HoW ct_HoW oc_HoL kV_HoL dc_HoL pm_HoL cd_HoL ct_HoL oc_HoB kV_HoB dc_HoB pm_HoB cd_HoB ct_HoB oc_EvI kV_EvI dc_EvI pm_EvI cd_EvI ct_EvI oc_EvW kV_EvW dc_EvW pm_EvW cd_EvW ct_EvW oc_EvB kV_EvB dc_EvB pm_EvB cd_EvB ct_EvB oc_OvI kV_OvI dc_OvI pm_OvI cd_OvI ct_OvI oc_OvW kV_OvW dc_OvW pm_OvW cd_OvW ct_OvW oc_OvB kV_OvB dc_OvB pm_OvB cd_OvB ct_OvB oc_UnI kV_UnI dc_UnI pm_UnI cd_UnI ct_UnI oc_UnW kV_UnW dc_UnW pm_UnW cd_UnW ct_UnW oc_UnB kV_UnB dc_UnB pm_UnB cd_UnB ct_UnB oc_OsI kV_OsI dc_OsI pm_OsI cd_OsI ct_OsI oc_OsW kV_OsW dc_OsW pm_OsW cd_OsW ct_OsW oc_OsL kV_OsL dc_OsL pm_OsL cd_OsL ct_OsL oc_OsB kV_OsB dc_OsB pm_OsB cd_OsB ct_OsB oc_UsI kV_UsI dc_UsI pm_UsI cd_UsI ct_UsI oc_UsW kV_UsW dc_UsW pm_UsW cd_UsW ct_UsW oc_UsL kV_UsL dc_UsL pm_UsL cd_UsL ct_UsL oc_UsB kV_UsB dc_UsB pm_UsB cd_UsB ct_UsB : Value} {TD : Addr} {dT : Option Addr} {slT : Array (Option Value)} {cT : Value} {nT : Nat}
     {t_MOST_PIECES : Tok} {t_MOST_BLOCKS : Tok}
    (a_L : NaI K "Line" C) (a_R : NaI K "Rest" CR) (a_H : NaI K "Chart" CH) (a_W : NaI K "Stretch" CW) (a_Y : NaI K "Arches" CAr) (a_St : NaI K "Step" CSt) (a_Ho : NaI K "Home" CHo) (a_Ev : NaI K "Even" CEv) (a_Ov : NaI K "Over" COv) (a_Un : NaI K "Under" CUn) (a_Os : NaI K "Overs" COs) (a_Us : NaI K "Unders" CUs) (d0 : DfI K "piece_holding" sHold f0 od0 an0 sl0 oc0 kV0 dc0 pm0 cd0 ct0) (d1 : DfI K "moved" sMoved f1 od1 an1 sl1 oc1 kV1 dc1 pm1 cd1 ct1) (d2 : DfI K "piece_at" sAt f2 od2 an2 sl2 oc2 kV2 dc2 pm2 cd2 ct2) (d3 : DfI K "goes" sGoes f3 od3 an3 sl3 oc3 kV3 dc3 pm3 cd3 ct3) (d4 : DfI K "refuse_lengths" sRefL f4 od4 an4 sl4 oc4 kV4 dc4 pm4 cd4 ct4) (d5 : DfI K "refuse_order" sRefO f5 od5 an5 sl5 oc5 kV5 dc5 pm5 cd5 ct5) (d6 : DfI K "refuse_turned" sRefT f6 od6 an6 sl6 oc6 kV6 dc6 pm6 cd6 ct6) (d7 : DfI K "turns_told" sTold f7 od7 an7 sl7 oc7 kV7 dc7 pm7 cd7 ct7) (d8 : DfI K "first_places" sFirst f8 od8 an8 sl8 oc8 kV8 dc8 pm8 cd8 ct8) (d9 : DfI K "length_of" sLenOf f9 od9 an9 sl9 oc9 kV9 dc9 pm9 cd9 ct9) (d10 : DfI K "rest_of" sRestOf f10 od10 an10 sl10 oc10 kV10 dc10 pm10 cd10 ct10) (d11 : DfI K "without" J5w f11 od11 an11 sl11 oc11 kV11 dc11 pm11 cd11 ct11) (d12 : DfI K "letters_behind" J60 f12 od12 an12 sl12 oc12 kV12 dc12 pm12 cd12 ct12) (d13 : DfI K "put_beside" sPut f13 od13 an13 sl13 oc13 kV13 dc13 pm13 cd13 ct13) (d14 : DfI K "changed" J5z f14 od14 an14 sl14 oc14 kV14 dc14 pm14 cd14 ct14) (d15 : DfI K "shortened" sShort f15 od15 an15 sl15 oc15 kV15 dc15 pm15 cd15 ct15) (d16 : DfI K "turns_behind" sTurnsB f16 od16 an16 sl16 oc16 kV16 dc16 pm16 cd16 ct16) (d17 : DfI K "whole_times" sTimes f17 od17 an17 sl17 oc17 kV17 dc17 pm17 cd17 ct17) (d18 : DfI K "over_step" sOverS f18 od18 an18 sl18 oc18 kV18 dc18 pm18 cd18 ct18) (d19 : DfI K "under_step" sUnderS f19 od19 an19 sl19 oc19 kV19 dc19 pm19 cd19 ct19) (d20 : DfI K "next_step" sNext f20 od20 an20 sl20 oc20 kV20 dc20 pm20 cd20 ct20) (d21 : DfI K "first_towers" sFirstT f21 od21 an21 sl21 oc21 kV21 dc21 pm21 cd21 ct21) (d22 : DfI K "towers_behind" sTowB f22 od22 an22 sl22 oc22 kV22 dc22 pm22 cd22 ct22) (d23 : DfI K "bands_left" sBandsL f23 od23 an23 sl23 oc23 kV23 dc23 pm23 cd23 ct23) (d24 : DfI K "stretches_of" sStrOf f24 od24 an24 sl24 oc24 kV24 dc24 pm24 cd24 ct24) (d25 : DfI K "first_goes" sFirstG f25 od25 an25 sl25 oc25 kV25 dc25 pm25 cd25 ct25) (d26 : DfI K "last_goes" sLastG f26 od26 an26 sl26 oc26 kV26 dc26 pm26 cd26 ct26) (d27 : DfI K "go_together" sGoTog f27 od27 an27 sl27 oc27 kV27 dc27 pm27 cd27 ct27) (d28 : DfI K "made_one" sMade1 f28 od28 an28 sl28 oc28 kV28 dc28 pm28 cd28 ct28) (d29 : DfI K "longest" J5y f29 od29 an29 sl29 oc29 kV29 dc29 pm29 cd29 ct29) (d30 : DfI K "line_of" sLineOf f30 od30 an30 sl30 oc30 kV30 dc30 pm30 cd30 ct30) (d31 : DfI K "parts_between" sPartsB f31 od31 an31 sl31 oc31 kV31 dc31 pm31 cd31 ct31) (d32 : DfI K "joined_stretches" sJoinS f32 od32 an32 sl32 oc32 kV32 dc32 pm32 cd32 ct32) (d33 : DfI K "line_within" sLineW f33 od33 an33 sl33 oc33 kV33 dc33 pm33 cd33 ct33) (d34 : DfI K "joined" sJoined f34 od34 an34 sl34 oc34 kV34 dc34 pm34 cd34 ct34) (d35 : DfI K "refuse_blocks" sRefB f35 od35 an35 sl35 oc35 kV35 dc35 pm35 cd35 ct35) (d36 : DfI K "refuse_sums" sRefS f36 od36 an36 sl36 oc36 kV36 dc36 pm36 cd36 ct36) (d37 : DfI K "turned_blocks" sTurnB f37 od37 an37 sl37 oc37 kV37 dc37 pm37 cd37 ct37) (d38 : DfI K "other_end" sOtherE f38 od38 an38 sl38 oc38 kV38 dc38 pm38 cd38 ct38) (d39 : DfI K "arch_above" sArchA f39 od39 an39 sl39 oc39 kV39 dc39 pm39 cd39 ct39) (d40 : DfI K "arch_below" sArchB f40 od40 an40 sl40 oc40 kV40 dc40 pm40 cd40 ct40) (d41 : DfI K "_law_cell" sCell f41 od41 an41 sl41 oc41 kV41 dc41 pm41 cd41 ct41) (d42 : DfI K "_law_whole" sWhole f42 od42 an42 sl42 oc42 kV42 dc42 pm42 cd42 ct42) (d43 : DfI K "_law_blocks" sBlocks f43 od43 an43 sl43 oc43 kV43 dc43 pm43 cd43 ct43) (d44 : DfI K "_law_parted" sParted f44 od44 an44 sl44 oc44 kV44 dc44 pm44 cd44 ct44) (d45 : DfI K "_law_arches" sArchL f45 od45 an45 sl45 oc45 kV45 dc45 pm45 cd45 ct45) (d46 : DfI K "_law_other" sOtherL f46 od46 an46 sl46 oc46 kV46 dc46 pm46 cd46 ct46) (d47 : DfI K "_law_ask" sAsk f47 od47 an47 sl47 oc47 kV47 dc47 pm47 cd47 ct47) (d48 : DfI K "_law_refused" J5x f48 od48 an48 sl48 oc48 kV48 dc48 pm48 cd48 ct48) (d49 : DfI K "_law_right" sRightL f49 od49 an49 sl49 oc49 kV49 dc49 pm49 cd49 ct49) (d50 : DfI K "_law_plain" sLPlain f50 od50 an50 sl50 oc50 kV50 dc50 pm50 cd50 ct50) (d51 : DfI K "law" sLaw f51 od51 an51 sl51 oc51 kV51 dc51 pm51 cd51 ct51) (me_LI : MeI K C "__init__" "Line.__init__" sInit (.ref TD) f_LI od_LI an_LI sl_LI oc_LI kV_LI dc_LI pm_LI cd_LI ct_LI) (lT : K.lookup TD = some ⟨cT, dT, .seq #[.none] nT, slT⟩) (me_RI : MeI K CR "__init__" "Rest.__init__" sRInit .none f_RI od_RI an_RI sl_RI oc_RI kV_RI dc_RI pm_RI cd_RI ct_RI) (me_HI : MeI K CH "__init__" "Chart.__init__" sChInit .none f_HI od_HI an_HI sl_HI oc_HI kV_HI dc_HI pm_HI cd_HI ct_HI) (me_WI : MeI K CW "__init__" "Stretch.__init__" sSrInit .none f_WI od_WI an_WI sl_WI oc_WI kV_WI dc_WI pm_WI cd_WI ct_WI) (me_YI : MeI K CAr "__init__" "Arches.__init__" sArInit .none f_YI od_YI an_YI sl_YI oc_YI kV_YI dc_YI pm_YI cd_YI ct_YI) (me_StI : MeI K CSt "__init__" "Step.__init__" sStInit .none f_StI od_StI an_StI sl_StI oc_StI kV_StI dc_StI pm_StI cd_StI ct_StI) (me_StL : MeI K CSt "losers" "Step.losers" J4c .none f_StL od_StL an_StL sl_StL oc_StL kV_StL dc_StL pm_StL cd_StL ct_StL) (me_HoI : MeI K CHo "__init__" "Home.__init__" sHoInit .none f_HoI od_HoI an_HoI sl_HoI oc_HoI kV_HoI dc_HoI pm_HoI cd_HoI ct_HoI) (me_HoW : MeI K CHo "word" "Home.word" sHoWord .none f_HoW od_HoW an_HoW sl_HoW oc_HoW kV_HoW dc_HoW pm_HoW cd_HoW ct_HoW) (me_HoL : MeI K CHo "losers" "Home.losers" J4g .none f_HoL od_HoL an_HoL sl_HoL oc_HoL kV_HoL dc_HoL pm_HoL cd_HoL ct_HoL) (me_HoB : MeI K CHo "behind" "Home.behind" J4h .none f_HoB od_HoB an_HoB sl_HoB oc_HoB kV_HoB dc_HoB pm_HoB cd_HoB ct_HoB) (me_EvI : MeI K CEv "__init__" "Even.__init__" sEvInit .none f_EvI od_EvI an_EvI sl_EvI oc_EvI kV_EvI dc_EvI pm_EvI cd_EvI ct_EvI) (me_EvW : MeI K CEv "word" "Even.word" sEvWord .none f_EvW od_EvW an_EvW sl_EvW oc_EvW kV_EvW dc_EvW pm_EvW cd_EvW ct_EvW) (me_EvB : MeI K CEv "behind" "Even.behind" J4i .none f_EvB od_EvB an_EvB sl_EvB oc_EvB kV_EvB dc_EvB pm_EvB cd_EvB ct_EvB) (me_OvI : MeI K COv "__init__" "Over.__init__" sOvInit .none f_OvI od_OvI an_OvI sl_OvI oc_OvI kV_OvI dc_OvI pm_OvI cd_OvI ct_OvI) (me_OvW : MeI K COv "word" "Over.word" sOvWord .none f_OvW od_OvW an_OvW sl_OvW oc_OvW kV_OvW dc_OvW pm_OvW cd_OvW ct_OvW) (me_OvB : MeI K COv "behind" "Over.behind" J4d .none f_OvB od_OvB an_OvB sl_OvB oc_OvB kV_OvB dc_OvB pm_OvB cd_OvB ct_OvB) (me_UnI : MeI K CUn "__init__" "Under.__init__" sUnInit .none f_UnI od_UnI an_UnI sl_UnI oc_UnI kV_UnI dc_UnI pm_UnI cd_UnI ct_UnI) (me_UnW : MeI K CUn "word" "Under.word" sUnWord .none f_UnW od_UnW an_UnW sl_UnW oc_UnW kV_UnW dc_UnW pm_UnW cd_UnW ct_UnW) (me_UnB : MeI K CUn "behind" "Under.behind" J4b .none f_UnB od_UnB an_UnB sl_UnB oc_UnB kV_UnB dc_UnB pm_UnB cd_UnB ct_UnB) (me_OsI : MeI K COs "__init__" "Overs.__init__" sOsInit .none f_OsI od_OsI an_OsI sl_OsI oc_OsI kV_OsI dc_OsI pm_OsI cd_OsI ct_OsI) (me_OsW : MeI K COs "word" "Overs.word" sOsWord .none f_OsW od_OsW an_OsW sl_OsW oc_OsW kV_OsW dc_OsW pm_OsW cd_OsW ct_OsW) (me_OsL : MeI K COs "losers" "Overs.losers" J4e .none f_OsL od_OsL an_OsL sl_OsL oc_OsL kV_OsL dc_OsL pm_OsL cd_OsL ct_OsL) (me_OsB : MeI K COs "behind" "Overs.behind" J4f .none f_OsB od_OsB an_OsB sl_OsB oc_OsB kV_OsB dc_OsB pm_OsB cd_OsB ct_OsB) (me_UsI : MeI K CUs "__init__" "Unders.__init__" sUsInit .none f_UsI od_UsI an_UsI sl_UsI oc_UsI kV_UsI dc_UsI pm_UsI cd_UsI ct_UsI) (me_UsW : MeI K CUs "word" "Unders.word" sUsWord .none f_UsW od_UsW an_UsW sl_UsW oc_UsW kV_UsW dc_UsW pm_UsW cd_UsW ct_UsW) (me_UsL : MeI K CUs "losers" "Unders.losers" J49 .none f_UsL od_UsL an_UsL sl_UsL oc_UsL kV_UsL dc_UsL pm_UsL cd_UsL ct_UsL) (me_UsB : MeI K CUs "behind" "Unders.behind" J4a .none f_UsB od_UsB an_UsB sl_UsB oc_UsB kV_UsB dc_UsB pm_UsB cd_UsB ct_UsB) (pg_L : ClI K C) (mk_L : MkI K C) (n_L_lengths : FnI K C "lengths") (n_L_order : FnI K C "order") (n_L_turned : FnI K C "turned") (n_L_starts : FnI K C "starts") (n_L_laid : FnI K C "laid") (n_L_size : FnI K C "size") (pg_R : ClI K CR) (mk_R : MkI K CR) (n_R_top : FnI K CR "top") (n_R_bottom : FnI K CR "bottom") (n_R_lengths : FnI K CR "lengths") (n_R_turned : FnI K CR "turned") (n_R_size : FnI K CR "size") (pg_H : ClI K CH) (mk_H : MkI K CH) (n_H_line : FnI K CH "line") (n_H_rests : FnI K CH "rests") (n_H_steps : FnI K CH "steps") (n_H_towers : FnI K CH "towers") (n_H_bands : FnI K CH "bands") (pg_W : ClI K CW) (mk_W : MkI K CW) (n_W_first : FnI K CW "first") (n_W_length : FnI K CW "length") (n_W_laid : FnI K CW "laid") (n_W_turned : FnI K CW "turned") (pg_Y : ClI K CAr) (mk_Y : MkI K CAr) (n_Y_above : FnI K CAr "above") (n_Y_below : FnI K CAr "below") (n_Y_size : FnI K CAr "size") (n_Y_line : FnI K CAr "line") (n_Y_chart : FnI K CAr "chart") (pg_St : ClI K CSt) (pg_Ho : ClI K CHo) (mk_Ho : MkI K CHo) (n_Ho_winner : FnI K CHo "winner") (n_Ho_loser : FnI K CHo "loser") (n_Ho_times : FnI K CHo "times") (ih_Ev_losers : FiI K CEv "losers" f_StL) (pg_Ev : ClI K CEv) (mk_Ev : MkI K CEv) (n_Ev_winner : FnI K CEv "winner") (n_Ev_loser : FnI K CEv "loser") (n_Ev_times : FnI K CEv "times") (ih_Ov_losers : FiI K COv "losers" f_StL) (pg_Ov : ClI K COv) (mk_Ov : MkI K COv) (n_Ov_winner : FnI K COv "winner") (n_Ov_loser : FnI K COv "loser") (n_Ov_times : FnI K COv "times") (ih_Un_losers : FiI K CUn "losers" f_StL) (pg_Un : ClI K CUn) (mk_Un : MkI K CUn) (n_Un_winner : FnI K CUn "winner") (n_Un_loser : FnI K CUn "loser") (n_Un_times : FnI K CUn "times") (pg_Os : ClI K COs) (mk_Os : MkI K COs) (n_Os_winner : FnI K COs "winner") (n_Os_loser : FnI K COs "loser") (n_Os_times : FnI K COs "times") (pg_Us : ClI K CUs) (mk_Us : MkI K CUs) (n_Us_winner : FnI K CUs "winner") (n_Us_loser : FnI K CUs "loser") (n_Us_times : FnI K CUs "times") (z_len : NzI K "len") (z_min : NzI K "min") (z_max : NzI K "max") (z_sum : NzI K "sum") (z_sorted : NzI K "sorted") (z_list : NzI K "list") (z_range : NzI K "range") (z_tuple : NzI K "tuple") (z_isinstance : NzI K "isinstance") (z_int : NzI K "int") (z_bool : NzI K "bool") (z_enumerate : NzI K "enumerate") (z_abs : NzI K "abs") (z_ValueError : NzI K "ValueError") (v_MOST_PIECES : nsIn K mainGlobals "MOST_PIECES" = some (some (.int 24 t_MOST_PIECES))) (v_MOST_BLOCKS : nsIn K mainGlobals "MOST_BLOCKS" = some (some (.int 12 t_MOST_BLOCKS))) (aTooMany : nsIn K mainGlobals "TooMany" = some (some (.ref CTooMany))) (xTooMany : excIn K CTooMany bmV "ValueError.__new__" = true) (aUnlike : nsIn K mainGlobals "Unlike" = some (some (.ref CUnlike))) (xUnlike : excIn K CUnlike bmV "ValueError.__new__" = true) (aBadArches : nsIn K mainGlobals "BadArches" = some (some (.ref CBadArches))) (xBadArches : excIn K CBadArches bmV "ValueError.__new__" = true) (aOutside : nsIn K mainGlobals "Outside" = some (some (.ref COutside))) (xOutside : excIn K COutside bmV "ValueError.__new__" = true) (sbB : specialIn K (.ref CSt) "__getattribute__" = some (some (.builtin "type.__getattribute__"))) (rdB : readsIn K CSt (.type "type") = true) (fdB : findCls K (.ref CSt) (.type "type") "__init__" = some (.val (.ref f_StI))) (hcc0 : cd30 = .ref cc) (hcd0 : PySem.W.codeHdIn K cc TB = true) (hcc1 : cd32 = .ref cj) (hcd1 : PySem.W.codeHdIn K cj TJ = true) (aLE : nsIn K mainGlobals "LineError" = some (some (.ref CL))) (sget : specialIn K (.builtin "object.__class__") "__get__" = some (some (.builtin "getset_descriptor.__get__"))) (stk : takesIn K (.builtin "object.__class__") = some true) (iha : findIn K (.ref C) "__class__" = some (some (.builtin "object.__class__"))) (ihm : mroIn K C (.type "object") = some true) (bga : findIn K (.ref COutside) "__getattribute__" = some (some (.builtin "BaseException.__getattribute__"))) (bno : findIn K (.ref COutside) "__getattr__" = some none) (bcl : findIn K (.ref COutside) "__class__" = some (some (.builtin "object.__class__"))) (bmo : mroIn K COutside (.type "object") = some true) (bmb : mroIn K COutside (.type "BaseException") = some true) (bhd : hasDictIn K COutside = true) (bxm : exmOne K (.ref COutside) (.ref CL) = some true) (bkb : kitOne K (.ref COutside) (.ref COutside) = some true) (ktL : kitOne K (.ref C) (.ref C) = some true) (nt : (TB != TJ) = true)
    : (∀ P ∈ [TB, TJ], ∃ c, PySem.W.codeHdIn K c P = true) /\ ∃ fd : FuncData, (∀ (s : Shared) (v : Value), BindsTo s fd ⟨[v], []⟩ [("script", v)]) /\ ∀ base : Heap, K.In base -> base.Ns mainGlobals mg -> (∀ P ∈ [TB, TJ], BltAt base mg P) -> FnOk l.prog w K mg base CX0 10 fa fd ["script"] (spLaw K TB TJ) := by
  refine ⟨fun P hP => by
    simp only [mem_cons, not_mem_nil, or_false] at hP;rcases hP with rfl | rfl
    · exact ⟨_, hcd0⟩
    · exact ⟨_, hcd1⟩, ?_⟩
  have e := hfa.symm.trans (mg_of X G d51.1);cases e;obtain ⟨F0, m0, k0⟩ := dfn X G d0;have b0 := F0.binds (ps := ["firsts", "lengths", "x"]) fun _ _ _ _ _ _ => usOf3 fun _ _ _ => rfl
  obtain ⟨F1, m1, k1⟩ := dfn X G d1;have b1 := F1.binds (ps := ["line", "piece", "offset", "firsts"]) fun _ _ _ _ _ _ => usOf4 fun _ _ _ _ => rfl
  obtain ⟨F2, m2, k2⟩ := dfn X G d2;have b2 := F2.binds (ps := ["line", "x"]) fun _ _ _ _ _ _ => usOf2 fun _ _ => rfl
  obtain ⟨F3, m3, k3⟩ := dfn X G d3;have b3 := F3.binds (ps := ["line", "x"]) fun _ _ _ _ _ _ => usOf2 fun _ _ => rfl
  obtain ⟨F4, m4, k4⟩ := dfn X G d4;have b4 := F4.binds (ps := ["lengths"]) fun _ _ _ _ _ _ => usOf1 fun _ => rfl
  obtain ⟨F5, m5, k5⟩ := dfn X G d5;have b5 := F5.binds (ps := ["order", "pieces"]) fun _ _ _ _ _ _ => usOf2 fun _ _ => rfl
  obtain ⟨F6, m6, k6⟩ := dfn X G d6;have b6 := F6.binds (ps := ["turned", "pieces"]) fun _ _ _ _ _ _ => usOf2 fun _ _ => rfl
  obtain ⟨F7, m7, k7⟩ := dfn X G d7;have b7 := F7.binds (ps := ["turned", "pieces"]) fun _ _ _ _ _ _ => usOf2 fun _ _ => rfl
  obtain ⟨F8, m8, k8⟩ := dfn X G d8;have b8 := F8.binds (ps := ["lengths", "order"]) fun _ _ _ _ _ _ => usOf2 fun _ _ => rfl
  obtain ⟨F9, m9, k9⟩ := dfn X G d9;have b9 := F9.binds (ps := ["rest", "letters"]) fun _ _ _ _ _ _ => usOf2 fun _ _ => rfl
  obtain ⟨F10, m10, k10⟩ := dfn X G d10;have b10 := F10.binds (ps := ["line"]) fun _ _ _ _ _ _ => usOf1 fun _ => rfl
  obtain ⟨F11, m11, k11⟩ := dfn X G d11;have b11 := F11.binds (ps := ["row", "letter"]) fun _ _ _ _ _ _ => usOf2 fun _ _ => rfl
  obtain ⟨F12, m12, k12⟩ := dfn X G d12;have b12 := F12.binds (ps := ["row", "letter"]) fun _ _ _ _ _ _ => usOf2 fun _ _ => rfl
  obtain ⟨F13, m13, k13⟩ := dfn X G d13;have b13 := F13.binds (ps := ["row", "winner", "loser", "ahead"]) fun _ _ _ _ _ _ => usOf4 fun _ _ _ _ => rfl
  obtain ⟨F14, m14, k14⟩ := dfn X G d14;have b14 := F14.binds (ps := ["row", "letter", "entry"]) fun _ _ _ _ _ _ => usOf3 fun _ _ _ => rfl
  obtain ⟨F15, m15, k15⟩ := dfn X G d15;have b15 := F15.binds (ps := ["rest", "winner", "less"]) fun _ _ _ _ _ _ => usOf3 fun _ _ _ => rfl
  obtain ⟨F16, m16, k16⟩ := dfn X G d16;have b16 := F16.binds (ps := ["rest", "winner", "loser"]) fun _ _ _ _ _ _ => usOf3 fun _ _ _ => rfl
  obtain ⟨F17, m17, k17⟩ := dfn X G d17;have b17 := F17.binds (ps := ["rest", "winner", "row"]) fun _ _ _ _ _ _ => usOf3 fun _ _ _ => rfl
  obtain ⟨F18, m18, k18⟩ := dfn X G d18;have b18 := F18.binds (ps := ["rest", "winner", "loser"]) fun _ _ _ _ _ _ => usOf3 fun _ _ _ => rfl
  obtain ⟨F19, m19, k19⟩ := dfn X G d19;have b19 := F19.binds (ps := ["rest", "winner", "loser"]) fun _ _ _ _ _ _ => usOf3 fun _ _ _ => rfl
  obtain ⟨F20, m20, k20⟩ := dfn X G d20;have b20 := F20.binds (ps := ["rest"]) fun _ _ _ _ _ _ => usOf1 fun _ => rfl
  obtain ⟨F21, m21, k21⟩ := dfn X G d21;have b21 := F21.binds (ps := ["line"]) fun _ _ _ _ _ _ => usOf1 fun _ => rfl
  obtain ⟨F22, m22, k22⟩ := dfn X G d22;have b22 := F22.binds (ps := ["towers", "step", "rest", "behind"]) fun _ _ _ _ _ _ => usOf4 fun _ _ _ _ => rfl
  obtain ⟨F23, m23, k23⟩ := dfn X G d23;have b23 := F23.binds (ps := ["step", "rest", "behind", "towers"]) fun _ _ _ _ _ _ => usOf4 fun _ _ _ _ => rfl
  obtain ⟨F24, m24, k24⟩ := dfn X G d24;have b24 := F24.binds (ps := ["line"]) fun _ _ _ _ _ _ => usOf1 fun _ => rfl
  obtain ⟨F25, m25, k25⟩ := dfn X G d25;have b25 := F25.binds (ps := ["stretch"]) fun _ _ _ _ _ _ => usOf1 fun _ => rfl
  obtain ⟨F26, m26, k26⟩ := dfn X G d26;have b26 := F26.binds (ps := ["stretch"]) fun _ _ _ _ _ _ => usOf1 fun _ => rfl
  obtain ⟨F27, m27, k27⟩ := dfn X G d27;have b27 := F27.binds (ps := ["one", "two"]) fun _ _ _ _ _ _ => usOf2 fun _ _ => rfl
  obtain ⟨F28, m28, k28⟩ := dfn X G d28;have b28 := F28.binds (ps := ["one", "two"]) fun _ _ _ _ _ _ => usOf2 fun _ _ => rfl
  obtain ⟨F29, m29, k29⟩ := dfn X G d29;have b29 := F29.binds (ps := ["stretches"]) fun _ _ _ _ _ _ => usOf1 fun _ => rfl
  obtain ⟨F30, m30, k30⟩ := dfn X G d30;have b30 := F30.binds (ps := ["stretches"]) fun _ _ _ _ _ _ => usOf1 fun _ => rfl
  obtain ⟨F31, m31, k31⟩ := dfn X G d31;have b31 := F31.binds (ps := ["one", "two"]) fun _ _ _ _ _ _ => usOf2 fun _ _ => rfl
  obtain ⟨F32, m32, k32⟩ := dfn X G d32;have b32 := F32.binds (ps := ["ones", "twos"]) fun _ _ _ _ _ _ => usOf2 fun _ _ => rfl
  obtain ⟨F33, m33, k33⟩ := dfn X G d33;have b33 := F33.binds (ps := ["stretches"]) fun _ _ _ _ _ _ => usOf1 fun _ => rfl
  obtain ⟨F34, m34, k34⟩ := dfn X G d34;have b34 := F34.binds (ps := ["one", "two"]) fun _ _ _ _ _ _ => usOf2 fun _ _ => rfl
  obtain ⟨F35, m35, k35⟩ := dfn X G d35;have b35 := F35.binds (ps := ["lengths"]) fun _ _ _ _ _ _ => usOf1 fun _ => rfl
  obtain ⟨F36, m36, k36⟩ := dfn X G d36;have b36 := F36.binds (ps := ["above", "below"]) fun _ _ _ _ _ _ => usOf2 fun _ _ => rfl
  obtain ⟨F37, m37, k37⟩ := dfn X G d37;have b37 := F37.binds (ps := ["lengths"]) fun _ _ _ _ _ _ => usOf1 fun _ => rfl
  obtain ⟨F38, m38, k38⟩ := dfn X G d38;have b38 := F38.binds (ps := ["lengths", "x"]) fun _ _ _ _ _ _ => usOf2 fun _ _ => rfl
  obtain ⟨F39, m39, k39⟩ := dfn X G d39;have b39 := F39.binds (ps := ["arches", "x"]) fun _ _ _ _ _ _ => usOf2 fun _ _ => rfl
  obtain ⟨F40, m40, k40⟩ := dfn X G d40;have b40 := F40.binds (ps := ["arches", "x"]) fun _ _ _ _ _ _ => usOf2 fun _ _ => rfl
  obtain ⟨F41, m41, k41⟩ := dfn X G d41;have b41 := F41.binds (ps := ["script", "k"]) fun _ _ _ _ _ _ => usOf2 fun _ _ => rfl
  obtain ⟨F42, m42, k42⟩ := dfn X G d42;have b42 := F42.binds (ps := ["found"]) fun _ _ _ _ _ _ => usOf1 fun _ => rfl
  obtain ⟨F43, m43, k43⟩ := dfn X G d43;have b43 := F43.binds (ps := ["script", "many", "span"]) fun _ _ _ _ _ _ => usOf3 fun _ _ _ => rfl
  obtain ⟨F44, m44, k44⟩ := dfn X G d44;have b44 := F44.binds (ps := ["script", "total", "many"]) fun _ _ _ _ _ _ => usOf3 fun _ _ _ => rfl
  obtain ⟨F45, m45, k45⟩ := dfn X G d45;have b45 := F45.binds (ps := ["script", "spans"]) fun _ _ _ _ _ _ => usOf2 fun _ _ => rfl
  obtain ⟨F46, m46, k46⟩ := dfn X G d46;have b46 := F46.binds (ps := ["blocks", "x"]) fun _ _ _ _ _ _ => usOf2 fun _ _ => rfl
  obtain ⟨F47, m47, k47⟩ := dfn X G d47;have b47 := F47.binds (ps := ["side", "arches", "x"]) fun _ _ _ _ _ _ => usOf3 fun _ _ _ => rfl
  obtain ⟨F48, m48, k48⟩ := dfn X G d48;have b48 := F48.binds (ps := ["side", "arches", "x"]) fun _ _ _ _ _ _ => usOf3 fun _ _ _ => rfl
  obtain ⟨F49, m49, k49⟩ := dfn X G d49;have b49 := F49.binds (ps := ["side", "arches", "blocks", "x"]) fun _ _ _ _ _ _ => usOf4 fun _ _ _ _ => rfl
  obtain ⟨F50, m50, k50⟩ := dfn X G d50;have b50 := F50.binds (ps := ["line"]) fun _ _ _ _ _ _ => usOf1 fun _ => rfl
  obtain ⟨F51, m51, k51⟩ := dfn X G d51;have b51 := F51.binds (ps := ["script"]) fun _ _ _ _ _ _ => usOf1 fun _ => rfl
  have mg_L := mg_of X G a_L;have cl_L := clf pg_L;have F_LI : FunD K "__init__" "Line.__init__" sInit f_LI _ TD := ⟨⟨oc_LI, od_LI, kV_LI, dc_LI, pm_LI, an_LI, cd_LI, ct_LI, sl_LI, rfl, me_LI.2.2.1, me_LI.2.2.2.1⟩, me_LI.2.2.2.2⟩;obtain ⟨b_LI, b1_LI⟩ := dflt_binds F_LI lT ["self", "lengths", "order", "turned"] (fun _ _ _ _ _ _ us hl => match us, hl with | [_, _, _, _], _ => ⟨_, rfl, rfl⟩) (fun _ _ _ _ _ _ us hl => match us, (show us.length = 3 by simpa using hl) with | [_, _, _], _ => ⟨_, rfl, rfl⟩);have mg_R := mg_of X G a_R;have cl_R := clf pg_R;have F_RI := J1e me_RI.2.2.1 me_RI.2.2.2.1 me_RI.2.2.2.2;have b_RI := F_RI.binds (ps := ["self", "top", "bottom", "lengths", "turned"]) fun _ _ _ _ _ _ => usOf5 fun _ _ _ _ _ => rfl
  have mg_H := mg_of X G a_H;have cl_H := clf pg_H;have F_HI := J1e me_HI.2.2.1 me_HI.2.2.2.1 me_HI.2.2.2.2;have b_HI := F_HI.binds (ps := ["self", "line"]) fun _ _ _ _ _ _ => usOf2 fun _ _ => rfl
  have mg_W := mg_of X G a_W;have cl_W := clf pg_W;have F_WI := J1e me_WI.2.2.1 me_WI.2.2.2.1 me_WI.2.2.2.2;have b_WI := F_WI.binds (ps := ["self", "first", "length", "laid", "turned"]) fun _ _ _ _ _ _ => usOf5 fun _ _ _ _ _ => rfl
  have mg_Y := mg_of X G a_Y;have cl_Y := clf pg_Y;have F_YI := J1e me_YI.2.2.1 me_YI.2.2.2.1 me_YI.2.2.2.2;have b_YI := F_YI.binds (ps := ["self", "above", "below"]) fun _ _ _ _ _ _ => usOf3 fun _ _ _ => rfl
  have mg_St := mg_of X G a_St;have cl_St := clf pg_St;have F_StI := J1e me_StI.2.2.1 me_StI.2.2.2.1 me_StI.2.2.2.2;have b_StI := F_StI.binds (ps := ["self", "winner", "loser", "times"]) fun _ _ _ _ _ _ => usOf4 fun _ _ _ _ => rfl
  have F_StL := J1e me_StL.2.2.1 me_StL.2.2.2.1 me_StL.2.2.2.2;have b_StL := F_StL.binds (ps := ["self", "rest"]) fun _ _ _ _ _ _ => usOf2 fun _ _ => rfl
  have mg_Ho := mg_of X G a_Ho;have cl_Ho := clf pg_Ho;have F_HoI := J1e me_HoI.2.2.1 me_HoI.2.2.2.1 me_HoI.2.2.2.2;have b_HoI := F_HoI.binds (ps := ["self", "winner"]) fun _ _ _ _ _ _ => usOf2 fun _ _ => rfl
  have F_HoW := J1e me_HoW.2.2.1 me_HoW.2.2.2.1 me_HoW.2.2.2.2;have b_HoW := F_HoW.binds (ps := ["self"]) fun _ _ _ _ _ _ => usOf1 fun _ => rfl
  have F_HoL := J1e me_HoL.2.2.1 me_HoL.2.2.2.1 me_HoL.2.2.2.2;have b_HoL := F_HoL.binds (ps := ["self", "rest"]) fun _ _ _ _ _ _ => usOf2 fun _ _ => rfl
  have F_HoB := J1e me_HoB.2.2.1 me_HoB.2.2.2.1 me_HoB.2.2.2.2;have b_HoB := F_HoB.binds (ps := ["self", "rest"]) fun _ _ _ _ _ _ => usOf2 fun _ _ => rfl
  have mg_Ev := mg_of X G a_Ev;have cl_Ev := clf pg_Ev;have F_EvI := J1e me_EvI.2.2.1 me_EvI.2.2.2.1 me_EvI.2.2.2.2;have b_EvI := F_EvI.binds (ps := ["self", "winner", "loser"]) fun _ _ _ _ _ _ => usOf3 fun _ _ _ => rfl
  have F_EvW := J1e me_EvW.2.2.1 me_EvW.2.2.2.1 me_EvW.2.2.2.2;have b_EvW := F_EvW.binds (ps := ["self"]) fun _ _ _ _ _ _ => usOf1 fun _ => rfl
  have F_EvB := J1e me_EvB.2.2.1 me_EvB.2.2.2.1 me_EvB.2.2.2.2;have b_EvB := F_EvB.binds (ps := ["self", "rest"]) fun _ _ _ _ _ _ => usOf2 fun _ _ => rfl
  have mg_Ov := mg_of X G a_Ov;have cl_Ov := clf pg_Ov;have F_OvI := J1e me_OvI.2.2.1 me_OvI.2.2.2.1 me_OvI.2.2.2.2;have b_OvI := F_OvI.binds (ps := ["self", "winner", "loser"]) fun _ _ _ _ _ _ => usOf3 fun _ _ _ => rfl
  have F_OvW := J1e me_OvW.2.2.1 me_OvW.2.2.2.1 me_OvW.2.2.2.2;have b_OvW := F_OvW.binds (ps := ["self"]) fun _ _ _ _ _ _ => usOf1 fun _ => rfl
  have F_OvB := J1e me_OvB.2.2.1 me_OvB.2.2.2.1 me_OvB.2.2.2.2;have b_OvB := F_OvB.binds (ps := ["self", "rest"]) fun _ _ _ _ _ _ => usOf2 fun _ _ => rfl
  have mg_Un := mg_of X G a_Un;have cl_Un := clf pg_Un;have F_UnI := J1e me_UnI.2.2.1 me_UnI.2.2.2.1 me_UnI.2.2.2.2;have b_UnI := F_UnI.binds (ps := ["self", "winner", "loser"]) fun _ _ _ _ _ _ => usOf3 fun _ _ _ => rfl
  have F_UnW := J1e me_UnW.2.2.1 me_UnW.2.2.2.1 me_UnW.2.2.2.2;have b_UnW := F_UnW.binds (ps := ["self"]) fun _ _ _ _ _ _ => usOf1 fun _ => rfl
  have F_UnB := J1e me_UnB.2.2.1 me_UnB.2.2.2.1 me_UnB.2.2.2.2;have b_UnB := F_UnB.binds (ps := ["self", "rest"]) fun _ _ _ _ _ _ => usOf2 fun _ _ => rfl
  have mg_Os := mg_of X G a_Os;have cl_Os := clf pg_Os;have F_OsI := J1e me_OsI.2.2.1 me_OsI.2.2.2.1 me_OsI.2.2.2.2;have b_OsI := F_OsI.binds (ps := ["self", "winner", "times"]) fun _ _ _ _ _ _ => usOf3 fun _ _ _ => rfl
  have F_OsW := J1e me_OsW.2.2.1 me_OsW.2.2.2.1 me_OsW.2.2.2.2;have b_OsW := F_OsW.binds (ps := ["self"]) fun _ _ _ _ _ _ => usOf1 fun _ => rfl
  have F_OsL := J1e me_OsL.2.2.1 me_OsL.2.2.2.1 me_OsL.2.2.2.2;have b_OsL := F_OsL.binds (ps := ["self", "rest"]) fun _ _ _ _ _ _ => usOf2 fun _ _ => rfl
  have F_OsB := J1e me_OsB.2.2.1 me_OsB.2.2.2.1 me_OsB.2.2.2.2;have b_OsB := F_OsB.binds (ps := ["self", "rest"]) fun _ _ _ _ _ _ => usOf2 fun _ _ => rfl
  have mg_Us := mg_of X G a_Us;have cl_Us := clf pg_Us;have F_UsI := J1e me_UsI.2.2.1 me_UsI.2.2.2.1 me_UsI.2.2.2.2;have b_UsI := F_UsI.binds (ps := ["self", "winner", "times"]) fun _ _ _ _ _ _ => usOf3 fun _ _ _ => rfl
  have F_UsW := J1e me_UsW.2.2.1 me_UsW.2.2.2.1 me_UsW.2.2.2.2;have b_UsW := F_UsW.binds (ps := ["self"]) fun _ _ _ _ _ _ => usOf1 fun _ => rfl
  have F_UsL := J1e me_UsL.2.2.1 me_UsL.2.2.2.1 me_UsL.2.2.2.2;have b_UsL := F_UsL.binds (ps := ["self", "rest"]) fun _ _ _ _ _ _ => usOf2 fun _ _ => rfl
  have F_UsB := J1e me_UsB.2.2.1 me_UsB.2.2.2.1 me_UsB.2.2.2.2;have b_UsB := F_UsB.binds (ps := ["self", "rest"]) fun _ _ _ _ _ _ => usOf2 fun _ _ => rfl
  have T0 : Txt K mg := ⟨mg_none_of X G z_len, mg_none_of X G z_min, mg_none_of X G z_sum, mg_none_of X G z_sorted, mg_none_of X G z_list, mg_none_of X G z_range, mg_none_of X G z_tuple, ⟨_, mg_of X G v_MOST_PIECES⟩⟩;have T : TxtR mg := ⟨mg_none_of X G z_len, mg_none_of X G z_sum, mg_none_of X G z_tuple, mg_none_of X G z_list, mg_none_of X G z_range⟩;have TC : TxtC K mg C := ⟨cl_L, n_L_lengths, n_L_order, n_L_turned, n_L_starts, n_L_laid, n_L_size⟩;have TR : TxtRest K CR := ⟨cl_R, n_R_top, n_R_bottom, n_R_lengths, n_R_turned, n_R_size⟩;have TH : TxtCh K CH := ⟨cl_H, n_H_line, n_H_rests, n_H_steps, n_H_towers, n_H_bands⟩;have TL : TxtL K mg := ⟨mg_none_of X G z_isinstance, mg_none_of X G z_int, mg_none_of X G z_bool, kib K⟩;have TTooMany : TxtX K mg "TooMany" CTooMany := ⟨mg_of X G aTooMany, xTooMany⟩;have TUnlike : TxtX K mg "Unlike" CUnlike := ⟨mg_of X G aUnlike, xUnlike⟩;have TBadArches : TxtX K mg "BadArches" CBadArches := ⟨mg_of X G aBadArches, xBadArches⟩;have TOutside : TxtX K mg "Outside" COutside := ⟨mg_of X G aOutside, xOutside⟩;have hcs : ∃ cs : Kd -> Addr, cs = csOf CHo CEv COv CUn COs CUs := ⟨_, rfl⟩;obtain ⟨cs, hcs⟩ := hcs;have TS : TxtS K cs := by
    subst hcs;exact ⟨fun k => match k with | .ho => cl_Ho | .ev => cl_Ev | .ov => cl_Ov | .un => cl_Un | .os => cl_Os | .us => cl_Us, fun k => match k with | .ho => n_Ho_winner | .ev => n_Ev_winner | .ov => n_Ov_winner | .un => n_Un_winner | .os => n_Os_winner | .us => n_Us_winner, fun k => match k with | .ho => n_Ho_loser | .ev => n_Ev_loser | .ov => n_Ov_loser | .un => n_Un_loser | .os => n_Os_loser | .us => n_Us_loser, fun k => match k with | .ho => n_Ho_times | .ev => n_Ev_times | .ov => n_Ov_times | .un => n_Un_times | .os => n_Os_times | .us => n_Us_times⟩
  have BM : BaseM K CSt "__init__" f_StI := ⟨sbB, rdB, fdB, me_StI.2.2.2.2⟩;have MHo : Mk K (cs .ho) f_HoI := by
    subst hcs;exact ⟨mk_Ho.1, me_HoI.1, me_HoI.2.1, mk_Ho.2⟩
  have m_Ho : mg "Home" = some (.ref (cs .ho)) := by
    subst hcs;exact mg_Ho
  have ClHo : Cls K (cs .ho) := TS.cl _;have Me_Ho_W : Meth K (cs .ho) "word" f_HoW := by
    subst hcs;exact ⟨me_HoW.1, me_HoW.2.1, me_HoW.2.2.2.2⟩
  have Me_Ho_L : Meth K (cs .ho) "losers" f_HoL := by
    subst hcs;exact ⟨me_HoL.1, me_HoL.2.1, me_HoL.2.2.2.2⟩
  have Me_Ho_B : Meth K (cs .ho) "behind" f_HoB := by
    subst hcs;exact ⟨me_HoB.1, me_HoB.2.1, me_HoB.2.2.2.2⟩
  have MEv : Mk K (cs .ev) f_EvI := by
    subst hcs;exact ⟨mk_Ev.1, me_EvI.1, me_EvI.2.1, mk_Ev.2⟩
  have m_Ev : mg "Even" = some (.ref (cs .ev)) := by
    subst hcs;exact mg_Ev
  have ClEv : Cls K (cs .ev) := TS.cl _;have Me_Ev_W : Meth K (cs .ev) "word" f_EvW := by
    subst hcs;exact ⟨me_EvW.1, me_EvW.2.1, me_EvW.2.2.2.2⟩
  have Me_Ev_L : Meth K (cs .ev) "losers" f_StL := by
    subst hcs;exact ⟨ih_Ev_losers, me_StL.2.1, me_StL.2.2.2.2⟩
  have Me_Ev_B : Meth K (cs .ev) "behind" f_EvB := by
    subst hcs;exact ⟨me_EvB.1, me_EvB.2.1, me_EvB.2.2.2.2⟩
  have MOv : Mk K (cs .ov) f_OvI := by
    subst hcs;exact ⟨mk_Ov.1, me_OvI.1, me_OvI.2.1, mk_Ov.2⟩
  have m_Ov : mg "Over" = some (.ref (cs .ov)) := by
    subst hcs;exact mg_Ov
  have ClOv : Cls K (cs .ov) := TS.cl _;have Me_Ov_W : Meth K (cs .ov) "word" f_OvW := by
    subst hcs;exact ⟨me_OvW.1, me_OvW.2.1, me_OvW.2.2.2.2⟩
  have Me_Ov_L : Meth K (cs .ov) "losers" f_StL := by
    subst hcs;exact ⟨ih_Ov_losers, me_StL.2.1, me_StL.2.2.2.2⟩
  have Me_Ov_B : Meth K (cs .ov) "behind" f_OvB := by
    subst hcs;exact ⟨me_OvB.1, me_OvB.2.1, me_OvB.2.2.2.2⟩
  have MUn : Mk K (cs .un) f_UnI := by
    subst hcs;exact ⟨mk_Un.1, me_UnI.1, me_UnI.2.1, mk_Un.2⟩
  have m_Un : mg "Under" = some (.ref (cs .un)) := by
    subst hcs;exact mg_Un
  have ClUn : Cls K (cs .un) := TS.cl _;have Me_Un_W : Meth K (cs .un) "word" f_UnW := by
    subst hcs;exact ⟨me_UnW.1, me_UnW.2.1, me_UnW.2.2.2.2⟩
  have Me_Un_L : Meth K (cs .un) "losers" f_StL := by
    subst hcs;exact ⟨ih_Un_losers, me_StL.2.1, me_StL.2.2.2.2⟩
  have Me_Un_B : Meth K (cs .un) "behind" f_UnB := by
    subst hcs;exact ⟨me_UnB.1, me_UnB.2.1, me_UnB.2.2.2.2⟩
  have MOs : Mk K (cs .os) f_OsI := by
    subst hcs;exact ⟨mk_Os.1, me_OsI.1, me_OsI.2.1, mk_Os.2⟩
  have m_Os : mg "Overs" = some (.ref (cs .os)) := by
    subst hcs;exact mg_Os
  have ClOs : Cls K (cs .os) := TS.cl _;have Me_Os_W : Meth K (cs .os) "word" f_OsW := by
    subst hcs;exact ⟨me_OsW.1, me_OsW.2.1, me_OsW.2.2.2.2⟩
  have Me_Os_L : Meth K (cs .os) "losers" f_OsL := by
    subst hcs;exact ⟨me_OsL.1, me_OsL.2.1, me_OsL.2.2.2.2⟩
  have Me_Os_B : Meth K (cs .os) "behind" f_OsB := by
    subst hcs;exact ⟨me_OsB.1, me_OsB.2.1, me_OsB.2.2.2.2⟩
  have MUs : Mk K (cs .us) f_UsI := by
    subst hcs;exact ⟨mk_Us.1, me_UsI.1, me_UsI.2.1, mk_Us.2⟩
  have m_Us : mg "Unders" = some (.ref (cs .us)) := by
    subst hcs;exact mg_Us
  have ClUs : Cls K (cs .us) := TS.cl _;have Me_Us_W : Meth K (cs .us) "word" f_UsW := by
    subst hcs;exact ⟨me_UsW.1, me_UsW.2.1, me_UsW.2.2.2.2⟩
  have Me_Us_L : Meth K (cs .us) "losers" f_UsL := by
    subst hcs;exact ⟨me_UsL.1, me_UsL.2.1, me_UsL.2.2.2.2⟩
  have Me_Us_B : Meth K (cs .us) "behind" f_UsB := by
    subst hcs;exact ⟨me_UsB.1, me_UsB.2.1, me_UsB.2.2.2.2⟩
  refine ⟨fnOf "law" "law" (J26 sLaw) (J1j sLaw) (J6 sLaw) .none kV51 dc51 pm51 an51 cd51 ct51, fun s v => .of_eq rfl, fun base _ _ hBL => ?_⟩;have GF := ok_first (P := l.prog) (w := w) (base := base) F8 T;have GI := ok_init (P := l.prog) (w := w) (base := base) F_LI T0 TC (ok_refL F4 T0) b4 m4 k4 (ok_refO F5 T0) b5 m5 k5 (ok_told F7 T0 F6 b6 m6) b7 m7 k7 GF b8 m8 k8;have ML : Mk K C f_LI := ⟨mk_L.1, me_LI.1, me_LI.2.1, mk_L.2⟩;have GLn := ok_lenOf (P := l.prog) (w := w) (base := base) F9 T;have GRI := ok_rinit F_RI T TR GLn b9 m9 k9;have MR : Mk K CR f_RI := ⟨mk_R.1, me_RI.1, me_RI.2.1, mk_R.2⟩;have GRO := ok_restof F10 T TC MR GRI b_RI mg_R;have GBL := ok_behindL (P := l.prog) (w := w) (mg := mg) (base := base) F12;have bBL := b12;have mBL := m12;have kBL := k12;have GSI := ok_sinit (P := l.prog) (w := w) (mg := mg) (base := base) F_StI TS;have GHoI := ok_hoinit F_HoI BM mg_St GSI b_StI;have GEvI := ok_evinit F_EvI BM mg_St GSI b_StI;have GOvI := ok_ovinit F_OvI BM mg_St GSI b_StI;have GUnI := ok_uninit F_UnI BM mg_St GSI b_StI;have GOsI := ok_osinit F_OsI BM mg_St GSI b_StI;have GUsI := ok_usinit F_UsI BM mg_St GSI b_StI;have HW : ∀ k, HasM l.prog w K mg base CX0 1 "word" ["self"] (J46 k) (cs k) := fun k => match k with | .ho => ⟨_, _, ClHo, Me_Ho_W, ok_howord F_HoW, b_HoW⟩ | .ev => ⟨_, _, ClEv, Me_Ev_W, ok_evword F_EvW, b_EvW⟩ | .ov => ⟨_, _, ClOv, Me_Ov_W, ok_ovword F_OvW, b_OvW⟩ | .un => ⟨_, _, ClUn, Me_Un_W, ok_unword F_UnW, b_UnW⟩ | .os => ⟨_, _, ClOs, Me_Os_W, ok_osword F_OsW, b_OsW⟩ | .us => ⟨_, _, ClUs, Me_Us_W, ok_usword F_UsW, b_UsW⟩
  have HL : ∀ k, HasM l.prog w K mg base CX0 2 "losers" ["self", "rest"] (J1k cs CR k) (cs k) := fun k => match k with | .ho => ⟨_, _, ClHo, Me_Ho_L, ok_holosers F_HoL, b_HoL⟩ | .ev => ⟨_, _, ClEv, Me_Ev_L, J2y F_StL TS (.inl rfl), b_StL⟩ | .ov => ⟨_, _, ClOv, Me_Ov_L, J2y F_StL TS (.inr (.inl rfl)), b_StL⟩ | .un => ⟨_, _, ClUn, Me_Un_L, J2y F_StL TS (.inr (.inr rfl)), b_StL⟩ | .os => ⟨_, _, ClOs, Me_Os_L, ok_oslosers F_OsL TS TR GBL bBL mBL kBL, b_OsL⟩ | .us => ⟨_, _, ClUs, Me_Us_L, ok_uslosers F_UsL TS TR GBL bBL mBL kBL, b_UsL⟩
  have GWo := ok_without (P := l.prog) (w := w) (mg := mg) (base := base) F11;have GPu := ok_put F13 GWo b11 m11 k11;have GCh := ok_changed (P := l.prog) (w := w) (base := base) F14 T;have GSo := ok_short F15 TR GCh b14 m14 k14;have GTB := ok_turnsB F16 TR GCh b14 m14 k14;have HB : ∀ k, HasM l.prog w K mg base CX0 4 "behind" ["self", "rest"] (J1y cs CR k) (cs k) := fun k => match k with | .ho => ⟨_, _, ClHo, Me_Ho_B, ok_hobehind F_HoB TS TR GWo b11 m11 k11 GCh b14 m14 k14 MR GRI b_RI mg_R, b_HoB⟩ | .ev => ⟨_, _, ClEv, Me_Ev_B, ok_evbehind F_EvB TS TR GWo b11 m11 k11 GPu b13 m13 k13 GCh b14 m14 k14 GTB b16 m16 k16 MR GRI b_RI mg_R, b_EvB⟩ | .ov => ⟨_, _, ClOv, Me_Ov_B, ok_ovbehind F_OvB TS TR GPu b13 m13 k13 GSo b15 m15 k15 GTB b16 m16 k16 MR GRI b_RI mg_R, b_OvB⟩ | .un => ⟨_, _, ClUn, Me_Un_B, ok_unbehind F_UnB TS TR GPu b13 m13 k13 GSo b15 m15 k15 GTB b16 m16 k16 MR GRI b_RI mg_R, b_UnB⟩ | .os => ⟨_, _, ClOs, Me_Os_B, ok_osbehind F_OsB TS TR GLn b9 m9 k9 GSo b15 m15 k15 MR GRI b_RI mg_R HL, b_OsB⟩ | .us => ⟨_, _, ClUs, Me_Us_B, ok_usbehind F_UsB TS TR GLn b9 m9 k9 GSo b15 m15 k15 MR GRI b_RI mg_R HL, b_UsB⟩
  have GT := ok_times F17 TR GLn b9 m9 k9 GBL b12 m12 k12;have GO := ok_overs F18 TR GT b17 m17 k17 MOs GOsI b_OsI m_Os MOv GOvI b_OvI m_Ov;have GU := ok_unders F19 TR GT b17 m17 k17 MUs GUsI b_UsI m_Us MUn GUnI b_UnI m_Un;have GN := ok_next F20 TR MHo GHoI b_HoI m_Ho MEv GEvI b_EvI m_Ev GO b18 m18 k18 GU b19 m19 k19;have GFT := ok_firstT (P := l.prog) (w := w) (base := base) F21 T TC;have GTw := ok_towB (P := l.prog) (w := w) (base := base) F22 T (mg_none_of X G z_enumerate) TR TS HL;have GBa := ok_bandsL (P := l.prog) (w := w) (base := base) F23 TR TS HW;have GCI := ok_cinit F_HI T TR TS TH GRO b10 m10 k10 GFT b21 m21 k21 GN b20 m20 k20 HB GBa b23 m23 k23 GTw b22 m22 k22;have MH : Mk K CH f_HI := ⟨mk_H.1, me_HI.1, me_HI.2.1, mk_H.2⟩;have GC := ok_cell (P := l.prog) (w := w) (base := base) F41 T;have GW := ok_whole (P := l.prog) (w := w) (base := base) F42 TL;have TW : TxtSr K CW := ⟨cl_W, n_W_first, n_W_length, n_W_laid, n_W_turned⟩;have GSR := ok_sr (P := l.prog) (w := w) (mg := mg) (base := base) F_WI TW;have MSR : Mk K CW f_WI := ⟨mk_W.1, me_WI.1, me_WI.2.1, mk_W.2⟩;have GFG := ok_firstG (P := l.prog) (w := w) (mg := mg) (base := base) F25 TW;have GLG := ok_lastG (P := l.prog) (w := w) (mg := mg) (base := base) F26 TW;have GGT := ok_goTog F27 (mg_none_of X G z_abs) GFG b25 m25 k25 GLG b26 m26 k26;have GMO := ok_made1 F28 TW (mg_none_of X G z_min) MSR GSR b_WI mg_W;have GSO := ok_strOf F24 TC (mg_none_of X G z_enumerate) MSR GSR b_WI mg_W;have GLN := ok_longest F29 GGT b27 m27 k27 GMO b28 m28 k28;have BL0 := hBL TB (by simp);have BL1 := hBL TJ (by simp);have GLO := ok_lineOf F30 T (mg_none_of X G z_sorted) TW hcc0 hcd0 BL0 ML GI b_LI mg_L;have TBJ : TB ≠ TJ := by intro e; rw [e] at nt; simp at nt
  have GPB := ok_partsB F31 TW (mg_none_of X G z_max) (mg_none_of X G z_min) MSR GSR b_WI mg_W;have GJS := ok_joinS F32 T (mg_none_of X G z_sorted) TW hcc1 hcd1 BL1 GPB b31 m31 k31 GLN b29 m29 k29;have GLW := ok_lineWX F33 T (mg_of X G v_MOST_PIECES) TTooMany GLO b30 m30 k30;have GJD := ok_joinedX F34 TC TBJ TUnlike GLW b33 m33 k33 GJS b32 m32 k32 GSO b24 m24 k24;have TA : TxtAr K CAr := ⟨cl_Y, n_Y_above, n_Y_below, n_Y_size, n_Y_line, n_Y_chart⟩;have GRB := ok_refB (P := l.prog) (w := w) (base := base) F35 T (mg_none_of X G z_min) (mg_of X G v_MOST_BLOCKS) TBadArches;have GRS := ok_refS (P := l.prog) (w := w) (base := base) F36 T TBadArches;have GTBk := ok_turnB F37 T ML GI b_LI mg_L;have GAR := ok_arInit F_YI T TA GRB b35 m35 k35 GRS b36 m36 k36 GTBk b37 m37 k37 GJD b34 m34 k34 MH GCI b_HI mg_H;have MAR : Mk K CAr f_YI := ⟨mk_Y.1, me_YI.1, me_YI.2.1, mk_Y.2⟩;have GHd := ok_hold (P := l.prog) (w := w) (base := base) F0 (mg_none_of X G z_enumerate) TOutside;have GMv := ok_moved (P := l.prog) (w := w) (base := base) F1 TC;have GAt := ok_at F2 TC GHd b0 m0 k0;have GGo := ok_goes F3 TC GAt b2 m2 k2 GMv b1 m1 k1;have GOE := ok_otherE F38 GGo b3 m3 k3 GTBk b37 m37 k37;have GAA := ok_archA (C := C) (CH := CH) (CR := CR) (cs := cs) F39 TA GOE b38 m38 k38;have GAB := ok_archB (C := C) (CH := CH) (CR := CR) (cs := cs) F40 TA GOE b38 m38 k38;have GBk := ok_blocks (P := l.prog) (w := w) (base := base) F43 T;have GPt := ok_partedA (P := l.prog) (w := w) (base := base) F44 T (mg_none_of X G z_min);have GLA := ok_archesL F45 T GC b41 m41 k41 GBk b43 m43 k43 GPt b44 m44 k44;have GOt := ok_otherL (P := l.prog) (w := w) (mg := mg) (base := base) F46;have GAk := ok_askA F47 GAA b39 m39 k39 GAB b40 m40 k40;have TX : Tx52 K mg CL COutside := ⟨(mg_none_of X G z_isinstance), mg_of X G aLE, TOutside.mg, bxm, ⟨bga, bno, bcl, sget, stk, bmo, bmb, bhd⟩, bkb⟩;have GRf := ok_refusedO F48 TX GAk b47 m47 k47;have GRi := ok_rightA F49 GOt b46 m46 k46 GAk b47 m47 k47 GW b42 m42 k42;have GPl := ok_plainL F50 T TC (mg_none_of X G z_abs) GGo b3 m3 k3;have TI : TxtI K C := ⟨iha, sget, stk, ihm⟩;exact ok_law F51 T TA TC TH TI (mg_none_of X G z_isinstance) mg_L ktL GC b41 m41 k41 GLA b45 m45 k45 GRf b48 m48 k48 MAR GAR b_YI mg_Y GW b42 m42 k42 GRi b49 m49 k49 GOt b46 m46 k46 GGo b3 m3 k3 GPl b50 m50 k50
theorem walk {l:PySem.W.OpenLaw} {q:Program} {loose:List Str} {XP:(Str->Option Value)->Heap->Prop} {YP:World->Heap->Prop} {d:DefRec} {K:Params->PySem.W.Frag} {TB TJ:Addr} (hn:l.most=some 63) (hdf:d.params.defaults=[])
  (hY:∀ (w:World) (h:Heap),YP w h->(K w.params).In h/\∀ P∈[TB,TJ],h.get? P=some (PySem.W.tabObj #[]))
  (hP:∀ (w:World),∀ P∈[TB,TJ],(K w.params).lookup P=none)
  (F:∀ (w:World) (mg:Str->Option Value) (fa:Addr) (h:Heap),(K w.params).In h->h.Ns mainGlobals mg->mg d.name=some (.ref fa)->
   (∀ P∈[TB,TJ],∃ c,PySem.W.codeHdIn (K w.params) c P=true)/\∃ fd:FuncData,(∀ (s:Shared) (u:Value),BindsTo s fd ⟨[u],[]⟩ [("script",u)])/\∀ base:Heap,(K w.params).In base->base.Ns mainGlobals mg->(∀ P∈[TB,TJ],BltAt base mg P)->FnOk l.prog w (K w.params) mg base CX0 10 fa fd ["script"] (spLaw (K w.params) TB TJ)) :
  PySem.W.WalkO q loose XP YP l.row.toRowW d [] (fun f vs=>PySem.call f vs) :=
 L2.walk_ofU (n:=63) (k:=10) (x:="script") (CX:=fun _=>CX0) (sp:=fun w=>spLaw (K w.params) TB TJ) (Ps:=[TB,TJ]) hn (by decide) hdf ⟨rfl,by decide,by decide⟩ hY hP F (fun _ _ a ns hl hT hS=>⟨a,ns,rfl,hS,hl,TabOk.empty (hT TB (by simp)),TabOk.empty (hT TJ (by simp)),fun _=>rfl⟩) fun _ _ _ _ _ z=>z
end R52
open PySem PySem.W PyProof.Rows
namespace PySem.W.Fast
def tw3889024617998151902:=()
def tw10162864560535291374:=()
def tw9935349608252812640:=()
def tw2043699551873443700:=()
def tw11812563966562786367:=()
def tw15724306907272505010:=()
def tw702503604295386372:=()
def tw3489136919809397483:=()
def tw17218132372335807014:=()
def tw10336244168903603957:=()
def tw10783834284740538281:=()
def tw9199483823208257369:=()
def tw3383987843389977467:=()
def tw8384666394727915735:=()
def tw8455231525393899919:=()
def tw1966110507821144769:=()
def tw11659994492741593094:=()
def tw3011043767037080507:=()
def tw8766654713667810152:=()
def tw11480910463707251364:=()
def tw16200826153953217271:=()
def tw9115322489585416399:=()
def tw11682670452217333280:=()
def tw10135689763036880237:=()
end PySem.W.Fast
namespace PySem.W.Fast
def tw11939493383508115351:=()
def tw14667105683817133018:=()
def tw6049059751176914455:=()
def tw8301284012840992476:=()
def tw15762447356331799876:=()
def tw10995757481588011374:=()
def tw2659165026799662921:=()
def tw8229474794260590228:=()
def tw5736175400996351978:=()
def tw3195086272491191054:=()
def tw16736519388257475201:=()
def tw14001670630812478745:=()
def tw13001953501167973782:=()
def tw4759634845242633788:=()
def tw12388529109928407625:=()
def tw10661237313677071684:=()
def tw5165778939788471822:=()
def tw16995378790080458054:=()
def tw8999942185948563436:=()
def tw5729111653094010468:=()
def tw2958357813670998521:=()
def tw4235465666572406061:=()
def tw8985219599492174874:=()
def tw18435627027102735110:=()
def tw17050663259789023896:=()
def tw884729907162930198:=()
def tw2204989200754016806:=()
def tw18041893658263466215:=()
def tw16740884866653381012:=()
def tw16043378026972263161:=()
def tw8447877887416767471:=()
def tw7601834858218691900:=()
def tw10527949604135959604:=()
def tw2607114420772642606:=()
def tw18197751663886197380:=()
def tw14976493423046632143:=()
def tw10989905026343267626:=()
def tw8714154830609732176:=()
def tw3028354346612802774:=()
def tw3564209917561833013:=()
def tw17955805425652677675:=()
def tw11131402101394885774:=()
def tw6970523907204288609:=()
def tw17350793813045994781:=()
def tw4387663399158912865:=()
def tw10267926518579963801:=()
def tw17254565719942236556:=()
def tw1994014859794215572:=()
def tw2306581672715640200:=()
def tw5890746250718055963:=()
def tw11395997573453553497:=()
def tw4380500241655931743:=()
def tw18366348453209065143:=()
def tw1888291378523502657:=()
def tw13475000740078158034:=()
def tw6449534454123746060:=()
def tw12246541907224796413:=()
def tw14852531834555099870:=()
def tw3182290811206675502:=()
def tw17911520440039286668:=()
def tw13170570739844719213:=()
def tw7336401794814418668:=()
def tw16296456545792487307:=()
def tw7837397873695049533:=()
def tw11820531162714109155:=()
def tw10818724577933421033:=()
def tw7682424115473254606:=()
def tw4555212101425694651:=()
def tw14381820609143992119:=()
def tw9925147949059675794:=()
def tw17814613608620763206:=()
def tw5840198168801460155:=()
def tw11756885806665141643:=()
def tw1661346953434532979:=()
def tw15088722406523671737:=()
def tw1621830168571113654:=()
def tw5694553259496216699:=()
def tw10939466351526131199:=()
def tw11201850838220866342:=()
def tw8402081504973052902:=()
def tw2076375297902896532:=()
def tw7431915906991668857:=()
def tw6316162595421797359:=()
def tw6224710938028820262:=()
def tw11115629357749101999:=()
def tw8408830590034172399:=()
def tw8925231998381343311:=()
def tw11088912027039330363:=()
def tw1982482521539595440:=()
def tw10979574950830407830:=()
def tw13491058794691369187:=()
def tw5827543187047722257:=()
def tw6476423844429432857:=()
def tw15671049090140725976:=()
def tw1958777458681013677:=()
def tw689501103756559464:=()
def tw3378307077726851178:=()
def tw17491261813491349182:=()
def tw18020861731465779779:=()
def tw47238640789288471:=()
def tw6484038443473678792:=()
def tw18225702991675870213:=()
def tw16269833749198566418:=()
def tw6141600867440225280:=()
def tw449841302451611121:=()
def tw14040086056490002052:=()
def tw11449469541926166217:=()
def tw14700091248359988393:=()
def tw10116281068672760496:=()
def tw13130959796953927840:=()
def tw2978854701189000813:=()
def tw399495595802074864:=()
def tw1225438501623574059:=()
def tw6944306368004380677:=()
def tw5332110988949823851:=()
def tw17707264562786594369:=()
def tw268121405992718420:=()
def tw6013485780848720291:=()
def tw2771495236554528031:=()
def tw12521104908119874315:=()
def tw5926911033227743070:=()
def tw2456562970582335908:=()
def tw6649645430758303667:=()
def tw12821465188833832740:=()
def tw4994965745867835017:=()
def tw6273775094178539153:=()
def tw9318993778580922898:=()
def tw13797169273162270420:=()
def tw13401575307338071928:=()
def tw18031714913709082930:=()
def tw1946311838796260349:=()
def tw634842410153434490:=()
def tw2144698687203730127:=()
def tw9678106757482065943:=()
def tw12232442464967988053:=()
def tw17989282178198743632:=()
def tw14684290852218242270:=()
def tw3844562638201789465:=()
def tw2749890138585611255:=()
def tw18349677742268025534:=()
def tw13393399867396062252:=()
def tw13191650530703282548:=()
def tw16836542330325859142:=()
def tw18368555687930835838:=()
def tw1638249068606444929:=()
def tw2174312878226531718:=()
def tw11992570321399060544:=()
def tw13188830519730912268:=()
def tw11287105258275481795:=()
def tw7976940090360615798:=()
def tw14450642971401767204:=()
def tw14120189186530948591:=()
def tw12102332244293660540:=()
def tw12814055031977866067:=()
def tw15033901228325047172:=()
def tw10532336560769305671:=()
def tw2626001043411100922:=()
def tw9536390779338077600:=()
def tw17863594917463022489:=()
def tw3999159570760675972:=()
def tw3368965028079604924:=()
def tw16236207496782272932:=()
def tw9604357142944729078:=()
def tw6614134563368153750:=()
def tw17769649045709994148:=()
def tw16517288188174706129:=()
def tw13995214628907613028:=()
def tw4134433088404680208:=()
def tw6429386173652714169:=()
def tw17747110707747164827:=()
def tw13715338807383569562:=()
def tw17545844628992069080:=()
def tw17195804701521634981:=()
def tw5816912798767173836:=()
def tw17516101467099282132:=()
def tw10346941747992642705:=()
def tw2688133732163213987:=()
def tw550378947686094228:=()
def tw11524775696810034479:=()
def tw1083095105596484583:=()
def tw8192103553300304693:=()
def tw12748058260564914903:=()
def tw12915538719624340200:=()
def tw9946749274360613418:=()
def tw2840045368181644710:=()
def tw13409494931672539828:=()
def tw337273312953342892:=()
def tw14136866891068706539:=()
def tw2925212326907837755:=()
def tw11214418564256301021:=()
def tw10340006775716143646:=()
def tw2573112453519082362:=()
def tw4256347641182300017:=()
def tw6438192195085834917:=()
def tw8853153823288121580:=()
def tw452591047296913945:=()
def tw12551177080726498025:=()
def tw15291602352508186553:=()
def tw7541317724902290345:=()
def tw1201133490078355961:=()
def tw13760516194602472421:=()
def tw5308475247278049732:=()
def tw4123653967072890833:=()
def tw693272016244173705:=()
def tw12907265999364002373:=()
def tw14191810985114778486:=()
def tw8389624560924991217:=()
def tw15284855003910458939:=()
def tw16745332559628838113:=()
def tw12612612623055479175:=()
def tw18023286719305937544:=()
def tw16403059025702955907:=()
def tw1266806986155140353:=()
def tw11664898499552989868:=()
def tw4604644191530605954:=()
def tw12620028501892978669:=()
def tw14207824900494528970:=()
def tw2563648603518273544:=()
def tw4893027853802324866:=()
def tw7962226115263774060:=()
def tw2548084129037902535:=()
def tw15544639153691434980:=()
def tw14618353892813668316:=()
def tw13840527414206657449:=()
def tw12006852420624224304:=()
def tw1981526057842754550:=()
def tw7208494959485701651:=()
def tw5987613486060408586:=()
def tw9048654397441411519:=()
def tw5554412576060220701:=()
def tw12068676261251494019:=()
def tw14979799102065323911:=()
def tw11859571231897749304:=()
def tw12343389671695937508:=()
def tw5281044653347841263:=()
def tw2563928539288937859:=()
def tw16509261633227816453:=()
def tw5349377622235808723:=()
def tw6028175859993371232:=()
def tw13621692002317775590:=()
def tw14884287255316703856:=()
def tw14671121307756576575:=()
def tw18167257261093015945:=()
def tw10666785610244596484:=()
def tw17412591514697935451:=()
def tw10196683865500012506:=()
def tw18069941673931899614:=()
def tw15803757938078038759:=()
def tw4652259342771090459:=()
def tw10439406089367498203:=()
def tw12618111379811269527:=()
def tw476891350395132636:=()
def tw13915000958059434628:=()
def tw9989199964710370384:=()
def tw12267030439293778789:=()
def tw1204758723987893127:=()
def tw12518024775043209044:=()
def tw14786617430342405409:=()
def tw7690758885885239883:=()
def tw2069736621801741223:=()
def tw14828581895267485943:=()
def tw8990423697213369066:=()
def tw13043593012628238436:=()
def tw10607184586567218612:=()
def tw1943353301032024537:=()
def tw12835100348424380811:=()
def tw18351475277083054988:=()
def tw8867775895772342947:=()
def tw419279671820923981:=()
def tw14009823318189915634:=()
def tw1658554239621031161:=()
def tw13150178090353126501:=()
def tw3146707553959851124:=()
def tw3173072053067470215:=()
def tw6344246045114443205:=()
def tw11254441788185254656:=()
def tw17738912733419440245:=()
def tw6969283706937820428:=()
def tw17953139476582522614:=()
def tw17481538534025697260:=()
def tw1620855529840362106:=()
def tw9313858227424783723:=()
def tw662802867599828399:=()
def tw17552809410486108506:=()
def tw18216899950060938910:=()
def tw3097076496649221913:=()
def tw16322055968941899775:=()
def tw10091563249156323575:=()
def tw9200445057286848736:=()
def tw18243214124398939905:=()
def tw16152683399038656643:=()
def tw13704110531099979534:=()
def tw12285398355538829938:=()
def tw6915304411345489919:=()
def tw12946978527443304937:=()
def tw972925127664830660:=()
def tw2385363989625094117:=()
def tw7916266309719551261:=()
def tw10890534131159321817:=()
def tw12270060989691010694:=()
def tw1901326717285891534:=()
def tw4746538630161603650:=()
def tw12496349699080810639:=()
def tw2092134264335389316:=()
def tw7308415830525887144:=()
def tw9854973416097792992:=()
def tw16213565515209970223:=()
def tw17176528143973830329:=()
def tw1035736798069587291:=()
def tw10485172811574104838:=()
def tw4974745362141472299:=()
def tw14595365775969906589:=()
def tw9913533318522779289:=()
def tw12559733448389331990:=()
def tw340881463942926777:=()
def tw13252463984307421189:=()
def tw2522655469097209087:=()
def tw6784015586675289205:=()
def tw4151975834233281703:=()
def tw1677197406688300947:=()
def tw894787120932111703:=()
def tw16722330821069739572:=()
def tw1431304389260153846:=()
def tw3639607491810322084:=()
def tw1054182656367285248:=()
def tw15889356315242168543:=()
def tw14545185133722840978:=()
def tw6154703704008526794:=()
def tw2342112937653139231:=()
def tw5016114909639617951:=()
def tw8107183843122397880:=()
def tw5890549243305283396:=()
def tw9744470928494753765:=()
def tw9069724234526717523:=()
def tw13226577613730797800:=()
def tw3775082897799758531:=()
def tw2914439904907884453:=()
def tw11691470059272912626:=()
def tw17926731035702422576:=()
def tw13648594912999144808:=()
def tw4456852142019202203:=()
def tw17454321853152855187:=()
def tw15429330345545877755:=()
def tw7454923659801326687:=()
def tw2255653820555427890:=()
def tw16824054470348920798:=()
def tw50951521324661101:=()
def tw2586737060026802569:=()
def tw11386593752806854489:=()
def tw17886018779460279584:=()
def tw8662598178334384776:=()
def tw7951853591236528766:=()
def tw15536646058048261527:=()
def tw18222946066172853100:=()
def tw16742363359666644721:=()
def tw1702598294079114250:=()
def tw10866217978232094169:=()
def tw6902044609882541302:=()
def tw9546411547336651022:=()
def tw11262368679815117974:=()
def tw2142367790087749519:=()
def tw515866670322797817:=()
def tw9192317416398270372:=()
def tw12871889542349991128:=()
def tw12072242330192814336:=()
def tw15368673408484541034:=()
def tw10375495865311590392:=()
def tw3012301929890955152:=()
def tw1267853108493734194:=()
def tw14329232771543434925:=()
def tw17308348635930798469:=()
def tw4086623172382298725:=()
def tw6620758969811799209:=()
def tw18002996477569283228:=()
def tw11861236760507117721:=()
def tw1093435562513615064:=()
def tw4329196798618010119:=()
def tw10122356086203364478:=()
def tw9591209930369440689:=()
def tw15242404088212105365:=()
def tw13308193300786294068:=()
def tw7123566309109460121:=()
def tw17403540812947293011:=()
def tw15084421629520972091:=()
def tw14362244246481089910:=()
def tw13194287383186067825:=()
def tw1486514668000937084:=()
def tw13795258231103325271:=()
def tw18066193783646592906:=()
def tw1513691548806837511:=()
def tw4324598437136823743:=()
def tw14951941203347138753:=()
def tw4361812049516796160:=()
def tw8977716728618819077:=()
def tw12837341856927785297:=()
def tw13080722562018460815:=()
def tw1715127122866468793:=()
def tw3597750949375744755:=()
def tw68333158204818359:=()
def tw13941499343669194444:=()
def tw11952332899173624182:=()
def tw4124346757991379057:=()
def tw5261710600382298742:=()
def tw96039032379232125:=()
def tw6104156956975377797:=()
def tw659947232899274757:=()
def tw10934493021052620916:=()
def tw10596042913909037537:=()
def tw5872958215850240518:=()
def tw8573274681987343995:=()
def tw18164753667797887779:=()
def tw5460298283018965193:=()
def tw12225510406916308452:=()
def tw9387136883235987055:=()
def tw2666516790439471165:=()
def tw15846521493429759712:=()
def tw14212287065578616376:=()
def tw15300501564993155738:=()
def tw4164719118316114719:=()
def tw3343947108676779154:=()
def tw13767327665939706147:=()
def tw9206919092177415643:=()
def tw10296175480568775912:=()
def tw10516135521695430583:=()
def tw1060155277184329156:=()
def tw298029596054374374:=()
def tw14046267143746020070:=()
def tw11497127484837904697:=()
def tw16055558084542069706:=()
def tw629375593377162812:=()
def tw5771255634934566000:=()
def tw13718993794214190300:=()
def tw8292367588084979425:=()
def tw719944708582838244:=()
def tw17509589785968127954:=()
def tw13219169573720731761:=()
def tw15011223965111664934:=()
def tw10359960388695624998:=()
def tw16300573658426935593:=()
def tw5958874212561897864:=()
def tw11965128851981470298:=()
def tw17835726399986606829:=()
def tw479685633989547776:=()
def tw9551512248720112793:=()
def tw8866668595505406657:=()
def tw9210738793834568730:=()
def tw13324891115922791362:=()
def tw12416058091880485048:=()
def tw16424435815982240787:=()
def tw3525489522784484054:=()
def tw4811506138045066819:=()
def tw1716662210152429360:=()
def tw9617731159050457662:=()
def tw636880728326243166:=()
def tw11420854033888708557:=()
def tw4995308106166669071:=()
def tw6060633990418947398:=()
def tw10236499672418817834:=()
def tw11256968249521987754:=()
def tw8069798101203291001:=()
def tw15325285476227612087:=()
def tw4305517074713833406:=()
def tw5308730695097088483:=()
def tw11422729616573216088:=()
def tw1497731722019244178:=()
def tw11775360267895036392:=()
def tw10151844104413112734:=()
def tw14275565927772299731:=()
def tw111108200650958398:=()
def tw5566759906583045623:=()
def tw13193107624535230360:=()
def tw10620646177975589253:=()
def tw17942899663831720283:=()
def tw2889525429005464596:=()
def tw9336689130900529655:=()
def tw2820385794216954176:=()
def tw13933487922477927264:=()
def tw17721682379970632778:=()
def tw11257233334937736807:=()
def tw9775965391150705730:=()
def tw105494961123977401:=()
def tw138855915042451629:=()
def tw16023156900494411414:=()
def tw4108094021879441599:=()
def tw16874722777181459722:=()
def tw10712173871480915890:=()
def tw16262678892718249236:=()
def tw15572123670347324673:=()
def tw13751100244805287993:=()
def tw13266611500961272402:=()
def tw6579157993127806604:=()
def tw15896230676321172236:=()
def tw11941077821468630116:=()
def tw16339594029663578772:=()
def tw12830383704016302143:=()
def tw14121772268642713795:=()
def tw16358856051144212520:=()
def tw12394588169174326879:=()
def tw12759714004969741197:=()
def tw12555698850032283437:=()
def tw16824354487034973121:=()
def tw7211393350189358837:=()
def tw16605353159643248107:=()
def tw4903649434716630054:=()
def tw7243640338263702608:=()
def tw10402170865826079644:=()
def tw7233420423441458997:=()
def tw3692747123849144225:=()
def tw5945364918915324442:=()
def tw17661707825406860662:=()
def tw17102470229998882449:=()
def tw191917452112014959:=()
def tw1532962966978541219:=()
def tw16494710114117799712:=()
def tw3402545312337009585:=()
def tw12054264445339285881:=()
def tw12330038124644104115:=()
def tw3242720288617645658:=()
def tw15487982239783157921:=()
def tw8931159254541100273:=()
def tw18174970573683320068:=()
def tw6285123965343945832:=()
def tw17538888350859479867:=()
def tw5492866313972588733:=()
def tw3575178456857132441:=()
end PySem.W.Fast
set_option maxRecDepth 100000 in
set_option maxHeartbeats 0 in
theorem PySem.Challenge.cw_relaid_k52_along_an_arch_holds : PySem.Challenge.rw_relaid_k52_along_an_arch.Holds := by
  w_on; o_law; k_head; (case hw => w_witness2)
  k_fill
  refine R52.walk (l := PySem.Challenge.rw_relaid_k52_along_an_arch) rfl rfl (fun w h Y => ⟨PySem.W.km_in_of Y, PySem.W.km_tabs_of Y⟩) ?P ?F
  case P =>
    intro w P hP;simp only [List.mem_cons, List.not_mem_nil, or_false] at hP;rcases hP with rfl | rfl
    all_goals kernel_rfl
  case F =>
    intro w mg fa h KX G hmg;refine' R52.all_mk KX G hmg ?a_L ?a_R ?a_H ?a_W ?a_Y ?a_St ?a_Ho ?a_Ev ?a_Ov ?a_Un ?a_Os ?a_Us ?d0 ?d1 ?d2 ?d3 ?d4 ?d5 ?d6 ?d7 ?d8 ?d9 ?d10 ?d11 ?d12 ?d13 ?d14 ?d15 ?d16 ?d17 ?d18 ?d19 ?d20 ?d21 ?d22 ?d23 ?d24 ?d25 ?d26 ?d27 ?d28 ?d29 ?d30 ?d31 ?d32 ?d33 ?d34 ?d35 ?d36 ?d37 ?d38 ?d39 ?d40 ?d41 ?d42 ?d43 ?d44 ?d45 ?d46 ?d47 ?d48 ?d49 ?d50 ?d51 ?me_LI ?lT ?me_RI ?me_HI ?me_WI ?me_YI ?me_StI ?me_StL ?me_HoI ?me_HoW ?me_HoL ?me_HoB ?me_EvI ?me_EvW ?me_EvB ?me_OvI ?me_OvW ?me_OvB ?me_UnI ?me_UnW ?me_UnB ?me_OsI ?me_OsW ?me_OsL ?me_OsB ?me_UsI ?me_UsW ?me_UsL ?me_UsB ?pg_L ?mk_L ?n_L_lengths ?n_L_order ?n_L_turned ?n_L_starts ?n_L_laid ?n_L_size ?pg_R ?mk_R ?n_R_top ?n_R_bottom ?n_R_lengths ?n_R_turned ?n_R_size ?pg_H ?mk_H ?n_H_line ?n_H_rests ?n_H_steps ?n_H_towers ?n_H_bands ?pg_W ?mk_W ?n_W_first ?n_W_length ?n_W_laid ?n_W_turned ?pg_Y ?mk_Y ?n_Y_above ?n_Y_below ?n_Y_size ?n_Y_line ?n_Y_chart ?pg_St ?pg_Ho ?mk_Ho ?n_Ho_winner ?n_Ho_loser ?n_Ho_times ?ih_Ev_losers ?pg_Ev ?mk_Ev ?n_Ev_winner ?n_Ev_loser ?n_Ev_times ?ih_Ov_losers ?pg_Ov ?mk_Ov ?n_Ov_winner ?n_Ov_loser ?n_Ov_times ?ih_Un_losers ?pg_Un ?mk_Un ?n_Un_winner ?n_Un_loser ?n_Un_times ?pg_Os ?mk_Os ?n_Os_winner ?n_Os_loser ?n_Os_times ?pg_Us ?mk_Us ?n_Us_winner ?n_Us_loser ?n_Us_times ?z_len ?z_min ?z_max ?z_sum ?z_sorted ?z_list ?z_range ?z_tuple ?z_isinstance ?z_int ?z_bool ?z_enumerate ?z_abs ?z_ValueError ?v_MOST_PIECES ?v_MOST_BLOCKS ?aTooMany ?xTooMany ?aUnlike ?xUnlike ?aBadArches ?xBadArches ?aOutside ?xOutside ?sbB ?rdB ?fdB ?hcc0 ?hcd0 ?hcc1 ?hcd1 ?aLE ?sget ?stk ?iha ?ihm ?bga ?bno ?bcl ?bmo ?bmb ?bhd ?bxm ?bkb ?ktL ?nt
    case a_L | a_R | a_H | a_W | a_Y | a_St | a_Ho | a_Ev | a_Ov | a_Un | a_Os | a_Us => (show _ = _; k_is)
    case d0 | d1 | d2 | d3 | d4 | d5 | d6 | d7 | d8 | d9 | d10 | d11 | d12 | d13 | d14 | d15 | d16 | d17 | d18 | d19 | d20 | d21 | d22 | d23 | d24 | d25 | d26 | d27 | d28 | d29 | d30 | d31 | d32 | d33 | d34 | d35 | d36 | d37 | d38 | d39 | d40 | d41 | d42 | d43 | d44 | d45 | d46 | d47 | d48 | d49 | d50 | d51 => (refine ⟨?_, ?_, ?_, ?_⟩; k_is; k_is; k_is; k_is)
    case me_LI => (refine ⟨?_, ?_, ?_, ?_, ?_⟩; k_is; k_is; k_is; k_is; k_is)
    case lT => k_is
    case me_RI | me_HI | me_WI | me_YI | me_StI | me_StL | me_HoI | me_HoW | me_HoL | me_HoB | me_EvI | me_EvW | me_EvB | me_OvI | me_OvW | me_OvB | me_UnI | me_UnW | me_UnB | me_OsI | me_OsW | me_OsL | me_OsB | me_UsI | me_UsW | me_UsL | me_UsB => (refine ⟨?_, ?_, ?_, ?_, ?_⟩; k_is; k_is; k_is; k_is; k_is)
    case pg_L => (refine ⟨?_, ?_, ?_, ?_⟩; k_is; k_is; k_is; k_is)
    case mk_L => (refine ⟨?_, ?_⟩; k_is; k_is)
    case n_L_lengths | n_L_order | n_L_turned | n_L_starts | n_L_laid | n_L_size => (show _ = _; k_is)
    case pg_R => (refine ⟨?_, ?_, ?_, ?_⟩; k_is; k_is; k_is; k_is)
    case mk_R => (refine ⟨?_, ?_⟩; k_is; k_is)
    case n_R_top | n_R_bottom | n_R_lengths | n_R_turned | n_R_size => (show _ = _; k_is)
    case pg_H => (refine ⟨?_, ?_, ?_, ?_⟩; k_is; k_is; k_is; k_is)
    case mk_H => (refine ⟨?_, ?_⟩; k_is; k_is)
    case n_H_line | n_H_rests | n_H_steps | n_H_towers | n_H_bands => (show _ = _; k_is)
    case pg_W => (refine ⟨?_, ?_, ?_, ?_⟩; k_is; k_is; k_is; k_is)
    case mk_W => (refine ⟨?_, ?_⟩; k_is; k_is)
    case n_W_first | n_W_length | n_W_laid | n_W_turned => (show _ = _; k_is)
    case pg_Y => (refine ⟨?_, ?_, ?_, ?_⟩; k_is; k_is; k_is; k_is)
    case mk_Y => (refine ⟨?_, ?_⟩; k_is; k_is)
    case n_Y_above | n_Y_below | n_Y_size | n_Y_line | n_Y_chart => (show _ = _; k_is)
    case pg_St | pg_Ho => (refine ⟨?_, ?_, ?_, ?_⟩; k_is; k_is; k_is; k_is)
    case mk_Ho => (refine ⟨?_, ?_⟩; k_is; k_is)
    case n_Ho_winner | n_Ho_loser | n_Ho_times | ih_Ev_losers => (show _ = _; k_is)
    case pg_Ev => (refine ⟨?_, ?_, ?_, ?_⟩; k_is; k_is; k_is; k_is)
    case mk_Ev => (refine ⟨?_, ?_⟩; k_is; k_is)
    case n_Ev_winner | n_Ev_loser | n_Ev_times | ih_Ov_losers => (show _ = _; k_is)
    case pg_Ov => (refine ⟨?_, ?_, ?_, ?_⟩; k_is; k_is; k_is; k_is)
    case mk_Ov => (refine ⟨?_, ?_⟩; k_is; k_is)
    case n_Ov_winner | n_Ov_loser | n_Ov_times | ih_Un_losers => (show _ = _; k_is)
    case pg_Un => (refine ⟨?_, ?_, ?_, ?_⟩; k_is; k_is; k_is; k_is)
    case mk_Un => (refine ⟨?_, ?_⟩; k_is; k_is)
    case n_Un_winner | n_Un_loser | n_Un_times => (show _ = _; k_is)
    case pg_Os => (refine ⟨?_, ?_, ?_, ?_⟩; k_is; k_is; k_is; k_is)
    case mk_Os => (refine ⟨?_, ?_⟩; k_is; k_is)
    case n_Os_winner | n_Os_loser | n_Os_times => (show _ = _; k_is)
    case pg_Us => (refine ⟨?_, ?_, ?_, ?_⟩; k_is; k_is; k_is; k_is)
    case mk_Us => (refine ⟨?_, ?_⟩; k_is; k_is)
    case n_Us_winner | n_Us_loser | n_Us_times | z_len | z_min | z_max | z_sum | z_sorted | z_list | z_range | z_tuple | z_isinstance | z_int | z_bool | z_enumerate | z_abs | z_ValueError => (show _ = _; k_is)
    case v_MOST_PIECES | v_MOST_BLOCKS | aTooMany => k_is
    case xTooMany => k_exc
    case aUnlike => k_is
    case xUnlike => k_exc
    case aBadArches => k_is
    case xBadArches => k_exc
    case aOutside => k_is
    case xOutside => k_exc
    case sbB | rdB | fdB => k_is
    case hcc0 => rfl
    case hcd0 => kernel_rfl
    case hcc1 => rfl
    case hcd1 => kernel_rfl
    case aLE | sget | stk | iha | ihm | bga | bno | bcl | bmo | bmb | bhd => k_is
    case bxm => kts_exm
    case bkb | ktL => kit_is
    case nt => rfl
#print axioms PySem.Challenge.cw_relaid_k52_along_an_arch_holds
