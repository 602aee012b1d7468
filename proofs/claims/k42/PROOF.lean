import PyProof.Rows.All
import Wide.All
import OpenK.AllK
import Wide.FinOn
import Lean
import PyProof.EqAt
import PyProof.EqKinds
import PyProof.TupleCall
import PySem.Challenge.RW_relaid_k42_whole_visits_of_great_lines
open PySem.Heap (get?_push_of_some get?_push_size lt_size size_push)
open PySem.W (Frag callWith_K codeIn emptyDict excIn findCls findIn fnOf handedIn hasDictIn hideAll instObj isFn keepIn kia_one kitOne lookIn makesIn methodCall_KW methodObj mg_none_of mg_of nsIn of_hideAll plainGet plainGet_of plainOver readsIn specialIn takerIn)
open List (all_eq_true append_nil cons_append drop_left ext_getElem filter_append filter_cons flatten_cons foldl getD_eq_getElem?_getD getElem?_eq_none getElem?_map getElem?_range getElem?_replicate getElem?_set_ne getElem_idxOf getElem_inj getElem_map idxOf_cons idxOf_lt_length_iff length_append length_cons length_drop length_map length_range length_replicate length_set length_take map_append map_cons map_map map_nil mem_append mem_append_left mem_append_right mem_cons mem_cons_of_mem mem_cons_self mem_filter mem_map mem_of_mem_take mem_range mem_singleton nil_append nodup_append nodup_cons nodup_range not_mem_nil pairwise_map range_succ replicate_succ size_toArray sum_append sum_cons take_append_drop take_left)
open Array (length_toList)
open PyProof.Rows (boot_int boot_isinstance boot_list boot_min boot_sum boot_tuple callWith_type1)
open PySem (boot_len mem_of_lookup)
set_option Elab.async false
set_option linter.all false
set_option maxRecDepth 100000
set_option maxHeartbeats 4000000
namespace L2
open PySem PySem.Spec PyProof.Rows
abbrev Key:=Sum Int Str
def keyIs:Key->Value->Bool
 | .inl k,v=>Value.isInt k v
 | .inr x,v=>Value.isStrOf x v
def keyH (w:World):Key->Int
 | .inl k=>hashInt k
 | .inr x=>hashStr w x
theorem J1f:∀ {k:Key} {v:Value},keyIs k v=true->(∃ i t,k=Sum.inl i/\v=Value.int i t)\/(∃ x t,k=Sum.inr x/\v=Value.str x t)
 | .inl i,v,h=>by
  obtain ⟨t,e⟩:=Value.isInt_shape (k:=i) (v:=v) h;exact .inl ⟨i,t,rfl,e⟩
 | .inr x,v,h=>by
  obtain ⟨t,e⟩:=Value.isStrOf_shape (x:=x) (v:=v) h;exact .inr ⟨x,t,rfl,e⟩
theorem key_ll (a b:Int):decide ((Sum.inl a:Key)=Sum.inl b)=(a == b):=by
 by_cases e:a=b
 ·subst e;simp
 ·have h:¬ (Sum.inl a:Key)=Sum.inl b:=fun q=>e (Sum.inl.inj q);rw [decide_eq_false h];exact (beq_eq_false_iff_ne.mpr e).symm
theorem key_rr (a b:Str):decide ((Sum.inr a:Key)=Sum.inr b)=decide (a=b):=by
 by_cases e:a=b
 ·subst e;simp
 ·have h:¬ (Sum.inr a:Key)=Sum.inr b:=fun q=>e (Sum.inr.inj q);rw [decide_eq_false h,decide_eq_false e]
theorem key_lr (a:Int) (b:Str):decide ((Sum.inl a:Key)=Sum.inr b)=false:=decide_eq_false (fun q=>nomatch q)
theorem key_rl (a:Str) (b:Int):decide ((Sum.inr a:Key)=Sum.inl b)=false:=decide_eq_false (fun q=>nomatch q)
def mixKind (prog:Program) (w:World):PySem.KeyKind prog w Key where
 is:=keyIs
 hash:=keyH w
 inj:=fun v a b ha hb=>by
  rcases J1f ha with ⟨i,t,rfl,rfl⟩ | ⟨x,t,rfl,rfl⟩
  ·rcases J1f hb with ⟨j,u,rfl,e⟩ | ⟨y,u,rfl,e⟩
   ·injection e with e1 _;rw [e1]
   ·exact nomatch e
  ·rcases J1f hb with ⟨j,u,rfl,e⟩ | ⟨y,u,rfl,e⟩
   ·exact nomatch e
   ·injection e with e1 _;rw [e1]
 byValue:=fun k v h=>by
  rcases J1f h with ⟨i,t,rfl,rfl⟩ | ⟨x,t,rfl,rfl⟩ <;> rfl
 pyHash:=fun hv h=>by
  rcases J1f hv with ⟨i,t,rfl,rfl⟩ | ⟨x,t,rfl,rfl⟩
  ·exact wpAny_pyHash_int h
  ·exact wpAny_pyHash_str h
 eqBool:=fun hu hv h=>by
  rcases J1f hu with ⟨i,t,rfl,rfl⟩ | ⟨x,t,rfl,rfl⟩
  ·rcases J1f hv with ⟨j,u,rfl,rfl⟩ | ⟨y,u,rfl,rfl⟩
   ·rw [key_ll] at h;exact wpAny_eqBool_int h
   ·rw [key_lr] at h;exact SeqAt.EqAt.int_str i t y u _ _ _ _ h
  ·rcases J1f hv with ⟨j,u,rfl,rfl⟩ | ⟨y,u,rfl,rfl⟩
   ·rw [key_rl] at h;exact SeqAt.EqAt.str_int x t j u _ _ _ _ h
   ·rw [key_rr] at h;exact wpAny_eqBool_str h
 «strs»:=fun k x t v h=>by
  rcases J1f h with ⟨i,u,rfl,e⟩ | ⟨y,u,rfl,e⟩
  ·exact nomatch e
  ·injection e with e1 _
   subst e1;cases v <;> rfl
end L2
namespace L2
open PySem PySem.Spec PyProof.Rows
inductive V where
 | non | bl (b:Bool) | int (i:Int) | str (x:Str) | byt (b:Array UInt8) | flt (b:UInt64) | ref (a:Addr) | ty (n:String)
 deriving DecidableEq
def RelV:V->Value->Prop
 | .non,u=>u=Value.none
 | .bl b,u=>u=Value.bool b
 | .int i,u=>∃ t,u=Value.int i t
 | .str x,u=>∃ t,u=Value.str x t
 | .byt b,u=>∃ t,u=Value.bytes b t
 | .flt b,u=>∃ t,u=Value.float b t
 | .ref a,u=>u=Value.ref a
 | .ty n,u=>u=Value.type n
abbrev Vals:List V->List Value->Prop:=Paired RelV
theorem Vals.length {xs:List V} {us:List Value} (r:Vals xs us):xs.length=us.length:=Paired.length r
theorem Vals.get:∀ {xs:List V} {us:List Value} {i:Nat} {x:V},Vals xs us->xs[i]?=some x->∃ u,us[i]?=some u/\RelV x u
 | _,_,_,_,.nil,e=>by simp at e
 | _,_,0,_,.cons r _,e=>by simp at e;subst e;exact ⟨_,rfl,r⟩
 | _,_,i + 1,x,.cons _ t,e=>by
  obtain ⟨u,h1,h2⟩:=Vals.get (i:=i) (x:=x) t (by simpa using e);exact ⟨u,by simpa using h1,h2⟩
theorem Vals.set {x:V} {u:Value} (r:RelV x u):∀ {xs:List V} {us:List Value} (i:Nat),Vals xs us->Vals (xs.set i x) (us.set i u)
 | _,_,_,.nil=>.nil
 | _,_,0,.cons _ t=>.cons r t
 | _,_,i + 1,.cons q t=>.cons q (Vals.set r i t)
theorem Vals.append:∀ {xs ys:List V} {us ws:List Value},Vals xs us->Vals ys ws->Vals (xs ++ ys) (us ++ ws)
 | _,_,_,_,.nil,s=>s
 | _,_,_,_,.cons r t,s=>.cons r (Vals.append t s)
theorem Vals.take:∀ {xs:List V} {us:List Value} (n:Nat),Vals xs us->Vals (xs.take n) (us.take n)
 | _,_,0,_=>.nil
 | _,_,_ + 1,.nil=>.nil
 | _,_,n + 1,.cons r t=>.cons r (Vals.take n t)
theorem Vals.drop:∀ {xs:List V} {us:List Value} (n:Nat),Vals xs us->Vals (xs.drop n) (us.drop n)
 | _,_,0,r=>r
 | _,_,_ + 1,.nil=>.nil
 | _,_,n + 1,.cons _ t=>Vals.drop n t
def RelO:Option V->Option Value->Prop
 | some v,some u=>RelV v u
 | none,none=>True
 | _,_=>False
def KV {κ:Type}:List (κ × V)->List (κ × Value)->Prop:=Paired fun (p:κ × V) (q:κ × Value)=>p.1=q.1/\RelV p.2 q.2
def kV:Key->V
 | .inl i=>.int i
 | .inr x=>.str x
inductive HO where
  | lst (xs:List V)
  | tup (xs:List V)
  | dK (kvs:List (Key × V)) | dT (kvs:List (List Key × V))
  | set (S:Int->Bool) (n:Nat)
  | ins (C dx:Addr) (fs:List (Str × V))
  | own (x:Addr)
  | xd (fs:List (Str × V))
  | met (f x:Addr)
  | rng (lo hi:Int)
  | frz (o:Obj) (u:HO)
  | tbl (ps:Array Value)
  | ext (φ:Heap->Prop)
abbrev Hp:=Addr->Option HO
def upd (H:Hp) (a:Addr) (o:HO):Hp:=fun b=>if b=a then some o else H b
theorem J3 {H:Hp} {a:Addr} {o:HO}:upd H a o a=some o:=by unfold upd;rw [if_pos rfl]
theorem Jg {H:Hp} {a b:Addr} {o:HO} (h:b≠a):upd H a o b=H b:=by unfold upd;rw [if_neg h]
theorem J54 {H:Hp} {a:Addr} {o u:HO}:upd (upd H a o) a u=upd H a u:=by
 funext b;unfold upd;split <;> rfl
theorem ne_of {H:Hp} {a b:Addr} {o u:HO} (h:H a=some o) (h':H b=some u) (d:o≠u):a≠b:=by
 intro e;subst e;rw [h] at h';exact d (Option.some.inj h')
theorem Jd {H:Hp} {a b:Addr} {o:HO} (h:H a=some o) (h':H b=none):a≠b:=by
 intro e;subst e;rw [h] at h';cases h'
section
variable (P:Program) (w:World)
def TupX (h:Heap) (a:Addr) (items:Array Value):Prop:=∃ o,h.get? a=some o/\(o.cls=.type "tuple"/\o.dict=none)/\∃ n,o.data=.seq items n
theorem TupX.tup {h:Heap} {a:Addr} {items:Array Value} (x:TupX h a items):IsTup h a items:=by obtain ⟨o,e,c,r⟩:=x;exact ⟨o,e,c.1,r⟩
theorem TupX.lt {h:Heap} {a:Addr} {items:Array Value} (x:TupX h a items):a < h.objs.size:=by obtain ⟨_,e,_⟩:=x;exact lt_size e
theorem TupX.new (h:Heap) (items:Array Value):TupX (h.push { cls:=.type "tuple",data:=.seq items }) h.objs.size items:=⟨_,get?_push_size _ rfl,⟨rfl,rfl⟩,_,rfl⟩
def ObjOk (H:Hp) (h:Heap) (a:Addr):HO->Prop
 | .lst xs=>xs.length<=sizeLine/\∃ (its:List Value) (n:Nat),Vals xs its/\h.get? a=some { cls:=.type "list",data:=.seq its.toArray n }
 | .tup xs=>xs.length<=sizeLine/\∃ its:List Value,Vals xs its/\TupX h a its.toArray
 | .dK kvs=>kvs.length<=sizeLine/\(a == sysModules)=false/\∃ vs,KV kvs vs/\h.DictOf (mixKind P w) a vs
 | .dT kvs=>kvs.length<=sizeLine/\(a == sysModules)=false/\∃ xs:List (List Key × Addr × Value),
   Paired (fun (p:List Key × V) (q:List Key × Addr × Value)=>p.1=q.1/\H q.2.1=some (.tup (p.1.map kV))/\RelV p.2 q.2.2) kvs xs/\
   ∃ o es ep,h.get? a=some o/\o.ExactDict/\o.data=.dict es ep/\es.toList=xs.map (entryOfKey (tupleKind (mixKind P w)))/\(xs.map (·.1)).Nodup
 | .set S n=>h.SetOf (intKind P w) a S n
 | .ins C dx fs=>H dx=some (.own a)/\fs.length<=1000/\dx≠a/\h.get? a=some (instObj C dx)/\
   ∃ mA,h.Ns1 dx mA/\(∀ f,RelO (fs.lookup f) (mA f))/\PySem.Within mA (fs.map (·.1))
 | .own _=>∃ o,h.get? a=some o
 | .xd fs=>∃ mA,h.Ns1 a mA/\∀ f,RelO (fs.lookup f) (mA f)
 | .rng lo hi=>∃ t u v,h.get? a=some { cls:=.type "range",data:=.fields #[.int lo t,.int hi u,.int 1 v] }
 | .frz o u=>h.get? a=some o/\ObjOk H h a u
 | .tbl ps=>h.get? a=some { cls:=.none,data:=.fields ps }
 | .met f x=>h.get? a=some (methodObj (.ref f) (.ref x))
 | .ext φ=>φ h/\(∃ o,h.get? a=some o)/\∀ h1 h2:Heap,φ h1->(∀ o,h1.get? a=some o->h2.get? a=some o)->φ h2
def HOk (H:Hp) (h:Heap):Prop:=∀ a o,H a=some o->ObjOk P w H h a o
end
section
variable {P:Program} {w:World} {H H':Hp} {h h':Heap} {a:Addr} {o:HO}
theorem ObjOk.lt (x:ObjOk P w H h a o):a < h.objs.size:=by
 cases o with
 | lst xs=>obtain ⟨_,_,_,_,e⟩:=x;exact lt_size e
 | tup xs=>obtain ⟨_,_,_,p⟩:=x;exact p.lt
 | dK kvs=>obtain ⟨_,_,_,_,o,_,_,e,_⟩:=x;exact lt_size e
 | dT kvs=>obtain ⟨_,_,_,_,o,_,_,e,_⟩:=x;exact lt_size e
 | set S n=>obtain ⟨o,_,_,_,e,_⟩:=x;exact lt_size e
 | ins C dx fs=>obtain ⟨_,_,_,e,_⟩:=x;exact lt_size e
 | own y=>obtain ⟨_,e⟩:=x;exact lt_size e
 | xd fs=>obtain ⟨_,⟨_,_,_,e,_⟩,_⟩:=x;exact lt_size e
 | rng lo hi=>obtain ⟨_,_,_,e⟩:=x;exact lt_size e
 | frz ob u=>obtain ⟨e,_⟩:=x;exact lt_size e
 | tbl ps=>exact lt_size (show h.get? a=some _ from x)
 | met f y=>exact lt_size (show h.get? a=some _ from x)
 | ext φ=>obtain ⟨_,⟨_,e⟩,_⟩:=x;exact lt_size e
theorem Paired.mapP {α β:Type} {F G:α->β->Prop}:∀ {l₁:List α} {l₂:List β},Paired F l₁ l₂->(∀ a b,F a b->G a b)->Paired G l₁ l₂
 | _,_,.nil,_=>.nil
 | _,_,.cons r t,f=>.cons (f _ _ r) (Paired.mapP t f)
theorem ObjOk.stay (x:ObjOk P w H h a o) (k:∀ b u,(b=a\/H b=some (.own a))->h.get? b=some u->h'.get? b=some u)
  (ho:∀ b,H b=some (.own a)->H' b=some (.own a)) (ht:∀ b xs,H b=some (.tup xs)->H' b=some (.tup xs)):ObjOk P w H' h' a o:=by
 induction o with
 | lst xs=>obtain ⟨z,its,n,r,e⟩:=x;exact ⟨z,its,n,r,k _ _ (.inl rfl) e⟩
 | tup xs=>obtain ⟨z,its,r,ob,e,c⟩:=x;exact ⟨z,its,r,ob,k _ _ (.inl rfl) e,c⟩
 | dK kvs=>obtain ⟨z,y,vs,r,ob,es,ep,e,c⟩:=x;exact ⟨z,y,vs,r,ob,es,ep,k _ _ (.inl rfl) e,c⟩
 | dT kvs =>
  obtain ⟨z,y,xs,r,ob,es,ep,e,c⟩:=x;exact ⟨z,y,xs,Paired.mapP r fun p q z=>⟨z.1,ht _ _ z.2.1,z.2.2⟩,ob,es,ep,k _ _ (.inl rfl) e,c⟩
 | set S n=>obtain ⟨ob,es,ep,t,e,c⟩:=x;exact ⟨ob,es,ep,t,k _ _ (.inl rfl) e,c⟩
 | ins C dx fs =>
  obtain ⟨d,z,ne,e,mA,⟨od,es,ep,e2,c⟩,r⟩:=x;exact ⟨ho _ d,z,ne,k _ _ (.inl rfl) e,mA,⟨od,es,ep,k _ _ (.inr d) e2,c⟩,r⟩
 | own y=>obtain ⟨ob,e⟩:=x;exact ⟨ob,k _ _ (.inl rfl) e⟩
 | xd fs=>obtain ⟨mA,⟨od,es,ep,e,c⟩,r⟩:=x;exact ⟨mA,⟨od,es,ep,k _ _ (.inl rfl) e,c⟩,r⟩
 | rng lo hi=>obtain ⟨t,u,v,e⟩:=x;exact ⟨t,u,v,k _ _ (.inl rfl) e⟩
 | frz ob u ih=>obtain ⟨e,q⟩:=x;exact ⟨k _ _ (.inl rfl) e,ih q⟩
 | tbl ps =>
  have e:h.get? a=some { cls:=.none,data:=.fields ps }:=x;show h'.get? a=some { cls:=.none,data:=.fields ps };exact k a _ (.inl rfl) e
 | met f y =>
  have e:h.get? a=some (methodObj (.ref f) (.ref y)):=x;show h'.get? a=some (methodObj (.ref f) (.ref y));exact k a _ (.inl rfl) e
 | ext φ=>obtain ⟨p,⟨o,e⟩,st⟩:=x;exact ⟨st _ _ p fun o q=>k _ _ (.inl rfl) q,⟨o,k _ _ (.inl rfl) e⟩,st⟩
theorem HOk.lt (x:HOk P w H h) (e:H a=some o):a < h.objs.size:=(x a o e).lt
theorem HOk.fresh (x:HOk P w H h) (e:h.objs.size<=a):H a=none:=by
 cases q:H a with
 | none=>rfl
 | some u=>exact absurd (Nat.lt_of_lt_of_le (x.lt q) e) (Nat.lt_irrefl _)
theorem HOk.kept (x:HOk P w H h) (k:∀ b u,h.get? b=some u->h'.get? b=some u):HOk P w H h':=fun a o e =>
 (x a o e).stay (fun b u _ q=>k b u q) (fun _ q=>q) fun _ _ q=>q
theorem HOk.laid (x:HOk P w H h) (k:∀ b u,h.get? b=some u->h'.get? b=some u) (hp:h.objs.size<=a) (new:ObjOk P w (upd H a o) h' a o):HOk P w (upd H a o) h':=fun b u e=>by
 have hn:=x.fresh hp;by_cases hb:b=a
 ·subst hb;rw [J3] at e;cases e;exact new
 ·rw [Jg hb] at e;exact (x b u e).stay (fun c v _ q=>k c v q) (fun c q=>by rw [Jg (Jd q hn)];exact q) fun c xs q=>by rw [Jg (Jd q hn)];exact q
end
def Rd (H:Hp) (a:Addr) (u:HO):Prop:=H a=some u\/∃ o,H a=some (.frz o u)
theorem Rd.ok {P:Program} {w:World} {H:Hp} {h:Heap} {a:Addr} {u:HO} (r:Rd H a u) (x:HOk P w H h):ObjOk P w H h a u:=by
 rcases r with r | ⟨o,r⟩
 ·exact x a u r
 ·obtain ⟨_,q⟩:=x a _ r;exact q
def Mut:Option HO->Prop
 | some (.lst _)=>True
 | some (.dK _)=>True
 | some (.dT _)=>True
 | some (.set _ _)=>True
 | some (.ins _ _ _)=>True
 | some (.ext _)=>True
 | _=>False
section
variable {P:Program} {w:World} {H:Hp} {h h':Heap} {x e:Addr} {o':HO}
theorem HOk.write (ok:HOk P w H h) (mu:Mut (H x)) (he:e=x\/H e=some (.own x)) (k:∀ b u,b≠e->h.get? b=some u->h'.get? b=some u) (heo:∃ u,h'.get? e=some u)
  (new:ObjOk P w (upd H x o') h' x o'):HOk P w (upd H x o') h':=fun b u q=>by
 have nown:∀ c y,H c=some (.own y)->c≠x:=fun c y r z=>by subst z;rw [r] at mu;exact mu
 have ntup:∀ c xs,H c=some (.tup xs)->c≠x:=fun c xs r z=>by subst z;rw [r] at mu;exact mu
 by_cases hb:b=x
 ·subst hb;rw [J3] at q;cases q;exact new
 ·rw [Jg hb] at q;by_cases hbe:b=e
  ·have q':H b=some (.own x):=by
    rcases he with z | z
    ·exact absurd (hbe.trans z) hb
    ·rw [hbe];exact z
   rw [q] at q';cases q';obtain ⟨v,hv⟩:=heo;exact ⟨v,by rw [hbe];exact hv⟩
  ·refine (ok b u q).stay (fun c v hc r=>k c v ?_ r) (fun c r=>by rw [Jg (nown c b r)];exact r) fun c xs r=>by rw [Jg (ntup c xs r)];exact r
   rcases hc with rfl | hc
   ·exact hbe
   ·rintro rfl;rcases he with z | z
    ·exact nown c b hc z
    ·rw [hc] at z;cases z;exact hb rfl
end
structure Un (fs ex:List Addr) (H H':Hp) (h h':Heap):Prop where
 keep:∀ b o,h.get? b=some o->H b=none->b ∉ fs->b ∉ ex->h'.get? b=some o
 slot:∀ b o,h.get? b=some o->H b=none->b∈fs->b ∉ ex->∃ sl,h'.get? b=some { o with slots:=sl }
 free:∀ b o,h.get? b=some o->H b=none->b ∉ ex->H' b=none
 there:∀ b o,h.get? b=some o->b ∉ ex->∃ o',h'.get? b=some o'
 tups:∀ b xs,H b=some (.tup xs)->H' b=some (.tup xs)
 frzs:∀ b o u,H b=some (.frz o u)->H' b=some (.frz o u)
 tbls:∀ b ps,H b=some (.tbl ps)->∃ more,H' b=some (.tbl (ps ++ more))
section
variable {fs fs' ex ex':List Addr} {H H1 H2:Hp} {h h1 h2 h':Heap} {a x e:Addr} {o:HO}
theorem Un.any (u:Un fs ex H H1 h h1) {b:Addr} {ob:Obj} (q:h.get? b=some ob) (n:H b=none) (hx:b ∉ ex):∃ sl,h1.get? b=some { ob with slots:=sl }:=by
 by_cases hb:b∈fs
 ·exact u.slot b ob q n hb hx
 ·exact ⟨ob.slots,u.keep b ob q n hb hx⟩
theorem Un.kept (k:∀ b u,h.get? b=some u->h'.get? b=some u):Un fs ex H H h h' :=
 ⟨fun b ob q _ _ _=>k b ob q,fun b ob q _ _ _=>⟨ob.slots,k b ob q⟩,fun _ _ _ n _=>n,fun b ob q _=>⟨ob,k b ob q⟩,fun _ _ q=>q,fun _ _ _ q=>q,fun _ ps q=>⟨#[],by rw [q];simp⟩⟩
theorem Un.refl:Un fs ex H H h h:=Un.kept fun _ _ q=>q
theorem Un.laid (k:∀ b u,h.get? b=some u->h'.get? b=some u) (hp:h.objs.size<=a) (hn:H a=none):Un fs ex H (upd H a o) h h' where
 keep:=fun b u q _ _ _=>k b u q
 slot:=fun b u q _ _ _=>⟨u.slots,k b u q⟩
 free:=fun b u q n _=>by rw [Jg (Nat.ne_of_lt (Nat.lt_of_lt_of_le (lt_size q) hp))];exact n
 there:=fun b u q _=>⟨u,k b u q⟩
 tups:=fun b xs q=>by rw [Jg (Jd q hn)];exact q
 frzs:=fun b u xs q=>by rw [Jg (Jd q hn)];exact q
 tbls:=fun b ps q=>⟨#[],by rw [Jg (Jd q hn),q];simp⟩
theorem Un.write (mu:Mut (H x)) (he:e=x\/H e=some (.own x)) (k:∀ b u,b≠e->h.get? b=some u->h'.get? b=some u) (heo:∃ u,h'.get? e=some u):Un fs ex H (upd H x o) h h':=by
 have hx:∀ b,H b=none->b≠x:=fun b n z=>by subst z;rw [n] at mu;exact mu
 have hb:∀ b,H b=none->b≠e:=fun b n z=>by
  subst z;rcases he with r | r
  ·exact hx b n r
  ·rw [n] at r;cases r
 have hm:∀ b u,H b=some u->¬ Mut (some u)->b≠x:=fun b u q nm z=>by subst z;rw [q] at mu;exact nm mu
 refine ⟨fun b u q n _ _=>k b u (hb b n) q,fun b u q n _ _=>⟨u.slots,k b u (hb b n) q⟩,fun b u q n _=>by rw [Jg (hx b n)];exact n,fun b u q _=>?_,
  fun b xs q=>by rw [Jg (hm b _ q fun z=>z)];exact q,fun b u xs q=>by rw [Jg (hm b _ q fun z=>z)];exact q,fun b ps q=>⟨#[],by rw [Jg (hm b _ q fun z=>z),q];simp⟩⟩
 by_cases hbe:b=e
 ·subst hbe;exact heo
 ·exact ⟨u,k b u hbe q⟩
end
def trk (h:Heap) (H:Hp):List Addr:=(List.range h.objs.size).filter fun a=>(H a).isSome
def hidT (h:Heap) (H:Hp):Heap:=hideAll h (trk h H)
theorem hidT_size (h:Heap) (H:Hp):(hidT h H).objs.size=h.objs.size:=PySem.W.hideAll_size _ _
theorem hidT_get {h:Heap} {H:Hp} {b:Addr} {o:Obj} (e:h.get? b=some o) (n:H b=none):(hidT h H).get? b=some o :=
 PySem.W.hideAll_get _ e fun hm=>by
  have q:(H b).isSome=true:=(mem_filter.mp hm).2;rw [n] at q;simp at q
theorem of_hidT {h:Heap} {H:Hp} {b:Addr} {o:Obj} (e:(hidT h H).get? b=some o):h.get? b=some o/\H b=none:=by
 have e':h.get? b=some o:=of_hideAll (trk h H) e;refine ⟨e',?_⟩
 cases q:H b with
 | none=>rfl
 | some x =>
  have hm:b∈trk h H:=mem_filter.mpr ⟨mem_range.mpr (lt_size e'),by simp [q]⟩;have z:(hidT h H).get? b=none:=PySem.W.hideAll_none (trk h H) hm;rw [z] at e;cases e
end L2
namespace L2
open PySem PySem.Spec PyProof.Rows
structure Mod (K:Frag) (mg:Str->Option Value) (base:Heap):Prop where
 kin:K.In base
 glob:base.Ns mainGlobals mg
 blt:∃ mb,base.Ns builtinsNs mb/\∀ x:Str,x≠"__name__"->mb x=bootBuiltins x
 nolimit:base.NoLimit
structure Cx where
 prog:Program
 w:World
 K:Frag
 mg:Str->Option Value
 base:Heap
 A:Around
 N:List Str
 s₀:Shared
 H₀:Hp
 env:Env
 outer:List Env
 stack:List Env
 ex:List Addr
 fn:Str->Bool
 calm:Bool
 pn:List (Addr × Obj)
 xe:Value->Shared->Prop
def frs (l:List Env):List Addr:=l.filterMap (·.frame)
abbrev Cx.fs (X:Cx):List Addr:=frs X.outer
def Vis (sc:Scope) (x:Str):Prop:=sc.names.lookup x=some .local\/sc.names.lookup x=some .cell\/sc.names.lookup x=some .free
def Loc (sc:Scope) (x:Str):Prop:=sc.names.lookup x=some .local\/sc.names.lookup x=some .cell
def Look (env:Env) (h:Heap) (m:Str->Option Value) (x:Str) (u:Value):Prop :=
 (env.kindOf x=some .local/\m x=some u)\/((env.kindOf x=some .cell\/env.kindOf x=some .free)/\∃ c,env.cells.lookup x=some c/\h.IsCell c (some u))
structure Cx.Ok (X:Cx):Prop where
 mod:Mod X.K X.mg X.base
 kind:X.env.scope.kind=.function
 glob:X.env.globals=mainGlobals
 blt:X.env.builtins=builtinsNs
 above:X.s₀.heap.objs.size<=X.env.locals
 inj:∀ x y c,X.env.cells.lookup x=some c->X.env.cells.lookup y=some c->x=y
 has:∀ x,(X.env.kindOf x=some .cell\/X.env.kindOf x=some .free)->∃ c,X.env.cells.lookup x=some c
 cab:∀ x c,X.fn x=true->X.env.cells.lookup x=some c->X.s₀.heap.objs.size<=c
 hd:X.calm=true->X.A.handled=none
 frames:X.A.frames=some X.stack
 stk:X.stack=X.outer\/(X.stack=X.env :: X.outer/\X.env.frame=some X.env.locals)
 exf:∀ b∈X.ex,b≠X.env.locals/\∀ x c,X.env.cells.lookup x=some c->c≠b
 bs:∀ b o,X.base.get? b=some o->X.s₀.heap.get? b=some o/\X.H₀ b=none
 bsz:X.base.objs.size<=X.s₀.heap.objs.size
 noex:∀ b o,X.base.get? b=some o->b ∉ X.ex
 exfs:∀ b∈X.ex,b ∉ X.fs
 funs:X.s₀.heap.FunFrames X.base X.outer
 frf:∀ b∈X.fs,X.H₀ b=none
structure Inv (X:Cx) (pins:List (Addr × Obj)) (σ:List (Option V)) (H:Hp) (s:Shared):Prop where
 ok:X.Ok
 os:s.os=X.s₀.os
 bare:AllBare s.gens
 base:Un X.fs X.ex X.H₀ H X.s₀.heap s.heap
 loc:∃ m,s.heap.Ns X.env.locals m/\∀ (i:Nat) (x:Str) (v:V),X.N[i]?=some x->σ[i]?=some (some v)->Vis X.env.scope x->∃ u,RelV v u/\Look X.env s.heap m x u
 cell:∀ x c,X.env.cells.lookup x=some c->∃ v,s.heap.IsCell c v
 free:H X.env.locals=none
 freeC:∀ x c,X.env.cells.lookup x=some c->H c=none
 pin:∀ p∈X.pn ++ pins,s.heap.get? p.1=some p.2/\H p.1=none/\p.1≠X.env.locals/\p.1 ∉ X.fs/\∀ v,p.2.data≠.cell v
 hok:HOk X.prog X.w H s.heap
 len:σ.length=X.N.length
section
variable {X:Cx} {pins:List (Addr × Obj)} {σ:List (Option V)} {H H':Hp} {s:Shared} {h':Heap}
theorem Cx.Ok.nofr (ok:X.Ok) {b:Addr} {o:Obj} (e:X.base.get? b=some o):b ∉ X.fs:=fun hb=>by
 have:=(ok.funs.mem hb).1;rw [e] at this;cases this
theorem Inv.bs (I:Inv X pins σ H s):∀ b o,X.base.get? b=some o->s.heap.get? b=some o/\H b=none:=fun b o e =>
 ⟨I.base.keep b o (I.ok.bs b o e).1 (I.ok.bs b o e).2 (I.ok.nofr e) (I.ok.noex b o e),I.base.free b o (I.ok.bs b o e).1 (I.ok.bs b o e).2 (I.ok.noex b o e)⟩
theorem Inv.bk (I:Inv X pins σ H s):∀ b o,X.base.get? b=some o->s.heap.get? b=some o:=fun b o e=>(I.bs b o e).1
theorem Inv.mod (I:Inv X pins σ H s):Mod X.K X.mg X.base:=I.ok.mod
theorem Inv.kIn (I:Inv X pins σ H s):X.K.In s.heap:=I.ok.mod.kin.keeps I.bk
theorem Inv.fr (I:Inv X pins σ H s):∃ m,Fr X.base X.env.locals s.heap m :=
 let ⟨m,hn,_⟩:=I.loc
 ⟨m,hn,I.bk,Nat.le_trans I.ok.bsz I.ok.above⟩
theorem Inv.lt (I:Inv X pins σ H s):X.env.locals < s.heap.objs.size:=by obtain ⟨_,hn,_⟩:=I.loc;exact hn.lt
theorem Inv.sz (I:Inv X pins σ H s):X.s₀.heap.objs.size<=s.heap.objs.size:=Nat.le_trans I.ok.above (Nat.le_of_lt I.lt)
theorem Inv.nofs (I:Inv X pins σ H s) {a:Addr} (h:s.heap.objs.size<=a):a ∉ X.fs:=fun hb=>by
 obtain ⟨_,o,ho,_⟩:=I.ok.funs.mem hb;exact absurd (Nat.lt_of_lt_of_le (lt_size ho) (Nat.le_trans I.sz h)) (Nat.lt_irrefl _)
theorem Inv.cne (I:Inv X pins σ H s):∀ x c,X.env.cells.lookup x=some c->c≠X.env.locals:=fun x c e z=>by
 obtain ⟨v,o,ho,hd⟩:=I.cell x c e;obtain ⟨m,⟨o',es,ep,ho',hd',_⟩,_⟩:=I.loc;rw [z,ho'] at ho;cases ho;rw [hd'] at hd;cases hd
theorem Inv.funs (I:Inv X pins σ H s):s.heap.FunFrames X.base X.outer:=by
 have all:∀ (l:List Env),(∀ b∈frs l,b∈X.fs)->X.s₀.heap.FunFrames X.base l->s.heap.FunFrames X.base l:=by
  intro l
  induction l with
  | nil=>intro _ _;trivial
  | cons env r ih =>
   intro hs hl;obtain ⟨hk,⟨L,o,hf,hn,ho,hd⟩,hr⟩:=hl;have hL:L∈X.fs:=hs L (by unfold frs;rw [List.filterMap_cons,hf];exact mem_cons_self);obtain ⟨sl,e⟩:=I.base.slot L o ho (I.ok.frf L hL) hL fun z=>I.ok.exfs L z hL;exact ⟨hk,⟨L,_,hf,hn,e,hd⟩,ih (fun b hb=>hs b (by unfold frs;rw [List.filterMap_cons,hf];exact mem_cons_of_mem _ hb)) hr⟩
 exact all X.outer (fun _ hb=>hb) I.ok.funs
theorem Inv.stack (I:Inv X pins σ H s):s.heap.FunFrames X.base X.stack:=by
 rcases I.ok.stk with e | ⟨e,hf⟩
 ·rw [e];exact I.funs
 ·rw [e];obtain ⟨m,hn,_⟩:=I.loc;refine .cons (by rw [I.ok.kind];decide) hf hn ?_ I.funs;exact Heap.get?_none_of_le (Nat.le_trans I.ok.bsz I.ok.above)
theorem Inv.stkSub (I:Inv X pins σ H s):∀ b∈frs X.stack,b∈X.env.locals :: X.fs:=fun b hb=>by
 rcases I.ok.stk with e | ⟨e,hf⟩
 ·rw [e] at hb;exact mem_cons_of_mem _ hb
 ·rw [e] at hb;unfold frs at hb;rw [List.filterMap_cons,hf] at hb;exact hb
theorem Inv.stkFree (I:Inv X pins σ H s):∀ b∈frs X.stack,H b=none:=fun b hb=>by
 rcases mem_cons.mp (I.stkSub b hb) with e | hb
 ·rw [e];exact I.free
 ·obtain ⟨_,o,ho,_⟩:=I.ok.funs.mem hb;exact I.base.free b o ho (I.ok.frf b hb) fun z=>I.ok.exfs b z hb
theorem Inv.step {g':Array GenState} {t':Nat} {d':Drawn} {ch:List Addr} (I:Inv X pins σ H s)
  (hch:∀ b∈ch,(b∈X.ex\/X.s₀.heap.objs.size<=b)/\b≠X.env.locals/\(∀ x c,X.env.cells.lookup x=some c->c≠b)/\∀ p∈X.pn ++ pins,p.1≠b)
  (keep:∀ b o,b≠X.env.locals->b ∉ X.fs->b ∉ ch->s.heap.get? b=some o->H b=none->h'.get? b=some o)
  (slot:∀ b o,b≠X.env.locals->b∈X.fs->b ∉ ch->s.heap.get? b=some o->H b=none->∃ sl,h'.get? b=some { o with slots:=sl }) (free:∀ b o,b ∉ ch->s.heap.get? b=some o->H b=none->H' b=none)
  (there:∀ b o,b ∉ ch->s.heap.get? b=some o->∃ o',h'.get? b=some o')
  (tups:∀ b xs,H b=some (.tup xs)->H' b=some (.tup xs)) (frzs:∀ b o u,H b=some (.frz o u)->H' b=some (.frz o u)) (tbls:∀ b ps,H b=some (.tbl ps)->∃ more,H' b=some (.tbl (ps ++ more)))
  (ns:∀ m,s.heap.Ns X.env.locals m->h'.Ns X.env.locals m) (hok:HOk X.prog X.w H' h') (hg:AllBare g') :
  Inv X pins σ H' { s with heap:=h',gens:=g',drawn:=d',toks:=t' }:=by
 have neL:∀ b o,X.s₀.heap.get? b=some o->b≠X.env.locals:=fun b o e=>Nat.ne_of_lt (Nat.lt_of_lt_of_le (lt_size e) I.ok.above);have neC:∀ b o,X.s₀.heap.get? b=some o->b ∉ X.ex->b ∉ ch:=fun b o e hx hb=>by
  rcases (hch b hb).1 with z | z
  ·exact hx z
  ·exact absurd (Nat.lt_of_lt_of_le (lt_size e) z) (Nat.lt_irrefl _)
 have cellK:∀ x c,X.env.cells.lookup x=some c->∀ v,s.heap.IsCell c v->h'.IsCell c v:=fun x c e v h9=>by
  obtain ⟨o,ho,hd⟩:=h9;have nch:c ∉ ch:=fun z=>(hch c z).2.2.1 x c e rfl;by_cases hc:c∈X.fs
  ·obtain ⟨sl,q⟩:=slot c o (I.cne x c e) hc nch ho (I.freeC x c e);exact ⟨_,q,hd⟩
  ·exact ⟨o,keep c o (I.cne x c e) hc nch ho (I.freeC x c e),hd⟩
 refine ⟨I.ok,I.os,hg,⟨fun b o e n hb hx=>?_,fun b o e n hb hx=>?_,fun b o e n hx=>?_,fun b o e hx=>?_,fun b xs e=>tups b xs (I.base.tups b xs e),fun b o xs e=>frzs b o xs (I.base.frzs b o xs e),fun b ps e=>?_⟩,?_,fun x c e=>?_,?_,fun x c e=>?_,fun p hp=>?_,hok,I.len⟩
 ·exact keep b o (neL b o e) hb (neC b o e hx) (I.base.keep b o e n hb hx) (I.base.free b o e n hx)
 ·obtain ⟨sl,e1⟩:=I.base.slot b o e n hb hx;obtain ⟨sl',e2⟩:=slot b _ (neL b o e) hb (neC b o e hx) e1 (I.base.free b o e n hx);exact ⟨sl',e2⟩
 ·obtain ⟨o',e1⟩:=I.base.there b o e hx;exact free b o' (neC b o e hx) e1 (I.base.free b o e n hx)
 ·obtain ⟨o',e1⟩:=I.base.there b o e hx;exact there b o' (neC b o e hx) e1
 ·obtain ⟨m1,e1⟩:=I.base.tbls b ps e;obtain ⟨m2,e2⟩:=tbls b _ e1;exact ⟨m1 ++ m2,by rw [e2,Array.append_assoc]⟩
 ·obtain ⟨m,hn,hl⟩:=I.loc;refine ⟨m,ns m hn,fun i x v e1 e2 e3=>?_⟩;obtain ⟨u,r,l⟩:=hl i x v e1 e2 e3;refine ⟨u,r,?_⟩;rcases l with l | ⟨k,c,e,z⟩
  ·exact .inl l
  ·exact .inr ⟨k,c,e,cellK x c e _ z⟩
 ·obtain ⟨v,z⟩:=I.cell x c e;exact ⟨v,cellK x c e v z⟩
 ·obtain ⟨m,⟨o,_,_,ho,_⟩,_⟩:=I.loc;exact free _ o (fun z=>(hch _ z).2.1 rfl) ho I.free
 ·obtain ⟨v,o,ho,hd⟩:=I.cell x c e;exact free c o (fun z=>(hch c z).2.2.1 x c e rfl) ho (I.freeC x c e)
 ·obtain ⟨e,n,ne,nf,d⟩:=I.pin p hp;have nch:p.1 ∉ ch:=fun z=>(hch p.1 z).2.2.2 p hp rfl;exact ⟨keep p.1 p.2 ne nf nch e n,free p.1 p.2 nch e n,ne,nf,d⟩
theorem Inv.un {t':Nat} (I:Inv X pins σ H s) (u:Un X.fs [] H H' s.heap h') (hok:HOk X.prog X.w H' h'):Inv X pins σ H' { s with heap:=h',toks:=t' }:=by
 obtain ⟨m,⟨o,es,ep,ho,r⟩,_⟩:=id I.loc;obtain ⟨sl,hL⟩:=u.any ho I.free (by simp);exact I.step (g':=s.gens) (d':=s.drawn) (ch:=[]) (fun _ z=>nomatch z) (fun b o _ hb _ e n=>u.keep b o e n hb (by simp)) (fun b o _ hb _ e n=>u.slot b o e n hb (by simp)) (fun b o _ e n=>u.free b o e n (by simp)) (fun b o _ e=>u.there b o e (by simp)) u.tups u.frzs u.tbls (fun m' hm=>by
  obtain ⟨o',es',ep',ho',r'⟩:=hm;rw [ho] at ho';cases ho';exact ⟨_,es',ep',hL,r'⟩) hok I.bare
theorem Inv.call {g':Array GenState} {t':Nat} {d':Drawn} {ch:List Addr} (I:Inv X pins σ H s) (u:Un (frs X.stack) ch H H' s.heap h') (hok:HOk X.prog X.w H' h') (hg:AllBare g')
  (hch:∀ b∈ch,(b∈X.ex\/X.s₀.heap.objs.size<=b)/\b≠X.env.locals/\(∀ x c,X.env.cells.lookup x=some c->c≠b)/\∀ p∈X.pn ++ pins,p.1≠b) :
  Inv X pins σ H' { s with heap:=h',gens:=g',drawn:=d',toks:=t' }:=by
 obtain ⟨m,⟨o,es,ep,ho,r⟩,_⟩:=id I.loc;obtain ⟨sl,hL⟩:=u.any ho I.free fun z=>(hch _ z).2.1 rfl;exact I.step (ch:=ch) hch (fun b o hL hb hc e n=>u.keep b o e n (fun z=>(mem_cons.mp (I.stkSub b z)).elim hL hb) hc) (fun b o _ _ hc e n=>u.any e n hc) (fun b o hc e n=>u.free b o e n hc) (fun b o hc e=>u.there b o e hc) u.tups u.frzs u.tbls (fun m' hm=>by
  obtain ⟨o',es',ep',ho',r'⟩:=hm;rw [ho] at ho';cases ho';exact ⟨_,es',ep',hL,r'⟩) hok hg
theorem Inv.turned {t':Nat} {it:Addr} (I:Inv X pins σ H s) (k:∀ b o,b≠it->s.heap.get? b=some o->h'.get? b=some o) (hn:H it=none) (hL:it≠X.env.locals)
  (h1:it∈X.ex\/X.s₀.heap.objs.size<=it) (h2:∀ x c,X.env.cells.lookup x=some c->c≠it) (h3:∀ p∈X.pn ++ pins,p.1≠it):Inv X pins σ H { s with heap:=h',toks:=t' }:=by
 have nit:∀ b u,H b=some u->b≠it:=fun b u e z=>by rw [z,hn] at e;cases e
 refine I.step (g':=s.gens) (d':=s.drawn) (ch:=[it]) (fun b hb=>?_) (fun b o _ _ hc e _=>k b o (fun z=>hc (by simp [z])) e) (fun b o _ _ hc e _=>⟨o.slots,k b o (fun z=>hc (by simp [z])) e⟩) (fun _ _ _ _ n=>n)
  (fun b o hc e=>⟨o,k b o (fun z=>hc (by simp [z])) e⟩) (fun _ _ e=>e) (fun _ _ _ e=>e) (fun b ps e=>⟨#[],by rw [e];simp⟩) (fun m hm=>?_) (fun b u e=>?_) I.bare
 ·have e:b=it:=by simpa using hb
  subst e;exact ⟨h1,hL,h2,h3⟩
 ·obtain ⟨o,es,ep,ho,r⟩:=hm;exact ⟨o,es,ep,k _ o (Ne.symm hL) ho,r⟩
 ·refine (I.hok b u e).stay (fun c v hc q=>k c v ?_ q) (fun _ q=>q) fun _ _ q=>q;rcases hc with z | z
  ·rw [z];exact nit b u e
  ·exact nit c _ z
theorem Inv.tok (I:Inv X pins σ H s) (t:Nat):Inv X pins σ H { s with toks:=t }:=I.un (h':=s.heap) (t':=t) Un.refl I.hok
theorem Inv.kept {t':Nat} (I:Inv X pins σ H s) (k:∀ b u,s.heap.get? b=some u->h'.get? b=some u):Inv X pins σ H { s with heap:=h',toks:=t' }:=I.un (Un.kept k) (I.hok.kept k)
theorem Inv.laid {a:Addr} {o:HO} {t':Nat} (I:Inv X pins σ H s) (k:∀ b u,s.heap.get? b=some u->h'.get? b=some u) (hp:s.heap.objs.size<=a) (new:ObjOk X.prog X.w (upd H a o) h' a o) :
  Inv X pins σ (upd H a o) { s with heap:=h',toks:=t' }:=I.un (Un.laid k hp (I.hok.fresh hp)) (I.hok.laid k hp new)
theorem Inv.write {x e:Addr} {o:HO} {t':Nat} (I:Inv X pins σ H s) (mu:Mut (H x)) (he:e=x\/H e=some (.own x)) (k:∀ b u,b≠e->s.heap.get? b=some u->h'.get? b=some u) (heo:∃ u,h'.get? e=some u)
  (new:ObjOk X.prog X.w (upd H x o) h' x o):Inv X pins σ (upd H x o) { s with heap:=h',toks:=t' }:=I.un (Un.write mu he k heo) (I.hok.write mu he k heo new)
theorem Inv.pins_of {pins':List (Addr × Obj)} (I:Inv X pins σ H s) (h:∀ p∈pins',s.heap.get? p.1=some p.2/\H p.1=none/\p.1≠X.env.locals/\p.1 ∉ X.fs/\∀ v,p.2.data≠.cell v):Inv X pins' σ H s :=
 ⟨I.ok,I.os,I.bare,I.base,I.loc,I.cell,I.free,I.freeC,fun p hp=>(mem_append.mp hp).elim (fun z=>I.pin p (mem_append_left _ z)) (h p),I.hok,I.len⟩
theorem nodup_ix {N:List Str} (hN:N.Nodup) {i j:Nat} {x:Str} (a:N[i]?=some x) (b:N[j]?=some x):i=j:=by
 obtain ⟨h1,e1⟩:=List.getElem?_eq_some_iff.mp a;obtain ⟨h2,e2⟩:=List.getElem?_eq_some_iff.mp b;exact (getElem_inj hN).mp (e1.trans e2.symm)
theorem store_ok2 {M:Model} {A:Around} {E:Value->Shared->Prop} {i:Nat} {x:Str} {v:V} {u:Value} {Q:Unit->Shared->Prop} (I:Inv X pins σ H s) (hN:X.N.Nodup) (hi:X.N[i]?=some x) (hx:Loc X.env.scope x) (r:RelV v u)
  (h:∀ s',Inv X pins (σ.set i (some v)) H s'->(∃ a,Heap.SameBut a s.heap s'.heap/\(a=X.env.locals\/X.env.cells.lookup x=some a))->Q () s') (hf:X.fn x=true\/X.env.scope.names.lookup x=some .local:=by first | exact .inl rfl | exact .inr rfl | assumption):wpAny M A (storeName X.env x u) Q E s:=by
 obtain ⟨m,hn,hl⟩:=id I.loc;have hcls:(X.env.scope.kind == .class || (X.env.scope.kind == .module && X.env.locals != X.env.globals))=false:=by rw [I.ok.kind];rfl
 have hiσ:i < σ.length:=by rw [I.len];exact (List.getElem?_eq_some_iff.mp hi).1
 have cne:=I.cne;have tracked:∀ {a:Addr} {h':Heap},(∃ o,s.heap.get? a=some o/\H a=none)->Heap.SameBut a s.heap h'->HOk X.prog X.w H h':=fun {a h'} ha hs b ob e=>by
  obtain ⟨_,_,hfree⟩:=ha;refine (I.hok b ob e).stay (fun c w' hc q=>(hs.2 c ?_).trans q) (fun _ q=>q) fun _ _ q=>q;rintro rfl;rcases hc with rfl | hc
  ·rw [hfree] at e;cases e
  ·rw [hfree] at hc;cases hc
 rcases hx with hk | hk
 ·refine wpAny_storeName_local hk hn (fun h' hn' hs=>?_) hcls;obtain ⟨oL,_,_,hoL,_⟩:=id hn;refine h _ ⟨I.ok,I.os,I.bare,⟨fun b o e n hb hx=>?_,fun b o e n hb hx=>?_,I.base.free,fun b o e hx=>?_,I.base.tups,I.base.frzs,I.base.tbls⟩,⟨_,hn',fun j y v' e1 e2 e3=>?_⟩,fun y c e=>?_,I.free,I.freeC,fun p hp=>?_,tracked ⟨oL,hoL,I.free⟩ hs,by simpa using I.len⟩ ⟨_,hs,.inl rfl⟩
  ·exact (hs.2 b (Nat.ne_of_lt (Nat.lt_of_lt_of_le (lt_size e) I.ok.above))).trans (I.base.keep b o e n hb hx)
  ·obtain ⟨sl,e1⟩:=I.base.slot b o e n hb hx;exact ⟨sl,(hs.2 b (Nat.ne_of_lt (Nat.lt_of_lt_of_le (lt_size e) I.ok.above))).trans e1⟩
  ·obtain ⟨o',e1⟩:=I.base.there b o e hx;exact ⟨o',(hs.2 b (Nat.ne_of_lt (Nat.lt_of_lt_of_le (lt_size e) I.ok.above))).trans e1⟩
  ·by_cases hj:j=i
   ·subst hj;rw [hi] at e1;cases e1;rw [List.getElem?_set_self hiσ] at e2;cases e2;exact ⟨u,r,.inl ⟨hk,by simp⟩⟩
   ·rw [getElem?_set_ne (Ne.symm hj)] at e2;obtain ⟨u',r',q⟩:=hl j y v' e1 e2 e3;refine ⟨u',r',?_⟩;rcases q with ⟨k,e⟩ | ⟨k,c,e,z⟩
    ·refine .inl ⟨k,?_⟩;have:y≠x:=fun e=>hj (nodup_ix hN e1 (e ▸ hi));simp [this,e]
    ·exact .inr ⟨k,c,e,z.sameBut hs (cne y c e)⟩
  ·obtain ⟨w',z⟩:=I.cell y c e;exact ⟨w',z.sameBut hs (cne y c e)⟩
  ·obtain ⟨e,n,ne,nf,d⟩:=I.pin p hp;exact ⟨(hs.2 p.1 ne).trans e,n,ne,nf,d⟩
 ·have hfn:X.fn x=true:=by
   rcases hf with z | z
   ·exact z
   ·rw [z] at hk;cases hk
  obtain ⟨c,hc⟩:=I.ok.has x (.inl hk);obtain ⟨w',z⟩:=I.cell x c hc;refine wpAny_storeName_cell I.ok.kind hk hc z (fun h' hc' hs=>?_);obtain ⟨oc,hoc,hocd⟩:=id z;refine h { s with heap:=h' } ⟨I.ok,I.os,I.bare,⟨fun b o e n hb hx=>?_,fun b o e n hb hx=>?_,I.base.free,fun b o e hx=>?_,I.base.tups,I.base.frzs,I.base.tbls⟩,⟨m,hn.sameBut hs (Ne.symm (cne x c hc)),fun j y v' e1 e2 e3=>?_⟩,fun y c' e=>?_,I.free,I.freeC,fun p hp=>?_,tracked ⟨oc,hoc,I.freeC x c hc⟩ hs,by simpa using I.len⟩ ⟨c,hs,.inr hc⟩
  ·exact (hs.2 b (Nat.ne_of_lt (Nat.lt_of_lt_of_le (lt_size e) (I.ok.cab x c hfn hc)))).trans (I.base.keep b o e n hb hx)
  ·obtain ⟨sl,e1⟩:=I.base.slot b o e n hb hx;exact ⟨sl,(hs.2 b (Nat.ne_of_lt (Nat.lt_of_lt_of_le (lt_size e) (I.ok.cab x c hfn hc)))).trans e1⟩
  ·obtain ⟨o',e1⟩:=I.base.there b o e hx;exact ⟨o',(hs.2 b (Nat.ne_of_lt (Nat.lt_of_lt_of_le (lt_size e) (I.ok.cab x c hfn hc)))).trans e1⟩
  ·by_cases hj:j=i
   ·subst hj;rw [hi] at e1;cases e1;rw [List.getElem?_set_self hiσ] at e2;cases e2;exact ⟨u,r,.inr ⟨.inl hk,c,hc,hc'⟩⟩
   ·rw [getElem?_set_ne (Ne.symm hj)] at e2;obtain ⟨u',r',q⟩:=hl j y v' e1 e2 e3;refine ⟨u',r',?_⟩;rcases q with q | ⟨k,c',e,z'⟩
    ·exact .inl q
    ·refine .inr ⟨k,c',e,z'.sameBut hs ?_⟩;rintro rfl;exact hj (nodup_ix hN e1 (I.ok.inj _ _ _ e hc ▸ hi))
  ·by_cases hcc:c'=c
   ·subst hcc;exact ⟨_,hc'⟩
   ·obtain ⟨w2,z2⟩:=I.cell y c' e;exact ⟨w2,z2.sameBut hs hcc⟩
  ·obtain ⟨e,n,ne,nf,d⟩:=I.pin p hp;refine ⟨(hs.2 p.1 ?_).trans e,n,ne,nf,d⟩;intro q;rw [q,hoc] at e;have q':oc=p.2:=Option.some.inj e;exact d w' (by rw [<- q'];exact hocd)
theorem store_ok {M:Model} {A:Around} {E:Value->Shared->Prop} {i:Nat} {x:Str} {v:V} {u:Value} {Q:Unit->Shared->Prop} (I:Inv X pins σ H s) (hN:X.N.Nodup) (hi:X.N[i]?=some x) (hx:Loc X.env.scope x) (r:RelV v u)
  (h:∀ s',Inv X pins (σ.set i (some v)) H s'->Q () s') (hf:X.fn x=true\/X.env.scope.names.lookup x=some .local:=by first | exact .inl rfl | exact .inr rfl | assumption):wpAny M A (storeName X.env x u) Q E s :=
 store_ok2 I hN hi hx r (fun s' I' _=>h s' I') hf
theorem Inv.call' {s':Shared} {ch:List Addr} (I:Inv X pins σ H s) (ho:s'.os=s.os) (u:Un (frs X.stack) ch H H' s.heap s'.heap) (hok:HOk X.prog X.w H' s'.heap) (hg:AllBare s'.gens)
  (hch:∀ b∈ch,(b∈X.ex\/X.s₀.heap.objs.size<=b)/\b≠X.env.locals/\(∀ x c,X.env.cells.lookup x=some c->c≠b)/\∀ p∈X.pn ++ pins,p.1≠b):Inv X pins σ H' s':=by
 obtain ⟨h',g',d',t',o'⟩:=s';have e:o'=s.os:=ho;subst e;exact I.call (g':=g') (t':=t') (d':=d') u hok hg hch
end
abbrev XK:=Value->Option Addr->Hp->Prop
abbrev St:=List (Option V)
abbrev VK:=V->Hp->Prop
abbrev TE:=St->Hp->VK->Prop
abbrev TT:=St->Hp->(Bool->Hp->Prop)->Prop
abbrev TA:=St->Hp->(List V->Hp->Prop)->Prop
structure Ends where
 nx:St->Hp->Prop
 rt:VK
 bk:St->Hp->Prop:=fun _ _=>False
 ct:St->Hp->Prop:=fun _ _=>False
abbrev TS:=Ends->St->Hp->Prop
def EP (X:Cx) (pins:List (Addr × Obj)) (σ:St) (Q:VK) (u:Value) (s':Shared):Prop:=∃ v H',Inv X pins σ H' s'/\RelV v u/\Q v H'
def TP (X:Cx) (pins:List (Addr × Obj)) (σ:St) (Q:Bool->Hp->Prop) (b:Bool) (s':Shared):Prop:=∃ H',Inv X pins σ H' s'/\Q b H'
def AP (X:Cx) (pins:List (Addr × Obj)) (σ:St) (Q:List V->Hp->Prop) (us:List Value) (s':Shared):Prop:=∃ vs H',Inv X pins σ H' s'/\Vals vs us/\Q vs H'
def SP (X:Cx) (pins:List (Addr × Obj)) (D:Ends) (f:Flow) (s':Shared):Prop :=
 match f with
 | .next=>∃ σ' H',Inv X pins σ' H' s'/\D.nx σ' H'
 | .brk=>∃ σ' H',Inv X pins σ' H' s'/\D.bk σ' H'
 | .cont=>∃ σ' H',Inv X pins σ' H' s'/\D.ct σ' H'
 | .ret u=>∃ v σ' H',Inv X pins σ' H' s'/\RelV v u/\D.rt v H'
def PE (X:Cx) (e:Expr) (t:TE):Prop :=
 ∀ (pins:List (Addr × Obj)) (s:Shared) (σ:St) (H:Hp) (Q:VK),Inv X pins σ H s->t σ H Q->wpAny (model X.prog X.w) X.A (eval e X.env) (EP X pins σ Q) X.xe s
def PT (X:Cx) (e:Expr) (t:TT):Prop :=
 ∀ (pins:List (Addr × Obj)) (s:Shared) (σ:St) (H:Hp) (Q:Bool->Hp->Prop),Inv X pins σ H s->t σ H Q->wpAny (model X.prog X.w) X.A (isTrue e X.env (eval e X.env)) (TP X pins σ Q) X.xe s
def PW (X:Cx) (e:Expr) (t:TT):Prop :=
 ∀ (whole:Sem Value) (pins:List (Addr × Obj)) (s:Shared) (σ:St) (H:Hp) (Q:Bool->Hp->Prop),Inv X pins σ H s->t σ H Q->wpAny (model X.prog X.w) X.A (isTrue e X.env whole) (TP X pins σ Q) X.xe s
theorem PW.pt {X:Cx} {e:Expr} {t:TT} (h:PW X e t):PT X e t:=h _
def PA (X:Cx) (es:List Expr) (t:TA):Prop :=
 ∀ (pos:Pos) (pins:List (Addr × Obj)) (s:Shared) (σ:St) (H:Hp) (Q:List V->Hp->Prop),Inv X pins σ H s->t σ H Q->wpAny (model X.prog X.w) X.A (spliced (backTo pos (starEach es X.env))) (AP X pins σ Q) X.xe s
def PS (X:Cx) (st:Stmt) (t:TS):Prop :=
 ∀ (pins:List (Addr × Obj)) (s:Shared) (σ:St) (H:Hp) (D:Ends),Inv X pins σ H s->t D σ H->wpAny (model X.prog X.w) X.A (exec st X.env) (SP X pins D) X.xe s
def PSs (X:Cx) (st:List Stmt) (t:TS):Prop :=
 ∀ (pins:List (Addr × Obj)) (s:Shared) (σ:St) (H:Hp) (D:Ends),Inv X pins σ H s->t D σ H->wpAny (model X.prog X.w) X.A (execs st X.env) (SP X pins D) X.xe s
theorem thn {α:Type} {t:Sem α} {Q Q':α->Shared->Prop} {M:Model} {A:Around} {E:Value->Shared->Prop} {s:Shared} (h:wpAny M A t Q E s) (hQ:∀ a s,Q a s->Q' a s):wpAny M A t Q' E s:=wpAny_mono h hQ fun _ _ x=>x
end L2
namespace L2
open PySem PySem.Spec PyProof.Rows
section
variable {X:Cx}
def tVar (i:Nat):TE:=fun σ H Q=>∃ v,σ[i]?=some (some v)/\Q v H
def tC (v:V):TE:=fun _ H Q=>Q v H
theorem pe_var {i:Nat} {x:Str} {pos:Pos} (hN:X.N[i]?=some x) (hv:Vis X.env.scope x) (hd:(x == ("__debug__":Str))=false:=by decide) (hcd:(x == ("__classdict__":Str))=false:=by decide):PE X (.Name x pos) (tVar i):=by
 intro pins s σ H Q I h;obtain ⟨v,e,h⟩:=h;obtain ⟨m,hn,hl⟩:=I.loc;obtain ⟨u,r,l⟩:=hl i x v hN e hv;have fin:EP X pins σ Q u s:=⟨v,H,I,r,h⟩;rcases l with ⟨hk,hm⟩ | ⟨hk,c,hc,hcell⟩
 ·exact wpAny_Name (wpAny_loadName_local I.ok.kind hk hn hm fin) hd
 ·rcases hk with hk | hk
  ·exact wpAny_Name (wpAny_loadName_cell I.ok.kind hk hc hcell fin) hd
  ·exact wpAny_Name (wpAny_loadName_free I.ok.kind hk hc hcell fin hcd) hd
theorem Jb {i j pos}:PE X (.Constant (.int i) j pos) (tC (.int i)):=fun _ _ _ H _ I h=>wpAny_Constant_int ⟨.int i,H,I.tok _,⟨_,rfl⟩,h⟩
theorem pe_bl {b j pos}:PE X (.Constant (.bool b) j pos) (tC (.bl b)):=fun _ _ _ H _ I h=>Constant_bool ⟨.bl b,H,I,rfl,h⟩
theorem pe_non {j pos}:PE X (.Constant .none j pos) (tC .non):=fun _ _ _ H _ I h=>Constant_none ⟨.non,H,I,rfl,h⟩
theorem J4z {x j pos}:PE X (.Constant (.str x) j pos) (tC (.str x)):=fun _ _ _ H _ I h=>Calls.Constant_str ⟨.str x,H,I.tok _,⟨_,rfl⟩,h⟩
def Gl (X:Cx) (x:Str):Prop:=X.env.kindOf x=some .globalImplicit
theorem J6u {E:Value->Shared->Prop} {pins:List (Addr × Obj)} {s:Shared} {σ:St} {H:Hp} {x:Str} {u:Value} {pos:Pos} {Q:Value->Shared->Prop} (I:Inv X pins σ H s) (hg:Gl X x) (hm:X.mg x=some u) (h:Q u s)
  (hd:(x == ("__debug__":Str))=false:=by decide):wpAny (model X.prog X.w) X.A (eval (.Name x pos) X.env) Q E s :=
 Calls.Name_function_global I.ok.kind hg (Calls.loadGlobal_global (by rw [I.ok.glob];exact I.mod.glob.keeps I.bk) hm h) hd
theorem J7q {E:Value->Shared->Prop} {pins:List (Addr × Obj)} {s:Shared} {σ:St} {H:Hp} {x:Str} {u:Value} {pos:Pos} {Q:Value->Shared->Prop} (I:Inv X pins σ H s) (hg:Gl X x) (hm:X.mg x=none) (hv:bootBuiltins x=some u) (h:Q u s)
  (hn:x≠"__name__":=by decide) (hd:(x == ("__debug__":Str))=false:=by decide):wpAny (model X.prog X.w) X.A (eval (.Name x pos) X.env) Q E s:=by
 obtain ⟨mb,h1,h2⟩:=I.mod.blt;exact Calls.Name_function_global I.ok.kind hg (Calls.loadGlobal_builtin (by rw [I.ok.glob];exact I.mod.glob.keeps I.bk) hm (by rw [I.ok.blt];exact h1.keeps I.bk) ((h2 x hn).trans hv) h) hd
theorem pe_glob {x:Str} {v:V} {u:Value} {pos:Pos} (hg:Gl X x) (hm:X.mg x=some u) (r:RelV v u) (hd:(x == ("__debug__":Str))=false:=by decide):PE X (.Name x pos) (tC v) :=
 fun _ _ _ H _ I h=>J6u I hg hm ⟨v,H,I,r,h⟩ hd
theorem pe_bltn {x:Str} {v:V} {u:Value} {pos:Pos} (hg:Gl X x) (hm:X.mg x=none) (hv:bootBuiltins x=some u) (r:RelV v u) (hn:x≠"__name__":=by decide) (hd:(x == ("__debug__":Str))=false:=by decide):PE X (.Name x pos) (tC v) :=
 fun _ _ _ H _ I h=>J7q I hg hm hv ⟨v,H,I,r,h⟩ hn hd
variable {a b:Expr} {ta tb:TE} {pos:Pos}
def PC (X:Cx) (op:CmpOp) (a b:Expr) (t:TE):Prop :=
 ∀ (pins:List (Addr × Obj)) (s:Shared) (σ:St) (H:Hp) (Q:VK),Inv X pins σ H s->t σ H Q->
  wpAny (model X.prog X.w) X.A (eval a X.env) (fun v s₁=>wpAny (model X.prog X.w) X.A (eval b X.env) (fun u s₂=>wpAny (model X.prog X.w) X.A (compareOp op v u) (EP X pins σ Q) X.xe s₂) X.xe s₁) X.xe s
theorem nobehind (b:Expr) {op:CmpOp} (h:op≠.In) (h2:op≠.NotIn):behindInMarks op b=false:=by
 have e1:(op == CmpOp.In)=false:=by cases op <;> first | rfl | exact absurd rfl h
 have e2:(op == CmpOp.NotIn)=false:=by cases op <;> first | rfl | exact absurd rfl h2
 cases b <;> simp [behindInMarks,e1,e2]
def tIsN (ta:TE):TE:=fun σ H Q=>ta σ H fun x H1=>Q (.bl (decide (x=.non))) H1
theorem RelV.none_iff {x:V} {v:Value} (r:RelV x v):(v == Value.none)=decide (x=.non):=by
 cases x with
 | non=>cases r;rfl
 | bl _=>cases r;rfl
 | int _=>obtain ⟨t,rfl⟩:=r;rfl
 | str _=>obtain ⟨t,rfl⟩:=r;rfl
 | byt _=>obtain ⟨t,rfl⟩:=r;rfl
 | flt _=>obtain ⟨t,rfl⟩:=r;rfl
 | ref _=>cases r;rfl
 | ty _=>cases r;rfl
theorem pc_isN {j pos'} (ha:PE X a ta):PC X .Is a (.Constant .none j pos') (tIsN ta):=by
 intro pins s σ H Q I h;refine thn (ha pins s σ H _ I h) fun v s1 h9=>?_;obtain ⟨x,H1,I1,r1,q1⟩:=h9;exact Constant_none (is_none_gen ⟨.bl _,H1,I1,by rw [r1.none_iff];rfl,q1⟩)
def tB (t:TE):TT:=fun σ H Q=>t σ H fun x H1=>∃ c,x=.bl c/\Q c H1
theorem pt_cmp {op:CmpOp} {t:TE} (h:PC X op a b t) (h1:behindInMarks op b=false:=by first | exact nobehind _ (by decide) (by decide) | rfl):PT X (.Compare a [op] [b] pos) (tB t):=by
 intro pins s σ H Q I hw;refine wpAny_isTrue_Compare1 (thn (h pins s σ H _ I hw) fun v s1 h1=>thn h1 fun u s2 h2=>thn h2 fun c s3 h9=>?_) h1;obtain ⟨x,H1,I1,r1,q1⟩:=h9;obtain ⟨d,rfl,q⟩:=q1;cases r1;exact wpAny_truthy_bool ⟨H1,I1,q⟩
theorem J2o {e:Expr} {t:TE} (h:PE X e t) (he:∀ whole,isTrue e X.env whole=(do let v <- whole;standAt e.pos;holding [v] (truthy v)):=by intro _;rfl):PT X e (tB t):=by
 intro pins s σ H Q I hw;refine isTrue_plain (thn (h pins s σ H _ I hw) fun v s1 h9=>?_) (he _);obtain ⟨x,H1,I1,r1,q1⟩:=h9;obtain ⟨d,rfl,q⟩:=q1;cases r1;exact wpAny_truthy_bool ⟨H1,I1,q⟩
variable {tA tB':TT} {rest:List Expr}
def tAnd (t u:TT):TT:=fun σ H Q=>t σ H fun c H1=>if c=true then u σ H1 Q else Q false H1
def tOr (t u:TT):TT:=fun σ H Q=>t σ H fun c H1=>if c=true then Q true H1 else u σ H1 Q
def tNot (t:TT):TT:=fun σ H Q=>t σ H fun c H1=>Q (!c) H1
theorem pw_and1 (ha:PT X a tA):PW X (.BoolOp .And [a] pos) tA:=by
 intro wh pins s σ H Q I h;refine isTrue_and (thn (ha pins s σ H Q I h) fun c s1 e=>?_)
 cases c with
 | true=>exact isTrue_and_nil e
 | false=>exact e
theorem J6n (ha:PT X a tA):PW X (.BoolOp .Or [a] pos) tA:=by
 intro wh pins s σ H Q I h;refine isTrue_or (thn (ha pins s σ H Q I h) fun c s1 e=>?_)
 cases c with
 | false=>exact isTrue_or_nil e
 | true=>exact e
theorem pw_and (ha:PT X a tA) (hb:PW X (.BoolOp .And (b :: rest) pos) tB'):PW X (.BoolOp .And (a :: b :: rest) pos) (tAnd tA tB'):=by
 intro wh pins s σ H Q I h;refine isTrue_and (thn (ha pins s σ H _ I h) fun c s1 h9=>?_);obtain ⟨H1,I1,q1⟩:=h9
 cases c with
 | true=>exact hb wh pins s1 σ H1 Q I1 q1
 | false=>exact ⟨H1,I1,q1⟩
theorem pw_or (ha:PT X a tA) (hb:PW X (.BoolOp .Or (b :: rest) pos) tB'):PW X (.BoolOp .Or (a :: b :: rest) pos) (tOr tA tB'):=by
 intro wh pins s σ H Q I h;refine isTrue_or (thn (ha pins s σ H _ I h) fun c s1 h9=>?_);obtain ⟨H1,I1,q1⟩:=h9
 cases c with
 | true=>exact ⟨H1,I1,q1⟩
 | false=>exact hb wh pins s1 σ H1 Q I1 q1
theorem J4x (ha:PT X a tA):PT X (.UnaryOp .Not a pos) (tNot tA):=by
 intro pins s σ H Q I h;exact isTrue_not (ha pins s σ H (fun c H1=>Q (!c) H1) I h)
def tAndV (ta tb:TE):TE:=fun σ H Q=>ta σ H fun x H1=>∃ c,x=.bl c/\if c=true then tb σ H1 Q else Q (.bl false) H1
def tNotV (ta:TE):TE:=fun σ H Q=>ta σ H fun x H1=>∃ c,x=.bl c/\Q (.bl (!c)) H1
theorem pe_one {op} {t:TE} (h:PE X a t):PE X (.BoolOp op [a] pos) t:=fun pins s σ H Q I hw=>BoolOp_one (h pins s σ H Q I hw)
theorem pe_and (ha:PE X a ta) (hb:PE X (.BoolOp .And (b :: rest) pos) tb):PE X (.BoolOp .And (a :: b :: rest) pos) (tAndV ta tb):=by
 intro pins s σ H Q I h;refine BoolOp_and (thn (ha pins s σ H _ I h) fun v s1 h9=>?_);obtain ⟨x,H1,I1,r1,q1⟩:=h9;obtain ⟨c,rfl,q1⟩:=q1;cases r1;refine wpAny_truthy_bool ?_
 cases c with
 | true=>exact hb pins s1 σ H1 Q I1 q1
 | false=>exact ⟨.bl false,H1,I1,rfl,q1⟩
theorem pe_not (ha:PE X a ta):PE X (.UnaryOp .Not a pos) (tNotV ta):=by
 intro pins s σ H Q I h;refine UnaryOp_ (thn (ha pins s σ H _ I h) fun v s1 h9=>?_);obtain ⟨x,H1,I1,r1,q1⟩:=h9;obtain ⟨c,rfl,q1⟩:=q1;cases r1;exact not_of (wpAny_truthy_bool ⟨.bl (!c),H1,I1,rfl,q1⟩)
def tIf (t:TT) (ta tb:TE):TE:=fun σ H Q=>t σ H fun c H1=>if c=true then ta σ H1 Q else tb σ H1 Q
theorem J4i {c:Expr} (hc:PT X c tA) (ha:PE X a ta) (hb:PE X b tb):PE X (.IfExp c a b pos) (tIf tA ta tb):=by
 intro pins s σ H Q I h;refine wpAny_IfExp (thn (hc pins s σ H _ I h) fun d s1 h9=>?_);obtain ⟨H1,I1,q1⟩:=h9
 cases d with
 | true=>exact ha pins s1 σ H1 Q I1 q1
 | false=>exact hb pins s1 σ H1 Q I1 q1
end
end L2
namespace L2
open PySem PySem.Spec PyProof.Rows
def SqL (K:Frag) (H:Hp) (a:Addr) (xs:List V):Prop :=
 Rd H a (.lst xs)\/
  ∃ (o:Obj) (its:Array Value) (n:Nat),K.lookup a=some o/\o.cls=.type "list"/\o.dict=none/\o.data=.seq its n/\its.size<=sizeLine/\Vals xs its.toList
def SqT (K:Frag) (H:Hp) (a:Addr) (xs:List V):Prop :=
 Rd H a (.tup xs)\/
  ∃ (o:Obj) (its:Array Value) (n:Nat),K.lookup a=some o/\o.cls=.type "tuple"/\o.data=.seq its n/\its.size<=sizeLine/\Vals xs its.toList
def absV:Value->Option V
 | .none=>some .non
 | .bool b=>some (.bl b)
 | .int i _=>some (.int i)
 | .str x _=>some (.str x)
 | .bytes b _=>some (.byt b)
 | .float b _=>some (.flt b)
 | .ref a=>some (.ref a)
 | .type n=>some (.ty n)
 | _=>none
theorem RelV.abs {x:V} {u:Value} (r:RelV x u):absV u=some x:=by
 cases x with
 | non=>cases r;rfl
 | bl _=>cases r;rfl
 | int _=>obtain ⟨t,rfl⟩:=r;rfl
 | str _=>obtain ⟨t,rfl⟩:=r;rfl
 | byt _=>obtain ⟨t,rfl⟩:=r;rfl
 | flt _=>obtain ⟨t,rfl⟩:=r;rfl
 | ref _=>cases r;rfl
 | ty _=>cases r;rfl
theorem RelV.inj {x y:V} {u:Value} (r:RelV x u) (q:RelV y u):x=y:=Option.some.inj (r.abs.symm.trans q.abs)
theorem Vals.inj:∀ {xs ys:List V} {us:List Value},Vals xs us->Vals ys us->xs=ys
 | _,_,_,.nil,.nil=>rfl
 | _,_,_,.cons r t,.cons r' t'=>by rw [r.inj r',Vals.inj t t']
section
variable {X:Cx} {pins:List (Addr × Obj)} {σ:St} {H:Hp} {s:Shared} {a:Addr} {xs ys:List V}
theorem SqL.of {K:Frag} (h:H a=some (.lst xs)):SqL K H a xs:=.inl (.inl h)
theorem SqT.of {K:Frag} (h:H a=some (.tup xs)):SqT K H a xs:=.inl (.inl h)
theorem Inv.list (I:Inv X pins σ H s) (h:SqL X.K H a xs):∃ its:List Value,Vals xs its/\PlainL s.heap a its.toArray/\xs.length<=sizeLine:=by
 rcases h with h | ⟨o,its,n,hk,hc,hd,hs,hz,r⟩
 ·obtain ⟨z,its,n,r,e⟩:=h.ok I.hok;exact ⟨its,r,⟨_,n,e,rfl,rfl,rfl⟩,z⟩
 ·refine ⟨its.toList,r,⟨o,n,I.kIn a o hk,hc,hd,by simpa using hs⟩,?_⟩;have e:=r.length;simp only [length_toList] at e;lia
theorem Inv.tuple (I:Inv X pins σ H s) (h:SqT X.K H a xs):∃ its:List Value,Vals xs its/\IsTup s.heap a its.toArray/\xs.length<=sizeLine:=by
 rcases h with h | ⟨o,its,n,hk,hc,hs,hz,r⟩
 ·obtain ⟨z,its,r,p⟩:=h.ok I.hok;exact ⟨its,r,p.tup,z⟩
 ·refine ⟨its.toList,r,⟨o,I.kIn a o hk,hc,n,by simpa using hs⟩,?_⟩;have e:=r.length;simp only [length_toList] at e;lia
theorem Inv.list_inj (I:Inv X pins σ H s) (h:SqL X.K H a xs) (h':SqL X.K H a ys):xs=ys:=by
 obtain ⟨its,r,⟨o,n,e,_,_,d⟩,_⟩:=I.list h;obtain ⟨its',r',⟨o',n',e',_,_,d'⟩,_⟩:=I.list h';rw [e] at e';cases e';rw [d] at d';injection d' with d1 _
 have:its=its':=by simpa using congrArg Array.toList d1
 subst this;exact r.inj r'
theorem Inv.tuple_inj (I:Inv X pins σ H s) (h:SqT X.K H a xs) (h':SqT X.K H a ys):xs=ys:=by
 obtain ⟨its,r,⟨o,e,_,n,d⟩,_⟩:=I.tuple h;obtain ⟨its',r',⟨o',e',_,n',d'⟩,_⟩:=I.tuple h';rw [e] at e';cases e';rw [d] at d';injection d' with d1 _
 have:its=its':=by simpa using congrArg Array.toList d1
 subst this;exact r.inj r'
end
abbrev Cx.wish (X:Cx) (E:Value->Shared->Prop):Cx:={ X with xe:=E }
abbrev Cx.nox (X:Cx):Cx:=X.wish fun _ _=>False
theorem Cx.Ok.wish {X:Cx} (ok:X.Ok) (E:Value->Shared->Prop):(X.wish E).Ok :=
 ⟨ok.mod,ok.kind,ok.glob,ok.blt,ok.above,ok.inj,ok.has,ok.cab,ok.hd,ok.frames,ok.stk,ok.exf,ok.bs,ok.bsz,ok.noex,ok.exfs,ok.funs,ok.frf⟩
theorem Cx.Ok.unwish {X:Cx} {E:Value->Shared->Prop} (ok:(X.wish E).Ok):X.Ok :=
 ⟨ok.mod,ok.kind,ok.glob,ok.blt,ok.above,ok.inj,ok.has,ok.cab,ok.hd,ok.frames,ok.stk,ok.exf,ok.bs,ok.bsz,ok.noex,ok.exfs,ok.funs,ok.frf⟩
section
variable {X:Cx} {pins:List (Addr × Obj)} {σ:St} {H:Hp} {s:Shared} {E:Value->Shared->Prop}
theorem Inv.wish (I:Inv X pins σ H s) (E:Value->Shared->Prop):Inv (X.wish E) pins σ H s:=⟨I.ok.wish E,I.os,I.bare,I.base,I.loc,I.cell,I.free,I.freeC,I.pin,I.hok,I.len⟩
theorem Inv.unwish (I:Inv (X.wish E) pins σ H s):Inv X pins σ H s:=⟨I.ok.unwish,I.os,I.bare,I.base,I.loc,I.cell,I.free,I.freeC,I.pin,I.hok,I.len⟩
theorem SP.unwish {D:Ends} {f:Flow} {s':Shared} (h:SP (X.wish E) pins D f s'):SP X pins D f s':=by
 cases f with
 | next=>obtain ⟨σ',H',I,q⟩:=h;exact ⟨σ',H',I.unwish,q⟩
 | brk=>obtain ⟨σ',H',I,q⟩:=h;exact ⟨σ',H',I.unwish,q⟩
 | cont=>obtain ⟨σ',H',I,q⟩:=h;exact ⟨σ',H',I.unwish,q⟩
 | ret u=>obtain ⟨v,σ',H',I,r,q⟩:=h;exact ⟨v,σ',H',I.unwish,r,q⟩
theorem PSs.nox {st:List Stmt} {t:TS} (h:PSs X.nox st t):PSs X st t:=fun pins s σ H D I hw =>
 wpAny_mono (h pins s σ H D (I.wish _) hw) (fun _ _ q=>q.unwish) fun _ _ z=>False.elim z
end
section
variable {X:Cx} {st:Stmt} {rest:List Stmt} {t u:TS} {e:Expr} {te:TE} {pos:Pos}
def tNext:TS:=fun D σ H=>D.nx σ H
def tSeq (t u:TS):TS:=fun D σ H=>t { D with nx:=u D } σ H
theorem Jx:PSs X [] tNext:=fun _ _ σ H _ I h=>wpAny_execs_nil ⟨σ,H,I,h⟩
theorem J1 (h1:PS X st t) (h2:PSs X rest u):PSs X (st :: rest) (tSeq t u):=by
 intro pins s σ H D I h;refine wpAny_execs_cons (thn (h1 pins s σ H { D with nx:=u D } I h) fun f s1 q=>?_)
 cases f with
 | next =>
  obtain ⟨σ',H',I',q⟩:=q;exact h2 pins s1 σ' H' D I' q
 | ret v=>exact q
 | brk=>exact q
 | cont=>exact q
theorem J6 (h1:PS X st t):PSs X [st] t:=by
 intro pins s σ H D I h;refine wpAny_execs_cons (thn (h1 pins s σ H D I h) fun f s1 q=>?_)
 cases f with
 | next=>exact wpAny_execs_nil q
 | ret v=>exact q
 | brk=>exact q
 | cont=>exact q
theorem Inv.quiet {pins:List (Addr × Obj)} {σ:St} {H:Hp} {s:Shared} (I:Inv X pins σ H s):interactive X.env=false:=by simp [interactive,I.ok.kind]
def tDrop (te:TE):TS:=fun D σ H=>te σ H fun _ H1=>D.nx σ H1
theorem J1r (he:PE X e te) (hs:swapsWith e none pos.line X.env=pure false:=by rfl):PS X (.Expr e pos) (tDrop te):=by
 intro pins s σ H D I h;exact wpAny_Expr_any (thn (he pins s σ H _ I h) fun v s1 h9=>by obtain ⟨x,H1,I1,r1,q1⟩:=h9;exact ⟨σ,H1,I1,q1⟩) I.quiet hs
def tRet (te:TE):TS:=fun D σ H=>te σ H D.rt
theorem Jl (he:PE X e te):PS X (.Return (some e) pos) (tRet te):=by
 intro pins s σ H D I h;exact wpAny_Return_some (thn (he pins s σ H _ I h) fun v s1 h9=>by obtain ⟨x,H1,I1,r1,q1⟩:=h9;exact ⟨x,σ,H1,I1,r1,q1⟩)
def tIfS (c:TT) (t u:TS):TS:=fun D σ H=>c σ H fun b H1=>if b=true then t D σ H1 else u D σ H1
theorem ps_if {c:Expr} {a b:List Stmt} {tc:TT} (hc:PT X c tc) (ha:PSs X a t) (hb:PSs X b u):PS X (.If c a b pos) (tIfS tc t u):=by
 intro pins s σ H D I h;refine wpAny_If (thn (hc pins s σ H _ I h) fun d s1 h9=>?_);obtain ⟨H1,I1,q1⟩:=h9
 cases d with
 | true=>exact ha pins s1 σ H1 D I1 q1
 | false=>exact hb pins s1 σ H1 D I1 q1
def tNever:TS:=fun _ _ _=>False
theorem J3p:PS X st tNever:=fun _ _ _ _ _ _ h=>h.elim
end
abbrev TG:=V->St->Hp->(St->Hp->Prop)->Prop
abbrev TGs:=List V->St->Hp->(St->Hp->Prop)->Prop
def PG (X:Cx) (target:Expr) (t:TG):Prop :=
 ∀ (pins:List (Addr × Obj)) (s:Shared) (σ:St) (H:Hp) (v:V) (u:Value) (Q:St->Hp->Prop),Inv X pins σ H s->RelV v u->t v σ H Q->
  wpAny (model X.prog X.w) X.A (assign target X.env u) (fun _ s'=>∃ σ' H',Inv X pins σ' H' s'/\Q σ' H') X.xe s
def PGs (X:Cx) (ts:List Expr) (t:TGs):Prop :=
 ∀ (pins:List (Addr × Obj)) (s:Shared) (σ:St) (H:Hp) (vs:List V) (us:List Value) (Q:St->Hp->Prop),Inv X pins σ H s->Vals vs us->t vs σ H Q->
  wpAny (model X.prog X.w) X.A (assignInOrder ((assignEach ts X.env).map (·.2)) us) (fun _ s'=>∃ σ' H',Inv X pins σ' H' s'/\Q σ' H') X.xe s
abbrev TSet:=V->V->V->Hp->(Hp->Prop)->Prop
def PSet (X:Cx) (t:TSet):Prop :=
 ∀ (pins:List (Addr × Obj)) (s:Shared) (σ:St) (H:Hp) (o i v:V) (ov iv u:Value) (Q:Hp->Prop),Inv X pins σ H s->RelV o ov->RelV i iv->RelV v u->t o i v H Q->
  wpAny (model X.prog X.w) X.A (setItem ov iv u) (fun _ s'=>∃ H',Inv X pins σ H' s'/\Q H') X.xe s
section
variable {X:Cx} {pos:Pos}
def gName (i:Nat):TG:=fun v σ H Q=>Q (σ.set i (some v)) H
theorem J1p {i:Nat} {x:Str} (hN:X.N.Nodup) (hi:X.N[i]?=some x) (hx:Loc X.env.scope x) (hf:X.fn x=true\/X.env.scope.names.lookup x=some .local:=by first | exact .inl rfl | exact .inr rfl | assumption):PG X (.Name x pos) (gName i):=by
 intro pins s σ H v u Q I r h;exact wpAny_assign_Name (store_ok I hN hi hx r (fun s' I'=>⟨_,H,I',h⟩) hf)
def gNil:TGs:=fun vs σ H Q=>vs=[]/\Q σ H
def gCons (t:TG) (u:TGs):TGs:=fun vs σ H Q=>∃ v r,vs=v :: r/\t v σ H fun σ' H'=>u r σ' H' Q
theorem pgs_nil:PGs X [] gNil:=by
 intro pins s σ H vs us Q I r h;obtain ⟨e,h⟩:=h;subst e;cases r;exact assignInOrder_nil ⟨σ,H,I,h⟩
theorem J2p {e:Expr} {es:List Expr} {t:TG} {u:TGs} (h1:PG X e t) (h2:PGs X es u)
  (hs:(assignEach (e :: es) X.env).map (·.2)=assign e X.env :: (assignEach es X.env).map (·.2):=by rfl):PGs X (e :: es) (gCons t u):=by
 intro pins s σ H vs us Q I r h;obtain ⟨v,vr,e1,h⟩:=h;subst e1
 cases r with
 | cons r rr =>
  rw [hs];refine assignInOrder_cons (thn (h1 pins s σ H _ _ _ I r h) fun _ s1 h9=>?_);obtain ⟨σ1,H1,I1,q1⟩:=h9;exact h2 pins s1 σ1 H1 _ _ Q I1 rr q1
def gTup (K:Frag) (n:Nat) (t:TGs):TG:=fun v σ H Q=>∃ a xs,v=.ref a/\SqT K H a xs/\xs.length=n/\t xs σ H Q
theorem pg_tup {es:List Expr} {k:Nat} {t:TGs} {n:Nat} (hc:X.calm=true) (h:PGs X es t)
  (hn:(assignEach es X.env).length=n:=by rfl) (hst:(assignEach es X.env).findIdx? (·.1)=none:=by rfl):PG X (.Tuple es k pos) (gTup X.K n t):=by
 intro pins s σ H v u Q I r hw;obtain ⟨a,xs,e1,hq,hl,hw⟩:=hw;subst e1;cases r;obtain ⟨its,rv,ht,hz⟩:=I.tuple hq;refine assign_Tuple_tuple (I.ok.hd hc) ht (by simp [hn,<- hl,rv.length]) hst fun h' hx=>?_;have I1:Inv X pins σ H { s with heap:=h' }:=I.kept (t':=s.toks) fun b o e=>hx b o (Nat.ne_of_lt (lt_size e)) e;exact h pins _ σ H xs _ Q I1 (by simpa using rv) hw
def gSub (to ti:TE) (t:TSet):TG:=fun v σ H Q=>to σ H fun o H1=>ti σ H1 fun i H2=>t o i v H2 fun H3=>Q σ H3
theorem pg_sub {o i:Expr} {to ti:TE} {t:TSet} (ho:PE X o to) (hi:PE X i ti) (hs:PSet X t)
  (ha:∀ v,assign (.Subscript o i pos) X.env v=(do
   let ov <- holding [v] (eval o X.env);let iv <- holding [v,ov] (eval i X.env)
   standAt pos
   holding [v,ov,iv] (setItem ov iv v)
   release [v,ov,iv] []):=by intro _;rfl):PG X (.Subscript o i pos) (gSub to ti t):=by
 intro pins s σ H v u Q I r h;rw [ha];refine wpAny_bind (wpAny_holding (thn (ho pins s σ H _ I h) fun ov s1 h9=>?_));obtain ⟨x,H1,I1,r1,q1⟩:=h9;refine wpAny_bind (wpAny_holding (thn (hi pins s1 σ H1 _ I1 q1) fun iv s2 h9=>?_));obtain ⟨y,H2,I2,r2,q2⟩:=h9;refine wpAny_bind (wpAny_standAt (wpAny_bind (wpAny_holding (thn (hs pins s2 σ H2 x y v ov iv u _ I2 r1 r2 r q2) fun _ s3 h9=>?_))));obtain ⟨H3,I3,q3⟩:=h9;exact wpAny_release ⟨σ,H3,I3,q3⟩
def tAsg (te:TE) (g:TG):TS:=fun D σ H=>te σ H fun x H1=>g x σ H1 D.nx
theorem J7k {tg e:Expr} {te:TE} {g:TG} (he:PE X e te) (hg:PG X tg g) (hs:swapsWithSole [tg] e pos.line X.env=pure false:=by rfl) (hw:swappedStores [tg] e X.env=pure none:=by rfl)
  (h1:(assignEach [tg] X.env).map (·.2)=[assign tg X.env]:=by rfl):PS X (.Assign [tg] e pos) (tAsg te g):=by
 intro pins s σ H D I h;refine wpAny_Assign_stores (thn (he pins s σ H _ I h) fun v s1 h9=>?_) hs hw;obtain ⟨x,H1,I1,r1,q1⟩:=h9;rw [h1];exact thn (hg pins s1 σ H1 x v _ I1 r1 q1) fun _ s2 q=>q
theorem Jh {i:Nat} {x:Str} {e:Expr} {te:TE} {pos':Pos} (hN:X.N.Nodup) (hi:X.N[i]?=some x) (hx:Loc X.env.scope x) (he:PE X e te) (hs:swapsWith e (some (.Name x pos')) pos.line X.env=pure false:=by rfl) (hf:X.fn x=true\/X.env.scope.names.lookup x=some .local:=by first | exact .inl rfl | exact .inr rfl | assumption) :
  PS X (.Assign [.Name x pos'] e pos) (tAsg te (gName i)):=by
 intro pins s σ H D I h;refine wpAny_Assign_Name (thn (he pins s σ H _ I h) fun v s1 h9=>?_) hs;obtain ⟨y,H1,I1,r1,q1⟩:=h9;exact store_ok I1 hN hi hx r1 (fun s2 I2=>⟨_,H1,I2,q1⟩) hf
end
section
variable {X:Cx} {pos:Pos}
def tWhile (c:TT) (tb:TS):TS:=fun D σ H=>∃ W:Nat->St->Hp->Prop,(∃ m,W m σ H)/\∀ m σ H,W m σ H->
 c σ H fun b H1=>if b=true then ∃ N:St->Hp->Prop,(∀ σ' H',N σ' H'->∃ m',m' < m/\W m' σ' H')/\tb { D with nx:=N,ct:=N,bk:=D.nx } σ H1 else D.nx σ H1
theorem J7j {c:Expr} {body:List Stmt} {tc:TT} {tb:TS} (hp:PassesOwn (model X.prog X.w) X.A X.env X.xe) (hc:PT X c tc) (hb:PSs X body tb):PS X (.While c body [] pos) (tWhile tc tb):=by
 intro pins s σ H D I h;obtain ⟨W,⟨m0,w0⟩,turn⟩:=h;refine wpAny_While (codeAny_whileLoop (fun n s'=>∃ σ' H',Inv X pins σ' H' s'/\W n σ' H') ?_ m0 ⟨σ,H,I,w0⟩);rintro n s1 ⟨σ1,H1,I1,w1⟩;refine wpAny_passesOwn hp (thn (hc pins s1 σ1 H1 _ I1 (turn n σ1 H1 w1)) fun b s2 h9=>?_);obtain ⟨H2,I2,q2⟩:=h9
 cases b with
 | true =>
  obtain ⟨N,hN,q2⟩:=q2;rw [if_pos rfl];refine wpAny_passesOwn hp (thn (hb pins s2 σ1 H2 _ I2 q2) fun f s3 q3=>?_)
  cases f with
  | next =>
   obtain ⟨σ3,H3,I3,n3⟩:=q3;obtain ⟨m',hm,w3⟩:=hN σ3 H3 n3;exact ⟨m',hm,σ3,H3,I3,w3⟩
  | cont =>
   obtain ⟨σ3,H3,I3,n3⟩:=q3;obtain ⟨m',hm,w3⟩:=hN σ3 H3 n3;exact ⟨m',hm,σ3,H3,I3,w3⟩
  | brk=>exact q3
  | ret v=>exact q3
 | false =>
  rw [if_neg Bool.false_ne_true];exact wpAny_execs_nil ⟨σ1,H2,I2,q2⟩
end
structure It where
 go:Nat->Hp->Prop
 yld:Nat->Hp->V->Hp->Prop
 stop:Nat->Hp->Prop
def FpOk (X:Cx) (pins:List (Addr × Obj)) (H:Hp) (b:Addr):Prop :=
 H b=none/\b≠X.env.locals/\b ∉ X.fs/\(b∈X.ex\/X.s₀.heap.objs.size<=b)/\(∀ x c,X.env.cells.lookup x=some c->c≠b)/\∀ p∈X.pn ++ pins,p.1≠b
theorem Inv.fpOk {X:Cx} {pins:List (Addr × Obj)} {σ:St} {H H':Hp} {s:Shared} {b:Addr} (I:Inv X pins σ H s) (hb:s.heap.objs.size<=b) (hn:H' b=none):FpOk X pins H' b:=by
 refine ⟨hn,Nat.ne_of_gt (Nat.lt_of_lt_of_le I.lt hb),I.nofs hb,.inr (Nat.le_trans I.sz hb),fun x c e z=>?_,fun p hp z=>?_⟩
 ·obtain ⟨v,q⟩:=I.cell x c e;exact absurd (Nat.lt_of_lt_of_le q.lt (by rw [z];exact hb)) (Nat.lt_irrefl _)
 ·exact absurd (Nat.lt_of_lt_of_le (lt_size (I.pin p hp).1) (by rw [z];exact hb)) (Nat.lt_irrefl _)
structure Turn (P:Program) (w:World) (K:Frag) (tg:Expr) (J:It) (fp:List Addr) (it:Addr) (tn:Nat->Heap->Prop):Prop where
 mem:it∈fp
 obj:∀ i h,tn i h->∀ b∈fp,∃ o,h.get? b=some o/\∀ v,o.data≠.cell v
 keep:∀ i h h',tn i h->(∀ b∈fp,∀ o,h.get? b=some o->h'.get? b=some o)->tn i h'
 item:∀ (X:Cx),X.prog=P->X.w=w->X.K=K->X.calm=true->∀ (i:Nat) (pins:List (Addr × Obj)) (s:Shared) (σ:St) (H:Hp) (E:Value->Shared->Prop),Inv X pins σ H s->(∀ b∈fp,FpOk X pins H b)->tn i s.heap->J.go i H->
  wpAny (model P w) X.A (pyNext (.ref it)) (fun r s1=>∃ u,r=some u/\
   wpAny (model P w) X.A (letOwnedTupleGo tg (.ref it) u) (fun _ s2=>∃ x H',Inv X pins σ H' s2/\RelV x u/\J.yld i H x H'/\tn (i + 1) s2.heap/\∀ b∈fp,H' b=none) E s1) E s
 done:∀ (X:Cx),X.prog=P->X.w=w->X.K=K->X.calm=true->∀ (i:Nat) (pins:List (Addr × Obj)) (s:Shared) (σ:St) (H:Hp) (E:Value->Shared->Prop),Inv X pins σ H s->(∀ b∈fp,FpOk X pins H b)->tn i s.heap->J.stop i H->
  wpAny (model P w) X.A (pyNext (.ref it)) (fun r s1=>r=none/\Inv X pins σ H s1) E s
 self:∀ (A:Around) (i:Nat) (s:Shared) (Q:Value->Shared->Prop) (E:Value->Shared->Prop),tn i s.heap->Q (.ref it) s->wpAny (model P w) A (pyIter (.ref it)) Q E s
abbrev TI:=St->Hp->(It->Hp->Prop)->Prop
def PIE (X:Cx) (pins:List (Addr × Obj)) (σ:St) (tg:Expr) (R:It->Hp->Prop) (itv:Value) (s2:Shared):Prop :=
 ∃ (it:Addr) (fp:List Addr) (tn:Nat->Heap->Prop) (J:It) (H':Hp),itv=.ref it/\Inv X pins σ H' s2/\Turn X.prog X.w X.K tg J fp it tn/\tn 0 s2.heap/\(∀ b∈fp,FpOk X pins H' b)/\R J H'
def PI (X:Cx) (tg iter:Expr) (wi:TI):Prop :=
 ∀ (pins:List (Addr × Obj)) (s:Shared) (σ:St) (H:Hp) (R:It->Hp->Prop),Inv X pins σ H s->wi σ H R->
  wpAny (model X.prog X.w) X.A (eval iter X.env) (fun v s1=>wpAny (model X.prog X.w) X.A (pyIter v) (PIE X pins σ tg R) X.xe s1) X.xe s
theorem go_of {M : Model} {A : Around} {E : Value -> Shared -> Prop} {s : Shared} {tg : Expr} {it : Addr} {u : Value} {o : Obj} {n : String} {vs : Array Value} {Q : Unit -> Shared -> Prop} (ho : s.heap.get? it = some o) (hc : o.cls = .type n) (hd : o.data = .fields vs)
    (hn : ["enumerate", "zip", "dict_itemiterator", "dict_reverseitemiterator", "odict_iterator", "itertools.zip_longest", "itertools.pairwise"].contains n = false) (hQ : Q () s) : wpAny M A (letOwnedTupleGo tg (.ref it) u) Q E s := by
  unfold letOwnedTupleGo;cases tg <;> first
    | exact wpAny_pure hQ
    | (cases u <;> first
        | exact wpAny_pure hQ
        | (refine wpAny_bind (wpAny_load ho ?_)
           rw [hc, hd];show wpAny M A (if (["enumerate", "zip", "dict_itemiterator", "dict_reverseitemiterator", "odict_iterator", "itertools.zip_longest", "itertools.pairwise"].contains n && vs[0]? == some (rawInt _)) = true then _ else _) Q E s;rw [if_neg (by intro h; rw [hn, Bool.false_and] at h; cases h)];exact wpAny_pure hQ))
def Itl (K:Frag) (a:Addr):It :=
 ⟨fun i H=>∃ xs x,SqL K H a xs/\xs[i]?=some x,fun i H x H'=>H'=H/\∀ xs,SqL K H a xs->xs[i]?=some x,fun i H=>∃ xs,SqL K H a xs/\xs.length<=i⟩
def Itt (K:Frag) (a:Addr):It :=
 ⟨fun i H=>∃ xs x,SqT K H a xs/\xs[i]?=some x,fun i H x H'=>H'=H/\∀ xs,SqT K H a xs->xs[i]?=some x,fun i H=>∃ xs,SqT K H a xs/\xs.length<=i⟩
def Itr (lo:Int) (n:Nat):It:=⟨fun i _=>i < n,fun i H x H'=>H'=H/\x=.int (lo + i),fun i _=>n<=i⟩
theorem turn_list {P:Program} {w:World} {K:Frag} {tg:Expr} (a it:Addr):Turn P w K tg (Itl K a) [it] it (fun i h=>h.IsListIter it a i) where
 mem:=by simp
 obj:=fun i h st b hb=>by
  have e:b=it:=by simpa using hb
  subst e;obtain ⟨o,e,c,d⟩:=st;exact ⟨o,e,fun v z=>by rw [d] at z;cases z⟩
 keep:=fun i h h' st k=>st.at fun o e=>k it (by simp) o e
 item:=by
  intro X hP hw hK hc i pins s σ H E I hf st hg;subst hP hw hK;obtain ⟨xs,x,hq,hx⟩:=hg;obtain ⟨its,rv,p,hz⟩:=I.list hq;obtain ⟨u,hu,ru⟩:=rv.get hx;obtain ⟨f0,f1,f2,f3,f4,f5⟩:=hf it (by simp);refine wpAny_pyNext_list_item st p.isList (x:=u) (by simpa using hu) fun h' st' sb=>?_;have I1:Inv X pins σ H { s with heap:=h' }:=I.turned (t':=s.toks) (fun b o hb e=>(sb.2 b hb).trans e) f0 f1 f3 f4 f5;obtain ⟨o,e,c,d⟩:=id st';exact ⟨u,rfl,go_of (s:={ s with heap:=h' }) e c d (by decide) ⟨x,H,I1,ru,⟨rfl,fun ys hy=>by rw [I.list_inj hy hq];exact hx⟩,st',fun b hb=>(hf b hb).1⟩⟩
 done:=by
  intro X hP hw hK hc i pins s σ H E I hf st hg;subst hP hw hK;obtain ⟨xs,hq,hx⟩:=hg;obtain ⟨its,rv,p,hz⟩:=I.list hq;obtain ⟨f0,f1,f2,f3,f4,f5⟩:=hf it (by simp);have hl:=rv.length;exact wpAny_pyNext_list_end (I.ok.hd hc) st p.isList (by simp;lia) fun h' eb=>⟨rfl,I.turned (t':=s.toks) (fun b o hb e=>eb b o hb e) f0 f1 f3 f4 f5⟩
 self:=fun _ _ _ _ _ st h=>wpAny_pyIter_listiter st h
theorem turn_tuple {P:Program} {w:World} {K:Frag} {tg:Expr} (a it:Addr):Turn P w K tg (Itt K a) [it] it (fun i h=>h.IsTupleIter it a i) where
 mem:=by simp
 obj:=fun i h st b hb=>by
  have e:b=it:=by simpa using hb
  subst e;obtain ⟨o,e,c,d⟩:=st;exact ⟨o,e,fun v z=>by rw [d] at z;cases z⟩
 keep:=fun i h h' st k=>st.at fun o e=>k it (by simp) o e
 item:=by
  intro X hP hw hK hc i pins s σ H E I hf st hg;subst hP hw hK;obtain ⟨xs,x,hq,hx⟩:=hg;obtain ⟨its,rv,p,hz⟩:=I.tuple hq;obtain ⟨u,hu,ru⟩:=rv.get hx;obtain ⟨f0,f1,f2,f3,f4,f5⟩:=hf it (by simp);refine wpAny_pyNext_tuple_item st (show s.heap.IsTuple a its.toArray from p) (x:=u) (by simpa using hu) fun h' st' sb=>?_;have I1:Inv X pins σ H { s with heap:=h' }:=I.turned (t':=s.toks) (fun b o hb e=>(sb.2 b hb).trans e) f0 f1 f3 f4 f5;obtain ⟨o,e,c,d⟩:=id st';exact ⟨u,rfl,go_of (s:={ s with heap:=h' }) e c d (by decide) ⟨x,H,I1,ru,⟨rfl,fun ys hy=>by rw [I.tuple_inj hy hq];exact hx⟩,st',fun b hb=>(hf b hb).1⟩⟩
 done:=by
  intro X hP hw hK hc i pins s σ H E I hf st hg;subst hP hw hK;obtain ⟨xs,hq,hx⟩:=hg;obtain ⟨its,rv,p,hz⟩:=I.tuple hq;obtain ⟨f0,f1,f2,f3,f4,f5⟩:=hf it (by simp);have hl:=rv.length;exact wpAny_pyNext_tuple_end (I.ok.hd hc) st (show s.heap.IsTuple a its.toArray from p) (by simp;lia) fun h' eb=>⟨rfl,I.turned (t':=s.toks) (fun b o hb e=>eb b o hb e) f0 f1 f3 f4 f5⟩
 self:=fun _ _ _ _ _ st h=>wpAny_pyIter_tupleiter st h
theorem turn_range {P:Program} {w:World} {K:Frag} {tg:Expr} (it:Addr) (lo:Int) (n:Nat):Turn P w K tg (Itr lo n) [it] it (fun i h=>IsRangeIter h it (lo + (i:Nat) * 1) ((n:Int) - (i:Nat)) 1) where
 mem:=by simp
 obj:=fun i h st b hb=>by
  have e:b=it:=by simpa using hb
  subst e;exact ⟨_,st,fun v z=>by
   have z':Data.fields _=Data.cell v:=z;cases z'⟩
 keep:=fun i h h' st k=>k it (by simp) _ st
 item:=by
  intro X hP hw hK hc i pins s σ H E I hf st hg;subst hP hw hK;obtain ⟨f0,f1,f2,f3,f4,f5⟩:=hf it (by simp);have W:=Walks.range (prog:=X.prog) (w:=X.w) (I.ok.hd hc) it lo 1 n;refine W.item i s _ _ hg st fun v h' tk hv st' kk=>?_;obtain ⟨t,rfl⟩:=hv;have I1:Inv X pins σ H { s with heap:=h',toks:=tk }:=I.turned (fun b o hb e=>kk b o (by simpa using hb) e) f0 f1 f3 f4 f5;refine ⟨_,rfl,go_of (s:={ s with heap:=h',toks:=tk }) (n:="range_iterator") st' rfl rfl (by decide) ⟨.int (lo + i),H,I1,⟨t,?_⟩,⟨rfl,rfl⟩,st',fun b hb=>(hf b hb).1⟩⟩;rw [Int.mul_one]
 done:=by
  intro X hP hw hK hc i pins s σ H E I hf st hg;subst hP hw hK;obtain ⟨f0,f1,f2,f3,f4,f5⟩:=hf it (by simp);exact wpAny_pyNext_range_end (I.ok.hd hc) st (by have:n<=i:=hg;lia) fun h' eb=>⟨rfl,I.turned (t':=s.toks) (fun b o hb e=>eb b o hb e) f0 f1 f3 f4 f5⟩
 self:=fun _ _ _ _ _ st h=>wpAny_pyIter_rangeiter st h
end L2
namespace L2
open PySem PySem.Spec PyProof.Rows
section
variable {X:Cx} {tg:Expr}
def iList (K:Frag) (tl:TE):TI:=fun σ H R=>tl σ H fun x H1=>∃ a,x=.ref a/\(∃ xs,SqL K H1 a xs)/\R (Itl K a) H1
def iTup (K:Frag) (tl:TE):TI:=fun σ H R=>tl σ H fun x H1=>∃ a,x=.ref a/\(∃ xs,SqT K H1 a xs)/\R (Itt K a) H1
theorem pi_list {l:Expr} {tl:TE} (hl:PE X l tl):PI X tg l (iList X.K tl):=by
 intro pins s σ H R I h;refine thn (hl pins s σ H _ I h) fun v s1 h9=>?_;obtain ⟨x,H1,I1,r1,q1⟩:=h9;obtain ⟨a,e,⟨xs,hq⟩,q⟩:=q1;subst e;cases r1;obtain ⟨its,rv,p,hz⟩:=I1.list hq;refine wpAny_pyIter_list p.isList ?_;refine ⟨s1.heap.objs.size,[s1.heap.objs.size],_,_,H1,rfl,I1.kept (t':=s1.toks) fun b o e=>get?_push_of_some _ e,turn_list a _,⟨_,get?_push_size _ rfl,rfl,rfl⟩,fun b hb=>?_,q⟩;have e:b=s1.heap.objs.size:=by simpa using hb
 subst e;exact I1.fpOk (Nat.le_refl _) (I1.hok.fresh (Nat.le_refl _))
theorem J6o {l:Expr} {tl:TE} (hl:PE X l tl):PI X tg l (iTup X.K tl):=by
 intro pins s σ H R I h;refine thn (hl pins s σ H _ I h) fun v s1 h9=>?_;obtain ⟨x,H1,I1,r1,q1⟩:=h9;obtain ⟨a,e,⟨xs,hq⟩,q⟩:=q1;subst e;cases r1;obtain ⟨its,rv,p,hz⟩:=I1.tuple hq;refine wpAny_pyIter_tuple (show s1.heap.IsTuple a its.toArray from p) ?_;refine ⟨s1.heap.objs.size,[s1.heap.objs.size],_,_,H1,rfl,I1.kept (t':=s1.toks) fun b o e=>get?_push_of_some _ e,turn_tuple a _,⟨_,get?_push_size _ rfl,rfl,rfl⟩,fun b hb=>?_,q⟩;have e:b=s1.heap.objs.size:=by simpa using hb
 subst e;exact I1.fpOk (Nat.le_refl _) (I1.hok.fresh (Nat.le_refl _))
theorem range_it {pins:List (Addr × Obj)} {σ:St} {H:Hp} {s:Shared} {R:It->Hp->Prop} {E:Value->Shared->Prop} {lo hi:Int} {t u v:Tok} {tk:Nat} (I:Inv X pins σ H s) (h1:-(2 ^ 62)<=lo) (h2:lo < 2 ^ 62) (h3:-(2 ^ 62)<=hi) (h4:hi < 2 ^ 62)
  (q:R (Itr lo (hi - lo).toNat) H):wpAny (model X.prog X.w) X.A (pyIter (.ref s.heap.objs.size)) (PIE X pins σ tg R) E { s with heap:=s.heap.push { cls:=.type "range",data:=.fields #[.int lo t,.int hi u,.int 1 v] },toks:=tk }:=by
 refine wpAny_pyIter_range (IsRange.new ..) (small_one h1 h2 h3 h4) ?_;have I1:Inv X pins σ H { s with heap:=s.heap.push { cls:=.type "range",data:=.fields #[.int lo t,.int hi u,.int 1 v] },toks:=tk }:=I.kept fun b o e=>get?_push_of_some _ e;refine ⟨(s.heap.push { cls:=.type "range",data:=.fields #[.int lo t,.int hi u,.int 1 v] }).objs.size,[(s.heap.push { cls:=.type "range",data:=.fields #[.int lo t,.int hi u,.int 1 v] }).objs.size],_,_,H,rfl,
  I1.kept (t':=tk) fun b o e=>get?_push_of_some _ e,turn_range _ lo (hi - lo).toNat,?_,fun b hb=>?_,q⟩
 ·have e1:lo + ((0:Nat):Int) * 1=lo:=by simp
  have e2:(((hi - lo).toNat:Nat):Int) - ((0:Nat):Int)=Builtin.Range.rangeSize lo hi 1:=by rw [rangeSize_one];split <;> lia
  show IsRangeIter _ _ (lo + ((0:Nat):Int) * 1) ((((hi - lo).toNat:Nat):Int) - ((0:Nat):Int)) 1;rw [e1,e2];exact get?_push_size _ rfl
 ·have e:b=(s.heap.push { cls:=.type "range",data:=.fields #[.int lo t,.int hi u,.int 1 v] }).objs.size:=by simpa using hb
  subst e;exact I1.fpOk (Nat.le_refl _) (I1.hok.fresh (Nat.le_refl _))
def iRng1 (ta:TA):TI:=fun σ H R=>ta σ H fun vs H1=>∃ j:Int,vs=[.int j]/\-(2 ^ 62)<=j/\j < 2 ^ 62/\R (Itr 0 j.toNat) H1
theorem J2k {a:Expr} {ta:TA} {p pos:Pos} (hg:Gl X "range") (hm:X.mg "range"=none) (ha:PA X [a] ta) (hs:starEach [a] X.env=[(false,eval a X.env)]:=by rfl):PI X tg (.Call (.Name "range" p) [a] [] pos) (iRng1 ta):=by
 intro pins s σ H R I h;refine Call_ (J7q I hg hm boot_range (callWith_type1 (thn (ha pos pins s σ H _ I h) fun us s1 h9=>?_) hs rfl));obtain ⟨vs,H1,I1,r1,q1⟩:=h9;obtain ⟨j,e,q1,q2,q⟩:=q1;subst e
 cases r1 with
 | cons r rr =>
  cases rr;obtain ⟨t,rfl⟩:=r;exact call_range_1 (range_it I1 (by lia) (by lia) q1 q2 (by simpa using q))
def tFor (wi:TI) (g:TG) (tb:TS):TS:=fun D σ H=>wi σ H fun J H1=>∃ W:Nat->Nat->St->Hp->Prop,(∃ m,W 0 m σ H1)/\∀ i m σ H,W i m σ H->
 (J.stop i H/\D.nx σ H)\/(J.go i H/\∃ N:St->Hp->Prop,(∀ σ' H',N σ' H'->∃ m',m' < m/\W (i + 1) m' σ' H')/\∀ x H',J.yld i H x H'->g x σ H' fun σ2 H2=>tb { D with nx:=N,ct:=N,bk:=D.nx } σ2 H2)
def pinsAt (fp:List Addr) (h:Heap):List (Addr × Obj):=fp.filterMap fun b=>(h.get? b).map fun o=>(b,o)
theorem J2g {fp:List Addr} {h:Heap} {b:Addr} {o:Obj} (hb:b∈fp) (e:h.get? b=some o):(b,o)∈pinsAt fp h:=List.mem_filterMap.mpr ⟨b,hb,by rw [e];rfl⟩
theorem of_pinsAt {fp:List Addr} {h:Heap} {p:Addr × Obj} (hp:p∈pinsAt fp h):p.1∈fp/\h.get? p.1=some p.2:=by
 obtain ⟨b,hb,e⟩:=List.mem_filterMap.mp hp
 cases q:h.get? b with
 | none=>rw [q] at e;cases e
 | some o =>
  rw [q] at e;have e':(b,o)=p:=Option.some.inj e;subst e';exact ⟨hb,q⟩
theorem Inv.pinned {pins:List (Addr × Obj)} {σ:St} {H:Hp} {s:Shared} {fp:List Addr} (I:Inv X pins σ H s) (hf:∀ b∈fp,FpOk X pins H b) (ho:∀ b∈fp,∃ o,s.heap.get? b=some o/\∀ v,o.data≠.cell v):Inv X (pins ++ pinsAt fp s.heap) σ H s :=
 I.pins_of fun p hp=>(mem_append.mp hp).elim (fun z=>I.pin p (mem_append_right _ z)) fun z=>by
  obtain ⟨hb,e⟩:=of_pinsAt z;obtain ⟨f0,f1,f2,_⟩:=hf p.1 hb;obtain ⟨o,e',d⟩:=ho p.1 hb;rw [e] at e';cases e';exact ⟨e,f0,f1,f2,d⟩
theorem Inv.unpinned {pins pl:List (Addr × Obj)} {σ:St} {H:Hp} {s:Shared} (I:Inv X (pins ++ pl) σ H s):Inv X pins σ H s:=I.pins_of fun p hp=>I.pin p (mem_append_right _ (mem_append_left _ hp))
theorem J4g {iter:Expr} {body:List Stmt} {wi:TI} {g:TG} {tb:TS} {pos:Pos} (hp:PassesOwn (model X.prog X.w) X.A X.env X.xe) (hc:X.calm=true) (hi:PI X tg iter wi) (hg:PG X tg g) (hb:PSs X body tb)
  (hs:∀ x,foldedSetIterable iter X.env x=pure x:=by intro _;rfl):PS X (.For tg iter body [] pos) (tFor wi g tb):=by
 intro pins s σ H D I h;refine wpAny_For (thn (hi pins s σ H _ I h) fun v s1 h1=>thn h1 fun itv s2 h2=>?_) hs;obtain ⟨it,fp,tn,J,H2,e,I2,T,st2,f2,W,⟨m0,w0⟩,turn⟩:=h2;subst e;have stat:∀ {H':Hp},(∀ b∈fp,H' b=none)->∀ b∈fp,FpOk X pins H' b:=fun hn b hb=>⟨hn b hb,(f2 b hb).2⟩;refine codeAny_forLoop_any (fun n s'=>∃ i σ' H',Inv X pins σ' H' s'/\tn i s'.heap/\(∀ b∈fp,H' b=none)/\W i n σ' H') ?_ m0 ⟨0,σ,H2,I2,st2,fun b hb=>(f2 b hb).1,w0⟩;rintro n s3 ⟨i,σ3,H3,I3,st3,fr3,w3⟩;rcases turn i n σ3 H3 w3 with ⟨stop,qn⟩ | ⟨go,N,hN,step⟩
 ·refine wpAny_passesOwn hp (thn (T.done X rfl rfl rfl hc i pins s3 σ3 H3 X.xe I3 (stat fr3) st3 stop) fun r s4 h9=>?_);obtain ⟨hr,I4⟩:=h9;subst hr;exact wpAny_execs_nil ⟨σ3,H3,I4,qn⟩
 ·refine wpAny_passesOwn hp (thn (T.item X rfl rfl rfl hc i pins s3 σ3 H3 X.xe I3 (stat fr3) st3 go) fun r s4 h9=>?_);obtain ⟨u,hr,h4⟩:=h9;subst hr;refine wpAny_passesOwn hp (thn h4 fun _ s5 h9=>?_);obtain ⟨x,H5,I5,r5,y5,st5,fr5⟩:=h9;have I5':=I5.pinned (stat fr5) (T.obj _ _ st5);refine wpAny_passesOwn hp (thn (hg _ s5 σ3 H5 x u _ I5' r5 (step x H5 y5)) fun _ s6 h9=>?_);obtain ⟨σ6,H6,I6,q6⟩:=h9;refine wpAny_passesOwn hp (thn (hb _ s6 σ6 H6 _ I6 q6) fun f s7 q7=>?_);have again:∀ {σ7:St} {H7:Hp},Inv X (pins ++ pinsAt fp s5.heap) σ7 H7 s7->N σ7 H7->∃ m,m < n/\∃ i σ' H',Inv X pins σ' H' s7/\tn i s7.heap/\(∀ b∈fp,H' b=none)/\W i m σ' H':=fun {σ7 H7} I7 n7=>by
   obtain ⟨m',hm,w7⟩:=hN σ7 H7 n7;refine ⟨m',hm,i + 1,σ7,H7,I7.unpinned,T.keep _ _ _ st5 fun b hb o e=>(I7.pin (b,o) (mem_append_right _ (mem_append_right _ (J2g hb e)))).1,fun b hb=>?_,w7⟩;obtain ⟨o,e,d⟩:=T.obj _ _ st5 b hb;exact (I7.pin (b,o) (mem_append_right _ (mem_append_right _ (J2g hb e)))).2.1
  cases f with
  | next=>obtain ⟨σ7,H7,I7,n7⟩:=q7;exact again I7 n7
  | cont=>obtain ⟨σ7,H7,I7,n7⟩:=q7;exact again I7 n7
  | brk=>obtain ⟨σ7,H7,I7,q7⟩:=q7;exact ⟨σ7,H7,I7.unpinned,q7⟩
  | ret v=>obtain ⟨x7,σ7,H7,I7,r7,q7⟩:=q7;exact ⟨x7,σ7,H7,I7.unpinned,r7,q7⟩
end
theorem for_list {K:Frag} {a:Addr} {xs:List V} {g:TG} {tb:TS} {D:Ends} {σ:St} {H:Hp} (Pv:Nat->St->Hp->Prop) (h0:Pv 0 σ H) (hl:∀ i σ H,i<=xs.length->Pv i σ H->SqL K H a xs)
  (hs:∀ i x σ H,xs[i]?=some x->Pv i σ H->g x σ H fun σ2 H2=>tb { D with nx:=Pv (i + 1),ct:=Pv (i + 1),bk:=D.nx } σ2 H2) (hd:∀ σ H,Pv xs.length σ H->D.nx σ H) :
  ∃ W:Nat->Nat->St->Hp->Prop,(∃ m,W 0 m σ H)/\∀ i m σ H,W i m σ H->
   ((Itl K a).stop i H/\D.nx σ H)\/((Itl K a).go i H/\∃ N:St->Hp->Prop,(∀ σ' H',N σ' H'->∃ m',m' < m/\W (i + 1) m' σ' H')/\∀ x H',(Itl K a).yld i H x H'->g x σ H' fun σ2 H2=>tb { D with nx:=N,ct:=N,bk:=D.nx } σ2 H2):=by
 refine ⟨fun i m σ H=>m=xs.length - i/\i<=xs.length/\Pv i σ H,⟨xs.length,by simp,Nat.zero_le _,h0⟩,?_⟩;rintro i m σ H ⟨rfl,hi,p⟩;have q:=hl i σ H hi p;by_cases hlt:i < xs.length
 ·refine .inr ⟨⟨xs,xs[i],q,by simp [hlt]⟩,Pv (i + 1),fun σ' H' p'=>⟨xs.length - (i + 1),by lia,rfl,hlt,p'⟩,fun x H' y=>?_⟩;obtain ⟨e,y⟩:=y;subst e;exact hs i x σ _ (y xs q) p
 ·have e:i=xs.length:=by lia
  subst e;exact .inl ⟨⟨xs,q,Nat.le_refl _⟩,hd σ H p⟩
theorem for_tup {K:Frag} {a:Addr} {xs:List V} {g:TG} {tb:TS} {D:Ends} {σ:St} {H:Hp} (Pv:Nat->St->Hp->Prop) (h0:Pv 0 σ H) (hl:∀ i σ H,i<=xs.length->Pv i σ H->SqT K H a xs)
  (hs:∀ i x σ H,xs[i]?=some x->Pv i σ H->g x σ H fun σ2 H2=>tb { D with nx:=Pv (i + 1),ct:=Pv (i + 1),bk:=D.nx } σ2 H2) (hd:∀ σ H,Pv xs.length σ H->D.nx σ H) :
  ∃ W:Nat->Nat->St->Hp->Prop,(∃ m,W 0 m σ H)/\∀ i m σ H,W i m σ H->
   ((Itt K a).stop i H/\D.nx σ H)\/((Itt K a).go i H/\∃ N:St->Hp->Prop,(∀ σ' H',N σ' H'->∃ m',m' < m/\W (i + 1) m' σ' H')/\∀ x H',(Itt K a).yld i H x H'->g x σ H' fun σ2 H2=>tb { D with nx:=N,ct:=N,bk:=D.nx } σ2 H2):=by
 refine ⟨fun i m σ H=>m=xs.length - i/\i<=xs.length/\Pv i σ H,⟨xs.length,by simp,Nat.zero_le _,h0⟩,?_⟩;rintro i m σ H ⟨rfl,hi,p⟩;have q:=hl i σ H hi p;by_cases hlt:i < xs.length
 ·refine .inr ⟨⟨xs,xs[i],q,by simp [hlt]⟩,Pv (i + 1),fun σ' H' p'=>⟨xs.length - (i + 1),by lia,rfl,hlt,p'⟩,fun x H' y=>?_⟩;obtain ⟨e,y⟩:=y;subst e;exact hs i x σ _ (y xs q) p
 ·have e:i=xs.length:=by lia
  subst e;exact .inl ⟨⟨xs,q,Nat.le_refl _⟩,hd σ H p⟩
theorem for_range {lo:Int} {n:Nat} {g:TG} {tb:TS} {D:Ends} {σ:St} {H:Hp} (Pv:Nat->St->Hp->Prop) (h0:Pv 0 σ H)
  (hs:∀ i σ H,i < n->Pv i σ H->g (.int (lo + i)) σ H fun σ2 H2=>tb { D with nx:=Pv (i + 1),ct:=Pv (i + 1),bk:=D.nx } σ2 H2) (hd:∀ σ H,Pv n σ H->D.nx σ H) :
  ∃ W:Nat->Nat->St->Hp->Prop,(∃ m,W 0 m σ H)/\∀ i m σ H,W i m σ H->
   ((Itr lo n).stop i H/\D.nx σ H)\/((Itr lo n).go i H/\∃ N:St->Hp->Prop,(∀ σ' H',N σ' H'->∃ m',m' < m/\W (i + 1) m' σ' H')/\∀ x H',(Itr lo n).yld i H x H'->g x σ H' fun σ2 H2=>tb { D with nx:=N,ct:=N,bk:=D.nx } σ2 H2):=by
 refine ⟨fun i m σ H=>m=n - i/\i<=n/\Pv i σ H,⟨n,by simp,Nat.zero_le _,h0⟩,?_⟩;rintro i m σ H ⟨rfl,hi,p⟩;by_cases hlt:i < n
 ·refine .inr ⟨hlt,Pv (i + 1),fun σ' H' p'=>⟨n - (i + 1),by lia,rfl,hlt,p'⟩,fun x H' y=>?_⟩;obtain ⟨e,y⟩:=y;subst e y;exact hs i σ _ hlt p
 ·have e:i=n:=by lia
  subst e;exact .inl ⟨Nat.le_refl _,hd σ H p⟩
end L2
namespace L2
open PySem PySem.Spec PyProof.Rows
abbrev R2:=V->V->Hp->VK->Prop
def OpR (X:Cx) (f:Value->Value->Sem Value) (r:R2):Prop :=
 ∀ (pins:List (Addr × Obj)) (s:Shared) (σ:St) (H:Hp) (x y:V) (v u:Value) (Q:VK),Inv X pins σ H s->RelV x v->RelV y u->r x y H Q->
  wpAny (model X.prog X.w) X.A (f v u) (EP X pins σ Q) X.xe s
def UnR (X:Cx) (f:Value->Sem Value) (r:V->Hp->VK->Prop):Prop :=
 ∀ (pins:List (Addr × Obj)) (s:Shared) (σ:St) (H:Hp) (x:V) (v:Value) (Q:VK),Inv X pins σ H s->RelV x v->r x H Q->
  wpAny (model X.prog X.w) X.A (f v) (EP X pins σ Q) X.xe s
def CallR (X:Cx) (f:Value) (r:List V->Hp->VK->Prop):Prop :=
 ∀ (pins:List (Addr × Obj)) (s:Shared) (σ:St) (H:Hp) (xs:List V) (us:List Value) (Q:VK),Inv X pins σ H s->Vals xs us->r xs H Q->
  wpAny (model X.prog X.w) X.A (call f us) (EP X pins σ Q) X.xe s
def tOp (r:R2) (ta tb:TE):TE:=fun σ H Q=>ta σ H fun x H1=>tb σ H1 fun y H2=>r x y H2 Q
def tUn (r:V->Hp->VK->Prop) (ta:TE):TE:=fun σ H Q=>ta σ H fun x H1=>r x H1 Q
def rI (C:Int->Int->Prop) (g:Int->Int->V):R2:=fun x y H Q=>∃ i j,x=.int i/\y=.int j/\C i j/\Q (g i j) H
def rI0 (g:Int->Int->V):R2:=fun x y H Q=>∃ i j,x=.int i/\y=.int j/\Q (g i j) H
def rU (g:Int->V):V->Hp->VK->Prop:=fun x H Q=>∃ i,x=.int i/\Q (g i) H
section
variable {X:Cx} {a b c:Expr} {ta tb tc:TE} {pos:Pos}
theorem binT (ha:PE X a ta) (hb:PE X b tb) {pins:List (Addr × Obj)} {s:Shared} {σ:St} {H:Hp} {R:V->V->Hp->Prop} (I:Inv X pins σ H s)
  (h:ta σ H fun x H1=>tb σ H1 fun y H2=>R x y H2) {Q:Value->Shared->Prop} {f:Value->Value->Sem Value}
  (hf:∀ v u s2 x y H2,Inv X pins σ H2 s2->RelV x v->RelV y u->R x y H2->wpAny (model X.prog X.w) X.A (f v u) Q X.xe s2) :
  wpAny (model X.prog X.w) X.A (eval a X.env) (fun v s₁=>wpAny (model X.prog X.w) X.A (eval b X.env) (fun u s₂=>wpAny (model X.prog X.w) X.A (f v u) Q X.xe s₂) X.xe s₁) X.xe s:=by
 refine thn (ha pins s σ H _ I h) fun v s1 h9=>?_;obtain ⟨x,H1,I1,r1,q1⟩:=h9;refine thn (hb pins s1 σ H1 _ I1 q1) fun u s2 h9=>?_;obtain ⟨y,H2,I2,r2,q2⟩:=h9;exact hf v u s2 x y H2 I2 r1 r2 q2
theorem pe_op {op:Operator} {r:R2} (ho:OpR X (binaryOp op) r) (ha:PE X a ta) (hb:PE X b tb):PE X (.BinOp a op b pos) (tOp r ta tb):=by
 intro pins s σ H Q I h;exact wpAny_BinOp (binT ha hb I h fun v u s2 x y H2 I2 rx ry q=>ho pins s2 σ H2 x y v u Q I2 rx ry q)
theorem pe_un {op:UnaryOp} {r:V->Hp->VK->Prop} (ho:UnR X (unaryOp op) r) (ha:PE X a ta):PE X (.UnaryOp op a pos) (tUn r ta):=by
 intro pins s σ H Q I h;exact UnaryOp_ (thn (ha pins s σ H _ I h) fun v s1 h9=>by obtain ⟨x,H1,I1,r1,q1⟩:=h9;exact ho pins s1 σ H1 x v Q I1 r1 q1)
theorem opI {f:Value->Value->Sem Value} {C:Int->Int->Prop} {g:Int->Int->Int}
  (rule:∀ (i j:Int) (t u:Tok) (s:Shared) (Q:Value->Shared->Prop) (E:Value->Shared->Prop),C i j->Q (.int (g i j) s.toks) { s with toks:=s.toks + 1 }->wpAny (model X.prog X.w) X.A (f (.int i t) (.int j u)) Q E s) :
  OpR X f (rI C fun i j=>.int (g i j)):=by
 intro pins s σ H x y v u Q I rx ry h;obtain ⟨i,j,rfl,rfl,hc,q⟩:=h;obtain ⟨t,rfl⟩:=rx;obtain ⟨t',rfl⟩:=ry;exact rule i j t t' s _ _ hc ⟨.int (g i j),H,I.tok _,⟨_,rfl⟩,q⟩
theorem opI0 {f:Value->Value->Sem Value} {g:Int->Int->Int}
  (rule:∀ (i j:Int) (t u:Tok) (s:Shared) (Q:Value->Shared->Prop) (E:Value->Shared->Prop),Q (.int (g i j) s.toks) { s with toks:=s.toks + 1 }->wpAny (model X.prog X.w) X.A (f (.int i t) (.int j u)) Q E s) :
  OpR X f (rI0 fun i j=>.int (g i j)):=by
 intro pins s σ H x y v u Q I rx ry h;obtain ⟨i,j,rfl,rfl,q⟩:=h;obtain ⟨t,rfl⟩:=rx;obtain ⟨t',rfl⟩:=ry;exact rule i j t t' s _ _ ⟨.int (g i j),H,I.tok _,⟨_,rfl⟩,q⟩
theorem opB0 {f:Value->Value->Sem Value} {g:Int->Int->Bool}
  (rule:∀ (i j:Int) (t u:Tok) (s:Shared) (Q:Value->Shared->Prop) (E:Value->Shared->Prop),Q (.bool (g i j)) s->wpAny (model X.prog X.w) X.A (f (.int i t) (.int j u)) Q E s) :
  OpR X f (rI0 fun i j=>.bl (g i j)):=by
 intro pins s σ H x y v u Q I rx ry h;obtain ⟨i,j,rfl,rfl,q⟩:=h;obtain ⟨t,rfl⟩:=rx;obtain ⟨t',rfl⟩:=ry;exact rule i j t t' s _ _ ⟨.bl (g i j),H,I,rfl,q⟩
def CDiv (i j:Int):Prop:=0 < j/\j < 1073741824
def CPow (i j:Int):Prop:=0<=j/\j<=1000000/\i.natAbs < 2 ^ 64
def CMul (i j:Int):Prop:=(-(2 ^ 64) < i/\i < 2 ^ 64)\/(-(2 ^ 64) < j/\j < 2 ^ 64)
theorem CMul.ok {i j:Int} (h:CMul i j):IntMulOk i j:=by
 rcases h with ⟨h1,h2⟩ | ⟨h1,h2⟩
 ·exact .of_left (intBits_le_64 h1 h2)
 ·exact .of_right (intBits_le_64 h1 h2)
theorem two_pow_nn (k:Nat):(0:Int)<=2 ^ k:=by
 rw [two_pow_cast];exact Int.natCast_nonneg _
theorem J19:OpR X (binaryOp .Add) (rI0 fun i j=>.int (i + j)):=opI0 fun _ _ _ _ _ _ _ q=>add_int q
theorem J2a:OpR X (binaryOp .Sub) (rI0 fun i j=>.int (i - j)):=opI0 fun _ _ _ _ _ _ _ q=>sub_int q
theorem op_mul:OpR X (binaryOp .Mult) (rI CMul fun i j=>.int (i * j)):=opI fun _ _ _ _ _ _ _ hc q=>mul_int q hc.ok
theorem op_fdiv:OpR X (binaryOp .FloorDiv) (rI CDiv fun i j=>.int (i / j)):=opI fun i j _ _ _ _ _ hc q=>by
 have h1:(0:Int) < j:=hc.1;have h2:j < 1073741824:=hc.2;exact floordiv_int (by lia) (by rw [Int.fdiv_eq_ediv_of_nonneg i (by lia)];exact q) (.inl (PyProof.noPylong_small (by lia)))
theorem J3r:OpR X (binaryOp .Mod) (rI (fun _ j=>0 < j) fun i j=>.int (i % j)):=opI fun i j _ _ _ _ _ hc q=>by
 have h1:(0:Int) < j:=hc;exact mod_int' (by lia) (by rw [Int.fmod_eq_emod_of_nonneg i (by lia)];exact q)
theorem op_pow:OpR X (binaryOp .Pow) (rI CPow fun i j=>.int (i ^ j.toNat)):=opI fun _ _ _ _ _ _ _ hc q=>pow_int_small hc.1 hc.2.1 hc.2.2 q
theorem op_shl:OpR X (binaryOp .LShift) (rI CPow fun i j=>.int (i * 2 ^ j.toNat)):=opI fun _ _ _ _ _ _ _ hc q=>lshift_int_small hc.1 hc.2.1 hc.2.2 q
theorem op_shr:OpR X (binaryOp .RShift) (rI (fun _ j=>0<=j) fun i j=>.int (i / 2 ^ j.toNat)):=opI fun i j _ _ _ _ _ hc q =>
 rshift_int hc (by rw [Int.fdiv_eq_ediv_of_nonneg i (two_pow_nn _)];exact q)
theorem op_and:OpR X (binaryOp .BitAnd) (rI0 fun i j=>.int (Builtin.bitAnd i j)):=opI0 fun _ _ _ _ _ _ _ q=>and_int q
theorem unI {f:Value->Sem Value} {g:Int->Int}
  (rule:∀ (i:Int) (t:Tok) (s:Shared) (Q:Value->Shared->Prop) (E:Value->Shared->Prop),Q (.int (g i) s.toks) { s with toks:=s.toks + 1 }->wpAny (model X.prog X.w) X.A (f (.int i t)) Q E s) :
  UnR X f (rU fun i=>.int (g i)):=by
 intro pins s σ H x v Q I rx h;obtain ⟨i,rfl,q⟩:=h;obtain ⟨t,rfl⟩:=rx;exact rule i t s _ _ ⟨.int (g i),H,I.tok _,⟨_,rfl⟩,q⟩
theorem J6e:UnR X (unaryOp .USub) (rU fun i=>.int (-i)):=unI fun _ _ _ _ _ q=>neg_int q
end
def scal:V->V->Bool
 | .non,.non=>true | .non,.int _=>true | .int _,.non=>true | .non,.bl _=>true | .bl _,.non=>true | .non,.str _=>true | .str _,.non=>true
 | .int _,.int _=>true | .bl _,.bl _=>true | .str _,.str _=>true | .byt _,.byt _=>true
 | .int _,.str _=>true | .str _,.int _=>true | .bl _,.str _=>true | .str _,.bl _=>true
 | _,_=>false
def rEq:R2:=fun x y H Q=>scal x y=true/\Q (.bl (decide (x=y))) H
def rNe:R2:=fun x y H Q=>scal x y=true/\Q (.bl (!decide (x=y))) H
theorem dec_int {i j:Int}:decide (V.int i=V.int j)=(i == j):=by
 rw [Bool.eq_iff_iff];simp
theorem dec_bl {i j:Bool}:decide (V.bl i=V.bl j)=(i == j):=by
 rw [Bool.eq_iff_iff];simp
theorem dec_str {i j:Str}:decide (V.str i=V.str j)=(i == j):=by
 rw [Bool.eq_iff_iff];simp
theorem dec_byt {i j:Array UInt8}:decide (V.byt i=V.byt j)=(i.toList == j.toList):=by
 rw [Bool.eq_iff_iff];cases i;cases j;simp
section
variable {X:Cx} {a b c:Expr} {ta tb tc:TE} {pos:Pos}
theorem J1o {pins:List (Addr × Obj)} {σ:St} {H:Hp} {s:Shared} {Q:VK} {k k':Bool} (I:Inv X pins σ H s) (q:Q (.bl k) H) (e:k=k'):EP X pins σ Q (.bool k') s:=by
 subst e;exact ⟨.bl k,H,I,rfl,q⟩
theorem op_eq:OpR X (compareOp .Eq) rEq:=by
 intro pins s σ H x y v u Q I rx ry h;obtain ⟨hs,q⟩:=h
 cases x with
 | non =>
  cases rx
  cases y with
  | non=>cases ry;exact PySem.EqNone.eq_none_none (J1o I q (by simp))
  | bl j=>cases ry;exact PySem.EqNone.eq_none_bool (J1o I q (by simp))
  | int j=>obtain ⟨t',rfl⟩:=ry;exact PySem.EqNone.eq_none_int (J1o I q (by simp))
  | str j=>obtain ⟨t',rfl⟩:=ry;exact PySem.EqNone.eq_none_str (J1o I q (by simp))
  | _=>exact absurd (show false=true from hs) Bool.false_ne_true
 | bl i =>
  cases rx
  cases y with
  | non=>cases ry;exact PySem.EqNone.eq_bool_none (J1o I q (by simp))
  | bl j=>cases ry;exact eq_bool (J1o I q dec_bl)
  | str j=>obtain ⟨t',rfl⟩:=ry;exact PySem.EqMixed.eq_bool_str (J1o I q (by simp))
  | _=>exact absurd (show false=true from hs) Bool.false_ne_true
 | int i =>
  obtain ⟨t,rfl⟩:=rx
  cases y with
  | non=>cases ry;exact PySem.EqNone.eq_int_none (J1o I q (by simp))
  | int j=>obtain ⟨t',rfl⟩:=ry;exact eq_int (J1o I q dec_int)
  | str j=>obtain ⟨t',rfl⟩:=ry;exact PySem.EqMixed.eq_int_str (J1o I q (by simp))
  | _=>exact absurd (show false=true from hs) Bool.false_ne_true
 | str i =>
  obtain ⟨t,rfl⟩:=rx
  cases y with
  | non=>cases ry;exact PySem.EqNone.eq_str_none (J1o I q (by simp))
  | bl j=>cases ry;exact PySem.EqMixed.eq_str_bool (J1o I q (by simp))
  | int j=>obtain ⟨t',rfl⟩:=ry;exact PySem.EqMixed.eq_str_int (J1o I q (by simp))
  | str j=>obtain ⟨t',rfl⟩:=ry;exact eq_str (J1o I q dec_str)
  | _=>exact absurd (show false=true from hs) Bool.false_ne_true
 | byt i =>
  obtain ⟨t,rfl⟩:=rx
  cases y with
  | byt j=>obtain ⟨t',rfl⟩:=ry;exact PySem.W.eq_bytes (J1o I q dec_byt)
  | _=>exact absurd (show false=true from hs) Bool.false_ne_true
 | _=>cases y <;> exact absurd (show false=true from hs) Bool.false_ne_true
theorem op_ne:OpR X (compareOp .NotEq) rNe:=by
 intro pins s σ H x y v u Q I rx ry h;obtain ⟨hs,q⟩:=h
 cases x with
 | non =>
  cases rx
  cases y with
  | non=>cases ry;exact PySem.EqNone.ne_none_none (J1o I q (by simp))
  | bl j=>cases ry;exact PySem.EqNone.ne_none_bool (J1o I q (by simp))
  | int j=>obtain ⟨t',rfl⟩:=ry;exact PySem.EqNone.ne_none_int (J1o I q (by simp))
  | str j=>obtain ⟨t',rfl⟩:=ry;exact PySem.EqNone.ne_none_str (J1o I q (by simp))
  | _=>exact absurd (show false=true from hs) Bool.false_ne_true
 | bl i =>
  cases rx
  cases y with
  | non=>cases ry;exact PySem.EqNone.ne_bool_none (J1o I q (by simp))
  | bl j=>cases ry;exact ne_bool (J1o I q (congrArg not dec_bl))
  | str j=>obtain ⟨t',rfl⟩:=ry;exact PySem.EqMixed.ne_bool_str (J1o I q (by simp))
  | _=>exact absurd (show false=true from hs) Bool.false_ne_true
 | int i =>
  obtain ⟨t,rfl⟩:=rx
  cases y with
  | non=>cases ry;exact PySem.EqNone.ne_int_none (J1o I q (by simp))
  | int j=>obtain ⟨t',rfl⟩:=ry;exact ne_int (J1o I q (congrArg not dec_int))
  | str j=>obtain ⟨t',rfl⟩:=ry;exact PySem.EqMixed.ne_int_str (J1o I q (by simp))
  | _=>exact absurd (show false=true from hs) Bool.false_ne_true
 | str i =>
  obtain ⟨t,rfl⟩:=rx
  cases y with
  | non=>cases ry;exact PySem.EqNone.ne_str_none (J1o I q (by simp))
  | bl j=>cases ry;exact PySem.EqMixed.ne_str_bool (J1o I q (by simp))
  | int j=>obtain ⟨t',rfl⟩:=ry;exact PySem.EqMixed.ne_str_int (J1o I q (by simp))
  | str j=>obtain ⟨t',rfl⟩:=ry;exact ne_str (J1o I q (congrArg not dec_str))
  | _=>exact absurd (show false=true from hs) Bool.false_ne_true
 | byt i =>
  obtain ⟨t,rfl⟩:=rx
  cases y with
  | byt j=>obtain ⟨t',rfl⟩:=ry;exact PySem.W.ne_bytes (J1o I q (congrArg not dec_byt))
  | _=>exact absurd (show false=true from hs) Bool.false_ne_true
 | _=>cases y <;> exact absurd (show false=true from hs) Bool.false_ne_true
theorem op_lt:OpR X (compareOp .Lt) (rI0 fun i j=>.bl (decide (i < j))):=opB0 fun _ _ _ _ _ _ _ q=>lt_int q
theorem op_gt:OpR X (compareOp .Gt) (rI0 fun i j=>.bl (decide (j < i))):=opB0 fun _ _ _ _ _ _ _ q=>gt_int q
theorem op_ge:OpR X (compareOp .GtE) (rI0 fun i j=>.bl (decide (j<=i))):=opB0 fun _ _ _ _ _ _ _ q=>ge_int q
theorem J13 (b:Expr) {op:CmpOp} (h:op≠.In:=by decide) (h2:op≠.NotIn:=by decide):behindInMarks op b=false:=by
 have e1:(op == CmpOp.In)=false:=by cases op <;> first | rfl | exact absurd rfl h
 have e2:(op == CmpOp.NotIn)=false:=by cases op <;> first | rfl | exact absurd rfl h2
 cases b <;> simp [behindInMarks,e1,e2]
theorem J58 {op:CmpOp} {r:R2} (ho:OpR X (compareOp op) r) (ha:PE X a ta) (hb:PE X b tb) (hm:behindInMarks op b=false):PE X (.Compare a [op] [b] pos) (tOp r ta tb):=by
 intro pins s σ H Q I h;exact wpAny_Compare1 (binT ha hb I h fun v u s2 x y H2 I2 rx ry q=>ho pins s2 σ H2 x y v u Q I2 rx ry q) hm
def tTest (t:TE):TT:=fun σ H Q=>t σ H fun x H'=>∃ k,x=.bl k/\Q k H'
theorem Jr {op:CmpOp} {r:R2} (ho:OpR X (compareOp op) r) (ha:PE X a ta) (hb:PE X b tb) (hm:behindInMarks op b=false):PT X (.Compare a [op] [b] pos) (tTest (tOp r ta tb)):=by
 intro pins s σ H Q I h;refine wpAny_isTrue_Compare1 (thn (ha pins s σ H _ I h) fun v s1 h9=>?_) hm;obtain ⟨x,H1,I1,r1,q1⟩:=h9;refine thn (hb pins s1 σ H1 _ I1 q1) fun u s2 h9=>?_;obtain ⟨y,H2,I2,r2,q2⟩:=h9;refine thn (ho pins s2 σ H2 x y v u _ I2 r1 r2 q2) fun c s3 h9=>?_;obtain ⟨z,H3,I3,r3,k,e,q3⟩:=h9;subst e;cases r3;exact wpAny_truthy_bool ⟨H3,I3,q3⟩
theorem line63:(sizeLine:Nat) < 2 ^ 63:=by rw [sizeLine_eq];decide
theorem vals1 {x:V} {us:List Value} (r:Vals [x] us):∃ u,us=[u]/\RelV x u:=by
 cases r with
 | cons r1 r2=>cases r2;exact ⟨_,rfl,r1⟩
theorem vals2 {x y:V} {us:List Value} (r:Vals [x,y] us):∃ u w',us=[u,w']/\RelV x u/\RelV y w':=by
 cases r with
 | cons r1 r2 =>
  cases r2 with
  | cons r3 r4=>cases r4;exact ⟨_,_,rfl,r1,r3⟩
theorem call_min2 (hc:X.calm=true):CallR X (.builtin "min") (fun xs H Q=>∃ i j,xs=[.int i,.int j]/\Q (.int (if j < i then j else i)) H):=by
 intro pins s σ H xs us Q I r h;obtain ⟨i,j,rfl,q⟩:=h;obtain ⟨u,w',rfl,⟨t,rfl⟩,⟨t',rfl⟩⟩:=vals2 r;refine min_two_ints (I.ok.hd hc) fun h' tk k=>⟨_,H,I.kept k,?_,q⟩;by_cases hj:j < i
 ·rw [if_pos hj,if_pos hj];exact ⟨_,rfl⟩
 ·rw [if_neg hj,if_neg hj];exact ⟨_,rfl⟩
theorem call_int1:CallR X (.type "int") (fun xs H Q=>(∃ i,xs=[.int i]/\Q (.int i) H)\/∃ k,xs=[.bl k]/\Q (.int (if k then 1 else 0)) H):=by
 intro pins s σ H xs us Q I r h;rcases h with ⟨i,rfl,q⟩ | ⟨k,rfl,q⟩
 ·obtain ⟨u,rfl,t,rfl⟩:=vals1 r;exact call_int_int ⟨.int i,H,I,⟨_,rfl⟩,q⟩
 ·obtain ⟨u,rfl,r1⟩:=vals1 r;cases r1;exact call_int_bool ⟨.int (if k then 1 else 0),H,I.tok _,⟨_,rfl⟩,q⟩
end
end L2
namespace L2
open PySem PySem.Spec PyProof.Rows
structure ObjM (h:Heap) (x dx C:Addr) (mA:Str->Option Value):Prop where
 obj:h.get? x=some (instObj C dx)
 ns:h.Ns1 dx mA
 ne:dx≠x
theorem lookIn_ns {h:Heap} {dx:Addr} {mA:Str->Option Value} (n:h.Ns1 dx mA):∃ od,h.get? dx=some od/\∀ name,lookIn name od=some (mA name):=by
 obtain ⟨o,es,ep,ho,hd,hk,_,hm⟩:=n;refine ⟨o,ho,fun name=>?_⟩;have e:=hm name;unfold nsFind findBy at e;rw [<- Array.find?_toList] at e;unfold lookIn;rw [hd];dsimp only;split
 ·rename_i y q;rw [q] at e;exact congrArg some e
 ·rename_i q;rw [q] at e;have a:es.toList.any (·.refKey)=false:=by
   rw [List.any_eq_false];intro y hy;obtain ⟨z,t,hkey⟩:=hk y (Array.mem_toList_iff.mp hy);simp [DictEntry.refKey,hkey]
  have a':¬ es.toList.any (·.refKey)=true:=by rw [a];exact Bool.false_ne_true
  rw [if_neg a'];exact congrArg some e
theorem ObjM.look {h:Heap} {x dx C:Addr} {mA:Str->Option Value} (I:ObjM h x dx C mA):∃ od,PySem.W.InstAt h x (instObj C dx) C (some od)/\∀ name,lookIn name od=some (mA name) :=
 let ⟨od,ho,hl⟩:=lookIn_ns I.ns
 ⟨od,⟨I.obj,rfl,rfl,ho⟩,hl⟩
section
variable {prog:Program} {w:World} {A:Around} {E:Value->Shared->Prop} {s:Shared} {K:Frag} {x dx C f:Addr} {mA:Str->Option Value} {name:Str} {v:Value}
theorem get_map {expr:Bool} {Q:Value->Shared->Prop} (X:K.In s.heap) (I:ObjM s.heap x dx C mA) (hg:plainGet K C name=true) (hh:hasDictIn K C=true)
  (ha:findIn K (.ref C) name=some none) (hv:mA name=some v) (hv':handedIn v=true) (h:Q v { s with toks:=s.toks + 1 }) :
  wpAny (model prog w) A (getAttr (.ref x) name expr) Q E s:=by
 obtain ⟨od,J,hl⟩:=I.look;exact PySem.W.get_value X J (plainGet_of hg).1 (PySem.W.findObj_own hh ha rfl (by rw [hl,hv])) hv' h
theorem get_meth {pl:Sem Bool} {Q:Value × List Value->Shared->Prop} (X:K.In s.heap) (I:ObjM s.heap x dx C mA) (hg:plainGet K C name=true)
  (hf:findIn K (.ref C) name=some (some (.ref f))) (ht:isFn K (.ref f)=true) (hv:mA name=none) (h:Q (.ref f,[.ref x]) s) :
  wpAny (model prog w) A (getMethod (.ref x) name pl) Q E s:=by
 obtain ⟨od,J,hl⟩:=I.look;exact PySem.W.method_fn X J (plainGet_of hg).1 (plainGet_of hg).2 hf (beq_iff_eq.mp ht) (by show (lookIn name od).map (·.isSome)=some false;rw [hl,hv];rfl) h
theorem set_map {ns:List Str} {Q:Unit->Shared->Prop} (X:K.In s.heap) (I:ObjM s.heap x dx C mA)
  (hs:findIn K (.ref C) "__setattr__"=some (some (.builtin "object.__setattr__"))) (hp:plainOver K C=true) (ht:takerIn K C name=some none) (hh:hasDictIn K C=true)
  (hw:PySem.Within mA ns) (hsz:ns.length<=sizeLine)
  (h:∀ h',ObjM h' x dx C (fun y=>if y=name then some v else mA y)->Heap.SameBut dx s.heap h'->Q () { s with heap:=h',toks:=s.toks + 2 }) :
  wpAny (model prog w) A (setAttr (.ref x) name v) Q E s:=by
 obtain ⟨od,J,hl⟩:=I.look;refine PySem.W.set_plain X J hs (PySem.W.osa_open (s:={ s with toks:=s.toks + 1 }) (r:=none) X J hp ht fun b=>?_);obtain ⟨cd,hc,hd'⟩:=PySem.W.any_some hh;have hx:s.heap.get? x=some ⟨.ref C,some dx,.plain,#[]⟩:=I.obj;refine wpAny_bind (wpAny_pure (wpAny_bind (wpAny_bind (wpAny_loadPart hx (wpAny_bind (PySem.W.Looks.here (s:={ s with toks:=s.toks + 1 }) (PySem.W.looks_clsIn X hc) ?_))))));rw [hd'];refine wpAny_pure (a:=some dx) (wpAny_bind (wpAny_pure (wpAny_bind ?_)));refine wpAny_nsSet1 (s:={ s with toks:=s.toks + 1 }) I.ns fun h' hn2 hs2=>?_;obtain ⟨oD,esD,epD,hoD,hdD,hcD⟩:=hn2.count (PySem.Within.cons name v hw);refine wpAny_bind (wpAny_lookBehind hoD (by rw [hdD];exact pastItsLine_dict (Nat.le_trans hcD (by rw [length_cons];lia))) ?_);exact wpAny_pure (h _ ⟨(hs2.2 _ (Ne.symm I.ne)).trans I.obj,hn2,I.ne⟩ hs2)
theorem make_map {R:Result->Shared->Prop} {vs:List Value} {kw:List (Str × Value)} (X:K.In s.heap) (hm:makesIn K C=true)
  (hi:findIn K (.ref C) "__init__"=some (some (.ref f))) (hf:PySem.W.typeIn K (.ref f)=some (.type "function"))
  (h:codeAny (model prog w) (A.under (.builtin "type.__call__" ⟨.ref C :: vs,kw⟩)) (.call (.ref f) ⟨.ref (s.heap.objs.size + 1) :: vs,kw⟩) (PySem.W.InitBack (s.heap.objs.size + 1) R)
   { s with heap:=(s.heap.push emptyDict).push (instObj C s.heap.objs.size) }) :
  codeAny (model prog w) A (.call (.ref C) ⟨vs,kw⟩) R s:=by
 obtain ⟨hh,g,d,t,os⟩:=s;exact PySem.W.make_core (PySem.W.makes_of X hm) (PySem.W.looks_findIn X hi) (fun self=>PySem.W.bind_fn X self hf) (.inl rfl) h
end
def putF (f:Str) (v:V):List (Str × V)->List (Str × V)
 | []=>[(f,v)]
 | (g,x) :: r=>if g=f then (g,v) :: r else (g,x) :: putF f v r
theorem J2z (f g:Str) (v:V):∀ fs:List (Str × V),(putF f v fs).lookup g=if g=f then some v else fs.lookup g
 | []=>by
  show List.lookup g [(f,v)]=_;by_cases h:g=f
  ·have hb:(g == f)=true:=beq_iff_eq.mpr h;simp only [List.lookup,hb,if_pos h]
  ·have hb:(g == f)=false:=beq_eq_false_iff_ne.mpr h;simp only [List.lookup,hb,if_neg h]
 | (k,x) :: r=>by
  have ih:=J2z f g v r;rw [show putF f v ((k,x) :: r)=(if k=f then (k,v) :: r else (k,x) :: putF f v r) from rfl];by_cases hk:k=f
  ·rw [if_pos hk];by_cases h:g=k
   ·have hb:(g == k)=true:=beq_iff_eq.mpr h;simp only [List.lookup,hb,if_pos (h.trans hk)]
   ·have hb:(g == k)=false:=beq_eq_false_iff_ne.mpr h;simp only [List.lookup,hb,if_neg (fun e:g=f=>h (e.trans hk.symm))]
  ·rw [if_neg hk];by_cases h:g=k
   ·have hb:(g == k)=true:=beq_iff_eq.mpr h;simp only [List.lookup,hb,if_neg (fun e:g=f=>hk (h.symm.trans e))]
   ·have hb:(g == k)=false:=beq_eq_false_iff_ne.mpr h;simp only [List.lookup,hb];exact ih
theorem J60 (f:Str) (v:V):∀ fs:List (Str × V),f∈(putF f v fs).map (·.1)/\∀ g,g∈fs.map (·.1)->g∈(putF f v fs).map (·.1)
 | []=>⟨by simp [putF],fun g h=>by simp at h⟩
 | (k,x) :: r=>by
  obtain ⟨i1,i2⟩:=J60 f v r;rw [show putF f v ((k,x) :: r)=(if k=f then (k,v) :: r else (k,x) :: putF f v r) from rfl];by_cases hk:k=f
  ·rw [if_pos hk];subst hk;exact ⟨by simp,fun g h=>by simpa using h⟩
  ·rw [if_neg hk];refine ⟨?_,fun g h=>?_⟩
   ·rw [map_cons];exact mem_cons_of_mem _ i1
   ·rw [map_cons] at h ⊢;rcases mem_cons.mp h with e | e
    ·exact mem_cons.mpr (.inl e)
    ·exact mem_cons_of_mem _ (i2 g e)
theorem Jm (f:Str) (v:V):∀ fs:List (Str × V),(putF f v fs).length<=fs.length + 1
 | []=>by simp [putF]
 | (k,x) :: r=>by
  have ih:=Jm f v r;rw [show putF f v ((k,x) :: r)=(if k=f then (k,v) :: r else (k,x) :: putF f v r) from rfl];by_cases hk:k=f
  ·rw [if_pos hk,length_cons,length_cons];lia
  ·rw [if_neg hk,length_cons,length_cons];lia
theorem RelO.some_of {v:V} {o:Option Value} (r:RelO (some v) o):∃ u,o=some u/\RelV v u:=by
 cases o with
 | none=>exact (show False from r).elim
 | some u=>exact ⟨u,rfl,r⟩
theorem RelO.none_of {o:Option Value} (r:RelO none o):o=none:=by
 cases o with
 | none=>rfl
 | some u=>exact (show False from r).elim
theorem handed_of {v:V} {u:Value} (r:RelV v u):handedIn u=true:=by
 cases v with
 | non=>cases (show u=Value.none from r);rfl
 | bl b=>cases (show u=Value.bool b from r);rfl
 | int i=>obtain ⟨t,e⟩:=(show ∃ t,u=Value.int i t from r);cases e;rfl
 | str x=>obtain ⟨t,e⟩:=(show ∃ t,u=Value.str x t from r);cases e;rfl
 | byt b=>obtain ⟨t,e⟩:=(show ∃ t,u=Value.bytes b t from r);cases e;rfl
 | flt b=>obtain ⟨t,e⟩:=(show ∃ t,u=Value.float b t from r);cases e;rfl
 | ref a=>cases (show u=Value.ref a from r);rfl
 | ty n=>cases (show u=Value.type n from r);rfl
section
variable {P:Program} {w:World} {H H':Hp} {h h':Heap} {a C dx:Addr} {fs fs':List (Str × V)}
theorem ins_get (hok:HOk P w H h) (e:H a=some (.ins C dx fs)):∃ mA,ObjM h a dx C mA/\(∀ f,RelO (fs.lookup f) (mA f))/\PySem.Within mA (fs.map (·.1))/\fs.length<=1000/\H dx=some (.own a):=by
 obtain ⟨d,z,ne,ob,mA,n,r,q⟩:=(show ObjOk P w H h a (.ins C dx fs) from hok a _ e);exact ⟨mA,⟨ob,n,ne⟩,r,q,z,d⟩
end
structure Cls (K:Frag) (C:Addr):Prop where
 pg:plainGet K C Str.empty=true
 hd:hasDictIn K C=true
 po:plainOver K C=true
 sa:findIn K (.ref C) "__setattr__"=some (some (.builtin "object.__setattr__"))
theorem Cls.get {K:Frag} {C:Addr} (c:Cls K C) (f:Str):plainGet K C f=true:=c.pg
def NoAttr (K:Frag) (C:Addr) (f:Str):Prop:=findIn K (.ref C) f=some none
theorem NoAttr.taker {K:Frag} {C:Addr} {f:Str} (n:NoAttr K C f):takerIn K C f=some none:=by
 unfold takerIn;rw [show findIn K (.ref C) f=some none from n];rfl
structure Meth (K:Frag) (C:Addr) (m:Str) (f:Addr):Prop where
 at_:findIn K (.ref C) m=some (some (.ref f))
 fn:isFn K (.ref f)=true
 kp:keepIn K (.ref f)=true
section
variable {X:Cx} {pins:List (Addr × Obj)} {σ:St} {H:Hp} {s:Shared} {a C dx:Addr} {fs:List (Str × V)} {f:Str} {v:V} {A:Around} {E:Value->Shared->Prop}
theorem getattr_ok {b:Bool} {Q:Value->Shared->Prop} (I:Inv X pins σ H s) (e:H a=some (.ins C dx fs)) (c:Cls X.K C) (n:NoAttr X.K C f) (l:fs.lookup f=some v)
  (h:∀ u s',Inv X pins σ H s'->RelV v u->Q u s'):wpAny (model X.prog X.w) A (getAttr (.ref a) f b) Q E s:=by
 obtain ⟨mA,O,r,_,_,_⟩:=ins_get I.hok e;obtain ⟨u,hu,ru⟩:=RelO.some_of (v:=v) (o:=mA f) (by rw [<- l];exact r f);exact get_map I.kIn O (c.get f) c.hd n hu (handed_of ru) (h u _ (I.tok _) ru)
theorem J6x {m:Str} {g:Addr} {pl:Sem Bool} {Q:Value × List Value->Shared->Prop} (I:Inv X pins σ H s) (e:H a=some (.ins C dx fs)) (c:Cls X.K C) (k:Meth X.K C m g) (l:fs.lookup m=none)
  (h:Q (.ref g,[.ref a]) s):wpAny (model X.prog X.w) A (getMethod (.ref a) m pl) Q E s:=by
 obtain ⟨mA,O,r,_,_,_⟩:=ins_get I.hok e;have hn:mA m=none:=RelO.none_of (by rw [<- l];exact r m);exact get_meth I.kIn O (c.get m) k.at_ k.fn hn h
theorem setattr_ok {y:V} {u:Value} {Q:Unit->Shared->Prop} (I:Inv X pins σ H s) (e:H a=some (.ins C dx fs)) (c:Cls X.K C) (n:NoAttr X.K C f) (hl:fs.length < 1000) (ry:RelV y u)
  (h:∀ s',Inv X pins σ (upd H a (.ins C dx (putF f y fs))) s'->Q () s'):wpAny (model X.prog X.w) A (setAttr (.ref a) f u) Q E s:=by
 obtain ⟨mA,O,r,wi,_,ho⟩:=ins_get I.hok e;have hz:(fs.map (·.1)).length<=sizeLine:=by rw [length_map,sizeLine_eq];lia
 refine set_map I.kIn O c.sa c.po n.taker c.hd wi hz fun h' O' sb=>h _ ?_;have hd:∃ o,h'.get? dx=some o:=by obtain ⟨o,_,_,e',_⟩:=O'.ns;exact ⟨o,e'⟩
 refine I.write (x:=a) (e:=dx) (by rw [e];exact True.intro) (.inr ho) (fun b q hb z=>(sb.2 b hb).trans z) hd ?_;refine ⟨by rw [Jg O.ne];exact ho,?_,O.ne,O'.obj,_,O'.ns,fun g=>?_,fun g hg=>?_⟩
 ·have:=Jm f y fs;lia
 ·show RelO ((putF f y fs).lookup g) (if g=f then some u else mA g);rw [J2z];by_cases q:g=f
  ·rw [if_pos q,if_pos q];exact ry
  ·rw [if_neg q,if_neg q];exact r g
 ·by_cases q:g=f
  ·rw [q];exact (J60 f y fs).1
  ·refine (J60 f y fs).2 g (wi g fun z=>hg ?_);show (if g=f then some u else mA g)=none;rw [if_neg q];exact z
theorem Inv.made (I:Inv X pins σ H s):Inv X pins σ (upd (upd H s.heap.objs.size (.own (s.heap.objs.size + 1))) (s.heap.objs.size + 1) (.ins C s.heap.objs.size []))
  { s with heap:=(s.heap.push emptyDict).push (instObj C s.heap.objs.size) }:=by
 have e1:(s.heap.push emptyDict).get? s.heap.objs.size=some emptyDict:=get?_push_size s.heap rfl;have e2:((s.heap.push emptyDict).push (instObj C s.heap.objs.size)).get? (s.heap.objs.size + 1)=some (instObj C s.heap.objs.size):=by
  have:=get?_push_size (s.heap.push emptyDict) (o:=instObj C s.heap.objs.size) rfl;rwa [size_push] at this
 have e3:(s.heap.push emptyDict).Ns s.heap.objs.size (fun _=>none):=⟨emptyDict,#[],_,e1,rfl,(fun e he=>absurd he (by simp)),fun _=>rfl⟩;have I1:=I.laid (a:=s.heap.objs.size) (o:=.own (s.heap.objs.size + 1)) (h':=s.heap.push emptyDict) (t':=s.toks) (fun b u q=>get?_push_of_some _ q) (Nat.le_refl _) ⟨_,e1⟩;refine I1.laid (a:=s.heap.objs.size + 1) (o:=.ins C s.heap.objs.size []) (t':=s.toks) (fun b u q=>get?_push_of_some _ q) (Nat.le_of_eq (size_push _ _)) ?_;have ne:s.heap.objs.size≠s.heap.objs.size + 1:=Nat.ne_of_lt (Nat.lt_succ_self _);refine ⟨by rw [Jg ne,J3],Nat.zero_le _,ne,e2,fun _=>none,(Heap.Ns1.of_empty e3).at fun o q=>get?_push_of_some _ q,fun _=>True.intro,fun y hy=>absurd rfl hy⟩
theorem attr_of {prog:Program} {w:World} {env:Env} {e:Expr} {f:Str} {pos:Pos} {s:Shared} {Q:Value->Shared->Prop} (hb:attributeBase e f env (eval e env)=eval e env)
  (h:wpAny (model prog w) A (eval e env) (fun o s₁=>wpAny (model prog w) A (getAttr o f true) Q E s₁) E s):wpAny (model prog w) A (eval (.Attribute e f pos) env) Q E s :=
 Attribute_any_ h (by rw [arm_eval_Attribute,hb])
end
def tFld (K:Frag) (ta:TE) (f:Str):TE:=fun σ H Q=>ta σ H fun x H1=>∃ a C dx fs v,x=.ref a/\H1 a=some (.ins C dx fs)/\Cls K C/\NoAttr K C f/\fs.lookup f=some v/\Q v H1
def sFld (K:Frag) (ta tv:TE) (f:Str):TS:=fun D σ H=>tv σ H fun y H1=>ta σ H1 fun x H2=>∃ a C dx fs,x=.ref a/\H2 a=some (.ins C dx fs)/\Cls K C/\NoAttr K C f/\fs.length < 1000/\
 D.nx σ (upd H2 a (.ins C dx (putF f y fs)))
section
variable {X:Cx} {o e value:Expr} {f:Str} {pos pos' tpos:Pos} {ta tv:TE}
theorem J9 (he:PE X e ta) (hb:attributeBase e f X.env (eval e X.env)=eval e X.env):PE X (.Attribute e f pos) (tFld X.K ta f):=by
 intro pins s σ H Q I h;refine attr_of hb (thn (he pins s σ H _ I h) fun u s1 h9=>?_);obtain ⟨x,H1,I1,rx,a,C,dx,fs,v,ex,ea,c,n,l,q⟩:=h9;subst ex;obtain rfl:u=Value.ref a:=rx;exact getattr_ok I1 ea c n l fun u' s2 I2 ru=>⟨v,H1,I2,ru,q⟩
theorem J1w (ha:PE X o ta) (hv:PE X value tv) (hs:swapsWith value (some (.Attribute o f pos')) pos.line X.env=pure false):PS X (.Assign [.Attribute o f pos'] value pos) (sFld X.K ta tv f):=by
 intro pins s σ H D I h;refine plainObj_wpAny_Assign_Attribute (thn (hv pins s σ H _ I h) fun u s1 h9=>?_) hs;obtain ⟨y,H1,I1,ry,q⟩:=h9;refine thn (ha pins s1 σ H1 _ I1 q) fun ov s2 h9=>?_;obtain ⟨x,H2,I2,rx,a,C,dx,fs,ex,ea,c,n,l,q2⟩:=h9;subst ex;obtain rfl:ov=Value.ref a:=rx;exact setattr_ok I2 ea c n l ry fun s3 I3=>⟨σ,_,I3,q2⟩
end
section
variable {X:Cx} {pins:List (Addr × Obj)} {σ:St} {H:Hp} {s:Shared} {A:Around} {E:Value->Shared->Prop} {Q:Value->Shared->Prop} {c:Value} {b:Bool}
inductive TyOf (K:Frag) (H:Hp):V->Value->Prop where
 | non:TyOf K H .non (.type "NoneType")
 | bl (x:Bool):TyOf K H (.bl x) (.type "bool")
 | int (i:Int):TyOf K H (.int i) (.type "int")
 | str (x:Str):TyOf K H (.str x) (.type "str")
 | flt (x:UInt64):TyOf K H (.flt x) (.type "float")
 | lst {a:Addr} {xs:List V} (e:H a=some (.lst xs)):TyOf K H (.ref a) (.type "list")
 | frz {a:Addr} {o:Obj} {xs:List V} (e:H a=some (.frz o (.lst xs))):TyOf K H (.ref a) (.type "list")
 | tup {a:Addr} {xs:List V} (e:H a=some (.tup xs)):TyOf K H (.ref a) (.type "tuple")
 | dK {a:Addr} {kvs:List (Key × V)} (e:H a=some (.dK kvs)):TyOf K H (.ref a) (.type "dict")
 | dT {a:Addr} {kvs:List (List Key × V)} (e:H a=some (.dT kvs)):TyOf K H (.ref a) (.type "dict")
 | ins {a C dx:Addr} {fs:List (Str × V)} (e:H a=some (.ins C dx fs)) (cl:Cls K C) (ha:findIn K (.ref C) "__class__"=some (some (.builtin "object.__class__")))
   (hn:specialIn K (.builtin "object.__class__") "__get__"=some (some (.builtin "getset_descriptor.__get__"))) (htk:PySem.W.takesIn K (.builtin "object.__class__")=some true)
   (hm:PySem.W.mroIn K C (.type "object")=some true):TyOf K H (.ref a) (.ref C)
theorem isinst_ok {x:V} {u t:Value} (I:Inv X pins σ H s) (rx:RelV x u) (ty:TyOf X.K H x t) (e:kitOne X.K t c=some b) (h:∀ tk,Q (.bool b) { s with toks:=tk }) :
  wpAny (model X.prog X.w) A (call (.builtin "isinstance") [u,c]) Q E s:=by
 cases ty with
 | non=>cases (show u=Value.none from rx);exact kia_one PySem.W.kitx_none I.kIn True.intro e (fun z=>nomatch z) h
 | bl y=>cases (show u=Value.bool y from rx);exact kia_one PySem.W.kitx_bool I.kIn True.intro e (fun z=>nomatch z) h
 | int i=>obtain ⟨t,q⟩:=(show ∃ t,u=Value.int i t from rx);cases q;exact kia_one PySem.W.kitx_int I.kIn True.intro e (fun z=>nomatch z) h
 | str y=>obtain ⟨t,q⟩:=(show ∃ t,u=Value.str y t from rx);cases q;exact kia_one PySem.W.kitx_str I.kIn True.intro e (fun z=>nomatch z) h
 | flt y=>obtain ⟨t,q⟩:=(show ∃ t,u=Value.float y t from rx);cases q;exact kia_one PySem.W.kitx_float I.kIn True.intro e (fun z=>nomatch z) h
 | @lst a xs ea =>
  cases (show u=Value.ref a from rx);obtain ⟨_,_,n,_,h1⟩:=(show ObjOk X.prog X.w H s.heap a (.lst xs) from I.hok a _ ea);exact kia_one PySem.W.kitx_list I.kIn ⟨_,h1,rfl⟩ e (fun z=>nomatch z) h
 | @frz a ob xs ea =>
  cases (show u=Value.ref a from rx);obtain ⟨_,_,_,n,_,h1⟩:=(show ObjOk X.prog X.w H s.heap a (.frz ob (.lst xs)) from I.hok a _ ea);exact kia_one PySem.W.kitx_list I.kIn ⟨_,h1,rfl⟩ e (fun z=>nomatch z) h
 | @tup a xs ea =>
  cases (show u=Value.ref a from rx);obtain ⟨_,_,_,p⟩:=(show ObjOk X.prog X.w H s.heap a (.tup xs) from I.hok a _ ea);obtain ⟨o,h1,h2,_⟩:=p;exact kia_one PySem.W.kitx_tuple I.kIn ⟨o,h1,h2.1⟩ e (fun z=>nomatch z) h
 | @dK a kvs ea =>
  cases (show u=Value.ref a from rx);obtain ⟨_,_,vs,_,p⟩:=(show ObjOk X.prog X.w H s.heap a (.dK kvs) from I.hok a _ ea);obtain ⟨o,es,ep,h1,h2,_⟩:=p;exact kia_one PySem.W.kitx_dict I.kIn ⟨o,h1,h2.1⟩ e (fun z=>nomatch z) h
 | @dT a kvs ea =>
  cases (show u=Value.ref a from rx);obtain ⟨_,_,xs,_,o,es,ep,h1,h2,_⟩:=(show ObjOk X.prog X.w H s.heap a (.dT kvs) from I.hok a _ ea);exact kia_one PySem.W.kitx_dict I.kIn ⟨o,h1,h2.1⟩ e (fun z=>nomatch z) h
 | @ins a C dx fs ea cl ha hn htk hm =>
  cases (show u=Value.ref a from rx);obtain ⟨mA,O,_⟩:=ins_get I.hok ea;obtain ⟨od,J,_⟩:=O.look;exact kia_one (PySem.W.kitx_own (cl.get _) cl.hd ha hn htk hm) I.kIn J e (fun z=>nomatch z) h
end
end L2
namespace L2
open PySem PySem.Spec PyProof.Rows
structure Room (k:Nat) (A:Around):Prop where
 hd:A.handled=none
 dp:A.depth + 3 * k + 5 < recursionLimit
 un:A.units + 16 * k + 200 < cLine
theorem Room.mono {j k:Nat} {A:Around} (r:Room k A) (h:j<=k):Room j A:=⟨r.hd,by have:=r.dp;lia,by have:=r.un;lia⟩
theorem rm {j k:Nat} {A:Around} (r:Room k A) (h:j<=k:=by decide) : Room j A:=r.mono h
theorem Room.deeper {k:Nat} {A:Around} (r:Room (k + 1) A) (env:Env):Room k (A.deeper env) :=
 ⟨r.hd,by have:=r.dp;show A.depth + 1 + 3 * k + 5 < _;lia,by have:=r.un;show A.units + 3 + 16 * k + 200 < _;lia⟩
theorem Room.in1 {k:Nat} {A:Around} (r:Room (k + 1) A):Room k A.in1 :=
 ⟨r.hd,by have:=r.dp;show A.depth + 3 * k + 5 < _;lia,by have:=r.un;show A.units + 1 + 16 * k + 200 < _;lia⟩
theorem make_depth {A:Around} {C:Addr} {us:List Value} {kw:List (Str × Value)}:(A.under (.builtin "type.__call__" ⟨.ref C :: us,kw⟩)).depth=A.depth + 1:=by
 first | rfl | simp [Around.under,Code.weight,Code.isCreation,Code.isGuard,Code.isCaller,Code.frames,Code.isFrame,guardIds]
theorem make_units {A:Around} {C:Addr} {us:List Value} {kw:List (Str × Value)}:(A.under (.builtin "type.__call__" ⟨.ref C :: us,kw⟩)).units=A.units + 1:=by
 first | rfl | simp [Around.under,Code.cUnits,Code.frames,Code.isFrame]
theorem Room.make {k:Nat} {A:Around} (r:Room (k + 1) A) (C:Addr) (us:List Value) (kw:List (Str × Value)):Room k (A.under (.builtin "type.__call__" ⟨.ref C :: us,kw⟩)) :=
 ⟨r.hd,by have:=r.dp;rw [make_depth];lia,by have:=r.un;rw [make_units];lia⟩
theorem Room.depth {k:Nat} {A:Around} (r:Room k A):A.depth < recursionLimit:=by have:=r.dp;lia
theorem Room.units0 {k:Nat} {A:Around} (r:Room k A):A.units < cLine:=by have:=r.un;lia
def tNil:TA:=fun _ H Q=>Q [] H
def tCons (ta:TE) (tr:TA):TA:=fun σ H Q=>ta σ H fun x H1=>tr σ H1 fun xs H2=>Q (x :: xs) H2
section
variable {X:Cx} {e:Expr} {es:List Expr} {te:TE} {t:TA} {pos:Pos}
theorem J4:PA X [] tNil:=fun _ _ _ _ H Q I h=>Calls.spliced_nil ⟨[],H,I,.nil,h⟩
theorem J0 (ha:PE X e te) (hr:PA X es t) (hs:starEach (e :: es) X.env=(false,eval e X.env) :: starEach es X.env:=by rfl):PA X (e :: es) (tCons te t):=by
 intro pos pins s σ H Q I h;rw [hs];show wpAny _ _ (spliced ((false,eval e X.env) :: backTo pos (starEach es X.env))) _ _ s;refine Calls.spliced_cons (thn (ha pins s σ H _ I h) fun u s1 h9=>?_);obtain ⟨x,H1,I1,r1,q1⟩:=h9;exact thn (hr pos pins s1 σ H1 _ I1 q1) fun us s2 h9=>by obtain ⟨xs,H2,I2,r2,q2⟩:=h9;exact ⟨x :: xs,H2,I2,.cons r1 r2,q2⟩
def tTup (t:TA):TE:=fun σ H Q=>t σ H fun xs H1=>xs.length<=sizeLine/\∀ p,H1 p=none->Q (.ref p) (upd H1 p (.tup xs))
def tLst (t:TA):TE:=fun σ H Q=>t σ H fun xs H1=>xs.length<=sizeLine/\∀ p,H1 p=none->Q (.ref p) (upd H1 p (.lst xs))
theorem J4y {x1} (h:PA X es t):PE X (.Tuple es x1 pos) (tTup t):=by
 intro pins s σ H Q I hq;refine wpAny_Tuple_spliced (thn (h pos pins s σ H _ I hq) fun us s1 h9=>?_);obtain ⟨xs,H1,I1,r,z,q⟩:=h9;refine ⟨by rw [<- r.length];exact z,?_⟩;have hf:H1 s1.heap.objs.size=none:=I1.hok.fresh (Nat.le_refl _);refine ⟨.ref s1.heap.objs.size,upd H1 s1.heap.objs.size (.tup xs),I1.laid (t':=s1.toks) (fun b u e=>get?_push_of_some _ e) (Nat.le_refl _) ?_,rfl,q _ hf⟩;exact ⟨z,us,r,⟨_,get?_push_size _ rfl,⟨rfl,rfl⟩,_,rfl⟩⟩
theorem J3d (h:PA X es t):PE X (.List es pos) (tLst t):=by
 intro pins s σ H Q I hq;refine wpAny_List_spliced (thn (h pos pins s σ H _ I hq) fun us s1 h9=>?_);obtain ⟨xs,H1,I1,r,z,q⟩:=h9;refine ⟨by rw [<- r.length];exact z,?_⟩;have hf:H1 s1.heap.objs.size=none:=I1.hok.fresh (Nat.le_refl _);refine ⟨.ref s1.heap.objs.size,upd H1 s1.heap.objs.size (.lst xs),I1.laid (t':=s1.toks) (fun b u e=>get?_push_of_some _ e) (Nat.le_refl _) ?_,rfl,q _ hf⟩;exact ⟨z,us,0,r,get?_push_size _ rfl⟩
end
abbrev Sp:=List V->Hp->VK->XK->Prop
abbrev CXT:=List Env->Hp->Shared->XK->Value->Shared->Prop
structure Env0 (P:Program) (w:World) (K:Frag) (mg:Str->Option Value) (base:Heap) (A:Around) (outer:List Env) (s:Shared) (H:Hp):Prop where
 frames:A.frames=some outer
 mod:Mod K mg base
 bs:∀ b o,base.get? b=some o->s.heap.get? b=some o/\H b=none
 bsz:base.objs.size<=s.heap.objs.size
 funs:s.heap.FunFrames base outer
 frf:∀ b∈frs outer,H b=none
 hok:HOk P w H s.heap
 bare:AllBare s.gens
def CE (outer:List Env) (P:Program) (w:World) (H:Hp) (s:Shared) (Q:VK) (u:Value) (s':Shared):Prop :=
 ∃ v H',s'.os=s.os/\AllBare s'.gens/\Un (frs outer) [] H H' s.heap s'.heap/\HOk P w H' s'.heap/\RelV v u/\Q v H'
def CR (CX:CXT) (outer:List Env) (P:Program) (w:World) (H:Hp) (s:Shared) (Q:VK) (E:XK) (r:Result) (s':Shared):Prop :=
 match r with
 | .ok (.ret u)=>CE outer P w H s Q u s'
 | .ok _=>False
 | .error e=>CX outer H s E e s'
structure FnOk (P:Program) (w:World) (K:Frag) (mg:Str->Option Value) (base:Heap) (CX:CXT) (k:Nat) (f:Addr) (fd:FuncData) (ps:List Str) (sp:Sp):Prop where
 len:∀ vs H Q E,sp vs H Q E->vs.length=ps.length
 run:∀ (A:Around) (outer:List Env) (s:Shared) (H:Hp) (args:Args) (us:List Value) (vs:List V) (Q:VK) (E:XK),Room k A->Env0 P w K mg base A outer s H->BindsTo s fd args (ps.zip us)->Vals vs us->sp vs H Q E->
  codeAny (model P w) A (.call (.ref f) args) (CR CX outer P w H s Q E) s
theorem Env0.make {P:Program} {w:World} {K:Frag} {mg:Str->Option Value} {base:Heap} {A:Around} {outer:List Env} {s:Shared} {H:Hp} (e:Env0 P w K mg base A outer s H) (C:Addr) (us:List Value) (kw:List (Str × Value)) :
  Env0 P w K mg base (A.under (.builtin "type.__call__" ⟨.ref C :: us,kw⟩)) outer s H:=⟨by first | exact e.frames | (simpa [Around.under,Code.envs,Code.isFrame,pushEnvs] using e.frames),e.mod,e.bs,e.bsz,e.funs,e.frf,e.hok,e.bare⟩
theorem Env0.in1 {P:Program} {w:World} {K:Frag} {mg:Str->Option Value} {base:Heap} {A:Around} {outer:List Env} {s:Shared} {H:Hp} (e:Env0 P w K mg base A outer s H) :
  Env0 P w K mg base A.in1 outer s H:=⟨e.frames,e.mod,e.bs,e.bsz,e.funs,e.frf,e.hok,e.bare⟩
section
variable {X:Cx} {pins:List (Addr × Obj)} {σ:St} {H:Hp} {s s':Shared}
theorem Inv.env0 (I:Inv X pins σ H s):Env0 X.prog X.w X.K X.mg X.base X.A X.stack s H :=
 ⟨I.ok.frames,I.ok.mod,I.bs,Nat.le_trans I.ok.bsz I.sz,I.stack,I.stkFree,I.hok,I.bare⟩
theorem Inv.after {Q:VK} {u:Value} (I:Inv X pins σ H s) (h:CE X.stack X.prog X.w H s Q u s'):EP X pins σ Q u s':=by
 obtain ⟨v,H',os,bare,un,hok,r,q⟩:=h;obtain ⟨hh,g,d,t,os'⟩:=s';obtain rfl:os'=s.os:=os;exact ⟨v,H',I.call (h':=hh) (g':=g) (d':=d) (t':=t) (ch:=[]) un hok bare (fun b z=>absurd z (by simp)),r,q⟩
end
def tCall (sp:Sp) (dvs:List V) (E:XK) (t:TA):TE:=fun σ H Q=>t σ H fun vs H1=>sp (vs ++ dvs) H1 Q E
def tMake (C:Addr) (sp:Sp) (dvs:List V) (E:XK) (t:TA):TE:=fun σ H Q=>t σ H fun vs H1=>∀ x dx,H1 x=none->H1 dx=none->dx≠x->
 sp (.ref x :: (vs ++ dvs)) (upd (upd H1 dx (.own x)) x (.ins C dx [])) (fun v H2=>v=.non/\Q (.ref x) H2) E
def Binds (K:Frag) (fd:FuncData) (ps:List Str) (ds:List Value):Prop :=
 ∀ (s:Shared) (us:List Value),K.In s.heap->(us ++ ds).length=ps.length->BindsTo s fd ⟨us,[]⟩ (ps.zip (us ++ ds))
theorem Binds.all {K:Frag} {fd:FuncData} {ps:List Str} (h:∀ us:List Value,us.length=ps.length->bindArgs fd ⟨us,[]⟩=pure (ps.zip us)):Binds K fd ps []:=fun s us _ hl=>by
 rw [append_nil] at hl ⊢;exact .of_eq (h us hl)
def J53 (CX:CXT) (X:Cx) (E:XK):Prop:=∀ (pins:List (Addr × Obj)) (σ:St) (H:Hp) (s:Shared) (e:Value) (s':Shared),Inv X pins σ H s->CX X.stack H s E e s'->X.xe e s'
section
variable {X:Cx} {CX:CXT} {k:Nat} {f C:Addr} {fd:FuncData} {ps:List Str} {sp:Sp} {dvs:List V} {ds:List Value} {E:XK} {x m:Str} {p pos apos:Pos} {e o:Expr} {es:List Expr} {ta:TE} {t:TA}
theorem run_fn {pins:List (Addr × Obj)} {σ:St} {H:Hp} {s:Shared} {Q:VK} {us:List Value} {vs:List V} (F:FnOk X.prog X.w X.K X.mg X.base CX k f fd ps sp) (hr:Room k X.A) (hb:Binds X.K fd ps ds) (hd:Vals dvs ds) (hx:J53 CX X E)
  (I:Inv X pins σ H s) (r:Vals vs us) (h:sp (vs ++ dvs) H Q E):wpAny (model X.prog X.w) X.A (call (.ref f) us) (EP X pins σ Q) X.xe s:=by
 have r2:Vals (vs ++ dvs) (us ++ ds):=r.append hd;have hl:(us ++ ds).length=ps.length:=by rw [<- r2.length];exact F.len _ _ _ _ h
 refine wpAny_call (codeAny_mono (F.run X.A X.stack s H ⟨us,[]⟩ (us ++ ds) (vs ++ dvs) Q E hr I.env0 (hb s us I.kIn hl) r2 h) fun r s' hq=>?_)
 cases r with
 | error e=>exact hx pins σ H s e s' I hq
 | ok fl =>
  cases fl with
  | ret u=>exact I.after hq
  | next=>exact False.elim hq
  | brk=>exact False.elim hq
  | cont=>exact False.elim hq
theorem Jc (F:FnOk X.prog X.w X.K X.mg X.base CX k f fd ps sp) (hr:Room k X.A) (hg:Gl X x) (hm:X.mg x=some (.ref f)) (hk:keepIn X.K (.ref f)=true) (hb:Binds X.K fd ps ds) (hd:Vals dvs ds) (hx:J53 CX X E)
  (ha:PA X (e :: es) t) (hdb:(x == ("__debug__":Str))=false:=by decide) (he:starEach (e :: es) X.env=(false,eval e X.env) :: starEach es X.env:=by rfl) (hpl:(backTo pos (starEach es X.env)).any (·.1)=false:=by rfl) :
  PE X (.Call (.Name x p) (e :: es) [] pos) (tCall sp dvs E t):=by
 intro pins s σ H Q I h;refine wpAny_Call_Name_kw (J6u I hg hm ?_ hdb);refine callWith_K (h₀:=X.base) I.ok.mod.kin hk (thn (ha pos pins s σ H _ I h) fun us s1 h9=>?_) he hpl;obtain ⟨vs,H1,I1,r,q⟩:=h9;refine ⟨I1.kIn,?_⟩;exact run_fn F hr hb hd hx I1 r q
structure Mk (K:Frag) (C f:Addr):Prop where
 makes:makesIn K C=true
 init:findIn K (.ref C) "__init__"=some (some (.ref f))
 fn:isFn K (.ref f)=true
 kp:keepIn K (.ref C)=true
theorem run_make {pins:List (Addr × Obj)} {σ:St} {H:Hp} {s:Shared} {Q:VK} {us:List Value} {vs:List V} (M:Mk X.K C f) (F:FnOk X.prog X.w X.K X.mg X.base CX k f fd ps sp) (hr:Room (k + 1) X.A) (hb:Binds X.K fd ps ds) (hd:Vals dvs ds)
  (hx:J53 CX X E) (I:Inv X pins σ H s) (r:Vals vs us)
  (h:∀ x dx,H x=none->H dx=none->dx≠x->sp (.ref x :: (vs ++ dvs)) (upd (upd H dx (.own x)) x (.ins C dx [])) (fun v H2=>v=.non/\Q (.ref x) H2) E) :
  wpAny (model X.prog X.w) X.A (call (.ref C) us) (EP X pins σ Q) X.xe s:=by
 have hq:=h (s.heap.objs.size + 1) s.heap.objs.size (I.hok.fresh (Nat.le_succ _)) (I.hok.fresh (Nat.le_refl _)) (Nat.ne_of_lt (Nat.lt_succ_self _));have I2:=Inv.made (C:=C) I;have r2:Vals (V.ref (s.heap.objs.size + 1) :: (vs ++ dvs)) (Value.ref (s.heap.objs.size + 1) :: (us ++ ds)):=.cons rfl (r.append hd);have hl:(Value.ref (s.heap.objs.size + 1) :: us ++ ds).length=ps.length:=by
  have e:=r2.length;rw [F.len _ _ _ _ hq] at e;exact e.symm
 refine wpAny_call (make_map (f:=f) I.kIn M.makes M.init (beq_iff_eq.mp M.fn) (codeAny_mono (F.run _ X.stack _ _ ⟨Value.ref (s.heap.objs.size + 1) :: us,[]⟩ (Value.ref (s.heap.objs.size + 1) :: (us ++ ds)) _ _ E (hr.make C us [])
  (I2.env0.make C us []) (hb _ (Value.ref (s.heap.objs.size + 1) :: us) I2.kIn hl) r2 hq) fun r s' hq'=>?_))
 cases r with
 | error e=>exact hx pins σ _ _ e s' I2 hq'
 | ok fl =>
  cases fl with
  | ret u =>
   obtain ⟨v,H',I3,rv,ev,q3⟩:=I2.after hq';subst ev;exact ⟨rv,⟨V.ref (s.heap.objs.size + 1),H',I3,rfl,q3⟩⟩
  | next=>exact False.elim hq'
  | brk=>exact False.elim hq'
  | cont=>exact False.elim hq'
theorem J1h (M:Mk X.K C f) (F:FnOk X.prog X.w X.K X.mg X.base CX k f fd ps sp) (hr:Room (k + 1) X.A) (hg:Gl X x) (hm:X.mg x=some (.ref C)) (hb:Binds X.K fd ps ds) (hd:Vals dvs ds) (hx:J53 CX X E)
  (ha:PA X (e :: es) t) (hdb:(x == ("__debug__":Str))=false:=by decide) (he:starEach (e :: es) X.env=(false,eval e X.env) :: starEach es X.env:=by rfl) (hpl:(backTo pos (starEach es X.env)).any (·.1)=false:=by rfl) :
  PE X (.Call (.Name x p) (e :: es) [] pos) (tMake C sp dvs E t):=by
 intro pins s σ H Q I h;refine wpAny_Call_Name_kw (J6u I hg hm ?_ hdb);refine callWith_K (h₀:=X.base) I.ok.mod.kin M.kp (thn (ha pos pins s σ H _ I h) fun us s1 h9=>?_) he hpl;obtain ⟨vs,H1,I1,r,q⟩:=h9;refine ⟨I1.kIn,?_⟩;exact run_make M F hr hb hd hx I1 r q
end
structure FnScope (N P:List Str) (sc:Scope):Prop where
 kind:sc.kind=.function
 co:sc.isCoroutine=false
 gen:sc.isGenerator=false
 nd:N.Nodup
 pre:N.take P.length=P
 par:∀ x∈P,sc.names.lookup x=some .local\/sc.names.lookup x=some .cell
 nofree:∀ y∈sc.names,y.2≠.free
theorem fS {N P:List Str} {sc:Scope} (a:sc.kind=.function:=by rfl) (b:sc.isCoroutine=false:=by rfl) (c:sc.isGenerator=false:=by rfl) (d:N.Nodup:=by decide +kernel) (e:N.take P.length=P:=by rfl) (f:∀ x∈P,sc.names.lookup x=some .local\/sc.names.lookup x=some .cell:=by decide +kernel) (g:∀ y∈sc.names,y.2≠.free:=by decide +kernel) : FnScope N P sc:=⟨a,b,c,d,e,f,g⟩
theorem bindL_out {kindOf:Str->Option NameKind} {x:Str}:∀ {binds:List (Str × Value)} {m:Str->Option Value},(∀ v,(x,v) ∉ binds)->bindL kindOf binds m x=m x
 | [],_,_=>rfl
 | (n,v) :: r,m,h=>by
  unfold bindL;rw [bindL_out fun w hw=>h w (mem_cons_of_mem _ hw)];split
  ·have:x≠n:=by rintro rfl;exact h v mem_cons_self
   simp [this]
  ·rfl
theorem bindC_out {kindOf:Str->Option NameKind} {x:Str}:∀ {binds:List (Str × Value)} {m:Str->Option Value},(∀ v,(x,v) ∉ binds)->bindC kindOf binds m x=m x
 | [],_,_=>rfl
 | (n,v) :: r,m,h=>by
  unfold bindC;rw [bindC_out fun w hw=>h w (mem_cons_of_mem _ hw)];split
  ·rfl
  ·have:x≠n:=by rintro rfl;exact h v mem_cons_self
   simp [this]
theorem bindL_get {kindOf:Str->Option NameKind} {x:Str} {v:Value}:∀ {P:List Str} {vs:List Value} {i:Nat} {m:Str->Option Value},P.Nodup->P[i]?=some x->vs[i]?=some v->kindOf x=some .local->
  bindL kindOf (P.zip vs) m x=some v
 | [],_,_,_,_,h,_,_=>by simp at h
 | _ :: _,[],_,_,_,_,h,_=>by simp at h
 | p :: P,w :: vs,0,m,nd,h1,h2,hk=>by
  simp at h1 h2;subst h1;subst h2;show bindL kindOf ((p,w) :: P.zip vs) m p=_;unfold bindL;rw [bindL_out fun v hv=>(nodup_cons.mp nd).1 (List.of_mem_zip hv).1,if_pos hk];simp
 | p :: P,w :: vs,i + 1,m,nd,h1,h2,hk=>by
  show bindL kindOf ((p,w) :: P.zip vs) m x=_;unfold bindL;exact bindL_get (i:=i) (nodup_cons.mp nd).2 (by simpa using h1) (by simpa using h2) hk
theorem bindC_get {kindOf:Str->Option NameKind} {x:Str} {v:Value}:∀ {P:List Str} {vs:List Value} {i:Nat} {m:Str->Option Value},P.Nodup->P[i]?=some x->vs[i]?=some v->kindOf x≠some .local->
  bindC kindOf (P.zip vs) m x=some v
 | [],_,_,_,_,h,_,_=>by simp at h
 | _ :: _,[],_,_,_,_,h,_=>by simp at h
 | p :: P,w :: vs,0,m,nd,h1,h2,hk=>by
  simp at h1 h2;subst h1;subst h2;show bindC kindOf ((p,w) :: P.zip vs) m p=_;unfold bindC;rw [bindC_out fun v hv=>(nodup_cons.mp nd).1 (List.of_mem_zip hv).1,if_neg hk];simp
 | p :: P,w :: vs,i + 1,m,nd,h1,h2,hk=>by
  show bindC kindOf ((p,w) :: P.zip vs) m x=_;unfold bindC;exact bindC_get (i:=i) (nodup_cons.mp nd).2 (by simpa using h1) (by simpa using h2) hk
def start (N:List Str) (vs:List V):St:=vs.map some ++ List.replicate (N.length - vs.length) none
def cxOf (CX:CXT) (P:Program) (w:World) (K:Frag) (mg:Str->Option Value) (base:Heap) (N:List Str) (qual:Str) (scope:Scope) (f:Addr) (cd:Value) (A:Around) (outer:List Env) (s:Shared) (H:Hp) (E:XK):Cx where
 prog:=P
 w:=w
 K:=K
 mg:=mg
 base:=base
 A:=A.deeper (envOfC qual scope s.heap.objs.size f cd)
 N:=N
 s₀:=s
 H₀:=H
 env:=envOfC qual scope s.heap.objs.size f cd
 outer:=outer
 stack:=envOfC qual scope s.heap.objs.size f cd :: outer
 ex:=[]
 calm:=true
 fn:=fun _=>true
 pn:=[]
 xe:=fun e s'=>wpAny (model P w) (A.deeper (envOfC qual scope s.heap.objs.size f cd)) (leaving (envOfC qual scope s.heap.objs.size f cd) e) (fun _ s''=>CX outer H s E e s'') (fun e' s''=>CX outer H s E e' s'') s'
theorem cell_has {sc:Scope} {n:Nat} {x:Str} (h:sc.names.lookup x=some .cell):∃ c,(cellsFrom n sc.names []).lookup x=some c:=by
 have q:=PySem.W.cellsFrom_some sc.names n [] (.inl h);exact Option.isSome_iff_exists.mp q
theorem inv_start {CX:CXT} {P:Program} {w:World} {K:Frag} {mg:Str->Option Value} {base:Heap} {N ps:List Str} {qual:Str} {scope:Scope} {f:Addr} {cd:Value} {A:Around} {outer:List Env} {s s1:Shared} {H:Hp} {E:XK} {us:List Value} {vs:List V}
  (S:FnScope N ps scope) (hd:A.handled=none) (e0:Env0 P w K mg base A outer s H) (hl:vs.length=ps.length) (r:Vals vs us)
  (x:InCallC s s.heap.objs.size (bindL (envOfC qual scope s.heap.objs.size f cd).kindOf (ps.zip us) fun _=>none) (cellsFrom (s.heap.objs.size + 1) scope.names []) (bindC (envOfC qual scope s.heap.objs.size f cd).kindOf (ps.zip us) fun _=>none) s1) :
  Inv (cxOf CX P w K mg base N qual scope f cd A outer s H E) [] (start N vs) H s1:=by
 have hpl:ps.length<=N.length:=by have:=congrArg List.length S.pre;rw [length_take] at this;lia
 obtain ⟨h1,tk,rfl,hk⟩:=x.done;have noA:∀ b:Addr,b ∉ (cxOf CX P w K mg base N qual scope f cd A outer s H E).ex:=fun b z=>absurd (show b∈([]:List Addr) from z) (by simp);refine ⟨⟨e0.mod,S.kind,rfl,rfl,Nat.le_refl _,fun y z c h1 h2=>?_,fun y hy=>?_,fun y c _ h=>?_,fun _=>hd,Around.frames_deeper e0.frames,.inr ⟨rfl,rfl⟩,fun b z=>absurd z (noA b),e0.bs,e0.bsz,fun b _ _=>noA b,fun b z=>absurd z (noA b),e0.funs,e0.frf⟩,
  rfl,e0.bare,Un.kept hk,⟨_,x.toInCall.ns,fun i y v h1 h2 h3=>?_⟩,fun y c h=>⟨_,x.cell y c h⟩,e0.hok.fresh (Nat.le_refl _),fun y c h=>?_,fun p hp=>absurd (show p∈([]:List (Addr × Obj)) from hp) (by simp),e0.hok.kept hk,?_⟩
 ·exact name_of_addr x.apart (mem_of_lookup h1) (mem_of_lookup h2)
 ·have hy:scope.names.lookup y=some .cell\/scope.names.lookup y=some .free:=hy;rcases hy with hy | hy
  ·exact cell_has hy
  ·exact absurd rfl (S.nofree _ (mem_of_lookup hy))
 ·exact Nat.le_of_lt (x.above y c (mem_of_lookup h))
 ·have hi:i < vs.length:=by
   unfold start at h2;by_cases hi:i < vs.length
   ·exact hi
   ·rw [List.getElem?_append_right (by simpa using hi)] at h2;rw [getElem?_replicate] at h2;split at h2 <;> cases h2
  have ha:vs[i]?=some v:=by
   unfold start at h2;rw [List.getElem?_append_left (by simpa using hi),getElem?_map] at h2
   cases e:vs[i]? with
   | none=>rw [e] at h2;cases h2
   | some a=>rw [e] at h2;cases h2;rfl
  obtain ⟨u,hu,rv⟩:=r.get ha;have hp:ps[i]?=some y:=by
   rw [<- S.pre,List.getElem?_take_of_lt (by lia)];exact h1
  have ndP:ps.Nodup:=by rw [<- S.pre];exact S.nd.sublist (List.take_sublist _ _)
  refine ⟨u,rv,?_⟩;rcases S.par y (List.mem_of_getElem? hp) with k | k
  ·exact .inl ⟨k,bindL_get ndP hp hu k⟩
  ·obtain ⟨c,e⟩:=cell_has (n:=s.heap.objs.size + 1) k;refine .inr ⟨.inl k,c,e,?_⟩;have q:=x.cell y c e;rw [bindC_get ndP hp hu (by show scope.names.lookup y≠_;rw [k];decide)] at q;exact q
 ·exact e0.hok.fresh (Nat.le_of_lt (x.above y c (mem_of_lookup h)))
 ·unfold start;show _=N.length;rw [length_append,length_map,length_replicate];lia
theorem fn_of {CX:CXT} {P:Program} {w:World} {K:Frag} {mg:Str->Option Value} {base:Heap} {k:Nat} {f:Addr} {name qual:Str} {params:Arguments} {body:List Stmt} {scope:Scope} {dV kV doc pm cdv ct oc:Value} {an od:Option Addr}
  {osl:Array (Option Value)} {N ps:List Str} {sp:Sp} (lk:K.lookup f=some ⟨oc,od,.func (fnOf name qual params body scope dV kV doc pm an cdv ct),osl⟩) (hcd:codeIn K cdv qual=true) (S:FnScope N ps scope)
  (len:∀ vs H Q E,sp vs H Q E->vs.length=ps.length)
  (hbody:∀ (A:Around) (outer:List Env) (s:Shared) (H:Hp) (vs:List V) (Q:VK) (E:XK),Room k (A.deeper (envOfC qual scope s.heap.objs.size f cdv))->sp vs H Q E->
   ∃ t,PSs (cxOf CX P w K mg base N qual scope f cdv A outer s H E) body t/\t { nx:=fun _ H'=>Q .non H',rt:=Q } (start N vs) H) :
  FnOk P w K mg base CX (k + 1) f (fnOf name qual params body scope dV kV doc pm an cdv ct) ps sp:=by
 refine ⟨len,fun A outer s H args us vs Q E hr e0 hb r hsp=>?_⟩;have hl:=len _ _ _ _ hsp;have KX:K.In s.heap:=e0.mod.kin.keeps fun b o e=>(e0.bs b o e).1;have lim:s.heap.NoLimit:=e0.mod.nolimit.keeps fun b o e=>(e0.bs b o e).1;have hkind:∀ y∈ps.zip us,scope.names.lookup y.1=some .local\/(scope.names.lookup y.1=some .cell/\((cellsFrom (s.heap.objs.size + 1) scope.names []).lookup y.1).isSome=true):=fun h9 hy=>by
  obtain ⟨n,v⟩:=h9;rcases S.par n (List.of_mem_zip hy).1 with q | q
  ·exact .inl q
  ·exact .inr ⟨q,PySem.W.cellsFrom_some _ _ _ (.inl q)⟩
 refine codeAny_call_function hr.depth (KX _ _ lk) rfl S.co S.gen rfl (PySem.W.codeRec_of KX hcd) (hb _ _ _ _ ?_);refine wpAny_newFunctionEnv_cells S.kind hkind fun env he s1 x=>?_;subst he;refine ⟨lim.keeps x.toInCall.keep,codeAny_func ?_⟩;obtain ⟨t,ht,hq⟩:=hbody A outer s H vs Q E (hr.deeper _) hsp;have I:Inv (cxOf CX P w K mg base N qual scope f cdv A outer s H E) [] (start N vs) H s1:=inv_start S hr.hd e0 hl r x;refine wpAny_mono (ht [] s1 (start N vs) H _ I hq) (fun fl s' hs=>?_) fun e s' hs=>hs;have fin:∀ {σ':St} {H':Hp} {v:V} {u:Value},Inv (cxOf CX P w K mg base N qual scope f cdv A outer s H E) [] σ' H' s'->RelV v u->Q v H'->CE outer P w H s Q u s' :=
  fun {σ' H' v u} J rv q=>⟨v,H',J.os,J.bare,J.base,J.hok,rv,q⟩
 cases fl with
 | ret u =>
  obtain ⟨v,σ',H',J,rv,q⟩:=hs;exact fin J rv q
 | next =>
  obtain ⟨σ',H',J,q⟩:=hs;exact fin (v:=V.non) (u:=Value.none) J rfl q
 | brk =>
  obtain ⟨_,_,_,q⟩:=hs;exact False.elim q
 | cont =>
  obtain ⟨_,_,_,q⟩:=hs;exact False.elim q
end L2
namespace L2
open PySem PySem.Spec PyProof.Rows
section
variable {X:Cx} {x:Str} {p pos:Pos} {e:Expr} {es:List Expr} {t:TA} {id T:String} {r:List V->Hp->VK->Prop}
def tCB (r:List V->Hp->VK->Prop) (t:TA):TE:=fun σ H Q=>t σ H fun vs H1=>r vs H1 Q
theorem Jn (hc:CallR X (.builtin id) r) (hg:Gl X x) (hm:X.mg x=none) (hv:bootBuiltins x=some (.builtin id)) (ha:PA X (e :: es) t) (hn:x≠"__name__":=by decide) (hdb:(x == ("__debug__":Str))=false:=by decide)
  (he:starEach (e :: es) X.env=(false,eval e X.env) :: starEach es X.env:=by rfl) (hpl:(backTo pos (starEach es X.env)).any (·.1)=false:=by rfl):PE X (.Call (.Name x p) (e :: es) [] pos) (tCB r t):=by
 intro pins s σ H Q I h;refine wpAny_Call_Name_kw (J7q I hg hm hv ?_ hn hdb);exact PyProof.Rows.callWith_builtin1 (thn (ha pos pins s σ H _ I h) fun us s1 h9=>by obtain ⟨vs,H1,I1,r1,q1⟩:=h9;exact hc pins s1 σ H1 vs us Q I1 r1 q1) he hpl
theorem Jo (hc:CallR X (.type T) r) (hg:Gl X x) (hm:X.mg x=none) (hv:bootBuiltins x=some (.type T)) (ha:PA X (e :: es) t) (hn:x≠"__name__":=by decide) (hdb:(x == ("__debug__":Str))=false:=by decide)
  (he:starEach (e :: es) X.env=(false,eval e X.env) :: starEach es X.env:=by rfl) (hpl:(backTo pos (starEach es X.env)).any (·.1)=false:=by rfl):PE X (.Call (.Name x p) (e :: es) [] pos) (tCB r t):=by
 intro pins s σ H Q I h;refine wpAny_Call_Name_kw (J7q I hg hm hv ?_ hn hdb);exact callWith_type1 (thn (ha pos pins s σ H _ I h) fun us s1 h9=>by obtain ⟨vs,H1,I1,r1,q1⟩:=h9;exact hc pins s1 σ H1 vs us Q I1 r1 q1) he hpl
end
end L2
namespace HT
open PySem PyProof.Rows
section
variable {prog:Program} {w:World} {A:Around} {E:Value->Shared->Prop} {s:Shared}
def sIx (n d:Nat):Option Int->Nat
 | none=>d
 | some v=>if v < 0 then (v + (n:Int)).toNat else min v.toNat n
theorem sIx_none (n d:Nat):sIx n d none=d:=rfl
theorem sIx_nat (n d k:Nat):sIx n d (some (k:Int))=min k n:=by
 show (if (k:Int) < 0 then ((k:Int) + (n:Int)).toNat else min (k:Int).toNat n)=min k n;rw [if_neg (by lia),Int.toNat_natCast]
theorem sIx_le (n d:Nat) (hd:d<=n) (o:Option Int):sIx n d o<=n:=by
 cases o with
 | none=>exact hd
 | some v =>
  show (if v < 0 then (v + (n:Int)).toNat else min v.toNat n)<=n;by_cases hv:v < 0
  ·rw [if_pos hv];lia
  ·rw [if_neg hv];exact Nat.min_le_right _ _
theorem clip_eq (v:Int) (n d:Nat):(if v < 0 then max (v + (n:Int)) 0 else min v (n:Int))=((sIx n d (some v):Nat):Int):=by
 show (if v < 0 then max (v + (n:Int)) 0 else min v (n:Int))=(((if v < 0 then (v + (n:Int)).toNat else min v.toNat n):Nat):Int);by_cases hv:v < 0
 ·simp only [if_pos hv];lia
 ·simp only [if_neg hv];lia
theorem adjust_gen (lo hi:Option Int) (n:Nat):Builtin.Slice.sliceAdjust lo hi 1 (n:Int)=(((sIx n 0 lo:Nat):Int),((sIx n n hi:Nat):Int)):=by
 have h1:¬ ((1:Int) < 0):=by lia
 unfold Builtin.Slice.sliceAdjust;simp only [h1,if_false];refine Prod.ext ?_ ?_
 ·cases lo with
  | none=>rfl
  | some v=>exact clip_eq v n 0
 ·cases hi with
  | none=>rfl
  | some v=>exact clip_eq v n n
theorem places_gen (i j:Nat):Builtin.Slice.slicePlaces (i:Int) (j:Int) 1=j - i:=by
 unfold Builtin.Slice.slicePlaces;have h1:(1:Int) > 0:=by lia
 simp only [h1,if_true,Int.ediv_one];split <;> lia
theorem J6m {v:Value} {o:Option Int} {Q:Option Int->Shared->Prop} (p:IsPart v o) (h:Q o s):wpAny (model prog w) A (Builtin.Slice.slicePartIndex v) Q E s:=by
 cases p with
 | none=>exact slicePart_none h
 | int i t=>exact slicePart_int h
theorem J4f {sl:Addr} {vl vu:Value} {lo hi:Option Int} {n:Nat} {Q:Int × Int × Nat->Shared->Prop} (hs:s.heap.IsSliceOf sl vl vu .none) (pl:IsPart vl lo) (pu:IsPart vu hi)
  (h:Q (((sIx n 0 lo:Nat):Int),1,sIx n n hi - sIx n 0 lo) s):wpAny (model prog w) A (Builtin.Slice.sliceApplied (.ref sl) (pure (n:Int))) Q E s:=by
 obtain ⟨os,hos,hcs,hds⟩:=id hs;unfold Builtin.Slice.sliceApplied Builtin.Slice.sliceFields;refine wpAny_bind (wpAny_bind (wpAny_field hos hds (x:=vl) rfl (wpAny_bind (wpAny_field hos hds (x:=vu) rfl (wpAny_bind (wpAny_field hos hds (x:=.none) rfl (wpAny_pure ?_)))))));refine wpAny_bind (slicePart_none ?_);show wpAny _ _ (if ((1:Int) == 0)=true then _ else _) _ _ s;rw [if_neg (by decide)];refine wpAny_bind (J6m pl (wpAny_bind (J6m pu (wpAny_bind (wpAny_pure ?_)))));show wpAny _ _ (match Builtin.Slice.sliceAdjust lo hi 1 (n:Int) with | (lo,hi)=>pure (lo,(1:Int),Builtin.Slice.slicePlaces lo hi 1)) _ _ s;rw [adjust_gen lo hi n];show wpAny _ _ (pure (((sIx n 0 lo:Nat):Int),(1:Int),Builtin.Slice.slicePlaces ((sIx n 0 lo:Nat):Int) ((sIx n n hi:Nat):Int) 1)) _ _ s;rw [places_gen];exact wpAny_pure h
theorem pick_gen (xs:Array Value) (i k:Nat):((List.range k).filterMap fun (m:Nat)=>xs[((i:Int) + (m:Int) * 1).toNat]?).toArray=((xs.toList.drop i).take k).toArray:=by
 have e:(fun (m:Nat)=>xs[((i:Int) + (m:Int) * 1).toNat]?)=fun m=>xs[i + m]?:=by
  funext m
  have:((i:Int) + (m:Int) * 1).toNat=i + m:=by lia
  rw [this]
 rw [e];have:=pick_run xs i k;rw [List.filterMap_map] at this;have e2:((fun x=>xs[x]?) ∘ fun x=>i + x)=fun m=>xs[i + m]?:=rfl;rw [e2] at this;rw [this]
theorem getItem_tuple_cut {t sl:Addr} {items:Array Value} {vl vu:Value} {lo hi:Option Int} {Q:Value->Shared->Prop} (ht:IsTup s.heap t items) (hs:s.heap.IsSliceOf sl vl vu .none) (pl:IsPart vl lo) (pu:IsPart vu hi)
  (hw:¬ (sIx items.size 0 lo=0/\sIx items.size items.size hi=items.size))
  (h:Q (.ref s.heap.objs.size) { s with heap:=s.heap.push { cls:=.type "tuple",data:=.seq ((items.toList.drop (sIx items.size 0 lo)).take (sIx items.size items.size hi - sIx items.size 0 lo)).toArray } })
  (hsz:items.size<=sizeLine):wpAny (model prog w) A (getItem (.ref t) (.ref sl)) Q E s:=by
 have htake:sizeOk (.seq ((items.toList.drop (sIx items.size 0 lo)).take (sIx items.size items.size hi - sIx items.size 0 lo)).toArray):=by
  show ((items.toList.drop (sIx items.size 0 lo)).take (sIx items.size items.size hi - sIx items.size 0 lo)).toArray.size<=sizeLine;rw [size_toArray,length_take,length_drop,length_toList];lia
 have hj:sIx items.size items.size hi<=items.size:=sIx_le _ _ (Nat.le_refl _) hi;obtain ⟨os,hos,hcs,hds⟩:=id hs;have hTs:s.TypeIs (.ref sl) "slice":=⟨os,hos,hcs⟩;unfold getItem
 try with_reducible refine wpAny_holding ?_
 first | refine wpAny_bind (wpAny_pure ?_) | skip
 refine wpAny_bind (wpAny_sequenceKey ht.typeIs (by decide) ?_);refine wpAny_bind (wpAny_callSpecial?_slot (name:=Str.ofString "__getitem__") ht.typeIs PyProof.Rows.slot_tuple_getitem
  (wpAny_call_entry PyProof.Rows.slot_tuple_getitem ht.typeIs entry_tuple_getitem ?_ (args_tuple_getitem _ _)))
 show wpAny _ _ (Builtin.Tuple.tupleItemsOf (.ref t) >>= _) _ _ s;refine wpAny_bind (tupleItemsOf_ ht ?_);refine wpAny_bind (wpAny_typeOf hTs ?_);rw [if_pos (by decide)];refine wpAny_bind (J4f hs pl pu ?_);have hno:¬ ((((sIx items.size 0 lo:Nat):Int) == 0 && (1:Int) == 1 && (sIx items.size items.size hi - sIx items.size 0 lo) == items.size)=true):=by
  intro q;rw [Bool.and_eq_true,Bool.and_eq_true] at q;have q1:((sIx items.size 0 lo:Nat):Int)=0:=eq_of_beq q.1.1;have q2:sIx items.size items.size hi - sIx items.size 0 lo=items.size:=eq_of_beq q.2;exact hw ⟨by lia,by lia⟩
 show wpAny _ _ (if (((sIx items.size 0 lo:Nat):Int) == 0 && (1:Int) == 1 && (sIx items.size items.size hi - sIx items.size 0 lo) == items.size)=true then _ else _) _ _ s;rw [if_neg hno,pick_gen]
 first
  | exact wpAny_bind (m:=Builtin.Tuple.tupleExact _) (wpAny_newObj_type (wpAny_pure ⟨_,rfl,wpAny_pure h⟩) htake)
  | exact wpAny_bind (m:=Builtin.Tuple.tupleExact _) (wpAny_newObj_type (wpAny_bind (wpAny_pure (wpAny_pure ⟨_,rfl,wpAny_pure h⟩))) htake)
  | exact wpAny_bind (wpAny_bind (m:=Builtin.Tuple.tupleExact _) (wpAny_newObj_type (wpAny_pure (wpAny_pure ⟨_,rfl,wpAny_pure h⟩)) htake))
  | exact wpAny_bind (wpAny_bind (m:=Builtin.Tuple.tupleExact _) (wpAny_newObj_type (wpAny_pure ⟨_,rfl,wpAny_pure h⟩) htake))
end
end HT
namespace L2
open PySem PySem.Spec PyProof.Rows
abbrev TO:=St->Hp->(Option Int->Hp->Prop)->Prop
def PO (X:Cx) (e:Option Expr) (t:TO):Prop :=
 ∀ (pins:List (Addr × Obj)) (s:Shared) (σ:St) (H:Hp) (Q:Option Int->Hp->Prop),Inv X pins σ H s->t σ H Q->
  wpAny (model X.prog X.w) X.A (evalPart e X.env) (fun u s'=>∃ o H',Inv X pins σ H' s'/\IsPart u o/\Q o H') X.xe s
def tNoPart:TO:=fun _ H Q=>Q none H
def tPart (t:TE):TO:=fun σ H Q=>t σ H fun x H1=>∃ i,x=.int i/\Q (some i) H1
theorem J1z {ns:List Int}:∀ {us:List Value},Vals (ns.map V.int) us->IntsAre us ns:=by
 induction ns with
 | nil=>intro us r;rw [map_nil] at r;cases r;exact .nil
 | cons n ns ih =>
  intro us r;rw [map_cons] at r
  cases r with
  | cons r1 r2 =>
   obtain ⟨t,e⟩:=r1;subst e;exact .cons n t (ih r2)
section
variable {X:Cx} {e:Expr} {te:TE} {lo hi:Option Expr} {tl th:TO} {pos p2:Pos}
theorem po_none:PO X none tNoPart:=by
 intro pins s σ H Q I h;rw [evalPart_none];exact wpAny_pure ⟨none,H,I,.none,h⟩
theorem po_some (h:PE X e te):PO X (some e) (tPart te):=by
 intro pins s σ H Q I hw;rw [evalPart_some];refine thn (h pins s σ H _ I hw) fun u s1 h9=>?_;obtain ⟨x,H1,I1,r1,q1⟩:=h9;obtain ⟨i,rfl,q⟩:=q1;obtain ⟨t,rfl⟩:=r1;exact ⟨some i,H1,I1,.int i t,q⟩
def SlR (X:Cx) (r:V->Option Int->Option Int->Hp->VK->Prop):Prop :=
 ∀ (pins:List (Addr × Obj)) (s:Shared) (σ:St) (H:Hp) (x:V) (v vl vu:Value) (lo hi:Option Int) (sl:Addr) (Q:VK),Inv X pins σ H s->RelV x v->s.heap.IsSliceOf sl vl vu .none->IsPart vl lo->IsPart vu hi->r x lo hi H Q->
  ∃ T id,typeLookup (.type T) "__getitem__"=pure (some (.builtin id))/\s.TypeIs v T/\wpAny (model X.prog X.w) X.A (getItem v (.ref sl)) (EP X pins σ Q) X.xe s
def tSl (r:V->Option Int->Option Int->Hp->VK->Prop) (te:TE) (tl th:TO):TE:=fun σ H Q=>te σ H fun x H1=>tl σ H1 fun l H2=>th σ H2 fun u H3=>r x l u H3 Q
theorem J7m {r:V->Option Int->Option Int->Hp->VK->Prop} (hr:SlR X r) (he:PE X e te) (hl:PO X lo tl) (hu:PO X hi th):PE X (.Subscript e (.Slice lo hi none p2) pos) (tSl r te tl th):=by
 intro pins s σ H Q I h;refine Subscript_ (thn (he pins s σ H _ I h) fun v s1 h9=>?_);obtain ⟨x,H1,I1,r1,q1⟩:=h9;refine wpAny_Slice (thn (hl pins s1 σ H1 _ I1 q1) fun vl s2 h9=>?_);obtain ⟨l,H2,I2,pl,q2⟩:=h9;refine thn (hu pins s2 σ H2 _ I2 q2) fun vu s3 h9=>?_;obtain ⟨u,H3,I3,pu,q3⟩:=h9;rw [evalPart_none];refine wpAny_pure ?_;have I4:Inv X pins σ H3 { s3 with heap:=s3.heap.push { cls:=.type "slice",data:=.fields #[vl,vu,.none] } }:=I3.kept (t':=s3.toks) fun b ob q=>get?_push_of_some _ q;obtain ⟨T,id,hT,ht,hg⟩:=hr pins { s3 with heap:=s3.heap.push { cls:=.type "slice",data:=.fields #[vl,vu,.none] } } σ H3 x v vl vu l u s3.heap.objs.size Q I4 r1 (Heap.IsSliceOf.new ..) pl pu q3;show wpAny (model X.prog X.w) X.A (subscriptTail e (.Slice lo hi none p2) v (.ref s3.heap.objs.size)) (EP X pins σ Q) X.xe { s3 with heap:=s3.heap.push { cls:=.type "slice",data:=.fields #[vl,vu,.none] } };exact tail_any (ops:=[.ref s3.heap.objs.size,v]) ht hT hg (by with_unfolding_all rfl)
def cutV (xs:List V) (lo hi:Option Int):List V:=(xs.drop (HT.sIx xs.length 0 lo)).take (HT.sIx xs.length xs.length hi - HT.sIx xs.length 0 lo)
theorem J5e (xs:List V) (lo hi:Option Int):(cutV xs lo hi).length<=xs.length:=by
 unfold cutV;rw [length_take,length_drop];lia
def rSlT (K:Frag):V->Option Int->Option Int->Hp->VK->Prop:=fun x lo hi H Q=>∃ a xs,x=.ref a/\SqT K H a xs/\
 ¬ (HT.sIx xs.length 0 lo=0/\HT.sIx xs.length xs.length hi=xs.length)/\∀ p,H p=none->Q (.ref p) (upd H p (.tup (cutV xs lo hi)))
theorem sl_tup:SlR X (rSlT X.K):=by
 intro pins s σ H x v vl vu lo hi sl Q I rx hs pl pu h;obtain ⟨a,xs,rfl,hx,hw,q⟩:=h;cases rx;obtain ⟨its,r,ht,hz⟩:=I.tuple hx;have hlen:its.toArray.size=xs.length:=by rw [size_toArray];exact r.length.symm
 refine ⟨"tuple",_,PyProof.Rows.slot_tuple_getitem.lookup,ht.typeIs,?_⟩;refine HT.getItem_tuple_cut ht hs pl pu (by rw [hlen];exact hw) ?_ (by rw [hlen];exact hz);rw [hlen];refine ⟨.ref s.heap.objs.size,_,I.laid (t':=s.toks) (o:=.tup (cutV xs lo hi)) (fun b ob q=>get?_push_of_some _ q) (Nat.le_refl _) ?_,rfl,q _ (I.hok.fresh (Nat.le_refl _))⟩;exact ⟨Nat.le_trans (J5e xs lo hi) hz,_,(r.drop (HT.sIx xs.length 0 lo)).take (HT.sIx xs.length xs.length hi - HT.sIx xs.length 0 lo),TupX.new _ _⟩
end
end L2
namespace L2
open PySem PySem.Spec PyProof.Rows
def ixN (n:Nat) (i:Int):Option Nat:=if 0<=i then (if i < n then some i.toNat else none) else if -(n:Int)<=i then some (i + n).toNat else none
def atI {α:Type} (xs:List α) (i:Int):Option α:=(ixN xs.length i).bind fun j=>xs[j]?
theorem ixN_seq {n:Nat} {i:Int} {j:Nat} (h:ixN n i=some j):seqIndex? i n=some j/\j < n/\-(n:Int)<=i/\i < n:=by
 unfold ixN at h;by_cases h0:0<=i
 ·rw [if_pos h0] at h;by_cases h1:i < n
  ·rw [if_pos h1] at h;have e:i.toNat=j:=Option.some.inj h;exact ⟨by rw [seqIndex_of h0 h1,e],by lia,by lia,h1⟩
  ·rw [if_neg h1] at h;cases h
 ·rw [if_neg h0] at h;by_cases h1:-(n:Int)<=i
  ·rw [if_pos h1] at h;have e:(i + n).toNat=j:=Option.some.inj h;exact ⟨by rw [seqIndex_neg (by lia) h1,e],by lia,h1,by lia⟩
  ·rw [if_neg h1] at h;cases h
theorem atI_get {α:Type} {xs:List α} {i:Int} {v:α} (h:atI xs i=some v):∃ j,seqIndex? i xs.length=some j/\xs[j]?=some v/\j < xs.length/\-(xs.length:Int)<=i/\i < xs.length:=by
 unfold atI at h
 cases e:ixN xs.length i with
 | none=>rw [e] at h;cases h
 | some j =>
  rw [e] at h;obtain ⟨h1,h2,h3,h4⟩:=ixN_seq e;exact ⟨j,h1,h,h2,h3,h4⟩
theorem J8 {α:Type} {xs:List α} {j:Nat} {v:α} (h:xs[j]?=some v):atI xs (j:Int)=some v:=by
 have hj:j < xs.length:=(List.getElem?_eq_some_iff.mp h).1;have e:ixN xs.length (j:Int)=some j:=by
  unfold ixN;rw [if_pos (by lia),if_pos (by lia)];simp
 unfold atI;rw [e];exact h
theorem atI_last {α:Type} (xs:List α) (v:α):atI (xs ++ [v]) (-1)=some v:=by
 have hl:(xs ++ [v]).length=xs.length + 1:=by simp
 have e:ixN (xs ++ [v]).length (-1)=some xs.length:=by
  unfold ixN;rw [hl,if_neg (by decide),if_pos (by lia)]
  congr 1
  lia
 unfold atI;rw [e];show (xs ++ [v])[xs.length]?=some v;simp
def PlainIx (b:Expr):Prop:=∀ o i,subscripted b false o i=operate [o,i] (getItem o i)
def IxR (X:Cx) (r:R2):Prop :=
 ∀ (value slice:Expr) (pins:List (Addr × Obj)) (s:Shared) (σ:St) (H:Hp) (x y:V) (v u:Value) (Q:VK),Inv X pins σ H s->RelV x v->RelV y u->r x y H Q->
  subscripted slice false v u=operate [v,u] (getItem v u)->wpAny (model X.prog X.w) X.A (subscriptTail value slice v u) (EP X pins σ Q) X.xe s
def MtR (X:Cx) (id:String) (r:V->List V->Hp->VK->Prop):Prop :=
 ∀ (pins:List (Addr × Obj)) (s:Shared) (σ:St) (H:Hp) (x:V) (xs:List V) (v:Value) (us:List Value) (Q:VK),Inv X pins σ H s->RelV x v->Vals xs us->r x xs H Q->
  wpAny (model X.prog X.w) X.A (call (.builtin id) (v :: us)) (EP X pins σ Q) X.xe s
section
variable {X:Cx} {a b:Expr} {ta tb:TE} {pos:Pos}
theorem pe_ix {r:R2} (hr:IxR X r) (ha:PE X a ta) (hb:PE X b tb) (hs:PlainIx b):PE X (.Subscript a b pos) (tOp r ta tb):=by
 intro pins s σ H Q I h;exact Subscript_ (binT ha hb I h fun v u s2 x y H2 I2 rx ry q=>hr a b pins s2 σ H2 x y v u Q I2 rx ry q (hs _ _))
def rIxL (K:Frag):R2:=fun x y H Q=>∃ p xs i v,x=.ref p/\y=.int i/\SqL K H p xs/\atI xs i=some v/\Q v H
def rIxT (K:Frag):R2:=fun x y H Q=>∃ p xs i v,x=.ref p/\y=.int i/\SqT K H p xs/\atI xs i=some v/\Q v H
theorem J27:IxR X (rIxL X.K):=by
 intro value slice pins s σ H x y v u Q I rx ry h hs;obtain ⟨p,xs,i,z,rfl,rfl,hq,he,q⟩:=h;cases rx;obtain ⟨t,rfl⟩:=ry;obtain ⟨its,r,pl,hz⟩:=I.list hq;obtain ⟨j,h1,h2,h3,h4,h5⟩:=atI_get he;obtain ⟨w,ew,rw'⟩:=r.get h2;have hl:=r.length;have hn:=line63;have fin:EP X pins σ Q w s:=⟨z,H,I,rw',q⟩;by_cases h0:0<=i
 ·have hj:i.toNat=j:=by
   rw [seqIndex_of h0 h5] at h1;exact Option.some.inj h1
  exact item_listR pl.isList h0 (by lia) (by rw [hj];simpa using ew) fin hs
 ·have hj:(i + (its.toArray.size:Int)).toNat=j:=by
   rw [seqIndex_neg (by lia) h4] at h1;rw [size_toArray,<- hl];exact Option.some.inj h1
  exact subscriptTail_builtinR (x:=w) pl.isList.typeIs slot_list_getitem.lookup
   (wpAny_getItem_list_neg (Q:=fun r s'=>r=w/\EP X pins σ Q r s') pl.isList (by lia) (by rw [size_toArray] <;> lia) (by lia) (by rw [hj];simpa using ew) ⟨rfl,fin⟩) hs
theorem Ji:IxR X (rIxT X.K):=by
 intro value slice pins s σ H x y v u Q I rx ry h hs;obtain ⟨p,xs,i,z,rfl,rfl,hq,he,q⟩:=h;cases rx;obtain ⟨t,rfl⟩:=ry;obtain ⟨its,r,pl,hz⟩:=I.tuple hq;obtain ⟨j,h1,h2,h3,h4,h5⟩:=atI_get he;obtain ⟨w,ew,rw'⟩:=r.get h2;have hl:=r.length;have hn:=line63;have fin:EP X pins σ Q w s:=⟨z,H,I,rw',q⟩;exact subscriptTail_builtinR (x:=w) pl.typeIs slot_tuple_getitem.lookup
  (getItem_tuple (j:=j) (Q:=fun r s'=>r=w/\EP X pins σ Q r s') pl (by lia) (by lia) (by rw [size_toArray,<- hl];exact h1) (by simpa using ew) ⟨rfl,fin⟩) hs
theorem mapSeq_set (its:List Value) (n j:Nat) (u:Value):Obj.mapSeq (·.setIfInBounds j u) { cls:=.type "list",data:=.seq its.toArray n }={ cls:=.type "list",data:=.seq (its.set j u).toArray n }:=by
 simp [Obj.mapSeq]
theorem Inv.lst {pins:List (Addr × Obj)} {σ:St} {H:Hp} {s:Shared} {p:Addr} {xs:List V} (I:Inv X pins σ H s) (h:H p=some (.lst xs)) :
  ∃ (its:List Value) (n:Nat),Vals xs its/\s.heap.get? p=some { cls:=.type "list",data:=.seq its.toArray n }/\xs.length<=sizeLine:=by
 obtain ⟨z,its,n,r,e⟩:=I.hok p _ h;exact ⟨its,n,r,e,z⟩
theorem Inv.lstUpd {pins:List (Addr × Obj)} {σ:St} {H:Hp} {s:Shared} {p:Addr} {xs ys:List V} {its its':List Value} {n n':Nat} {f:Obj->Obj} (I:Inv X pins σ H s) (h:H p=some (.lst xs))
  (ho:s.heap.get? p=some { cls:=.type "list",data:=.seq its.toArray n }) (hf:f { cls:=.type "list",data:=.seq its.toArray n }={ cls:=.type "list",data:=.seq its'.toArray n' }) (r:Vals ys its') (hz:ys.length<=sizeLine) (t:Nat) :
  Inv X pins σ (upd H p (.lst ys)) { s with heap:=s.heap.update p f,toks:=t }:=by
 have e:(s.heap.update p f).get? p=some { cls:=.type "list",data:=.seq its'.toArray n' }:=by
  rw [Heap.get?_update_self f ho (by rw [hf] <;> rfl),hf]
 refine I.write (x:=p) (e:=p) (by rw [h];trivial) (.inl rfl) (fun b u hb q=>(Heap.get?_update_other _ _ (Ne.symm hb)).trans q) ⟨_,e⟩ ?_;exact ⟨hz,its',n',r,e⟩
def rSetL:V->V->V->Hp->(Hp->Prop)->Prop:=fun o i v H Q=>∃ p xs k j,o=.ref p/\i=.int k/\H p=some (.lst xs)/\ixN xs.length k=some j/\Q (upd H p (.lst (xs.set j v)))
theorem J3n:PSet X rSetL:=by
 intro pins s σ H o i v ov iv u Q I ro ri rv h;obtain ⟨p,xs,k,j,rfl,rfl,hp,hj,q⟩:=h;cases ro;obtain ⟨t,rfl⟩:=ri;obtain ⟨its,n,r,ho,hz⟩:=I.lst hp;obtain ⟨h1,h2,h3,h4⟩:=ixN_seq hj;have hl:=r.length;have hn:=line63;have I':Inv X pins σ (upd H p (.lst (xs.set j v))) { s with heap:=s.heap.update p (Obj.mapSeq (·.setIfInBounds j u)) } :=
  I.lstUpd hp ho (mapSeq_set its n j u) (r.set rv j) (by rw [length_set];exact hz) s.toks
 by_cases h0:0<=k
 ·have hk:k.toNat=j:=by
   rw [seqIndex_of h0 h4] at h1;exact Option.some.inj h1
  exact PySem.W.ki_setAt ho h0 (by lia) (by rw [size_toArray,<- hl];exact h4) (by rw [hk];exact ⟨_,I',q⟩)
 ·have hk:(k + (its.toArray.size:Int)).toNat=j:=by
   rw [seqIndex_neg (by lia) h3] at h1;rw [size_toArray,<- hl];exact Option.some.inj h1
  exact PySem.W.ki_setBack ho (by lia) (by rw [size_toArray,<- hl];exact h3) (by lia) (by rw [hk];exact ⟨_,I',q⟩)
theorem J7c (lo hi:Option Int) (n:Nat):(sliceBounds lo hi none n).1=((HT.sIx n 0 lo:Nat):Int)/\(sliceBounds lo hi none n).2.1=((HT.sIx n n hi:Nat):Int)/\(sliceBounds lo hi none n).2.2=1:=by
 refine ⟨?_,?_,rfl⟩
 ·cases lo with
  | none=>simp [sliceBounds,HT.sIx]
  | some i =>
   simp only [sliceBounds,HT.sIx,Option.getD_none,show (1:Int) > 0 by decide,if_true];by_cases h:i < 0
   ·simp only [h,if_true] <;> lia
   ·simp only [h,if_false] <;> lia
 ·cases hi with
  | none=>simp [sliceBounds,HT.sIx]
  | some i =>
   simp only [sliceBounds,HT.sIx,Option.getD_none,show (1:Int) > 0 by decide,if_true];by_cases h:i < 0
   ·simp only [h,if_true] <;> lia
   ·simp only [h,if_false] <;> lia
theorem J6l (its:List Value) (lo hi:Option Int):slicePick its.toArray lo hi none=((its.drop (HT.sIx its.length 0 lo)).take (HT.sIx its.length its.length hi - HT.sIx its.length 0 lo)).toArray:=by
 obtain ⟨h1,h2,h3⟩:=J7c lo hi its.toArray.size;unfold slicePick;rw [h1,h2,h3];simp only [sliceRange_one,pick_run,size_toArray] <;> rfl
def rSlL (K:Frag):V->Option Int->Option Int->Hp->VK->Prop:=fun x lo hi H Q=>∃ a xs,x=.ref a/\SqL K H a xs/\∀ p,H p=none->Q (.ref p) (upd H p (.lst (cutV xs lo hi)))
theorem sl_list:SlR X (rSlL X.K):=by
 intro pins s σ H x v vl vu lo hi sl Q I rx hs pl pu h;obtain ⟨a,xs,rfl,hx,q⟩:=h;cases rx;obtain ⟨its,r,ht,hz⟩:=I.list hx;have hlen:=r.length;refine ⟨"list",_,slot_list_getitem.lookup,ht.isList.typeIs,?_⟩;refine wpAny_getItem_list_slice ht.isList hs pl pu .none (by simp) ?_ (by rw [size_toArray] <;> lia);rw [J6l,<- hlen];refine ⟨.ref s.heap.objs.size,_,I.laid (t':=s.toks) (o:=.lst (cutV xs lo hi)) (fun b ob q=>get?_push_of_some _ q) (Nat.le_refl _) ?_,rfl,q _ (I.hok.fresh (Nat.le_refl _))⟩;exact ⟨Nat.le_trans (J5e xs lo hi) hz,_,0,(r.drop (HT.sIx xs.length 0 lo)).take (HT.sIx xs.length xs.length hi - HT.sIx xs.length 0 lo),get?_push_size _ rfl⟩
def flatV:V->Bool
 | .non=>true
 | .bl _=>true
 | .int _=>true
 | .str _=>true
 | _=>false
def eqV:V->V->Bool
 | .non,.non=>true
 | .bl a,.bl b=>a == b
 | .bl a,.int b=>(if a then 1 else 0) == b
 | .int a,.bl b=>a == (if b then 1 else 0)
 | .int a,.int b=>a == b
 | .str a,.str b=>a == b
 | _,_=>false
theorem eqAt_V {A:Around} {s:Shared} {y x:V} {u v:Value} (ry:RelV y u) (rx:RelV x v) (fy:flatV y=true) (fx:flatV x=true):SeqAt.EqAt A s u v (eqV y x):=by
 cases y with
 | non =>
  cases ry
  cases x with
  | non=>cases rx;exact SeqAt.EqAt.same _
  | bl b=>cases rx;exact SeqAt.EqAt.none_bool b
  | int b=>obtain ⟨t,rfl⟩:=rx;exact SeqAt.EqAt.none_int b t
  | str b=>obtain ⟨t,rfl⟩:=rx;exact SeqAt.EqAt.none_str b t
  | _=>exact absurd (show false=true from fx) Bool.false_ne_true
 | bl a =>
  cases ry
  cases x with
  | non=>cases rx;exact SeqAt.EqAt.bool_none a
  | bl b=>cases rx;exact SeqAt.EqAt.bool_bool a b
  | int b=>obtain ⟨t,rfl⟩:=rx;exact SeqAt.EqAt.bool_int a b t
  | str b=>obtain ⟨t,rfl⟩:=rx;exact SeqAt.EqAt.bool_str a b t
  | _=>exact absurd (show false=true from fx) Bool.false_ne_true
 | int a =>
  obtain ⟨t',rfl⟩:=ry
  cases x with
  | non=>cases rx;exact SeqAt.EqAt.int_none a t'
  | bl b=>cases rx;exact SeqAt.EqAt.int_bool a t' b
  | int b=>obtain ⟨t,rfl⟩:=rx;exact SeqAt.EqAt.int_int a t' b t
  | str b=>obtain ⟨t,rfl⟩:=rx;exact SeqAt.EqAt.int_str a t' b t
  | _=>exact absurd (show false=true from fx) Bool.false_ne_true
 | str a =>
  obtain ⟨t',rfl⟩:=ry
  cases x with
  | non=>cases rx;exact SeqAt.EqAt.str_none a t'
  | bl b=>cases rx;exact SeqAt.EqAt.str_bool a t' b
  | int b=>obtain ⟨t,rfl⟩:=rx;exact SeqAt.EqAt.str_int a t' b t
  | str b=>obtain ⟨t,rfl⟩:=rx;exact SeqAt.EqAt.str_str a t' b t
  | _=>exact absurd (show false=true from fx) Bool.false_ne_true
 | _=>exact absurd (show false=true from fy) Bool.false_ne_true
def eqU (x:V) (u:Value):Bool:=match u with
 | .none=>eqV .non x
 | .bool b=>eqV (.bl b) x
 | .int i _=>eqV (.int i) x
 | .str z _=>eqV (.str z) x
 | _=>false
theorem eqU_of {x y:V} {u:Value} (r:RelV y u) (f:flatV y=true):eqU x u=eqV y x:=by
 cases y with
 | non=>cases r;rfl
 | bl b=>cases r;rfl
 | int i=>obtain ⟨t,rfl⟩:=r;rfl
 | str z=>obtain ⟨t,rfl⟩:=r;rfl
 | _=>exact absurd (show false=true from f) Bool.false_ne_true
theorem J74 {x:V}:∀ {xs:List V} {us:List Value},Vals xs us->xs.all flatV=true->us.any (eqU x)=xs.any fun y=>eqV y x
 | _,_,.nil,_=>rfl
 | y :: xs,u :: us,.cons r t,f=>by
  rw [List.all_cons,Bool.and_eq_true] at f;rw [List.any_cons,List.any_cons,eqU_of r f.1,J74 t f.2]
theorem J4l {A:Around} {s:Shared} {x:V} {v:Value} (rx:RelV x v) (fx:flatV x=true):∀ {xs:List V} {us:List Value},Vals xs us->xs.all flatV=true->∀ u∈us,SeqAt.EqAt A s u v (eqU x u)
 | _,_,.nil,_=>fun u hu=>by cases hu
 | y :: xs,u :: us,.cons r t,f=>fun u' hu=>by
  rw [List.all_cons,Bool.and_eq_true] at f;rcases mem_cons.mp hu with rfl | hu
  ·rw [eqU_of r f.1];exact eqAt_V r rx f.1 fx
  ·exact J4l rx fx t f.2 u' hu
def inV (x:V) (xs:List V):Bool:=xs.any fun y=>eqV y x
def rIn (K:Frag) (neg:Bool):R2:=fun x y H Q=>∃ p xs,y=.ref p/\(SqL K H p xs\/SqT K H p xs)/\flatV x=true/\xs.all flatV=true/\Q (.bl (if neg then !inV x xs else inV x xs)) H
theorem op_in_seq:OpR X (compareOp .In) (rIn X.K false):=by
 intro pins s σ H x y v u Q I rx ry h;obtain ⟨p,xs,rfl,hq,fx,fs,q⟩:=h;cases ry;rcases hq with hq | hq
 ·obtain ⟨its,r,pl,hz⟩:=I.list hq;refine SeqAt.in_listAt (eqU x) pl.isList (fun w hw=>J4l rx fx r fs w (by simpa using hw)) ⟨.bl _,H,I,rfl,?_⟩;rw [show its.toArray.any (eqU x)=its.any (eqU x) by simp,J74 r fs];exact q
 ·obtain ⟨its,r,pl,hz⟩:=I.tuple hq;refine SeqAt.in_tupleAt (eqU x) pl (fun w hw=>J4l rx fx r fs w (by simpa using hw)) ⟨.bl _,H,I,rfl,?_⟩;rw [show its.toArray.any (eqU x)=its.any (eqU x) by simp,J74 r fs];exact q
theorem J4j:OpR X (compareOp .NotIn) (rIn X.K true):=by
 intro pins s σ H x y v u Q I rx ry h;obtain ⟨p,xs,rfl,hq,fx,fs,q⟩:=h;cases ry;rcases hq with hq | hq
 ·obtain ⟨its,r,pl,hz⟩:=I.list hq;refine SeqAt.notIn_listAt (eqU x) pl.isList (fun w hw=>J4l rx fx r fs w (by simpa using hw)) ⟨.bl _,H,I,rfl,?_⟩;rw [show its.toArray.any (eqU x)=its.any (eqU x) by simp,J74 r fs];exact q
 ·obtain ⟨its,r,pl,hz⟩:=I.tuple hq;refine SeqAt.notIn_tupleAt (eqU x) pl (fun w hw=>J4l rx fx r fs w (by simpa using hw)) ⟨.bl _,H,I,rfl,?_⟩;rw [show its.toArray.any (eqU x)=its.any (eqU x) by simp,J74 r fs];exact q
theorem Jk:CallR X (.builtin "len") (fun xs H Q=>∃ p ys,xs=[.ref p]/\(SqL X.K H p ys\/SqT X.K H p ys)/\Q (.int ys.length) H):=by
 intro pins s σ H xs us Q I r h;obtain ⟨p,ys,rfl,hq,q⟩:=h;obtain ⟨u,rfl,rx⟩:=vals1 r;cases rx;have hn:=line63;rcases hq with hq | hq
 ·obtain ⟨its,r',pl,hz⟩:=I.list hq;have hlen:=r'.length;exact Calls.call_len_list pl.isList (by simp only [size_toArray] <;> lia) ⟨.int ys.length,H,I.tok _,⟨s.toks + 1,by rw [size_toArray,hlen]⟩,q⟩
 ·obtain ⟨its,r',pl,hz⟩:=I.tuple hq;have hlen:=r'.length;exact len_tuple pl (by simp only [size_toArray] <;> lia) ⟨.int ys.length,H,I.tok _,⟨s.toks + 1,by rw [size_toArray,hlen]⟩,q⟩
theorem J1u:CallR X (.type "list") (fun xs H Q=>∃ p ys,xs=[.ref p]/\(SqL X.K H p ys\/SqT X.K H p ys)/\∀ l,H l=none->Q (.ref l) (upd H l (.lst ys))):=by
 intro pins s σ H xs us Q I r h;obtain ⟨p,ys,rfl,hq,q⟩:=h;obtain ⟨u,rfl,rx⟩:=vals1 r;cases rx;have fin:∀ (its:List Value),Vals ys its->ys.length<=sizeLine->∀ (h':Heap) (c':Nat),(∀ b o',s.heap.get? b=some o'->h'.get? b=some o')->
   h'.get? s.heap.objs.size=some { cls:=.type "list",dict:=none,data:=.seq its.toArray c',slots:=#[] }->EP X pins σ Q (.ref s.heap.objs.size) { s with heap:=h' }:=fun its r' hz h' c' kp e =>
  ⟨.ref s.heap.objs.size,_,I.laid (t':=s.toks) kp (Nat.le_refl _) (show ObjOk X.prog X.w _ h' _ (.lst ys) from ⟨hz,its,c',r',e⟩),rfl,q _ (I.hok.fresh (Nat.le_refl _))⟩
 rcases hq with hq | hq
 ·obtain ⟨its,r',pl,hz⟩:=I.list hq;have hlen:=r'.length;obtain ⟨o,ho,hc,n,hd⟩:=pl.isList;exact call_list_seq p (.inl rfl) ho hc hd (fun h' c' kp e=>fin its r' hz h' c' kp e) (by simp only [size_toArray] <;> lia)
 ·obtain ⟨its,r',pl,hz⟩:=I.tuple hq;have hlen:=r'.length;obtain ⟨o,ho,hc,n,hd⟩:=pl;exact call_list_seq p (.inr rfl) ho hc hd (fun h' c' kp e=>fin its r' hz h' c' kp e) (by simp only [size_toArray] <;> lia)
theorem J72:CallR X (.type "tuple") (fun xs H Q=>∃ p ys,xs=[.ref p]/\((SqL X.K H p ys/\∀ l,H l=none->Q (.ref l) (upd H l (.tup ys)))\/(SqT X.K H p ys/\Q (.ref p) H))):=by
 intro pins s σ H xs us Q I r h;obtain ⟨p,ys,rfl,h⟩:=h;obtain ⟨u,rfl,rx⟩:=vals1 r;cases rx;rcases h with ⟨hq,q⟩ | ⟨hq,q⟩
 ·obtain ⟨its,r',pl,hz⟩:=I.list hq;have hlen:=r'.length;refine call_tuple_list pl.isList (fun h' kp=>?_) (by simp only [size_toArray] <;> lia);have I1:Inv X pins σ H { s with heap:=h' }:=I.kept (t':=s.toks) kp;have I2:Inv X pins σ (upd H h'.objs.size (.tup ys)) { s with heap:=h'.push { cls:=.type "tuple",data:=.seq its.toArray } } :=
   I1.laid (t':=s.toks) (fun b o e=>get?_push_of_some _ e) (Nat.le_refl _) (show ObjOk X.prog X.w _ _ _ (.tup ys) from ⟨hz,its,r',TupX.new _ _⟩)
  exact ⟨.ref h'.objs.size,_,I2,rfl,q _ (I1.hok.fresh (Nat.le_refl _))⟩
 ·obtain ⟨its,r',pl,hz⟩:=I.tuple hq;exact call_tuple_same pl ⟨.ref p,H,I,rfl,q⟩
def tyV (K:Frag) (T:String) (x:V) (H:Hp):Prop:=match x with
 | .str _=>T="str"
 | .int _=>T="int"
 | .ref p=>(T="list"/\∃ xs,SqL K H p xs)\/(T="tuple"/\∃ o,K.lookup p=some o/\o.cls=.type "tuple"/\o.dict=none)\/
   (T="dict"/\((∃ kvs,H p=some (.dK kvs))\/∃ kvs,H p=some (.dT kvs)))\/(T="set"/\∃ S n,H p=some (.set S n))
 | _=>False
theorem tyV_is {pins:List (Addr × Obj)} {σ:St} {H:Hp} {s:Shared} {T:String} {x:V} {v:Value} (I:Inv X pins σ H s) (r:RelV x v) (ty:tyV X.K T x H) :
  s.TypeIs v T/\∀ a,v=.ref a->∃ ob,s.heap.get? a=some ob/\ob.dict=none:=by
 cases x with
 | str z =>
  obtain ⟨t,rfl⟩:=r;cases (show T="str" from ty);exact ⟨typeIs_str s z t,fun _ e=>nomatch e⟩
 | int i =>
  obtain ⟨t,rfl⟩:=r;cases (show T="int" from ty);exact ⟨typeIs_int s i t,fun _ e=>nomatch e⟩
 | ref p =>
  cases r;rcases ty with ⟨rfl,xs,hq⟩ | ⟨rfl,o,hk,hc,hd⟩ | ⟨rfl,hk⟩ | ⟨rfl,S,n,hk⟩
  ·obtain ⟨its,_,pl,_⟩:=I.list hq;refine ⟨pl.isList.typeIs,fun a e=>?_⟩;cases e;obtain ⟨o,n,e,c,hd,_⟩:=pl;exact ⟨o,e,hd⟩
  ·refine ⟨⟨o,I.kIn p o hk,hc⟩,fun a e=>?_⟩;cases e;exact ⟨o,I.kIn _ o hk,hd⟩
  ·have z:∃ o,s.heap.get? p=some o/\o.ExactDict:=by
    rcases hk with ⟨kvs,hk⟩ | ⟨kvs,hk⟩
    ·obtain ⟨_,_,_,_,o,_,_,e,ex,_⟩:=I.hok p _ hk;exact ⟨o,e,ex⟩
    ·obtain ⟨_,_,_,_,o,_,_,e,ex,_⟩:=I.hok p _ hk;exact ⟨o,e,ex⟩
   obtain ⟨o,e,ex⟩:=z;refine ⟨⟨o,e,ex.1⟩,fun a e2=>?_⟩;cases e2;exact ⟨o,e,ex.2.1⟩
  ·obtain ⟨o,_,_,_,e,ex,_⟩:=I.hok p _ hk;refine ⟨⟨o,e,ex.1⟩,fun a e2=>?_⟩;cases e2;exact ⟨o,e,ex.2.1⟩
 | _=>exact False.elim ty
def tBM (K:Frag) (T:String) (r:V->List V->Hp->VK->Prop) (to:TE) (t:TA):TE:=fun σ H Q=>to σ H fun x H1=>tyV K T x H1/\t σ H1 fun xs H2=>r x xs H2 Q
variable {o e:Expr} {es:List Expr} {to:TE} {t:TA} {name:Str} {apos cpos:Pos} {T id:String} {r:V->List V->Hp->VK->Prop}
theorem pe_bm (pa:PlainAttrs T) (slot:Slot T name id) (hty:typeOf (.builtin id)=pure (.type "method_descriptor")) (hm:MtR X id r) (ho:PE X o to) (ha:PA X (e :: es) t)
  (hbase:attributeBase o name X.env (eval o X.env)=eval o X.env:=by rfl)
  (hfew:((backTo cpos (starEach (e :: es) X.env)).all (fun x=>!x.1) && (backToKw cpos (keywordEach [] X.env)).all (fun x=>x.1.isSome)
   && decide ((e :: es).length + ([]:List Keyword).length + (if ([]:List Keyword).isEmpty then 0 else 1) < 30))=true:=by rfl)
  (hline:(apos.endLine == cpos.line)=true:=by rfl) (hs:starEach (e :: es) X.env=(false,eval e X.env) :: starEach es X.env:=by rfl) (hplain:(backTo cpos (starEach es X.env)).any (·.1)=false:=by rfl) :
  PE X (.Call (.Attribute o name apos) (e :: es) [] cpos) (tBM X.K T r to t):=by
 intro pins s σ H Q I h;refine wpAny_Call_method_late hbase hfew hline rfl (thn (ho pins s σ H _ I h) fun v s1 h9=>?_);obtain ⟨x,H1,I1,r1,ty,q1⟩:=h9;obtain ⟨h1,h2⟩:=tyV_is I1 r1 ty;refine ⟨T,id,pa,slot,hty,h1,h2,?_⟩;have hA:=ha cpos pins s1 σ H1 _ I1 q1;rw [hs] at hA ⊢;refine Calls.callWith_builtin (by show (false || (backTo cpos (starEach es X.env)).any (·.1))=false;rw [hplain] <;> rfl) (Calls.evalArgs_plain ?_);exact thn hA fun us s2 h9=>by obtain ⟨vs,H2,I2,r2,q2⟩:=h9;exact hm pins s2 σ H2 x vs v us Q I2 r1 r2 q2
end
end L2
namespace L2
open PySem PySem.Spec PyProof.Rows
def MtM (X:Cx) (id:String) (r:V->List V->Hp->VK->Prop):Prop :=
 ∀ (pins:List (Addr × Obj)) (s:Shared) (σ:St) (H:Hp) (x:V) (xs:List V) (v:Value) (us:List Value) (Q:VK),Inv X pins σ H s->RelV x v->Vals xs us->r x xs H Q->
  wpAny (model X.prog X.w) X.A (call (.builtin id) (v :: us)) (EP X pins σ Q) X.xe s
theorem Vals.one:∀ {x:V} {us:List Value},Vals [x] us->∃ u,us=[u]/\RelV x u:=fun r=>vals1 r
theorem Vals.two:∀ {x y:V} {us:List Value},Vals [x,y] us->∃ u v,us=[u,v]/\RelV x u/\RelV y v:=fun r=>vals2 r
theorem Vals.rep {xs:List V} {us:List Value} (h:Vals xs us):∀ k:Nat,Vals (List.replicate k xs).flatten (List.replicate k us).flatten
 | 0=>.nil
 | k + 1=>by
  rw [replicate_succ,replicate_succ,flatten_cons,flatten_cons];exact Vals.append h (Vals.rep h k)
theorem J66 (its:List Value):∀ (k:Nat) (acc:List Value),
  foldl (fun x1 x2=>x1 ++ x2) acc.toArray (List.replicate k its.toArray)=(acc ++ (List.replicate k its).flatten).toArray
 | 0,acc=>by simp
 | k + 1,acc=>by
  have e:acc.toArray ++ its.toArray=(acc ++ its).toArray:=by simp
  have e2:(acc ++ its) ++ (List.replicate k its).flatten=acc ++ (List.replicate (k + 1) its).flatten:=by
   rw [replicate_succ,flatten_cons,List.append_assoc]
  rw [<- e2,<- J66 its k (acc ++ its),<- e,replicate_succ,List.foldl_cons]
section
variable {X:Cx} {pins:List (Addr × Obj)} {σ:St} {H:Hp} {s:Shared} {l b:Addr} {xs ys zs:List V}
theorem Inv.lset {its its':List Value} {n:Nat} {f:Array Value->Array Value} {t':Nat} (I:Inv X pins σ H s) (hH:H l=some (.lst xs))
  (e:s.heap.get? l=some { cls:=.type "list",data:=.seq its.toArray n }) (hf:f its.toArray=its'.toArray) (hv:Vals ys its') (hz:ys.length<=sizeLine) :
  Inv X pins σ (upd H l (.lst ys)) { s with heap:=s.heap.update l (Obj.mapSeq f),toks:=t' }:=by
 have q:=PySem.IsL.update e f;rw [hf] at q;refine I.write (x:=l) (e:=l) (by rw [hH];exact trivial) (.inl rfl) (fun b' u hb hu=>(Heap.get?_update_other s.heap (Obj.mapSeq f) (Ne.symm hb)).trans hu) ⟨_,q⟩ ?_;exact ⟨hz,its',_,hv,q⟩
theorem Inv.lnew {its:List Value} {t':Nat} (I:Inv X pins σ H s) (hv:Vals ys its) (hz:ys.length<=sizeLine) :
  Inv X pins σ (upd H s.heap.objs.size (.lst ys)) { s with heap:=s.heap.push { cls:=.type "list",data:=.seq its.toArray },toks:=t' } :=
 I.laid (fun _ _ q=>get?_push_of_some _ q) (Nat.le_refl _) ⟨hz,its,0,hv,get?_push_size _ rfl⟩
theorem Inv.fresh (I:Inv X pins σ H s):H s.heap.objs.size=none:=I.hok.fresh (Nat.le_refl _)
theorem Inv.lstM (I:Inv X pins σ H s) (hH:H l=some (.lst xs)):xs.length<=sizeLine/\∃ (its:List Value) (n:Nat),Vals xs its/\xs.length=its.length/\s.heap.get? l=some { cls:=.type "list",data:=.seq its.toArray n }:=by
 obtain ⟨z,its,n,r,e⟩:=I.hok l _ hH;exact ⟨z,its,n,r,r.length,e⟩
theorem notLongL {n:Nat} (h:n<=sizeLine):Builtin.List.listTooLong n=false:=by
 unfold Builtin.List.listTooLong;exact decide_eq_false (by lia)
end
section
variable {X:Cx}
def rAppend:V->List V->Hp->VK->Prop:=fun x vs H Q=>∃ l xs y,x=.ref l/\vs=[y]/\H l=some (.lst xs)/\xs.length < sizeLine/\Q .non (upd H l (.lst (xs ++ [y])))
theorem J2c:MtM X "list.append" rAppend:=by
 intro pins s σ H x vs v us Q I rx rv h;obtain ⟨l,xs,y,rfl,rfl,hH,hz,q⟩:=h;cases rx;obtain ⟨u,rfl,ru⟩:=rv.one;obtain ⟨z,its,n,r,hl,e⟩:=I.lstM hH;refine call_meets F.slot_list_append ⟨_,e,rfl⟩ F.entry_list_append (F.args_list_append_2 _ _) (PySem.list_append l its.toArray n u (by rw [size_toArray];lia)) ⟨e,?_⟩;refine ⟨.non,_,I.lset (its':=its ++ [u]) hH e (by simp) (r.append (.cons ru .nil)) ?_,rfl,q⟩;rw [length_append,List.length_singleton];lia
def rExtend:V->List V->Hp->VK->Prop:=fun x vs H Q=>∃ l b xs zs,x=.ref l/\vs=[.ref b]/\H l=some (.lst xs)/\H b=some (.lst zs)/\xs.length + zs.length<=sizeLine/\Q .non (upd H l (.lst (xs ++ zs)))
theorem mt_extend:MtM X "list.extend" rExtend:=by
 intro pins s σ H x vs v us Q I rx rv h;obtain ⟨l,b,xs,zs,rfl,rfl,hH,hB,hz,q⟩:=h;cases rx;obtain ⟨u,rfl,ru⟩:=rv.one;cases ru;obtain ⟨z,its,n,r,hl,e⟩:=I.lstM hH;obtain ⟨z2,its2,n2,r2,hl2,e2⟩:=I.lstM hB;have hsz:its.toArray.size + its2.toArray.size<=sizeLine:=by rw [size_toArray,size_toArray];lia
 have hlong:¬ (!its.toArray.isEmpty && Builtin.List.listTooLong (its.toArray.size + its2.toArray.size))=true:=by
  rw [notLongL hsz,Bool.and_false];exact Bool.false_ne_true
 refine call_meets F.slot_list_extend ⟨_,e,rfl⟩ F.entry_list_extend (F.args_list_extend_2 _ _)
  (AutoSeq1.list_extend_list_list_0 l its.toArray n b its2.toArray n2 hlong (by rw [size_toArray];lia) (by lia)) ⟨e,e2,?_⟩
 refine ⟨.non,_,I.lset (its':=its ++ its2) hH e (by simp) (r.append r2) ?_,rfl,q⟩;rw [length_append];lia
def rCat:R2:=fun x y H Q=>∃ l b xs zs,x=.ref l/\y=.ref b/\H l=some (.lst xs)/\H b=some (.lst zs)/\xs.length + zs.length<=sizeLine/\∀ p,H p=none->Q (.ref p) (upd H p (.lst (xs ++ zs)))
theorem op_cat:OpR X (binaryOp .Add) rCat:=by
 intro pins s σ H x y v u Q I rx ry h;obtain ⟨l,b,xs,zs,rfl,rfl,hH,hB,hz,q⟩:=h;cases rx;cases ry;obtain ⟨z,its,n,r,hl,e⟩:=I.lstM hH;obtain ⟨z2,its2,n2,r2,hl2,e2⟩:=I.lstM hB;refine PySem.P.add_list e e2 ?_ (by rw [size_toArray,size_toArray];lia);have ea:its.toArray ++ its2.toArray=(its ++ its2).toArray:=by simp
 rw [ea];exact ⟨.ref _,_,I.lnew (t':=s.toks) (r.append r2) (by rw [length_append];lia),rfl,q _ I.fresh⟩
def rRep:R2:=fun x y H Q=>∃ l k xs,x=.ref l/\y=.int k/\H l=some (.lst xs)/\-(2 ^ 63)<=k/\k < 2 ^ 63/\xs.length * k.toNat<=sizeLine/\
 ∀ p,H p=none->Q (.ref p) (upd H p (.lst (List.replicate k.toNat xs).flatten))
theorem len_rep {α:Type} (xs:List α) (k:Nat):(List.replicate k xs).flatten.length=k * xs.length:=by
 induction k with
 | zero=>simp
 | succ k ih=>rw [replicate_succ,flatten_cons,length_append,ih,Nat.succ_mul,Nat.add_comm]
theorem op_rep:OpR X (binaryOp .Mult) rRep:=by
 intro pins s σ H x y v u Q I rx ry h;obtain ⟨l,k,xs,rfl,rfl,hH,h1,h2,hz,q⟩:=h;cases rx;obtain ⟨t,rfl⟩:=ry;obtain ⟨z,its,n,r,hl,e⟩:=I.lstM hH;have hlen:its.toArray.size * k.toNat<=sizeLine:=by rw [size_toArray,<- hl];exact hz
 have hcap:¬ its.toArray.size * k.toNat > (2 ^ 63 - 1) / 8:=by
  have:(sizeLine:Nat)<=(2 ^ 63 - 1) / 8:=by decide
  lia
 have hfit:¬ (!Builtin.List.listFitsIndex k)=true:=by
  rw [fitsIndex_both h1 h2];exact Bool.false_ne_true
 have hlong:¬ Builtin.List.listTooLong (its.toArray.size * k.toNat)=true:=by
  rw [notLongL hlen];exact Bool.false_ne_true
 have hnew:foldl (fun x1 x2=>x1 ++ x2) #[] (List.replicate (if its.toArray.isEmpty=true then 0 else k.toNat) its.toArray)=(List.replicate k.toNat its).flatten.toArray:=by
  have f0:∀ m:Nat,foldl (fun x1 x2=>x1 ++ x2) #[] (List.replicate m its.toArray)=(List.replicate m its).flatten.toArray:=fun m=>by
   have:=J66 its m [];rw [nil_append] at this;exact this
  rw [f0]
  cases its with
  | nil=>simp
  | cons a r'=>rw [if_neg (by simp)]
 refine wpAny_binaryOp_repeat_ref (T:="list") (U:="int") (by decide) ⟨_,e,rfl⟩ (fun s'=>typeIs_int s' k t) noFill_list_mul F.fills_int_mul F.slot_int_rmul repeat_list F.slot_int_index.lookup
  (call_meets F.slot_int_rmul (typeIs_int s k t) F.entry_int_rmul (F.args_int_rmul_2 _ _) (int___rmul___int_list k t l its.toArray n)
   ⟨e,rfl,⟨_,e,rfl⟩,call_meets F.slot_list_mul ⟨_,e,rfl⟩ F.entry_list_mul (F.args_list_mul_2 _ _) (AutoListH.list___mul___list_int_3 l its.toArray n k t hfit hcap hlong) ⟨e,?_⟩⟩)
 rw [hnew];exact ⟨.ref _,_,I.lnew (t':=s.toks) (r.rep k.toNat) (by rw [len_rep,Nat.mul_comm];exact hz),rfl,q _ I.fresh⟩
end
section
variable {prog:Program} {w:World} {A:Around} {E:Value->Shared->Prop} {s:Shared}
set_option maxRecDepth 100000 in
end
end L2
namespace Att
open PySem PySem.W PySem.Calls PyProof.Rows
theorem J52 {P:Params} {h:Heap}:∀ (ns:List Int) (vs:List Value),WellAll P h vs (ns.map WData.int)->IntsAre vs ns:=by
 intro ns
 induction ns with
 | nil =>
  intro vs w;rw [map_nil] at w;cases w;exact .nil
 | cons n ns ih =>
  intro vs w;rw [map_cons] at w
  cases w with
  | cons a b =>
   cases a;exact .cons _ _ (ih _ b)
theorem script_of {l:OpenLaw} {n:Nat} (hn:l.most=some n) {P:Params} {h:Heap} {args:List WData} {vals:List Value}
  (hpre:l.row.toRowW.claim.pre args=true) (hwl:WellAll P h vals args) :
  ∃ a vs ns,vals=[Value.ref a]/\args=[WData.list (ns.map WData.int)]/\h.get? a=some { cls:=.type "list",data:=.seq vs.toArray }/\IntsAre vs ns/\ns.length<=n:=by
 have hsh:WShape.hasAll [] args [.list .int]=true:=(pre_splitW hpre).1;have hc:l.pre.holds [] { args:=args }=true:=(pre_splitW hpre).2;obtain ⟨d,r,rfl,h1,h2⟩:=hasAllW_cons hsh;obtain rfl:=hasAllW_nil h2;obtain ⟨xs,rfl,h3⟩:=hasW_list h1;obtain ⟨ns,rfl⟩:=items_int h3;have hlen:ns.length<=n:=by
  unfold OpenLaw.pre at hc;have h4:(WTm.not (.lt (.lit (.int (n:Int))) (.len (.arg 0)))).holds [] { args:=[.list (ns.map .int)] }=true:=by
   have h4:=(holds_andW hc).1;rw [hn] at h4;exact h4
  have h5:=condW_of h4 (w_not (w_lt w_lit (w_len_list (w_arg rfl))));rw [length_map] at h5;refine Nat.le_of_not_lt fun q=>?_;have q':(n:Int) < ((ns.length:Nat):Int):=by lia
  first
   | (rw [decide_eq_true q'] at h5;exact absurd h5 (by decide))
   | (simp at h5;lia)
 cases hwl with
 | cons w1 w2 =>
  cases w2
  cases w1 with
  | list ho hall=>exact ⟨_,_,ns,rfl,rfl,ho,J52 ns _ hall,hlen⟩
theorem post_true (l:OpenLaw) (args:List WData):l.row.toRowW.claim.post args (.bool true) args=true :=
 postW_of (r:=l.row.toRowW) (X:=(true == true))
  (show WShape.has [] (.bool true) .bool=true by first | rfl | decide | simp [WShape.has,WShape.arms,WShape.armsAll])
  (show (WTm.eq .res (.lit (.bool true))).value [] { args:=args,res:=some (.bool true),after:=args }=some (.bool (true == true)) from w_eq_bool (w_res rfl) w_lit) rfl
theorem attach_call {l:OpenLaw} {n:Nat} {q:Program} {loose:List Str} {XP:(Str->Option Value)->Heap->Prop} {YP:World->Heap->Prop} {d:DefRec}
  (hn:l.most=some n) (hdf:d.params.defaults=[])
  (call:∀ (w:World) (s₀ s₁:Shared) (mg mb:Str->Option Value) (fa:Addr) (o:Obj) (pm cd doc:Value) (a:Addr) (vs:List Value) (ns:List Int),
   Ground q loose [] XP w s₀ mg mb s₁.heap->YP w s₁.heap->
   s₁.heap.get? fa=some o->o.data=.func (docDef d.name d.params d.body d.scope pm cd doc)->s₁.heap.CodeRec cd d.name->mg d.name=some (.ref fa)->
   s₁.heap.get? a=some { cls:=.type "list",data:=.seq vs.toArray }->IntsAre vs ns->ns.length<=n->s₁.gens=#[]->
   codeAny (model l.prog w) callerA (.call (.ref fa) ⟨[.ref a],[]⟩) (fun r s'=>r=.ok (.ret (.bool true))/\OldK s₁.heap s'.heap/\s'.os=s₁.os/\AllBare s'.gens) s₁) :
  WalkO q loose XP YP l.row.toRowW d [] (fun f vs=>PySem.call f vs):=by
 intro w s₀ s₁ mg mb G Y fa o pm cd doc dV kV ho hd hcd hD hmg hg args vals as hpre hlay hrd hwl hlo;obtain rfl:dV=.none:=Dflts.none hD hdf;obtain rfl:kV=.none:=Dflts.noKw hD;obtain ⟨a,vs,ns,rfl,rfl,hobj,hints,hlen⟩:=script_of hn hpre hwl;refine enter_call (codeAny_mono (call w s₀ s₁ mg mb fa o pm cd doc a vs ns G Y ho (fd_plain hd) hcd hmg hobj hints hlen hg) fun r s' hq=>?_);obtain ⟨rfl,h2,h3,h4⟩:=hq;exact ⟨.inl ⟨.bool true,.bool true,[],rfl,fun _=>rfl,.bool true,post_true l _,fun _=>⟨List.Pairwise.nil,fun _ hm=>(nomatch hm)⟩⟩,h2,h3,h4⟩
end Att
namespace L2
open PySem PySem.Spec PyProof.Rows
theorem J5h:∀ {vs:List Value} {ns:List Int},IntsAre vs ns->Vals (ns.map V.int) vs
 | _,_,.nil=>.nil
 | _,_,.cons n t h=>.cons ⟨t,rfl⟩ (J5h h)
def Only (H:Hp):Prop:=∀ b,H b=none\/∃ o xs,H b=some (.frz o (.lst xs))
theorem law_call {P:Program} {w:World} {K:Frag} {mg mb:Str->Option Value} {CX:CXT} {k:Nat} {fa a:Addr} {fd:FuncData} {x:Str} {sp:Sp} {s₁:Shared} {vs:List Value} {ns:List Int}
  (KX:K.In s₁.heap) (hns:s₁.heap.Ns mainGlobals mg) (hb:s₁.heap.Ns builtinsNs mb) (hbb:∀ x:Str,x≠"__name__"->mb x=bootBuiltins x) (hlim:s₁.heap.NoLimit) (hg:s₁.gens=#[])
  (ha:s₁.heap.get? a=some { cls:=.type "list",data:=.seq vs.toArray }) (hi:IntsAre vs ns) (hl:ns.length<=sizeLine) (hr:Room k callerA)
  (F:∀ base:Heap,K.In base->base.Ns mainGlobals mg->FnOk P w K mg base CX k fa fd [x] sp) (hbind:∀ (s:Shared) (u:Value),BindsTo s fd ⟨[u],[]⟩ [(x,u)])
  (hsp:∀ H:Hp,Only H->SqL K H a (ns.map V.int)->sp [.ref a] H (fun v _=>v=.bl true) fun _ _ _=>False)
  (hCX:∀ H e s',CX [] H s₁ (fun _ _ _=>False) e s'->False) :
  codeAny (model P w) callerA (.call (.ref fa) ⟨[.ref a],[]⟩) (fun r s'=>r=.ok (.ret (.bool true))/\OldK s₁.heap s'.heap/\s'.os=s₁.os/\AllBare s'.gens) s₁:=by
 have rv:=J5h hi;have lenV:=hi.length;have core:∀ H:Hp,Only H->SqL K H a (ns.map V.int)->HOk P w H s₁.heap->(∀ b,H b≠none->b=a)->(H a≠none->K.lookup a=none)->
   codeAny (model P w) callerA (.call (.ref fa) ⟨[.ref a],[]⟩) (fun r s'=>r=.ok (.ret (.bool true))/\OldK s₁.heap s'.heap/\s'.os=s₁.os/\AllBare s'.gens) s₁:=by
  intro H hO hS hok hA hK;have base_of:∀ {b:Addr} {o:Obj},s₁.heap.get? b=some o->H b=none->(hidT s₁.heap H).get? b=some o:=fun e n=>hidT_get e n;have noA:∀ {b:Addr} {o:Obj} {es:Array DictEntry} {ep:Nat},s₁.heap.get? b=some o->o.data=.dict es ep->H b=none:=fun {b o es ep} e d=>by
   cases q:H b with
   | none=>rfl
   | some u =>
    have e':b=a:=hA b (by rw [q];simp);subst e';rw [ha] at e;cases e;have d':Data.seq vs.toArray _=Data.dict es ep:=d;cases d'
  have nsK:∀ {b:Addr} {m:Str->Option Value},s₁.heap.Ns b m->(hidT s₁.heap H).Ns b m:=fun {b m} h9=>by obtain ⟨o,es,ep,e,d,r⟩:=h9;exact ⟨o,es,ep,base_of e (noA e d),d,r⟩
  have hKb:K.In (hidT s₁.heap H):=fun b o e=>base_of (KX b o e) (by
   cases q:H b with
   | none=>rfl
   | some u =>
    have e':b=a:=hA b (by rw [q];simp);subst e';rw [hK (by rw [q];simp)] at e;cases e)
  have hM:Mod K mg (hidT s₁.heap H):=⟨hKb,nsK hns,⟨mb,nsK hb,hbb⟩,by obtain ⟨mc,h1,h2⟩:=hlim;exact ⟨mc,nsK h1,h2⟩⟩;have e0:Env0 P w K mg (hidT s₁.heap H) callerA [] s₁ H:=⟨rfl,hM,fun b o e=>of_hidT e,Nat.le_of_eq (hidT_size _ _),trivial,fun b hb=>absurd (show b∈([]:List Addr) from hb) (by simp),hok,.of_eq hg⟩;refine codeAny_mono ((F _ hKb (nsK hns)).run callerA [] s₁ H ⟨[.ref a],[]⟩ [.ref a] [.ref a] _ _ hr e0 (hbind s₁ (.ref a)) (.cons rfl .nil) (hsp H hO hS)) fun r s' h=>?_
  cases r with
  | error e=>exact (hCX H e s' h).elim
  | ok fl =>
   cases fl with
   | next=>exact False.elim h
   | brk=>exact False.elim h
   | cont=>exact False.elim h
   | ret u =>
    obtain ⟨v,H',os,bare,un,hok',r',q⟩:=h;have q':v=.bl true:=q;subst q';obtain rfl:u=Value.bool true:=r';refine ⟨rfl,OldK.of_keep fun b o e=>?_,os,bare⟩
    cases q:H b with
    | none=>exact un.keep b o e q (by intro z;exact absurd (show b∈([]:List Addr) from z) (by simp)) (by simp)
    | some u =>
     rcases hO b with z | ⟨ob,xs,z⟩
     ·rw [q] at z;cases z
     ·have z2:=un.frzs b ob _ z;obtain ⟨e1,_⟩:=hok b _ z;obtain ⟨e2,_⟩:=hok' b _ z2;rw [e] at e1;cases e1;exact e2
 cases hk:K.lookup a with
 | some o =>
  have e:=KX a o hk;rw [ha] at e;cases e;refine core (fun _=>none) (fun _=>.inl rfl) (.inr ⟨_,vs.toArray,_,hk,rfl,rfl,rfl,by rw [size_toArray,lenV];exact hl,by simpa using rv⟩) (fun b u z=>by have z':(none:Option HO)=some u:=z;cases z') (fun b z=>absurd rfl z) fun z=>absurd rfl z
 | none =>
  refine core (fun b=>if b=a then some (.frz { cls:=.type "list",data:=.seq vs.toArray } (.lst (ns.map V.int))) else none) (fun b=>?_) (.inl (.inr ⟨{ cls:=.type "list",data:=.seq vs.toArray },if_pos rfl⟩)) (fun b u z=>?_) (fun b z=>?_) fun _=>hk
  ·by_cases hb:b=a
   ·exact .inr ⟨_,_,if_pos hb⟩
   ·exact .inl (if_neg hb)
  ·by_cases hb:b=a
   ·have z':=(if_pos hb).symm.trans z;cases z';subst hb;exact ⟨ha,by rw [length_map];exact hl,vs,_,rv,ha⟩
   ·have z':=(if_neg hb).symm.trans z;cases z'
  ·by_cases hb:b=a
   ·exact hb
   ·exact absurd (if_neg hb) z
end L2
namespace L2
open PySem PySem.Spec PyProof.Rows
theorem walk_of {l:PySem.W.OpenLaw} {n k:Nat} {q:Program} {loose:List Str} {XP:(Str->Option Value)->Heap->Prop} {YP:World->Heap->Prop} {d:DefRec} {K:Params->Frag} {CX:World->CXT} {sp:World->Sp} {x:Str}
  (hn:l.most=some n) (hn2:n<=sizeLine) (hdf:d.params.defaults=[]) (hr:Room k callerA)
  (hY:∀ (w:World) (h:Heap),YP w h->(K w.params).In h)
  (F:∀ (w:World) (mg:Str->Option Value) (fa:Addr) (h:Heap),(K w.params).In h->h.Ns mainGlobals mg->mg d.name=some (.ref fa)->
   ∃ fd:FuncData,(∀ (s:Shared) (u:Value),BindsTo s fd ⟨[u],[]⟩ [(x,u)])/\
    ∀ base:Heap,(K w.params).In base->base.Ns mainGlobals mg->FnOk l.prog w (K w.params) mg base (CX w) k fa fd [x] (sp w))
  (hsp:∀ (w:World) (H:Hp) (a:Addr) (ns:List Int),ns.length<=n->Only H->SqL (K w.params) H a (ns.map V.int)->sp w [.ref a] H (fun v _=>v=.bl true) fun _ _ _=>False)
  (hCX:∀ (w:World) (H:Hp) (s:Shared) (e:Value) (s':Shared),CX w [] H s (fun _ _ _=>False) e s'->False) :
  PySem.W.WalkO q loose XP YP l.row.toRowW d [] (fun f vs=>PySem.call f vs):=by
 refine Att.attach_call hn hdf fun w s₀ s₁ mg mb fa o pm cd doc a vs ns G Y ho hd hcd hmg hobj hints hlen hg=>?_;have KX:=hY w _ Y;obtain ⟨fd,hb,hF⟩:=F w mg fa _ KX G.T.g hmg;exact law_call KX G.T.g G.T.b G.T.builtins G.T.nolimit hg hobj hints (Nat.le_trans hlen hn2) hr hF hb (fun H hO hS=>hsp w H a ns hlen hO hS) fun H e s'=>hCX w H s₁ e s'
end L2
namespace L2
open PySem PySem.Spec PyProof.Rows
def J11 (s:Stmt) (j:Nat):Stmt:=match s with
 | .ClassDef _ _ _ body _ _ _ _ _ _ _=>body.getD j (.Pass ⟨0,0,0,0⟩)
 | _=>.Pass ⟨0,0,0,0⟩
def J2u (s:Stmt):Arguments:=match s with
 | .FunctionDef _ a _ _ _ _ _ _ _ _=>a
 | _=>{ posonlyargs:=[],args:=[],vararg:=none,kwonlyargs:=[],kw_defaults:=[],kwarg:=none,defaults:=[] }
def J2d (s:Stmt):List Stmt:=match s with
 | .FunctionDef _ _ b _ _ _ _ _ _ _=>b
 | _=>[]
def J7 (s:Stmt):Scope:=match s with
 | .FunctionDef _ _ _ _ _ _ sc _ _ _=>sc
 | _=>{ kind:=.function,names:=[],isGenerator:=false,isCoroutine:=false }
abbrev CX0:CXT:=fun _ _ _ _ _ _=>False
abbrev E0:XK:=fun _ _ _=>False
theorem pass0 {X:Cx}:J53 CX0 X E0:=fun _ _ _ _ _ _ _ h=>h.elim
structure Fun (K:Frag) (x qual:Str) (st:Stmt) (f:Addr) (fd:FuncData):Prop where
 ex:∃ (oc:Value) (od:Option Addr) (kV doc pm:Value) (an:Option Addr) (cdv ct:Value) (osl:Array (Option Value)),
  fd=fnOf x qual (J2u st) (J2d st) (J7 st) .none kV doc pm an cdv ct/\K.lookup f=some ⟨oc,od,.func fd,osl⟩/\codeIn K cdv qual=true
 kp:keepIn K (.ref f)=true
section
variable {P:Program} {w:World} {K:Frag} {mg:Str->Option Value} {base:Heap}
theorem Fun.ok {x qual:Str} {st:Stmt} {f:Addr} {fd:FuncData} {N ps:List Str} {k:Nat} {sp:Sp} (F:Fun K x qual st f fd) (S:FnScope N ps (J7 st)) (len:∀ vs H Q E,sp vs H Q E->vs.length=ps.length)
  (hbody:∀ (cdv:Value) (A:Around) (outer:List Env) (s:Shared) (H:Hp) (vs:List V) (Q:VK) (E:XK),Room k (A.deeper (envOfC qual (J7 st) s.heap.objs.size f cdv))->sp vs H Q E->
   ∃ t,PSs (cxOf CX0 P w K mg base N qual (J7 st) f cdv A outer s H E).nox (J2d st) t/\t { nx:=fun _ H'=>Q .non H',rt:=Q } (start N vs) H):FnOk P w K mg base CX0 (k + 1) f fd ps sp:=by
 obtain ⟨oc,od,kV,doc,pm,an,cdv,ct,osl,rfl,lk,hcd⟩:=F.ex;refine fn_of lk hcd S len fun A outer s H vs Q E hr hsp=>?_;obtain ⟨t,h,q⟩:=hbody cdv A outer s H vs Q E hr hsp;exact ⟨t,h.nox,q⟩
theorem Fun.binds {x qual:Str} {st:Stmt} {f:Addr} {fd:FuncData} {ps:List Str} (F:Fun K x qual st f fd)
  (h:∀ (kV doc pm:Value) (an:Option Addr) (cdv ct:Value) (us:List Value),us.length=ps.length->bindArgs (fnOf x qual (J2u st) (J2d st) (J7 st) .none kV doc pm an cdv ct) ⟨us,[]⟩=pure (ps.zip us)):Binds K fd ps []:=by
 obtain ⟨oc,od,kV,doc,pm,an,cdv,ct,osl,rfl,lk,hcd⟩:=F.ex;exact .all (h kV doc pm an cdv ct)
theorem J1i {x qual:Str} {st:Stmt} {f:Addr} {oc:Value} {od an:Option Addr} {osl:Array (Option Value)} {kV doc pm cdv ct:Value} (l:K.lookup f=some ⟨oc,od,.func (fnOf x qual (J2u st) (J2d st) (J7 st) .none kV doc pm an cdv ct),osl⟩)
  (c:codeIn K cdv qual=true) (k:keepIn K (.ref f)=true):Fun K x qual st f (fnOf x qual (J2u st) (J2d st) (J7 st) .none kV doc pm an cdv ct):=⟨⟨oc,od,kV,doc,pm,an,cdv,ct,osl,rfl,l,c⟩,k⟩
end
theorem J1e {n:Nat} (h:n<=1000):n < sizeLine:=Nat.lt_of_le_of_lt h (by decide)
section
variable {X:Cx}
theorem pv (i:Nat) {x:Str} {pos:Pos} (hN:X.N[i]?=some x:=by rfl) (hv:Vis X.env.scope x:=by first | exact Or.inl rfl | exact Or.inr (Or.inl rfl) | exact Or.inr (Or.inr rfl)) (hd:(x == ("__debug__":Str))=false:=by decide)
  (hcd:(x == ("__classdict__":Str))=false:=by decide):PE X (.Name x pos) (tVar i):=pe_var hN hv hd hcd
end
theorem iteF {A B:Prop} (h:B):if false=true then A else B:=by
 rw [if_neg Bool.false_ne_true];exact h
theorem iteT {A B:Prop} (h:A):if true=true then A else B:=by
 rw [if_pos rfl];exact h
theorem iteNS {c A B:Prop} [Decidable c] (hc:c) (h:B):if (!decide c)=true then A else B:=by
 rw [decide_eq_true hc];exact iteF h
def Same (H H':Hp):Prop:=∀ b o,H b=some o->H' b=some o
theorem Same.refl (H:Hp):Same H H:=fun _ _ h=>h
theorem Same.trans {H H1 H2:Hp} (a:Same H H1) (b:Same H1 H2):Same H H2:=fun c o h=>b c o (a c o h)
theorem Same.free {H H':Hp} (e:Same H H') {l:Addr} (h:H' l=Option.none):H l=Option.none:=by
 cases q:H l with
 | none=>rfl
 | some o =>
  rw [e l o q] at h;cases h
theorem Same.seq {K:Frag} {H H':Hp} {a:Addr} {xs:List V} (e:Same H H') (h:SqL K H a xs):SqL K H' a xs:=by
 rcases h with (h | ⟨o,h⟩) | h
 ·exact .inl (.inl (e _ _ h))
 ·exact .inl (.inr ⟨o,e _ _ h⟩)
 ·exact .inr h
end L2
namespace L2
open PySem PySem.Spec PyProof.Rows
abbrev Cx.block (X:Cx) (N:List Str) (scope:Scope) (cl:List (Str × Addr)) (C:Addr) (fp:List Addr) (s:Shared) (H:Hp):Cx :=
 { X with N:=N,s₀:=s,H₀:=H,env:=compEnvC scope cl C X.env,outer:=X.stack,stack:=X.stack,ex:=fp,fn:=fun _=>false,pn:=[],xe:=fun _ _=>False }
theorem J56 {env:Env}:∀ {names:List (Str × NameKind)} {x:Str} {k:NameKind},(names.map fun (n,k)=>if (k == NameKind.free && env.scope.kind == .function && env.kindOf n == some .cell) then (n,NameKind.cell) else (n,k)).lookup x=some k->
  k=.cell\/k=.free->(∀ p∈names,p.2≠.cell)->∃ p∈names,p.1=x/\p.2=.free
 | [],_,_,h,_,_=>by simp at h
 | (n,q) :: r,x,k,h,hk,hc=>by
  have ih:=@J56 env r x k;have hq:q≠.cell:=hc (n,q) mem_cons_self;rw [map_cons] at h;by_cases hx:x=n
  ·subst hx;by_cases e:(q == NameKind.free && env.scope.kind == .function && env.kindOf x == some .cell)=true
   ·simp only [Bool.and_eq_true] at e;exact ⟨(x,q),mem_cons_self,rfl,by simpa using e.1.1⟩
   ·have e2:List.lookup x ((x,q) :: List.map (fun (n,k)=>if (k == NameKind.free && env.scope.kind == .function && env.kindOf n == some .cell) then (n,NameKind.cell) else (n,k)) r)=some k:=by
     simpa only [e,if_false,Bool.false_eq_true] using h
    rw [List.lookup_cons_self] at e2;cases e2;rcases hk with hk | hk
    ·exact absurd hk hq
    ·exact ⟨(x,q),mem_cons_self,rfl,hk⟩
  ·have hb:(x == n)=false:=by simpa using hx
   have h':(List.map (fun (n,k)=>if (k == NameKind.free && env.scope.kind == .function && env.kindOf n == some .cell) then (n,NameKind.cell) else (n,k)) r).lookup x=some k:=by
    by_cases e:(q == NameKind.free && env.scope.kind == .function && env.kindOf n == some .cell)=true
    ·simp only [e,if_true,List.lookup_cons,hb] at h;exact h
    ·simp only [e,if_false,Bool.false_eq_true,List.lookup_cons,hb] at h;exact h
   obtain ⟨p,hp,e1,e2⟩:=ih h' hk fun p hp=>hc p (mem_cons_of_mem _ hp);exact ⟨p,mem_cons_of_mem _ hp,e1,e2⟩
def capv (σ:St) (js:List Nat):St:=js.map fun j=>(σ[j]?).join
theorem capv_get {σ:St} {js:List Nat} {k:Nat} {v:V} (h:(capv σ js)[k]?=some (some v)):∃ j,js[k]?=some j/\σ[j]?=some (some v):=by
 unfold capv at h;rw [getElem?_map] at h
 cases e:js[k]? with
 | none=>rw [e] at h;cases h
 | some j =>
  rw [e] at h;refine ⟨j,rfl,?_⟩
  cases e2:σ[j]? with
  | none=>rw [Option.map_some,e2] at h;cases h
  | some o=>rw [Option.map_some,e2] at h;exact congrArg some (Option.some.inj h)
section
variable {X:Cx} {elt iter:Expr} {x y:Str} {px py:Pos} {scope:Scope} {cl:List (Str × Addr)} {pos spos:Pos} {wi:TI} {te:TE} {caps:List Str} {js:List Nat} {i:Nat}
theorem J6c {pins:List (Addr × Obj)} {σ:St} {H:Hp} {s:Shared} {C:Addr} {fp:List Addr} (I:Inv X pins σ H s) (hC:s.heap.objs.size<=C) (f2:∀ b∈fp,FpOk X pins H b) (fl:∀ b∈fp,b < s.heap.objs.size)
  (hkind:scope.kind=.function) (hcell:∀ p∈scope.names,p.2≠.cell) (hsub:∀ p∈cl,X.env.cells.lookup p.1=some p.2) (hhas:∀ p∈scope.names,p.2=.free->∃ c,cl.lookup p.1=some c) :
  (X.block (x :: caps) scope cl C fp s H).Ok where
 mod:=I.ok.mod
 kind:=hkind
 glob:=I.ok.glob
 blt:=I.ok.blt
 above:=hC
 inj:=fun a b c h1 h2=>I.ok.inj a b c (hsub _ (mem_of_lookup h1)) (hsub _ (mem_of_lookup h2))
 has:=fun a h=>by
  have h':(∃ k,(relabel scope X.env).names.lookup a=some k/\(k=.cell\/k=.free)):=by
   rcases h with h | h
   ·exact ⟨_,h,.inl rfl⟩
   ·exact ⟨_,h,.inr rfl⟩
  obtain ⟨k,h1,hk⟩:=h';obtain ⟨p,hp,e1,e2⟩:=J56 h1 hk hcell;rw [<- e1];exact hhas p hp e2
 cab:=fun _ _ h=>nomatch h
 hd:=I.ok.hd
 frames:=I.ok.frames
 stk:=.inl rfl
 exf:=fun b hb=>⟨Nat.ne_of_lt (Nat.lt_of_lt_of_le (fl b hb) hC),fun a c e=>(f2 b hb).2.2.2.2.1 a c (hsub _ (mem_of_lookup e))⟩
 bs:=I.bs
 bsz:=Nat.le_trans I.ok.bsz I.sz
 noex:=fun b o e hb=>by
  rcases (f2 b hb).2.2.2.1 with z | z
  ·exact I.ok.noex b o e z
  ·exact absurd (Nat.lt_of_lt_of_le (lt_size e) (Nat.le_trans I.ok.bsz z)) (Nat.lt_irrefl _)
 exfs:=fun b hb z=>by
  rcases mem_cons.mp (I.stkSub b z) with e | e
  ·exact (f2 b hb).2.1 e
  ·exact (f2 b hb).2.2.1 e
 funs:=I.stack
 frf:=I.stkFree
end
section
variable {X:Cx}
def rInsert:V->List V->Hp->VK->Prop:=fun x vs H Q=>∃ (l:Addr) (xs:List V) (k:Nat) (y:V),x=.ref l/\vs=[.int k,y]/\H l=some (.lst xs)/\k<=xs.length/\xs.length < sizeLine/\Q .non (upd H l (.lst (xs.take k ++ y :: xs.drop k)))
theorem mt_insert:MtM X "list.insert" rInsert:=by
 intro pins s σ H x vs v us Q I rx rv h;obtain ⟨l,xs,k,y,rfl,rfl,hH,hk,hz,q⟩:=h;cases rx;obtain ⟨u1,u2,rfl,⟨t,rfl⟩,r2⟩:=rv.two;obtain ⟨z,its,n,r,hl,e⟩:=I.lstM hH;have hn:=line63;obtain ⟨x,hx⟩:∃ x:Int,x=(k:Int):=⟨_,rfl⟩;rw [<- hx];have hfit:¬ (!Builtin.List.listFitsIndex x)=true:=by
  rw [fitsIndex_both (by lia) (by lia)];exact Bool.false_ne_true
 have hsz:its.toArray.size<=sizeLine:=by rw [size_toArray,<- hl];exact z
 refine call_meets F.slot_list_insert ⟨_,e,rfl⟩ F.entry_list_insert (F.args_list_insert_3 _ _ _) (PySem.AutoSeq1.list_insert_list_int_val_1 l its.toArray n x t u2 hfit hsz) ⟨e,?_⟩;refine ⟨.non,_,I.lset (its':=its.take k ++ u2 :: its.drop k) hH e ?_ ((r.take k).append (.cons r2 (r.drop k))) ?_,rfl,q⟩
 ·have e1:(if x < 0 then (x + (its.toArray.size:Int)).toNat else min x.toNat its.toArray.size)=k:=by
   rw [if_neg (by lia),size_toArray];lia
  dsimp only;rw [e1];apply Array.ext';simp;rw [List.take_of_length_le (by rw [length_drop];exact Nat.le_refl _)]
 ·rw [length_append,length_cons,length_take,length_drop];lia
end
section
variable {X:Cx}
abbrev SqI (K:Frag) (H:Hp) (p:Addr) (xs:List V):Prop:=SqL K H p xs\/SqT K H p xs
theorem J61 {its:List Value} {ns:List Int} (hi:IntsAre its ns):∃ xs:Array (Int × Tok),its.toArray=intItems xs/\preSum (numAt xs) xs.size=ns.sum/\ns=xs.toList.map (·.1):=by
 obtain ⟨xs,hx⟩:=hi.allInts.items;have e1:ns=xs.toList.map (·.1):=by
  rw [<- nums_intItems,<- hx];exact (show numsOf its.toArray.toList=ns from hi.numsOf).symm
 refine ⟨xs,hx,?_,e1⟩;rw [preSum_eq,List.take_of_length_le (by simp),e1]
theorem J3v (hc:X.calm=true):CallR X (.builtin "sum") (fun xs H Q=>∃ (p:Addr) (ns:List Int),xs=[.ref p]/\SqI X.K H p (ns.map V.int)/\Q (.int ns.sum) H):=by
 intro pins s σ H xs us Q I r h;obtain ⟨p,ns,rfl,hq,q⟩:=h;obtain ⟨u,rfl,rx⟩:=vals1 r;cases rx;have hh:=I.ok.hd hc;rcases hq with hq | hq
 ·obtain ⟨its,r',pl,hz⟩:=I.list hq;obtain ⟨xs,hx,e2,_⟩:=J61 (J1z r');refine sum_intListG hh (hx ▸ pl.isList) fun h' tk t' hk=>?_;rw [e2];exact ⟨.int ns.sum,H,I.kept hk,⟨t',rfl⟩,q⟩
 ·obtain ⟨its,r',pl,hz⟩:=I.tuple hq;obtain ⟨xs,hx,e2,_⟩:=J61 (J1z r');refine PySem.W.ktm_sumG hh (hx ▸ (show s.heap.IsTuple p its.toArray from pl)) fun h' tk t' hk=>?_;rw [e2];exact ⟨.int ns.sum,H,I.kept hk,⟨t',rfl⟩,q⟩
theorem J7p {prog:Program} {w:World} {A:Around} {E:Value->Shared->Prop} {s:Shared} {l:Addr} {xs:Array (Int × Tok)} {Q:Value->Shared->Prop} (hh:A.handled=none) (ht:s.heap.IsTuple l (intItems xs)) (hne:0 < xs.size)
  (h:∀ v h' tk,(intItems xs)[argBest (fun i j=>decide (numAt xs i < numAt xs j)) (xs.size - 1)]?=some v->(∀ b o,s.heap.get? b=some o->h'.get? b=some o)->Q v { s with heap:=h',toks:=tk }) :
  wpAny (model prog w) A (call (.builtin "min") [.ref l]) Q E s:=by
 obtain ⟨o,ho,hc,n,hd⟩:=id ht;have hne':l≠s.heap.objs.size:=Nat.ne_of_lt (lt_size ho);refine call_min_walk (wpAny_pyIter_tuple ht ?_);refine ⟨s.heap.objs.size,_,_,_,_,_,_,rfl,Walks.tuple (A:=A.in1) hh _ l hne' (intItems xs),⟨⟨_,get?_push_size _ rfl,rfl,rfl⟩,ht.at fun o e=>get?_push_of_some _ e⟩,fun b hb=>?_,by simpa [intItems] using hne,CmpOf.ints_lt (numAt xs) (fun _ _=>intItems_at),fun v h' tk hP hk=>?_⟩
 ·rcases mem_cons.mp hb with rfl | hb
  ·exact lt_size (get?_push_size _ rfl)
  ·obtain rfl:=mem_singleton.mp hb;exact lt_size (get?_push_of_some _ ho)
 ·refine h v h' tk (by simpa [intItems] using hP) fun b o e=>hk b o (fun hb=>absurd (lt_size e) ((mem_singleton.mp hb) ▸ Nat.lt_irrefl _)) (get?_push_of_some _ e)
theorem best_min {ns:List Int} {xs:Array (Int × Tok)} (hns:ns=xs.toList.map (·.1)) (hsz:0 < xs.size) :
  numAt xs (argBest (fun i j=>decide (numAt xs i < numAt xs j)) (xs.size - 1))∈ns/\∀ a∈ns,numAt xs (argBest (fun i j=>decide (numAt xs i < numAt xs j)) (xs.size - 1))<=a:=by
 obtain ⟨h1,h2⟩:=argBest_lt (numAt xs) (xs.size - 1);refine ⟨?_,fun a ha=>?_⟩
 ·rw [hns,numAt_eq];exact getD_mem (by rw [length_map,length_toList];lia)
 ·rw [hns] at ha;obtain ⟨j,hj,rfl⟩:=mem_getD ha;rw [length_map,length_toList] at hj;rw [<- numAt_eq];exact h2 j (by lia)
theorem call_min (hc:X.calm=true):CallR X (.builtin "min") (fun xs H Q=>∃ (p:Addr) (ns:List Int),xs=[.ref p]/\SqI X.K H p (ns.map V.int)/\0 < ns.length/\∀ M,M∈ns->(∀ a∈ns,M<=a)->Q (.int M) H):=by
 intro pins s σ H xs us Q I r h;obtain ⟨p,ns,rfl,hq,hne,q⟩:=h;obtain ⟨u,rfl,rx⟩:=vals1 r;cases rx;have hh:=I.ok.hd hc;rcases hq with hq | hq
 ·obtain ⟨its,r',pl,hz⟩:=I.list hq;obtain ⟨xs,hx,_,e1⟩:=J61 (J1z r');have hsz:0 < xs.size:=by rw [e1,length_map,length_toList] at hne;exact hne
  refine min_intList hh (hx ▸ pl.isList) hsz fun v h' tk hv hk=>?_;obtain ⟨t,rfl⟩:=intItems_at hv;obtain ⟨b1,b2⟩:=best_min e1 hsz;exact ⟨.int _,H,I.kept hk,⟨t,rfl⟩,q _ b1 b2⟩
 ·obtain ⟨its,r',pl,hz⟩:=I.tuple hq;obtain ⟨xs,hx,_,e1⟩:=J61 (J1z r');have hsz:0 < xs.size:=by rw [e1,length_map,length_toList] at hne;exact hne
  refine J7p hh (hx ▸ (show s.heap.IsTuple p its.toArray from pl)) hsz fun v h' tk hv hk=>?_;obtain ⟨t,rfl⟩:=intItems_at hv;obtain ⟨b1,b2⟩:=best_min e1 hsz;exact ⟨.int _,H,I.kept hk,⟨t,rfl⟩,q _ b1 b2⟩
end
end L2
namespace L2
open PySem PySem.Spec PyProof.Rows
section
variable {prog:Program} {w:World} {A:Around} {E:Value->Shared->Prop} {s:Shared}
theorem J71 {l:Addr} {vs:List Value} {Q:List Value->Shared->Prop} (hl:s.heap.IsTuple l vs.toArray)
  (h:Q vs { s with heap:=(s.heap.push (seqObj "list" #[] 0)).update s.heap.objs.size (Obj.mapSeq (· ++ vs.toArray)) }) (hsz:vs.length<=sizeLine) :
  wpAny (model prog w) A (collect (.ref l)) Q E s:=by
 obtain ⟨o,ho,hc,n,hd⟩:=id hl;unfold collect;refine wpAny_bind (wpAny_runValue (codeAny_builtin entry_proto_collect' ?_));show wpAny _ _ (do again (.builtin "list.__iadd__" ⟨[<- newList [],.ref l],[]⟩)) _ _ s;refine wpAny_bind (wpAny_newList (wpAny_pure ⟨Code.quiet_builtin _ (by decide +kernel),codeAny_builtin entry_list_iadd' ?_⟩));show wpAny _ _ (Builtin.List.listExtendWith (.ref s.heap.objs.size) (.ref l) (.ref s.heap.objs.size)) _ _ { s with heap:=s.heap.push (seqObj "list" #[] 0) };unfold Builtin.List.listExtendWith;have ho':(s.heap.push (seqObj "list" #[] 0)).get? l=some o:=get?_push_of_some _ ho;refine wpAny_bind (wpAny_typeOf (T:="tuple") ⟨o,ho',hc⟩ ?_);have ht:(Value.type "tuple" == Value.type "tuple")=true:=by rfl
 rw [if_pos (by rw [ht];simp)];refine wpAny_bind (listItems_at ho' hd ?_);refine wpAny_bind (listItems_at (xs:=#[]) (n:=0) (get?_push_size _ rfl) rfl ?_);rw [if_neg (by simp)];refine wpAny_bind (listUpdate_at (xs:=#[]) (n:=0) (get?_push_size _ rfl) rfl ?_ (Nat.zero_le _) (by show (#[] ++ vs.toArray).size<=sizeLine + 1;simp only [Array.size_append,size_toArray,List.length_nil];lia));refine wpAny_pure ?_;show wpAny (model prog w) A (do
   let o <- load s.heap.objs.size
   match o.data with
   | .seq xs _=>pure xs.toList
   | _=>unsupported "internal:collect") Q E { s with heap:=(s.heap.push (seqObj "list" #[] 0)).update s.heap.objs.size (Obj.mapSeq (· ++ vs.toArray)) }
 refine wpAny_bind (wpAny_load (get?_update_seq (get?_push_size _ rfl) _) ?_);show wpAny _ _ (pure ((#[]:Array Value) ++ vs.toArray).toList) Q E _;rw [show ((#[]:Array Value) ++ vs.toArray).toList=vs by simp];exact wpAny_pure h
theorem J7b {l:Addr} {vs:List Value} {ns:List Int} {Q:Value->Shared->Prop} (hl:s.heap.IsTuple l vs.toArray) (hI:IntsAre vs ns) (h64:vs.length < 64)
  (h:∀ (out:Array Value) (ns':List Int),IntsAre out.toList ns'->ns'.Perm ns->ns'.Pairwise (·<=·)->Q (.ref (s.heap.objs.size + 1)) { s with heap:=sortedAll s.heap vs out }) :
  wpAny (model prog w) A (call (.builtin "sorted") [.ref l]) Q E s:=by
 refine Calls.call_function_entry kind_sorted plain_sorted entry_sorted (args_sorted1 _) ?_;unfold Builtin.«sorted»;refine wpAny_bind (m:=checkCount "sorted" 1 1 _) (wpAny_pure ?_);refine wpAny_bind (J71 hl ?_ (Nat.le_of_lt (Nat.lt_of_lt_of_le h64 (by rw [sizeLine_eq];decide))));refine wpAny_bind (wpAny_newList ?_);have hsz:((s.heap.push (seqObj "list" #[] 0)).update s.heap.objs.size (Obj.mapSeq (· ++ vs.toArray))).objs.size=s.heap.objs.size + 1:=by
  rw [Heap.size_update,size_push']
 have hoL:(((s.heap.push (seqObj "list" #[] 0)).update s.heap.objs.size (Obj.mapSeq (· ++ vs.toArray))).push (seqObj "list" vs.toArray 0)).get? (s.heap.objs.size + 1)=some (seqObj "list" vs.toArray 0):=by
  rw [<- hsz];exact get?_push_size _ rfl
 show wpAny _ _ _ _ _ { s with heap:=((s.heap.push (seqObj "list" #[] 0)).update s.heap.objs.size (Obj.mapSeq (· ++ vs.toArray))).push (seqObj "list" vs.toArray 0) };rw [hsz];refine wpAny_bind (wpAny_holding (wpAny_call_entry slot_list_sort ⟨_,hoL,rfl⟩ entry_list_sort (list_sort_tree hoL hI h64 fun out ns' a1 a2 a3=>⟨_,rfl,?_⟩) (args_list_sort _)));exact wpAny_pure ⟨_,rfl,h out ns' a1 a2 a3⟩
end
section
variable {X:Cx}
theorem call_sorted:CallR X (.builtin "sorted") (fun xs H Q=>∃ (p:Addr) (ns:List Int),xs=[.ref p]/\SqI X.K H p (ns.map V.int)/\ns.length < 64/\∀ l (ns':List Int),H l=none->ns'.Perm ns->ns'.Pairwise (·<=·)->Q (.ref l) (upd H l (.lst (ns'.map V.int)))):=by
 intro pins s σ H xs us Q I r h;obtain ⟨p,ns,rfl,hq,h64,q⟩:=h;obtain ⟨u,rfl,rx⟩:=vals1 r;cases rx;have fin:∀ (its:List Value) (out:Array Value) (ns':List Int),IntsAre out.toList ns'->ns'.Perm ns->ns'.Pairwise (·<=·)->EP X pins σ Q (.ref (s.heap.objs.size + 1)) { s with heap:=sortedAll s.heap its out }:=fun its out ns' a1 a2 a3=>by
  obtain ⟨e,he⟩:=sortedAll_at s.heap its out;have hz:(ns'.map V.int).length<=sizeLine:=by
   rw [length_map,a2.length_eq];exact Nat.le_of_lt (J1e (by lia))
  refine ⟨.ref _,_,I.laid (t':=s.toks) (a:=s.heap.objs.size + 1) (o:=.lst (ns'.map V.int)) (fun b o e=>sortedAll_old e) (Nat.le_succ _) ⟨hz,out.toList,e,J5h a1,he⟩,rfl,q _ ns' (I.hok.fresh (Nat.le_succ _)) a2 a3⟩
 rcases hq with hq | hq
 ·obtain ⟨its,r',pl,hz⟩:=I.list hq;have hl:=r'.length;rw [length_map] at hl;exact sorted_ints pl.isList (J1z r') (by lia) (fin its)
 ·obtain ⟨its,r',pl,hz⟩:=I.tuple hq;have hl:=r'.length;rw [length_map] at hl;exact J7b (show s.heap.IsTuple p its.toArray from pl) (J1z r') (by lia) (fin its)
theorem J7u:CallR X (.type "range") (fun xs H Q=>∃ j:Int,xs=[.int j]/\∀ r,H r=none->Q (.ref r) (upd H r (.rng 0 j))):=by
 intro pins s σ H xs us Q I r h;obtain ⟨j,rfl,q⟩:=h;obtain ⟨u,rfl,t,rfl⟩:=vals1 r;refine call_range_1 ?_;exact ⟨.ref s.heap.objs.size,_,I.laid (o:=.rng 0 j) (fun b o e=>get?_push_of_some _ e) (Nat.le_refl _) ⟨_,_,_,get?_push_size _ rfl⟩,rfl,q _ (I.hok.fresh (Nat.le_refl _))⟩
theorem J6d {f:Nat->Int}:∀ {n:Nat} {us:List Value},us.length=n->(∀ (i:Nat) (v:Value),us[i]?=some v->∃ t,v=Value.int (f i) t)->Vals ((List.range n).map fun i=>V.int (f i)) us:=by
 intro n us hl h
 induction n generalizing f us with
 | zero=>cases us with
  | nil=>exact .nil
  | cons a r=>simp at hl
 | succ n ih=>cases us with
  | nil=>simp at hl
  | cons a r =>
   obtain ⟨t,e⟩:=h 0 a rfl;subst e;rw [List.range_succ_eq_map,map_cons,map_map];exact .cons ⟨t,rfl⟩ (ih (f:=fun i=>f (i + 1)) (by simpa using hl) fun i v e=>h (i + 1) v (by simpa using e))
theorem J2v (hc:X.calm=true):CallR X (.type "list") (fun xs H Q=>∃ (r:Addr) (n:Nat),xs=[.ref r]/\H r=some (.rng 0 (n:Int))/\n<=1000/\∀ l,H l=none->Q (.ref l) (upd H l (.lst (((List.range n).map fun (i:Nat)=>(i:Int)).map V.int)))):=by
 intro pins s σ H xs us Q I r h;obtain ⟨p,n,rfl,hq,hn,q⟩:=h;simp only [map_map,Function.comp_def] at q;obtain ⟨u,rfl,rx⟩:=vals1 r;cases rx;obtain ⟨t,u,v,e⟩:=I.hok p _ hq;refine call_list_range (I.ok.hd hc) (show IsRange s.heap p 0 (n:Int) 1 t u v from e) (small_one (by lia) (by lia) (by lia) (by lia)) (by rw [rangeSize_one];split <;> lia) (n:=n) (by lia) fun h' tk acc' c' hk hS' hacc=>?_;have hv:Vals ((List.range n).map fun (i:Nat)=>V.int (i:Int)) acc'.toList:=J6d (by rw [length_toList];exact hacc.1) fun i v e=>by
  obtain ⟨t,rfl⟩:=hacc.2 i v (by simpa using e);exact ⟨t,by simp⟩
 refine ⟨.ref s.heap.objs.size,_,I.laid (o:=.lst ((List.range n).map fun (i:Nat)=>V.int (i:Int))) hk (Nat.le_refl _) ⟨?_,acc'.toList,c',hv,by simpa using hS'⟩,rfl,q _ (I.hok.fresh (Nat.le_refl _))⟩;rw [length_map,length_range];exact Nat.le_of_lt (J1e hn)
def Kin (xs ys:List V):Prop:=∀ a∈xs,∀ b∈ys,flatV a=true/\flatV b=true/\eqV a b=decide (a=b)
theorem Kin.ints (ns ms:List Int):Kin (ns.map V.int) (ms.map V.int):=fun a ha b hb=>by
 obtain ⟨i,_,rfl⟩:=mem_map.mp ha;obtain ⟨j,_,rfl⟩:=mem_map.mp hb;refine ⟨rfl,rfl,?_⟩;show (i == j)=decide (V.int i=V.int j);by_cases e:i=j
 ·subst e;simp
 ·rw [decide_eq_false (fun h=>e (V.int.inj h))];simpa using e
def eAt (xs ys:List V) (j:Nat):Bool:=match xs[j]?,ys[j]? with
 | some a,some b=>eqV a b
 | _,_=>true
theorem all_eAt {xs ys:List V} (hl:xs.length=ys.length) (hk:Kin xs ys):((List.range xs.length).all (eAt xs ys))=decide (xs=ys):=by
 rw [Bool.eq_iff_iff,all_eq_true,decide_eq_true_iff];constructor
 ·intro h;apply List.ext_getElem?;intro j;by_cases hj:j < xs.length
  ·have h1:xs[j]?=some xs[j]:=List.getElem?_eq_getElem hj;have h2:ys[j]?=some (ys[j]'(hl ▸ hj)):=List.getElem?_eq_getElem (hl ▸ hj);have:=h j (mem_range.mpr hj);unfold eAt at this;rw [h1,h2] at this;have k:=(hk _ (List.getElem_mem hj) _ (List.getElem_mem (hl ▸ hj))).2.2;have this:eqV xs[j] (ys[j]'(hl ▸ hj))=true:=this;rw [k,decide_eq_true_iff] at this;rw [h1,h2,this]
  ·rw [getElem?_eq_none (by lia),getElem?_eq_none (by lia)]
 ·rintro rfl j hj;have hj':=mem_range.mp hj;unfold eAt;rw [List.getElem?_eq_getElem hj'];have k:=(hk _ (List.getElem_mem hj') _ (List.getElem_mem hj')).2.2;show eqV _ _=true;rw [k];simp
theorem eAt_at {A:Around} {s:Shared} {xs ys:List V} {its its2:List Value} (r:Vals xs its) (r2:Vals ys its2) (hk:Kin xs ys) (j:Nat) (h1:j < its.toArray.size) (h2:j < its2.toArray.size):SeqAt.EqAt A s its.toArray[j] its2.toArray[j] (eAt xs ys j):=by
 have l1:=r.length;have l2:=r2.length;rw [size_toArray] at h1 h2;have g1:xs[j]?=some (xs[j]'(by lia)):=List.getElem?_eq_getElem (by lia);have g2:ys[j]?=some (ys[j]'(by lia)):=List.getElem?_eq_getElem (by lia);obtain ⟨u,e1,ru⟩:=r.get g1;obtain ⟨v,e2,rv⟩:=r2.get g2;have e1':its.toArray[j]=u:=by
  have:=List.getElem?_eq_getElem h1;rw [e1] at this;simpa using (Option.some.inj this).symm
 have e2':its2.toArray[j]=v:=by
  have:=List.getElem?_eq_getElem h2;rw [e2] at this;simpa using (Option.some.inj this).symm
 obtain ⟨f1,f2,_⟩:=hk _ (List.getElem_mem (by lia:j < xs.length)) _ (List.getElem_mem (by lia:j < ys.length));unfold eAt;rw [g1,g2,e1',e2'];exact eqAt_V ru rv f1 f2
def rEqL (K:Frag):R2:=fun x y H Q=>∃ p q xs ys,x=.ref p/\y=.ref q/\SqL K H p xs/\SqL K H q ys/\Kin xs ys/\Q (.bl (decide (xs=ys))) H
def rNeL (K:Frag):R2:=fun x y H Q=>∃ p q xs ys,x=.ref p/\y=.ref q/\SqL K H p xs/\SqL K H q ys/\Kin xs ys/\Q (.bl (!decide (xs=ys))) H
theorem op_eqL (hu:X.A.units < cLine):OpR X (compareOp .Eq) (rEqL X.K):=by
 intro pins s σ H x y v u Q I rx ry h;obtain ⟨p,q,xs,ys,rfl,rfl,hp,hq,hk,hQ⟩:=h;cases rx;cases ry;obtain ⟨its,r,pl,_⟩:=I.list hp;obtain ⟨its2,r2,pl2,_⟩:=I.list hq;have l1:=r.length;have l2:=r2.length;by_cases hl:xs.length=ys.length
 ·refine SeqAt.eq_listAt pl.isList pl2.isList (by rw [size_toArray,size_toArray];lia) hu (fun j h1 h2=>eAt_at r r2 hk j h1 h2) ?_;rw [size_toArray,<- l1,all_eAt hl hk];exact ⟨.bl _,H,I,rfl,hQ⟩
 ·refine SeqAt.eq_list_lengthsAt pl.isList pl2.isList (by rw [size_toArray,size_toArray];simp;lia) hu ?_;rw [decide_eq_false (fun e=>hl (congrArg List.length e))] at hQ;exact ⟨.bl false,H,I,rfl,hQ⟩
theorem op_neL (hu:X.A.units < cLine):OpR X (compareOp .NotEq) (rNeL X.K):=by
 intro pins s σ H x y v u Q I rx ry h;obtain ⟨p,q,xs,ys,rfl,rfl,hp,hq,hk,hQ⟩:=h;cases rx;cases ry;obtain ⟨its,r,pl,_⟩:=I.list hp;obtain ⟨its2,r2,pl2,_⟩:=I.list hq;have l1:=r.length;have l2:=r2.length;by_cases hl:xs.length=ys.length
 ·refine SeqAt.RcNeAt.lists pl.isList pl2.isList (by rw [size_toArray,size_toArray];lia) hu (fun j h1 h2=>eAt_at r r2 hk j h1 h2) _ _ _ _ ?_;rw [size_toArray,<- l1,all_eAt hl hk];exact ⟨.bl _,H,I,rfl,hQ⟩
 ·refine SeqAt.RcNeAt.lists_lengths pl.isList pl2.isList (by rw [size_toArray,size_toArray];simp;lia) hu _ _ _ _ ?_;rw [decide_eq_false (fun e=>hl (congrArg List.length e))] at hQ;exact ⟨.bl true,H,I,rfl,hQ⟩
theorem J33 {f:Value} (hf:f=.builtin "isinstance"):CallR X f (fun xs H Q=>∃ (x c:V) (t cv:Value) (b:Bool),xs=[x,c]/\RelV c cv/\(∀ v,RelV c v->v=cv)/\TyOf X.K H x t/\kitOne X.K t cv=some b/\Q (.bl b) H):=by
 subst hf;intro pins s σ H xs us Q I r h;obtain ⟨x,c,t,cv,b,rfl,rc,uc,ty,e,q⟩:=h;obtain ⟨u,v,rfl,ru,rv⟩:=vals2 r;obtain rfl:=uc v rv;exact isinst_ok I ru ty e fun tk=>⟨.bl b,H,I.tok tk,rfl,q⟩
end
end L2
namespace L2
open PySem PySem.Spec PyProof.Rows
theorem J4k:fillsNumberSlot (.type "tuple") "mul"=pure false :=
 PySem.fillsNumberSlot_seq (id:="tuple.__mul__") (r:=some (.builtin "tuple.__rmul__")) F.slot_tuple_mul.lookup (by decide +kernel) F.slot_tuple_rmul.lookup (by decide +kernel)
theorem J7h:seqRepeat? (.type "tuple")=pure (some (.builtin "tuple.__mul__")):=by
 unfold seqRepeat?;rw [PySem.seqSlot_of (T:="tuple") (name:="__mul__") (id:="tuple.__mul__") F.slot_tuple_mul.lookup (by decide +kernel),PySem.seqSlot_of (T:="tuple") (name:="__rmul__") (id:="tuple.__rmul__") F.slot_tuple_rmul.lookup (by decide +kernel)];rfl
theorem J62 (a:Int) (t:Tok) (l:Addr) (items:Array Value) (n:Nat) (dd:Option Addr) (sl:Array (Option Value)) :
  Meets (Builtin.«int.__rmul__» ⟨[.int a t,.ref l],[]⟩) (fun _ R s=>s.heap.get? l=some { cls:=.type "tuple",dict:=dd,data:=.seq items n,slots:=sl }/\R (.ok (.ret Value.notImplemented)) s) :=
 .of_wp fun prog w A R s h=>by obtain ⟨hp,g,d,tk,os⟩:=s;obtain ⟨hl,h⟩:=h;wp_walk;exact ⟨_,rfl,h⟩
theorem tuple_mulW1 (l:Addr) (items:Array Value) (n:Nat) (dd:Option Addr) (sl:Array (Option Value)) (t:Tok) :
  Meets (Builtin.«tuple.__mul__» ⟨[.ref l,.int 1 t],[]⟩) (fun _ R s=>s.heap.get? l=some { cls:=.type "tuple",dict:=dd,data:=.seq items n,slots:=sl }/\R (.ok (.ret (.ref l))) { s with heap:=s.heap,toks:=s.toks }) :=
 .of_wp fun prog w A R s h=>by
  obtain ⟨hp,g,d,tk,os⟩:=s;obtain ⟨hl,h⟩:=h;have f1:=AutoSeq1.idx_int;have f2:=AutoSeq1.sub_tuple_tuple
  wp_walk using AutoSeq1.wpAny_loadPart' hl;exact ⟨_,rfl,h⟩
theorem tuple_mulWn (l:Addr) (items:Array Value) (n:Nat) (dd:Option Addr) (sl:Array (Option Value)) (k:Int) (t:Tok) (h1:1 < k) (h2:k < 2 ^ 63) (hne:items.isEmpty=false) (hsz:items.size * k.toNat<=sizeLine) :
  Meets (Builtin.«tuple.__mul__» ⟨[.ref l,.int k t],[]⟩) (fun _ R s=>s.heap.get? l=some { cls:=.type "tuple",dict:=dd,data:=.seq items n,slots:=sl }/\
   R (.ok (.ret (.ref s.heap.objs.size))) { s with heap:=s.heap.push { cls:=.type "tuple",data:=.seq ((List.replicate k.toNat items).foldl (· ++ ·) #[]) },toks:=s.toks }) :=
 .of_wp fun prog w A R s h=>by
  obtain ⟨hp,g,d,tk,os⟩:=s;obtain ⟨hl,h⟩:=h;have f1:=AutoSeq1.idx_int;have f2:=AutoSeq1.sub_tuple_tuple;have c1:¬ (decide (k < -(2 ^ 63)) || decide (k>=2 ^ 63))=true:=by simp;lia
  have c2:¬ (items.isEmpty || k == 1)=true:=by rw [hne];simp;lia
  have c3:¬ (decide (k<=0) || items.isEmpty)=true:=by rw [hne];simp;lia
  have ek:(items.size:Int) * k=((items.size * k.toNat:Nat):Int):=by
   rw [Int.natCast_mul,Int.toNat_of_nonneg (by lia)]
  have hs0:(sizeLine:Nat)<=(2 ^ 63 - 1) / 8:=by decide
  have c4:¬ ((items.size:Int) * k > (2 ^ 63 - 1) / 8):=by rw [ek];lia
  have c5:¬ Builtin.Tuple.tupleTooMany ((items.size:Int) * k)=true:=by
   unfold Builtin.Tuple.tupleTooMany;rw [ek,decide_eq_true_iff];lia
  have hsz2:((List.replicate k.toNat items).foldl (· ++ ·) #[]).size<=sizeLine:=by
   rw [AutoSeq1.size_joined];simp;rw [Nat.mul_comm];exact hsz
  wp_walk using AutoSeq1.wpAny_loadPart' hl
  refine wpAny_ite_false (decide_eq_false c1) ?_
  wp_walk using AutoSeq1.wpAny_loadPart' hl
  refine wpAny_ite_false (decide_eq_false c2) ?_;refine wpAny_ite_false (decide_eq_false c3) ?_;refine wpAny_ite_false (decide_eq_false c4) ?_;refine wpAny_ite_false (decide_eq_false c5) ?_
  wp_walk using AutoSeq1.wpAny_loadPart' hl
  exact ⟨_,rfl,h⟩
section
variable {X:Cx}
def rRepT:R2:=fun x y H Q=>∃ (l:Addr) (k:Int) (xs:List V),x=.ref l/\y=.int k/\H l=some (.tup xs)/\xs≠[]/\1<=k/\k < 2 ^ 63/\xs.length * k.toNat<=sizeLine/\(k=1->Q (.ref l) H)/\(1 < k->∀ p,H p=none->Q (.ref p) (upd H p (.tup (List.replicate k.toNat xs).flatten)))
theorem op_repT:OpR X (binaryOp .Mult) rRepT:=by
 intro pins s σ H x y v u Q I rx ry h;obtain ⟨l,k,xs,rfl,rfl,hH,hne,h1,h2,hz,q1,q2⟩:=h;cases rx;obtain ⟨t,rfl⟩:=ry;obtain ⟨its,r,pl,hz'⟩:=I.tuple (SqT.of hH);obtain ⟨⟨cls,dd,data,sl⟩,ho,hc,n,hd⟩:=id pl;simp only at hc hd;subst hc hd;have hl:=r.length;refine wpAny_binaryOp_repeat_ref (T:="tuple") (U:="int") (by decide) ⟨_,ho,rfl⟩ (fun s'=>typeIs_int s' k t) J4k F.fills_int_mul F.slot_int_rmul J7h F.slot_int_index.lookup
  (call_meets F.slot_int_rmul (typeIs_int s k t) F.entry_int_rmul (F.args_int_rmul_2 _ _) (J62 k t l its.toArray n dd sl) ⟨ho,rfl,⟨_,ho,rfl⟩,?_⟩)
 by_cases e:k=1
 ·subst e;exact call_meets F.slot_tuple_mul ⟨_,ho,rfl⟩ F.entry_tuple_mul (F.args_tuple_mul_2 _ _) (tuple_mulW1 l its.toArray n dd sl t) ⟨ho,⟨.ref l,H,I,rfl,q1 rfl⟩⟩
 ·have hni:its.toArray.isEmpty=false:=by
   cases its with
   | nil=>exact absurd (List.length_eq_zero_iff.mp (by simpa using hl)) hne
   | cons a r'=>rfl
  refine call_meets F.slot_tuple_mul ⟨_,ho,rfl⟩ F.entry_tuple_mul (F.args_tuple_mul_2 _ _) (tuple_mulWn l its.toArray n dd sl k t (by lia) h2 hni (by rw [size_toArray,<- hl];exact hz)) ⟨ho,?_⟩;have hnew:foldl (fun x1 x2=>x1 ++ x2) #[] (List.replicate k.toNat its.toArray)=(List.replicate k.toNat its).flatten.toArray:=by
   have:=J66 its k.toNat [];rw [nil_append] at this;exact this
  rw [hnew];refine ⟨.ref _,_,I.laid (t':=s.toks) (o:=.tup (List.replicate k.toNat xs).flatten) (fun b ob q=>get?_push_of_some _ q) (Nat.le_refl _) ⟨?_,_,r.rep k.toNat,⟨_,get?_push_size _ rfl,⟨rfl,rfl⟩,_,rfl⟩⟩,rfl,q2 (by lia) _ (I.hok.fresh (Nat.le_refl _))⟩;rw [len_rep,Nat.mul_comm];exact hz
end
section
variable {X:Cx}
@[irreducible] def rTup (K:Frag):List V->Hp->VK->Prop:=fun xs H Q=>∃ p ys,xs=[.ref p]/\((SqL K H p ys/\∀ l,H l=none->Q (.ref l) (upd H l (.tup ys)))\/(SqT K H p ys/\Q (.ref p) H))
theorem J1g:CallR X (.type "tuple") (rTup X.K):=by
 unfold rTup;exact J72
end
end L2
namespace L2
open PySem PySem.Spec PyProof.Rows
section
variable {prog:Program} {w:World} {A:Around} {E:Value->Shared->Prop} {z:Shared}
theorem J51 {nu tu:Addr} {j:Nat} {xs:Array Value} {y:Value} {Q:Value->Shared->Prop} (hn:z.heap.IsTupleIter nu tu j) (ht:z.heap.IsTuple tu xs) (hy:xs[j]?=some y)
  (hQ:∀ g,g.IsTupleIter nu tu (j + 1)->Heap.SameBut nu z.heap g->Q y { z with heap:=g }):wpAny (model prog w) A (Builtin.SmallTypes.nextOf (.ref nu)) Q E z:=by
 obtain ⟨on,hon,cn,dn⟩:=id hn;obtain ⟨ot,hot,_,nt,dt⟩:=ht;unfold Builtin.SmallTypes.nextOf;refine wpAny_bind (wpAny_callSpecial?_slot (name:=Str.ofString "__next__") hn.typeIs F.slot_tuple_iterator_next (wpAny_call_entry F.slot_tuple_iterator_next hn.typeIs F.entry_tuple_iterator_next ?_ (F.args_tuple_iterator_next_1 _)));show wpAny _ _ (field (.ref nu) 0 >>= _) _ _ z;refine wpAny_bind (wpAny_field hon dn (x:=.ref tu) rfl ?_);show wpAny _ _ (if (Value.ref tu == Value.none)=true then _ else _) _ _ z;rw [if_neg (show ¬ ((Value.ref tu == Value.none)=true) from Bool.false_ne_true)];show wpAny _ _ (field (.ref nu) 1 >>= _) _ _ z;refine wpAny_bind (wpAny_field hon dn (x:=.int j 0) rfl ?_);show wpAny _ _ (seqItems? (.ref tu) >>= _) _ _ z;refine wpAny_bind (wpAny_seqItems hot dt ?_);simp only [Int.toNat_natCast,hy];refine wpAny_bind (wpAny_setField hon dn (by simp) (wpAny_pure ⟨y,rfl,wpAny_pure (hQ _ ?_ (Heap.SameBut.update ..))⟩));exact ⟨_,Heap.get?_update_self _ hon (Obj.isFreed_of_fields (Obj.data_mapFields dn _)),(Obj.cls_mapFields ..).trans cn,by rw [Obj.data_mapFields dn];simp [rawInt]⟩
theorem J5w {nu tu:Addr} {j:Nat} {xs:Array Value} {Q:Value->Shared->Prop} (hh:A.handled=none) (hn:z.heap.IsTupleIter nu tu j) (ht:z.heap.IsTuple tu xs) (hy:xs[j]?=none)
  (hE:∀ g e,Heap.ExtBut nu z.heap g->(∃ o,g.get? e=some o/\o.cls=.type "StopIteration")->E (.ref e) { z with heap:=g }):wpAny (model prog w) A (Builtin.SmallTypes.nextOf (.ref nu)) Q E z:=by
 obtain ⟨on,hon,cn,dn⟩:=id hn;obtain ⟨ot,hot,_,nt,dt⟩:=ht;unfold Builtin.SmallTypes.nextOf;refine wpAny_bind (wpAny_callSpecial?_slot (name:=Str.ofString "__next__") hn.typeIs F.slot_tuple_iterator_next (wpAny_call_entry F.slot_tuple_iterator_next hn.typeIs F.entry_tuple_iterator_next ?_ (F.args_tuple_iterator_next_1 _)));show wpAny _ _ (field (.ref nu) 0 >>= _) _ _ z;refine wpAny_bind (wpAny_field hon dn (x:=.ref tu) rfl ?_);show wpAny _ _ (if (Value.ref tu == Value.none)=true then _ else _) _ _ z;rw [if_neg (show ¬ ((Value.ref tu == Value.none)=true) from Bool.false_ne_true)];show wpAny _ _ (field (.ref nu) 1 >>= _) _ _ z;refine wpAny_bind (wpAny_field hon dn (x:=.int j 0) rfl ?_);show wpAny _ _ (seqItems? (.ref tu) >>= _) _ _ z;refine wpAny_bind (wpAny_seqItems hot dt ?_);simp only [Int.toNat_natCast,hy];refine wpAny_bind (wpAny_rule (wpAny_bind (wpAny_setField hon dn (by simp) ?_)));show wpAny _ _ (newExc (.type "StopIteration") [] >>= _) _ _ _;refine wpAny_bind ?_;simp only [newExc,newTuple];refine wpAny_bind (wpAny_newObj_type ?_ (by size_fits));refine wpAny_bind (m:=firstArgMember _ _) (wpAny_of_eq (a:=Value.none) (by first | rfl | (simp only [firstArgMember];rfl)) ?_);refine wpAny_newObj_type ?_ (by size_fits);simp only [raiseNew];refine wpAny_bind (wpAny_handled ?_)
 first | rw [show A.in1.handled=none from hh] | rw [hh]
 refine wpAny_bind (wpAny_pure (wpAny_throw ?_));exact hE _ _ (((Heap.SameBut.update ..).extBut.push _).push _) ⟨_,get?_push_size _ rfl,rfl⟩
theorem enum_turn {en nu:Addr} {j:Nat} {y old:Value} {St:Heap->Prop} {Q:Value->Shared->Prop} (he:IsEnum z.heap en nu j old) (hne:en≠nu) (keepSt:∀ g g':Heap,St g->(∀ o,g.get? nu=some o->g'.get? nu=some o)->St g')
  (NX:∀ (A':Around) (E':Value->Shared->Prop) (Q':Value->Shared->Prop),(∀ g,St g->Heap.SameBut nu z.heap g->Q' y { z with heap:=g })->wpAny (model prog w) A' (Builtin.SmallTypes.nextOf (.ref nu)) Q' E' z)
  (hQ:∀ g,IsEnumOut g en nu ((j:Int) + 1) y z.heap.objs.size->St g->g.get? z.heap.objs.size=some { cls:=.type "tuple",data:=.seq #[.int j z.toks,y] }->g.objs.size=z.heap.objs.size + 1->
   (∀ b o,b≠en->b≠nu->z.heap.get? b=some o->g.get? b=some o)->Q (.ref z.heap.objs.size) { z with heap:=g,toks:=z.toks + 1 }) :
  wpAny (model prog w) A (Builtin.«enumerate.__next__» ⟨[.ref en],[]⟩) (fun fin s'=>∃ v,fin=.done (.ret v)/\Q v s') E z:=by
 obtain ⟨hp,gg,d,tk,os⟩:=z;show wpAny _ _ (field (.ref en) 2 >>= _) _ _ _;refine wpAny_bind (wpAny_field he rfl (x:=.ref nu) rfl (wpAny_bind (NX _ _ _ fun g₁ st₁ sb₁=>?_)));have sb₁:Heap.SameBut nu hp g₁:=sb₁;have e₁:IsEnum g₁ en nu j old:=(sb₁.2 en hne).trans he;show wpAny _ _ (field (.ref en) 3 >>= _) _ _ ⟨g₁,gg,d,tk,os⟩;refine wpAny_bind (wpAny_field e₁ rfl (x:=rawInt j) rfl ?_);show wpAny _ _ (field (.ref en) 4 >>= _) _ _ ⟨g₁,gg,d,tk,os⟩;refine wpAny_bind (wpAny_field e₁ rfl (x:=.none) rfl ?_);show wpAny _ _ (mkInt j >>= _) _ _ ⟨g₁,gg,d,tk,os⟩;refine wpAny_bind (wpAny_mkInt ?_);show wpAny _ _ (setField (.ref en) 3 (rawInt ((j:Int) + 1)) >>= _) _ _ ⟨g₁,gg,d,tk + 1,os⟩;refine wpAny_bind (wpAny_setField_rec e₁ (by simp) fun g₂ e₂ sb₂=>?_);have sb₂:Heap.SameBut en g₁ g₂:=sb₂;have e₂:IsEnum g₂ en nu ((j:Int) + 1) old:=e₂;show wpAny _ _ (setField (.ref en) 4 .none >>= _) _ _ ⟨g₂,gg,d,tk + 1,os⟩;refine wpAny_bind (wpAny_setField_rec e₂ (by simp) fun g₃ e₃ sb₃=>?_);have sb₃:Heap.SameBut en g₂ g₃:=sb₃;have e₃:IsEnum g₃ en nu ((j:Int) + 1) old:=e₃;show wpAny _ _ (newTuple [.int j tk,y] >>= _) _ _ ⟨g₃,gg,d,tk + 1,os⟩;refine wpAny_bind (wpAny_newTuple ?_);have st₃:St g₃:=keepSt _ _ st₁ fun o e=>sb₃.extBut _ _ (Ne.symm hne) (sb₂.extBut _ _ (Ne.symm hne) e);have e₄:IsEnum (g₃.push { cls:=.type "tuple",data:=.seq #[.int j tk,y] }) en nu ((j:Int) + 1) old:=get?_push_of_some _ e₃;have st₄:St (g₃.push { cls:=.type "tuple",data:=.seq #[.int j tk,y] }):=keepSt _ _ st₃ fun o e=>get?_push_of_some _ e;have hz:g₃.objs.size=hp.objs.size:=by rw [sb₃.1,sb₂.1,sb₁.1]
 have hel:en < hp.objs.size:=lt_size he;have t₄:(g₃.push { cls:=.type "tuple",data:=.seq #[.int j tk,y] }).get? hp.objs.size=some { cls:=.type "tuple",data:=.seq #[.int j tk,y] }:=by rw [<- hz];exact get?_push_size _ rfl
 have z₄:(g₃.push { cls:=.type "tuple",data:=.seq #[.int j tk,y] }).objs.size=hp.objs.size + 1:=by rw [size_push,hz]
 have k₄:∀ b o,b≠en->b≠nu->hp.get? b=some o->(g₃.push { cls:=.type "tuple",data:=.seq #[.int j tk,y] }).get? b=some o:=fun b o h1 h2 e =>
  get?_push_of_some _ (sb₃.extBut b o h1 (sb₂.extBut b o h1 (sb₁.extBut b o h2 e)))
 generalize g₃.push { cls:=.type "tuple",data:=.seq #[.int j tk,y] }=g₄ at e₄ st₄ t₄ z₄ k₄;show wpAny _ _ (Builtin.SmallTypes.ownedTupleIsFree (.ref en) >>= _) _ _ ⟨g₄,gg,d,tk + 1,os⟩;rw [hz];refine wpAny_bind ?_
 ·unfold Builtin.SmallTypes.ownedTupleIsFree;refine wpAny_bind (wpAny_field e₄ rfl (x:=.none) rfl (wpAny_pure ?_));simp only [if_true];refine wpAny_bind (wpAny_rule (wpAny_bind (wpAny_field e₄ rfl (x:=old) rfl (wpAny_bind (wpAny_setField_rec e₄ (by simp) fun g₅ e₅ sb₅=>?_)))));have sb₅:Heap.SameBut en g₄ g₅:=sb₅;have e₅:IsEnum g₅ en nu ((j:Int) + 1) y:=e₅;show wpAny _ _ (Builtin.SmallTypes.ownedTupleHandOut (.ref en) (.ref hp.objs.size) >>= _) _ _ ⟨g₅,gg,d,tk + 1,os⟩;refine wpAny_bind ?_
  ·unfold Builtin.SmallTypes.ownedTupleHandOut;refine wpAny_bind (wpAny_setField_rec e₅ (by simp) fun g₆ e₆ sb₆=>?_);have sb₆:Heap.SameBut en g₅ g₆:=sb₆;have e₆:IsEnumOut g₆ en nu ((j:Int) + 1) y hp.objs.size:=e₆;refine wpAny_setField_rec e₆ (by simp) fun g₇ e₇ sb₇=>?_;have sb₇:Heap.SameBut en g₆ g₇:=sb₇;have e₇:IsEnumOut g₇ en nu ((j:Int) + 1) y hp.objs.size:=e₇;have up:∀ b o,b≠en->g₄.get? b=some o->g₇.get? b=some o:=fun b o h1 e=>sb₇.extBut b o h1 (sb₆.extBut b o h1 (sb₅.extBut b o h1 e));exact wpAny_bind (wpAny_letGo (wpAny_pure ⟨_,rfl,hQ g₇ e₇ (keepSt _ _ st₄ fun o e=>up _ _ (Ne.symm hne) e) (up _ _ (Nat.ne_of_gt hel) t₄) (by rw [sb₇.1,sb₆.1,sb₅.1,z₄]) fun b o h1 h2 e=>up b o h1 (k₄ b o h1 h2 e)⟩))
theorem enumT_item {en nu tu:Addr} {j:Nat} {xs:Array Value} {y old:Value} {Q:Option Value->Shared->Prop} (he:IsEnum z.heap en nu j old) (hn:z.heap.IsTupleIter nu tu j) (ht:z.heap.IsTuple tu xs) (hy:xs[j]?=some y) (hne:en≠nu)
  (hQ:∀ g,IsEnumOut g en nu ((j:Int) + 1) y z.heap.objs.size->g.IsTupleIter nu tu (j + 1)->g.get? z.heap.objs.size=some { cls:=.type "tuple",data:=.seq #[.int j z.toks,y] }->g.objs.size=z.heap.objs.size + 1->
   (∀ b o,b≠en->b≠nu->z.heap.get? b=some o->g.get? b=some o)->Q (some (.ref z.heap.objs.size)) { z with heap:=g,toks:=z.toks + 1 }) :
  wpAny (model prog w) A (pyNext (.ref en)) Q E z:=by
 have hT:z.TypeIs (.ref en) "enumerate":=⟨_,he,rfl⟩;unfold pyNext;exact wpAny_bind (wpAny_attempt (wpAny_callSpecial?_slot (name:=Str.ofString "__next__") hT F.slot_enumerate_next (wpAny_call_entry F.slot_enumerate_next hT F.entry_enumerate_next
   (enum_turn (St:=fun g=>g.IsTupleIter nu tu (j + 1)) he hne (fun g g' st k=>let ⟨o,ho,r⟩:=st;⟨o,k o ho,r⟩) (fun A' E' Q' h=>J51 hn ht hy h) fun g a b c d k=>wpAny_pure (hQ g a b c d k)) (F.args_enumerate_next_1 _))))
theorem enumT_end {en nu tu:Addr} {j:Nat} {xs:Array Value} {old:Value} {Q:Option Value->Shared->Prop} (hh:A.handled=none) (he:IsEnum z.heap en nu j old) (hn:z.heap.IsTupleIter nu tu j) (ht:z.heap.IsTuple tu xs) (hy:xs[j]?=none)
  (hQ:∀ g,Heap.ExtBut nu z.heap g->Q none { z with heap:=g }):wpAny (model prog w) A (pyNext (.ref en)) Q E z:=by
 have hT:z.TypeIs (.ref en) "enumerate":=⟨_,he,rfl⟩;unfold pyNext;refine wpAny_bind (wpAny_attempt (wpAny_callSpecial?_slot (name:=Str.ofString "__next__") hT F.slot_enumerate_next (wpAny_call_entry F.slot_enumerate_next hT F.entry_enumerate_next ?_ (F.args_enumerate_next_1 _))));show wpAny _ _ (field (.ref en) 2 >>= _) _ _ _;refine wpAny_bind (wpAny_field he rfl (x:=.ref nu) rfl (wpAny_bind (J5w hh hn ht hy fun g x he' hx'=>?_)));obtain ⟨o,ho,hc⟩:=hx';exact wpAny_bind (wpAny_isInstance (T:="StopIteration") (b:=true) ⟨o,ho,hc⟩ isSubtype_stop (wpAny_pure (hQ _ he')))
theorem enum_newT (l:Addr) (xs:Array Value) (n:Nat) (dct:Option Addr) (sl:Array (Option Value)) :
  Meets (Builtin.«enumerate.__new__» ⟨[.type "enumerate",.ref l],[]⟩) (fun _ R s=>s.heap.get? l=some { cls:=.type "tuple",dict:=dct,data:=.seq xs n,slots:=sl }/\
   R (.ok (.ret (.ref (s.heap.push { cls:=.type "tuple_iterator",data:=.fields #[.ref l,.int 0 0] }).objs.size)))
    { s with heap:=(s.heap.push { cls:=.type "tuple_iterator",data:=.fields #[.ref l,.int 0 0] }).push { cls:=.type "enumerate",data:=.fields #[.none,.bool false,.ref s.heap.objs.size,rawInt 0,.none,.none] } }) :=
 .of_wp fun prog w A R s h=>by
  obtain ⟨hp,g,d,tk,os⟩:=s;obtain ⟨hl,h⟩:=h;have hsub:=sub_enumerate;have hTT:Heap.IsTuple (Shared.heap ⟨hp,g,d,tk,os⟩) l xs:=⟨_,hl,rfl,n,rfl⟩
  wp_walk using AutoSeq1.wpAny_loadPart' hl
  refine wpAny_stack_any fun st=>wpAny_pure ?_;split
  ·rename_i c _ _ _ _ _;cases (c == Value.type "enumerate") <;> (wp_walk using AutoSeq1.wpAny_loadPart' hl,wpAny_pyIter_tuple hTT;exact ⟨_,rfl,h⟩)
  ·(wp_walk using AutoSeq1.wpAny_loadPart' hl,wpAny_pyIter_tuple hTT;exact ⟨_,rfl,h⟩)
theorem call_enumT {l:Addr} {xs:Array Value} {Q:Value->Shared->Prop} (hL:z.heap.IsTuple l xs)
  (h:∀ g,IsEnum g (z.heap.objs.size + 1) z.heap.objs.size 0 .none->g.IsTupleIter z.heap.objs.size l 0->g.objs.size=z.heap.objs.size + 2->(∀ b o,z.heap.get? b=some o->g.get? b=some o)->Q (.ref (z.heap.objs.size + 1)) { z with heap:=g }) :
  wpAny (model prog w) A (call (.type "enumerate") [.ref l]) Q E z:=by
 obtain ⟨⟨c,dct,dt,sl⟩,hl,hc,n,hd⟩:=hL;have hc:c=.type "tuple":=hc;have hd:dt=.seq xs n:=hd;subst hc hd;refine callType_new F.called_enumerate (by decide) (F.typeCall_enumerate_1 _) (F.newCall_enumerate_1 _) (fun obj=>F.args_object_init_2 obj _) F.entry_enumerate_new (enum_newT l xs n dct sl) ⟨hl,?_⟩;have hz:(z.heap.push { cls:=.type "tuple_iterator",data:=.fields #[.ref l,.int 0 0] }).objs.size=z.heap.objs.size + 1:=size_push ..;show _/\_;rw [hz];have he:IsEnum ((z.heap.push { cls:=.type "tuple_iterator",data:=.fields #[.ref l,.int 0 0] }).push { cls:=.type "enumerate",data:=.fields #[.none,.bool false,.ref z.heap.objs.size,rawInt 0,.none,.none] }) (z.heap.objs.size + 1) z.heap.objs.size 0 .none:=by
  have q:=get?_push_size (z.heap.push { cls:=.type "tuple_iterator",data:=.fields #[.ref l,.int 0 0] }) (o:={ cls:=.type "enumerate",data:=.fields #[.none,.bool false,.ref z.heap.objs.size,rawInt 0,.none,.none] }) rfl;rw [hz] at q;exact q
 exact ⟨⟨_,he,rfl⟩,h _ he ⟨_,get?_push_of_some _ (get?_push_size _ rfl),rfl,rfl⟩ (by rw [size_push,hz]) fun b o q=>get?_push_of_some _ (get?_push_of_some _ q)⟩
end
section
variable {X:Cx} {pins:List (Addr × Obj)} {σ:St} {H:Hp} {s:Shared} {h':Heap}
theorem Inv.turned2 {t':Nat} {en nu p:Addr} {o:HO} (I:Inv X pins σ H s) (k:∀ b u,b≠en->b≠nu->s.heap.get? b=some u->h'.get? b=some u) (f1:FpOk X pins H en) (f2:FpOk X pins H nu) (hp:s.heap.objs.size<=p)
  (he:∃ u,h'.get? en=some u) (hu:∃ u,h'.get? nu=some u) (new:ObjOk X.prog X.w (upd H p o) h' p o):Inv X pins σ (upd H p o) { s with heap:=h',toks:=t' }:=by
 have hn:H p=none:=I.hok.fresh hp;have lt:∀ b u,s.heap.get? b=some u->b≠p:=fun b u e=>Nat.ne_of_lt (Nat.lt_of_lt_of_le (lt_size e) hp);have ne1:∀ b u,H b=some u->b≠en:=fun b u e z=>by rw [z,f1.1] at e;cases e
 have ne2:∀ b u,H b=some u->b≠nu:=fun b u e z=>by rw [z,f2.1] at e;cases e
 have nc:∀ b,b ∉ [en,nu]->b≠en/\b≠nu:=fun b hb=>⟨fun z=>hb (by simp [z]),fun z=>hb (by simp [z])⟩;refine I.step (g':=s.gens) (d':=s.drawn) (ch:=[en,nu]) (fun b hb=>?_) (fun b u _ _ hc e _=>k b u (nc b hc).1 (nc b hc).2 e) (fun b u _ _ hc e _=>⟨u.slots,k b u (nc b hc).1 (nc b hc).2 e⟩) (fun b u hc e n=>by rw [Jg (lt b u e)];exact n)
  (fun b u hc e=>⟨u,k b u (nc b hc).1 (nc b hc).2 e⟩) (fun b xs e=>by rw [Jg (Jd e hn)];exact e) (fun b u v e=>by rw [Jg (Jd e hn)];exact e) (fun b ps e=>⟨#[],by rw [Jg (Jd e hn),e];simp⟩) (fun m hm=>?_) (fun b u e=>?_) I.bare
 ·have hb:b=en\/b=nu:=by simpa using hb
  rcases hb with rfl | rfl
  ·exact ⟨f1.2.2.2.1,f1.2.1,f1.2.2.2.2.1,f1.2.2.2.2.2⟩
  ·exact ⟨f2.2.2.2.1,f2.2.1,f2.2.2.2.2.1,f2.2.2.2.2.2⟩
 ·obtain ⟨ob,es,ep,ho,r⟩:=hm;exact ⟨ob,es,ep,k _ ob (Ne.symm f1.2.1) (Ne.symm f2.2.1) ho,r⟩
 ·by_cases hb:b=p
  ·subst hb;rw [J3] at e;cases e;exact new
  ·rw [Jg hb] at e;refine (I.hok b u e).stay (fun c v hc q=>k c v ?_ ?_ q) (fun c q=>by rw [Jg (Jd q hn)];exact q) fun c xs q=>by rw [Jg (Jd q hn)];exact q
   ·rcases hc with q | q
    ·rw [q];exact ne1 b u e
    ·exact ne1 c _ q
   ·rcases hc with q | q
    ·rw [q];exact ne2 b u e
    ·exact ne2 c _ q
end
def Ite (K:Frag) (a:Addr):It :=
 ⟨fun i H=>∃ xs x,SqT K H a xs/\xs[i]?=some x,fun i H v H'=>∃ p x,v=.ref p/\H p=none/\H'=upd H p (.tup [.int (i:Int),x])/\∀ xs,SqT K H a xs->xs[i]?=some x,fun i H=>∃ xs,SqT K H a xs/\xs.length<=i⟩
theorem turn_enum {P:Program} {w:World} {K:Frag} {elts:List Expr} {kk:Nat} {tp:Pos} (a en nu:Addr) (hne:en≠nu):Turn P w K (.Tuple elts kk tp) (Ite K a) [en,nu] en (fun i h=>(∃ old,IsEnum h en nu (i:Int) old)/\h.IsTupleIter nu a i) where
 mem:=by simp
 obj:=fun i h st b hb=>by
  obtain ⟨⟨old,e1⟩,o,e2,_,d2⟩:=st;have hb:b=en\/b=nu:=by simpa using hb
  rcases hb with rfl | rfl
  ·exact ⟨_,e1,fun v z=>by
    have z':Data.fields _=Data.cell v:=z;cases z'⟩
  ·exact ⟨_,e2,fun v z=>by rw [d2] at z;cases z⟩
 keep:=fun i h h' st k=>by
  obtain ⟨⟨old,e1⟩,o,e2,r⟩:=st;exact ⟨⟨old,k en (by simp) _ e1⟩,o,k nu (by simp) _ e2,r⟩
 item:=by
  intro X hP hw hK hc i pins s σ H E I hf st hg;subst hP hw hK;obtain ⟨⟨old,e1⟩,e2⟩:=st;obtain ⟨xs,x,hq,hx⟩:=hg;obtain ⟨its,r,pl,hz⟩:=I.tuple hq;obtain ⟨u,hu,ru⟩:=r.get hx;have f1:=hf en (by simp);have f2:=hf nu (by simp);refine enumT_item e1 e2 (show s.heap.IsTuple a its.toArray from pl) (y:=u) (by simpa using hu) hne fun g o1 n1 t1 z1 k1=>?_;refine ⟨_,rfl,?_⟩;have he:en < s.heap.objs.size:=lt_size e1;refine wpAny_letOwnedTupleGo_enum o1 fun g2 e3 sb=>?_;have sb:Heap.SameBut en g g2:=sb;have n2:g2.IsTupleIter nu a (i + 1):=n1.extBut sb.extBut (Ne.symm hne);have kk2:∀ b o,b≠en->b≠nu->s.heap.get? b=some o->g2.get? b=some o:=fun b o h1 h2 e=>(sb.2 b h1).trans (k1 b o h1 h2 e);have t2:g2.get? s.heap.objs.size=some { cls:=.type "tuple",data:=.seq #[.int i s.toks,u] }:=(sb.2 _ (Nat.ne_of_gt he)).trans t1;obtain ⟨on,hon,_⟩:=id n2;have J:=I.turned2 (t':=s.toks + 1) (o:=.tup [.int (i:Int),x]) (p:=s.heap.objs.size) kk2 f1 f2 (Nat.le_refl _) ⟨_,e3⟩ ⟨_,hon⟩
   ⟨(by show 2<=sizeLine;decide),[.int i s.toks,u],.cons ⟨_,rfl⟩ (.cons ru .nil),⟨_,t2,⟨rfl,rfl⟩,_,rfl⟩⟩
  have hfr:H s.heap.objs.size=none:=I.hok.fresh (Nat.le_refl _);have cast:((i + 1:Nat):Int)=(i:Int) + 1:=by omega
  refine ⟨.ref s.heap.objs.size,_,J,rfl,⟨_,x,rfl,hfr,rfl,fun ys hy=>?_⟩,⟨⟨u,by rw [cast];exact e3⟩,n2⟩,fun b hb=>?_⟩
  ·rw [<- I.tuple_inj hq hy];exact hx
  ·have hbl:b < s.heap.objs.size:=by
    have hb:b=en\/b=nu:=by simpa using hb
    rcases hb with rfl | rfl
    ·exact he
    ·obtain ⟨o,ho,_⟩:=e2;exact lt_size ho
   rw [Jg (Nat.ne_of_lt hbl)];exact (hf b hb).1
 done:=by
  intro X hP hw hK hc i pins s σ H E I hf st hg;subst hP hw hK;obtain ⟨⟨old,e1⟩,e2⟩:=st;obtain ⟨xs,hq,hl⟩:=hg;obtain ⟨its,r,pl,hz⟩:=I.tuple hq;obtain ⟨f0,f1,f2,f3,f4,f5⟩:=hf nu (by simp);refine enumT_end (I.ok.hd hc) e1 e2 (show s.heap.IsTuple a its.toArray from pl) (by have:=r.length;simp;omega) fun g eb=>⟨rfl,I.turned (t':=s.toks) (fun b o hb e=>eb b o hb e) f0 f1 f3 f4 f5⟩
 self:=fun A i s Q E st h=>by
  obtain ⟨⟨old,e1⟩,_⟩:=st;exact wpAny_pyIter_enum e1 h
section
variable {X:Cx}
def iEnum (K:Frag) (ta:TA):TI:=fun σ H R=>ta σ H fun vs H1=>∃ a,vs=[.ref a]/\(∃ xs,SqT K H1 a xs)/\R (Ite K a) H1
theorem pi_enum {elts:List Expr} {kk:Nat} {tp:Pos} {a:Expr} {ta:TA} {p pos:Pos} (hg:Gl X "enumerate") (hm:X.mg "enumerate"=none) (ha:PA X [a] ta) (hs:starEach [a] X.env=[(false,eval a X.env)]:=by rfl):PI X (.Tuple elts kk tp) (.Call (.Name "enumerate" p) [a] [] pos) (iEnum X.K ta):=by
 intro pins s σ H R I h;refine Call_ (J7q I hg hm boot_enumerate (callWith_type1 (thn (ha pos pins s σ H _ I h) fun us s1 h9=>?_) hs rfl));obtain ⟨vs,H1,I1,r1,q1⟩:=h9;obtain ⟨a,e,⟨xs,hq⟩,q⟩:=q1;subst e;obtain ⟨u,rfl,ru⟩:=vals1 r1;cases ru;obtain ⟨its,r,pl,hz⟩:=I1.tuple hq;refine call_enumT (show s1.heap.IsTuple a its.toArray from pl) fun g e1 e2 z1 k1=>?_;have I2:Inv X pins σ H1 { s1 with heap:=g }:=I1.kept (t':=s1.toks) k1;refine wpAny_pyIter_enum e1 ?_;refine ⟨_,_,_,_,H1,rfl,I2,turn_enum a _ _ (Nat.succ_ne_self _),⟨⟨.none,e1⟩,e2⟩,fun b hb=>?_,q⟩;have hb:b=s1.heap.objs.size + 1\/b=s1.heap.objs.size:=by simpa using hb
 have hbs:s1.heap.objs.size<=b:=by
  rcases hb with e | e
  ·rw [e];exact Nat.le_succ _
  ·rw [e];exact Nat.le_refl _
 exact I1.fpOk hbs (I1.hok.fresh hbs)
theorem for_enum {K:Frag} {a:Addr} {xs:List V} {g:TG} {tb:TS} {D:Ends} {σ:St} {H:Hp} (Pv:Nat->St->Hp->Prop) (h0:Pv 0 σ H) (hl:∀ i σ H,i<=xs.length->Pv i σ H->SqT K H a xs)
  (hs:∀ i x σ H p,xs[i]?=some x->Pv i σ H->H p=none->g (.ref p) σ (upd H p (.tup [.int (i:Int),x])) fun σ2 H2=>tb { D with nx:=Pv (i + 1),ct:=Pv (i + 1),bk:=D.nx } σ2 H2) (hd:∀ σ H,Pv xs.length σ H->D.nx σ H) :
  ∃ W:Nat->Nat->St->Hp->Prop,(∃ m,W 0 m σ H)/\∀ i m σ H,W i m σ H->
   ((Ite K a).stop i H/\D.nx σ H)\/((Ite K a).go i H/\∃ N:St->Hp->Prop,(∀ σ' H',N σ' H'->∃ m',m' < m/\W (i + 1) m' σ' H')/\∀ x H',(Ite K a).yld i H x H'->g x σ H' fun σ2 H2=>tb { D with nx:=N,ct:=N,bk:=D.nx } σ2 H2):=by
 refine ⟨fun i m σ H=>m=xs.length - i/\i<=xs.length/\Pv i σ H,⟨xs.length,by simp,Nat.zero_le _,h0⟩,?_⟩;rintro i m σ H ⟨rfl,hi,p⟩;have q:=hl i σ H hi p;by_cases hlt:i < xs.length
 ·refine .inr ⟨⟨xs,xs[i],q,by simp [hlt]⟩,Pv (i + 1),fun σ' H' p'=>⟨xs.length - (i + 1),by omega,rfl,hlt,p'⟩,fun v H' y=>?_⟩;obtain ⟨pp,x,rfl,hn,rfl,y⟩:=y;exact hs i x σ H pp (y xs q) p hn
 ·have e:i=xs.length:=by omega
  subst e;exact .inl ⟨⟨xs,q,Nat.le_refl _⟩,hd σ H p⟩
end
end L2
namespace L2
open PySem PySem.Spec PyProof.Rows
end L2
namespace L2
open PySem PySem.Spec PyProof.Rows
def bmV:List Value:=[.type "ValueError",.type "Exception",.type "BaseException",.type "object"]
theorem ObjOk.has {P:Program} {w:World} {H:Hp} {h:Heap} {a:Addr} {o:HO} (x:ObjOk P w H h a o):∃ u,h.get? a=some u:=by
 cases o with
 | lst xs=>obtain ⟨_,_,_,_,e⟩:=x;exact ⟨_,e⟩
 | tup xs=>obtain ⟨_,_,_,ob,e,_⟩:=x;exact ⟨_,e⟩
 | dK kvs=>obtain ⟨_,_,_,_,o,_,_,e,_⟩:=x;exact ⟨_,e⟩
 | dT kvs=>obtain ⟨_,_,_,_,o,_,_,e,_⟩:=x;exact ⟨_,e⟩
 | set S n=>obtain ⟨o,_,_,_,e,_⟩:=x;exact ⟨_,e⟩
 | ins C dx fs=>obtain ⟨_,_,_,e,_⟩:=x;exact ⟨_,e⟩
 | own y=>exact x
 | xd fs=>obtain ⟨_,⟨_,_,_,e,_⟩,_⟩:=x;exact ⟨_,e⟩
 | rng lo hi=>obtain ⟨_,_,_,e⟩:=x;exact ⟨_,e⟩
 | frz ob u=>obtain ⟨e,_⟩:=x;exact ⟨_,e⟩
 | tbl ps=>exact ⟨_,(show h.get? a=some _ from x)⟩
 | met f y=>exact ⟨_,(show h.get? a=some _ from x)⟩
 | ext φ=>obtain ⟨_,e,_⟩:=x;exact e
theorem HOk.over {P:Program} {w:World} {H:Hp} {h h' B:Heap} (ok:HOk P w H h) (t:∀ b o,H b=some o->∃ u,B.get? b=some u) (k:B.StaysIn h) (k':B.StaysIn h'):HOk P w H h':=fun b u e=>by
 refine (ok b u e).stay (fun c v hc q=>?_) (fun _ q=>q) fun _ _ q=>q;have hc':∃ x,B.get? c=some x:=by
  rcases hc with z | z
  ·rw [z];exact t b u e
  ·exact t c _ z
 obtain ⟨x,hx⟩:=hc';have:=k c x hx;rw [q] at this;cases this;exact k' c _ hx
def Exc1 (P:Program) (w:World):CXT:=fun outer H s E e s'=>∃ (ea:Addr) (cls:Value) (H':Hp) (B:Heap) (a0:Value),e=.ref ea/\s'.os=s.os/\AllBare s'.gens/\Heap.FlyingW B outer ea cls a0 s'.heap/\
 Un (frs outer) [] H H' s.heap s'.heap/\HOk P w H' s'.heap/\H' ea=none/\s.heap.get? ea=none/\(∀ b o,H' b=some o->∃ u,B.get? b=some u)/\(∀ b u,s.heap.get? b=some u->b ∉ frs outer->∃ v,B.get? b=some v)/\E cls none H'
section
variable {P:Program} {w:World} {K:Frag} {mg:Str->Option Value} {base:Heap} {N:List Str} {qual:Str} {scope:Scope} {f:Addr} {cd:Value} {A:Around} {outer:List Env} {s0:Shared} {H0:Hp} {E:XK} {pins:List (Addr × Obj)} {σ:St} {H:Hp} {s:Shared}
theorem noFlds {h B:Heap} {l:List Env} (x:h.FunFrames B l) {b:Addr} (hb:b∈frs l):∃ o,h.get? b=some o/\∀ vs,o.data≠.fields vs:=(x.mem hb).2
theorem frs_cons {b:Addr} {env:Env} {L:Addr} (hf:env.frame=some L) {l:List Env}:b∈frs (env :: l)↔b=L\/b∈frs l:=by
 unfold frs;rw [List.filterMap_cons,hf];simp
theorem xe_made {ea:Addr} {cls:Value} {args:List Value} {h':Heap} (I:Inv (cxOf (Exc1 P w) P w K mg base N qual scope f cd A outer s0 H0 E) pins σ H s) (hx:Heap.MadeExcOf s.heap h' ea cls args) (q:E cls none H) :
  (cxOf (Exc1 P w) P w K mg base N qual scope f cd A outer s0 H0 E).xe (.ref ea) { s with heap:=h' }:=by
 have fr:s.heap.FunFrames base (envOfC qual scope s0.heap.objs.size f cd :: outer):=I.stack;have hin:∀ env∈(envOfC qual scope s0.heap.objs.size f cd :: outer),∀ b,env.frame=some b->b∈frs (envOfC qual scope s0.heap.objs.size f cd :: outer):=fun env he b hb=>List.mem_filterMap.mpr ⟨env,he,hb⟩;have fl:∀ {b:Addr},b∈frs (envOfC qual scope s0.heap.objs.size f cd :: outer)↔b=s0.heap.objs.size\/b∈frs outer:=frs_cons rfl;have inB:∀ b u,s.heap.get? b=some u->b ∉ frs (envOfC qual scope s0.heap.objs.size f cd :: outer)->(hideAll s.heap (frs (envOfC qual scope s0.heap.objs.size f cd :: outer))).get? b=some u:=fun b u e n=>PySem.W.hideAll_get _ e n;have nL:∀ b u,s0.heap.get? b=some u->b≠s0.heap.objs.size:=fun b u e=>Nat.ne_of_lt (lt_size e);have nf:∀ b u,s0.heap.get? b=some u->b ∉ frs outer->b ∉ frs (envOfC qual scope s0.heap.objs.size f cd :: outer):=fun b u e n z=>(fl.mp z).elim (nL b u e) n;refine wpAny_leaves_madeW (base:=hideAll s.heap (frs (envOfC qual scope s0.heap.objs.size f cd :: outer))) (h:=s.heap) (L:=s0.heap.objs.size) I.ok.frames rfl (fun b o z=>of_hideAll _ z) (PySem.W.funFrames_hide fr hin) hx fun h'' t fly tup nt ups=>?_;have up:∀ b o,s.heap.get? b=some o->b∈frs (envOfC qual scope s0.heap.objs.size f cd :: outer)->∃ sl,h''.get? b=some { o with slots:=sl }:=fun b o e hb=>by
  obtain ⟨o',e',nd⟩:=noFlds fr hb;rw [e] at e';cases e';exact ups b o (hx.keeps b o e) nd
 have there:∀ b o,s.heap.get? b=some o->∃ o',h''.get? b=some o':=fun b o e=>by
  by_cases hb:b∈frs (envOfC qual scope s0.heap.objs.size f cd :: outer)
  ·obtain ⟨sl,z⟩:=up b o e hb;exact ⟨_,z⟩
  ·exact ⟨o,fly.1 b o (inB b o e hb)⟩
 have trk:∀ b o,H b=some o->∃ u,(hideAll s.heap (frs (envOfC qual scope s0.heap.objs.size f cd :: outer))).get? b=some u:=fun b o e=>by
  obtain ⟨u,hu⟩:=(I.hok b o e).has;refine ⟨u,inB b u hu fun z=>?_⟩;have:=I.stkFree b z;rw [e] at this;cases this
 refine ⟨ea,cls,H,_,_,rfl,I.os,I.bare,fly,⟨fun b o e n hb _=>?_,fun b o e n hb _=>?_,fun b o e n hb=>I.base.free b o e n hb,fun b o e _=>?_,I.base.tups,I.base.frzs,I.base.tbls⟩,I.hok.over trk (fun b o z=>of_hideAll _ z) fly.1,?_,?_,trk,fun b u e n=>?_,q⟩
 ·exact fly.1 b o (inB b o (I.base.keep b o e n hb (by simp [cxOf])) (nf b o e hb))
 ·obtain ⟨sl,e1⟩:=I.base.slot b o e n hb (by simp [cxOf]);obtain ⟨sl',e2⟩:=up b _ e1 (fl.mpr (.inr hb));exact ⟨sl',e2⟩
 ·obtain ⟨o',e1⟩:=I.base.there b o e (by simp [cxOf]);exact there b o' e1
 ·cases z:H ea with
  | none=>rfl
  | some o =>
   obtain ⟨u,hu⟩:=(I.hok ea o z).has;have hnew:=hx.new;rw [hu] at hnew;cases hnew
 ·cases z:s0.heap.get? ea with
  | none=>rfl
  | some o =>
   obtain ⟨o',e1⟩:=I.base.there ea o z (by simp [cxOf]);have hnew:=hx.new;rw [e1] at hnew;cases hnew
 ·obtain ⟨o',e1⟩:=I.base.there b u e (by simp [cxOf]);exact ⟨o',inB b o' e1 (nf b u e n)⟩
theorem pass1:J53 (Exc1 P w) (cxOf (Exc1 P w) P w K mg base N qual scope f cd A outer s0 H0 E) E:=by
 rintro pins σ H s e s' I ⟨ea,cls,H',B,a0,rfl,os,bare,fly,un,hok,hea,new,trk,inB,q⟩;have fl:∀ {b:Addr},b∈frs (envOfC qual scope s0.heap.objs.size f cd :: outer)↔b=s0.heap.objs.size\/b∈frs outer:=frs_cons rfl;have nf:∀ b u,s0.heap.get? b=some u->b ∉ frs outer->b ∉ frs (envOfC qual scope s0.heap.objs.size f cd :: outer):=fun b u e n z=>(fl.mp z).elim (Nat.ne_of_lt (lt_size e)) n;have fly0:Heap.FlyingW B (envOfC qual scope s0.heap.objs.size f cd :: outer) ea cls a0 s'.heap:=fly;have un:Un (frs (envOfC qual scope s0.heap.objs.size f cd :: outer)) [] H H' s.heap s'.heap:=un;have inB:∀ b u,s.heap.get? b=some u->b ∉ frs (envOfC qual scope s0.heap.objs.size f cd :: outer)->∃ v,B.get? b=some v:=inB;refine wpAny_leaves_onW (L:=s0.heap.objs.size) I.ok.frames rfl fly0 fun h'' fly2 ups=>?_;have stay:∀ b o,s.heap.get? b=some o->b ∉ frs (envOfC qual scope s0.heap.objs.size f cd :: outer)->∀ o',s'.heap.get? b=some o'->h''.get? b=some o':=fun b o e n o' e'=>by
  obtain ⟨v,hv⟩:=inB b o e n;have:=fly0.1 b v hv;rw [e'] at this;cases this;exact fly2.1 b _ hv
 refine ⟨ea,cls,H',B,a0,rfl,os.trans I.os,bare,fly2,⟨fun b o e n hb _=>?_,fun b o e n hb _=>?_,fun b o e n _=>?_,fun b o e _=>?_,fun b xs e=>un.tups b xs (I.base.tups b xs e),fun b o u e=>un.frzs b o u (I.base.frzs b o u e),fun b ps e=>?_⟩,hok.over trk fly0.1 fly2.1,hea,?_,trk,fun b u e n=>?_,q⟩
 ·have e1:=I.base.keep b o e n hb (by simp [cxOf]);have n1:=I.base.free b o e n (by simp [cxOf]);exact stay b o e1 (nf b o e hb) o (un.keep b o e1 n1 (nf b o e hb) (by simp))
 ·obtain ⟨sl,e1⟩:=I.base.slot b o e n hb (by simp [cxOf]);have n1:=I.base.free b o e n (by simp [cxOf]);obtain ⟨sl',e2⟩:=un.slot b _ e1 n1 (fl.mpr (.inr hb)) (by simp);obtain ⟨o',e3,nd⟩:=noFlds fly0.2.2.1 (fl.mpr (.inr hb));rw [e2] at e3;cases e3;obtain ⟨sl'',e4⟩:=ups b _ e2 nd;exact ⟨sl'',e4⟩
 ·obtain ⟨o',e1⟩:=I.base.there b o e (by simp [cxOf]);exact un.free b o' e1 (I.base.free b o e n (by simp [cxOf])) (by simp)
 ·obtain ⟨o',e1⟩:=I.base.there b o e (by simp [cxOf]);obtain ⟨o2,e2⟩:=un.there b o' e1 (by simp);by_cases hb:b∈frs outer
  ·obtain ⟨o3,e3,nd⟩:=noFlds fly0.2.2.1 (fl.mpr (.inr hb));obtain ⟨sl,e4⟩:=ups b o3 e3 nd;exact ⟨_,e4⟩
  ·exact ⟨o2,stay b o' e1 (nf b o e hb) o2 e2⟩
 ·obtain ⟨m1,e1⟩:=I.base.tbls b ps e;obtain ⟨m2,e2⟩:=un.tbls b _ e1;exact ⟨m1 ++ m2,by rw [e2,Array.append_assoc]⟩
 ·cases z:s0.heap.get? ea with
  | none=>rfl
  | some o =>
   obtain ⟨o',e1⟩:=I.base.there ea o z (by simp [cxOf]);rw [e1] at new;cases new
 ·obtain ⟨o',e1⟩:=I.base.there b u e (by simp [cxOf]);exact inB b o' e1 (nf b u e n)
theorem passF {X:Cx}:J53 (Exc1 P w) X E0:=by
 rintro pins σ H s e s' I ⟨_,_,_,_,_,_,_,_,_,_,_,_,_,_,_,q⟩;exact False.elim q
theorem exc_obj {h:Heap} {C:Addr} {bmB:List Value} {nid:String} (X:K.In h) (q:excIn K C bmB nid=true) :
  ∃ bm N nm qn bs hdct sn sub ab col dd k0 k1 k2 k3 k5 mN,h.get? C=some (excClassObj nm qn C N bs bm hdct sn sub ab col dd k0 k1 k2 k3 k5 nid)/\h.Ns N mN/\mN "__init__"=none/\OwnTail h bmB bm:=by
 unfold excIn at q;split at q
 ·rename_i dd cdd sl ho;split at q
  ·rename_i C' bm k0 k1 k2 k3 n k5 hm hs;simp only [Bool.and_eq_true,beq_iff_eq,Bool.not_eq_true'] at q;obtain ⟨⟨⟨⟨⟨rfl,rfl⟩,q1⟩,q2⟩,q3⟩,q4⟩:=q;obtain ⟨nm,bs,mro,ns,qn,hd,sn,sub,ab,col,del⟩:=cdd;dsimp only at hm q1 q3 q4;subst hm q1;obtain ⟨l⟩:=sl;simp only at hs;subst hs;exact ⟨bm,ns,nm,qn,bs,hd,sn,sub,ab,col,dd,k0,k1,k2,k3,k5,_,X _ _ ho,.of_isNs (PySem.W.isNs_of_in X q3),PySem.W.nsMap_none_of_in X q3 q4,PySem.W.tail_of_in X q2⟩
  ·cases q
 ·cases q
theorem J3o {x:Str} {C:Addr} {msg:Str} {j:Nat} {p1 np cpos pos:Pos} (hg:Gl (cxOf (Exc1 P w) P w K mg base N qual scope f cd A outer s0 H0 E) x) (hm:mg x=some (.ref C)) (q:excIn K C bmV "ValueError.__new__"=true) (hdb:(x == ("__debug__":Str))=false:=by decide) :
  PS (cxOf (Exc1 P w) P w K mg base N qual scope f cd A outer s0 H0 E) (.Raise (some (.Call (.Name x np) [.Constant (.str msg) j p1] [] cpos)) none pos) (fun D σ H=>E (.ref C) none H):=by
 intro pins s σ H D I h;obtain ⟨bm,NN,nm,qn,bs,hdct,sn,sub,ab,col,dd,k0,k1,k2,k3,k5,mN,hC,hN,hni,T⟩:=exc_obj (I.ok.mod.kin) q;refine wpAny_Raise_call_subT (C:=C) (nm:=nm) (q:=qn) (N:=NN) (bs:=bs) (bm:=bm) (hdct:=hdct) (sn:=sn) (sub:=sub) (ab:=ab) (col:=col) (dd:=dd) (k0:=k0) (k1:=k1) (k2:=k2) (k3:=k3) (k5:=k5)
  PySem.F.excBase_ValueError (mN:=mN) (T.hasType PySem.F.excBase_ValueError.hasBase) (I.ok.hd rfl) rfl hni (J6u I hg hm ⟨rfl,?_⟩ hdb)
 refine Calls.evalArgs_plain (thn ((J0 (J4z (X:=cxOf (Exc1 P w) P w K mg base N qual scope f cd A outer s0 H0 E)) J4) cpos pins s σ H (fun vs H'=>H'=H/\vs.length=1) I ⟨rfl,rfl⟩) fun us s2 h9=>?_);obtain ⟨vs,H2,I2,r,e2,e3⟩:=h9;subst e2;have hl:us.length<=sizeLine:=by rw [<- r.length,e3];decide
 exact ⟨rfl,hl,I2.bk _ _ hC,hN.keeps I2.bk,T.keeps I2.bk,fun h' e hm=>xe_made I2 hm h⟩
end
theorem ps_nox {X:Cx} {st:Stmt} {t:TS} (h:PS X.nox st t):PS X st t:=fun pins s σ H D I hw =>
 wpAny_mono (h pins s σ H D (I.wish _) hw) (fun _ _ z=>z.unwish) fun _ _ z=>False.elim z
end L2
namespace L2
open PySem PySem.Spec PyProof.Rows
theorem Fun.okX {P:Program} {w:World} {K:Frag} {mg:Str->Option Value} {base:Heap} {x qual:Str} {st:Stmt} {f:Addr} {fd:FuncData} {N ps:List Str} {k:Nat} {sp:Sp} (F:Fun K x qual st f fd) (S:FnScope N ps (J7 st)) (len:∀ vs H Q E,sp vs H Q E->vs.length=ps.length)
  (hbody:∀ (cdv:Value) (A:Around) (outer:List Env) (s:Shared) (H:Hp) (vs:List V) (Q:VK) (E:XK),Room k (A.deeper (envOfC qual (J7 st) s.heap.objs.size f cdv))->sp vs H Q E->
   ∃ t,PSs (cxOf (Exc1 P w) P w K mg base N qual (J7 st) f cdv A outer s H E) (J2d st) t/\t { nx:=fun _ H'=>Q .non H',rt:=Q } (start N vs) H):FnOk P w K mg base (Exc1 P w) (k + 1) f fd ps sp:=by
 obtain ⟨oc,od,kV,doc,pm,an,cdv,ct,osl,rfl,lk,hcd⟩:=F.ex;exact fn_of lk hcd S len fun A outer s H vs Q E hr hsp=>hbody cdv A outer s H vs Q E hr hsp
end L2
namespace L2
open PySem PySem.Spec PyProof.Rows
end L2
namespace L2
open PySem PySem.Spec PyProof.Rows
end L2
namespace L2
open PySem PySem.Spec PyProof.Rows
def PTs (X:Cx) (ifs:List Expr) (t:TT):Prop :=
 ∀ (pins:List (Addr × Obj)) (s:Shared) (σ:St) (H:Hp) (Q:Bool->Hp->Prop),Inv X pins σ H s->t σ H Q->
  wpAny (model X.prog X.w) X.A (forIn ifs true fun c r=>if r=true then do let ok <- isTrue c X.env (eval c X.env);pure (ForInStep.yield ok) else pure (ForInStep.yield r)) (TP X pins σ Q) X.xe s
def tYes:TT:=fun _ H Q=>Q true H
theorem J36 {X:Cx}:PTs X [] tYes:=fun _ s σ H Q I h=>wpAny_tests_nil ⟨H,I,h⟩
theorem pts_one {X:Cx} {c:Expr} {t:TT} (h:PT X c t):PTs X [c] t:=fun pins s σ H Q I q=>wpAny_tests_one (h pins s σ H Q I q)
theorem J28 {prog:Program} {w:World} {A:Around} {R:Result->Shared->Prop} {s:Shared} {elt target iter:Expr} {ifs:List Expr} {scope:Scope} {pos:Pos} {it acc:Value} {env:Env} (J:Nat->Shared->Prop)
  (turn:∀ n s,J n s->wpAny (model prog w) A (pyNext it) (fun r s₁=>match r with
   | none=>R (.ok .next) s₁
   | some v=>wpAny (model prog w) A (letOwnedTupleGo target it v) (fun _ s₁'=>wpAny (model prog w) A (assign target env v) (fun _ s₂ =>
     wpAny (model prog w) A (forIn ifs true fun c r=>if r=true then do let ok <- isTrue c env (eval c env);pure (ForInStep.yield ok) else pure (ForInStep.yield r)) (fun ok s₃ =>
      if ok=true then wpAny (model prog w) A (eval elt env) (fun x s₄ =>
       wpAny (model prog w) A (call (.builtin "list.append") [acc,x]) (fun _ s₅=>∃ m,m < n/\J m s₅) (fun _ _=>False) s₄) (fun _ _=>False) s₃
      else ∃ m,m < n/\J m s₃) (fun _ _=>False) s₂) (fun _ _=>False) s₁') (fun _ _=>False) s₁) (fun _ _=>False) s)
  (n:Nat) (h:J n s):codeAny (model prog w) A (.compLoop (.ListComp elt [⟨target,iter,ifs,0⟩] scope pos) 0 it acc env) R s:=by
 refine codeAny_loop rfl J (fun n s hI=>?_) n h;show wpAny _ _ ((compTurn (.ListComp elt [⟨target,iter,ifs,0⟩] scope pos) 0 it acc env).onRaise (fun x=>do noteFrame x env;theTreesLotGoes x)) _ _ s;refine wpAny_noted ?_;rw [compTurn_list];refine wpAny_bind (wpAny_standAt (wpAny_bind (wpAny_mono (turn n s hI) (fun r s₁ h₁=>?_) fun _ _ h'=>False.elim h')))
 cases r with
 | none=>exact wpAny_pure h₁
 | some v =>
  refine wpAny_bind (wpAny_mono h₁ (fun _ s₁' h₁'=>?_) fun _ _ h'=>False.elim h');refine wpAny_bind (wpAny_mono h₁' (fun _ s₂ h₂=>wpAny_bind (wpAny_mono h₂ (fun ok s₃ h₃=>?_) fun _ _ h'=>False.elim h')) fun _ _ h'=>False.elim h')
  cases ok with
  | false=>exact wpAny_pure ⟨rfl,h₃⟩
  | true =>
   exact wpAny_bind (wpAny_bind (wpAny_mono h₃ (fun x s₄ h₄=>wpAny_bind (wpAny_mono h₄ (fun _ s₅ h₅=>wpAny_pure (wpAny_pure ⟨rfl,h₅⟩)) fun _ _ h'=>False.elim h')) fun _ _ h'=>False.elim h'))
def LCW (J:It) (tc:TT) (te:TE) (σ:St) (js:List Nat) (Q:VK) (H1:Hp) (d:Addr):Prop:=∃ W:Nat->Nat->List V->Hp->Prop,(∃ m,W 0 m [] (upd H1 d (.lst [])))/\
 ∀ i m ys H2,W i m ys H2->H2 d=some (.lst ys)/\((J.stop i H2/\Q (.ref d) H2)\/(J.go i H2/\ys.length < sizeLine/\∀ v H3,J.yld i H2 v H3->
  tc (some v :: capv σ js) H3 fun b H4=>if b=true then te (some v :: capv σ js) H4 fun y H5=>H5 d=some (.lst ys)/\∃ m',m' < m/\W (i + 1) m' (ys ++ [y]) (upd H5 d (.lst (ys ++ [y])))
   else ∃ m',m' < m/\W (i + 1) m' ys H4))
def tLC (wi:TI) (tc:TT) (te:TE) (js:List Nat):TE:=fun σ H Q=>wi σ H fun J H1=>∀ d,H1 d=none->LCW J tc te σ js Q H1 d
section
variable {X:Cx} {elt iter:Expr} {ifs:List Expr} {x y:Str} {px py:Pos} {scope:Scope} {cl:List (Str × Addr)} {pos spos:Pos} {wi:TI} {tc:TT} {te:TE} {caps:List Str} {js:List Nat} {i:Nat}
theorem comp_core {p0:Pos} {use:Option (Value->Sem Unit)} {QV:Value->Shared->Prop} {Q:VK} {pins:List (Addr × Obj)} {s:Shared} {σ:St} {H:Hp} (hc:X.calm=true) (hp:PI X (.Name x px) iter wi)
  (he:∀ (C:Addr) (fp:List Addr) (s:Shared) (H:Hp),PE (X.block (x :: caps) scope cl C fp s H) elt te)
  (ht:∀ (C:Addr) (fp:List Addr) (s:Shared) (H:Hp),PTs (X.block (x :: caps) scope cl C fp s H) ifs tc)
  (hcell:∀ p∈scope.names,p.2≠.cell) (hnames:∀ p∈scope.names,p.2=.local->scope.names.lookup p.1=some .local) (hnd:(x :: caps).Nodup)
  (hsub:∀ p∈cl,X.env.cells.lookup p.1=some p.2) (hhas:∀ p∈scope.names,p.2=.free->∃ c,cl.lookup p.1=some c) (hlen:caps.length=js.length)
  (hcaps:∀ (k:Nat) (c:Str),caps[k]?=some c->∃ (j:Nat) (a:Addr),js[k]?=some j/\X.N[j]?=some c/\X.env.scope.names.lookup c=some .cell/\cl.lookup c=some a/\(relabel scope X.env).names.lookup c=some .cell)
  (hclos:closureFor scope X.env=pure cl) (hkind:scope.kind=.function) (hx:scope.names.lookup x=some .local) (hs:∀ v,foldedSetIterable iter X.env v=pure v)
  (I:Inv X pins σ H s) (h:tLC wi tc te js σ H Q)
  (fin:∀ (d:Addr) (H':Hp) (s5:Shared) (C:Addr),Inv X pins σ H' s5->Q (.ref d) H'->(∃ m,s5.heap.Ns C m)->FpOk X pins H' C->compPost (model X.prog X.w) X.A X.xe use QV (.ref d) C (.ok .next) s5) :
  wpAny (model X.prog X.w) X.A (comprehension (.ListComp elt [⟨.Name x px,iter,ifs,0⟩] scope pos) scope X.env p0 (newList []) false (eval iter X.env) use) QV X.xe s:=by
 refine wpAny_comprehension_free (cl:=cl) (use:=use) (Q:=QV) rfl hs hclos hkind hnames (thn (hp pins s σ H _ I h) fun v s1 h1=>thn h1 fun itv s2 h2=>?_);obtain ⟨it,fp,tn,J,H2,e,I2,T,st2,f2,h3⟩:=h2;subst e;have hfr:H2 s2.heap.objs.size=none:=I2.hok.fresh (Nat.le_refl _);obtain ⟨W,⟨m0,w0⟩,hW⟩:=h3 s2.heap.objs.size hfr;refine wpAny_newObj_type (wpAny_newFunctionEnv hcell (by intro y hy;simp at hy) (fun h₁ hns₁ hsb₁=>?_) hkind);dsimp only at hns₁ hsb₁ ⊢;generalize hH2:s2.heap.push { cls:=.type "list",dict:=none,data:=.seq ([]:List Value).toArray }=G at hns₁ hsb₁ ⊢;have hC:G.objs.size=s2.heap.objs.size + 1:=by rw [<- hH2,size_push]
 have hDC:s2.heap.objs.size≠G.objs.size:=by rw [hC];exact Nat.ne_of_lt (Nat.lt_succ_self _)
 have hCle:s2.heap.objs.size<=G.objs.size:=by rw [hC];exact Nat.le_succ _
 have old:∀ b o,s2.heap.get? b=some o->h₁.get? b=some o:=fun b o e=>hsb₁.extBut b o (by rw [hC];exact Nat.ne_of_lt (Nat.lt_succ_of_lt (lt_size e))) (get?_push_of_some _ (hH2 ▸ get?_push_of_some _ e));have hacc:h₁.get? s2.heap.objs.size=some { cls:=.type "list",dict:=none,data:=.seq ([]:List Value).toArray }:=hsb₁.extBut _ _ hDC (get?_push_of_some _ (hH2 ▸ get?_push_size _ rfl));have fl:∀ b∈fp,b < s2.heap.objs.size:=fun b hb=>by
  obtain ⟨o,e,_⟩:=T.obj _ _ st2 b hb;exact lt_size e
 have hDf:s2.heap.objs.size ∉ fp:=fun hm=>Nat.lt_irrefl _ (fl _ hm);have hok1:HOk X.prog X.w (upd H2 s2.heap.objs.size (.lst [])) h₁:=I2.hok.laid old (Nat.le_refl _) ⟨Nat.zero_le _,[],0,.nil,hacc⟩;have IY0:∀ tk,Inv (X.block (x :: caps) scope cl G.objs.size fp s2 H2) [] (none :: capv σ js) (upd H2 s2.heap.objs.size (.lst [])) { s2 with heap:=h₁,toks:=tk }:=fun tk=>by
  refine ⟨J6c I2 hCle f2 fl hkind hcell hsub hhas,rfl,I2.bare,Un.laid old (Nat.le_refl _) hfr,⟨_,hns₁,fun k z v e1 e2 e3=>?_⟩,fun z c e=>?_,?_,fun z c e=>?_,fun p hp=>absurd hp (by simp),hok1,?_⟩
  ·cases k with
   | zero=>simp at e2
   | succ k =>
    have e1':caps[k]?=some z:=by simpa using e1
    have e2':(capv σ js)[k]?=some (some v):=by simpa using e2
    obtain ⟨j,a,q1,q2,q3,q4,q5⟩:=hcaps k z e1';obtain ⟨j',r1,r2⟩:=capv_get e2';rw [q1] at r1;cases r1;obtain ⟨m,hm,hl⟩:=I2.loc;obtain ⟨u,ru,lu⟩:=hl j z v q2 r2 (.inr (.inl q3));refine ⟨u,ru,.inr ⟨.inl q5,a,q4,?_⟩⟩;rcases lu with ⟨k1,_⟩ | ⟨_,c,ec,o,ho,hd⟩
    ·have k1':X.env.scope.names.lookup z=some .local:=k1;rw [q3] at k1';cases k1'
    ·have:=hsub _ (mem_of_lookup q4);rw [ec] at this;cases this;exact ⟨o,old _ _ ho,hd⟩
  ·obtain ⟨v,o,ho,hd⟩:=I2.cell z c (hsub _ (mem_of_lookup e));exact ⟨v,o,old _ _ ho,hd⟩
  ·show upd H2 s2.heap.objs.size (.lst []) G.objs.size=none;rw [Jg hDC.symm];exact I2.hok.fresh hCle
  ·have ec:=hsub _ (mem_of_lookup e);obtain ⟨v,o,ho,hd⟩:=I2.cell z c ec;rw [Jg (Nat.ne_of_lt (lt_size ho))];exact I2.freeC z c ec
  ·show (none :: capv σ js).length=(x :: caps).length;unfold capv;simp [hlen]
 have stat:∀ {H':Hp},(∀ b∈fp,H' b=none)->∀ b∈fp,FpOk (X.block (x :: caps) scope cl G.objs.size fp s2 H2) [] H' b:=fun hn b hb =>
  ⟨hn b hb,Nat.ne_of_lt (Nat.lt_of_lt_of_le (fl b hb) hCle),(J6c (x:=x) (caps:=caps) I2 hCle f2 fl hkind hcell hsub hhas).exfs b hb,.inl hb,fun z c e=>(f2 b hb).2.2.2.2.1 z c (hsub _ (mem_of_lookup e)),fun p hp=>absurd hp (by simp)⟩
 have hxl:(relabel scope X.env).names.lookup x=some .local:=lookup_relabel_local hx;have loop:∀ tk,codeAny (model X.prog X.w) X.A (.compLoop (.ListComp elt [⟨.Name x px,iter,ifs,0⟩] scope pos) 0 (.ref it) (.ref s2.heap.objs.size) (compEnvC scope cl G.objs.size X.env))
   (compPost (model X.prog X.w) X.A X.xe use QV (.ref s2.heap.objs.size) G.objs.size) { s2 with heap:=h₁,toks:=tk }:=fun tk=>by
  refine J28 (fun m s'=>∃ (k:Nat) (o:Option V) (ys:List V) (H':Hp),Inv (X.block (x :: caps) scope cl G.objs.size fp s2 H2) [] (o :: capv σ js) H' s'/\tn k s'.heap/\(∀ b∈fp,H' b=none)/\W k m ys H') ?_ m0
   ⟨0,none,[],_,IY0 tk,T.keep _ _ _ st2 fun b hb o e=>old b o e,fun b hb=>by
    rw [Jg (show b≠s2.heap.objs.size from fun e=>hDf (by rw [<- e];exact hb))];exact (f2 b hb).1,w0⟩
  rintro m s3 ⟨k,o,ys,H',I3,st3,fr3,w3⟩;obtain ⟨hd,hW3⟩:=hW k m ys H' w3;rcases hW3 with ⟨stop,q⟩ | ⟨go,hz,step⟩
  ·refine thn (T.done (X.block (x :: caps) scope cl G.objs.size fp s2 H2) rfl rfl rfl hc k [] s3 _ _ (fun _ _=>False) I3 (stat fr3) st3 stop) fun r s4 h9=>?_;obtain ⟨hr,I4⟩:=h9;subst hr;have J5:Inv X pins σ H' s4:=I2.call' (ch:=fp) I4.os I4.base I4.hok I4.bare fun b hb=>⟨(f2 b hb).2.2.2.1,(f2 b hb).2.1,(f2 b hb).2.2.2.2.1,(f2 b hb).2.2.2.2.2⟩;exact fin _ H' s4 _ J5 q (by obtain ⟨m,q,_⟩:=I4.loc;exact ⟨m,q⟩) (I2.fpOk hCle I4.free)
  ·refine thn (T.item (X.block (x :: caps) scope cl G.objs.size fp s2 H2) rfl rfl rfl hc k [] s3 _ _ (fun _ _=>False) I3 (stat fr3) st3 go) fun r s4 h9=>?_;obtain ⟨u,hr,h4⟩:=h9;subst hr;refine thn h4 fun _ s5 h9=>?_;obtain ⟨v,H5,I5,r5,y5,st5,fr5⟩:=h9;have I5':=I5.pinned (stat fr5) (T.obj _ _ st5);have stp:=step v H5 y5;refine thn (J1p (X:=X.block (x :: caps) scope cl G.objs.size fp s2 H2) (i:=0) (pos:=px) hnd rfl (.inl hxl) (.inr hxl) _ s5 _ _ _ u
    (fun σ' H'=>σ'=some v :: capv σ js/\H'=H5) I5' r5 ⟨rfl,rfl⟩) fun _ s6 h9=>?_
   obtain ⟨σ6,H6,I6,q6⟩:=h9;obtain ⟨rfl,rfl⟩:=q6;refine thn (ht _ _ _ _ _ s6 _ _ _ I6 stp) fun ok s7 h9=>?_;obtain ⟨H7,I7,q7⟩:=h9;have back:∀ {s8:Shared} {H8:Hp} {o8:Option V} {ys8:List V} {m':Nat},Inv (X.block (x :: caps) scope cl G.objs.size fp s2 H2) ([] ++ pinsAt fp s5.heap) (o8 :: capv σ js) H8 s8->m' < m->W (k + 1) m' ys8 H8->
     ∃ m',m' < m/\∃ (k:Nat) (o:Option V) (ys:List V) (H':Hp),Inv (X.block (x :: caps) scope cl G.objs.size fp s2 H2) [] (o :: capv σ js) H' s8/\tn k s8.heap/\(∀ b∈fp,H' b=none)/\W k m' ys H':=fun {s8 H8 o8 ys8 m'} I8 hm w8=>by
    refine ⟨m',hm,k + 1,o8,ys8,H8,I8.unpinned,T.keep _ _ _ st5 fun b hb o e=>(I8.pin (b,o) (mem_append_right _ (mem_append_right _ (J2g hb e)))).1,fun b hb=>?_,w8⟩;obtain ⟨o,e,d⟩:=T.obj _ _ st5 b hb;exact (I8.pin (b,o) (mem_append_right _ (mem_append_right _ (J2g hb e)))).2.1
   cases ok with
   | false =>
    have q7':∃ m',m' < m/\W (k + 1) m' ys H7:=by
     have:=q7;rwa [if_neg (by decide)] at this
    obtain ⟨m',hm,w8⟩:=q7';exact back I7 hm w8
   | true =>
    have q7':te (some v :: capv σ js) H7 fun y H5=>H5 s2.heap.objs.size=some (.lst ys)/\∃ m',m' < m/\W (k + 1) m' (ys ++ [y]) (upd H5 s2.heap.objs.size (.lst (ys ++ [y]))):=by
     have:=q7;rwa [if_pos rfl] at this
    refine (show wpAny _ _ _ _ _ _ from thn (he _ _ _ _ _ s7 _ _ _ I7 q7') fun u8 s8 h9=>?_);obtain ⟨v8,H8,I8,r8,hd8,m',hm,w8⟩:=h9;refine thn (J2c (X:=X.block (x :: caps) scope cl G.objs.size fp s2 H2) _ s8 _ _ (.ref s2.heap.objs.size) [v8] (.ref s2.heap.objs.size) [u8]
     (fun _ H'=>H'=upd H8 s2.heap.objs.size (.lst (ys ++ [v8]))) I8 rfl (.cons r8 .nil) ⟨s2.heap.objs.size,_,v8,rfl,rfl,hd8,hz,rfl⟩) fun _ s9 h9=>?_
    obtain ⟨_,H9,I9,_,q9⟩:=h9;subst q9;exact back I9 hm w8
 have st1:tn 0 h₁:=T.keep _ _ _ st2 fun b hb o e=>old b o e;exact codeAny_compStart_list (loop _) (T.self X.A 0 _ _ _ st1 (loop _))
def capsOk (X:Cx) (scope:Scope) (cl:List (Str × Addr)) (caps:List Str) (js:List Nat):Bool :=
 (caps.zip js).all fun q=>X.N[q.2]? == some q.1 && X.env.scope.names.lookup q.1 == some .cell && (cl.lookup q.1).isSome && (relabel scope X.env).names.lookup q.1 == some .cell
theorem capsOk.get (hlen:caps.length=js.length) (h:capsOk X scope cl caps js=true):∀ (k:Nat) (c:Str),caps[k]?=some c->∃ (j:Nat) (a:Addr),js[k]?=some j/\X.N[j]?=some c/\X.env.scope.names.lookup c=some .cell/\cl.lookup c=some a/\(relabel scope X.env).names.lookup c=some .cell:=fun k c hk=>by
 have hkl:k < caps.length:=(List.getElem?_eq_some_iff.mp hk).1;have hj:js[k]?=some (js[k]'(hlen ▸ hkl)):=List.getElem?_eq_getElem (hlen ▸ hkl);have hm:(c,js[k]'(hlen ▸ hkl))∈caps.zip js:=by
  refine List.mem_iff_getElem?.mpr ⟨k,?_⟩;rw [List.getElem?_zip_eq_some];exact ⟨hk,hj⟩
 have:=all_eq_true.mp h _ hm;simp only [Bool.and_eq_true,beq_iff_eq] at this;obtain ⟨⟨⟨q1,q2⟩,q3⟩,q4⟩:=this;obtain ⟨a,ha⟩:=Option.isSome_iff_exists.mp q3;exact ⟨_,a,hj,q1,q2,ha,q4⟩
def freeOk (scope:Scope) (cl:List (Str × Addr)):Bool:=scope.names.all fun p=>p.2 != .free || (cl.lookup p.1).isSome
theorem freeOk.get (h:freeOk scope cl=true):∀ p∈scope.names,p.2=.free->∃ c,cl.lookup p.1=some c:=fun p hp' e=>by
 have:=all_eq_true.mp h p hp';rw [e] at this;exact Option.isSome_iff_exists.mp (by simpa using this)
theorem pe_lc (hc:X.calm=true) (hp:PI X (.Name x px) iter wi) (hclos:closureFor scope X.env=pure cl)
  (ht:∀ (C:Addr) (fp:List Addr) (s:Shared) (H:Hp),PTs (X.block (x :: caps) scope cl C fp s H) ifs tc)
  (he:∀ (C:Addr) (fp:List Addr) (s:Shared) (H:Hp),PE (X.block (x :: caps) scope cl C fp s H) elt te)
  (hcell:∀ p∈scope.names,p.2≠.cell) (hnames:∀ p∈scope.names,p.2=.local->scope.names.lookup p.1=some .local) (hnd:(x :: caps).Nodup)
  (hsub:∀ p∈cl,X.env.cells.lookup p.1=some p.2)
  (hhas:freeOk scope cl=true:=by rfl) (hlen:caps.length=js.length:=by rfl) (hcaps:capsOk X scope cl caps js=true:=by rfl)
  (hkind:scope.kind=.function:=by rfl) (hx:scope.names.lookup x=some .local:=by rfl) (hs:∀ v,foldedSetIterable iter X.env v=pure v:=by intro _;rfl) :
  PE X (.ListComp elt [⟨.Name x px,iter,ifs,0⟩] scope pos) (tLC wi tc te js):=by
 intro pins s σ H Q I h;rw [eval_ListComp];refine comp_core (use:=none) hc hp he ht hcell hnames hnd hsub (freeOk.get hhas) hlen (capsOk.get hlen hcaps) hclos hkind hx hs I h fun d H' s5 C J5 q hC fp=>?_;obtain ⟨m,nsC⟩:=hC;exact ⟨m,nsC,fun h' hs'=>⟨.ref d,H',J5.turned (h':=h') (t':=s5.toks) (it:=C) (fun b o hb e=>(hs'.2 b hb).trans e) fp.1 fp.2.1 fp.2.2.2.1 fp.2.2.2.2.1 fp.2.2.2.2.2,rfl,q⟩⟩
def tSetLC (t:TE) (i:Nat):TS:=fun D σ H=>t σ H fun v H'=>D.nx (σ.set i (some v)) H'
theorem ps_lc (hN:X.N.Nodup) (hi:X.N[i]?=some y) (hy:Loc X.env.scope y) (hc:X.calm=true) (hp:PI X (.Name x px) iter wi) (hclos:closureFor scope X.env=pure cl)
  (ht:∀ (C:Addr) (fp:List Addr) (s:Shared) (H:Hp),PTs (X.block (x :: caps) scope cl C fp s H) ifs tc)
  (he:∀ (C:Addr) (fp:List Addr) (s:Shared) (H:Hp),PE (X.block (x :: caps) scope cl C fp s H) elt te)
  (hcell:∀ p∈scope.names,p.2≠.cell) (hnames:∀ p∈scope.names,p.2=.local->scope.names.lookup p.1=some .local) (hnd:(x :: caps).Nodup)
  (hsub:∀ p∈cl,X.env.cells.lookup p.1=some p.2)
  (hhas:freeOk scope cl=true:=by rfl) (hlen:caps.length=js.length:=by rfl) (hcaps:capsOk X scope cl caps js=true:=by rfl)
  (hf:X.fn y=true\/X.env.scope.names.lookup y=some .local:=by first | exact .inl rfl | exact .inr rfl | assumption)
  (hsw:swapsWith (.ListComp elt [⟨.Name x px,iter,ifs,0⟩] scope pos) (some (.Name y py)) spos.line X.env=pure true:=by rfl)
  (hkind:scope.kind=.function:=by rfl) (hx:scope.names.lookup x=some .local:=by rfl) (hs:∀ v,foldedSetIterable iter X.env v=pure v:=by intro _;rfl) :
  PS X (.Assign [.Name y py] (.ListComp elt [⟨.Name x px,iter,ifs,0⟩] scope pos) spos) (tSetLC (tLC wi tc te js) i):=by
 intro pins s σ H D I h;rw [exec_Assign_Name_used _ _ _ _ hsw];refine wpAny_bind (wpAny_standAt (wpAny_bind ?_));show wpAny _ X.A (do let _ <- comprehension (.ListComp elt [⟨.Name x px,iter,ifs,0⟩] scope pos) scope X.env _ (newList []) false (eval iter X.env) (some (assign (.Name y py) X.env))) _ _ s;refine wpAny_bind (wpAny_mono (comp_core (use:=some (assign (.Name y py) X.env)) (QV:=fun _ s'=>SP X pins D .next s') hc hp he ht hcell hnames hnd hsub (freeOk.get hhas) hlen (capsOk.get hlen hcaps) hclos hkind hx hs I h fun d H' s5 C J5 q hC fp=>?_)
  (fun _ s' hq=>wpAny_pure (wpAny_pure hq)) fun _ _ e=>e)
 obtain ⟨mC,nsC⟩:=hC;show wpAny _ X.A (assign (.Name y py) X.env (.ref d)) _ _ s5;refine wpAny_assign_Name ?_;refine store_ok2 J5 hN hi hy (v:=.ref d) rfl (fun s6 I6 keep6=>?_) hf;obtain ⟨a,sa,ha⟩:=keep6;have aC:a≠C:=by
  rcases ha with e | e
  ·rw [e];exact Ne.symm fp.2.1
  ·exact fp.2.2.2.2.1 y a e
 exact ⟨mC,nsC.sameBut sa (Ne.symm aC),fun h' hs'=>⟨_,H',I6.turned (h':=h') (t':=s6.toks) (it:=C) (fun b o hb e=>(hs'.2 b hb).trans e) fp.1 fp.2.1 fp.2.2.2.1 fp.2.2.2.2.1 fp.2.2.2.2.2,q⟩⟩
end
theorem lc_over {J:It} {H1:Hp} {tc:TT} {te:TE} {σ:St} {js:List Nat} {Q:VK} {d:Addr} (n:Nat) (g:Nat->Bool) (f:Nat->V) (hd:H1 d=none) (hn:n<=1000)
  (hgo:∀ i H,i < n->Same H1 H->J.go i H) (hst:∀ H,Same H1 H->J.stop n H) (vv:Nat->V) (hy:∀ i H v H',i < n->Same H1 H->J.yld i H v H'->H'=H/\v=vv i)
  (hs:∀ i H Qt,i < n->Same H1 H->(∀ H',Same H H'->Qt (g i) H')->tc (some (vv i) :: capv σ js) H Qt)
  (he:∀ i H Qe,i < n->g i=true->Same H1 H->(∀ H',Same H H'->Qe (f i) H')->te (some (vv i) :: capv σ js) H Qe)
  (hq:∀ H',Same H1 H'->H' d=some (.lst (((List.range n).filter g).map f))->Q (.ref d) H') :
  ∃ W:Nat->Nat->List V->Hp->Prop,(∃ m,W 0 m [] (upd H1 d (.lst [])))/\
   ∀ i m ys H2,W i m ys H2->H2 d=some (.lst ys)/\((J.stop i H2/\Q (.ref d) H2)\/(J.go i H2/\ys.length < sizeLine/\∀ v H3,J.yld i H2 v H3->
    tc (some v :: capv σ js) H3 fun b H4=>if b=true then te (some v :: capv σ js) H4 fun y H5=>H5 d=some (.lst ys)/\∃ m',m' < m/\W (i + 1) m' (ys ++ [y]) (upd H5 d (.lst (ys ++ [y])))
     else ∃ m',m' < m/\W (i + 1) m' ys H4)):=by
 have s0:∀ o,Same H1 (upd H1 d o):=fun o b u e=>by rw [Jg (Jd e hd)];exact e
 refine ⟨fun i m ys H=>m=n - i/\i<=n/\ys=((List.range i).filter g).map f/\Same H1 H/\H d=some (.lst ys),⟨n,rfl,Nat.zero_le _,rfl,s0 _,J3⟩,?_⟩;rintro i m ys H2 ⟨rfl,hi,rfl,sm,h2⟩;refine ⟨h2,?_⟩;by_cases hlt:i < n
 ·refine .inr ⟨hgo i H2 hlt sm,?_,fun v H3 y3=>?_⟩
  ·have h1:(((List.range i).filter g).map f).length<=i:=by
    rw [length_map];exact Nat.le_trans (List.length_filter_le _ _) (by rw [length_range];exact Nat.le_refl _)
   exact J1e (by omega)
  ·obtain ⟨rfl,rfl⟩:=hy i H2 v H3 hlt sm y3;refine hs i H3 _ hlt sm fun H4 s4=>?_
   cases hg:g i with
   | false =>
    rw [if_neg (by decide)];refine ⟨n - (i + 1),by omega,rfl,hlt,?_,sm.trans s4,s4 _ _ h2⟩;rw [range_succ,filter_append,map_append];simp [hg]
   | true =>
    rw [if_pos rfl];refine he i H4 _ hlt hg (sm.trans s4) fun H5 s5=>⟨s5 _ _ (s4 _ _ h2),n - (i + 1),by omega,rfl,hlt,?_,?_,J3⟩
    ·rw [range_succ,filter_append,map_append];simp [hg]
    ·intro b u e;rw [Jg (Jd e hd)];exact s5 _ _ (s4 _ _ (sm _ _ e))
 ·have e:i=n:=by omega
  subst e;exact .inl ⟨hst H2 sm,hq H2 sm h2⟩
theorem Same.tup {K:Frag} {H H':Hp} {a:Addr} {xs:List V} (e:Same H H') (h:SqT K H a xs):SqT K H' a xs:=by
 rcases h with (h | ⟨o,h⟩) | h
 ·exact .inl (.inl (e _ _ h))
 ·exact .inl (.inr ⟨o,e _ _ h⟩)
 ·exact .inr h
theorem pick_all {α:Type} (G:α->Bool) (F:α->V):∀ xs:List α,
  ((List.range xs.length).filter fun i=>match xs[i]? with | some v=>G v | none=>false).map (fun i=>match xs[i]? with | some v=>F v | none=>V.non)=(xs.filter G).map F
 | []=>rfl
 | a :: r=>by
  have ih:=pick_all G F r;rw [length_cons,List.range_succ_eq_map,filter_cons,List.filter_map,filter_cons];have e:(fun i=>match (a :: r)[i]? with | some v=>G v | none=>false) ∘ Nat.succ=fun i=>match r[i]? with | some v=>G v | none=>false:=by
   funext i;simp
  have e2:(fun i=>match (a :: r)[i]? with | some v=>F v | none=>V.non) ∘ Nat.succ=fun i=>match r[i]? with | some v=>F v | none=>V.non:=by
   funext i;simp
  rw [e]
  cases hg:G a with
  | true =>
   simp only [List.getElem?_cons_zero,hg,if_true,map_cons,map_map];rw [e2,ih]
  | false =>
   simp only [List.getElem?_cons_zero,hg,Bool.false_eq_true,if_false,map_map];rw [e2,ih]
section
variable {α:Type} {K:Frag} {a:Addr} {H1:Hp} {tc:TT} {te:TE} {σ:St} {js:List Nat} {Q:VK} {d:Addr}
theorem lc_seq {J:It} (e:α->V) (xs:List α) (G:α->Bool) (F:α->V) (hn:xs.length<=1000) (hd:H1 d=none)
  (hgo:∀ i H,i < xs.length->Same H1 H->J.go i H) (hst:∀ H,Same H1 H->J.stop xs.length H) (hy:∀ i H v H',i < xs.length->Same H1 H->J.yld i H v H'->H'=H/\(xs.map e)[i]?=some v)
  (hs:∀ v∈xs,∀ H Qt,Same H1 H->(∀ H',Same H H'->Qt (G v) H')->tc (some (e v) :: capv σ js) H Qt)
  (he:∀ v∈xs,∀ H Qe,G v=true->Same H1 H->(∀ H',Same H H'->Qe (F v) H')->te (some (e v) :: capv σ js) H Qe)
  (hq:∀ H',Same H1 H'->H' d=some (.lst ((xs.filter G).map F))->Q (.ref d) H'):LCW J tc te σ js Q H1 d:=by
 have at_:∀ i,i < xs.length->∃ v,xs[i]?=some v/\v∈xs:=fun i hi=>⟨_,List.getElem?_eq_getElem hi,List.getElem_mem hi⟩
 refine lc_over xs.length (fun i=>match xs[i]? with | some v=>G v | none=>false) (fun i=>match xs[i]? with | some v=>F v | none=>V.non) hd hn hgo hst (fun i=>((xs.map e)[i]?).getD .non)
  (fun i H v H' hi s y=>?_) (fun i H Qt hi s k=>?_) (fun i H Qe hi hg s k=>?_) (fun H' s h=>?_)
 ·obtain ⟨e1,e2⟩:=hy i H v H' hi s y;exact ⟨e1,by rw [e2];rfl⟩
 ·obtain ⟨v,e1,hv⟩:=at_ i hi
  rw [getElem?_map,e1];refine hs v hv H Qt s fun H' s'=>?_;have:=k H' s';rw [e1] at this;exact this
 ·obtain ⟨v,e1,hv⟩:=at_ i hi
  rw [e1] at hg;rw [getElem?_map,e1];refine he v hv H Qe hg s fun H' s'=>?_;have:=k H' s';rw [e1] at this;exact this
 ·rw [pick_all] at h;exact hq H' s h
theorem lc_tup (e:α->V) (xs:List α) (G:α->Bool) (F:α->V) (hx:SqT K H1 a (xs.map e)) (hn:xs.length<=1000) (hd:H1 d=none)
  (hs:∀ v∈xs,∀ H Qt,Same H1 H->(∀ H',Same H H'->Qt (G v) H')->tc (some (e v) :: capv σ js) H Qt)
  (he:∀ v∈xs,∀ H Qe,G v=true->Same H1 H->(∀ H',Same H H'->Qe (F v) H')->te (some (e v) :: capv σ js) H Qe)
  (hq:∀ H',Same H1 H'->H' d=some (.lst ((xs.filter G).map F))->Q (.ref d) H'):LCW (Itt K a) tc te σ js Q H1 d :=
 lc_seq e xs G F hn hd (fun i H hi s=>⟨_,_,s.tup hx,by rw [getElem?_map,List.getElem?_eq_getElem hi];rfl⟩) (fun H s=>⟨_,s.tup hx,by rw [length_map];exact Nat.le_refl _⟩)
  (fun i H v H' hi s y=>⟨y.1,y.2 _ (s.tup hx)⟩) hs he hq
theorem lc_lst (e:α->V) (xs:List α) (G:α->Bool) (F:α->V) (hx:SqL K H1 a (xs.map e)) (hn:xs.length<=1000) (hd:H1 d=none)
  (hs:∀ v∈xs,∀ H Qt,Same H1 H->(∀ H',Same H H'->Qt (G v) H')->tc (some (e v) :: capv σ js) H Qt)
  (he:∀ v∈xs,∀ H Qe,G v=true->Same H1 H->(∀ H',Same H H'->Qe (F v) H')->te (some (e v) :: capv σ js) H Qe)
  (hq:∀ H',Same H1 H'->H' d=some (.lst ((xs.filter G).map F))->Q (.ref d) H'):LCW (Itl K a) tc te σ js Q H1 d :=
 lc_seq e xs G F hn hd (fun i H hi s=>⟨_,_,s.seq hx,by rw [getElem?_map,List.getElem?_eq_getElem hi];rfl⟩) (fun H s=>⟨_,s.seq hx,by rw [length_map];exact Nat.le_refl _⟩)
  (fun i H v H' hi s y=>⟨y.1,y.2 _ (s.seq hx)⟩) hs he hq
theorem lc_rng (lo:Int) (n:Nat) (G:Nat->Bool) (F:Nat->V) (hn:n<=1000) (hd:H1 d=none)
  (hs:∀ i,i < n->∀ H Qt,Same H1 H->(∀ H',Same H H'->Qt (G i) H')->tc (some (.int (lo + i)) :: capv σ js) H Qt)
  (he:∀ i,i < n->∀ H Qe,G i=true->Same H1 H->(∀ H',Same H H'->Qe (F i) H')->te (some (.int (lo + i)) :: capv σ js) H Qe)
  (hq:∀ H',Same H1 H'->H' d=some (.lst (((List.range n).filter G).map F))->Q (.ref d) H'):LCW (Itr lo n) tc te σ js Q H1 d :=
 lc_over n G F hd hn (fun i H hi _=>hi) (fun H _=>Nat.le_refl _) (fun i=>.int (lo + i)) (fun i H v H' hi _ y=>y) (fun i H Qt hi s k=>hs i hi H Qt s k) (fun i H Qe hi hg s k=>he i hi H Qe hg s k) hq
end
theorem J20 {α:Type} (xs:List α):xs.filter (fun _=>true)=xs:=List.filter_eq_self.mpr fun _ _=>rfl
theorem J50 {X:Cx} {a b:Expr} {pos:Pos} {ta tb:TE} {r:R2} (hr:IxR X r) (ha:PE X a ta) (hb:PE X b tb) (hs:PlainIx b:=by intro _ _;rfl):PE X (.Subscript a b pos) (tOp r ta tb):=pe_ix hr ha hb hs
end L2
namespace L2
open PySem PySem.Spec PyProof.Rows
section
variable {X:Cx}
def CBig (i j:Int):Prop:=i.natAbs < 2 ^ 4000/\j.natAbs < 2 ^ 4000
theorem bits_big {k:Int} (h:k.natAbs < 2 ^ 4000):Builtin.Int.intBits k<=2 ^ 20:=by
 unfold Builtin.Int.intBits;split
 ·exact Nat.zero_le _
 ·have:k.natAbs.log2 < 4000:=by
   rcases Nat.eq_zero_or_pos k.natAbs with h0 | hp
   ·rw [h0];decide
   ·exact (Nat.log2_lt (Nat.ne_of_gt hp)).mpr h
  have h2:(4001:Nat)<=2 ^ 20:=by decide
  lia
theorem J2l:OpR X (binaryOp .Mult) (rI CBig fun i j=>.int (i * j)):=opI fun _ _ _ _ _ _ _ hc q=>mul_int q (.of_bits (bits_big hc.1) (bits_big hc.2))
def CDivB (i j:Int):Prop:=0 < j/\j.natAbs < 2 ^ 4000
theorem J2q:OpR X (binaryOp .FloorDiv) (rI CDivB fun i j=>.int (i / j)):=opI fun i j _ _ _ _ _ hc q=>by
 have h1:(0:Int) < j:=hc.1;have h2:=hc.2;refine floordiv_int (by lia) (by rw [Int.fdiv_eq_ediv_of_nonneg i (by lia)];exact q) (.inl (PyProof.noPylong_of_log2 ?_));have h0:j.natAbs≠0:=by lia
 have:=(Nat.log2_lt h0).mpr h2;lia
def rIndexL (K:Frag):V->List V->Hp->VK->Prop:=fun x vs H Q=>∃ (l:Addr) (ns:List Int) (k:Int),x=.ref l/\vs=[.int k]/\SqL K H l (ns.map V.int)/\k∈ns/\Q (.int (ns.idxOf k:Nat)) H
theorem J5x:MtM X "list.index" (rIndexL X.K):=by
 intro pins s σ H x vs v us Q I rx rv h;obtain ⟨l,ns,k,rfl,rfl,hH,hk,q⟩:=h;cases rx;obtain ⟨u1,rfl,⟨t,rfl⟩⟩:=rv.one;obtain ⟨its,r',pl,hz⟩:=I.list hH;have hi:=J1z r';have hlen:=hi.length;obtain ⟨⟨cls,dd,data,sl⟩,ho,hc,n,hd⟩:=id pl.isList;simp only at hc hd;subst hc hd;have hj:ns.idxOf k < ns.length:=idxOf_lt_length_iff.mpr hk;have h63:=line63;rw [length_map] at hz;refine call_meets PySem.F.slot_list_index ⟨_,ho,rfl⟩ PySem.F.entry_list_index (PySem.F.args_list_index_2 _ _)
  (SeqAt.list_indexAt l its.toArray n dd sl (.int k t) (isInt k) (ns.idxOf k) (by simpa [hlen] using hj) (by lia) ?_ ?_) ⟨ho,fun y hy=>(eq_isInt k t hi y (by simpa using hy)).at _ _,⟨.int _,H,I.tok _,⟨_,rfl⟩,q⟩⟩
 ·show isInt k its[ns.idxOf k]=true;rw [isInt_at k hi _ (by lia) hj];simpa using getElem_idxOf hj
 ·intro j hjs hlt;show isInt k its[j]=false;rw [isInt_at k hi j (by simpa using hjs) (by lia)];exact ne_of_lt_idxOf hlt _
end
def HasM (P:Program) (w:World) (K:Frag) (mg:Str->Option Value) (base:Heap) (CX:CXT) (k:Nat) (m:Str) (ps:List Str) (sp:Sp) (C:Addr):Prop :=
 ∃ f fd,Cls K C/\Meth K C m f/\FnOk P w K mg base CX k f fd ps sp/\Binds K fd ps []
def tMethD {ι:Type} (m:Str) (cls:ι->Addr) (sp:ι->Sp) (E:XK) (ta:TE) (t:TA):TE:=fun σ H Q=>ta σ H fun x H1=>∃ a k dx fs,x=.ref a/\H1 a=some (.ins (cls k) dx fs)/\fs.lookup m=none/\
 t σ H1 fun vs H2=>sp k (x :: vs) H2 Q E
section
variable {X:Cx} {CX:CXT} {k:Nat} {f:Addr} {fd:FuncData} {ps:List Str} {ι:Type} {cls:ι->Addr} {sp:ι->Sp} {spB:Sp} {dvs:List V} {ds:List Value} {E:XK} {x m b:Str} {p pos apos:Pos} {e o:Expr} {es:List Expr} {ta:TE} {t:TA} {B:Addr} {mc:Value}
theorem J3q {pl:Sem Bool} (he:PE X o ta) (hM:∀ i,HasM X.prog X.w X.K X.mg X.base CX k m ps (sp i) (cls i)) (hr:Room k X.A) (hx:J53 CX X E) (ha:PA X (e :: es) t)
  (hst:starEach (e :: es) X.env=(false,eval e X.env) :: starEach es X.env:=by rfl) (hpl:(backTo pos (starEach es X.env)).any (·.1)=false:=by rfl)
  (ht:eval (.Call (.Attribute o m apos) (e :: es) [] pos) X.env=(do
   let ov <- eval o X.env
   standAt apos.atName
   let (f,first) <- holding [ov] (getMethod ov m pl)
   callWith pos f first (backTo pos (starEach (e :: es) X.env)) (backToKw pos (keywordEach [] X.env))):=by rfl) :
  PE X (.Call (.Attribute o m apos) (e :: es) [] pos) (tMethD m cls sp E ta t):=by
 intro pins s σ H Q I h;refine methodCall_KW (pl:=pl) (thn (he pins s σ H _ I h) fun u s1 h9=>?_) ht;obtain ⟨x,H1,I1,rx,a,i,dx,fs,ex,ea,l,q⟩:=h9;subst ex;obtain rfl:u=Value.ref a:=rx;obtain ⟨f,fd,c,hm,F,hb⟩:=hM i;refine J6x I1 ea c hm l ?_;refine callWith_K (first:=[.ref a]) (h₀:=X.base) I.ok.mod.kin hm.kp (thn (ha pos pins s1 σ H1 _ I1 q) fun us s2 h9=>?_) hst hpl;obtain ⟨vs,H2,I2,r,q2⟩:=h9;refine ⟨I2.kIn,?_⟩;exact run_fn (us:=.ref a :: us) (vs:=.ref a :: vs) (dvs:=[]) F hr hb .nil hx I2 (.cons rfl r) (by rw [append_nil];exact q2)
theorem J2x {pl:Sem Bool} (he:PE X o ta) (hM:∀ i,HasM X.prog X.w X.K X.mg X.base CX k m ps (sp i) (cls i)) (hr:Room k X.A) (hx:J53 CX X E)
  (ht:eval (.Call (.Attribute o m apos) [] [] pos) X.env=(do
   let ov <- eval o X.env
   standAt apos.atName
   let (f,first) <- holding [ov] (getMethod ov m pl)
   callWith pos f first (backTo pos (starEach [] X.env)) (backToKw pos (keywordEach [] X.env))):=by rfl) :
  PE X (.Call (.Attribute o m apos) [] [] pos) (tMethD m cls sp E ta tNil):=by
 intro pins s σ H Q I h;refine methodCall_KW (pl:=pl) (thn (he pins s σ H _ I h) fun u s1 h9=>?_) ht;obtain ⟨x,H1,I1,rx,a,i,dx,fs,ex,ea,l,q⟩:=h9;subst ex;obtain rfl:u=Value.ref a:=rx;obtain ⟨f,fd,c,hm,F,hb⟩:=hM i;refine J6x I1 ea c hm l ?_;exact PySem.W.callWith_K0 (first:=[.ref a]) I1.kIn hm.kp (run_fn (us:=[.ref a]) (vs:=[.ref a]) (dvs:=[]) F hr hb .nil hx I1 (.cons rfl .nil) q)
structure BaseM (K:Frag) (B:Addr) (m:Str) (f:Addr):Prop where
 sp:specialIn K (.ref B) "__getattribute__"=some (some (.builtin "type.__getattribute__"))
 rd:readsIn K B (.type "type")=true
 fd:findCls K (.ref B) (.type "type") m=some (.val (.ref f))
 kp:keepIn K (.ref f)=true
theorem J59 {pl:Sem Bool} (M:BaseM X.K B m f) (hgB:Gl X b) (hmB:X.mg b=some (.ref B)) (F:FnOk X.prog X.w X.K X.mg X.base CX k f fd ps spB) (hr:Room k X.A) (hb:Binds X.K fd ps ds) (hd:Vals dvs ds) (hx:J53 CX X E) (ha:PA X (e :: es) t)
  (hdb:(b == ("__debug__":Str))=false:=by decide)
  (hst:starEach (e :: es) X.env=(false,eval e X.env) :: starEach es X.env:=by rfl) (hpl:(backTo pos (starEach es X.env)).any (·.1)=false:=by rfl)
  (ht:eval (.Call (.Attribute (.Name b p) m apos) (e :: es) [] pos) X.env=(do
   let ov <- eval (.Name b p) X.env
   standAt apos.atName
   let (f,first) <- holding [ov] (getMethod ov m pl)
   callWith pos f first (backTo pos (starEach (e :: es) X.env)) (backToKw pos (keywordEach [] X.env))):=by rfl) :
  PE X (.Call (.Attribute (.Name b p) m apos) (e :: es) [] pos) (tCall spB dvs E t):=by
 intro pins s σ H Q I h;refine methodCall_KW (pl:=pl) (J6u I hgB hmB ?_ hdb) ht;refine PySem.W.method_cls I.kIn M.sp (PySem.W.cls_value I.kIn M.rd M.fd rfl ?_);have I1:=I.tok (s.toks + 1);refine callWith_K (first:=[]) (h₀:=X.base) I.ok.mod.kin M.kp (thn (ha pos pins _ σ H _ I1 h) fun us s2 h9=>?_) hst hpl;obtain ⟨vs,H2,I2,r,q2⟩:=h9;refine ⟨I2.kIn,?_⟩;exact run_fn (us:=us) (vs:=vs) F hr hb hd hx I2 r q2
end
def Its (lo c:Int) (n:Nat):It:=⟨fun i _=>i < n,fun i H x H'=>H'=H/\x=.int (lo + (i:Nat) * c),fun i _=>n<=i⟩
theorem J6f {P:Program} {w:World} {K:Frag} {tg:Expr} (nu:Addr) (lo c:Int) (n:Nat):Turn P w K tg (Its lo c n) [nu] nu (fun i h=>IsRangeIter h nu (lo + (i:Nat) * c) ((n:Int) - (i:Nat)) c) where
 mem:=by simp
 obj:=fun i h st b hb=>by
  obtain rfl:b=nu:=by simpa using hb
  exact ⟨_,st,fun v z=>by
   have q:Data.fields _=Data.cell v:=z;cases q⟩
 keep:=fun i h h' st k=>k nu (by simp) _ st
 item:=by
  intro X hP hw hK hc i pins s σ H E I hf st hg;subst hP hw hK;obtain ⟨f0,f1,f2,f3,f4,f5⟩:=hf nu (by simp);refine (Walks.range (prog:=X.prog) (w:=X.w) (I.ok.hd hc) nu lo c n).item i s _ _ hg st fun v h' tk hv st' kk=>?_;obtain ⟨t,rfl⟩:=hv;have J:Inv X pins σ H { s with heap:=h',toks:=tk }:=I.turned (fun b o hb e=>kk b o (by simpa using hb) e) f0 f1 f3 f4 f5;exact ⟨_,rfl,go_of (s:={ s with heap:=h',toks:=tk }) (n:="range_iterator") st' rfl rfl (by decide) ⟨.int (lo + (i:Nat) * c),H,J,⟨t,rfl⟩,⟨rfl,rfl⟩,st',fun b hb=>(hf b hb).1⟩⟩
 done:=by
  intro X hP hw hK hc i pins s σ H E I hf st hg;subst hP hw hK;obtain ⟨f0,f1,f2,f3,f4,f5⟩:=hf nu (by simp);have hg:n<=i:=hg;exact wpAny_pyNext_range_end (I.ok.hd hc) st (by lia) fun h' eb=>⟨rfl,I.turned (t':=s.toks) (fun b o hb e=>eb b o hb e) f0 f1 f3 f4 f5⟩
 self:=fun _ _ _ _ _ st h=>wpAny_pyIter_rangeiter st h
theorem J4b {c:Int} (hc:0 < c) (a b:Int):Builtin.Range.rangeSize a b c=if a < b then (b - a - 1) / c + 1 else 0:=by
 unfold Builtin.Range.rangeSize;rw [if_pos (show c > 0 from hc)]
end L2
namespace L2
open PySem PySem.Spec PyProof.Rows
theorem J4w {M:Model} {A:Around} {E:Value->Shared->Prop} {s:Shared} {β:Type} (k:Nat) (f:Nat->β->Sem (ForInStep β)) (I:Nat->β->Shared->Prop) (Q:β->Shared->Prop)
  (turn:∀ i b s,i < k->I i b s->wpAny M A (f i b) (fun r s'=>match r with | .yield b'=>I (i + 1) b' s' | .done b'=>Q b' s') E s)
  (fin:∀ b s,I k b s->Q b s) (b:β) (h:I 0 b s):wpAny M A (forIn ([0:k]:Std.Legacy.Range) b f) Q E s:=by
 rw [Std.Legacy.Range.forIn_eq_forIn_range'];simp only [Std.Legacy.Range.size,Nat.sub_zero,Nat.add_sub_cancel,Nat.div_one];refine wpAny_forIn_list _ (fun rest b s'=>∃ i,rest=List.range' i (k - i)/\i<=k/\I i b s') _ ?_ ?_ _ _ ⟨0,by simp,Nat.zero_le _,h⟩
 ·rintro x rest b s' ⟨i,hr,hi,hI⟩;have hlt:i < k:=by
   rcases Nat.lt_or_ge i k with q | q
   ·exact q
   ·rw [Nat.sub_eq_zero_of_le q] at hr;simp at hr
  obtain ⟨rfl,hrest⟩:x=i/\rest=List.range' (i + 1) (k - (i + 1)):=by
   have e:k - i=(k - (i + 1)) + 1:=by omega
   rw [e,List.range'_succ] at hr;injection hr with h1 h2
   exact ⟨h1,h2⟩
  refine wpAny_mono (turn x b s' hlt hI) (fun r s2 hr2=>?_) fun _ _ z=>z
  cases r with
  | done b'=>exact hr2
  | yield b'=>exact ⟨x + 1,hrest,hlt,hr2⟩
 ·rintro b s' ⟨i,hr,hi,hI⟩;have:i=k:=by
   have:=congrArg List.length hr;simp at this;omega
  subst this;exact fin b s' hI
theorem J6g (l:Addr) (items:Array Value) (n:Nat) (dd:Option Addr) (sl:Array (Option Value)) (x:Value) (e:Value->Bool) (j:Nat) (hj:j < items.size)
  (hit:e items[j]=true) (hno:∀ m (hm:m < items.size),m < j->e items[m]=false) :
  Meets (Builtin.«tuple.index» ⟨[.ref l,x],[]⟩)
   (fun A R s=>s.heap.get? l=some { cls:=.type "tuple",dict:=dd,data:=.seq items n,slots:=sl }/\(∀ y,y∈items->SeqAt.EqAt A.in1 s y x (e y))/\R (.ok (.ret (.int j s.toks))) { s with toks:=s.toks + 1 }) :=
 .of_wp fun prog w A R s h=>by
  obtain ⟨hp,g,d,tk,os⟩:=s;obtain ⟨hl,he,h⟩:=h
  wp_walk using AutoSeq1.wpAny_loadPart' hl,J4w _ _ (fun i b s'=>b=(none,())/\s'=⟨hp,g,d,tk,os⟩/\i<=j) _
  case turn =>
   rintro i b s' hi ⟨rfl,rfl,hij⟩;have hi':i < items.size:=by simpa using hi
   dsimp only;rw [Array.getElem?_eq_getElem hi'];refine wpAny_bind (he _ (Array.getElem_mem hi') prog w _ _ ?_);rcases Nat.lt_or_ge i j with q | q
   ·rw [hno i hi' q]
    wp_walk
    exact ⟨rfl,rfl,q⟩
   ·have:i=j:=by omega
    subst this;rw [hit]
    wp_walk
    exact ⟨_,rfl,h⟩
  case fin =>
   rintro b s' ⟨rfl,rfl,hij⟩;exfalso;simp at hij;omega
  case h=>exact ⟨rfl,rfl,Nat.zero_le _⟩
def rIndexT:V->List V->Hp->VK->Prop:=fun x vs H Q=>∃ (l:Addr) (ns:List Int) (k:Int),x=.ref l/\vs=[.int k]/\H l=some (.tup (ns.map V.int))/\k∈ns/\Q (.int (ns.idxOf k:Nat)) H
theorem mt_indexT {X:Cx}:MtM X "tuple.index" rIndexT:=by
 intro pins s σ H x vs v us Q I rx rv h;obtain ⟨l,ns,k,rfl,rfl,hH,hk,q⟩:=h;cases rx;obtain ⟨u1,rfl,⟨t,rfl⟩⟩:=rv.one;obtain ⟨its,r',pl,hz⟩:=I.tuple (SqT.of hH);have hi:=J1z r';have hlen:=hi.length;obtain ⟨⟨cls,dd,data,sl⟩,ho,hc,n,hd⟩:=id pl;simp only at hc hd;subst hc hd;have hj:ns.idxOf k < ns.length:=idxOf_lt_length_iff.mpr hk;refine call_meets PySem.F.slot_tuple_index ⟨_,ho,rfl⟩ PySem.F.entry_tuple_index (PySem.F.args_tuple_index_2 _ _)
  (J6g l its.toArray n dd sl (.int k t) (isInt k) (ns.idxOf k) (by simpa [hlen] using hj) ?_ ?_) ⟨ho,fun y hy=>(eq_isInt k t hi y (by simpa using hy)).at _ _,⟨.int _,H,I.tok _,⟨_,rfl⟩,q⟩⟩
 ·show isInt k its[ns.idxOf k]=true;rw [isInt_at k hi _ (by omega) hj];simpa using getElem_idxOf hj
 ·intro j hjs hlt;show isInt k its[j]=false;rw [isInt_at k hi j (by simpa using hjs) (by omega)];exact ne_of_lt_idxOf hlt _
def tBMT (r:V->List V->Hp->VK->Prop) (to:TE) (t:TA):TE:=fun σ H Q=>to σ H fun x H1=>(∃ p xs,x=.ref p/\H1 p=some (.tup xs))/\t σ H1 fun xs H2=>r x xs H2 Q
theorem pe_bmT {X:Cx} {o e:Expr} {es:List Expr} {to:TE} {t:TA} {name:Str} {apos cpos:Pos} {id:String} {r:V->List V->Hp->VK->Prop} (slot:Slot "tuple" name id) (hty:typeOf (.builtin id)=pure (.type "method_descriptor")) (hm:MtR X id r) (ho:PE X o to) (ha:PA X (e :: es) t)
  (hbase:attributeBase o name X.env (eval o X.env)=eval o X.env:=by rfl)
  (hfew:((backTo cpos (starEach (e :: es) X.env)).all (fun x=>!x.1) && (backToKw cpos (keywordEach [] X.env)).all (fun x=>x.1.isSome)
   && decide ((e :: es).length + ([]:List Keyword).length + (if ([]:List Keyword).isEmpty then 0 else 1) < 30))=true:=by rfl)
  (hline:(apos.endLine == cpos.line)=true:=by rfl) (hs:starEach (e :: es) X.env=(false,eval e X.env) :: starEach es X.env:=by rfl) (hplain:(backTo cpos (starEach es X.env)).any (·.1)=false:=by rfl) :
  PE X (.Call (.Attribute o name apos) (e :: es) [] cpos) (tBMT r to t):=by
 intro pins s σ H Q I h;refine wpAny_Call_method_late hbase hfew hline rfl (thn (ho pins s σ H _ I h) fun v s1 h9=>?_);obtain ⟨x,H1,I1,r1,ty,q1⟩:=h9;obtain ⟨p,xs,rfl,hp⟩:=ty;obtain rfl:v=Value.ref p:=r1;obtain ⟨_,its,_,o,e1,⟨c1,c2⟩,_⟩:=(show ObjOk X.prog X.w H1 s1.heap p (.tup xs) from I1.hok p _ hp);refine ⟨"tuple",id,PySem.F.plainAttrs_tuple,slot,hty,⟨o,e1,c1⟩,fun a e2=>by cases e2;exact ⟨o,e1,c2⟩,?_⟩;have hA:=ha cpos pins s1 σ H1 _ I1 q1;rw [hs] at hA ⊢;refine Calls.callWith_builtin (by show (false || (backTo cpos (starEach es X.env)).any (·.1))=false;rw [hplain] <;> rfl) (Calls.evalArgs_plain ?_);exact thn hA fun us s2 h9=>by obtain ⟨vs,H2,I2,r2,q2⟩:=h9;exact hm pins s2 σ H2 (.ref p) vs (.ref p) us Q I2 rfl r2 q2
section
variable {X:Cx}
theorem J7r (K:Frag) (h:X.K=K:=by rfl):IxR X (rIxL K):=by subst h;exact J27
theorem J4p (K:Frag) (h:X.K=K:=by rfl):IxR X (rIxT K):=by subst h;exact Ji
theorem pe_flK {e:Expr} {f:Str} {pos:Pos} {ta:TE} (K:Frag) (he:PE X e ta) (h:X.K=K:=by rfl) (hb:attributeBase e f X.env (eval e X.env)=eval e X.env:=by rfl):PE X (.Attribute e f pos) (tFld K ta f):=by subst h;exact J9 he hb
end
end L2
namespace L2
open PySem PySem.Spec PyProof.Rows
end L2
namespace L2
open PySem PySem.Spec PyProof.Rows
structure Refs (Pr:Addr->Nat->Prop) (xs:List V) (n:Nat):Prop where
 len:xs.length=n
 at_:∀ i,i < n->∃ q,xs[i]?=some (.ref q)/\Pr q i
theorem Refs.nil {Pr:Addr->Nat->Prop}:Refs Pr [] 0:=⟨rfl,fun i h=>absurd h (Nat.not_lt_zero _)⟩
theorem Refs.snoc {Pr:Addr->Nat->Prop} {xs:List V} {n:Nat} {q:Addr} (h:Refs Pr xs n) (hq:Pr q n):Refs Pr (xs ++ [.ref q]) (n + 1):=by
 refine ⟨by rw [length_append,h.len];rfl,fun i hi=>?_⟩;by_cases c:i < n
 ·obtain ⟨p,e,hp⟩:=h.at_ i c;exact ⟨p,by rw [List.getElem?_append_left (by rw [h.len];exact c)];exact e,hp⟩
 ·have e:i=n:=by lia
  subst e;refine ⟨q,?_,hq⟩;rw [List.getElem?_append_right (by rw [h.len];exact Nat.le_refl _),h.len,Nat.sub_self];rfl
theorem Refs.mono {Pr Pr':Addr->Nat->Prop} {xs:List V} {n:Nat} (h:Refs Pr xs n) (m:∀ q i,i < n->Pr q i->Pr' q i):Refs Pr' xs n :=
 ⟨h.len,fun i hi=>by obtain ⟨q,e,p⟩:=h.at_ i hi;exact ⟨q,e,m q i hi p⟩⟩
def KeepD (d:Addr) (H H':Hp):Prop:=∀ b o,H b=some o->b≠d->H' b=some o
end L2
namespace PySem
namespace F
end F
end PySem
namespace L2
open PySem PyProof.Rows
end L2
namespace Rl
def cellN (ns:List Int) (k:Nat):Int:=ns.getD k 0
def drawL (ns:List Int) (many:Nat) (top:Int):List Int:=(List.range many).map fun k=>1 + cellN ns (2 + k) % top
def insAt (xs:List Nat) (i y:Nat):List Nat:=xs.take i ++ y :: xs.drop i
def spotO (ns:List Int) (many k:Nat):Nat:=(cellN ns (2 + many + k) % ((k:Int) + 1)).toNat
def drawO (ns:List Int) (many:Nat):Nat->List Nat
 | 0=>[]
 | k + 1=>insAt (drawO ns many k) (spotO ns many k) k
theorem spotO_le (ns:List Int) (many k:Nat):spotO ns many k<=k/\((spotO ns many k:Nat):Int)=cellN ns (2 + many + k) % ((k:Int) + 1):=by
 unfold spotO;have h1:0<=cellN ns (2 + many + k) % ((k:Int) + 1):=Int.emod_nonneg _ (by lia);have h2:cellN ns (2 + many + k) % ((k:Int) + 1) < (k:Int) + 1:=Int.emod_lt_of_pos _ (by lia);lia
theorem insAt_perm (xs:List Nat) (i y:Nat):(insAt xs i y).Perm (y :: xs):=by
 unfold insAt;have h:(xs.take i ++ y :: xs.drop i).Perm (y :: (xs.take i ++ xs.drop i)):=List.perm_middle;rwa [take_append_drop] at h
theorem J4r (ns:List Int) (many:Nat):∀ k,(drawO ns many k).Perm (List.range k)
 | 0=>List.Perm.refl _
 | k + 1=>by
  have h1:=insAt_perm (drawO ns many k) (spotO ns many k) k;have h2:(k :: drawO ns many k).Perm (k :: List.range k):=(J4r ns many k).cons k;have h3:(k :: List.range k).Perm (List.range (k + 1)):=by
   rw [range_succ];exact (List.perm_append_singleton k (List.range k)).symm
  exact h1.trans (h2.trans h3)
theorem drawO_len (ns:List Int) (many k:Nat):(drawO ns many k).length=k:=by
 rw [(J4r ns many k).length_eq,length_range]
theorem drawL_len (ns:List Int) (many:Nat) (top:Int):(drawL ns many top).length=many:=by simp [drawL]
theorem drawL_mem {ns:List Int} {many:Nat} {top:Int} (ht:0 < top):∀ a∈drawL ns many top,1<=a/\a<=top:=fun a h=>by
 obtain ⟨k,_,rfl⟩:=mem_map.mp h;have h1:=Int.emod_nonneg (cellN ns (2 + k)) (Int.ne_of_gt ht);have h2:=Int.emod_lt_of_pos (cellN ns (2 + k)) ht;lia
theorem sum_le {b:Int}:∀ (xs:List Int),(∀ a∈xs,a<=b)->xs.sum<=(xs.length:Int) * b
 | [],_=>by simp
 | x :: xs,h=>by
  have h1:=h x mem_cons_self;have h2:=sum_le xs fun a ha=>h a (mem_cons_of_mem _ ha);rw [sum_cons,length_cons];have e:(((xs.length + 1:Nat):Int)) * b=(xs.length:Int) * b + b:=by
   rw [Int.natCast_add,Int.add_mul];simp
  lia
theorem mul_top {n:Nat} {b:Int} (hn:n<=24) (hb:0<=b):(n:Int) * b<=24 * b:=Int.mul_le_mul_of_nonneg_right (by lia) hb
def sumsF (ls:List Int) (os:List Nat):Nat->List Int × Int
 | 0=>(List.replicate ls.length 0,0)
 | i + 1=>((sumsF ls os i).1.set (os.getD i 0) (sumsF ls os i).2,(sumsF ls os i).2 + ls.getD (os.getD i 0) 0)
theorem J3x (ls:List Int) (os:List Nat):∀ i,(sumsF ls os i).1.length=ls.length
 | 0=>by simp [sumsF]
 | i + 1=>by
  show ((sumsF ls os i).1.set _ _).length=_;rw [length_set];exact J3x ls os i
def firsts (ls:List Int) (os:List Nat):List Int:=(sumsF ls os os.length).1
theorem J6y (ls:List Int) (os:List Nat):(firsts ls os).length=ls.length:=J3x ls os _
theorem J55:∀ {xs ys:List Int},xs.Perm ys->xs.Pairwise (·<=·)->ys.Pairwise (·<=·)->xs=ys
 | [],ys,h,_,_=>(List.Perm.nil_eq h)
 | x :: xs,[],h,_,_=>absurd h.length_eq (by simp)
 | x :: xs,y :: ys,h,hx,hy=>by
  have hx':=List.pairwise_cons.mp hx;have hy':=List.pairwise_cons.mp hy;have m1:x∈y :: ys:=h.mem_iff.mp mem_cons_self;have m2:y∈x :: xs:=h.mem_iff.mpr mem_cons_self;have e:x=y:=by
   rcases mem_cons.mp m1 with e | m1
   ·exact e
   ·rcases mem_cons.mp m2 with e | m2
    ·exact e.symm
    ·have a:=hx'.1 y m2;have b:=hy'.1 x m1;lia
  subst e;rw [J55 h.cons_inv hx'.2 hy'.2]
def natI (os:List Nat):List Int:=os.map fun (n:Nat)=>(n:Int)
theorem J7i (n:Nat):(natI (List.range n)).Pairwise (·<=·):=by
 unfold natI;rw [pairwise_map];exact List.pairwise_lt_range.imp fun h=>by lia
theorem J7a {os:List Nat} {n:Nat} {ns':List Int} (hp:os.Perm (List.range n)) (h1:ns'.Perm (natI os)) (h2:ns'.Pairwise (·<=·)):ns'=natI (List.range n) :=
 J55 (h1.trans (hp.map _)) h2 (J7i n)
end Rl
namespace Rl
def J16 (ls:List Int) (os:List Nat) (i:Nat):Int:=(sumsF ls os i).2
theorem J1v (ls:List Int) (os:List Nat):J16 ls os 0=0:=rfl
theorem J17 (ls:List Int) (os:List Nat) (i:Nat):J16 ls os (i + 1)=J16 ls os i + ls.getD (os.getD i 0) 0:=rfl
structure Ord (ls:List Int) (os:List Nat):Prop where
 pos:∀ a∈ls,1<=a
 perm:os.Perm (List.range ls.length)
theorem Ord.range {ls:List Int} {os:List Nat} (h:Ord ls os):Ord ls (List.range ls.length):=⟨h.pos,List.Perm.refl _⟩
theorem Ord.len {ls:List Int} {os:List Nat} (h:Ord ls os):os.length=ls.length:=by rw [h.perm.length_eq,length_range]
theorem J1k {os:List Nat} {i:Nat} (h:i < os.length):os.getD i 0∈os:=by
 rw [getD_eq_getElem?_getD,List.getElem?_eq_getElem h];exact List.getElem_mem h
theorem getD_memI {ls:List Int} {i:Nat} (h:i < ls.length):ls.getD i 0∈ls:=by
 rw [getD_eq_getElem?_getD,List.getElem?_eq_getElem h];exact List.getElem_mem h
theorem Ord.lt {ls:List Int} {os:List Nat} (h:Ord ls os) {i:Nat} (hi:i < ls.length):os.getD i 0 < ls.length :=
 mem_range.mp (h.perm.mem_iff.mp (J1k (by rw [h.len];exact hi)))
theorem Ord.one {ls:List Int} {os:List Nat} (h:Ord ls os) {j:Nat} (hj:j < ls.length):1<=ls.getD j 0:=h.pos _ (getD_memI hj)
theorem Ord.step {ls:List Int} {os:List Nat} (h:Ord ls os) {i:Nat} (hi:i < ls.length):J16 ls os i < J16 ls os (i + 1):=by
 have:=h.one (h.lt hi);rw [J17];lia
theorem Ord.mono {ls:List Int} {os:List Nat} (h:Ord ls os) {i:Nat}:∀ {k:Nat},i<=k->k<=ls.length->J16 ls os i<=J16 ls os k
 | 0,h1,_=>by rw [Nat.le_zero.mp h1];exact Int.le_refl _
 | k + 1,h1,h2=>by
  by_cases e:i=k + 1
  ·rw [e];exact Int.le_refl _
  ·have a:=h.mono (i:=i) (k:=k) (by lia) (by lia);have b:=h.step (i:=k) (by lia);lia
theorem set_get (f:List Int) (p q:Nat) (v:Int) (hp:p < f.length):(f.set p v).getD q 0=if q=p then v else f.getD q 0:=by
 rw [getD_eq_getElem?_getD,getD_eq_getElem?_getD];by_cases e:q=p
 ·subst e;rw [List.getElem?_set_self hp,if_pos rfl];rfl
 ·rw [getElem?_set_ne (Ne.symm e),if_neg e]
theorem J23 (ls:List Int):(List.range ls.length).map (fun j=>ls.getD j 0)=ls:=by
 apply List.ext_getElem?;intro k;rw [getElem?_map];by_cases hk:k < ls.length
 ·rw [getElem?_range hk,List.getElem?_eq_getElem hk];show some (ls.getD k 0)=_;rw [getD_eq_getElem?_getD,List.getElem?_eq_getElem hk];rfl
 ·rw [getElem?_eq_none (by simpa using hk),getElem?_eq_none (by lia)];rfl
theorem J35 (ls:List Int) (os:List Nat):∀ i,i<=os.length->J16 ls os i=((os.take i).map fun j=>ls.getD j 0).sum
 | 0,_=>by simp [J1v]
 | i + 1,h=>by
  rw [J17,J35 ls os i (by lia),List.take_succ,List.getElem?_eq_getElem (by lia)];simp only [Option.toList_some,map_append,map_cons,map_nil,sum_append,sum_cons,List.sum_nil];rw [getD_eq_getElem?_getD (l:=os),List.getElem?_eq_getElem (by lia)];simp
theorem J7l {xs ys:List Int} (h:xs.Perm ys):xs.sum=ys.sum:=by
 induction h with
 | nil=>rfl
 | cons x _ ih=>rw [sum_cons,sum_cons,ih]
 | swap x y l=>rw [sum_cons,sum_cons,sum_cons,sum_cons];lia
 | trans _ _ a b=>exact a.trans b
theorem Ord.whole {ls:List Int} {os:List Nat} (h:Ord ls os):J16 ls os ls.length=ls.sum:=by
 rw [J35 ls os _ (by rw [h.len];exact Nat.le_refl _),List.take_of_length_le (by rw [h.len];exact Nat.le_refl _)];have p:(os.map fun j=>ls.getD j 0).Perm ((List.range ls.length).map fun j=>ls.getD j 0):=h.perm.map _;rw [J7l p,J23]
theorem J4q {S:Nat->Int} {x:Int}:∀ (k:Nat),S 0<=x->x < S k->∃ i,i < k/\S i<=x/\x < S (i + 1)
 | 0,h0,h1=>by lia
 | k + 1,h0,h1=>by
  by_cases e:x < S k
  ·obtain ⟨i,hi,q⟩:=J4q k h0 e;exact ⟨i,by lia,q⟩
  ·exact ⟨k,by lia,by lia,h1⟩
def moveN (ls:List Int) (ts:List Bool) (j:Nat) (off:Int) (fs:List Int):Int:=if ts.getD j false=true then fs.getD j 0 + ls.getD j 0 - 1 - off else fs.getD j 0 + off
end Rl
namespace Rl
def lenOf (ls:List Int) (row:List Nat):Int:=(row.map fun j=>ls.getD j 0).sum
theorem J30 (ls:List Int) (os:List Nat):J16 ls os os.length=lenOf ls os:=by
 rw [J35 ls os _ (Nat.le_refl _),List.take_length];rfl
theorem J1j (ls:List Int):lenOf ls []=0:=rfl
theorem Jj (ls:List Int) (j:Nat) (os:List Nat):lenOf ls (j :: os)=ls.getD j 0 + lenOf ls os:=by
 unfold lenOf;rw [map_cons,sum_cons]
theorem Je (ls:List Int) (xs ys:List Nat):lenOf ls (xs ++ ys)=lenOf ls xs + lenOf ls ys:=by
 unfold lenOf;rw [map_append,sum_append]
theorem J1y {ls:List Int} {xs ys:List Nat} (h:xs.Perm ys):lenOf ls xs=lenOf ls ys:=J7l (h.map _)
theorem Jy {ls:List Int} {os:List Nat} (h:∀ j∈os,0<=ls.getD j 0):0<=lenOf ls os:=by
 induction os with
 | nil=>exact Int.le_refl _
 | cons a r ih =>
  rw [Jj];have:=h a mem_cons_self;have:=ih fun j hj=>h j (mem_cons_of_mem _ hj);lia
theorem J42 {ls:List Int} {os:List Nat} (h:∀ j∈os,1<=ls.getD j 0) (hn:os≠[]):1<=lenOf ls os:=by
 cases os with
 | nil=>exact absurd rfl hn
 | cons a r =>
  rw [Jj];have:=h a mem_cons_self;have:=Jy (ls:=ls) (os:=r) fun j hj=>by have:=h j (mem_cons_of_mem _ hj);lia
  lia
theorem lenOf_mem {ls:List Int} {os:List Nat} (h:∀ j∈os,0<=ls.getD j 0) {j:Nat} (hj:j∈os):ls.getD j 0<=lenOf ls os:=by
 induction os with
 | nil=>cases hj
 | cons a r ih =>
  rw [Jj];have h1:=h a mem_cons_self;have h2:=Jy (ls:=ls) (os:=r) fun j hj=>h j (mem_cons_of_mem _ hj);rcases mem_cons.mp hj with rfl | hj
  ·lia
  ·have:=ih (fun j hj=>h j (mem_cons_of_mem _ hj)) hj;lia
structure Row (ls:List Int) (os:List Nat):Prop where
 nd:os.Nodup
 lt:∀ j∈os,j < ls.length
 pos:∀ j∈os,1<=ls.getD j 0
theorem Row.inj {ls:List Int} {os:List Nat} (h:Row ls os) {i j:Nat} (hi:i < os.length) (hj:j < os.length) (e:os.getD i 0=os.getD j 0):i=j:=by
 rw [getD_eq_getElem?_getD,getD_eq_getElem?_getD,List.getElem?_eq_getElem hi,List.getElem?_eq_getElem hj] at e;exact (getElem_inj h.nd).mp e
theorem Row.at {ls:List Int} {os:List Nat} (h:Row ls os) {i:Nat}:∀ {k:Nat},i < k->k<=os.length->(sumsF ls os k).1.getD (os.getD i 0) 0=J16 ls os i
 | 0,h1,_=>absurd h1 (Nat.not_lt_zero _)
 | k + 1,h1,h2=>by
  show ((sumsF ls os k).1.set (os.getD k 0) (sumsF ls os k).2).getD (os.getD i 0) 0=_;rw [set_get _ _ _ _ (by rw [J3x];exact h.lt _ (J1k (by lia)))];by_cases e:i=k
  ·subst e;rw [if_pos rfl];rfl
  ·rw [if_neg (fun q=>e (h.inj (by lia) (by lia) q))];exact h.at (by lia) (by lia)
theorem Row.first {ls:List Int} {os:List Nat} (h:Row ls os) {i:Nat} (hi:i < os.length):(firsts ls os).getD (os.getD i 0) 0=J16 ls os i:=h.at hi (Nat.le_refl _)
theorem Row.step {ls:List Int} {os:List Nat} (h:Row ls os) {i:Nat} (hi:i < os.length):J16 ls os i < J16 ls os (i + 1):=by
 rw [J17];have:=h.pos _ (J1k hi);lia
theorem Row.mono {ls:List Int} {os:List Nat} (h:Row ls os) {i:Nat}:∀ {k:Nat},i<=k->k<=os.length->J16 ls os i<=J16 ls os k
 | 0,h1,_=>by
  have e:i=0:=Nat.le_zero.mp h1;rw [e];exact Int.le_refl _
 | k + 1,h1,h2=>by
  by_cases e:i=k + 1
  ·subst e;exact Int.le_refl _
  ·have a:=Row.mono h (i:=i) (k:=k) (by lia) (by lia);have b:=h.step (i:=k) (by lia);lia
def AtR (ls:List Int) (os:List Nat) (y:Int) (i:Nat):Prop:=i < os.length/\J16 ls os i<=y/\y < J16 ls os (i + 1)
theorem Row.exists {ls:List Int} {os:List Nat} (h:Row ls os) {y:Int} (h0:0<=y) (h1:y < lenOf ls os):∃ i,AtR ls os y i:=by
 rw [<- J30] at h1;obtain ⟨i,hi,a,b⟩:=J4q (S:=J16 ls os) os.length (by rw [J1v];exact h0) h1;exact ⟨i,hi,a,b⟩
theorem Row.unique {ls:List Int} {os:List Nat} (h:Row ls os) {y:Int} {i k:Nat} (a:AtR ls os y i) (b:AtR ls os y k):i=k:=by
 obtain ⟨a1,a2,a3⟩:=a;obtain ⟨b1,b2,b3⟩:=b;rcases Nat.lt_trichotomy i k with q | q | q
 ·have:=h.mono (i:=i + 1) (k:=k) (by lia) (by lia);lia
 ·exact q
 ·have:=h.mono (i:=k + 1) (k:=i) (by lia) (by lia);lia
theorem Row.inside {ls:List Int} {os:List Nat} (h:Row ls os) {y:Int} {i:Nat} (a:AtR ls os y i):0<=y/\y < lenOf ls os:=by
 obtain ⟨a1,a2,a3⟩:=a;have h1:=h.mono (i:=0) (k:=i) (by lia) (by lia);have h2:=h.mono (i:=i + 1) (k:=os.length) (by lia) (Nat.le_refl _);rw [J1v] at h1;rw [J30] at h2;lia
structure Rst where
 top:List Nat
 bot:List Nat
 ls:List Int
 ts:List Bool
structure Rst.Ok (r:Rst):Prop where
 row:Row r.ls r.top
 perm:r.bot.Perm r.top
 zl:∀ j,j ∉ r.top->r.ls.getD j 0=0
 zt:∀ j,j ∉ r.top->r.ts.getD j false=false
 len:r.ts.length=r.ls.length
 few:r.ls.length<=24
def Rst.size (r:Rst):Int:=lenOf r.ls r.top
theorem Rst.Ok.rowB {r:Rst} (h:r.Ok):Row r.ls r.bot:=⟨h.perm.nodup_iff.mpr h.row.nd,fun j hj=>h.row.lt j (h.perm.mem_iff.mp hj),fun j hj=>h.row.pos j (h.perm.mem_iff.mp hj)⟩
theorem Rst.Ok.sizeB {r:Rst} (h:r.Ok):lenOf r.ls r.bot=r.size:=J1y h.perm
def J2m (r:Rst) (y z:Int):Prop:=∃ i,AtR r.ls r.top y i/\z=moveN r.ls r.ts (r.top.getD i 0) (y - J16 r.ls r.top i) (firsts r.ls r.bot)
theorem mem_at {os:List Nat} {j:Nat} (h:j∈os):∃ k,k < os.length/\os.getD k 0=j:=by
 obtain ⟨k,hk,e⟩:=List.getElem_of_mem h;exact ⟨k,hk,by rw [getD_eq_getElem?_getD,List.getElem?_eq_getElem hk];exact e⟩
theorem Rst.Ok.goes {r:Rst} (h:r.Ok) {y z:Int} (g:J2m r y z):∃ i k,AtR r.ls r.top y i/\AtR r.ls r.bot z k/\r.bot.getD k 0=r.top.getD i 0/\
  z - J16 r.ls r.bot k=(if r.ts.getD (r.top.getD i 0) false=true then r.ls.getD (r.top.getD i 0) 0 - 1 - (y - J16 r.ls r.top i) else y - J16 r.ls r.top i):=by
 obtain ⟨i,⟨i1,i2,i3⟩,rfl⟩:=g;obtain ⟨k,hk,ek⟩:=mem_at (h.perm.mem_iff.mpr (J1k i1));have f:=h.rowB.first hk;rw [ek] at f;rw [J17] at i3;refine ⟨i,k,⟨i1,i2,by rw [J17];exact i3⟩,?_,ek,?_⟩
 ·unfold moveN;refine ⟨hk,?_,?_⟩
  ·rw [f];split <;> lia
  ·rw [J17,ek,f];split <;> lia
 ·unfold moveN;rw [f];split <;> lia
theorem Rst.Ok.fun_ {r:Rst} (h:r.Ok) {y z z':Int} (a:J2m r y z) (b:J2m r y z'):z=z':=by
 obtain ⟨i,hi,rfl⟩:=a;obtain ⟨k,hk,rfl⟩:=b;obtain rfl:=h.row.unique hi hk;rfl
theorem Rst.Ok.inj {r:Rst} (h:r.Ok) {y y' z:Int} (a:J2m r y z) (b:J2m r y' z):y=y':=by
 obtain ⟨i,k,hi,hk,e1,o1⟩:=h.goes a;obtain ⟨i',k',hi',hk',e2,o2⟩:=h.goes b;obtain rfl:=h.rowB.unique hk hk';rw [e1] at e2;obtain rfl:=h.row.inj hi.1 hi'.1 e2;rw [o1] at o2;split at o2 <;> lia
theorem Rst.Ok.there {r:Rst} (h:r.Ok) {y:Int} (h0:0<=y) (h1:y < r.size):∃ z,J2m r y z:=by
 obtain ⟨i,hi⟩:=h.row.exists h0 h1;exact ⟨_,i,hi,rfl⟩
theorem Rst.Ok.stays {r:Rst} (h:r.Ok) {y z:Int} (a:J2m r y z):0<=z/\z < r.size:=by
 obtain ⟨i,k,_,hk,_,_⟩:=h.goes a;have:=h.rowB.inside hk;rw [h.sizeB] at this;exact this
theorem J75 {ls:List Int} {os:List Nat} {ts:List Bool} (hp:os.Perm (List.range ls.length)) (pos:∀ a∈ls,1<=a) (hts:ts.length=ls.length) (few:ls.length<=24):(Rst.mk (List.range ls.length) os ls ts).Ok where
 row:=⟨nodup_range,fun j hj=>mem_range.mp hj,fun j hj=>pos _ (getD_memI (mem_range.mp hj))⟩
 perm:=hp
 zl:=fun j hj=>by
  have hj:¬ j < ls.length:=fun q=>hj (mem_range.mpr q);show ls.getD j 0=0;rw [getD_eq_getElem?_getD,getElem?_eq_none (by lia)];rfl
 zt:=fun j hj=>by
  have hj:¬ j < ls.length:=fun q=>hj (mem_range.mpr q);show ts.getD j false=false;rw [getD_eq_getElem?_getD,getElem?_eq_none (by lia)];rfl
 len:=hts
 few:=few
theorem whole_size (ls:List Int) (os:List Nat) (ts:List Bool):(Rst.mk (List.range ls.length) os ls ts).size=ls.sum:=by
 show ((List.range ls.length).map fun j=>ls.getD j 0).sum=_;rw [J23]
end Rl
namespace Rl
end Rl
namespace Rl
def J2 (row:List Nat) (a:Nat):List Nat:=row.drop (row.idxOf a + 1)
def withoutR (row:List Nat) (x:Nat):List Nat:=row.filter fun j=>decide (j≠x)
def putR (row:List Nat) (w l:Nat) (ahead:Bool):List Nat :=
 (withoutR row l).take (if ahead=true then (withoutR row l).idxOf w else (withoutR row l).idxOf w + 1) ++ [l] ++ (withoutR row l).drop (if ahead=true then (withoutR row l).idxOf w else (withoutR row l).idxOf w + 1)
theorem mem_without {row:List Nat} {x j:Nat}:j∈withoutR row x↔j∈row/\j≠x:=by
 unfold withoutR;rw [mem_filter,decide_eq_true_iff]
theorem J2r {row:List Nat} (h:row.Nodup) (x:Nat):(withoutR row x).Nodup:=h.filter _
theorem J3j {row:List Nat} (h:row.Nodup) {x:Nat} (hx:x∈row):(withoutR row x).length + 1=row.length:=by
 induction row with
 | nil=>cases hx
 | cons a r ih =>
  obtain ⟨h1,h2⟩:=nodup_cons.mp h;unfold withoutR;rw [filter_cons];by_cases e:a=x
  ·subst e;have:r.filter (fun j=>decide (j≠a))=r:=List.filter_eq_self.mpr fun j hj=>decide_eq_true (fun q=>h1 (q ▸ hj));rw [if_neg (by simp),this];rfl
  ·rw [if_pos (by simpa using e)];have hx':x∈r:=(mem_cons.mp hx).resolve_left (fun q=>e q.symm);have:=ih h2 hx';unfold withoutR at this;simp only [length_cons];lia
theorem J2i {row:List Nat} (h:row.Nodup) {x:Nat} (hx:x∈row):(x :: withoutR row x).Perm row:=by
 refine (List.perm_ext_iff_of_nodup (nodup_cons.mpr ⟨fun q=>(mem_without.mp q).2 rfl,J2r h x⟩) h).mpr fun j=>?_;rw [mem_cons,mem_without];constructor
 ·rintro (rfl | q)
  ·exact hx
  ·exact q.1
 ·intro q;by_cases e:j=x
  ·exact .inl e
  ·exact .inr ⟨q,e⟩
theorem J2e {row:List Nat} (h:row.Nodup) {w l:Nat} (hl:l∈row) (ahead:Bool):(putR row w l ahead).Perm row:=by
 unfold putR;generalize (if ahead=true then (withoutR row l).idxOf w else (withoutR row l).idxOf w + 1)=n;refine List.Perm.trans ?_ (J2i h hl);have e:l :: withoutR row l=[l] ++ ((withoutR row l).take n ++ (withoutR row l).drop n):=by rw [take_append_drop];rfl
 rw [e,<- List.append_assoc];exact List.Perm.append_right _ List.perm_append_comm
theorem J37 {xs ys:List Nat} (h:xs.Perm ys) (x:Nat):(withoutR xs x).Perm (withoutR ys x):=h.filter _
theorem Jv (f:List Int) (p q:Nat) (v:Int) (hp:p < f.length):(f.set p v).getD q 0=if q=p then v else f.getD q 0:=set_get f p q v hp
theorem J21 (f:List Bool) (p q:Nat) (v:Bool) (hp:p < f.length):(f.set p v).getD q false=if q=p then v else f.getD q false:=by
 rw [getD_eq_getElem?_getD,getD_eq_getElem?_getD];by_cases e:q=p
 ·subst e;rw [List.getElem?_set_self hp,if_pos rfl];rfl
 ·rw [getElem?_set_ne (Ne.symm e),if_neg e]
inductive Stp where
 | home (a:Nat) | even (a b:Nat) | over (a b:Nat) | under (a b:Nat) | overs (a:Nat) (t:Int) | unders (a:Nat) (t:Int)
def Stp.winner:Stp->Nat
 | .home a=>a | .even a _=>a | .over a _=>a | .under a _=>a | .overs a _=>a | .unders a _=>a
def Stp.times:Stp->Int
 | .overs _ t=>t | .unders _ t=>t | _=>1
def Stp.losers (r:Rst):Stp->List Nat
 | .home _=>[] | .even _ b=>[b] | .over _ b=>[b] | .under _ b=>[b] | .overs a _=>J2 r.bot a | .unders a _=>J2 r.top a
def Stp.own:Stp->Bool
 | .even _ _=>true | .over _ _=>true | .overs _ _=>true | _=>false
def J29 (r:Rst) (w l:Nat):List Bool:=r.ts.set l (r.ts.getD w false != r.ts.getD l false)
def Stp.behind (r:Rst):Stp->Rst
 | .home a=>⟨withoutR r.top a,withoutR r.bot a,r.ls.set a 0,r.ts.set a false⟩
 | .even a b=>⟨withoutR r.top a,withoutR (putR r.bot a b false) a,r.ls.set a 0,(J29 r a b).set a false⟩
 | .over a b=>⟨r.top,putR r.bot a b (r.ts.getD a false),r.ls.set a (r.ls.getD a 0 - r.ls.getD b 0),J29 r a b⟩
 | .under a b=>⟨putR r.top a b (r.ts.getD a false),r.bot,r.ls.set a (r.ls.getD a 0 - r.ls.getD b 0),J29 r a b⟩
 | .overs a t=>⟨r.top,r.bot,r.ls.set a (r.ls.getD a 0 - t * lenOf r.ls (J2 r.bot a)),r.ts⟩
 | .unders a t=>⟨r.top,r.bot,r.ls.set a (r.ls.getD a 0 - t * lenOf r.ls (J2 r.top a)),r.ts⟩
def J1q (r:Rst) (a:Nat) (row:List Nat):Int:=if r.ts.getD a false=true then 0 else (r.ls.getD a 0 - 1) / lenOf r.ls (J2 row a)
abbrev lastT (r:Rst):Nat:=r.top.getD (r.top.length - 1) 0
abbrev lastB (r:Rst):Nat:=r.bot.getD (r.bot.length - 1) 0
def nextN (r:Rst):Stp :=
 if lastT r=lastB r then .home (lastT r)
 else if r.ls.getD (lastT r) 0=r.ls.getD (lastB r) 0 then .even (lastT r) (lastB r)
 else if r.ls.getD (lastB r) 0 < r.ls.getD (lastT r) 0 then
  (if 0 < J1q r (lastT r) r.bot then .overs (lastT r) (J1q r (lastT r) r.bot) else .over (lastT r) (lastB r))
 else (if 0 < J1q r (lastB r) r.top then .unders (lastB r) (J1q r (lastB r) r.top) else .under (lastB r) (lastT r))
theorem Rst.Ok.lens {r:Rst} (h:r.Ok):r.bot.length=r.top.length:=h.perm.length_eq
theorem Rst.Ok.mT {r:Rst} (h:r.Ok) (ne:r.top≠[]):lastT r∈r.top:=J1k (by have:=List.length_pos_iff.mpr ne;lia)
theorem Rst.Ok.mB {r:Rst} (h:r.Ok) (ne:r.top≠[]):lastB r∈r.top:=h.perm.mem_iff.mp (J1k (by have:=List.length_pos_iff.mpr ne;have:=h.lens;lia))
theorem J12 {row:List Nat} {n j:Nat} (h:j∈row.drop n):j∈row:=List.mem_of_mem_drop h
theorem behind_ne {row:List Nat} {a:Nat} (ha:a∈row) (h:row.getD (row.length - 1) 0≠a):J2 row a≠[]:=by
 unfold J2;have h1:row.idxOf a < row.length:=idxOf_lt_length_iff.mpr ha;intro e;have h2:=List.drop_eq_nil_iff.mp e;have h3:row.idxOf a=row.length - 1:=by lia
 apply h;rw [<- h3,getD_eq_getElem?_getD,List.getElem?_eq_getElem h1];exact getElem_idxOf h1
theorem Rst.Ok.of_rows {r:Rst} (h:r.Ok) {top bot:List Nat} {ls:List Int} {ts:List Bool} (ht:top.Perm r.top) (hb:bot.Perm r.top) (hl:ls.length=r.ls.length) (htl:ts.length=r.ts.length)
  (pos:∀ j∈r.top,1<=ls.getD j 0) (zl:∀ j,j ∉ r.top->ls.getD j 0=0) (zt:∀ j,j ∉ r.top->ts.getD j false=false):(Rst.mk top bot ls ts).Ok where
 row:=⟨ht.nodup_iff.mpr h.row.nd,fun j hj=>by rw [hl];exact h.row.lt j (ht.mem_iff.mp hj),fun j hj=>pos j (ht.mem_iff.mp hj)⟩
 perm:=hb.trans ht.symm
 zl:=fun j hj=>zl j fun q=>hj (ht.mem_iff.mpr q)
 zt:=fun j hj=>zt j fun q=>hj (ht.mem_iff.mpr q)
 len:=by show ts.length=ls.length;rw [hl,htl];exact h.len
 few:=by show ls.length<=24;rw [hl];exact h.few
theorem J48 {r:Rst} (h:r.Ok) {w l:Nat} (hl:l∈r.top):∀ j,j ∉ r.top->(J29 r w l).getD j false=false:=fun j hj=>by
 unfold J29;rw [J21 _ _ _ _ (by rw [h.len];exact h.row.lt l hl),if_neg (show ¬ j=l from fun e=>hj (by rw [e];exact hl))];exact h.zt j hj
theorem set_out {r:Rst} (h:r.Ok) {a:Nat} {v:Int} (ha:a∈r.top):∀ j,j ∉ r.top->(r.ls.set a v).getD j 0=0:=fun j hj=>by
 rw [Jv _ _ _ _ (h.row.lt a ha),if_neg (show ¬ j=a from fun e=>hj (by rw [e];exact ha))];exact h.zl j hj
theorem set_pos {r:Rst} (h:r.Ok) {a:Nat} {v:Int} (ha:a∈r.top) (hv:1<=v):∀ j∈r.top,1<=(r.ls.set a v).getD j 0:=fun j hj=>by
 rw [Jv _ _ _ _ (h.row.lt a ha)];split
 ·exact hv
 ·exact h.row.pos j hj
theorem J24 (r:Rst) (w l:Nat):(J29 r w l).length=r.ts.length:=by unfold J29;rw [length_set]
theorem Rst.Ok.less {r:Rst} (h:r.Ok) {a:Nat} (ha:a∈r.top) {bot:List Nat} {ts:List Bool} (hb:bot.Perm (withoutR r.top a)) (htl:ts.length=r.ts.length) (zt:∀ j,j ∉ r.top->ts.getD j false=false) (za:ts.getD a false=false):(Rst.mk (withoutR r.top a) bot (r.ls.set a 0) ts).Ok where
 row:=⟨J2r h.row.nd a,fun j hj=>by rw [length_set];exact h.row.lt j (mem_without.mp hj).1,fun j hj=>by
  rw [Jv _ _ _ _ (h.row.lt a ha),if_neg (mem_without.mp hj).2];exact h.row.pos j (mem_without.mp hj).1⟩
 perm:=hb
 zl:=fun j hj=>by
  show (r.ls.set a 0).getD j 0=0;rw [Jv _ _ _ _ (h.row.lt a ha)];split
  ·rfl
  ·rename_i e;exact h.zl j fun q=>hj (mem_without.mpr ⟨q,e⟩)
 zt:=fun j hj=>by
  by_cases e:j=a
  ·subst e;exact za
  ·exact zt j fun q=>hj (mem_without.mpr ⟨q,e⟩)
 len:=by show ts.length=(r.ls.set a 0).length;rw [length_set,htl];exact h.len
 few:=by show (r.ls.set a 0).length<=24;rw [length_set];exact h.few
theorem times_fit {la s:Int} (hs:1<=s):(la - 1) / s * s<=la - 1:=Int.ediv_mul_le _ (by lia)
theorem J1x {r:Rst} (h:r.Ok) (ne:r.top≠[]) {p:Stp->Prop}
  (hh:lastT r=lastB r->p (.home (lastT r)))
  (he:lastT r≠lastB r->r.ls.getD (lastT r) 0=r.ls.getD (lastB r) 0->p (.even (lastT r) (lastB r)))
  (hov:lastT r≠lastB r->r.ls.getD (lastB r) 0 < r.ls.getD (lastT r) 0->(r.ts.getD (lastT r) false=true\/r.ls.getD (lastT r) 0<=lenOf r.ls (J2 r.bot (lastT r)))->p (.over (lastT r) (lastB r)))
  (hun:lastT r≠lastB r->r.ls.getD (lastT r) 0 < r.ls.getD (lastB r) 0->(r.ts.getD (lastB r) false=true\/r.ls.getD (lastB r) 0<=lenOf r.ls (J2 r.top (lastB r)))->p (.under (lastB r) (lastT r)))
  (hos:∀ t,lastT r≠lastB r->r.ls.getD (lastB r) 0 < r.ls.getD (lastT r) 0->r.ts.getD (lastT r) false=false->1<=t->1<=lenOf r.ls (J2 r.bot (lastT r))->lenOf r.ls (J2 r.bot (lastT r)) < r.ls.getD (lastT r) 0->t=(r.ls.getD (lastT r) 0 - 1) / lenOf r.ls (J2 r.bot (lastT r))->t * lenOf r.ls (J2 r.bot (lastT r)) < r.ls.getD (lastT r) 0->p (.overs (lastT r) t))
  (hus:∀ t,lastT r≠lastB r->r.ls.getD (lastT r) 0 < r.ls.getD (lastB r) 0->r.ts.getD (lastB r) false=false->1<=t->1<=lenOf r.ls (J2 r.top (lastB r))->lenOf r.ls (J2 r.top (lastB r)) < r.ls.getD (lastB r) 0->t=(r.ls.getD (lastB r) 0 - 1) / lenOf r.ls (J2 r.top (lastB r))->t * lenOf r.ls (J2 r.top (lastB r)) < r.ls.getD (lastB r) 0->p (.unders (lastB r) t)):p (nextN r):=by
 unfold nextN;have mT:=h.mT ne;have mB:=h.mB ne;by_cases c1:lastT r=lastB r
 ·rw [if_pos c1];exact hh c1
 rw [if_neg c1];by_cases c2:r.ls.getD (lastT r) 0=r.ls.getD (lastB r) 0
 ·rw [if_pos c2];exact he c1 c2
 rw [if_neg c2];have key:∀ (row:List Nat) (a:Nat),a∈row->(∀ j∈row,1<=r.ls.getD j 0)->row.getD (row.length - 1) 0≠a->
   1<=lenOf r.ls (J2 row a)/\(0 < J1q r a row->r.ts.getD a false=false/\1<=J1q r a row/\lenOf r.ls (J2 row a) < r.ls.getD a 0/\J1q r a row=(r.ls.getD a 0 - 1) / lenOf r.ls (J2 row a)/\J1q r a row * lenOf r.ls (J2 row a) < r.ls.getD a 0)/\
   (¬ 0 < J1q r a row->r.ts.getD a false=true\/r.ls.getD a 0<=lenOf r.ls (J2 row a)):=fun row a ha hp hl=>by
  have hs:1<=lenOf r.ls (J2 row a):=J42 (fun j hj=>hp j (J12 hj)) (behind_ne ha hl);refine ⟨hs,fun hw=>?_,fun hw=>?_⟩
  ·by_cases ct:r.ts.getD a false=true
   ·unfold J1q at hw;rw [if_pos ct] at hw;lia
   ·have e:J1q r a row=(r.ls.getD a 0 - 1) / lenOf r.ls (J2 row a):=by unfold J1q;rw [if_neg ct]
    have h1:=times_fit (la:=r.ls.getD a 0) hs;rw [e] at hw ⊢;refine ⟨by simpa using ct,by lia,?_,rfl,by lia⟩;have h2:lenOf r.ls (J2 row a) * 1<=lenOf r.ls (J2 row a) * ((r.ls.getD a 0 - 1) / lenOf r.ls (J2 row a)):=Int.mul_le_mul_of_nonneg_left (by lia) (by lia);rw [Int.mul_comm (lenOf r.ls (J2 row a)) ((r.ls.getD a 0 - 1) / lenOf r.ls (J2 row a))] at h2;lia
  ·by_cases ct:r.ts.getD a false=true
   ·exact .inl ct
   ·right;have e:J1q r a row=(r.ls.getD a 0 - 1) / lenOf r.ls (J2 row a):=by unfold J1q;rw [if_neg ct]
    rw [e] at hw;by_cases q:r.ls.getD a 0<=lenOf r.ls (J2 row a)
    ·exact q
    ·have:=(Int.le_ediv_iff_mul_le (a:=1) (b:=r.ls.getD a 0 - 1) (c:=lenOf r.ls (J2 row a)) (by lia)).mpr (by lia);lia
 by_cases c3:r.ls.getD (lastB r) 0 < r.ls.getD (lastT r) 0
 ·rw [if_pos c3];obtain ⟨hs,k1,k2⟩:=key r.bot (lastT r) (h.perm.mem_iff.mpr mT) (fun j hj=>h.rowB.pos j hj) (fun e=>c1 e.symm);by_cases c4:0 < J1q r (lastT r) r.bot
  ·rw [if_pos c4];obtain ⟨q1,q2,q3,q4,q5⟩:=k1 c4;exact hos _ c1 c3 q1 q2 hs q3 q4 q5
  ·rw [if_neg c4];exact hov c1 c3 (k2 c4)
 ·rw [if_neg c3];have c3':r.ls.getD (lastT r) 0 < r.ls.getD (lastB r) 0:=by lia
  obtain ⟨hs,k1,k2⟩:=key r.top (lastB r) mB (fun j hj=>h.row.pos j hj) c1;by_cases c4:0 < J1q r (lastB r) r.top
  ·rw [if_pos c4];obtain ⟨q1,q2,q3,q4,q5⟩:=k1 c4;exact hus _ c1 c3' q1 q2 hs q3 q4 q5
  ·rw [if_neg c4];exact hun c1 c3' (k2 c4)
theorem Rst.Ok.next {r:Rst} (h:r.Ok) (ne:r.top≠[]):((nextN r).behind r).Ok:=by
 have mT:=h.mT ne;have mB:=h.mB ne;have mTb:=h.perm.mem_iff.mpr mT;have mBb:=h.perm.mem_iff.mpr mB;have ndB:=h.rowB.nd;refine J1x h ne (p:=fun s=>(s.behind r).Ok) (fun _=>?_) (fun c1 c2=>?_) (fun c1 c2 _=>?_) (fun c1 c2 _=>?_) (fun t c1 c2 c3 c4 c5 _ c6 c7=>?_) (fun t c1 c2 c3 c4 c5 _ c6 c7=>?_)
 ·refine h.less mT (J37 h.perm _) (by rw [length_set]) (fun j hj=>?_) ?_
  ·rw [J21 _ _ _ _ (by rw [h.len];exact h.row.lt _ mT)];split
   ·rfl
   ·exact h.zt j hj
  ·rw [J21 _ _ _ _ (by rw [h.len];exact h.row.lt _ mT),if_pos rfl]
 ·refine h.less mT ((J37 (J2e ndB mBb false) _).trans (J37 h.perm _)) (by rw [length_set,J24]) (fun j hj=>?_) ?_
  ·rw [J21 _ _ _ _ (by rw [J24,h.len];exact h.row.lt _ mT)];split
   ·rfl
   ·exact J48 h mB j hj
  ·rw [J21 _ _ _ _ (by rw [J24,h.len];exact h.row.lt _ mT),if_pos rfl]
 ·exact h.of_rows (List.Perm.refl _) ((J2e ndB mBb _).trans h.perm) (by rw [length_set]) (J24 _ _ _) (set_pos h mT (by lia)) (set_out h mT) (J48 h mB)
 ·exact h.of_rows (J2e h.row.nd mT _) h.perm (by rw [length_set]) (J24 _ _ _) (set_pos h mB (by lia)) (set_out h mB) (J48 h mT)
 ·exact h.of_rows (List.Perm.refl _) h.perm (by rw [length_set]) rfl (set_pos h mT (by lia)) (set_out h mT) h.zt
 ·exact h.of_rows (List.Perm.refl _) h.perm (by rw [length_set]) rfl (set_pos h mB (by lia)) (set_out h mB) h.zt
theorem J5u:∀ (n:Nat) (row:List Nat),row.Nodup->(∀ j∈row,j < n)->row.length<=n
 | 0,row,_,h=>by
  cases row with
  | nil=>exact Nat.le_refl _
  | cons a r=>exact absurd (h a mem_cons_self) (Nat.not_lt_zero _)
 | n + 1,row,nd,h=>by
  by_cases c:n∈row
  ·have h1:=J3j nd c;have h2:=J5u n (withoutR row n) (J2r nd n) fun j hj=>by
    have:=h j (mem_without.mp hj).1;have:=(mem_without.mp hj).2;lia
   lia
  ·have:=J5u n row nd fun j hj=>by
    have h1:=h j hj;have h2:j≠n:=fun e=>c (e ▸ hj);lia
   lia
theorem Row.len_le {ls:List Int} {row:List Nat} (h:Row ls row):row.length<=ls.length:=J5u _ _ h.nd h.lt
end Rl
namespace Rl
theorem J6i {row:List Nat} (h:row≠[]):row=row.dropLast ++ [row.getD (row.length - 1) 0]:=by
 have hl:=List.length_pos_iff.mpr h;have e:row.getD (row.length - 1) 0=row.getLast h:=by
  rw [getD_eq_getElem?_getD,List.getElem?_eq_getElem (by lia),List.getLast_eq_getElem];rfl
 rw [e];exact (List.dropLast_concat_getLast h).symm
theorem J1b (xs ys:List Nat) (x:Nat):withoutR (xs ++ ys) x=withoutR xs x ++ withoutR ys x:=by unfold withoutR;rw [filter_append]
theorem J1a {xs:List Nat} {x:Nat} (h:x ∉ xs):withoutR xs x=xs:=List.filter_eq_self.mpr fun j hj=>decide_eq_true (fun e=>h (e ▸ hj))
theorem J1d (x:Nat):withoutR [x] x=[]:=by unfold withoutR;simp
theorem J6w {s:List Nat} {a:Nat} (t:List Nat) (h:a ∉ s):(s ++ a :: t).idxOf a=s.length:=by
 induction s with
 | nil=>simp
 | cons x s ih =>
  have hx:(x == a)=false:=by
   have:x≠a:=fun e=>h (by rw [e];exact mem_cons_self);simpa using this
  rw [cons_append,idxOf_cons,hx,ih fun q=>h (mem_cons_of_mem _ q)];rfl
theorem J4o (ls:List Int) (p:Nat->Bool):∀ os:List Nat,(∀ j∈os,p j=false->ls.getD j 0=0)->lenOf ls (os.filter p)=lenOf ls os
 | [],_=>rfl
 | a :: r,h=>by
  have ih:=J4o ls p r fun j hj=>h j (mem_cons_of_mem _ hj);rw [filter_cons,Jj]
  cases c:p a with
  | true=>rw [if_pos rfl,Jj,ih]
  | false=>rw [if_neg (by decide),ih,h a mem_cons_self c,Int.zero_add]
theorem Rst.Ok.size_sum {r:Rst} (h:r.Ok):r.size=r.ls.sum:=by
 have h1:lenOf r.ls (List.range r.ls.length)=r.ls.sum:=by unfold lenOf;rw [J23]
 rw [<- h1,<- J4o r.ls (fun j=>decide (j∈r.top)) (List.range r.ls.length) fun j _ hj=>h.zl j (of_decide_eq_false hj)];refine J1y ?_;refine (List.perm_ext_iff_of_nodup h.row.nd (nodup_range.filter _)).mpr fun j=>?_;rw [mem_filter,mem_range,decide_eq_true_iff];exact ⟨fun q=>⟨h.row.lt j q,q⟩,fun q=>q.2⟩
def NextP (r:Rst):Stp->Prop
 | .home a=>a=lastT r/\a=lastB r
 | .even a b=>a=lastT r/\b=lastB r/\a≠b/\r.ls.getD a 0=r.ls.getD b 0
 | .over a b=>a=lastT r/\b=lastB r/\a≠b/\r.ls.getD b 0 < r.ls.getD a 0
 | .under a b=>a=lastB r/\b=lastT r/\a≠b/\r.ls.getD b 0 < r.ls.getD a 0
 | .overs a t=>a=lastT r/\a≠lastB r/\r.ts.getD a false=false/\1<=t/\1<=lenOf r.ls (J2 r.bot a)/\t * lenOf r.ls (J2 r.bot a) < r.ls.getD a 0
 | .unders a t=>a=lastB r/\a≠lastT r/\r.ts.getD a false=false/\1<=t/\1<=lenOf r.ls (J2 r.top a)/\t * lenOf r.ls (J2 r.top a) < r.ls.getD a 0
theorem nextP {r:Rst} (h:r.Ok) (ne:r.top≠[]):NextP r (nextN r) :=
 J1x h ne (p:=NextP r) (fun c=>⟨rfl,c⟩) (fun c1 c2=>⟨rfl,rfl,c1,c2⟩) (fun c1 c2 _=>⟨rfl,rfl,c1,c2⟩) (fun c1 c2 _=>⟨rfl,rfl,fun e=>c1 e.symm,c2⟩)
  (fun t c1 c2 c3 c4 c5 _ _ c6=>⟨rfl,c1,c3,c4,c5,c6⟩) (fun t c1 c2 c3 c4 c5 _ _ c6=>⟨rfl,fun e=>c1 e.symm,c3,c4,c5,c6⟩)
theorem NextP.win {r:Rst} (h:r.Ok) (ne:r.top≠[]) {s:Stp} (n:NextP r s):s.winner∈r.top:=by
 have mT:=h.mT ne;have mB:=h.mB ne
 cases s with
 | home a=>rw [show (Stp.home a).winner=a from rfl,n.1];exact mT
 | even a b=>rw [show (Stp.even a b).winner=a from rfl,n.1];exact mT
 | over a b=>rw [show (Stp.over a b).winner=a from rfl,n.1];exact mT
 | under a b=>rw [show (Stp.under a b).winner=a from rfl,n.1];exact mB
 | overs a t=>rw [show (Stp.overs a t).winner=a from rfl,n.1];exact mT
 | unders a t=>rw [show (Stp.unders a t).winner=a from rfl,n.1];exact mB
theorem Rst.Ok.le_size {r:Rst} (h:r.Ok) {j:Nat} (hj:j∈r.top):r.ls.getD j 0<=r.size:=lenOf_mem (fun j hj=>by have:=h.row.pos j hj;lia) hj
theorem NextP.times {r:Rst} (h:r.Ok) (ne:r.top≠[]) {s:Stp} (n:NextP r s) (hz:r.size<=10 ^ 30):s.times.natAbs<=10 ^ 30:=by
 have hw:=h.le_size (n.win h ne);have key:∀ {t l s:Int},1<=t->1<=s->t * s < l->t<=l:=fun {t l s} h1 h2 h3=>by
  have:t * 1<=t * s:=Int.mul_le_mul_of_nonneg_left h2 (by lia);lia
 cases s with
 | overs a t =>
  obtain ⟨_,_,_,h4,h5,h6⟩:=n;have:=key h4 h5 h6;show t.natAbs<=10 ^ 30;have hw:r.ls.getD a 0<=r.size:=hw;lia
 | unders a t =>
  obtain ⟨_,_,_,h4,h5,h6⟩:=n;have:=key h4 h5 h6;show t.natAbs<=10 ^ 30;have hw:r.ls.getD a 0<=r.size:=hw;lia
 | home a=>show (1:Int).natAbs<=10 ^ 30;decide
 | even a b=>show (1:Int).natAbs<=10 ^ 30;decide
 | over a b=>show (1:Int).natAbs<=10 ^ 30;decide
 | under a b=>show (1:Int).natAbs<=10 ^ 30;decide
theorem NextP.losers_lt {r:Rst} (h:r.Ok) (ne:r.top≠[]) {s:Stp} (n:NextP r s):(∀ j∈s.losers r,j∈r.top)/\(s.losers r).length<=24:=by
 have mT:=h.mT ne;have mB:=h.mB ne;have l1:=Nat.le_trans h.row.len_le h.few;have l2:=Nat.le_trans h.rowB.len_le h.few
 cases s with
 | home a=>exact ⟨fun j hj=>absurd hj (by simp [Stp.losers]),Nat.zero_le _⟩
 | even a b=>exact ⟨fun j hj=>by rw [mem_singleton.mp hj,n.2.1];exact mB,by show 1<=24;decide⟩
 | over a b=>exact ⟨fun j hj=>by rw [mem_singleton.mp hj,n.2.1];exact mB,by show 1<=24;decide⟩
 | under a b=>exact ⟨fun j hj=>by rw [mem_singleton.mp hj,n.2.1];exact mT,by show 1<=24;decide⟩
 | overs a t=>exact ⟨fun j hj=>h.perm.mem_iff.mp (J12 hj),by show (J2 r.bot a).length<=24;unfold J2;rw [length_drop];lia⟩
 | unders a t=>exact ⟨fun j hj=>J12 hj,by show (J2 r.top a).length<=24;unfold J2;rw [length_drop];lia⟩
theorem J7o {r:Rst} (h:r.Ok):∀ {os:List Nat},os.Nodup->(∀ j∈os,j∈r.top)->lenOf r.ls os<=r.size:=fun {os} nd hs=>by
 have e:lenOf r.ls (r.top.filter fun j=>decide (j∈os))=lenOf r.ls os:=J1y ((List.perm_ext_iff_of_nodup (h.row.nd.filter _) nd).mpr fun j=>by
  rw [mem_filter,decide_eq_true_iff];exact ⟨fun q=>q.2,fun q=>⟨hs j q,q⟩⟩)
 have e2:∀ (p:Nat->Bool) (row:List Nat),(∀ j∈row,0<=r.ls.getD j 0)->lenOf r.ls (row.filter p)<=lenOf r.ls row:=by
  intro p row hr
  induction row with
  | nil=>exact Int.le_refl _
  | cons a t ih =>
   rw [filter_cons,Jj];have h0:=hr a mem_cons_self;have h1:=ih fun j hj=>hr j (mem_cons_of_mem _ hj);split
   ·rw [Jj];lia
   ·lia
 rw [<- e];exact e2 _ _ fun j hj=>by have:=h.row.pos j hj;lia
theorem NextP.losers_nd {r:Rst} (h:r.Ok) {s:Stp}:(s.losers r).Nodup:=by
 cases s with
 | home a=>exact List.nodup_nil
 | even a b=>exact (by simp:[b].Nodup)
 | over a b=>exact (by simp:[b].Nodup)
 | under a b=>exact (by simp:[b].Nodup)
 | overs a t=>exact List.Sublist.nodup (List.drop_sublist _ _) h.rowB.nd
 | unders a t=>exact List.Sublist.nodup (List.drop_sublist _ _) h.row.nd
end Rl
namespace Rl
theorem Jf (ls:List Int) {a:Nat} (v:Int):∀ {row:List Nat},a ∉ row->lenOf (ls.set a v) row=lenOf ls row
 | [],_=>rfl
 | b :: row,h=>by
  have h1:a≠b:=fun e=>h (e ▸ mem_cons_self ..);rw [Jj,Jj,Jf ls v (row:=row) fun q=>h (mem_cons_of_mem _ q)];rw [getD_eq_getElem?_getD,getD_eq_getElem?_getD,getElem?_set_ne h1]
theorem J3h (ls:List Int) {a:Nat} (v:Int) (ha:a < ls.length):∀ {row:List Nat},row.Nodup->a∈row->lenOf (ls.set a v) row=lenOf ls row - ls.getD a 0 + v
 | b :: row,nd,h=>by
  rw [nodup_cons] at nd;rw [Jj,Jj];by_cases e:a=b
  ·subst e;rw [Jf ls v nd.1,Jv _ _ _ _ ha,if_pos rfl];lia
  ·have h2:a∈row:=(mem_cons.mp h).resolve_left e;rw [J3h ls v ha nd.2 h2,Jv _ _ _ _ ha,if_neg (fun q=>e q.symm)];lia
theorem J3w {ls:List Int} {row:List Nat} (nd:row.Nodup) {a:Nat} (ha:a∈row):lenOf ls (withoutR row a) + ls.getD a 0=lenOf ls row:=by
 rw [<- J1y (J2i nd ha),Jj];lia
theorem J5a (row:List Nat) (a:Nat):a ∉ withoutR row a:=fun h=>(mem_without.mp h).2 rfl
def madeS (ls:List Int) (los:List Nat) (t:Int) (row:List Nat):Int:=(row.map fun j=>if j∈los then ls.getD j 0 * (1 + t) else ls.getD j 0).sum
theorem madeS_cons (ls:List Int) (los:List Nat) (t:Int) (j:Nat) (row:List Nat):madeS ls los t (j :: row)=(if j∈los then ls.getD j 0 * (1 + t) else ls.getD j 0) + madeS ls los t row:=by
 unfold madeS;rw [map_cons,sum_cons]
theorem madeS_eq (ls:List Int) (los:List Nat) (t:Int):∀ row:List Nat,madeS ls los t row=lenOf ls row + t * lenOf ls (row.filter fun j=>decide (j∈los))
 | []=>by unfold madeS;simp [J1j]
 | j :: row=>by
  rw [madeS_cons,Jj,madeS_eq ls los t row,filter_cons];by_cases c:j∈los
  ·rw [if_pos c,if_pos (decide_eq_true c),Jj,Int.mul_add,Int.mul_add,Int.mul_one,Int.mul_comm (ls.getD j 0) t];lia
  ·rw [if_neg c,if_neg (by simpa using c)];lia
theorem J5d {row los:List Nat} (nd:row.Nodup) (nl:los.Nodup) (hs:∀ j∈los,j∈row):(row.filter fun j=>decide (j∈los)).Perm los:=by
 refine (List.perm_ext_iff_of_nodup (nd.filter _) nl).mpr fun j=>?_;rw [mem_filter,decide_eq_true_iff];exact ⟨fun q=>q.2,fun q=>⟨hs j q,q⟩⟩
def Stp.isHome:Stp->Bool
 | .home _=>true | _=>false
def Stp.drops:Stp->Bool
 | .home _=>true | .even _ _=>true | _=>false
theorem J1c {row:List Nat} (nd:row.Nodup) {a:Nat} (ha:a∈row):a ∉ J2 row a:=fun h=>by
 unfold J2 at h;obtain ⟨i,hi,e⟩:=List.getElem_of_mem h;rw [List.getElem_drop] at e;have h1:row.idxOf a < row.length:=idxOf_lt_length_iff.mpr ha;have h2:row[row.idxOf a]=a:=getElem_idxOf h1;have h3:=(getElem_inj nd).mp (e.trans h2.symm);lia
structure Down (r:Rst) (s:Stp):Prop where
 size:(s.behind r).size + s.times * lenOf r.ls (s.losers r) + (if s.isHome=true then r.ls.getD s.winner 0 else 0)=r.size
 less:(s.behind r).size < r.size
 made:madeS (s.behind r).ls (s.losers r) s.times (s.behind r).top=(s.behind r).size + s.times * lenOf r.ls (s.losers r)
 sub:∀ j∈(s.behind r).top,j∈r.top
 len:(s.behind r).top.length + (if s.drops=true then 1 else 0)=r.top.length
theorem J32 {r l:Rst} {los:List Nat} {t:Int} {a:Nat} {v:Int} (nd:l.top.Nodup) (nl:los.Nodup) (hs:∀ j∈los,j∈l.top) (hl:l.ls=r.ls.set a v) (ha:a ∉ los) :
  madeS l.ls los t l.top=l.size + t * lenOf r.ls los:=by
 rw [madeS_eq,J1y (J5d nd nl hs)];rw [hl,Jf _ _ ha,<- hl];rfl
theorem Rst.Ok.down {r:Rst} (h:r.Ok) (ne:r.top≠[]):Down r (nextN r):=by
 have n:=nextP h ne;have ok:=h.next ne;have w:=n.win h ne;have mT:=h.mT ne;have mB:=h.mB ne;have nd:=h.row.nd;have ndB:=h.rowB.nd;have nl:=NextP.losers_nd h (s:=nextN r);have hlt:=h.row.lt;have pos:=h.row.pos;generalize nextN r=s at *
 cases s with
 | home a =>
  have wa:a∈r.top:=w;have sz:((Stp.home a).behind r).size=lenOf r.ls (withoutR r.top a):=Jf _ _ (J5a _ _);have e:=J3w (ls:=r.ls) nd wa;have p:=pos a wa;have e2:r.size=lenOf r.ls r.top:=rfl;refine ⟨?_,by lia,?_,fun j hj=>(mem_without.mp hj).1,J3j nd wa⟩
  ·show ((Stp.home a).behind r).size + 1 * lenOf r.ls [] + (if true=true then r.ls.getD a 0 else 0)=r.size;rw [if_pos rfl,J1j];lia
  ·exact J32 (a:=a) (v:=0) ok.row.nd nl (fun j hj=>nomatch hj) rfl (fun q=>nomatch q)
 | even a b =>
  obtain ⟨n1,n2,n3,n4⟩:=n;have wa:a∈r.top:=w;have wb:b∈r.top:=by rw [n2];exact mB
  have sz:((Stp.even a b).behind r).size=lenOf r.ls (withoutR r.top a):=Jf _ _ (J5a _ _);have e:=J3w (ls:=r.ls) nd wa;have p:=pos a wa;have e2:r.size=lenOf r.ls r.top:=rfl;have eb:lenOf r.ls [b]=r.ls.getD b 0:=by rw [Jj,J1j,Int.add_zero]
  refine ⟨?_,by lia,?_,fun j hj=>(mem_without.mp hj).1,J3j nd wa⟩
  ·show ((Stp.even a b).behind r).size + 1 * lenOf r.ls [b] + (if false=true then r.ls.getD a 0 else 0)=r.size;rw [if_neg (by decide),eb];lia
  ·refine J32 (a:=a) (v:=0) ok.row.nd nl (fun j hj=>?_) rfl (fun q=>?_)
   ·cases mem_singleton.mp hj;exact mem_without.mpr ⟨wb,fun e=>n3 e.symm⟩
   ·exact n3 (mem_singleton.mp q)
 | over a b =>
  obtain ⟨n1,n2,n3,n4⟩:=n;have wa:a∈r.top:=w;have wb:b∈r.top:=by rw [n2];exact mB
  have sz:((Stp.over a b).behind r).size=lenOf r.ls r.top - r.ls.getD a 0 + (r.ls.getD a 0 - r.ls.getD b 0):=J3h _ _ (hlt a wa) nd wa;have p:=pos b wb;have e2:r.size=lenOf r.ls r.top:=rfl;have eb:lenOf r.ls [b]=r.ls.getD b 0:=by rw [Jj,J1j,Int.add_zero]
  refine ⟨?_,by lia,?_,fun j hj=>hj,rfl⟩
  ·show ((Stp.over a b).behind r).size + 1 * lenOf r.ls [b] + (if false=true then r.ls.getD a 0 else 0)=r.size;rw [if_neg (by decide),eb];lia
  ·refine J32 (a:=a) (v:=r.ls.getD a 0 - r.ls.getD b 0) ok.row.nd nl (fun j hj=>?_) rfl (fun q=>?_)
   ·cases mem_singleton.mp hj;exact wb
   ·exact n3 (mem_singleton.mp q)
 | under a b =>
  obtain ⟨n1,n2,n3,n4⟩:=n;have wa:a∈r.top:=w;have wb:b∈r.top:=by rw [n2];exact mT
  have pp:=J2e nd (w:=a) wb (r.ts.getD a false);have sz:((Stp.under a b).behind r).size=lenOf r.ls r.top - r.ls.getD a 0 + (r.ls.getD a 0 - r.ls.getD b 0):=(J1y pp).trans (J3h _ _ (hlt a wa) nd wa);have p:=pos b wb;have e2:r.size=lenOf r.ls r.top:=rfl;have eb:lenOf r.ls [b]=r.ls.getD b 0:=by rw [Jj,J1j,Int.add_zero]
  refine ⟨?_,by lia,?_,fun j hj=>pp.mem_iff.mp hj,pp.length_eq⟩
  ·show ((Stp.under a b).behind r).size + 1 * lenOf r.ls [b] + (if false=true then r.ls.getD a 0 else 0)=r.size;rw [if_neg (by decide),eb];lia
  ·refine J32 (a:=a) (v:=r.ls.getD a 0 - r.ls.getD b 0) ok.row.nd nl (fun j hj=>?_) rfl (fun q=>?_)
   ·cases mem_singleton.mp hj;exact pp.mem_iff.mpr wb
   ·exact n3 (mem_singleton.mp q)
 | overs a t =>
  obtain ⟨n1,n2,n3,n4,n5,n6⟩:=n;have wa:a∈r.top:=w;have wab:a∈r.bot:=h.perm.mem_iff.mpr wa;have sz:((Stp.overs a t).behind r).size=lenOf r.ls r.top - r.ls.getD a 0 + (r.ls.getD a 0 - t * lenOf r.ls (J2 r.bot a)):=J3h _ _ (hlt a wa) nd wa;have e2:r.size=lenOf r.ls r.top:=rfl;have p:1<=t * lenOf r.ls (J2 r.bot a):=by
   have:=Int.mul_le_mul n4 n5 (by decide) (by lia);lia
  refine ⟨?_,by lia,?_,fun j hj=>hj,rfl⟩
  ·show ((Stp.overs a t).behind r).size + t * lenOf r.ls (J2 r.bot a) + (if false=true then r.ls.getD a 0 else 0)=r.size;rw [if_neg (by decide)];lia
  ·exact J32 (a:=a) ok.row.nd nl (fun j hj=>h.perm.mem_iff.mp (J12 hj)) rfl (J1c ndB wab)
 | unders a t =>
  obtain ⟨n1,n2,n3,n4,n5,n6⟩:=n;have wa:a∈r.top:=w;have sz:((Stp.unders a t).behind r).size=lenOf r.ls r.top - r.ls.getD a 0 + (r.ls.getD a 0 - t * lenOf r.ls (J2 r.top a)):=J3h _ _ (hlt a wa) nd wa;have e2:r.size=lenOf r.ls r.top:=rfl;have p:1<=t * lenOf r.ls (J2 r.top a):=by
   have:=Int.mul_le_mul n4 n5 (by decide) (by lia);lia
  refine ⟨?_,by lia,?_,fun j hj=>hj,rfl⟩
  ·show ((Stp.unders a t).behind r).size + t * lenOf r.ls (J2 r.top a) + (if false=true then r.ls.getD a 0 else 0)=r.size;rw [if_neg (by decide)];lia
  ·exact J32 (a:=a) ok.row.nd nl (fun j hj=>J12 hj) rfl (J1c nd wa)
end Rl
namespace Rl
def fS (f:Nat->Int) (row:List Nat):Int:=(row.map f).sum
theorem fS_nil (f:Nat->Int):fS f []=0:=rfl
theorem J2t (f:Nat->Int) (j:Nat) (row:List Nat):fS f (j :: row)=f j + fS f row:=by unfold fS;rw [map_cons,sum_cons]
theorem fS_perm {f:Nat->Int} {xs ys:List Nat} (h:xs.Perm ys):fS f xs=fS f ys:=J7l (h.map _)
theorem J68 {f g:Nat->Int}:∀ {row:List Nat},(∀ j∈row,f j=g j)->fS f row=fS g row
 | [],_=>rfl
 | j :: row,h=>by
  rw [J2t,J2t,h j mem_cons_self,J68 fun i hi=>h i (mem_cons_of_mem _ hi)]
theorem fS_add (f g:Nat->Int):∀ row:List Nat,fS (fun j=>f j + g j) row=fS f row + fS g row
 | []=>rfl
 | j :: row=>by
  rw [J2t,J2t,J2t,fS_add f g row];lia
theorem J6z {f:Nat->Int} {row:List Nat} (nd:row.Nodup) {a:Nat} (ha:a∈row):fS f (withoutR row a) + f a=fS f row:=by
 rw [<- fS_perm (J2i nd ha),J2t];lia
theorem fS_if (c:Int) (f:Nat->Int) (los:List Nat):∀ row:List Nat,fS (fun j=>if j∈los then c * f j else 0) row=c * fS f (row.filter fun j=>decide (j∈los))
 | []=>by simp [fS_nil]
 | j :: row=>by
  rw [J2t,fS_if c f los row,filter_cons];by_cases q:j∈los
  ·rw [if_pos q,if_pos (decide_eq_true q),J2t,Int.mul_add]
  ·rw [if_neg q,if_neg (by simpa using q)];lia
theorem fS_nonneg {f:Nat->Int}:∀ {row:List Nat},(∀ j∈row,0<=f j)->0<=fS f row
 | [],_=>Int.le_refl _
 | j :: row,h=>by
  rw [J2t];have:=h j mem_cons_self;have:=fS_nonneg fun i hi=>h i (mem_cons_of_mem _ hi);lia
theorem fS_mem {f:Nat->Int}:∀ {row:List Nat},(∀ j∈row,0<=f j)->∀ {j:Nat},j∈row->f j<=fS f row
 | a :: row,h,j,hj=>by
  rw [J2t];have h1:=h a mem_cons_self;have h2:=fS_nonneg fun i hi=>h i (mem_cons_of_mem _ hi);rcases mem_cons.mp hj with rfl | hj
  ·lia
  ·have:=fS_mem (fun i hi=>h i (mem_cons_of_mem _ hi)) hj;lia
def towB (s:Stp) (r:Rst) (T:List Int):List Int:=(List.range T.length).map fun j=>if j∈(s.behind r).top then (if j∈s.losers r then T.getD j 0 + T.getD s.winner 0 * s.times else T.getD j 0) else 0
theorem J3k (s:Stp) (r:Rst) (T:List Int):(towB s r T).length=T.length:=by unfold towB;rw [length_map,length_range]
theorem J4a (s:Stp) (r:Rst) (T:List Int) {j:Nat} (h:j < T.length):(towB s r T).getD j 0=if j∈(s.behind r).top then (if j∈s.losers r then T.getD j 0 + T.getD s.winner 0 * s.times else T.getD j 0) else 0:=by
 unfold towB;rw [getD_eq_getElem?_getD,getElem?_map,getElem?_range h];rfl
def wS (ls T:List Int) (row:List Nat):Int:=fS (fun j=>ls.getD j 0 * T.getD j 0) row
theorem stays_aux {r l:Rst} {los:List Nat} {t v:Int} {a:Nat} {T T':List Int} (nd:r.top.Nodup) (wa:a∈r.top) (ha:a < r.ls.length) (nl:los.Nodup) (hs:∀ j∈los,j∈l.top) (al:a ∉ los) (hl:l.ls=r.ls.set a v) (ndl:l.top.Nodup)
  (hT:∀ j∈l.top,T'.getD j 0=T.getD j 0 + (if j∈los then T.getD a 0 * t else 0)) (htop:l.top.Perm r.top\/(l.top.Perm (withoutR r.top a)/\v=0)) :
  wS l.ls T' l.top=wS r.ls T r.top - r.ls.getD a 0 * T.getD a 0 + v * T.getD a 0 + T.getD a 0 * t * lenOf r.ls los:=by
 have e1:wS l.ls T' l.top=wS l.ls T l.top + T.getD a 0 * t * lenOf r.ls los:=by
  have c:wS l.ls T' l.top=fS (fun j=>l.ls.getD j 0 * T.getD j 0 + (if j∈los then (T.getD a 0 * t) * l.ls.getD j 0 else 0)) l.top:=J68 fun j hj=>by
   rw [hT j hj,Int.mul_add];by_cases q:j∈los
   ·rw [if_pos q,if_pos q,Int.mul_comm (l.ls.getD j 0) (T.getD a 0 * t)]
   ·rw [if_neg q,if_neg q,Int.mul_zero]
  rw [c,fS_add,fS_if];have e:fS (fun j=>l.ls.getD j 0) (l.top.filter fun j=>decide (j∈los))=lenOf r.ls los:=by
   rw [fS_perm (J5d ndl nl hs)];show lenOf l.ls los=_;rw [hl,Jf _ _ al]
  rw [e];rfl
 have ca:l.ls.getD a 0=v:=by rw [hl,Jv _ _ _ _ ha,if_pos rfl]
 have cw:fS (fun j=>l.ls.getD j 0 * T.getD j 0) (withoutR r.top a)=fS (fun j=>r.ls.getD j 0 * T.getD j 0) (withoutR r.top a):=J68 fun j hj=>by
  have q:=(mem_without.mp hj).2;show l.ls.getD j 0 * _=_;rw [hl,Jv _ _ _ _ ha,if_neg q]
 have full:=J6z (f:=fun j=>r.ls.getD j 0 * T.getD j 0) nd wa;have e2:wS l.ls T l.top=wS r.ls T r.top - r.ls.getD a 0 * T.getD a 0 + v * T.getD a 0:=by
  rcases htop with p | ⟨p,rfl⟩
  ·have e:=J6z (f:=fun j=>l.ls.getD j 0 * T.getD j 0) nd wa;unfold wS;rw [fS_perm p,<- e,cw];simp only [ca] at *;lia
  ·unfold wS;rw [fS_perm p,cw];simp only [Int.zero_mul] at *;lia
 rw [e1,e2]
theorem J5v {r:Rst} (h:r.Ok) (ne:r.top≠[]):if (nextN r).drops=true then ((nextN r).behind r).top=withoutR r.top (nextN r).winner else ((nextN r).behind r).top.Perm r.top:=by
 refine J1x h ne (p:=fun s=>if s.drops=true then (s.behind r).top=withoutR r.top s.winner else (s.behind r).top.Perm r.top) (fun _=>?_) (fun _ _=>?_) (fun _ _ _=>?_) (fun _ _ _=>?_) (fun t _ _ _ _ _ _ _ _=>?_) (fun t _ _ _ _ _ _ _ _=>?_)
 ·show withoutR r.top (lastT r)=withoutR r.top (lastT r);rfl
 ·show withoutR r.top (lastT r)=withoutR r.top (lastT r);rfl
 ·show List.Perm r.top r.top;exact List.Perm.refl _
 ·show List.Perm (putR r.top (lastB r) (lastT r) (r.ts.getD (lastB r) false)) r.top;exact J2e h.row.nd (h.mT ne) _
 ·show List.Perm r.top r.top;exact List.Perm.refl _
 ·show List.Perm r.top r.top;exact List.Perm.refl _
structure LosP (r:Rst) (s:Stp):Prop where
 sub:∀ j∈s.losers r,j∈(s.behind r).top
 no:s.winner ∉ s.losers r
 one:1<=s.times
 tl:s.isHome=false->r.ls.getD s.winner 0 - s.times * lenOf r.ls (s.losers r)=(s.behind r).ls.getD s.winner 0
 ls:(s.behind r).ls=r.ls.set s.winner ((s.behind r).ls.getD s.winner 0)
 zero:s.drops=true->(s.behind r).ls.getD s.winner 0=0
theorem nextL {r:Rst} (h:r.Ok) (ne:r.top≠[]):LosP r (nextN r):=by
 have n:=nextP h ne;have w:=n.win h ne;have mT:=h.mT ne;have mB:=h.mB ne;have nd:=h.row.nd;have ndB:=h.rowB.nd;have hlt:=h.row.lt;generalize nextN r=s at *;have sg:∀ (v:Int),(r.ls.set s.winner v).getD s.winner 0=v:=fun v=>by rw [Jv _ _ _ _ (hlt _ w),if_pos rfl]
 have one1:∀ b,lenOf r.ls [b]=r.ls.getD b 0:=fun b=>by rw [Jj,J1j,Int.add_zero]
 cases s with
 | home a =>
  have sg:∀ (v:Int),(r.ls.set a v).getD a 0=v:=sg;refine ⟨fun j hj=>(nomatch hj),fun q=>(nomatch q),Int.le_refl _,fun q=>(nomatch q),?_,fun _=>sg 0⟩;show r.ls.set a 0=r.ls.set a ((r.ls.set a 0).getD a 0);rw [sg]
 | even a b =>
  obtain ⟨n1,n2,n3,n4⟩:=n;have sg:∀ (v:Int),(r.ls.set a v).getD a 0=v:=sg;have wb:b∈r.top:=by rw [n2];exact mB
  refine ⟨fun j hj=>?_,fun q=>n3 (mem_singleton.mp q),Int.le_refl _,fun _=>?_,?_,fun _=>sg 0⟩
  ·cases mem_singleton.mp hj;exact mem_without.mpr ⟨wb,fun e=>n3 e.symm⟩
  ·show r.ls.getD a 0 - 1 * lenOf r.ls [b]=(r.ls.set a 0).getD a 0;rw [sg,one1];lia
  ·show r.ls.set a 0=r.ls.set a ((r.ls.set a 0).getD a 0);rw [sg]
 | over a b =>
  obtain ⟨n1,n2,n3,n4⟩:=n;have sg:∀ (v:Int),(r.ls.set a v).getD a 0=v:=sg;have wb:b∈r.top:=by rw [n2];exact mB
  refine ⟨fun j hj=>?_,fun q=>n3 (mem_singleton.mp q),Int.le_refl _,fun _=>?_,?_,fun q=>nomatch q⟩
  ·cases mem_singleton.mp hj;exact wb
  ·show r.ls.getD a 0 - 1 * lenOf r.ls [b]=(r.ls.set a (r.ls.getD a 0 - r.ls.getD b 0)).getD a 0;rw [sg,one1];lia
  ·show r.ls.set a _=r.ls.set a ((r.ls.set a (r.ls.getD a 0 - r.ls.getD b 0)).getD a 0);rw [sg]
 | under a b =>
  obtain ⟨n1,n2,n3,n4⟩:=n;have sg:∀ (v:Int),(r.ls.set a v).getD a 0=v:=sg;have wb:b∈r.top:=by rw [n2];exact mT
  have pp:=J2e nd (w:=a) wb (r.ts.getD a false);refine ⟨fun j hj=>?_,fun q=>n3 (mem_singleton.mp q),Int.le_refl _,fun _=>?_,?_,fun q=>nomatch q⟩
  ·cases mem_singleton.mp hj;exact pp.mem_iff.mpr wb
  ·show r.ls.getD a 0 - 1 * lenOf r.ls [b]=(r.ls.set a (r.ls.getD a 0 - r.ls.getD b 0)).getD a 0;rw [sg,one1];lia
  ·show r.ls.set a _=r.ls.set a ((r.ls.set a (r.ls.getD a 0 - r.ls.getD b 0)).getD a 0);rw [sg]
 | overs a t =>
  obtain ⟨n1,n2,n3,n4,n5,n6⟩:=n;have sg:∀ (v:Int),(r.ls.set a v).getD a 0=v:=sg;have wab:a∈r.bot:=h.perm.mem_iff.mpr w;refine ⟨fun j hj=>h.perm.mem_iff.mp (J12 hj),J1c ndB wab,n4,fun _=>?_,?_,fun q=>nomatch q⟩
  ·show r.ls.getD a 0 - t * lenOf r.ls (J2 r.bot a)=(r.ls.set a (r.ls.getD a 0 - t * lenOf r.ls (J2 r.bot a))).getD a 0;rw [sg]
  ·show r.ls.set a _=r.ls.set a ((r.ls.set a (r.ls.getD a 0 - t * lenOf r.ls (J2 r.bot a))).getD a 0);rw [sg]
 | unders a t =>
  obtain ⟨n1,n2,n3,n4,n5,n6⟩:=n;have sg:∀ (v:Int),(r.ls.set a v).getD a 0=v:=sg;refine ⟨fun j hj=>J12 hj,J1c nd w,n4,fun _=>?_,?_,fun q=>nomatch q⟩
  ·show r.ls.getD a 0 - t * lenOf r.ls (J2 r.top a)=(r.ls.set a (r.ls.getD a 0 - t * lenOf r.ls (J2 r.top a))).getD a 0;rw [sg]
  ·show r.ls.set a _=r.ls.set a ((r.ls.set a (r.ls.getD a 0 - t * lenOf r.ls (J2 r.top a))).getD a 0);rw [sg]
structure Tow (r:Rst) (T:List Int):Prop where
 len:T.length=r.ls.length
 pos:∀ j∈r.top,1<=T.getD j 0
 sum:wS r.ls T r.top<=10 ^ 30
theorem Tow.le {r:Rst} {T:List Int} (h:r.Ok) (t:Tow r T) {j:Nat} (hj:j∈r.top):T.getD j 0<=10 ^ 30:=by
 have h1:r.ls.getD j 0 * T.getD j 0<=wS r.ls T r.top:=fS_mem (f:=fun j=>r.ls.getD j 0 * T.getD j 0) (fun i hi=>Int.mul_nonneg (by have:=h.row.pos i hi;lia) (by have:=t.pos i hi;lia)) hj;have h2:1 * T.getD j 0<=r.ls.getD j 0 * T.getD j 0:=Int.mul_le_mul_of_nonneg_right (h.row.pos j hj) (by have:=t.pos j hj;lia);have:=t.sum;lia
theorem J49 {r:Rst} (h:r.Ok) (ne:r.top≠[]) {T:List Int} (hT:T.length=r.ls.length) {j:Nat} (hj:j∈((nextN r).behind r).top) :
  (towB (nextN r) r T).getD j 0=T.getD j 0 + (if j∈(nextN r).losers r then T.getD (nextN r).winner 0 * (nextN r).times else 0):=by
 rw [J4a _ _ _ (by rw [hT];exact h.row.lt j ((h.down ne).sub j hj)),if_pos hj];split <;> lia
theorem Rst.Ok.stay {r:Rst} (h:r.Ok) (ne:r.top≠[]) {T:List Int} (hT:T.length=r.ls.length) :
  wS ((nextN r).behind r).ls (towB (nextN r) r T) ((nextN r).behind r).top + (if (nextN r).isHome=true then r.ls.getD (nextN r).winner 0 * T.getD (nextN r).winner 0 else 0)=wS r.ls T r.top:=by
 have n:=nextP h ne;have w:=n.win h ne;have L:=nextL h ne;have okl:=h.next ne;have nl:=NextP.losers_nd h (s:=nextN r);have tp:=J5v h ne;have tin:=fun j=>@J49 r h ne T hT j;have e:=stays_aux (T:=T) (T':=towB (nextN r) r T) (t:=(nextN r).times) h.row.nd w (h.row.lt _ w) nl L.sub L.no L.ls okl.row.nd (fun j hj=>tin j hj) (by
  by_cases c:(nextN r).drops=true
  ·rw [if_pos c] at tp;exact .inr ⟨by rw [tp],L.zero c⟩
  ·rw [if_neg c] at tp;exact .inl tp)
 rw [e];by_cases c:(nextN r).isHome=true
 ·have d:(nextN r).drops=true:=by
   generalize nextN r=s at *;cases s <;> first | rfl | exact absurd c Bool.false_ne_true
  have l0:lenOf r.ls ((nextN r).losers r)=0:=by
   generalize nextN r=s at *;cases s <;> first | rfl | exact absurd c Bool.false_ne_true
  rw [if_pos c,L.zero d,l0];lia
 ·rw [if_neg c];have t:=L.tl (by simpa using c);rw [<- t,Int.sub_mul,Int.mul_comm (T.getD (nextN r).winner 0) (nextN r).times,Int.mul_assoc,Int.mul_assoc,Int.mul_comm (T.getD (nextN r).winner 0) (lenOf r.ls ((nextN r).losers r))];lia
theorem Tow.next {r:Rst} {T:List Int} (h:r.Ok) (ne:r.top≠[]) (t:Tow r T):Tow ((nextN r).behind r) (towB (nextN r) r T):=by
 have L:=nextL h ne;have w:=(nextP h ne).win h ne;have pw:=t.pos _ w;have st:=h.stay ne t.len;refine ⟨?_,fun j hj=>?_,?_⟩
 ·rw [J3k,t.len,L.ls,length_set]
 ·rw [J49 h ne t.len hj];have:=t.pos j ((h.down ne).sub j hj);have m:1 * 1<=T.getD (nextN r).winner 0 * (nextN r).times:=Int.mul_le_mul pw L.one (by decide) (by lia);split <;> lia
 ·have:=t.sum;have z:0<=r.ls.getD (nextN r).winner 0 * T.getD (nextN r).winner 0:=Int.mul_nonneg (by have:=h.row.pos _ w;lia) (by lia);by_cases c:(nextN r).isHome=true
  ·rw [if_pos c] at st;lia
  ·rw [if_neg c] at st;lia
def lg (x:Int):Nat:=Nat.log2 x.toNat
theorem lg_le {x y:Int} (h1:1<=x) (h:x<=y):lg x<=lg y:=by
 unfold lg;have hx:x.toNat≠0:=by lia
 have hy:y.toNat≠0:=by lia
 have a:=(Nat.le_log2 hx (k:=x.toNat.log2)).mp (Nat.le_refl _);exact (Nat.le_log2 hy).mpr (by lia)
theorem lg_dbl {x y z:Int} (h1:1<=x) (h2:1<=y) (h:lg x<=lg y) (hz:x + y<=z):lg x + 1<=lg z:=by
 unfold lg at *;have hx:x.toNat≠0:=by lia
 have hy:y.toNat≠0:=by lia
 have hz':z.toNat≠0:=by lia
 have a:=(Nat.le_log2 hx (k:=x.toNat.log2)).mp (Nat.le_refl _);have b:=(Nat.le_log2 hy (k:=x.toNat.log2)).mp h;refine (Nat.le_log2 hz').mpr ?_;rw [Nat.pow_succ];lia
theorem lg_small {x:Int} (h1:1<=x) (h:x<=10 ^ 30):lg x<=99:=by
 unfold lg;have hx:x.toNat≠0:=by lia
 have:=(Nat.log2_lt hx (k:=100)).mpr (by lia);lia
def nS (f:Nat->Nat) (row:List Nat):Nat:=(row.map f).sum
theorem J5b (f:Nat->Nat) (j:Nat) (row:List Nat):nS f (j :: row)=f j + nS f row:=by unfold nS;rw [map_cons,sum_cons]
theorem nS_perm {f:Nat->Nat} {xs ys:List Nat} (h:xs.Perm ys):nS f xs=nS f ys:=by
 unfold nS
 induction h with
 | nil=>rfl
 | cons x _ ih=>rw [map_cons,map_cons,sum_cons,sum_cons,ih]
 | swap x y l=>simp only [map_cons,sum_cons];lia
 | trans _ _ ih1 ih2=>exact ih1.trans ih2
theorem nS_le {f g:Nat->Nat}:∀ {row:List Nat},(∀ j∈row,f j<=g j)->nS f row<=nS g row
 | [],_=>Nat.le_refl _
 | j :: row,h=>by
  rw [J5b,J5b];have:=h j mem_cons_self;have:=nS_le fun i hi=>h i (mem_cons_of_mem _ hi);lia
theorem nS_lt {f g:Nat->Nat}:∀ {row:List Nat},(∀ j∈row,f j<=g j)->∀ {b:Nat},b∈row->f b < g b->nS f row < nS g row
 | j :: row,h,b,hb,hlt=>by
  rw [J5b,J5b];have h1:=h j mem_cons_self;have h2:=nS_le fun i hi=>h i (mem_cons_of_mem _ hi);rcases mem_cons.mp hb with rfl | hb
  ·lia
  ·have:=nS_lt (fun i hi=>h i (mem_cons_of_mem _ hi)) hb hlt;lia
theorem J6r {f:Nat->Nat} {row:List Nat} (nd:row.Nodup) {a:Nat} (ha:a∈row):nS f (withoutR row a) + f a=nS f row:=by
 rw [<- nS_perm (J2i nd ha),J5b];lia
theorem nS_max {f:Nat->Nat} {c:Nat}:∀ {row:List Nat},(∀ j∈row,f j<=c)->nS f row<=row.length * c
 | [],_=>Nat.zero_le _
 | j :: row,h=>by
  rw [J5b,length_cons,Nat.succ_mul];have:=h j mem_cons_self;have:=nS_max fun i hi=>h i (mem_cons_of_mem _ hi);lia
abbrev fE (T:List Int) (row:List Nat):Nat:=nS (fun j=>100 - lg (T.getD j 0)) row
def need (ls:List Int):Int->List Nat->Nat
 | _,[]=>0
 | x,b :: bs=>if x<=ls.getD b 0 then 1 else 1 + need ls (x - ls.getD b 0) bs
theorem need_len (ls:List Int):∀ (x:Int) (bs:List Nat),need ls x bs<=bs.length
 | _,[]=>Nat.le_refl _
 | x,b :: bs=>by
  unfold need;have:=need_len ls (x - ls.getD b 0) bs;rw [length_cons];split <;> lia
theorem need_app (ls:List Int) (ys:List Nat):∀ (x:Int) (bs:List Nat),1<=x->x<=lenOf ls bs->need ls x (bs ++ ys)=need ls x bs
 | x,[],h1,h2=>by rw [J1j] at h2;lia
 | x,b :: bs,h1,h2=>by
  rw [Jj] at h2;rw [cons_append];unfold need;by_cases c:x<=ls.getD b 0
  ·rw [if_pos c,if_pos c]
  ·rw [if_neg c,if_neg c,need_app ls ys (x - ls.getD b 0) bs (by lia) (by lia)]
theorem J6p {ls ls':List Int}:∀ (x:Int) {bs:List Nat},(∀ j∈bs,ls.getD j 0=ls'.getD j 0)->need ls x bs=need ls' x bs
 | _,[],_=>rfl
 | x,b :: bs,h=>by
  unfold need;rw [h b mem_cons_self,J6p (x - ls'.getD b 0) fun j hj=>h j (mem_cons_of_mem _ hj)]
def mu (r:Rst):Stp->Nat
 | .over a _=>if r.ts.getD a false=true then (J2 r.bot a).length else need r.ls (r.ls.getD a 0) (J2 r.bot a).reverse
 | .under a _=>if r.ts.getD a false=true then (J2 r.top a).length else need r.ls (r.ls.getD a 0) (J2 r.top a).reverse
 | .overs _ _=>25
 | .unders _ _=>25
 | _=>0
theorem behind_len (row:List Nat) (a:Nat):(J2 row a).length<=row.length:=by unfold J2;rw [length_drop];lia
theorem J41 {ls:List Int} {ts:List Bool} {row:List Nat} {a:Nat} (h:row.length<=24):(if ts.getD a false=true then (J2 row a).length else need ls (ls.getD a 0) (J2 row a).reverse)<=24:=by
 have h1:=behind_len row a;have h2:=need_len ls (ls.getD a 0) (J2 row a).reverse;rw [List.length_reverse] at h2;split <;> lia
theorem Rst.Ok.len24 {r:Rst} (h:r.Ok):r.top.length<=24/\r.bot.length<=24:=⟨Nat.le_trans h.row.len_le h.few,Nat.le_trans h.rowB.len_le h.few⟩
theorem mu_le {r:Rst} (h:r.Ok) (s:Stp):mu r s<=25:=by
 obtain ⟨h1,h2⟩:=h.len24
 cases s with
 | over a b=>exact Nat.le_succ_of_le (J41 h2)
 | under a b=>exact Nat.le_succ_of_le (J41 h1)
 | _=>first | exact Nat.le_refl _ | exact Nat.zero_le _
theorem J4u {s:List Nat} {a:Nat} (t:List Nat) (h:a ∉ s):J2 (s ++ a :: t) a=t:=by
 unfold J2;rw [J6w t h,show s ++ a :: t=(s ++ [a]) ++ t by simp,show s.length + 1=(s ++ [a]).length by simp,drop_left]
theorem behind_put {row:List Nat} (nd:row.Nodup) {a b:Nat} (ha:a∈row) (hb:row.getD (row.length - 1) 0=b) (hab:a≠b) :
  ∃ q,J2 row a=q ++ [b]/\J2 (putR row a b false) a=b :: q/\J2 (putR row a b true) a=q/\a ∉ q:=by
 have hne:row≠[]:=fun e=>by rw [e] at ha;cases ha
 have e:=J6i hne;rw [hb] at e;generalize row.dropLast=d at e;subst e;have had:a∈d:=(mem_append.mp ha).resolve_right fun q=>hab (mem_singleton.mp q);obtain ⟨s,t,rfl⟩:=List.append_of_mem had;have n1:=nodup_append.mp nd;have n2:=nodup_append.mp n1.1;have n3:=nodup_cons.mp n2.2.1;have as:a ∉ s:=fun q=>n2.2.2 a q a mem_cons_self rfl;have bd:b ∉ s ++ a :: t:=fun q=>n1.2.2 b q b (by simp) rfl;have at_:a ∉ t:=n3.1
 have w1:withoutR (s ++ a :: t ++ [b]) b=s ++ a :: t:=by
  rw [J1b,J1d,append_nil];exact J1a bd
 have t1:(s ++ a :: t).take (s.length + 1)=s ++ [a]:=by
  rw [show s ++ a :: t=(s ++ [a]) ++ t by simp,show s.length + 1=(s ++ [a]).length by simp,take_left]
 have t2:(s ++ a :: t).drop (s.length + 1)=t:=by
  rw [show s ++ a :: t=(s ++ [a]) ++ t by simp,show s.length + 1=(s ++ [a]).length by simp,drop_left]
 refine ⟨t,?_,?_,?_,at_⟩
 ·rw [show s ++ a :: t ++ [b]=s ++ a :: (t ++ [b]) by simp];exact J4u _ as
 ·unfold putR;rw [w1,J6w t as,if_neg (by decide),t1,t2];rw [show s ++ [a] ++ [b] ++ t=s ++ a :: (b :: t) by simp];exact J4u _ as
 ·unfold putR;rw [w1,J6w t as,if_pos rfl,take_left,drop_left];rw [show s ++ [b] ++ a :: t=(s ++ [b]) ++ a :: t by simp];refine J4u _ fun q=>?_;rcases mem_append.mp q with q | q
  ·exact as q
  ·exact hab (mem_singleton.mp q)
theorem J31 {row:List Nat} {a:Nat} (ha:a∈row) (h:row.getD (row.length - 1) 0≠a):row.getD (row.length - 1) 0∈J2 row a:=by
 have hne:row≠[]:=fun e=>by rw [e] at ha;cases ha
 have h1:row.idxOf a < row.length:=idxOf_lt_length_iff.mpr ha;have h2:row[row.idxOf a]=a:=getElem_idxOf h1;have hl:row.length - 1 < row.length:=by lia
 have e:row.getD (row.length - 1) 0=row[row.length - 1]:=by rw [getD_eq_getElem?_getD,List.getElem?_eq_getElem hl];rfl
 rw [e] at h ⊢;have h3:row.idxOf a≠row.length - 1:=fun q=>h (by simp only [<- q];exact h2);unfold J2;refine List.mem_iff_getElem.mpr ⟨row.length - 1 - (row.idxOf a + 1),by rw [length_drop];lia,?_⟩;rw [List.getElem_drop]
 congr 1
 lia
end Rl
namespace Rl
theorem J6t (ls:List Int) (row:List Nat):lenOf ls row.reverse=lenOf ls row:=J1y (List.reverse_perm row)
theorem mu_down {ls:List Int} {ts ts':List Bool} {row:List Nat} {a b:Nat} (nd:row.Nodup) (ha:a∈row) (hb:row.getD (row.length - 1) 0=b) (hab:a≠b) (hal:a < ls.length) (hb0:1<=ls.getD b 0)
  (hgt:ls.getD b 0 < ls.getD a 0) (hc:ts.getD a false=true\/ls.getD a 0<=lenOf ls (J2 row a)) (ht:ts'.getD a false=ts.getD a false) :
  ((if ts'.getD a false=true then (J2 (putR row a b (ts.getD a false)) a).length else need (ls.set a (ls.getD a 0 - ls.getD b 0)) ((ls.set a (ls.getD a 0 - ls.getD b 0)).getD a 0) (J2 (putR row a b (ts.getD a false)) a).reverse) <
  (if ts.getD a false=true then (J2 row a).length else need ls (ls.getD a 0) (J2 row a).reverse))/\
  (ts'.getD a false=false->¬ lenOf (ls.set a (ls.getD a 0 - ls.getD b 0)) (J2 (putR row a b (ts.getD a false)) a) < (ls.set a (ls.getD a 0 - ls.getD b 0)).getD a 0):=by
 obtain ⟨q,q1,q2,q3,q4⟩:=behind_put nd ha hb hab;have sg:(ls.set a (ls.getD a 0 - ls.getD b 0)).getD a 0=ls.getD a 0 - ls.getD b 0:=by rw [Jv _ _ _ _ hal,if_pos rfl]
 rw [ht,sg];by_cases c:ts.getD a false=true
 ·rw [c,if_pos rfl,if_pos rfl,q3,q1];exact ⟨by simp,fun e=>nomatch e⟩
 ·have c':ts.getD a false=false:=by simpa using c
  have hS:=hc.resolve_left c;rw [c',if_neg (by decide),if_neg (by decide),q2,q1];rw [q1,Je,Jj,J1j] at hS;constructor
  ·rw [List.reverse_cons,List.reverse_append,List.reverse_cons,List.reverse_nil,nil_append,cons_append,nil_append];have e1:need ls (ls.getD a 0) (b :: q.reverse)=1 + need ls (ls.getD a 0 - ls.getD b 0) q.reverse:=by
    rw [need,if_neg (by lia)]
   have e2:need (ls.set a (ls.getD a 0 - ls.getD b 0)) (ls.getD a 0 - ls.getD b 0) (q.reverse ++ [b])=need ls (ls.getD a 0 - ls.getD b 0) (q.reverse ++ [b]):=J6p _ fun j hj=>by
    have:j≠a:=fun e=>by
     subst e;rcases mem_append.mp hj with x | x
     ·exact q4 (List.mem_reverse.mp x)
     ·exact hab (mem_singleton.mp x)
    rw [Jv _ _ _ _ hal,if_neg this]
   rw [e1,e2,need_app _ _ _ _ (by lia) (by rw [J6t];lia)];lia
  ·intro _;rw [Jf _ _ (fun x=>by
    rcases mem_cons.mp x with x | x
    ·exact hab x
    ·exact q4 x),Jj]
   lia
theorem J6h {x S t:Int} (hS:1<=S) (ht:t=(x - 1) / S):x - t * S<=S:=by
 subst ht;have h1:=Int.emod_lt_of_pos (x - 1) (show 0 < S by lia);have h2:=Int.mul_ediv_add_emod (x - 1) S;rw [Int.mul_comm] at h2;lia
theorem run_down {r:Rst} (h:r.Ok) (ne:r.top≠[]):(nextN r).drops=false->(nextN ((nextN r).behind r)).drops=false->
  ((nextN ((nextN r).behind r)).winner=(nextN r).winner/\mu ((nextN r).behind r) (nextN ((nextN r).behind r)) < mu r (nextN r))\/(nextN r).winner∈(nextN ((nextN r).behind r)).losers ((nextN r).behind r):=by
 have okl:=h.next ne;have tp:=J5v h ne;have mT:=h.mT ne;have mB:=h.mB ne;have mTb:=h.perm.mem_iff.mpr mT;have mBb:=h.perm.mem_iff.mpr mB;have nd:=h.row.nd;have ndB:=h.rowB.nd;have hlt:=h.row.lt
 revert okl tp
 refine J1x h ne (p:=fun s=>(s.behind r).Ok->(if s.drops=true then (s.behind r).top=withoutR r.top s.winner else (s.behind r).top.Perm r.top)->s.drops=false->(nextN (s.behind r)).drops=false->
  ((nextN (s.behind r)).winner=s.winner/\mu (s.behind r) (nextN (s.behind r)) < mu r s)\/s.winner∈(nextN (s.behind r)).losers (s.behind r))
  (fun _ _ _ e=>nomatch e) (fun _ _ _ _ e=>nomatch e) ?_ ?_ ?_ ?_
 ·intro c1 c2 c3 okl tp _;have tp:List.Perm ((Stp.over (lastT r) (lastB r)).behind r).top r.top:=tp;have nel:((Stp.over (lastT r) (lastB r)).behind r).top≠[]:=fun e=>ne (by rw [e] at tp;exact tp.symm.eq_nil);have et:(J29 r (lastT r) (lastB r)).getD (lastT r) false=r.ts.getD (lastT r) false:=by
   unfold J29;rw [J21 _ _ _ _ (by rw [h.len];exact hlt _ mB),if_neg c1]
  have md:=mu_down (ts':=J29 r (lastT r) (lastB r)) ndB mTb rfl c1 (hlt _ mT) (h.row.pos _ mB) c2 c3 et;refine J1x okl nel (p:=fun s'=>s'.drops=false->(s'.winner=lastT r/\mu ((Stp.over (lastT r) (lastB r)).behind r) s' < mu r (.over (lastT r) (lastB r)))\/lastT r∈s'.losers ((Stp.over (lastT r) (lastB r)).behind r))
   (fun _ e=>nomatch e) (fun _ _ e=>nomatch e) ?_ ?_ ?_ ?_
  ·intro d1 d2 d3 _;exact .inl ⟨rfl,md.1⟩
  ·intro d1 d2 d3 _;exact .inr (mem_singleton.mpr rfl)
  ·intro t d1 d2 d3 d4 d5 d6 _ _ _;exact absurd d6 (md.2 d3)
  ·intro t d1 d2 d3 d4 d5 d6 _ _ _;exact .inr (J31 (okl.mB nel) d1)
 ·intro c1 c2 c3 okl tp _;have tp:List.Perm ((Stp.under (lastB r) (lastT r)).behind r).top r.top:=tp;have nel:((Stp.under (lastB r) (lastT r)).behind r).top≠[]:=fun e=>ne (by rw [e] at tp;exact tp.symm.eq_nil);have et:(J29 r (lastB r) (lastT r)).getD (lastB r) false=r.ts.getD (lastB r) false:=by
   unfold J29;rw [J21 _ _ _ _ (by rw [h.len];exact hlt _ mT),if_neg (fun e=>c1 e.symm)]
  have md:=mu_down (ts':=J29 r (lastB r) (lastT r)) nd mB rfl (fun e=>c1 e.symm) (hlt _ mB) (h.row.pos _ mT) c2 c3 et;refine J1x okl nel (p:=fun s'=>s'.drops=false->(s'.winner=lastB r/\mu ((Stp.under (lastB r) (lastT r)).behind r) s' < mu r (.under (lastB r) (lastT r)))\/lastB r∈s'.losers ((Stp.under (lastB r) (lastT r)).behind r))
   (fun _ e=>nomatch e) (fun _ _ e=>nomatch e) ?_ ?_ ?_ ?_
  ·intro d1 d2 d3 _;exact .inr (mem_singleton.mpr rfl)
  ·intro d1 d2 d3 _;exact .inl ⟨rfl,md.1⟩
  ·intro t d1 d2 d3 d4 d5 d6 _ _ _;exact .inr (J31 (okl.perm.mem_iff.mpr (okl.mT nel)) (fun e=>d1 e.symm))
  ·intro t d1 d2 d3 d4 d5 d6 _ _ _;exact absurd d6 (md.2 d3)
 ·intro t c1 c2 c3 c4 c5 c6 c7 c8 okl tp _;have tp:List.Perm ((Stp.overs (lastT r) t).behind r).top r.top:=tp;have nel:((Stp.overs (lastT r) t).behind r).top≠[]:=fun e=>ne (by rw [e] at tp;exact tp.symm.eq_nil);have hx:=J6h c5 c7;have sg:((Stp.overs (lastT r) t).behind r).ls.getD (lastT r) 0=r.ls.getD (lastT r) 0 - t * lenOf r.ls (J2 r.bot (lastT r)):=by
   show (r.ls.set (lastT r) _).getD (lastT r) 0=_;rw [Jv _ _ _ _ (hlt _ mT),if_pos rfl]
  have so:lenOf ((Stp.overs (lastT r) t).behind r).ls (J2 r.bot (lastT r))=lenOf r.ls (J2 r.bot (lastT r)):=Jf _ _ (J1c ndB mTb);refine J1x okl nel (p:=fun s'=>s'.drops=false->(s'.winner=lastT r/\mu ((Stp.overs (lastT r) t).behind r) s' < mu r (.overs (lastT r) t))\/lastT r∈s'.losers ((Stp.overs (lastT r) t).behind r))
   (fun _ e=>nomatch e) (fun _ _ e=>nomatch e) ?_ ?_ ?_ ?_
  ·intro d1 d2 d3 _;refine .inl ⟨rfl,Nat.lt_succ_of_le ?_⟩;exact J41 (ls:=((Stp.overs (lastT r) t).behind r).ls) (ts:=r.ts) (a:=lastT r) h.len24.2
  ·intro d1 d2 d3 _;exact .inr (mem_singleton.mpr rfl)
  ·intro t' d1 d2 d3 d4 d5 d6 _ _ _;have d6:lenOf ((Stp.overs (lastT r) t).behind r).ls (J2 r.bot (lastT r)) < ((Stp.overs (lastT r) t).behind r).ls.getD (lastT r) 0:=d6;rw [so,sg] at d6;lia
  ·intro t' d1 d2 d3 d4 d5 d6 _ _ _;exact .inr (J31 (okl.mB nel) d1)
 ·intro t c1 c2 c3 c4 c5 c6 c7 c8 okl tp _;have tp:List.Perm ((Stp.unders (lastB r) t).behind r).top r.top:=tp;have nel:((Stp.unders (lastB r) t).behind r).top≠[]:=fun e=>ne (by rw [e] at tp;exact tp.symm.eq_nil);have hx:=J6h c5 c7;have sg:((Stp.unders (lastB r) t).behind r).ls.getD (lastB r) 0=r.ls.getD (lastB r) 0 - t * lenOf r.ls (J2 r.top (lastB r)):=by
   show (r.ls.set (lastB r) _).getD (lastB r) 0=_;rw [Jv _ _ _ _ (hlt _ mB),if_pos rfl]
  have so:lenOf ((Stp.unders (lastB r) t).behind r).ls (J2 r.top (lastB r))=lenOf r.ls (J2 r.top (lastB r)):=Jf _ _ (J1c nd mB);refine J1x okl nel (p:=fun s'=>s'.drops=false->(s'.winner=lastB r/\mu ((Stp.unders (lastB r) t).behind r) s' < mu r (.unders (lastB r) t))\/lastB r∈s'.losers ((Stp.unders (lastB r) t).behind r))
   (fun _ e=>nomatch e) (fun _ _ e=>nomatch e) ?_ ?_ ?_ ?_
  ·intro d1 d2 d3 _;exact .inr (mem_singleton.mpr rfl)
  ·intro d1 d2 d3 _;refine .inl ⟨rfl,Nat.lt_succ_of_le ?_⟩;exact J41 (ls:=((Stp.unders (lastB r) t).behind r).ls) (ts:=r.ts) (a:=lastB r) h.len24.1
  ·intro t' d1 d2 d3 d4 d5 d6 _ _ _;exact .inr (J31 (okl.perm.mem_iff.mpr (okl.mT nel)) (fun e=>d1 e.symm))
  ·intro t' d1 d2 d3 d4 d5 d6 _ _ _;have d6:lenOf ((Stp.unders (lastB r) t).behind r).ls (J2 r.top (lastB r)) < ((Stp.unders (lastB r) t).behind r).ls.getD (lastB r) 0:=d6;rw [so,sg] at d6;lia
def Up (r:Rst) (T:List Int) (s:Stp):Prop:=s.drops=true\/∃ b∈s.losers r,lg (T.getD b 0)<=lg (T.getD s.winner 0)
open Classical in
noncomputable def pot (r:Rst) (T:List Int):Nat :=
 if r.top=[] then 0 else (fE T r.top * 102 + (if Up r T (nextN r) then 0 else lg (T.getD (nextN r).winner 0) + 1)) * 26 + (if Up r T (nextN r) then 0 else mu r (nextN r))
theorem Tow.lg99 {r:Rst} {T:List Int} (h:r.Ok) (t:Tow r T) {j:Nat} (hj:j∈r.top):lg (T.getD j 0)<=99:=lg_small (t.pos j hj) (t.le h hj)
theorem pot_le {r:Rst} {T:List Int} (h:r.Ok) (t:Tow r T):pot r T<=6367451:=by
 unfold pot;by_cases c:r.top=[]
 ·rw [if_pos c];lia
 rw [if_neg c];have h1:fE T r.top<=r.top.length * 100:=nS_max fun j _=>by lia
 have h2:=h.len24.1;have h3:=t.lg99 h ((nextP h c).win h c);have h4:=mu_le h (nextN r);split <;> lia
theorem up_lt {r:Rst} {T:List Int} (h:r.Ok) (ne:r.top≠[]) (t:Tow r T):fE (towB (nextN r) r T) ((nextN r).behind r).top<=fE T r.top/\(Up r T (nextN r)->fE (towB (nextN r) r T) ((nextN r).behind r).top < fE T r.top):=by
 have L:=nextL h ne;have w:=(nextP h ne).win h ne;have pw:=t.pos _ w;have tp:=J5v h ne;have okl:=h.next ne;have tl:=t.next h ne;have sub:=(h.down ne).sub;have one:T.getD (nextN r).winner 0<=T.getD (nextN r).winner 0 * (nextN r).times:=by
  have:T.getD (nextN r).winner 0 * 1<=T.getD (nextN r).winner 0 * (nextN r).times:=Int.mul_le_mul_of_nonneg_left L.one (by lia);lia
 have le:∀ j∈((nextN r).behind r).top,T.getD j 0<=(towB (nextN r) r T).getD j 0:=fun j hj=>by
  rw [J49 h ne t.len hj];split <;> lia
 have mono:∀ j∈((nextN r).behind r).top,100 - lg ((towB (nextN r) r T).getD j 0)<=100 - lg (T.getD j 0):=fun j hj=>by
  have:=lg_le (t.pos j (sub j hj)) (le j hj);lia
 have m:=nS_le (f:=fun j=>100 - lg ((towB (nextN r) r T).getD j 0)) (g:=fun j=>100 - lg (T.getD j 0)) mono;by_cases c:(nextN r).drops=true
 ·rw [if_pos c] at tp;have e:=J6r (f:=fun j=>100 - lg (T.getD j 0)) h.row.nd w;have g:=t.lg99 h w;rw [<- tp] at e;have:fE (towB (nextN r) r T) ((nextN r).behind r).top < fE T r.top:=by
   show nS _ _ < nS _ _;rw [<- e];lia
  exact ⟨Nat.le_of_lt this,fun _=>this⟩
 ·rw [if_neg c] at tp;have e:fE T ((nextN r).behind r).top=fE T r.top:=nS_perm tp;refine ⟨by rw [<- e];exact m,fun u=>?_⟩;rcases u with u | ⟨b,hb,hg⟩
  ·exact absurd u c
  rw [<- e];have bl:=L.sub b hb;refine nS_lt mono bl ?_;have e2:=J49 h ne t.len bl;rw [if_pos hb] at e2;have d:=lg_dbl (z:=(towB (nextN r) r T).getD b 0) (t.pos b (sub b bl)) pw hg (by lia);have g:=tl.lg99 okl bl;lia
theorem pot_lt {r:Rst} {T:List Int} (h:r.Ok) (ne:r.top≠[]) (t:Tow r T):pot ((nextN r).behind r) (towB (nextN r) r T) < pot r T:=by
 obtain ⟨f1,f2⟩:=up_lt h ne t;have okl:=h.next ne;have tl:=t.next h ne;have L:=nextL h ne;have w:=(nextP h ne).win h ne;unfold pot;rw [if_neg ne];have fpos:1<=fE T r.top:=by
  have e:=J6r (f:=fun j=>100 - lg (T.getD j 0)) h.row.nd w;have g:=t.lg99 h w;show 1<=nS _ _;rw [<- e];lia
 by_cases c:((nextN r).behind r).top=[]
 ·rw [if_pos c];lia
 rw [if_neg c];have w':=(nextP okl c).win okl c;have g':=tl.lg99 okl w';have m':=mu_le okl (nextN ((nextN r).behind r));by_cases u:Up r T (nextN r)
 ·rw [if_pos u,if_pos u];have:=f2 u;split <;> lia
 rw [if_neg u,if_neg u];by_cases u':Up ((nextN r).behind r) (towB (nextN r) r T) (nextN ((nextN r).behind r))
 ·rw [if_pos u',if_pos u'];lia
 rw [if_neg u',if_neg u'];have d1:(nextN r).drops=false:=by
  cases q:(nextN r).drops
  ·rfl
  ·exact absurd (.inl q) u
 have d2:(nextN ((nextN r).behind r)).drops=false:=by
  cases q:(nextN ((nextN r).behind r)).drops
  ·rfl
  ·exact absurd (.inl q) u'
 have tp:=J5v h ne;rw [if_neg (by rw [d1];decide)] at tp;have wl:(nextN r).winner∈((nextN r).behind r).top:=tp.mem_iff.mpr w;have ew:(towB (nextN r) r T).getD (nextN r).winner 0=T.getD (nextN r).winner 0:=by
  rw [J49 h ne t.len wl,if_neg L.no];lia
 rcases run_down h ne d1 d2 with ⟨e,m⟩ | q
 ·rw [e,ew];lia
 ·have hg:¬ lg ((towB (nextN r) r T).getD (nextN r).winner 0)<=lg ((towB (nextN r) r T).getD (nextN ((nextN r).behind r)).winner 0):=fun x=>u' (.inr ⟨_,q,x⟩);rw [ew] at hg;lia
abbrev Cst:=Rst × List Int
def chS (p:Cst):Cst:=((nextN p.1).behind p.1,towB (nextN p.1) p.1 p.2)
def chN (p:Cst):Nat->Cst
 | 0=>p
 | k + 1=>chS (chN p k)
abbrev Band:=Int × Int × Int × Bool
def bndB (p:Cst):List Band:=if (nextN p.1).isHome=true then [((chS p).1.size,p.1.ls.getD (nextN p.1).winner 0,p.2.getD (nextN p.1).winner 0,p.1.ts.getD (nextN p.1).winner false)] else []
def bndN (p:Cst):Nat->List Band
 | 0=>[]
 | k + 1=>bndN p k ++ bndB (chN p k)
theorem bndB_len (p:Cst):(bndB p).length<=1:=by unfold bndB;split <;> simp
theorem J4s (p:Cst):∀ k,(bndN p k).length<=k
 | 0=>Nat.le_refl _
 | k + 1=>by
  have h1:=J4s p k;have h2:=bndB_len (chN p k);show (bndN p k ++ bndB (chN p k)).length<=k + 1;rw [length_append];lia
def Long (p:Cst) (k:Nat):Prop:=∀ i < k,(chN p i).1.top≠[]
structure Cok (p:Cst):Prop where
 ok:p.1.Ok
 tow:Tow p.1 p.2
theorem Cok.next {p:Cst} (h:Cok p) (ne:p.1.top≠[]):Cok (chS p):=⟨h.ok.next ne,h.tow.next h.ok ne⟩
theorem Cok.at_ {p:Cst} (h:Cok p):∀ {k:Nat},Long p k->Cok (chN p k)
 | 0,_=>h
 | k + 1,l=>(h.at_ fun i hi=>l i (by lia)).next (l k (by lia))
theorem Cok.short {p:Cst} (h:Cok p):∀ {k:Nat},Long p k->k + pot (chN p k).1 (chN p k).2<=pot p.1 p.2
 | 0,_=>by rw [Nat.zero_add];exact Nat.le_refl _
 | k + 1,l=>by
  have h1:=h.short (k:=k) fun i hi=>l i (by lia);have c:=h.at_ (k:=k) fun i hi=>l i (by lia);have h2:pot (chS (chN p k)).1 (chS (chN p k)).2 < _:=pot_lt c.ok (l k (by lia)) c.tow;show k + 1 + pot (chS (chN p k)).1 (chS (chN p k)).2<=_;lia
theorem Cok.few {p:Cst} (h:Cok p) {k:Nat} (l:Long p k):k<=6367451:=by
 have h1:=h.short l;have h2:=pot_le h.ok h.tow;lia
theorem fS_ones {ls:List Int}:∀ {row:List Nat} {n:Nat},(∀ j∈row,j < n)->wS ls (List.replicate n 1) row=lenOf ls row
 | row,n,h=>J68 fun j hj=>by
  have:(List.replicate n (1:Int)).getD j 0=1:=by
   rw [getD_eq_getElem?_getD,getElem?_replicate,if_pos (h j hj)];rfl
  rw [this,Int.mul_one]
theorem J5g {r:Rst} (h:r.Ok) (hs:r.size<=10 ^ 30):Cok (r,List.replicate r.ls.length 1):=⟨h,by
 refine ⟨length_replicate,fun j hj=>?_,?_⟩
 ·show 1<=(List.replicate r.ls.length (1:Int)).getD j 0;rw [getD_eq_getElem?_getD,getElem?_replicate,if_pos (h.row.lt j hj)];exact Int.le_refl _
 ·show wS r.ls (List.replicate r.ls.length 1) r.top<=_;rw [fS_ones h.row.lt];exact hs⟩
theorem Cok.size30 {p:Cst} (h:Cok p):p.1.size<=10 ^ 30:=by
 have h1:p.1.size<=wS p.1.ls p.2 p.1.top:=by
  show lenOf _ _<=_;have:∀ row:List Nat,(∀ j∈row,j∈p.1.top)->lenOf p.1.ls row<=wS p.1.ls p.2 row:=fun row=>by
   induction row with
   | nil=>intro _;exact Int.le_refl _
   | cons a row ih =>
    intro hs;have ha:=hs a mem_cons_self;have h1:=h.ok.row.pos a ha;have h2:=h.tow.pos a ha;have h3:p.1.ls.getD a 0 * 1<=p.1.ls.getD a 0 * p.2.getD a 0:=Int.mul_le_mul_of_nonneg_left h2 (by lia);have h4:=ih fun j hj=>hs j (mem_cons_of_mem _ hj);rw [Jj];unfold wS at *;rw [J2t];lia
  exact this _ fun j hj=>hj
 have:=h.tow.sum;lia
end Rl
namespace Rl
def posR (ls:List Int) (row:List Nat) (j:Nat):Int:=lenOf ls (row.take (row.idxOf j))
theorem J22 (ls:List Int) (j:Nat) (ys:List Nat):posR ls (j :: ys) j=0:=by
 unfold posR;rw [List.idxOf_cons_self];rfl
theorem Jp (ls:List Int) {i j:Nat} (h:i≠j) (ys:List Nat):posR ls (i :: ys) j=ls.getD i 0 + posR ls ys j:=by
 unfold posR;have hx:(i == j)=false:=by simpa using h
 rw [idxOf_cons,hx];show lenOf ls ((i :: ys).take (ys.idxOf j + 1))=_;rw [List.take_succ_cons,Jj]
theorem Jt (ls:List Int) {xs:List Nat} {j:Nat} (ys:List Nat) (h:j ∉ xs):posR ls (xs ++ ys) j=lenOf ls xs + posR ls ys j:=by
 induction xs with
 | nil=>rw [nil_append,J1j,Int.zero_add]
 | cons a r ih =>
  rw [cons_append,Jp _ (fun e=>h (by rw [e];exact mem_cons_self)),ih fun q=>h (mem_cons_of_mem _ q),Jj];lia
theorem Ju (ls:List Int) {xs:List Nat} {j:Nat} (ys:List Nat) (h:j∈xs):posR ls (xs ++ ys) j=posR ls xs j:=by
 induction xs with
 | nil=>cases h
 | cons a r ih =>
  by_cases e:a=j
  ·subst e;rw [cons_append,J22,J22]
  ·rw [cons_append,Jp _ e,Jp _ e,ih ((mem_cons.mp h).resolve_left fun q=>e q.symm)]
theorem Jq (ls:List Int) {xs:List Nat} {j:Nat} (ys:List Nat) (h:j ∉ xs):posR ls (xs ++ j :: ys) j=lenOf ls xs:=by
 rw [Jt _ _ h,J22,Int.add_zero]
theorem J57 {ls:List Int} {row:List Nat} (h:∀ j∈row,0<=ls.getD j 0) (j:Nat):0<=posR ls row j:=Jy fun i hi=>h i (mem_of_mem_take hi)
theorem J4h {ls:List Int} {row:List Nat} (h:∀ j∈row,0<=ls.getD j 0) {j:Nat} (hj:j∈row):posR ls row j + ls.getD j 0<=lenOf ls row:=by
 obtain ⟨s,t,rfl,hs⟩:∃ s t,row=s ++ j :: t/\j ∉ s:=by
  induction row with
  | nil=>cases hj
  | cons a r ih =>
   by_cases e:a=j
   ·exact ⟨[],r,by rw [e];rfl,by simp⟩
   ·obtain ⟨s,t,e1,e2⟩:=ih (fun j hj=>h j (mem_cons_of_mem _ hj)) ((mem_cons.mp hj).resolve_left fun q=>e q.symm);exact ⟨a :: s,t,by rw [e1];rfl,fun q=>(mem_cons.mp q).elim (fun q=>e q.symm) e2⟩
 rw [Jq _ _ hs,Je,Jj];have:=Jy (ls:=ls) (os:=t) fun i hi=>h i (mem_append_right _ (mem_cons_of_mem _ hi));lia
theorem J4d {row:List Nat} {j:Nat} (hj:j∈row):∃ s t,row=s ++ j :: t/\j ∉ s:=by
 induction row with
 | nil=>cases hj
 | cons a r ih =>
  by_cases e:a=j
  ·exact ⟨[],r,by rw [e];rfl,by simp⟩
  ·obtain ⟨s,t,e1,e2⟩:=ih ((mem_cons.mp hj).resolve_left fun q=>e q.symm);exact ⟨a :: s,t,by rw [e1];rfl,fun q=>(mem_cons.mp q).elim (fun q=>e q.symm) e2⟩
theorem J3c (ls:List Int) {row:List Nat} (nd:row.Nodup) {i:Nat} (hi:i < row.length):posR ls row (row.getD i 0)=J16 ls row i:=by
 have e:row.idxOf (row.getD i 0)=i:=by
  have h1:row.getD i 0=row[i]:=by rw [getD_eq_getElem?_getD,List.getElem?_eq_getElem hi];rfl
  have h2:row.idxOf (row.getD i 0) < row.length:=idxOf_lt_length_iff.mpr (J1k hi);have h3:row[row.idxOf (row.getD i 0)]=row.getD i 0:=getElem_idxOf h2;exact (getElem_inj nd).mp (h3.trans h1)
 unfold posR;rw [e,J35 ls row i (by lia)];rfl
def LetAt (r:Rst) (y:Int) (j:Nat) (o:Int):Prop:=j∈r.top/\0<=o/\o < r.ls.getD j 0/\y=posR r.ls r.top j + o
def offT (r:Rst) (j:Nat) (o:Int):Int:=if r.ts.getD j false=true then r.ls.getD j 0 - 1 - o else o
theorem LetAt.off {r:Rst} {y o:Int} {j:Nat} (h:LetAt r y j o):0<=offT r j o/\offT r j o < r.ls.getD j 0:=by
 obtain ⟨_,h1,h2,_⟩:=h;unfold offT;split <;> lia
theorem LetAt.of_at {r:Rst} (h:r.Ok) {y:Int} {i:Nat} (a:AtR r.ls r.top y i):LetAt r y (r.top.getD i 0) (y - J16 r.ls r.top i):=by
 obtain ⟨a1,a2,a3⟩:=a;rw [J17] at a3;exact ⟨J1k a1,by lia,by lia,by rw [J3c _ h.row.nd a1];lia⟩
theorem LetAt.at_ {r:Rst} (h:r.Ok) {y o:Int} {j:Nat} (a:LetAt r y j o):∃ i,AtR r.ls r.top y i/\r.top.getD i 0=j/\y - J16 r.ls r.top i=o:=by
 obtain ⟨hj,h1,h2,rfl⟩:=a;obtain ⟨i,hi,rfl⟩:=mem_at hj;rw [J3c _ h.row.nd hi];refine ⟨i,⟨hi,by lia,by rw [J17];lia⟩,rfl,by lia⟩
theorem LetAt.same {r:Rst} (h:r.Ok) {y o o':Int} {j j':Nat} (a:LetAt r y j o) (b:LetAt r y j' o'):j=j'/\o=o':=by
 obtain ⟨i,a1,rfl,rfl⟩:=a.at_ h;obtain ⟨i',b1,rfl,rfl⟩:=b.at_ h;obtain rfl:=h.row.unique a1 b1;exact ⟨rfl,rfl⟩
theorem Rst.Ok.letAt {r:Rst} (h:r.Ok) {y:Int} (h0:0<=y) (h1:y < r.size):∃ j o,LetAt r y j o:=by
 obtain ⟨i,hi⟩:=h.row.exists h0 h1;exact ⟨_,_,LetAt.of_at h hi⟩
theorem LetAt.inside {r:Rst} (h:r.Ok) {y o:Int} {j:Nat} (a:LetAt r y j o):0<=y/\y < r.size:=by
 obtain ⟨i,a1,_⟩:=a.at_ h;exact h.row.inside a1
theorem J65 {r:Rst} (h:r.Ok) {y z:Int}:J2m r y z↔∃ j o,LetAt r y j o/\z=posR r.ls r.bot j + offT r j o:=by
 have key:∀ j,j∈r.top->(firsts r.ls r.bot).getD j 0=posR r.ls r.bot j:=fun j hj=>by
  obtain ⟨k,hk,rfl⟩:=mem_at (h.perm.mem_iff.mpr hj);rw [h.rowB.first hk,J3c _ h.rowB.nd hk]
 constructor
 ·rintro ⟨i,hi,rfl⟩;refine ⟨_,_,LetAt.of_at h hi,?_⟩;unfold moveN offT;rw [key _ (J1k hi.1)];split <;> lia
 ·rintro ⟨j,o,a,rfl⟩;obtain ⟨i,a1,rfl,rfl⟩:=a.at_ h;refine ⟨i,a1,?_⟩;unfold moveN offT;rw [key _ (J1k a1.1)];split <;> lia
open Classical in
noncomputable def go (r:Rst) (y:Int):Int:=if h:∃ z,J2m r y z then Classical.choose h else y
theorem go_of {r:Rst} (h:r.Ok) {y z:Int} (g:J2m r y z):go r y=z:=by
 unfold go;rw [dif_pos ⟨z,g⟩];exact h.fun_ (Classical.choose_spec ⟨z,g⟩) g
theorem go_to {r:Rst} (h:r.Ok) {y:Int} (h0:0<=y) (h1:y < r.size):J2m r y (go r y):=by
 obtain ⟨z,g⟩:=h.there h0 h1;rw [go_of h g];exact g
theorem go_at {r:Rst} (h:r.Ok) {y o:Int} {j:Nat} (a:LetAt r y j o):go r y=posR r.ls r.bot j + offT r j o:=go_of h ((J65 h).mpr ⟨j,o,a,rfl⟩)
theorem go_in {r:Rst} (h:r.Ok) {y:Int} (h0:0<=y) (h1:y < r.size):0<=go r y/\go r y < r.size:=h.stays (go_to h h0 h1)
theorem go_inj {r:Rst} (h:r.Ok) {y z:Int} (h0:0<=y) (h1:y < r.size) (k0:0<=z) (k1:z < r.size) (e:go r y=go r z):y=z:=by
 have a:=go_to h h0 h1;have b:=go_to h k0 k1;rw [e] at a;exact h.inj a b
theorem J5t {row X Y:List Nat} {w l:Nat} (e:row=X ++ w :: (Y ++ [l])) (nd:row.Nodup) (ahead:Bool):putR row w l ahead=X ++ (if ahead=true then l :: w :: Y else w :: l :: Y):=by
 subst e;have e1:X ++ w :: (Y ++ [l])=(X ++ w :: Y) ++ [l]:=by simp
 rw [e1] at nd ⊢;have n1:=nodup_append.mp nd;have n2:=nodup_append.mp n1.1;have wX:w ∉ X:=fun q=>n2.2.2 w q w mem_cons_self rfl;have ld:l ∉ X ++ w :: Y:=fun q=>n1.2.2 l q l (by simp) rfl;have w1:withoutR (X ++ w :: Y ++ [l]) l=X ++ w :: Y:=by
  rw [J1b,J1d,append_nil];exact J1a ld
 unfold putR;rw [w1,J6w Y wX];have t1:(X ++ w :: Y).take (X.length + 1)=X ++ [w]:=by
  rw [show X ++ w :: Y=(X ++ [w]) ++ Y by simp,show X.length + 1=(X ++ [w]).length by simp,take_left]
 have t2:(X ++ w :: Y).drop (X.length + 1)=Y:=by
  rw [show X ++ w :: Y=(X ++ [w]) ++ Y by simp,show X.length + 1=(X ++ [w]).length by simp,drop_left]
 cases ahead with
 | true=>rw [if_pos rfl,if_pos rfl,take_left,drop_left];simp
 | false=>rw [if_neg (by decide),if_neg (by decide),t1,t2];simp
theorem J34 {X Y:List Nat} {w:Nat} (h:w ∉ X):J2 (X ++ w :: Y) w=Y:=by
 unfold J2;rw [J6w Y h,show X ++ w :: Y=(X ++ [w]) ++ Y by simp,show X.length + 1=(X ++ [w]).length by simp,drop_left]
theorem J14 {row:List Nat} (ne:row≠[]):∃ D,row=D ++ [row.getD (row.length - 1) 0]:=⟨_,J6i ne⟩
theorem J5y {row:List Nat} (ne:row≠[]) {a:Nat} (ha:a∈row) (hl:row.getD (row.length - 1) 0≠a):∃ X Y,row=X ++ a :: (Y ++ [row.getD (row.length - 1) 0])/\a ∉ X:=by
 obtain ⟨D,e⟩:=J14 ne;generalize row.getD (row.length - 1) 0=b at *;subst e;have had:a∈D:=(mem_append.mp ha).resolve_right fun q=>hl (mem_singleton.mp q).symm;obtain ⟨X,Y,rfl,hX⟩:=J4d had;exact ⟨X,Y,by simp,hX⟩
end Rl
namespace Rl
theorem Js (ls:List Int) {a:Nat} (v:Int) {row:List Nat} (h:a ∉ row) (j:Nat):posR (ls.set a v) row j=posR ls row j:=Jf _ _ fun q=>h (mem_of_mem_take q)
theorem J1m (ls:List Int) {a:Nat} (v:Int) {T:List Nat} (h:a ∉ T) {j:Nat} (hj:j∈T ++ [a]):posR (ls.set a v) (T ++ [a]) j=posR ls (T ++ [a]) j:=by
 by_cases c:j∈T
 ·rw [Ju _ _ c,Ju _ _ c,Js _ _ h]
 ·obtain rfl:j=a:=by simpa [c] using hj
  rw [Jq _ _ c,Jq _ _ c,Jf _ _ c]
def LoseP (r l:Rst) (y:Int) (j:Nat):Stp->Prop
 | .home _=>False
 | .even w _=>(∃ o',LetAt r y j o')/\l.size<=go r y/\(∃ o',LetAt r (go r y) w o')/\go r (go r y)=go l y
 | .over w _=>(∃ o',LetAt r y j o')/\l.size<=go r y/\(∃ o',LetAt r (go r y) w o')/\go r (go r y)=go l y
 | .under w _=>(∃ o',LetAt r y w o')/\l.size<=go r y/\(∃ o',LetAt r (go r y) j o')/\go r (go r y)=go l y
 | .overs w t=>(∃ o',LetAt r y j o')/\(∀ k:Int,0<=k->k < t->l.size<=go r y - k * lenOf r.ls (J2 r.bot w)/\(∃ o',LetAt r (go r y - k * lenOf r.ls (J2 r.bot w)) w o')/\
   go r (go r y - k * lenOf r.ls (J2 r.bot w))=go r y - k * lenOf r.ls (J2 r.bot w) - lenOf r.ls (J2 r.bot w))/\go r y - t * lenOf r.ls (J2 r.bot w)=go l y
 | .unders w t=>(∀ k:Int,0<=k->k < t->(∃ o',LetAt r (y + k * lenOf r.ls (J2 r.top w)) w o')/\go r (y + k * lenOf r.ls (J2 r.top w))=y + k * lenOf r.ls (J2 r.top w) + lenOf r.ls (J2 r.top w)/\
   l.size<=y + k * lenOf r.ls (J2 r.top w) + lenOf r.ls (J2 r.top w))/\(∃ o',LetAt r (y + t * lenOf r.ls (J2 r.top w)) j o')/\go r (y + t * lenOf r.ls (J2 r.top w))=go l y
structure RetOf (r:Rst) (s:Stp):Prop where
 plain:∀ y j o,LetAt (s.behind r) y j o->j ∉ s.losers r->(∃ o',LetAt r y j o')/\go r y=go (s.behind r) y
 lose:∀ y j o,LetAt (s.behind r) y j o->j∈s.losers r->LoseP r (s.behind r) y j s
theorem J1n {T:List Nat} {a:Nat} (h:(T ++ [a]).Nodup):a ∉ T:=fun q=>(nodup_append.mp h).2.2 a q a (by simp) rfl
theorem J6q {X Y:List Nat} {a:Nat} (h:(X ++ a :: Y).Nodup):a ∉ X/\a ∉ Y/\∀ j∈X,j ∉ Y:=by
 have n:=nodup_append.mp h;have n2:=nodup_cons.mp n.2.1;exact ⟨fun q=>n.2.2 a q a mem_cons_self rfl,n2.1,fun j hj q=>n.2.2 j hj j (mem_cons_of_mem _ q) rfl⟩
theorem Jw (ls:List Int) (a:Nat):lenOf ls [a]=ls.getD a 0:=by rw [Jj,J1j,Int.add_zero]
theorem ret_home {r:Rst} (h:r.Ok) (ne:r.top≠[]) {a:Nat} (n:NextP r (.home a)) (okl:((Stp.home a).behind r).Ok):RetOf r (.home a):=by
 obtain ⟨n1,n2⟩:=n;have neb:r.bot≠[]:=fun e=>ne (by have:=h.perm;rw [e] at this;exact this.symm.eq_nil);obtain ⟨T,eT⟩:=J14 ne;obtain ⟨B,eB⟩:=J14 neb;have eT:r.top=T ++ [a]:=by rw [n1];exact eT
 have eB:r.bot=B ++ [a]:=by rw [n2];exact eB
 have aT:=J1n (eT ▸ h.row.nd);have aB:=J1n (eB ▸ h.rowB.nd);have la:=h.row.lt a (by rw [eT];simp);refine ⟨fun y j o A hj=>?_,fun y j o A hj=>nomatch hj⟩;have lt:((Stp.home a).behind r).top=T:=by show withoutR r.top a=T;rw [eT,J1b,J1d,append_nil,J1a aT]
 have lb:((Stp.home a).behind r).bot=B:=by show withoutR r.bot a=B;rw [eB,J1b,J1d,append_nil,J1a aB]
 have g:=go_at okl A;obtain ⟨A1,A2,A3,A4⟩:=A;rw [lt] at A1 A4;have ja:j≠a:=fun e=>aT (e ▸ A1);have e1:((Stp.home a).behind r).ls.getD j 0=r.ls.getD j 0:=by show (r.ls.set a 0).getD j 0=_;rw [Jv _ _ _ _ la,if_neg ja]
 have e2:((Stp.home a).behind r).ts.getD j false=r.ts.getD j false:=by show (r.ts.set a false).getD j false=_;rw [J21 _ _ _ _ (by rw [h.len];exact la),if_neg ja]
 have jB:j∈B:=by
  have:j∈r.bot:=h.perm.mem_iff.mpr (by rw [eT];exact mem_append_left _ A1);rw [eB] at this;exact (mem_append.mp this).resolve_right fun q=>ja (mem_singleton.mp q)
 have A':LetAt r y j o:=by
  refine ⟨by rw [eT];exact mem_append_left _ A1,A2,by rw [<- e1];exact A3,?_⟩;rw [A4,eT,Ju _ _ A1];show posR (r.ls.set a 0) T j + o=_;rw [Js _ _ aT]
 refine ⟨⟨o,A'⟩,?_⟩;rw [go_at h A',g,lb,eB,Ju _ _ jB];show _=posR (r.ls.set a 0) B j + _;rw [Js _ _ aB];unfold offT;rw [e1,e2]
theorem ret_even {r:Rst} (h:r.Ok) (ne:r.top≠[]) {a b:Nat} (n:NextP r (.even a b)) (okl:((Stp.even a b).behind r).Ok):RetOf r (.even a b):=by
 obtain ⟨n1,n2,n3,n4⟩:=n;have neb:r.bot≠[]:=fun e=>ne (by have:=h.perm;rw [e] at this;exact this.symm.eq_nil);obtain ⟨T,eT⟩:=J14 ne;have eT:r.top=T ++ [a]:=by rw [n1];exact eT
 have aIn:a∈r.top:=by rw [eT];simp
 obtain ⟨X,Y,eB,aX⟩:=J5y neb (h.perm.mem_iff.mpr aIn) (fun e=>n3 (by rw [n2];exact e.symm));have eB:r.bot=X ++ a :: (Y ++ [b]):=by rw [n2];exact eB
 have bIn:b∈r.top:=h.perm.mem_iff.mp (by rw [eB];simp);have aT:=J1n (eT ▸ h.row.nd);have ndB:(X ++ a :: (Y ++ [b])).Nodup:=eB ▸ h.rowB.nd;obtain ⟨_,aY0,XY⟩:=J6q ndB;have aY:a ∉ Y:=fun q=>aY0 (mem_append_left _ q);have bX:b ∉ X:=fun q=>XY b q (by simp);have bY:b ∉ Y:=J1n (nodup_cons.mp (nodup_append.mp ndB).2.1).2;have la:=h.row.lt a aIn;have lb':=h.row.lt b bIn;have pb:=h.row.pos b bIn;have lt:((Stp.even a b).behind r).top=T:=by show withoutR r.top a=T;rw [eT,J1b,J1d,append_nil,J1a aT]
 have lb:((Stp.even a b).behind r).bot=X ++ b :: Y:=by
  show withoutR (putR r.bot a b false) a=_;rw [J5t eB h.rowB.nd,if_neg (by decide),show X ++ a :: b :: Y=X ++ ([a] ++ ([b] ++ Y)) by simp,J1b,J1b,J1b,J1d,J1a aX,J1a aY,J1a (xs:=[b]) (by simpa using n3)];simp
 have e1:∀ j,j≠a->((Stp.even a b).behind r).ls.getD j 0=r.ls.getD j 0:=fun j ja=>by show (r.ls.set a 0).getD j 0=_;rw [Jv _ _ _ _ la,if_neg ja]
 have e2:∀ j,j≠a->((Stp.even a b).behind r).ts.getD j false=if j=b then (r.ts.getD a false != r.ts.getD b false) else r.ts.getD j false:=fun j ja=>by
  show ((J29 r a b).set a false).getD j false=_;rw [J21 _ _ _ _ (by rw [J24,h.len];exact la),if_neg ja];unfold J29;rw [J21 _ _ _ _ (by rw [h.len];exact lb')]
 have sz:r.size=lenOf r.ls T + r.ls.getD a 0:=by show lenOf r.ls r.top=_;rw [eT,Je,Jw]
 have szl:((Stp.even a b).behind r).size=lenOf r.ls T:=by show lenOf (r.ls.set a 0) ((Stp.even a b).behind r).top=_;rw [lt,Jf _ _ aT]
 have szB:r.size=lenOf r.ls X + r.ls.getD a 0 + lenOf r.ls Y + r.ls.getD b 0:=by rw [<- h.sizeB,eB,Je,Jj,Je,Jw];lia
 have pBb:posR r.ls r.bot b=lenOf r.ls X + r.ls.getD a 0 + lenOf r.ls Y:=by
  rw [eB,Jt _ _ bX,Jp _ n3,Jq _ _ bY];lia
 have pBa:posR r.ls r.bot a=lenOf r.ls X:=by rw [eB,Jq _ _ aX]
 have up:∀ {y o:Int} {j:Nat},LetAt ((Stp.even a b).behind r) y j o->j≠a/\j∈T/\LetAt r y j o:=fun {y o j} A=>by
  obtain ⟨A1,A2,A3,A4⟩:=A;rw [lt] at A1 A4;have ja:j≠a:=fun e=>aT (e ▸ A1);refine ⟨ja,A1,by rw [eT];exact mem_append_left _ A1,A2,by rw [<- e1 j ja];exact A3,?_⟩;rw [A4,eT,Ju _ _ A1];show posR (r.ls.set a 0) T j + o=_;rw [Js _ _ aT]
 have lX:lenOf ((Stp.even a b).behind r).ls X=lenOf r.ls X:=Jf _ _ aX;refine ⟨fun y j o A hj=>?_,fun y j o A hj=>?_⟩
 ·have jb:j≠b:=fun e=>hj (mem_singleton.mpr e);have g:=go_at okl A;obtain ⟨ja,jT,A'⟩:=up A;refine ⟨⟨o,A'⟩,?_⟩;have eo:offT ((Stp.even a b).behind r) j o=offT r j o:=by unfold offT;rw [e1 j ja,e2 j ja,if_neg jb]
  rw [go_at h A',g,lb,eB,eo];have jB:j∈X ++ a :: (Y ++ [b]):=by rw [<- eB];exact h.perm.mem_iff.mpr A'.1
  congr 1
  by_cases c:j∈X
  ·rw [Ju _ _ c,Ju _ _ c];show _=posR (r.ls.set a 0) X j;rw [Js _ _ aX]
  ·have jY:j∈Y:=by simpa [c,ja,jb] using jB
   rw [Jt _ _ c,Jt _ _ c,Jp _ (Ne.symm ja),Jp _ (Ne.symm jb),Ju _ _ jY,lX,e1 b (Ne.symm n3)];show _=_ + (_ + posR (r.ls.set a 0) Y j);rw [Js _ _ aY];lia
 ·cases mem_singleton.mp hj;have g:=go_at okl A;obtain ⟨ja,jT,A'⟩:=up A;have g':=go_at h A';have of:=A'.off;have m:LetAt r (go r y) a (offT r b o):=⟨aIn,of.1,by lia,by rw [g',pBb,eT,Jq _ _ aT];lia⟩;have g2:=go_at h m;refine ⟨⟨o,A'⟩,by rw [szl,g',pBb];lia,⟨_,m⟩,?_⟩;rw [g2,g,lb,pBa,Jq _ _ bX,lX]
  congr 1
  unfold offT;rw [e1 b ja,e2 b ja,if_pos rfl,n4];cases r.ts.getD a false <;> cases r.ts.getD b false <;> simp <;> lia
theorem ret_over {r:Rst} (h:r.Ok) (ne:r.top≠[]) {a b:Nat} (n:NextP r (.over a b)) (okl:((Stp.over a b).behind r).Ok):RetOf r (.over a b):=by
 obtain ⟨n1,n2,n3,n4⟩:=n;have neb:r.bot≠[]:=fun e=>ne (by have:=h.perm;rw [e] at this;exact this.symm.eq_nil);obtain ⟨T,eT⟩:=J14 ne;have eT:r.top=T ++ [a]:=by rw [n1];exact eT
 have aIn:a∈r.top:=by rw [eT];simp
 obtain ⟨X,Y,eB,aX⟩:=J5y neb (h.perm.mem_iff.mpr aIn) (fun e=>n3 (by rw [n2];exact e.symm));have eB:r.bot=X ++ a :: (Y ++ [b]):=by rw [n2];exact eB
 have bIn:b∈r.top:=h.perm.mem_iff.mp (by rw [eB];simp);have aT:=J1n (eT ▸ h.row.nd);have ndB:(X ++ a :: (Y ++ [b])).Nodup:=eB ▸ h.rowB.nd;obtain ⟨_,aY0,XY⟩:=J6q ndB;have aY:a ∉ Y:=fun q=>aY0 (mem_append_left _ q);have bX:b ∉ X:=fun q=>XY b q (by simp);have bY:b ∉ Y:=J1n (nodup_cons.mp (nodup_append.mp ndB).2.1).2;have la:=h.row.lt a aIn;have lb':=h.row.lt b bIn;have pb:=h.row.pos b bIn;have lt:((Stp.over a b).behind r).top=T ++ [a]:=eT;have lb:((Stp.over a b).behind r).bot=X ++ (if r.ts.getD a false=true then b :: a :: Y else a :: b :: Y):=J5t eB h.rowB.nd _;have e1:∀ j,j≠a->((Stp.over a b).behind r).ls.getD j 0=r.ls.getD j 0:=fun j ja=>by show (r.ls.set a _).getD j 0=_;rw [Jv _ _ _ _ la,if_neg ja]
 have e1a:((Stp.over a b).behind r).ls.getD a 0=r.ls.getD a 0 - r.ls.getD b 0:=by show (r.ls.set a _).getD a 0=_;rw [Jv _ _ _ _ la,if_pos rfl]
 have e2:∀ j,((Stp.over a b).behind r).ts.getD j false=if j=b then (r.ts.getD a false != r.ts.getD b false) else r.ts.getD j false:=fun j=>by
  show (J29 r a b).getD j false=_;unfold J29;rw [J21 _ _ _ _ (by rw [h.len];exact lb')]
 have sz:r.size=lenOf r.ls T + r.ls.getD a 0:=by show lenOf r.ls r.top=_;rw [eT,Je,Jw]
 have szl:((Stp.over a b).behind r).size=lenOf r.ls T + r.ls.getD a 0 - r.ls.getD b 0:=by
  show lenOf ((Stp.over a b).behind r).ls ((Stp.over a b).behind r).top=_;rw [lt,Je,Jw,e1a,show lenOf ((Stp.over a b).behind r).ls T=lenOf r.ls T from Jf _ _ aT];lia
 have szB:r.size=lenOf r.ls X + r.ls.getD a 0 + lenOf r.ls Y + r.ls.getD b 0:=by rw [<- h.sizeB,eB,Je,Jj,Je,Jw];lia
 have pBb:posR r.ls r.bot b=lenOf r.ls X + r.ls.getD a 0 + lenOf r.ls Y:=by
  rw [eB,Jt _ _ bX,Jp _ n3,Jq _ _ bY];lia
 have pBa:posR r.ls r.bot a=lenOf r.ls X:=by rw [eB,Jq _ _ aX]
 have up:∀ {y o:Int} {j:Nat},LetAt ((Stp.over a b).behind r) y j o->LetAt r y j o:=fun {y o j} A=>by
  obtain ⟨A1,A2,A3,A4⟩:=A;rw [lt] at A1 A4;refine ⟨by rw [eT];exact A1,A2,?_,?_⟩
  ·by_cases ja:j=a
   ·subst ja;rw [e1a] at A3;lia
   ·rw [<- e1 j ja];exact A3
  ·rw [A4,eT]
   congr 1
   exact J1m _ _ aT A1
 have lX:lenOf ((Stp.over a b).behind r).ls X=lenOf r.ls X:=Jf _ _ aX;refine ⟨fun y j o A hj=>?_,fun y j o A hj=>?_⟩
 ·have jb:j≠b:=fun e=>hj (mem_singleton.mpr e);have g:=go_at okl A;have A':=up A;refine ⟨⟨o,A'⟩,?_⟩;rw [go_at h A',g,lb];by_cases ja:j=a
  ·subst ja;rw [pBa];unfold offT;rw [e1a,e2,if_neg jb];by_cases ct:r.ts.getD j false=true
   ·rw [if_pos ct,if_pos ct,if_pos ct,Jt _ _ aX,Jp _ (Ne.symm n3),J22,lX,e1 b (Ne.symm n3)];lia
   ·rw [if_neg ct,if_neg ct,if_neg ct,Jq _ _ aX,lX]
  ·have eo:offT ((Stp.over a b).behind r) j o=offT r j o:=by unfold offT;rw [e1 j ja,e2 j,if_neg jb]
   have jB:j∈X ++ a :: (Y ++ [b]):=by rw [<- eB];exact h.perm.mem_iff.mpr A'.1
   rw [eB,eo]
   congr 1
   by_cases c:j∈X
   ·rw [Ju _ _ c,Ju _ _ c];show _=posR (r.ls.set a _) X j;rw [Js _ _ aX]
   ·have jY:j∈Y:=by simpa [c,ja,jb] using jB
    have pY:posR ((Stp.over a b).behind r).ls Y j=posR r.ls Y j:=Js _ _ aY _;rw [Jt _ _ c,Jt _ _ c,Jp _ (Ne.symm ja),Ju _ _ jY,lX];split
    ·rw [Jp _ (Ne.symm jb),Jp _ (Ne.symm ja),pY,e1 b (Ne.symm n3),e1a];lia
    ·rw [Jp _ (Ne.symm ja),Jp _ (Ne.symm jb),pY,e1 b (Ne.symm n3),e1a];lia
 ·cases mem_singleton.mp hj;have g:=go_at okl A;have A':=up A;have g':=go_at h A';have of:=A'.off;have m:LetAt r (go r y) a (r.ls.getD a 0 - r.ls.getD b 0 + offT r b o):=⟨aIn,by lia,by lia,by rw [g',pBb,eT,Jq _ _ aT];lia⟩;have g2:=go_at h m;refine ⟨⟨o,A'⟩,by rw [szl,g',pBb];lia,⟨_,m⟩,?_⟩;have ba:=Ne.symm n3;rw [g2,g,lb,pBa];unfold offT;rw [e1 b ba,e2 b,if_pos rfl];cases ca:r.ts.getD a false <;> cases cb:r.ts.getD b false <;> simp only [Bool.false_eq_true,if_false,if_true,bne_self_eq_false,show (true != false)=true from rfl,show (false != true)=true from rfl]
  ·rw [Jt _ _ bX,Jp _ n3,J22,lX,e1a];lia
  ·rw [Jt _ _ bX,Jp _ n3,J22,lX,e1a];lia
  ·rw [Jq _ _ bX,lX];lia
  ·rw [Jq _ _ bX,lX];lia
theorem ret_under {r:Rst} (h:r.Ok) (ne:r.top≠[]) {a b:Nat} (n:NextP r (.under a b)) (okl:((Stp.under a b).behind r).Ok):RetOf r (.under a b):=by
 obtain ⟨n1,n2,n3,n4⟩:=n;have neb:r.bot≠[]:=fun e=>ne (by have:=h.perm;rw [e] at this;exact this.symm.eq_nil);obtain ⟨B,eB⟩:=J14 neb;have eB:r.bot=B ++ [a]:=by rw [n1];exact eB
 have aInB:a∈r.bot:=by rw [eB];simp
 have aIn:=h.perm.mem_iff.mp aInB;obtain ⟨X,Y,eT,aX⟩:=J5y ne aIn (fun e=>n3 (by rw [n2];exact e.symm));have eT:r.top=X ++ a :: (Y ++ [b]):=by rw [n2];exact eT
 have bIn:b∈r.top:=by rw [eT];simp
 have aB:=J1n (eB ▸ h.rowB.nd);have ndT:(X ++ a :: (Y ++ [b])).Nodup:=eT ▸ h.row.nd;obtain ⟨_,aY0,XY⟩:=J6q ndT;have aY:a ∉ Y:=fun q=>aY0 (mem_append_left _ q);have bX:b ∉ X:=fun q=>XY b q (by simp);have bY:b ∉ Y:=J1n (nodup_cons.mp (nodup_append.mp ndT).2.1).2;have la:=h.row.lt a aIn;have lb':=h.row.lt b bIn;have pb:=h.row.pos b bIn;have lt:((Stp.under a b).behind r).top=X ++ (if r.ts.getD a false=true then b :: a :: Y else a :: b :: Y):=J5t eT h.row.nd _;have lb:((Stp.under a b).behind r).bot=B ++ [a]:=eB;have e1:∀ j,j≠a->((Stp.under a b).behind r).ls.getD j 0=r.ls.getD j 0:=fun j ja=>by show (r.ls.set a _).getD j 0=_;rw [Jv _ _ _ _ la,if_neg ja]
 have e1a:((Stp.under a b).behind r).ls.getD a 0=r.ls.getD a 0 - r.ls.getD b 0:=by show (r.ls.set a _).getD a 0=_;rw [Jv _ _ _ _ la,if_pos rfl]
 have e2:∀ j,((Stp.under a b).behind r).ts.getD j false=if j=b then (r.ts.getD a false != r.ts.getD b false) else r.ts.getD j false:=fun j=>by
  show (J29 r a b).getD j false=_;unfold J29;rw [J21 _ _ _ _ (by rw [h.len];exact lb')]
 have sz:r.size=lenOf r.ls B + r.ls.getD a 0:=by rw [<- h.sizeB,eB,Je,Jw]
 have szl:((Stp.under a b).behind r).size=lenOf r.ls B + r.ls.getD a 0 - r.ls.getD b 0:=by
  rw [<- okl.sizeB,lb,Je,Jw,e1a,show lenOf ((Stp.under a b).behind r).ls B=lenOf r.ls B from Jf _ _ aB];lia
 have szT:r.size=lenOf r.ls X + r.ls.getD a 0 + lenOf r.ls Y + r.ls.getD b 0:=by show lenOf r.ls r.top=_;rw [eT,Je,Jj,Je,Jw];lia
 have pTb:posR r.ls r.top b=lenOf r.ls X + r.ls.getD a 0 + lenOf r.ls Y:=by
  rw [eT,Jt _ _ bX,Jp _ n3,Jq _ _ bY];lia
 have pTa:posR r.ls r.top a=lenOf r.ls X:=by rw [eT,Jq _ _ aX]
 have pBa:posR r.ls r.bot a=lenOf r.ls B:=by rw [eB,Jq _ _ aB]
 have lX:lenOf ((Stp.under a b).behind r).ls X=lenOf r.ls X:=Jf _ _ aX;have pB:∀ {j},j∈r.top->posR ((Stp.under a b).behind r).ls ((Stp.under a b).behind r).bot j=posR r.ls r.bot j:=fun {j} hj=>by
  have hj:=h.perm.mem_iff.mpr hj;rw [lb];rw [eB] at hj ⊢;exact J1m _ _ aB hj
 have tp:((Stp.under a b).behind r).top.Perm r.top:=J2e h.row.nd bIn _;refine ⟨fun y j o A hj=>?_,fun y j o A hj=>?_⟩
 ·have jb:j≠b:=fun e=>hj (mem_singleton.mpr e);have g:=go_at okl A;obtain ⟨A1,A2,A3,A4⟩:=A;have B1:=tp.mem_iff.mp A1;rw [pB B1] at g;rw [lt] at A4;by_cases ja:j=a
  ·subst ja;rw [e1a] at A3;unfold offT at g;rw [e1a,e2,if_neg jb] at g;by_cases ct:r.ts.getD j false=true
   ·rw [if_pos ct,Jt _ _ aX,Jp _ (Ne.symm n3),J22,lX,e1 b (Ne.symm n3)] at A4;have A':LetAt r y j (r.ls.getD b 0 + o):=⟨B1,by lia,by lia,by rw [pTa];lia⟩;refine ⟨⟨_,A'⟩,?_⟩;rw [go_at h A',g];unfold offT;rw [if_pos ct,if_pos ct];lia
   ·rw [if_neg ct,Jq _ _ aX,lX] at A4;have A':LetAt r y j o:=⟨B1,by lia,by lia,by rw [pTa];lia⟩;refine ⟨⟨_,A'⟩,?_⟩;rw [go_at h A',g];unfold offT;rw [if_neg ct,if_neg ct]
  ·have eo:offT ((Stp.under a b).behind r) j o=offT r j o:=by unfold offT;rw [e1 j ja,e2 j,if_neg jb]
   rw [e1 j ja] at A3;have A':LetAt r y j o:=by
    refine ⟨B1,A2,A3,?_⟩;rw [A4]
    congr 1
    have jT:j∈X ++ a :: (Y ++ [b]):=by rw [<- eT];exact B1
    rw [eT];by_cases c:j∈X
    ·rw [Ju _ _ c,Ju _ _ c];show posR (r.ls.set a _) X j=_;rw [Js _ _ aX]
    ·have jY:j∈Y:=by simpa [c,ja,jb] using jT
     have pY:posR ((Stp.under a b).behind r).ls Y j=posR r.ls Y j:=Js _ _ aY _;rw [Jt _ _ c,Jt _ _ c,Jp _ (Ne.symm ja),Ju _ _ jY,lX];split
     ·rw [Jp _ (Ne.symm jb),Jp _ (Ne.symm ja),pY,e1 b (Ne.symm n3),e1a];lia
     ·rw [Jp _ (Ne.symm ja),Jp _ (Ne.symm jb),pY,e1 b (Ne.symm n3),e1a];lia
   refine ⟨⟨_,A'⟩,?_⟩;rw [go_at h A',g,eo]
 ·cases mem_singleton.mp hj;have ba:=Ne.symm n3;have g:=go_at okl A;obtain ⟨A1,A2,A3,A4⟩:=A;have A1:=tp.mem_iff.mp A1;rw [pB A1] at g;rw [lt] at A4;rw [e1 b ba] at A3;unfold offT at g;rw [e1 b ba,e2 b,if_pos rfl] at g;by_cases ct:r.ts.getD a false=true
  ·rw [if_pos ct,Jq _ _ bX,lX] at A4;have A':LetAt r y a o:=⟨aIn,A2,by lia,by rw [pTa];exact A4⟩;have g1:=go_at h A';unfold offT at g1;rw [if_pos ct,pBa] at g1;have m:LetAt r (go r y) b (r.ls.getD b 0 - 1 - o):=⟨bIn,by lia,by lia,by rw [g1,pTb];lia⟩;refine ⟨⟨_,A'⟩,by rw [szl,g1];lia,⟨_,m⟩,?_⟩;rw [go_at h m,g,ct];unfold offT;cases r.ts.getD b false <;> simp <;> lia
  ·rw [if_neg ct,Jt _ _ bX,Jp _ n3,J22,lX,e1a] at A4;have A':LetAt r y a (r.ls.getD a 0 - r.ls.getD b 0 + o):=⟨aIn,by lia,by lia,by rw [pTa];lia⟩;have g1:=go_at h A';unfold offT at g1;rw [if_neg ct,pBa] at g1;have m:LetAt r (go r y) b o:=⟨bIn,A2,A3,by rw [g1,pTb];lia⟩;refine ⟨⟨_,A'⟩,by rw [szl,g1];lia,⟨_,m⟩,?_⟩;have cf:r.ts.getD a false=false:=by simpa using ct
   rw [go_at h m,g,cf];unfold offT;cases r.ts.getD b false <;> simp
theorem ret_overs {r:Rst} (h:r.Ok) (ne:r.top≠[]) {a:Nat} {t:Int} (n:NextP r (.overs a t)) (okl:((Stp.overs a t).behind r).Ok):RetOf r (.overs a t):=by
 obtain ⟨n1,n2,n3,n4,n5,n6⟩:=n;obtain ⟨T,eT⟩:=J14 ne;have eT:r.top=T ++ [a]:=by rw [n1];exact eT
 have aIn:a∈r.top:=by rw [eT];simp
 obtain ⟨X,Y,eB,aX⟩:=J4d (h.perm.mem_iff.mpr aIn);have aT:=J1n (eT ▸ h.row.nd);have ndB:(X ++ a :: Y).Nodup:=eB ▸ h.rowB.nd;obtain ⟨_,aY,XY⟩:=J6q ndB;have eY:J2 r.bot a=Y:=by rw [eB];exact J34 aX
 rw [eY] at n5 n6;have la:=h.row.lt a aIn;have lt:((Stp.overs a t).behind r).top=T ++ [a]:=eT;have lb:((Stp.overs a t).behind r).bot=X ++ a :: Y:=eB;have e1:∀ j,j≠a->((Stp.overs a t).behind r).ls.getD j 0=r.ls.getD j 0:=fun j ja=>by show (r.ls.set a _).getD j 0=_;rw [Jv _ _ _ _ la,if_neg ja]
 have e1a:((Stp.overs a t).behind r).ls.getD a 0=r.ls.getD a 0 - t * lenOf r.ls Y:=by show (r.ls.set a (_ - t * lenOf r.ls (J2 r.bot a))).getD a 0=_;rw [Jv _ _ _ _ la,if_pos rfl,eY]
 have tS:1<=t * lenOf r.ls Y:=by
  have:=Int.mul_le_mul n4 n5 (by decide) (by lia);lia
 have sz:r.size=lenOf r.ls T + r.ls.getD a 0:=by show lenOf r.ls r.top=_;rw [eT,Je,Jw]
 have szl:((Stp.overs a t).behind r).size=lenOf r.ls T + r.ls.getD a 0 - t * lenOf r.ls Y:=by
  show lenOf ((Stp.overs a t).behind r).ls ((Stp.overs a t).behind r).top=_;rw [lt,Je,Jw,e1a,show lenOf ((Stp.overs a t).behind r).ls T=lenOf r.ls T from Jf _ _ aT];lia
 have szB:r.size=lenOf r.ls X + r.ls.getD a 0 + lenOf r.ls Y:=by rw [<- h.sizeB,eB,Je,Jj];lia
 have pBa:posR r.ls r.bot a=lenOf r.ls X:=by rw [eB,Jq _ _ aX]
 have pTa:posR r.ls r.top a=lenOf r.ls T:=by rw [eT,Jq _ _ aT]
 have lX:lenOf ((Stp.overs a t).behind r).ls X=lenOf r.ls X:=Jf _ _ aX;have up:∀ {y o:Int} {j:Nat},LetAt ((Stp.overs a t).behind r) y j o->LetAt r y j o:=fun {y o j} A=>by
  obtain ⟨A1,A2,A3,A4⟩:=A;rw [lt] at A1 A4;refine ⟨by rw [eT];exact A1,A2,?_,?_⟩
  ·by_cases ja:j=a
   ·subst ja;rw [e1a] at A3;lia
   ·rw [<- e1 j ja];exact A3
  ·rw [A4,eT]
   congr 1
   exact J1m _ _ aT A1
 refine ⟨fun y j o A hj=>?_,fun y j o A hj=>?_⟩
 ·have jY:j ∉ Y:=fun q=>hj (by show j∈J2 r.bot a;rw [eY];exact q);have g:=go_at okl A;have A':=up A;refine ⟨⟨o,A'⟩,?_⟩;rw [go_at h A',g,lb];by_cases ja:j=a
  ·subst ja;rw [pBa,Jq _ _ aX,lX];unfold offT;rw [show ((Stp.overs j t).behind r).ts=r.ts from rfl,n3,if_neg (by decide),if_neg (by decide)]
  ·have eo:offT ((Stp.overs a t).behind r) j o=offT r j o:=by unfold offT;rw [e1 j ja];rfl
   have jB:j∈X ++ a :: Y:=by rw [<- eB];exact h.perm.mem_iff.mpr A'.1
   have c:j∈X:=by simpa [jY,ja] using jB
   rw [eB,eo,Ju _ _ c,Ju _ _ c]
   congr 1
   exact (Js _ _ aX _).symm
 ·have jY:j∈Y:=by
   have:j∈J2 r.bot a:=hj;rw [eY] at this;exact this
  have ja:j≠a:=fun e=>aY (e ▸ jY);have jX:j ∉ X:=fun q=>XY j q jY;have g:=go_at okl A;have A':=up A;have g':=go_at h A';have of:=A'.off;have p0:=J57 (ls:=r.ls) (row:=Y) (fun i hi=>by have:=h.rowB.pos i (by rw [eB];simp [hi]);lia) j;have p1:=J4h (ls:=r.ls) (row:=Y) (fun i hi=>by have:=h.rowB.pos i (by rw [eB];simp [hi]);lia) jY;have eg:go r y=lenOf r.ls X + r.ls.getD a 0 + posR r.ls Y j + offT r j o:=by rw [g',eB,Jt _ _ jX,Jp _ (Ne.symm ja)];lia
  show (∃ o',LetAt r y j o')/\(∀ k:Int,0<=k->k < t->_)/\_;rw [eY];refine ⟨⟨o,A'⟩,fun k k0 k1=>?_,?_⟩
  ·have m1:k * lenOf r.ls Y + lenOf r.ls Y<=t * lenOf r.ls Y:=by
    have:=Int.mul_le_mul_of_nonneg_right (show k + 1<=t by lia) (show 0<=lenOf r.ls Y by lia);rw [Int.add_mul,Int.one_mul] at this;exact this
   have m0:0<=k * lenOf r.ls Y:=Int.mul_nonneg k0 (by lia);have m:LetAt r (go r y - k * lenOf r.ls Y) a (go r y - k * lenOf r.ls Y - lenOf r.ls T):=⟨aIn,by lia,by lia,by rw [pTa];lia⟩;refine ⟨by rw [szl];lia,⟨_,m⟩,?_⟩;rw [go_at h m,pBa];unfold offT;rw [n3,if_neg (by decide)];lia
  ·rw [g,lb,Jt _ _ jX,Jp _ (Ne.symm ja),lX,e1a];have eo:offT ((Stp.overs a t).behind r) j o=offT r j o:=by unfold offT;rw [e1 j ja];rfl
   rw [eo,show posR ((Stp.overs a t).behind r).ls Y j=posR r.ls Y j from Js _ _ aY _,eg];lia
theorem ret_unders {r:Rst} (h:r.Ok) (ne:r.top≠[]) {a:Nat} {t:Int} (n:NextP r (.unders a t)) (okl:((Stp.unders a t).behind r).Ok):RetOf r (.unders a t):=by
 obtain ⟨n1,n2,n3,n4,n5,n6⟩:=n;have neb:r.bot≠[]:=fun e=>ne (by have:=h.perm;rw [e] at this;exact this.symm.eq_nil);obtain ⟨B,eB⟩:=J14 neb;have eB:r.bot=B ++ [a]:=by rw [n1];exact eB
 have aInB:a∈r.bot:=by rw [eB];simp
 have aIn:=h.perm.mem_iff.mp aInB;obtain ⟨X,Y,eT,aX⟩:=J4d aIn;have aB:=J1n (eB ▸ h.rowB.nd);have ndT:(X ++ a :: Y).Nodup:=eT ▸ h.row.nd;obtain ⟨_,aY,XY⟩:=J6q ndT;have eY:J2 r.top a=Y:=by rw [eT];exact J34 aX
 rw [eY] at n5 n6;have la:=h.row.lt a aIn;have lt:((Stp.unders a t).behind r).top=X ++ a :: Y:=eT;have lb:((Stp.unders a t).behind r).bot=B ++ [a]:=eB;have e1:∀ j,j≠a->((Stp.unders a t).behind r).ls.getD j 0=r.ls.getD j 0:=fun j ja=>by show (r.ls.set a _).getD j 0=_;rw [Jv _ _ _ _ la,if_neg ja]
 have e1a:((Stp.unders a t).behind r).ls.getD a 0=r.ls.getD a 0 - t * lenOf r.ls Y:=by show (r.ls.set a (_ - t * lenOf r.ls (J2 r.top a))).getD a 0=_;rw [Jv _ _ _ _ la,if_pos rfl,eY]
 have tS:1<=t * lenOf r.ls Y:=by
  have:=Int.mul_le_mul n4 n5 (by decide) (by lia);lia
 have sz:r.size=lenOf r.ls B + r.ls.getD a 0:=by rw [<- h.sizeB,eB,Je,Jw]
 have szl:((Stp.unders a t).behind r).size=lenOf r.ls B + r.ls.getD a 0 - t * lenOf r.ls Y:=by
  rw [<- okl.sizeB,lb,Je,Jw,e1a,show lenOf ((Stp.unders a t).behind r).ls B=lenOf r.ls B from Jf _ _ aB];lia
 have szT:r.size=lenOf r.ls X + r.ls.getD a 0 + lenOf r.ls Y:=by show lenOf r.ls r.top=_;rw [eT,Je,Jj];lia
 have pTa:posR r.ls r.top a=lenOf r.ls X:=by rw [eT,Jq _ _ aX]
 have pBa:posR r.ls r.bot a=lenOf r.ls B:=by rw [eB,Jq _ _ aB]
 have lX:lenOf ((Stp.unders a t).behind r).ls X=lenOf r.ls X:=Jf _ _ aX;have pB:∀ {j},j∈r.top->posR ((Stp.unders a t).behind r).ls ((Stp.unders a t).behind r).bot j=posR r.ls r.bot j:=fun {j} hj=>by
  have hj:=h.perm.mem_iff.mpr hj;rw [lb];rw [eB] at hj ⊢;exact J1m _ _ aB hj
 refine ⟨fun y j o A hj=>?_,fun y j o A hj=>?_⟩
 ·have jY:j ∉ Y:=fun q=>hj (by show j∈J2 r.top a;rw [eY];exact q);have g:=go_at okl A;obtain ⟨A1,A2,A3,A4⟩:=A;have A1:j∈r.top:=A1;rw [pB A1] at g;rw [lt] at A4;have jT:j∈X ++ a :: Y:=by rw [<- eT];exact A1
  by_cases ja:j=a
  ·subst ja;rw [e1a] at A3;rw [Jq _ _ aX,lX] at A4;have A':LetAt r y j o:=⟨A1,A2,by lia,by rw [pTa];exact A4⟩;refine ⟨⟨o,A'⟩,?_⟩;rw [go_at h A',g];unfold offT;rw [show ((Stp.unders j t).behind r).ts=r.ts from rfl,n3,if_neg (by decide),if_neg (by decide)]
  ·have eo:offT ((Stp.unders a t).behind r) j o=offT r j o:=by unfold offT;rw [e1 j ja];rfl
   have c:j∈X:=by simpa [jY,ja] using jT
   rw [e1 j ja] at A3;rw [Ju _ _ c,show posR ((Stp.unders a t).behind r).ls X j=posR r.ls X j from Js _ _ aX _] at A4;have A':LetAt r y j o:=⟨A1,A2,A3,by rw [eT,Ju _ _ c];exact A4⟩;refine ⟨⟨o,A'⟩,?_⟩;rw [go_at h A',g,eo]
 ·have jY:j∈Y:=by
   have:j∈J2 r.top a:=hj;rw [eY] at this;exact this
  have ja:j≠a:=fun e=>aY (e ▸ jY);have jX:j ∉ X:=fun q=>XY j q jY;have g:=go_at okl A;obtain ⟨A1,A2,A3,A4⟩:=A;have A1:j∈r.top:=A1;rw [pB A1] at g;rw [lt,Jt _ _ jX,Jp _ (Ne.symm ja),lX,e1a,show posR ((Stp.unders a t).behind r).ls Y j=posR r.ls Y j from Js _ _ aY _] at A4;rw [e1 j ja] at A3;have p0:=J57 (ls:=r.ls) (row:=Y) (fun i hi=>by have:=h.row.pos i (by rw [eT];simp [hi]);lia) j;have p1:=J4h (ls:=r.ls) (row:=Y) (fun i hi=>by have:=h.row.pos i (by rw [eT];simp [hi]);lia) jY;show (∀ k:Int,0<=k->k < t->_)/\_;rw [eY];have fin:LetAt r (y + t * lenOf r.ls Y) j o:=⟨A1,A2,A3,by rw [eT,Jt _ _ jX,Jp _ (Ne.symm ja)];lia⟩;refine ⟨fun k k0 k1=>?_,⟨_,fin⟩,?_⟩
  ·have m1:k * lenOf r.ls Y + lenOf r.ls Y<=t * lenOf r.ls Y:=by
    have:=Int.mul_le_mul_of_nonneg_right (show k + 1<=t by lia) (show 0<=lenOf r.ls Y by lia);rw [Int.add_mul,Int.one_mul] at this;exact this
   have m0:0<=k * lenOf r.ls Y:=Int.mul_nonneg k0 (by lia);have m:LetAt r (y + k * lenOf r.ls Y) a (y + k * lenOf r.ls Y - lenOf r.ls X):=⟨aIn,by lia,by lia,by rw [pTa];lia⟩;refine ⟨⟨_,m⟩,?_,by rw [szl];lia⟩;rw [go_at h m,pBa];unfold offT;rw [n3,if_neg (by decide)];lia
  ·rw [go_at h fin,g];unfold offT;rw [e1 j ja];rfl
theorem ret_of {r:Rst} (h:r.Ok) (ne:r.top≠[]) {s:Stp} (n:NextP r s) (okl:(s.behind r).Ok):RetOf r s:=by
 cases s with
 | home a=>exact ret_home h ne n okl
 | even a b=>exact ret_even h ne n okl
 | over a b=>exact ret_over h ne n okl
 | under a b=>exact ret_under h ne n okl
 | overs a t=>exact ret_overs h ne n okl
 | unders a t=>exact ret_unders h ne n okl
end Rl
namespace Rl
def itN (f:Int->Int):Nat->Int->Int
 | 0,y=>y
 | n + 1,y=>f (itN f n y)
theorem J1s (f:Int->Int) (n:Nat):∀ (m:Nat) (y:Int),itN f (n + m) y=itN f m (itN f n y)
 | 0,_=>rfl
 | m + 1,y=>by show f (itN f (n + m) y)=f (itN f m (itN f n y));rw [J1s f n m y]
structure First (f:Int->Int) (lo:Int) (n:Nat) (y z:Int):Prop where
 pos:0 < n
 last:itN f n y=z
 mid:∀ i,0 < i->i < n->lo<=itN f i y
theorem First.one {f:Int->Int} {lo y z:Int} (e:f y=z):First f lo 1 y z:=⟨by decide,e,fun i h0 h1=>by lia⟩
theorem First.trans {f:Int->Int} {lo y z z':Int} {n m:Nat} (a:First f lo n y z) (hz:lo<=z) (b:First f lo m z z'):First f lo (n + m) y z':=by
 refine ⟨by have:=a.pos;lia,?_,fun i h0 h1=>?_⟩
 ·rw [J1s,a.last,b.last]
 ·rcases Nat.lt_trichotomy i n with q | q | q
  ·exact a.mid i h0 q
  ·rw [q,a.last];exact hz
  ·obtain ⟨k,rfl⟩:∃ k,i=n + k:=⟨i - n,by lia⟩;rw [J1s,a.last];exact b.mid k (by lia) (by lia)
theorem First.low {f:Int->Int} {lo lo' y z:Int} {n:Nat} (a:First f lo n y z) (h:lo'<=lo):First f lo' n y z:=⟨a.pos,a.last,fun i h0 h1=>by have:=a.mid i h0 h1;lia⟩
def retN (r:Rst) (s:Stp) (j:Nat):Nat:=if j∈s.losers r then 1 + s.times.toNat else 1
theorem J2b {r:Rst} {s:Stp} (n:NextP r s):1<=s.times:=by
 cases s with
 | overs a t=>exact n.2.2.2.1
 | unders a t=>exact n.2.2.2.1
 | home a=>exact Int.le_refl _
 | even a b=>exact Int.le_refl _
 | over a b=>exact Int.le_refl _
 | under a b=>exact Int.le_refl _
theorem J70 {f:Int->Int} {lo m S:Int} {t:Int} (h:∀ k:Int,0<=k->k < t->lo<=m - k * S/\f (m - k * S)=m - k * S - S):∀ n:Nat,(n:Int) < t->First f lo (n + 1) m (m - ((n:Int) + 1) * S)
 | 0,h0=>by
  have:=(h 0 (by lia) (by lia)).2;refine First.one ?_;rw [Int.zero_mul,Int.sub_zero] at this;rw [this];show m - S=m - (0 + 1) * S;rw [Int.zero_add,Int.one_mul]
 | n + 1,h0=>by
  have a:=J70 h n (by lia);have q:=h ((n:Int) + 1) (by lia) (by lia);refine a.trans q.1 (First.one ?_);rw [q.2];rw [show (((n + 1:Nat):Int) + 1)=((n:Int) + 1) + 1 by lia,Int.add_mul ((n:Int) + 1) 1 S,Int.one_mul];lia
theorem up_steps {f:Int->Int} {lo y S:Int} {t:Int} (h:∀ k:Int,0<=k->k < t->f (y + k * S)=y + k * S + S/\lo<=y + k * S + S):∀ n:Nat,(n:Int) < t->First f lo (n + 1) y (y + ((n:Int) + 1) * S)
 | 0,h0=>by
  have:=(h 0 (by lia) (by lia)).1;refine First.one ?_;rw [Int.zero_mul,Int.add_zero] at this;rw [this];show y + S=y + (0 + 1) * S;rw [Int.zero_add,Int.one_mul]
 | n + 1,h0=>by
  have a:=up_steps h n (by lia);have p:=h (n:Int) (by lia) (by lia);have q:=h ((n:Int) + 1) (by lia) (by lia);have e:y + ((n:Int) + 1) * S=y + (n:Int) * S + S:=by rw [Int.add_mul,Int.one_mul];lia
  refine a.trans (by rw [e];exact p.2) (First.one ?_);rw [q.1];rw [show (((n + 1:Nat):Int) + 1)=((n:Int) + 1) + 1 by lia,Int.add_mul ((n:Int) + 1) 1 S,Int.one_mul];lia
theorem RetOf.first {r:Rst} {s:Stp} (n:NextP r s) (R:RetOf r s) {y o:Int} {j:Nat} (A:LetAt (s.behind r) y j o):First (go r) (s.behind r).size (retN r s j) y (go (s.behind r) y):=by
 unfold retN;have t1:=J2b n;by_cases c:j∈s.losers r
 ·rw [if_pos c];have L:=R.lose y j o A c
  cases s with
  | home a=>exact L.elim
  | even a b=>exact (First.one rfl).trans L.2.1 (First.one L.2.2.2)
  | over a b=>exact (First.one rfl).trans L.2.1 (First.one L.2.2.2)
  | under a b=>exact (First.one rfl).trans L.2.1 (First.one L.2.2.2)
  | overs a t =>
   obtain ⟨_,L2,L3⟩:=L;have t1:1<=t:=t1;have q:=L2 0 (by lia) (by lia);rw [Int.zero_mul,Int.sub_zero] at q;obtain ⟨m,hm⟩:∃ m:Nat,t=(m:Int) + 1:=⟨(t - 1).toNat,by lia⟩;have d:=J70 (f:=go r) (lo:=((Stp.overs a t).behind r).size) (m:=go r y) (S:=lenOf r.ls (J2 r.bot a)) (t:=t) (fun k k0 k1=>⟨(L2 k k0 k1).1,(L2 k k0 k1).2.2⟩) m (by lia);rw [<- hm,L3] at d;have e:1 + (Stp.overs a t).times.toNat=1 + (m + 1):=by show 1 + t.toNat=_;lia
   rw [e];exact (First.one rfl).trans q.1 d
  | unders a t =>
   obtain ⟨L1,_,L3⟩:=L;have t1:1<=t:=t1;obtain ⟨m,hm⟩:∃ m:Nat,t=(m:Int) + 1:=⟨(t - 1).toNat,by lia⟩;have d:=up_steps (f:=go r) (lo:=((Stp.unders a t).behind r).size) (y:=y) (S:=lenOf r.ls (J2 r.top a)) (t:=t) (fun k k0 k1=>(L1 k k0 k1).2) m (by lia);have p:=(L1 (m:Int) (by lia) (by lia)).2.2;have e:1 + (Stp.unders a t).times.toNat=(m + 1) + 1:=by show 1 + t.toNat=_;lia
   rw [e];rw [<- hm] at d;refine d.trans ?_ (First.one L3);have e3:t * lenOf r.ls (J2 r.top a)=(m:Int) * lenOf r.ls (J2 r.top a) + lenOf r.ls (J2 r.top a):=by rw [hm,Int.add_mul,Int.one_mul]
   rw [e3];lia
 ·rw [if_neg c];exact First.one (R.plain y j o A c).2
theorem J3i {f:Int->Int} {r:Rst} {lo m S t:Int} {w:Nat} {N:Nat->Nat} (hlo:lo<=r.size) (F:∀ y j o,LetAt r y j o->First f r.size (N j) y (go r y))
  (h:∀ k:Int,0<=k->k < t->lo<=m - k * S/\(∃ o',LetAt r (m - k * S) w o')/\go r (m - k * S)=m - k * S - S):∀ n:Nat,(n:Int) < t->First f lo ((n + 1) * N w) m (m - ((n:Int) + 1) * S)
 | 0,h0=>by
  obtain ⟨q1,⟨o',q2⟩,q3⟩:=h 0 (by lia) (by lia);have a:=(F _ _ _ q2).low hlo;rw [q3] at a;rw [Int.zero_mul,Int.sub_zero] at a;rw [Nat.zero_add,Nat.one_mul];show First f lo (N w) m (m - (0 + 1) * S);rw [Int.zero_add,Int.one_mul];exact a
 | n + 1,h0=>by
  have a:=J3i hlo F h n (by lia);obtain ⟨q1,⟨o',q2⟩,q3⟩:=h ((n:Int) + 1) (by lia) (by lia);have b:=(F _ _ _ q2).low hlo;rw [q3] at b;have c:=a.trans q1 b;have e1:(n + 1) * N w + N w=(n + 1 + 1) * N w:=by rw [Nat.add_mul (n + 1) 1,Nat.one_mul]
  rw [e1] at c;have e2:m - ((n:Int) + 1) * S - S=m - (((n + 1:Nat):Int) + 1) * S:=by
   rw [show (((n + 1:Nat):Int) + 1)=((n:Int) + 1) + 1 by lia,Int.add_mul ((n:Int) + 1) 1 S,Int.one_mul];lia
  rw [e2] at c;exact c
theorem J69 {f:Int->Int} {r:Rst} {lo y S t:Int} {w:Nat} {N:Nat->Nat} (hlo:lo<=r.size) (F:∀ y j o,LetAt r y j o->First f r.size (N j) y (go r y))
  (h:∀ k:Int,0<=k->k < t->(∃ o',LetAt r (y + k * S) w o')/\go r (y + k * S)=y + k * S + S/\lo<=y + k * S + S):∀ n:Nat,(n:Int) < t->First f lo ((n + 1) * N w) y (y + ((n:Int) + 1) * S)
 | 0,h0=>by
  obtain ⟨⟨o',q2⟩,q3,q1⟩:=h 0 (by lia) (by lia);have a:=(F _ _ _ q2).low hlo;rw [q3] at a;rw [Int.zero_mul,Int.add_zero] at a;rw [Nat.zero_add,Nat.one_mul];show First f lo (N w) y (y + (0 + 1) * S);rw [Int.zero_add,Int.one_mul];exact a
 | n + 1,h0=>by
  have a:=J69 hlo F h n (by lia);obtain ⟨_,p3,p1⟩:=h (n:Int) (by lia) (by lia);obtain ⟨⟨o',q2⟩,q3,q1⟩:=h ((n:Int) + 1) (by lia) (by lia);have b:=(F _ _ _ q2).low hlo;rw [q3] at b;have e:y + ((n:Int) + 1) * S=y + (n:Int) * S + S:=by rw [Int.add_mul,Int.one_mul];lia
  have c:=a.trans (by rw [e];exact p1) b;have e1:(n + 1) * N w + N w=(n + 1 + 1) * N w:=by rw [Nat.add_mul (n + 1) 1,Nat.one_mul]
  rw [e1] at c;have e2:y + ((n:Int) + 1) * S + S=y + (((n + 1:Nat):Int) + 1) * S:=by
   rw [show (((n + 1:Nat):Int) + 1)=((n:Int) + 1) + 1 by lia,Int.add_mul ((n:Int) + 1) 1 S,Int.one_mul];lia
  rw [e2] at c;exact c
def sumT (r:Rst) (s:Stp) (N:Nat->Nat) (j:Nat):Nat:=if j∈s.losers r then N j + s.times.toNat * N s.winner else N j
theorem RetOf.tower {f:Int->Int} {r:Rst} {s:Stp} {N:Nat->Nat} (n:NextP r s) (R:RetOf r s) (hs:(s.behind r).size<=r.size) (F:∀ y j o,LetAt r y j o->First f r.size (N j) y (go r y)) {y o:Int} {j:Nat} (A:LetAt (s.behind r) y j o) :
  First f (s.behind r).size (sumT r s N j) y (go (s.behind r) y):=by
 unfold sumT;have t1:=J2b n;by_cases c:j∈s.losers r
 ·rw [if_pos c];have L:=R.lose y j o A c;have two:∀ {a b:Nat} {o1 o2:Int},LetAt r y a o1->LetAt r (go r y) b o2->(s.behind r).size<=go r y->go r (go r y)=go (s.behind r) y->First f (s.behind r).size (N a + N b) y (go (s.behind r) y):=fun {a b o1 o2} q1 q2 q3 q4=>by
   have x:=(F _ _ _ q1).low hs;have z:=(F _ _ _ q2).low hs;rw [q4] at z;exact x.trans q3 z
  cases s with
  | home a=>exact L.elim
  | even a b =>
   obtain ⟨⟨_,l1⟩,l2,⟨_,l3⟩,l4⟩:=L;have:=two l1 l3 l2 l4;show First f _ (N j + 1 * N a) _ _;rw [Nat.one_mul];exact this
  | over a b =>
   obtain ⟨⟨_,l1⟩,l2,⟨_,l3⟩,l4⟩:=L;have:=two l1 l3 l2 l4;show First f _ (N j + 1 * N a) _ _;rw [Nat.one_mul];exact this
  | under a b =>
   obtain ⟨⟨_,l1⟩,l2,⟨_,l3⟩,l4⟩:=L;have:=two l1 l3 l2 l4;show First f _ (N j + 1 * N a) _ _;rw [Nat.one_mul,Nat.add_comm];exact this
  | overs a t =>
   obtain ⟨⟨_,l1⟩,L2,L3⟩:=L;have t1:1<=t:=t1;obtain ⟨m,hm⟩:∃ m:Nat,t=(m:Int) + 1:=⟨(t - 1).toNat,by lia⟩;have d:=J3i (S:=lenOf r.ls (J2 r.bot a)) (w:=a) hs F L2 m (by lia);rw [<- hm,L3] at d;have q:=L2 0 (by lia) (by lia);rw [Int.zero_mul,Int.sub_zero] at q;have e:(Stp.overs a t).times.toNat=m + 1:=by show t.toNat=_;lia
   rw [e];exact ((F _ _ _ l1).low hs).trans q.1 d
  | unders a t =>
   obtain ⟨L1,⟨_,l2⟩,L3⟩:=L;have t1:1<=t:=t1;obtain ⟨m,hm⟩:∃ m:Nat,t=(m:Int) + 1:=⟨(t - 1).toNat,by lia⟩;have d:=J69 (S:=lenOf r.ls (J2 r.top a)) (w:=a) hs F L1 m (by lia);rw [<- hm] at d;have p:=(L1 (m:Int) (by lia) (by lia)).2.2;have z:=(F _ _ _ l2).low hs;rw [L3] at z;have e:N j + (Stp.unders a t).times.toNat * N (Stp.unders a t).winner=(m + 1) * N a + N j:=by
    show N j + t.toNat * N a=_;rw [show t.toNat=m + 1 by lia];lia
   rw [e];refine d.trans ?_ z;have e3:t * lenOf r.ls (J2 r.top a)=(m:Int) * lenOf r.ls (J2 r.top a) + lenOf r.ls (J2 r.top a):=by rw [hm,Int.add_mul,Int.one_mul]
   rw [e3];lia
 ·rw [if_neg c];obtain ⟨⟨_,p1⟩,p2⟩:=R.plain y j o A c;rw [<- p2];exact (F _ _ _ p1).low hs
theorem Cok.tower {p:Cst} (h:Cok p) (one:∀ j∈p.1.top,p.2.getD j 0=1):∀ {k:Nat},Long p k->∀ y j o,LetAt (chN p k).1 y j o->First (go p.1) (chN p k).1.size ((chN p k).2.getD j 0).toNat y (go (chN p k).1 y)
 | 0,_,y,j,o,A=>by
  show First (go p.1) p.1.size (p.2.getD j 0).toNat y (go p.1 y);rw [one j A.1];exact First.one rfl
 | k + 1,l,y,j,o,A=>by
  have l':Long p k:=fun i hi=>l i (by lia);have ne:=l k (by lia);have c:=h.at_ l';have np:=nextP c.ok ne;have okl:=c.ok.next ne;have R:=ret_of c.ok ne np okl;have F:=Cok.tower h one l';have A':LetAt ((nextN (chN p k).1).behind (chN p k).1) y j o:=A;have d:=c.ok.down ne;have t:=R.tower (N:=fun j=>((chN p k).2.getD j 0).toNat) np (Int.le_of_lt d.less) F A';have e:sumT (chN p k).1 (nextN (chN p k).1) (fun j=>((chN p k).2.getD j 0).toNat) j=((chN p (k + 1)).2.getD j 0).toNat:=by
   have ti:=J49 c.ok ne c.tow.len A'.1;have ti':(chN p (k + 1)).2.getD j 0=(chN p k).2.getD j 0 + (if j∈(nextN (chN p k).1).losers (chN p k).1 then (chN p k).2.getD (nextN (chN p k).1).winner 0 * (nextN (chN p k).1).times else 0):=ti;have w:=np.win c.ok ne;have pw:=c.tow.pos _ w;have pj:=c.tow.pos j (d.sub j A'.1);have t1:=J2b np;rw [ti'];unfold sumT;dsimp only;split
   ·rename_i cj;generalize (chN p k).2.getD (nextN (chN p k).1).winner 0=W at *;generalize (nextN (chN p k).1).times=t at *;obtain ⟨W',rfl⟩:∃ W':Nat,W=W':=⟨W.toNat,by lia⟩;obtain ⟨t',rfl⟩:∃ t':Nat,t=t':=⟨t.toNat,by lia⟩;have e1:((W':Int) * (t':Int))=((t' * W':Nat):Int):=by rw [Int.natCast_mul,Int.mul_comm]
    rw [e1];rw [Int.toNat_natCast,Int.toNat_natCast];lia
   ·lia
  rw [e] at t;exact t
theorem home_go {r:Rst} (h:r.Ok) (ne:r.top≠[]) {a:Nat} (n:NextP r (.home a)):((Stp.home a).behind r).size + r.ls.getD a 0=r.size/\∀ y,((Stp.home a).behind r).size<=y->y < r.size->
  LetAt r y a (y - ((Stp.home a).behind r).size)/\go r y=if r.ts.getD a false=true then ((Stp.home a).behind r).size + r.size - 1 - y else y:=by
 obtain ⟨n1,n2⟩:=n;have neb:r.bot≠[]:=fun e=>ne (by have:=h.perm;rw [e] at this;exact this.symm.eq_nil);obtain ⟨T,eT⟩:=J14 ne;obtain ⟨B,eB⟩:=J14 neb;have eT:r.top=T ++ [a]:=by rw [n1];exact eT
 have eB:r.bot=B ++ [a]:=by rw [n2];exact eB
 have aT:=J1n (eT ▸ h.row.nd);have aB:=J1n (eB ▸ h.rowB.nd);have aIn:a∈r.top:=by rw [eT];simp
 have lt:((Stp.home a).behind r).top=T:=by show withoutR r.top a=T;rw [eT,J1b,J1d,append_nil,J1a aT]
 have sz:r.size=lenOf r.ls T + r.ls.getD a 0:=by show lenOf r.ls r.top=_;rw [eT,Je,Jw]
 have szB:r.size=lenOf r.ls B + r.ls.getD a 0:=by rw [<- h.sizeB,eB,Je,Jw]
 have szl:((Stp.home a).behind r).size=lenOf r.ls T:=by show lenOf (r.ls.set a 0) ((Stp.home a).behind r).top=_;rw [lt,Jf _ _ aT]
 refine ⟨by lia,fun y h0 h1=>?_⟩;have A:LetAt r y a (y - ((Stp.home a).behind r).size):=⟨aIn,by lia,by lia,by rw [eT,Jq _ _ aT];lia⟩;refine ⟨A,?_⟩;rw [go_at h A,eB,Jq _ _ aB];unfold offT;split <;> lia
end Rl
namespace Rl
theorem range_getD0 {n k:Nat} (h:k < n):(List.range n).getD k 0=k:=by
 rw [getD_eq_getElem?_getD,getElem?_range h];rfl
end Rl
namespace Rl
abbrev bz0:Band:=(0,0,0,false)
def flipB (b:Band) (o:Int):Int:=if b.2.2.2=true then b.2.1 - 1 - o else o
def Bnd (f:Int->Int) (b:Band):Prop:=1<=b.2.1/\1<=b.2.2.1/\∀ o,0<=o->o < b.2.1->First f (b.1 + b.2.1) b.2.2.1.toNat (b.1 + o) (b.1 + flipB b o)
theorem J3u {b:Band} {o:Int} (h0:0<=o) (h1:o < b.2.1):0<=flipB b o/\flipB b o < b.2.1:=by unfold flipB;split <;> lia
theorem flipB_two (b:Band) (o:Int):flipB b (flipB b o)=o:=by unfold flipB;split <;> lia
structure Sys (f:Int->Int) (N:Int) (bs:List Band):Prop where
 inn:∀ y,0<=y->y < N->0<=f y/\f y < N
 inj:∀ y z,0<=y->y < N->0<=z->z < N->f y=f z->y=z
 bnd:∀ b∈bs,Bnd f b
 lo:∀ b∈bs,0<=b.1/\b.1 + b.2.1<=N
 ord:bs.Pairwise fun b c=>c.1 + c.2.1<=b.1
 sum:(bs.map fun b=>b.2.1 * b.2.2.1).sum=N
theorem Sys.itin {f:Int->Int} {N:Int} {bs:List Band} (S:Sys f N bs) {y:Int} (h0:0<=y) (h1:y < N):∀ n,0<=itN f n y/\itN f n y < N
 | 0=>⟨h0,h1⟩
 | n + 1=>by have:=S.itin h0 h1 n;exact S.inn _ this.1 this.2
theorem Sys.itinj {f:Int->Int} {N:Int} {bs:List Band} (S:Sys f N bs) {y z:Int} (h0:0<=y) (h1:y < N) (k0:0<=z) (k1:z < N):∀ n,itN f n y=itN f n z->y=z
 | 0,e=>e
 | n + 1,e=>by
  have a:=S.itin h0 h1 n;have b:=S.itin k0 k1 n;exact S.itinj h0 h1 k0 k1 n (S.inj _ _ a.1 a.2 b.1 b.2 e)
theorem Bnd.stays {f:Int->Int} {b:Band} (B:Bnd f b):∀ (n:Nat) (o:Int),0<=o->o < b.2.1->b.1<=itN f n (b.1 + o):=by
 obtain ⟨w1,h1,F⟩:=B;intro n
 induction n using Nat.strongRecOn with
 | _ n ih =>
  intro o o0 o1;have Fo:=F o o0 o1;by_cases c0:n=0
  ·subst c0;show b.1<=b.1 + o;lia
  by_cases c:n < b.2.2.1.toNat
  ·have:=Fo.mid n (by lia) c;lia
  ·obtain ⟨k,rfl⟩:∃ k,n=b.2.2.1.toNat + k:=⟨n - b.2.2.1.toNat,by lia⟩;rw [J1s,Fo.last];have fi:=J3u o0 o1;exact ih k (by lia) _ fi.1 fi.2
theorem Bnd.back {f:Int->Int} {b:Band} (B:Bnd f b) {o:Int} (h0:0<=o) (h1:o < b.2.1):itN f b.2.2.1.toNat (b.1 + o)=b.1 + flipB b o:=(B.2.2 o h0 h1).last
theorem Bnd.high {f:Int->Int} {b:Band} (B:Bnd f b) {o:Int} (h0:0<=o) (h1:o < b.2.1) {l:Nat} (l0:0 < l) (l1:(l:Int) < b.2.2.1):b.1 + b.2.1<=itN f l (b.1 + o):=(B.2.2 o h0 h1).mid l l0 (by lia)
theorem Sys.meet {f:Int->Int} {N:Int} {bs:List Band} (S:Sys f N bs) {b c:Band} (hb:b∈bs) (hc:c∈bs) (bc:b=c\/c.1 + c.2.1<=b.1\/b.1 + b.2.1<=c.1) {o o':Int} (o0:0<=o) (o1:o < b.2.1) (p0:0<=o') (p1:o' < c.2.1)
  {l l':Nat} (hl:(l:Int) < b.2.2.1) (hl':(l':Int) < c.2.2.1) (le:l<=l') (e:itN f l (b.1 + o)=itN f l' (c.1 + o')):b=c/\o=o'/\l=l':=by
 have Bb:=S.bnd b hb;have Bc:=S.bnd c hc;have lb:=S.lo b hb;have lc:=S.lo c hc;obtain ⟨d,rfl⟩:∃ d,l'=d + l:=⟨l' - l,by lia⟩;rw [J1s] at e;have in2:=S.itin (y:=c.1 + o') (by lia) (by lia) d;have e1:=S.itinj (by lia) (by lia) in2.1 in2.2 l e;by_cases d0:d=0
 ·subst d0;have e1:b.1 + o=c.1 + o':=e1;rcases bc with rfl | q | q
  ·exact ⟨rfl,by lia,by lia⟩
  ·lia
  ·lia
 ·have hi:=Bc.high p0 p1 (l:=d) (by lia) (by lia);rw [<- e1] at hi;rcases bc with rfl | q | q
  ·lia
  ·exfalso;have hc2:=Bc.back p0 p1;have fi:=J3u p0 p1;obtain ⟨k,hk⟩:∃ k,c.2.2.1.toNat=d + k:=⟨c.2.2.1.toNat - d,by lia⟩;rw [hk,J1s,<- e1] at hc2;have:=Bb.stays k o o0 o1;lia
  ·lia
theorem J6a {bs:List Band} {b:Nat} (h:b < bs.length):bs.getD b bz0∈bs:=by
 rw [getD_eq_getElem?_getD,List.getElem?_eq_getElem h];exact List.getElem_mem h
structure Adr (bs:List Band) (b:Nat) (o lv:Int):Prop where
 hb:b < bs.length
 o0:0<=o
 o1:o < (bs.getD b bz0).2.1
 l0:0<=lv
 l1:lv < (bs.getD b bz0).2.2.1
def plOf (f:Int->Int) (bs:List Band) (b:Nat) (o lv:Int):Int:=itN f lv.toNat ((bs.getD b bz0).1 + o)
theorem Sys.apart {f:Int->Int} {N:Int} {bs:List Band} (S:Sys f N bs) {b c:Nat} (hb:b < bs.length) (hc:c < bs.length) (h:b < c):(bs.getD c bz0).1 + (bs.getD c bz0).2.1<=(bs.getD b bz0).1:=by
 have:=(List.pairwise_iff_getElem.mp S.ord) b c hb hc h;have eb:bs.getD b bz0=bs[b]:=by rw [getD_eq_getElem?_getD,List.getElem?_eq_getElem hb];rfl
 have ec:bs.getD c bz0=bs[c]:=by rw [getD_eq_getElem?_getD,List.getElem?_eq_getElem hc];rfl
 rw [eb,ec];exact this
theorem Sys.pl_in {f:Int->Int} {N:Int} {bs:List Band} (S:Sys f N bs) {b:Nat} {o lv:Int} (A:Adr bs b o lv):0<=plOf f bs b o lv/\plOf f bs b o lv < N:=by
 have l:=S.lo _ (J6a A.hb);have:=A.o0;have:=A.o1;exact S.itin (by lia) (by lia) _
def rowPl (f:Int->Int) (b:Band) (o:Nat):List Int:=(List.range b.2.2.1.toNat).map fun l=>itN f l (b.1 + (o:Int))
def J73 (f:Int->Int) (b:Band):List Int:=(List.range b.2.1.toNat).flatMap (rowPl f b)
def allPl (f:Int->Int) (bs:List Band):List Int:=bs.flatMap (J73 f)
theorem mem_rowPl {f:Int->Int} {b:Band} {o:Nat} {x:Int}:x∈rowPl f b o↔∃ l:Nat,(l:Int) < b.2.2.1/\x=itN f l (b.1 + (o:Int)):=by
 unfold rowPl;rw [mem_map];constructor
 ·rintro ⟨l,hl,rfl⟩;exact ⟨l,by have:=mem_range.mp hl;lia,rfl⟩
 ·rintro ⟨l,hl,rfl⟩;exact ⟨l,mem_range.mpr (by lia),rfl⟩
theorem mem_bandPl {f:Int->Int} {b:Band} {x:Int}:x∈J73 f b↔∃ o l:Nat,(o:Int) < b.2.1/\(l:Int) < b.2.2.1/\x=itN f l (b.1 + (o:Int)):=by
 unfold J73;rw [List.mem_flatMap];constructor
 ·rintro ⟨o,ho,hx⟩;obtain ⟨l,hl,rfl⟩:=mem_rowPl.mp hx;exact ⟨o,l,by have:=mem_range.mp ho;lia,hl,rfl⟩
 ·rintro ⟨o,l,ho,hl,rfl⟩;exact ⟨o,mem_range.mpr (by lia),mem_rowPl.mpr ⟨l,hl,rfl⟩⟩
theorem Sys.eq_of {f:Int->Int} {N:Int} {bs:List Band} (S:Sys f N bs) {b c:Band} (hb:b∈bs) (hc:c∈bs) (bc:b=c\/c.1 + c.2.1<=b.1\/b.1 + b.2.1<=c.1) {o o' l l':Nat} (o1:(o:Int) < b.2.1) (p1:(o':Int) < c.2.1)
  (hl:(l:Int) < b.2.2.1) (hl':(l':Int) < c.2.2.1) (e:itN f l (b.1 + (o:Int))=itN f l' (c.1 + (o':Int))):b=c/\o=o'/\l=l':=by
 by_cases le:l<=l'
 ·obtain ⟨q1,q2,q3⟩:=S.meet hb hc bc (by lia) o1 (by lia) p1 hl hl' le e;exact ⟨q1,by lia,q3⟩
 ·obtain ⟨q1,q2,q3⟩:=S.meet hc hb (bc.elim (fun q=>.inl q.symm) fun q=>.inr q.symm) (by lia) p1 (by lia) o1 hl' hl (by lia) e.symm;exact ⟨q1.symm,by lia,q3.symm⟩
theorem Sys.nodup {f:Int->Int} {N:Int} {bs:List Band} (S:Sys f N bs):(allPl f bs).Nodup:=by
 unfold allPl;refine List.pairwise_flatMap.mpr ⟨fun b hb=>?_,S.ord.imp_of_mem fun {b c} hb hc q x hx y hy e=>?_⟩
 ·unfold J73;refine List.pairwise_flatMap.mpr ⟨fun o ho=>?_,List.pairwise_lt_range.imp_of_mem fun {o o'} ho ho' q x hx y hy e=>?_⟩
  ·unfold rowPl;rw [pairwise_map];have o1:=mem_range.mp ho;refine List.pairwise_lt_range.imp_of_mem fun {l l'} hl hl' q e=>?_;have:=(S.eq_of hb hb (.inl rfl) (by lia) (by lia) (by have:=mem_range.mp hl;lia) (by have:=mem_range.mp hl';lia) e).2.2;lia
  ·obtain ⟨l,hl,rfl⟩:=mem_rowPl.mp hx;obtain ⟨l',hl',rfl⟩:=mem_rowPl.mp hy;have:=(S.eq_of hb hb (.inl rfl) (by have:=mem_range.mp ho;lia) (by have:=mem_range.mp ho';lia) hl hl' e).2.1;lia
 ·obtain ⟨o,l,ho,hl,rfl⟩:=mem_bandPl.mp hx;obtain ⟨o',l',ho',hl',rfl⟩:=mem_bandPl.mp hy;have w:=(S.bnd c hc).1;obtain ⟨rfl,_,_⟩:=S.eq_of hb hc (.inr (.inl q)) ho ho' hl hl' e;lia
theorem len_bandPl {f:Int->Int} {b:Band} (h1:0<=b.2.1) (h2:0<=b.2.2.1):((J73 f b).length:Int)=b.2.1 * b.2.2.1:=by
 have:∀ n:Nat,((List.range n).flatMap (rowPl f b)).length=n * b.2.2.1.toNat:=fun n=>by
  induction n with
  | zero=>simp
  | succ n ih =>
   rw [range_succ,List.flatMap_append,length_append,ih];have:([n].flatMap (rowPl f b)).length=b.2.2.1.toNat:=by
    rw [List.flatMap_singleton];unfold rowPl;rw [length_map,length_range]
   rw [this,Nat.succ_mul]
 unfold J73;rw [this,Int.natCast_mul];rw [show ((b.2.1.toNat:Nat):Int)=b.2.1 by lia,show ((b.2.2.1.toNat:Nat):Int)=b.2.2.1 by lia]
theorem len_allPl {f:Int->Int}:∀ {bs:List Band},(∀ b∈bs,Bnd f b)->((allPl f bs).length:Int)=(bs.map fun b=>b.2.1 * b.2.2.1).sum
 | [],_=>rfl
 | b :: bs,h=>by
  have ih:=len_allPl (bs:=bs) fun c hc=>h c (mem_cons_of_mem _ hc);have B:=h b mem_cons_self;have w:=B.1;have hh:=B.2.1;rw [map_cons,sum_cons,<- ih,<- len_bandPl (f:=f) (b:=b) (by lia) (by lia)];unfold allPl;rw [List.flatMap_cons,length_append];lia
theorem Sys.len {f:Int->Int} {N:Int} {bs:List Band} (S:Sys f N bs):((allPl f bs).length:Int)=N:=by rw [len_allPl S.bnd,S.sum]
theorem mem_allPl {f:Int->Int} {bs:List Band} {x:Int}:x∈allPl f bs↔∃ b o lv,Adr bs b o lv/\plOf f bs b o lv=x:=by
 unfold allPl;rw [List.mem_flatMap];constructor
 ·rintro ⟨c,hc,hx⟩;obtain ⟨o,l,ho,hl,rfl⟩:=mem_bandPl.mp hx;obtain ⟨b,hb,rfl⟩:=List.getElem_of_mem hc;have e:bs.getD b bz0=bs[b]:=by rw [getD_eq_getElem?_getD,List.getElem?_eq_getElem hb];rfl
  refine ⟨b,o,l,⟨hb,by lia,by rw [e];exact ho,by lia,by rw [e];exact hl⟩,?_⟩;unfold plOf;rw [e];rfl
 ·rintro ⟨b,o,lv,A,rfl⟩;refine ⟨_,J6a A.hb,mem_bandPl.mpr ⟨o.toNat,lv.toNat,?_,?_,?_⟩⟩
  ·have:=A.o0;have:=A.o1;lia
  ·have:=A.l0;have:=A.l1;lia
  ·have:=A.o0;unfold plOf;rw [show ((o.toNat:Nat):Int)=o by lia]
theorem Sys.all_in {f:Int->Int} {N:Int} {bs:List Band} (S:Sys f N bs) {x:Int} (h:x∈allPl f bs):0<=x/\x < N:=by
 obtain ⟨b,o,lv,A,rfl⟩:=mem_allPl.mp h;exact S.pl_in A
theorem Sys.exists {f:Int->Int} {N:Int} {bs:List Band} (S:Sys f N bs) {x:Int} (h0:0<=x) (h1:x < N):∃ b o lv,Adr bs b o lv/\plOf f bs b o lv=x:=by
 refine mem_allPl.mp ?_;apply Classical.byContradiction;intro c;have nd:((x :: allPl f bs).map Int.toNat).Nodup:=by
  refine pairwise_map.mpr ((nodup_cons.mpr ⟨c,S.nodup⟩).imp_of_mem fun {a b} ha hb ne e=>?_);have hin:∀ {z},z∈x :: allPl f bs->0<=z/\z < N:=fun {z} hz=>by
   rcases mem_cons.mp hz with rfl | hz
   ·exact ⟨h0,h1⟩
   ·exact S.all_in hz
  have:=hin ha;have:=hin hb;exact ne (by lia)
 have lt:∀ j∈(x :: allPl f bs).map Int.toNat,j < N.toNat:=fun j hj=>by
  obtain ⟨z,hz,rfl⟩:=mem_map.mp hj;rcases mem_cons.mp hz with rfl | hz
  ·lia
  ·have:=S.all_in hz;lia
 have le:=J5u N.toNat _ nd lt;have ln:=S.len;rw [length_map,length_cons] at le;lia
def bandC (p:Cst):Band:=((chS p).1.size,p.1.ls.getD (nextN p.1).winner 0,p.2.getD (nextN p.1).winner 0,p.1.ts.getD (nextN p.1).winner false)
theorem Cok.band {p:Cst} (h:Cok p) (one:∀ j∈p.1.top,p.2.getD j 0=1) {k:Nat} (l:Long p (k + 1)) (hh:(nextN (chN p k).1).isHome=true) :
  Bnd (go p.1) (bandC (chN p k))/\(bandC (chN p k)).1=(chN p (k + 1)).1.size/\(bandC (chN p k)).1 + (bandC (chN p k)).2.1=(chN p k).1.size:=by
 have l':Long p k:=fun i hi=>l i (by lia);have ne:=l k (by lia);have c:=h.at_ l';have np:=nextP c.ok ne;have tow:=Cok.tower h one l';have w:=np.win c.ok ne;have pw:=c.ok.row.pos _ w;have pt:=c.tow.pos _ w;obtain ⟨a,ha⟩:∃ a,nextN (chN p k).1=.home a:=by
  generalize nextN (chN p k).1=s at *;cases s <;> first | exact ⟨_,rfl⟩ | cases hh
 rw [ha] at np;obtain ⟨g1,g2⟩:=home_go c.ok ne np;have e1:(bandC (chN p k)).1=(chN p (k + 1)).1.size:=rfl;have e1':(chN p (k + 1)).1.size=((Stp.home a).behind (chN p k).1).size:=by
  show ((nextN (chN p k).1).behind (chN p k).1).size=_;rw [ha]
 have ew:(bandC (chN p k)).2.1=(chN p k).1.ls.getD a 0:=by show (chN p k).1.ls.getD (nextN (chN p k).1).winner 0=_;rw [ha];rfl
 have eh:(bandC (chN p k)).2.2.1=(chN p k).2.getD a 0:=by show (chN p k).2.getD (nextN (chN p k).1).winner 0=_;rw [ha];rfl
 have et:(bandC (chN p k)).2.2.2=(chN p k).1.ts.getD a false:=by show (chN p k).1.ts.getD (nextN (chN p k).1).winner false=_;rw [ha];rfl
 have ew2:(nextN (chN p k).1).winner=a:=by rw [ha];rfl
 rw [ew2] at pw pt;have sz:(bandC (chN p k)).1 + (bandC (chN p k)).2.1=(chN p k).1.size:=by rw [e1,e1',ew];exact g1
 refine ⟨⟨by rw [ew];exact pw,by rw [eh];exact pt,fun o o0 o1=>?_⟩,e1,sz⟩;rw [sz];rw [e1,e1'] at *;rw [ew] at o1 sz;obtain ⟨A,ge⟩:=g2 (((Stp.home a).behind (chN p k).1).size + o) (by lia) (by lia);have F:=tow _ _ _ A;rw [ge] at F;rw [eh];have ef:(if (chN p k).1.ts.getD a false=true then ((Stp.home a).behind (chN p k).1).size + (chN p k).1.size - 1 - (((Stp.home a).behind (chN p k).1).size + o) else ((Stp.home a).behind (chN p k).1).size + o)=((Stp.home a).behind (chN p k).1).size + flipB (bandC (chN p k)) o:=by
  unfold flipB;rw [et,ew];split <;> lia
 rw [ef] at F;exact F
theorem J6b {p:Cst} {b:Band}:∀ {m:Nat},b∈bndN p m->∃ k,k < m/\(nextN (chN p k).1).isHome=true/\b=bandC (chN p k)
 | 0,h=>by cases h
 | m + 1,h=>by
  have h:b∈bndN p m ++ bndB (chN p m):=h;rcases mem_append.mp h with h | h
  ·obtain ⟨k,hk,q⟩:=J6b h;exact ⟨k,by lia,q⟩
  ·unfold bndB at h;split at h
   ·rename_i hh;exact ⟨m,by lia,hh,mem_singleton.mp h⟩
   ·cases h
theorem Cok.sizes {p:Cst} (h:Cok p) {m:Nat} (l:Long p m):∀ {i k:Nat},i<=k->k<=m->(chN p k).1.size<=(chN p i).1.size:=fun {i k} hik hk=>by
 induction k with
 | zero=>rw [Nat.le_zero.mp hik];exact Int.le_refl _
 | succ k ih =>
  by_cases e:i=k + 1
  ·rw [e];exact Int.le_refl _
  ·have a:=ih (by lia) (by lia);have c:=h.at_ (k:=k) (fun i hi=>l i (by lia));have d:=(c.ok.down (l k (by lia))).less;have d':(chN p (k + 1)).1.size < (chN p k).1.size:=d;lia
theorem Cok.ordB {p:Cst} (h:Cok p) (one:∀ j∈p.1.top,p.2.getD j 0=1):∀ {m:Nat},Long p m->(bndN p m).Pairwise fun b c=>c.1 + c.2.1<=b.1
 | 0,_=>List.Pairwise.nil
 | m + 1,l=>by
  have l':Long p m:=fun i hi=>l i (by lia);show (bndN p m ++ bndB (chN p m)).Pairwise _;refine List.pairwise_append.mpr ⟨Cok.ordB h one l',?_,fun b hb c hc=>?_⟩
  ·unfold bndB;split
   ·exact List.pairwise_singleton _ _
   ·exact List.Pairwise.nil
  ·obtain ⟨k,hk,hh,rfl⟩:=J6b hb;unfold bndB at hc;split at hc
   ·rename_i hm;obtain rfl:=mem_singleton.mp hc;obtain ⟨_,b1,_⟩:=h.band one (k:=k) (fun i hi=>l i (by lia)) hh;obtain ⟨_,_,c2⟩:=h.band one (k:=m) l hm;have s:=h.sizes l (i:=k + 1) (k:=m) (by lia) (by lia);have c2':(bandC (chN p m)).1 + (bandC (chN p m)).2.1=(chN p m).1.size:=c2;show (bandC (chN p m)).1 + (bandC (chN p m)).2.1<=_;lia
   ·cases hc
def J4v (bs:List Band):Int:=(bs.map fun b=>b.2.1 * b.2.2.1).sum
theorem bandSum_app (xs ys:List Band):J4v (xs ++ ys)=J4v xs + J4v ys:=by unfold J4v;rw [map_append,sum_append]
theorem Cok.sumB {p:Cst} (h:Cok p):∀ {k:Nat},Long p k->wS (chN p k).1.ls (chN p k).2 (chN p k).1.top + J4v (bndN p k)=wS p.1.ls p.2 p.1.top
 | 0,_=>by show wS p.1.ls p.2 p.1.top + 0=_;lia
 | k + 1,l=>by
  have l':Long p k:=fun i hi=>l i (by lia);have ih:=Cok.sumB h l';have c:=h.at_ l';have st:=c.ok.stay (l k (by lia)) c.tow.len;show wS (chS (chN p k)).1.ls (chS (chN p k)).2 (chS (chN p k)).1.top + J4v (bndN p k ++ bndB (chN p k))=_;have st':wS (chS (chN p k)).1.ls (chS (chN p k)).2 (chS (chN p k)).1.top + (if (nextN (chN p k).1).isHome=true then (chN p k).1.ls.getD (nextN (chN p k).1).winner 0 * (chN p k).2.getD (nextN (chN p k).1).winner 0 else 0)=wS (chN p k).1.ls (chN p k).2 (chN p k).1.top:=st;rw [bandSum_app,<- ih,<- st'];unfold bndB;by_cases c:(nextN (chN p k).1).isHome=true
  ·rw [if_pos c,if_pos c];show _ + (_ + (((chN p k).1.ls.getD (nextN (chN p k).1).winner 0 * (chN p k).2.getD (nextN (chN p k).1).winner 0) + 0))=_;lia
  ·rw [if_neg c,if_neg c];show _ + (_ + 0)=_;lia
theorem Cok.sys {p:Cst} (h:Cok p) (one:∀ j∈p.1.top,p.2.getD j 0=1) (sum0:wS p.1.ls p.2 p.1.top=p.1.size) {m:Nat} (l:Long p m) (e:(chN p m).1.top=[]):Sys (go p.1) p.1.size (bndN p m) where
 inn:=fun y h0 h1=>go_in h.ok h0 h1
 inj:=fun y z h0 h1 k0 k1 q=>go_inj h.ok h0 h1 k0 k1 q
 bnd:=fun b hb=>by
  obtain ⟨k,hk,hh,rfl⟩:=J6b hb;exact (h.band one (fun i hi=>l i (by lia)) hh).1
 lo:=fun b hb=>by
  obtain ⟨k,hk,hh,rfl⟩:=J6b hb;obtain ⟨_,b1,b2⟩:=h.band one (k:=k) (fun i hi=>l i (by lia)) hh;have s:=h.sizes l (i:=0) (k:=k) (by lia) (by lia);have s':(chN p k).1.size<=p.1.size:=s;have c:=h.at_ (k:=k + 1) (fun i hi=>l i (by lia));have n0:0<=(chN p (k + 1)).1.size:=Jy fun j hj=>by have:=c.ok.row.pos j hj;lia
  lia
 ord:=h.ordB one l
 sum:=by
  have:=h.sumB l;rw [e] at this;have w0:wS (chN p m).1.ls (chN p m).2 []=0:=rfl;rw [w0,sum0] at this;have t:J4v (bndN p m)=p.1.size:=by lia
  exact t
end Rl
namespace Rl
structure Reach (f:Int->Int) (lo:Int) (n:Nat) (y z:Int):Prop where
 last:itN f n y=z
 mid:∀ i,0 < i->i<=n->lo<=itN f i y
theorem Reach.zero {f:Int->Int} {lo y:Int}:Reach f lo 0 y y:=⟨rfl,fun i h0 h1=>by lia⟩
theorem First.reach {f:Int->Int} {lo y z:Int} {n:Nat} (F:First f lo n y z) (h:lo<=z):Reach f lo n y z:=⟨F.last,fun i h0 h1=>by
 by_cases c:i < n
 ·exact F.mid i h0 c
 ·rw [show i=n by lia,F.last];exact h⟩
theorem Reach.trans {f:Int->Int} {lo y z w:Int} {n m:Nat} (a:Reach f lo n y z) (b:Reach f lo m z w):Reach f lo (n + m) y w:=by
 refine ⟨by rw [J1s,a.last,b.last],fun i h0 h1=>?_⟩;by_cases c:i<=n
 ·exact a.mid i h0 c
 ·obtain ⟨k,rfl⟩:∃ k,i=n + k:=⟨i - n,by lia⟩;rw [J1s,a.last];exact b.mid k (by lia) (by lia)
theorem Reach.low {f:Int->Int} {lo lo' y z:Int} {n:Nat} (a:Reach f lo n y z) (h:lo'<=lo):Reach f lo' n y z:=⟨a.last,fun i h0 h1=>by have:=a.mid i h0 h1;lia⟩
theorem Reach.lt {f:Int->Int} {lo y z w:Int} {n m:Nat} (a:Reach f lo n y z) (F:First f lo m y w) (hw:w < lo):n < m:=by
 apply Classical.byContradiction;intro c;have:=a.mid m F.pos (by lia);rw [F.last] at this;lia
theorem firsts_pos {ls:List Int} {row:List Nat} (h:Row ls row) {j:Nat} (hj:j∈row):(firsts ls row).getD j 0=posR ls row j:=by
 obtain ⟨k,hk,rfl⟩:=mem_at hj;rw [h.first hk,J3c _ h.nd hk]
theorem comes_at {r:Rst} (h:r.Ok) {y:Int} {i:Nat} (a:AtR r.ls r.bot y i):J2m r (moveN r.ls r.ts (r.bot.getD i 0) (y - J16 r.ls r.bot i) (firsts r.ls r.top)) y:=by
 obtain ⟨a1,a2,a3⟩:=a;rw [J17] at a3;have hj:=J1k a1;have hj':=h.perm.mem_iff.mp hj;have e:=J3c r.ls h.rowB.nd a1;refine (J65 h).mpr ⟨r.bot.getD i 0,if r.ts.getD (r.bot.getD i 0) false=true then r.ls.getD (r.bot.getD i 0) 0 - 1 - (y - J16 r.ls r.bot i) else y - J16 r.ls r.bot i,⟨hj',?_,?_,?_⟩,?_⟩
 ·split <;> lia
 ·split <;> lia
 ·unfold moveN;rw [firsts_pos h.row hj'];split <;> lia
 ·unfold offT;rw [e];split <;> lia
theorem share_of {r:Rst} {s:Stp} (d:Down r s) (np:NextP r s) (hh:s.isHome=false):(r.size - (s.behind r).size) / s.times=lenOf r.ls (s.losers r)/\r.size - (s.behind r).size=s.times * lenOf r.ls (s.losers r):=by
 have e:=d.size;rw [hh] at e;have t1:=J2b np;have e':r.size - (s.behind r).size=s.times * lenOf r.ls (s.losers r):=by
  have:(if false=true then r.ls.getD s.winner 0 else 0)=(0:Int):=rfl;rw [this] at e;lia
 exact ⟨by rw [e',Int.mul_ediv_cancel_left _ (by lia)],e'⟩
theorem J4m {r:Rst} (h:r.Ok) (ne:r.top≠[]) {s:Stp} (np:NextP r s) (hh:s.isHome=false):1<=lenOf r.ls (s.losers r):=by
 refine J42 (fun j hj=>h.row.pos j ((np.losers_lt h ne).1 j hj)) (fun e=>?_)
 cases s with
 | home a=>cases hh
 | even a b=>cases e
 | over a b=>cases e
 | under a b=>cases e
 | overs a t =>
  have n5:=np.2.2.2.2.1;have e:J2 r.bot a=[]:=e;rw [e,J1j] at n5;lia
 | unders a t =>
  have n5:=np.2.2.2.2.1;have e:J2 r.top a=[]:=e;rw [e,J1j] at n5;lia
theorem come_loser {r:Rst} (h:r.Ok) (ne:r.top≠[]) {s:Stp} (np:NextP r s) (okl:(s.behind r).Ok) (own:s.own=true) {z m:Int} (g:J2m r z m) (hm:r.size - lenOf r.ls (s.losers r)<=m) :
  ∃ j o,LetAt (s.behind r) z j o/\LetAt r z j o/\j∈s.losers r:=by
 obtain ⟨j,o,A,em⟩:=(J65 h).mp g;have of:=A.off;have neb:r.bot≠[]:=fun e=>ne (by have:=h.perm;rw [e] at this;exact this.symm.eq_nil);have posB:∀ i∈r.bot,0<=r.ls.getD i 0:=fun i hi=>by have:=h.rowB.pos i hi;lia
 cases s with
 | home a=>cases own
 | under a b=>cases own
 | unders a t=>cases own
 | even a b =>
  obtain ⟨n1,n2,n3,n4⟩:=np;obtain ⟨T,eT⟩:=J14 ne;obtain ⟨B,eB⟩:=J14 neb;have eT:r.top=T ++ [a]:=by rw [n1];exact eT
  have eB:r.bot=B ++ [b]:=by rw [n2];exact eB
  have bB:=J1n (eB ▸ h.rowB.nd);have aT:=J1n (eT ▸ h.row.nd);have sz:r.size=lenOf r.ls B + r.ls.getD b 0:=by rw [<- h.sizeB,eB,Je,Jw]
  have hm:r.size - lenOf r.ls [b]<=m:=hm;rw [Jw] at hm;have jb:j=b:=by
   apply Classical.byContradiction;intro c;have jB:j∈B:=by
    have:=h.perm.mem_iff.mpr A.1;rw [eB] at this;exact (mem_append.mp this).resolve_right fun q=>c (mem_singleton.mp q)
   have:=J4h (ls:=r.ls) (row:=B) (fun i hi=>posB i (by rw [eB];exact mem_append_left _ hi)) jB;rw [eB,Ju _ _ jB] at em;lia
  subst jb;refine ⟨j,o,?_,A,mem_singleton.mpr rfl⟩;obtain ⟨A1,A2,A3,A4⟩:=A;have jT:j∈T:=by
   rw [eT] at A1;exact (mem_append.mp A1).resolve_right fun q=>n3 (mem_singleton.mp q).symm
  have lt:((Stp.even a j).behind r).top=T:=by show withoutR r.top a=T;rw [eT,J1b,J1d,append_nil,J1a aT]
  have la:=h.row.lt a (by rw [eT];simp);refine ⟨by rw [lt];exact jT,A2,?_,?_⟩
  ·show o < (r.ls.set a 0).getD j 0;rw [Jv _ _ _ _ la,if_neg (Ne.symm n3)];exact A3
  ·rw [lt,A4,eT,Ju _ _ jT];show _=posR (r.ls.set a 0) T j + o;rw [Js _ _ aT]
 | over a b =>
  obtain ⟨n1,n2,n3,n4⟩:=np;obtain ⟨T,eT⟩:=J14 ne;obtain ⟨B,eB⟩:=J14 neb;have eT:r.top=T ++ [a]:=by rw [n1];exact eT
  have eB:r.bot=B ++ [b]:=by rw [n2];exact eB
  have bB:=J1n (eB ▸ h.rowB.nd);have aT:=J1n (eT ▸ h.row.nd);have sz:r.size=lenOf r.ls B + r.ls.getD b 0:=by rw [<- h.sizeB,eB,Je,Jw]
  have hm:r.size - lenOf r.ls [b]<=m:=hm;rw [Jw] at hm;have jb:j=b:=by
   apply Classical.byContradiction;intro c;have jB:j∈B:=by
    have:=h.perm.mem_iff.mpr A.1;rw [eB] at this;exact (mem_append.mp this).resolve_right fun q=>c (mem_singleton.mp q)
   have:=J4h (ls:=r.ls) (row:=B) (fun i hi=>posB i (by rw [eB];exact mem_append_left _ hi)) jB;rw [eB,Ju _ _ jB] at em;lia
  subst jb;refine ⟨j,o,?_,A,mem_singleton.mpr rfl⟩;obtain ⟨A1,A2,A3,A4⟩:=A;have la:=h.row.lt a (by rw [eT];simp);refine ⟨A1,A2,?_,?_⟩
  ·show o < (r.ls.set a _).getD j 0;rw [Jv _ _ _ _ la,if_neg (Ne.symm n3)];exact A3
  ·rw [A4];show _=posR (r.ls.set a _) r.top j + o;rw [eT] at A1 ⊢;rw [J1m _ _ aT A1]
 | overs a t =>
  obtain ⟨n1,n2,n3,n4,n5,n6⟩:=np;obtain ⟨T,eT⟩:=J14 ne;have eT:r.top=T ++ [a]:=by rw [n1];exact eT
  have aT:=J1n (eT ▸ h.row.nd);have aIn:a∈r.top:=by rw [eT];simp
  obtain ⟨X,Y,eB,aX⟩:=J4d (h.perm.mem_iff.mpr aIn);obtain ⟨_,aY,XY⟩:=J6q (eB ▸ h.rowB.nd);have eY:J2 r.bot a=Y:=by rw [eB];exact J34 aX
  have hm:r.size - lenOf r.ls (J2 r.bot a)<=m:=hm;rw [eY] at hm;have sz:r.size=lenOf r.ls X + r.ls.getD a 0 + lenOf r.ls Y:=by rw [<- h.sizeB,eB,Je,Jj];lia
  have jY:j∈Y:=by
   apply Classical.byContradiction;intro c;have jB:j∈X ++ a :: Y:=by rw [<- eB];exact h.perm.mem_iff.mpr A.1
   by_cases ja:j=a
   ·subst ja;rw [eB,Jq _ _ aX] at em;lia
   ·have jX:j∈X:=by simpa [c,ja] using jB
    have:=J4h (ls:=r.ls) (row:=X) (fun i hi=>posB i (by rw [eB];exact mem_append_left _ hi)) jX;have pa:=h.row.pos a aIn;rw [eB,Ju _ _ jX] at em;lia
  have ja:j≠a:=fun e=>aY (e ▸ jY);refine ⟨j,o,?_,A,by show j∈J2 r.bot a;rw [eY];exact jY⟩;obtain ⟨A1,A2,A3,A4⟩:=A;have la:=h.row.lt a aIn;refine ⟨A1,A2,?_,?_⟩
  ·show o < (r.ls.set a _).getD j 0;rw [Jv _ _ _ _ la,if_neg ja];exact A3
  ·rw [A4];show _=posR (r.ls.set a _) r.top j + o;rw [eT] at A1 ⊢;rw [J1m _ _ aT A1]
theorem come_winner {r:Rst} (h:r.Ok) (ne:r.top≠[]) {s:Stp} (np:NextP r s) (okl:(s.behind r).Ok) (hh:s.isHome=false) (own:s.own=false) {z y:Int} (g:J2m r z y) (h0:(s.behind r).size<=y) (h1:y < r.size) {t':Int} (ht:t'=(y - (s.behind r).size) / lenOf r.ls (s.losers r)) :
  ∃ j o,LetAt (s.behind r) (z - t' * lenOf r.ls (s.losers r)) j o/\j∈s.losers r:=by
 obtain ⟨j0,o0,A0,em⟩:=(J65 h).mp g;have neb:r.bot≠[]:=fun e=>ne (by have:=h.perm;rw [e] at this;exact this.symm.eq_nil);have posB:∀ i∈r.bot,0<=r.ls.getD i 0:=fun i hi=>by have:=h.rowB.pos i hi;lia
 have key:∀ {a:Nat} {B:List Nat},r.bot=B ++ [a]->a∈r.top->lenOf r.ls B<=y->j0=a/\y=lenOf r.ls B + offT r a o0:=fun {a B} eB aIn hy=>by
  have aB:=J1n (eB ▸ h.rowB.nd);have e:j0=a:=by
   apply Classical.byContradiction;intro c;have jB:j0∈B:=by
    have:=h.perm.mem_iff.mpr A0.1;rw [eB] at this;exact (mem_append.mp this).resolve_right fun q=>c (mem_singleton.mp q)
   have:=J4h (ls:=r.ls) (row:=B) (fun i hi=>posB i (by rw [eB];exact mem_append_left _ hi)) jB;have of:=A0.off;rw [eB,Ju _ _ jB] at em;lia
  subst e;refine ⟨rfl,?_⟩;rw [em,eB,Jq _ _ aB]
 cases s with
 | home a=>cases hh
 | even a b=>cases own
 | over a b=>cases own
 | overs a t=>cases own
 | under a b =>
  obtain ⟨n1,n2,n3,n4⟩:=np;obtain ⟨B,eB⟩:=J14 neb;have eB:r.bot=B ++ [a]:=by rw [n1];exact eB
  have aIn:=h.perm.mem_iff.mp (show a∈r.bot by rw [eB];simp);obtain ⟨X,Y,eT,aX⟩:=J5y ne aIn (fun e=>n3 (by rw [n2];exact e.symm));have eT:r.top=X ++ a :: (Y ++ [b]):=by rw [n2];exact eT
  have bIn:b∈r.top:=by rw [eT];simp
  obtain ⟨_,aY0,XY⟩:=J6q (eT ▸ h.row.nd);have bX:b ∉ X:=fun q=>XY b q (by simp);have aB:=J1n (eB ▸ h.rowB.nd);have la:=h.row.lt a aIn;have pb:=h.row.pos b bIn;have e1a:((Stp.under a b).behind r).ls.getD a 0=r.ls.getD a 0 - r.ls.getD b 0:=by show (r.ls.set a _).getD a 0=_;rw [Jv _ _ _ _ la,if_pos rfl]
  have e1b:((Stp.under a b).behind r).ls.getD b 0=r.ls.getD b 0:=by show (r.ls.set a _).getD b 0=_;rw [Jv _ _ _ _ la,if_neg (Ne.symm n3)]
  have szl:((Stp.under a b).behind r).size=lenOf r.ls B + r.ls.getD a 0 - r.ls.getD b 0:=by
   rw [<- okl.sizeB,show ((Stp.under a b).behind r).bot=B ++ [a] from eB,Je,Jw,e1a,show lenOf ((Stp.under a b).behind r).ls B=lenOf r.ls B from Jf _ _ aB];lia
  have sz:r.size=lenOf r.ls B + r.ls.getD a 0:=by rw [<- h.sizeB,eB,Je,Jw]
  have lt:((Stp.under a b).behind r).top=X ++ (if r.ts.getD a false=true then b :: a :: Y else a :: b :: Y):=J5t eT h.row.nd _;have lX:lenOf ((Stp.under a b).behind r).ls X=lenOf r.ls X:=Jf _ _ aX;have tp:((Stp.under a b).behind r).top.Perm r.top:=J2e h.row.nd bIn _;have t0:t'=0:=by
   rw [ht];show (y - ((Stp.under a b).behind r).size) / lenOf r.ls [b]=0;rw [Jw];exact Int.ediv_eq_zero_of_lt (by lia) (by lia)
  obtain ⟨rfl,ey⟩:=key eB aIn (by lia);have ez:z=lenOf r.ls X + o0:=by rw [A0.2.2.2,eT,Jq _ _ aX]
  have o00:=A0.2.1;have o01:=A0.2.2.1;subst t0;rw [Int.zero_mul,Int.sub_zero];refine ⟨b,if r.ts.getD j0 false=true then o0 else o0 - (r.ls.getD j0 0 - r.ls.getD b 0),⟨tp.mem_iff.mpr bIn,?_,?_,?_⟩,mem_singleton.mpr rfl⟩
  ·unfold offT at ey;split at ey <;> rename_i ct
   ·rw [if_pos ct];lia
   ·rw [if_neg ct];lia
  ·rw [e1b];unfold offT at ey;split at ey <;> rename_i ct
   ·rw [if_pos ct];lia
   ·rw [if_neg ct];lia
  ·rw [lt];by_cases ct:r.ts.getD j0 false=true
   ·rw [if_pos ct,if_pos ct,Jq _ _ bX,lX];exact ez
   ·rw [if_neg ct,if_neg ct,Jt _ _ bX,Jp _ n3,J22,lX,e1a];lia
 | unders a t =>
  obtain ⟨n1,n2,n3,n4,n5,n6⟩:=np;obtain ⟨B,eB⟩:=J14 neb;have eB:r.bot=B ++ [a]:=by rw [n1];exact eB
  have aIn:=h.perm.mem_iff.mp (show a∈r.bot by rw [eB];simp);obtain ⟨X,Y,eT,aX⟩:=J4d aIn;obtain ⟨_,aY,XY⟩:=J6q (eT ▸ h.row.nd);have eY:J2 r.top a=Y:=by rw [eT];exact J34 aX
  have aB:=J1n (eB ▸ h.rowB.nd);have la:=h.row.lt a aIn;have ht:t'=(y - ((Stp.unders a t).behind r).size) / lenOf r.ls (J2 r.top a):=ht;show ∃ j o,LetAt ((Stp.unders a t).behind r) (z - t' * lenOf r.ls (J2 r.top a)) j o/\j∈J2 r.top a;rw [eY] at ht n5 n6 ⊢;have e1a:((Stp.unders a t).behind r).ls.getD a 0=r.ls.getD a 0 - t * lenOf r.ls Y:=by show (r.ls.set a (_ - t * lenOf r.ls (J2 r.top a))).getD a 0=_;rw [Jv _ _ _ _ la,if_pos rfl,eY]
  have tS:1<=t * lenOf r.ls Y:=by
   have:=Int.mul_le_mul n4 n5 (by decide) (by lia);lia
  have szl:((Stp.unders a t).behind r).size=lenOf r.ls B + r.ls.getD a 0 - t * lenOf r.ls Y:=by
   rw [<- okl.sizeB,show ((Stp.unders a t).behind r).bot=B ++ [a] from eB,Je,Jw,e1a,show lenOf ((Stp.unders a t).behind r).ls B=lenOf r.ls B from Jf _ _ aB];lia
  have sz:r.size=lenOf r.ls B + r.ls.getD a 0:=by rw [<- h.sizeB,eB,Je,Jw]
  have szT:r.size=lenOf r.ls X + r.ls.getD a 0 + lenOf r.ls Y:=by show lenOf r.ls r.top=_;rw [eT,Je,Jj];lia
  have lX:lenOf ((Stp.unders a t).behind r).ls X=lenOf r.ls X:=Jf _ _ aX;obtain ⟨rfl,ey⟩:=key eB aIn (by lia);have ez:z=lenOf r.ls X + o0:=by rw [A0.2.2.2,eT,Jq _ _ aX]
  have eo:offT r j0 o0=o0:=by unfold offT;rw [n3,if_neg (by decide)]
  rw [eo] at ey;have d1:=Int.ediv_mul_le (y - ((Stp.unders j0 t).behind r).size) (show lenOf r.ls Y≠0 by lia);have d2:=Int.lt_ediv_add_one_mul_self (y - ((Stp.unders j0 t).behind r).size) (show 0 < lenOf r.ls Y by lia);rw [<- ht] at d1 d2;rw [Int.add_mul,Int.one_mul] at d2;have lY:lenOf r.ls X + r.ls.getD j0 0 - t * lenOf r.ls Y<=z - t' * lenOf r.ls Y:=by lia
  have in0:0<=z - t' * lenOf r.ls Y:=by
   have:0<=lenOf r.ls X:=Jy fun i hi=>by have:=h.row.pos i (by rw [eT];exact mem_append_left _ hi);lia
   lia
  obtain ⟨j,o,A⟩:=okl.letAt in0 (by lia);refine ⟨j,o,A,?_⟩;have jT:j∈X ++ j0 :: Y:=by
   have:=A.1;rw [show ((Stp.unders j0 t).behind r).top=X ++ j0 :: Y from eT] at this;exact this
  apply Classical.byContradiction;intro c;obtain ⟨_,A2,A3,A4⟩:=A;rw [show ((Stp.unders j0 t).behind r).top=X ++ j0 :: Y from eT] at A4;by_cases ja:j=j0
  ·subst ja;rw [Jq _ _ aX,lX] at A4;rw [e1a] at A3;lia
  ·have jX:j∈X:=by simpa [c,ja] using jT
   have:=J4h (ls:=((Stp.unders j0 t).behind r).ls) (row:=X) (fun i hi=>by have:=okl.row.pos i (by rw [show ((Stp.unders j0 t).behind r).top=X ++ j0 :: Y from eT];exact mem_append_left _ hi);lia) jX;rw [Ju _ _ jX] at A4;rw [lX] at this;lia
end Rl
namespace Rl
structure Twr (f:Int->Int) (r:Rst) (T:List Int):Prop where
 pos:∀ j∈r.top,1<=T.getD j 0
 fst:∀ y j o,LetAt r y j o->First f r.size (T.getD j 0).toNat y (go r y)
theorem Cok.twr {p:Cst} (h:Cok p) (one:∀ j∈p.1.top,p.2.getD j 0=1) {k:Nat} (l:Long p k):Twr (go p.1) (chN p k).1 (chN p k).2:=⟨(h.at_ l).tow.pos,fun y j o A=>h.tower one l y j o A⟩
theorem J5c {a b:Int} (ha:0<=a) (hb:0<=b):(a * b).toNat=a.toNat * b.toNat:=by
 obtain ⟨m,rfl⟩:∃ m:Nat,a=m:=⟨a.toNat,by lia⟩;obtain ⟨n,rfl⟩:∃ n:Nat,b=n:=⟨b.toNat,by lia⟩;rw [<- Int.natCast_mul,Int.toNat_natCast,Int.toNat_natCast,Int.toNat_natCast]
theorem add_nat {a b:Int} (ha:0<=a) (hb:0<=b):(a + b).toNat=a.toNat + b.toNat:=by lia
section
variable {f:Int->Int} {r:Rst} {T:List Int} {s:Stp}
theorem come_own {y:Int} (h:r.Ok) (ne:r.top≠[]) (np:NextP r s) (okl:(s.behind r).Ok) (d:Down r s) (R:RetOf r s) (W:Twr f r T) (hh:s.isHome=false) (own:s.own=true) (h0:(s.behind r).size<=y) (h1:y < r.size) {t':Int} (ht:t'=(r.size - 1 - y) / lenOf r.ls (s.losers r)) :
  0<=t'/\t' < s.times/\(0<=y + t' * lenOf r.ls (s.losers r)/\y + t' * lenOf r.ls (s.losers r) < r.size)/\∀ z,J2m r z (y + t' * lenOf r.ls (s.losers r))->∃ j o,LetAt r z j o/\(0<=z/\z < (s.behind r).size)/\Reach f (s.behind r).size (T.getD j 0 + t' * T.getD s.winner 0).toNat z y:=by
 have hs:=J4m h ne np hh;obtain ⟨_,sh⟩:=share_of d np hh;have t1:=J2b np;have w:=np.win h ne;have pw:=W.pos _ w;have less:=Int.le_of_lt d.less;have d1:=Int.ediv_mul_le (r.size - 1 - y) (show lenOf r.ls (s.losers r)≠0 by lia);have d2:=Int.lt_ediv_add_one_mul_self (r.size - 1 - y) (show 0 < lenOf r.ls (s.losers r) by lia);have q0:0<=t':=by rw [ht];exact Int.ediv_nonneg (by lia) (by lia)
 rw [<- ht] at d1 d2;rw [Int.add_mul,Int.one_mul] at d2;have zn:0<=(s.behind r).size:=Jy fun j hj=>by have:=okl.row.pos j hj;lia
 have m0:0<=t' * lenOf r.ls (s.losers r):=Int.mul_nonneg q0 (by lia);have q1:t' < s.times:=by
  apply Classical.byContradiction;intro c;have:s.times * lenOf r.ls (s.losers r)<=t' * lenOf r.ls (s.losers r):=Int.mul_le_mul_of_nonneg_right (by lia) (by lia);lia
 refine ⟨q0,q1,⟨by lia,by lia⟩,fun z g=>?_⟩;obtain ⟨j,o,Al,A,hj⟩:=come_loser h ne np okl own g (by lia);have ge:=go_of h g;have pj:=W.pos j A.1;have L:=R.lose z j o Al hj;have Fj:=(W.fst _ _ _ A).low less;rw [ge] at Fj;refine ⟨j,o,A,Al.inside okl,?_⟩;have main:∀ {t S:Int},lenOf r.ls (s.losers r)=S->t' < t->(∀ k:Int,0<=k->k < t->(s.behind r).size<=go r z - k * S/\(∃ o',LetAt r (go r z - k * S) s.winner o')/\go r (go r z - k * S)=go r z - k * S - S)->
   Reach f (s.behind r).size (T.getD j 0 + t' * T.getD s.winner 0).toNat z y:=fun {t S} eS htt H=>by
  rw [ge,eS] at H;rw [eS] at Fj ge d1 d2 m0;have p0:=(H 0 (by lia) (by lia)).1;rw [Int.zero_mul,Int.sub_zero] at p0;have R1:=Fj.reach p0;by_cases c:t'=0
  ·subst c;rw [Int.zero_mul,Int.add_zero] at R1;rw [Int.zero_mul,Int.add_zero];exact R1
  ·obtain ⟨n,hn⟩:∃ n:Nat,t'=(n:Int) + 1:=⟨(t' - 1).toNat,by lia⟩;have C:=J3i (f:=f) (r:=r) (N:=fun j=>(T.getD j 0).toNat) (lo:=(s.behind r).size) less W.fst H n (by lia);rw [<- hn,show y + t' * S - t' * S=y by lia] at C;have R2:=R1.trans (C.reach h0);have e:(T.getD j 0).toNat + (n + 1) * (T.getD s.winner 0).toNat=(T.getD j 0 + t' * T.getD s.winner 0).toNat:=by
    rw [add_nat (by lia) (Int.mul_nonneg q0 (by lia)),J5c q0 (by lia),show t'.toNat=n + 1 by lia]
   rw [<- e];exact R2
 have one:s.times=1->(s.behind r).size<=go r z->(∃ o',LetAt r (go r z) s.winner o')->Reach f (s.behind r).size (T.getD j 0 + t' * T.getD s.winner 0).toNat z y:=fun e1 l2 l3=>by
  have t0:t'=0:=by lia
  subst t0;rw [Int.zero_mul,Int.add_zero] at Fj ge;rw [Int.zero_mul,Int.add_zero];exact Fj.reach h0
 cases s with
 | home a=>cases hh
 | under a b=>cases own
 | unders a t=>cases own
 | even a b=>exact one rfl L.2.1 L.2.2.1
 | over a b=>exact one rfl L.2.1 L.2.2.1
 | overs a t=>exact main rfl q1 L.2.1
theorem come_last {y:Int} (h:r.Ok) (ne:r.top≠[]) (np:NextP r s) (okl:(s.behind r).Ok) (d:Down r s) (R:RetOf r s) (W:Twr f r T) (hh:s.isHome=false) (own:s.own=false) (h0:(s.behind r).size<=y) (h1:y < r.size) {t':Int} (ht:t'=(y - (s.behind r).size) / lenOf r.ls (s.losers r)) :
  0<=t'/\t' < s.times/\∀ z,J2m r z y->(0<=z - t' * lenOf r.ls (s.losers r)/\z - t' * lenOf r.ls (s.losers r) < (s.behind r).size)/\Reach f (s.behind r).size ((t' + 1) * T.getD s.winner 0).toNat (z - t' * lenOf r.ls (s.losers r)) y:=by
 have hs:=J4m h ne np hh;obtain ⟨_,sh⟩:=share_of d np hh;have t1:=J2b np;have w:=np.win h ne;have pw:=W.pos _ w;have less:=Int.le_of_lt d.less;have d1:=Int.ediv_mul_le (y - (s.behind r).size) (show lenOf r.ls (s.losers r)≠0 by lia);have d2:=Int.lt_ediv_add_one_mul_self (y - (s.behind r).size) (show 0 < lenOf r.ls (s.losers r) by lia);have q0:0<=t':=by rw [ht];exact Int.ediv_nonneg (by lia) (by lia)
 rw [<- ht] at d1 d2;rw [Int.add_mul,Int.one_mul] at d2;have q1:t' < s.times:=by
  apply Classical.byContradiction;intro c;have:s.times * lenOf r.ls (s.losers r)<=t' * lenOf r.ls (s.losers r):=Int.mul_le_mul_of_nonneg_right (by lia) (by lia);lia
 refine ⟨q0,q1,fun z g=>?_⟩;obtain ⟨j,o,Al,hj⟩:=come_winner h ne np okl hh own g h0 h1 ht;have ge:=go_of h g;have L:=R.lose _ j o Al hj;refine ⟨Al.inside okl,?_⟩
 cases s with
 | home a=>cases hh
 | even a b=>cases own
 | over a b=>cases own
 | overs a t=>cases own
 | under a b =>
  have q1:t' < 1:=q1;obtain rfl:t'=0:=by lia
  rw [Int.zero_mul,Int.sub_zero] at L ⊢;obtain ⟨⟨o',l1⟩,l2,_⟩:=L;have Fj:=(W.fst _ _ _ l1).low less;rw [ge] at Fj;rw [Int.zero_add,Int.one_mul];exact Fj.reach h0
 | unders a t =>
  have eS:lenOf r.ls ((Stp.unders a t).losers r)=lenOf r.ls (J2 r.top a):=rfl;rw [eS] at d1 d2;show Reach f ((Stp.unders a t).behind r).size _ (z - t' * lenOf r.ls (J2 r.top a)) y;obtain ⟨L1,_⟩:=L;obtain ⟨n,hn⟩:∃ n:Nat,t'=n:=⟨t'.toNat,by lia⟩;have q1:t' < t:=q1;have C:First f ((Stp.unders a t).behind r).size ((n + 1) * (T.getD a 0).toNat) (z - t' * lenOf r.ls (J2 r.top a)) (z - t' * lenOf r.ls (J2 r.top a) + ((n:Int) + 1) * lenOf r.ls (J2 r.top a)):=J69 (f:=f) (r:=r) (w:=a) (N:=fun j=>(T.getD j 0).toNat) (lo:=((Stp.unders a t).behind r).size) less W.fst L1 n (by lia);have ez:z - t' * lenOf r.ls (J2 r.top a) + t' * lenOf r.ls (J2 r.top a)=z:=by lia
  have q:go r (z - t' * lenOf r.ls (J2 r.top a) + t' * lenOf r.ls (J2 r.top a))=z - t' * lenOf r.ls (J2 r.top a) + t' * lenOf r.ls (J2 r.top a) + lenOf r.ls (J2 r.top a):=(L1 t' q0 q1).2.1;rw [ez,ge] at q;have ey:z - t' * lenOf r.ls (J2 r.top a) + ((n:Int) + 1) * lenOf r.ls (J2 r.top a)=y:=by
   rw [<- hn,Int.add_mul,Int.one_mul];lia
  rw [ey] at C;have e:(n + 1) * (T.getD a 0).toNat=((t' + 1) * T.getD (Stp.unders a t).winner 0).toNat:=by
   show _=((t' + 1) * T.getD a 0).toNat;have pw:1<=T.getD a 0:=pw;rw [J5c (by lia) (by lia),show (t' + 1).toNat=n + 1 by lia]
  rw [<- e];exact C.reach h0
theorem J3f (np:NextP r s) (R:RetOf r s) {y o:Int} {j:Nat} (A:LetAt (s.behind r) y j o) (c:j ∉ s.losers r):∃ o',LetAt r y j o':=(R.plain y j o A c).1
theorem J4n {y o due:Int} {j:Nat} (h:r.Ok) (ne:r.top≠[]) (np:NextP r s) (okl:(s.behind r).Ok) (R:RetOf r s) (W:Twr f r T) (own:s.own=true) (A:LetAt (s.behind r) y j o) (c:j∈s.losers r) (d0:0<=due) (d1:due < T.getD j 0 + T.getD s.winner 0 * s.times) :
  (∃ o',LetAt r y j o')/\(T.getD j 0<=due->∀ t':Int,t'=(due - T.getD j 0) / T.getD s.winner 0->0<=t'/\t' < s.times/\(∃ o',LetAt r (go r y - t' * lenOf r.ls (s.losers r)) s.winner o')/\
   (0<=due - T.getD j 0 - t' * T.getD s.winner 0/\due - T.getD j 0 - t' * T.getD s.winner 0 < T.getD s.winner 0)/\itN f (due - T.getD j 0 - t' * T.getD s.winner 0).toNat (go r y - t' * lenOf r.ls (s.losers r))=itN f due.toNat y):=by
 have w:=np.win h ne;have pw:=W.pos _ w;have L:=R.lose y j o A c;have own':∃ o',LetAt r y j o':=by
  cases s with
  | home a=>cases own
  | under a b=>cases own
  | unders a t=>cases own
  | even a b=>exact L.1
  | over a b=>exact L.1
  | overs a t=>exact L.1
 refine ⟨own',fun hd t' ht=>?_⟩;obtain ⟨o',A'⟩:=own';have pj:=W.pos j A'.1;have e1:=Int.ediv_mul_le (due - T.getD j 0) (show T.getD s.winner 0≠0 by lia);have e2:=Int.lt_ediv_add_one_mul_self (due - T.getD j 0) (show 0 < T.getD s.winner 0 by lia);have q0:0<=t':=by rw [ht];exact Int.ediv_nonneg (by lia) (by lia)
 rw [<- ht] at e1 e2;rw [Int.add_mul,Int.one_mul] at e2;have q1:t' < s.times:=by
  apply Classical.byContradiction;intro c;have:s.times * T.getD s.winner 0<=t' * T.getD s.winner 0:=Int.mul_le_mul_of_nonneg_right (by lia) (by lia);rw [Int.mul_comm (T.getD s.winner 0) s.times] at d1;lia
 have base:itN f (T.getD j 0).toNat y=go r y:=(W.fst _ _ _ A').last;have fin:∀ {m:Int},itN f (t' * T.getD s.winner 0).toNat (go r y)=m->itN f (due - T.getD j 0 - t' * T.getD s.winner 0).toNat m=itN f due.toNat y:=fun {m} hm=>by
  rw [<- hm,<- base,<- J1s,<- J1s]
  congr 1
  have:0<=t' * T.getD s.winner 0:=Int.mul_nonneg q0 (by lia);lia
 refine ⟨q0,q1,?_,⟨by lia,by lia⟩,?_⟩
 ·cases s with
  | home a=>cases own
  | under a b=>cases own
  | unders a t=>cases own
  | even a b =>
   have q1:t' < 1:=q1;obtain rfl:t'=0:=by lia
   rw [Int.zero_mul,Int.sub_zero];exact L.2.2.1
  | over a b =>
   have q1:t' < 1:=q1;obtain rfl:t'=0:=by lia
   rw [Int.zero_mul,Int.sub_zero];exact L.2.2.1
  | overs a t=>exact (L.2.1 t' q0 q1).2.1
 ·refine fin ?_;by_cases c0:t'=0
  ·subst c0;rw [Int.zero_mul,Int.zero_mul,Int.sub_zero];rfl
  ·cases s with
   | home a=>cases own
   | under a b=>cases own
   | unders a t=>cases own
   | even a b =>
    have q1:t' < 1:=q1;lia
   | over a b =>
    have q1:t' < 1:=q1;lia
   | overs a t =>
    obtain ⟨n,hn⟩:∃ n:Nat,t'=(n:Int) + 1:=⟨(t' - 1).toNat,by lia⟩;have q1:t' < t:=q1;have C:=J3i (f:=f) (r:=r) (N:=fun j=>(T.getD j 0).toNat) (lo:=min r.size ((Stp.overs a t).behind r).size) (Int.min_le_left _ _) W.fst (fun k k0 k1=>⟨Int.le_trans (Int.min_le_right _ _) (L.2.1 k k0 k1).1,(L.2.1 k k0 k1).2⟩) n (by lia);rw [<- hn] at C;have e:(n + 1) * (T.getD a 0).toNat=(t' * T.getD (Stp.overs a t).winner 0).toNat:=by
     show _=(t' * T.getD a 0).toNat;have pw:1<=T.getD a 0:=pw;rw [J5c (by lia) (by lia),show t'.toNat=n + 1 by lia]
    rw [<- e];exact C.last
theorem J5z {y o due:Int} {j:Nat} (h:r.Ok) (ne:r.top≠[]) (np:NextP r s) (okl:(s.behind r).Ok) (R:RetOf r s) (W:Twr f r T) (hh:s.isHome=false) (own:s.own=false) (A:LetAt (s.behind r) y j o) (c:j∈s.losers r) (d0:0<=due) (d1:due < T.getD j 0 + T.getD s.winner 0 * s.times) :
  (∃ o',LetAt r y s.winner o')/\∀ t':Int,1<=t'->t'<=s.times->t' * T.getD s.winner 0<=due->(t' < s.times->due < (t' + 1) * T.getD s.winner 0)->
   (∃ o',LetAt r (go r y + (t' - 1) * lenOf r.ls (s.losers r)) (if t'=s.times then j else s.winner) o')/\(0<=due - t' * T.getD s.winner 0/\due - t' * T.getD s.winner 0 < T.getD (if t'=s.times then j else s.winner) 0)/\
   itN f (due - t' * T.getD s.winner 0).toNat (go r y + (t' - 1) * lenOf r.ls (s.losers r))=itN f due.toNat y:=by
 have w:=np.win h ne;have pw:=W.pos _ w;have L:=R.lose y j o A c;have t1:=J2b np;have fin:∀ {t' m:Int},0<=t'->t' * T.getD s.winner 0<=due->itN f (t' * T.getD s.winner 0).toNat y=m->itN f (due - t' * T.getD s.winner 0).toNat m=itN f due.toNat y:=fun {t' m} q0 q1 hm=>by
  rw [<- hm,<- J1s]
  congr 1
  have:0<=t' * T.getD s.winner 0:=Int.mul_nonneg q0 (by lia);lia
 have bound:∀ {t':Int},(t' < s.times->due < (t' + 1) * T.getD s.winner 0)->t'<=s.times->due - t' * T.getD s.winner 0 < T.getD (if t'=s.times then j else s.winner) 0:=fun {t'} hlt hle=>by
  by_cases e:t'=s.times
  ·rw [if_pos e,e];rw [Int.mul_comm (T.getD s.winner 0) s.times] at d1;lia
  ·rw [if_neg e];have:=hlt (by lia);rw [Int.add_mul,Int.one_mul] at this;lia
 cases s with
 | home a=>cases hh
 | even a b=>cases own
 | over a b=>cases own
 | overs a t=>cases own
 | under a b =>
  obtain ⟨⟨o1,l1⟩,l2,l3,l4⟩:=L;refine ⟨⟨o1,l1⟩,fun t' h1 h2 h3 h4=>?_⟩;have h2':t'<=1:=h2;obtain rfl:t'=1:=by lia
  have ei:(1:Int)=(Stp.under a b).times:=rfl;refine ⟨?_,⟨by lia,bound h4 h2⟩,?_⟩
  ·rw [if_pos ei,Int.sub_self,Int.zero_mul,Int.add_zero];exact l3
  ·refine fin (by lia) h3 ?_;rw [Int.sub_self,Int.zero_mul,Int.add_zero,Int.one_mul];exact (W.fst _ _ _ l1).last
 | unders a t =>
  obtain ⟨L1,l2,l3⟩:=L;have t1:1<=t:=t1;have z0:=L1 0 (by lia) (by lia);rw [Int.zero_mul,Int.add_zero] at z0;refine ⟨z0.1,fun t' h1 h2 h3 h4=>?_⟩;have h2':t'<=t:=h2;show (∃ o',LetAt r (go r y + (t' - 1) * lenOf r.ls (J2 r.top a)) _ o')/\_/\itN f _ (go r y + (t' - 1) * lenOf r.ls (J2 r.top a))=_;have ey:go r y + (t' - 1) * lenOf r.ls (J2 r.top a)=y + t' * lenOf r.ls (J2 r.top a):=by
   rw [z0.2.1,Int.sub_mul,Int.one_mul];lia
  rw [ey];refine ⟨?_,⟨by lia,bound h4 h2⟩,?_⟩
  ·by_cases e:t'=t
   ·rw [if_pos (show t'=(Stp.unders a t).times from e),e];exact l2
   ·rw [if_neg (show ¬ t'=(Stp.unders a t).times from e)];exact (L1 t' (by lia) (by lia)).1
  ·refine fin (by lia) h3 ?_;obtain ⟨n,hn⟩:∃ n:Nat,t'=(n:Int) + 1:=⟨(t' - 1).toNat,by lia⟩;have C:=J69 (f:=f) (r:=r) (w:=a) (N:=fun j=>(T.getD j 0).toNat) (lo:=min r.size ((Stp.unders a t).behind r).size) (Int.min_le_left _ _) W.fst (fun k k0 k1=>⟨(L1 k k0 k1).1,(L1 k k0 k1).2.1,Int.le_trans (Int.min_le_right _ _) (L1 k k0 k1).2.2⟩) n (by lia);rw [<- hn] at C;have e:(n + 1) * (T.getD a 0).toNat=(t' * T.getD (Stp.unders a t).winner 0).toNat:=by
    show _=(t' * T.getD a 0).toNat;have pw:1<=T.getD a 0:=pw;rw [J5c (by lia) (by lia),show t'.toNat=n + 1 by lia]
   rw [<- e];exact C.last
end
end Rl
namespace Rl
theorem idx_of {ns:List Int} (nd:ns.Nodup) {b:Nat} (hb:b < ns.length) {v:Int} (e:ns[b]=v):ns.idxOf v=b:=by
 have h1:v∈ns:=e ▸ List.getElem_mem hb;have h2:ns.idxOf v < ns.length:=idxOf_lt_length_iff.mpr h1;have h3:ns[ns.idxOf v]=v:=getElem_idxOf h2;exact (getElem_inj nd).mp (h3.trans e.symm)
abbrev J4c (bs:List Band):List Int:=(List.range bs.length).map fun i=>(bs.getD i bz0).1
theorem Sys.starts {f:Int->Int} {N:Int} {bs:List Band} (S:Sys f N bs) {b:Nat} (hb:b < bs.length):(bs.getD b bz0).1∈J4c bs/\(J4c bs).idxOf (bs.getD b bz0).1=b:=by
 have nd:(J4c bs).Nodup:=by
  refine pairwise_map.mpr (List.pairwise_lt_range.imp_of_mem fun {i j} hi hj h e=>?_);have hi:=mem_range.mp hi;have hj:=mem_range.mp hj;have ap:=S.apart hi hj h;have w:=(S.bnd _ (J6a hj)).1;lia
 have hl:b < (J4c bs).length:=by rw [length_map,length_range];exact hb
 have e:(J4c bs)[b]=(bs.getD b bz0).1:=by rw [getElem_map,List.getElem_range]
 exact ⟨e ▸ List.getElem_mem hl,idx_of nd hl e⟩
theorem home_band {p:Cst} {m k:Nat} (hk:k < m) (hh:(nextN (chN p k).1).isHome=true):∃ b,b < (bndN p m).length/\(bndN p m).getD b bz0=bandC (chN p k):=by
 induction m with
 | zero=>lia
 | succ m ih =>
  have e:bndN p (m + 1)=bndN p m ++ bndB (chN p m):=rfl;by_cases c:k=m
  ·subst c;have e2:bndB (chN p k)=[bandC (chN p k)]:=by unfold bndB;rw [if_pos hh];rfl
   refine ⟨(bndN p k).length,by rw [e,e2,length_append];show _ < _ + 1;lia,?_⟩;rw [e,e2,getD_eq_getElem?_getD,List.getElem?_append_right (Nat.le_refl _),Nat.sub_self];rfl
  ·obtain ⟨b,hb,eb⟩:=ih (by lia);refine ⟨b,by rw [e,length_append];lia,?_⟩;rw [e,getD_eq_getElem?_getD,List.getElem?_append_left hb,<- eb,getD_eq_getElem?_getD]
structure StepF (f:Int->Int) (r:Rst) (T:List Int) (s:Stp):Prop where
 ok:r.Ok
 ne:r.top≠[]
 np:NextP r s
 okl:(s.behind r).Ok
 down:Down r s
 ret:RetOf r s
 twr:Twr f r T
 len:T.length=r.ls.length
 sz:r.size<=10 ^ 30
 big:∀ j∈r.top,T.getD j 0<=10 ^ 30
theorem Cok.stepF {p:Cst} (h:Cok p) (one:∀ j∈p.1.top,p.2.getD j 0=1) {m:Nat} (l:Long p m) {k:Nat} (hk:k < m):StepF (go p.1) (chN p k).1 (chN p k).2 (nextN (chN p k).1):=by
 have l':Long p k:=fun i hi=>l i (by lia);have c:=h.at_ l';have ne:=l k hk;have np:=nextP c.ok ne;exact ⟨c.ok,ne,np,c.ok.next ne,c.ok.down ne,ret_of c.ok ne np (c.ok.next ne),h.twr one l',c.tow.len,c.size30,fun j hj=>c.tow.le c.ok hj⟩
theorem StepF.tms {f:Int->Int} {r:Rst} {T:List Int} {s:Stp} (F:StepF f r T s):1<=s.times/\s.times<=10 ^ 30:=by
 have h1:=J2b F.np;have h2:=F.np.times F.ok F.ne F.sz;lia
theorem StepF.spn {f:Int->Int} {r:Rst} {T:List Int} {s:Stp} (F:StepF f r T s) (hh:s.isHome=false):1<=lenOf r.ls (s.losers r)/\lenOf r.ls (s.losers r)<=10 ^ 30/\(r.size - (s.behind r).size) / s.times=lenOf r.ls (s.losers r):=by
 have h1:=J4m F.ok F.ne F.np hh;have h2:=J7o F.ok (NextP.losers_nd F.ok (s:=s)) (F.np.losers_lt F.ok F.ne).1;have:=F.sz;exact ⟨h1,by lia,(share_of F.down F.np hh).1⟩
theorem StepF.win {f:Int->Int} {r:Rst} {T:List Int} {s:Stp} (F:StepF f r T s):s.winner∈r.top/\1<=T.getD s.winner 0/\T.getD s.winner 0<=10 ^ 30:=by
 have w:=F.np.win F.ok F.ne;exact ⟨w,F.twr.pos _ w,F.big _ w⟩
end Rl
namespace Rl
def offA (b:Band) (q o:Int):Int:=if q % 2=1 then flipB b o else o
theorem offA_in {b:Band} {q o:Int} (h0:0<=o) (h1:o < b.2.1):0<=offA b q o/\offA b q o < b.2.1:=by
 unfold offA;split
 ·exact J3u h0 h1
 ·exact ⟨h0,h1⟩
theorem Bnd.round {f:Int->Int} {b:Band} (B:Bnd f b) {o:Int} (h0:0<=o) (h1:o < b.2.1):∀ n:Nat,itN f (n * b.2.2.1.toNat) (b.1 + o)=b.1 + offA b (n:Int) o
 | 0=>by rw [Nat.zero_mul];rfl
 | n + 1=>by
  rw [Nat.succ_mul,J1s,B.round h0 h1 n];have i:=offA_in (b:=b) (q:=(n:Int)) h0 h1;rw [B.back i.1 i.2]
  congr 1
  unfold offA;have e:(((n + 1:Nat):Int)) % 2=1↔¬ (n:Int) % 2=1:=by lia
  by_cases c:(n:Int) % 2=1
  ·rw [if_pos c,if_neg (fun h=>e.mp h c),flipB_two]
  ·rw [if_neg c,if_pos (e.mpr c)]
section
variable {f:Int->Int} {N:Int} {bs:List Band}
theorem Sys.go_on (S:Sys f N bs) {b:Nat} {o lv:Int} (A:Adr bs b o lv) {g:Int} (hg:0<=g) :
  Adr bs b (offA (bs.getD b bz0) ((lv + g) / (bs.getD b bz0).2.2.1) o) ((lv + g) % (bs.getD b bz0).2.2.1)/\itN f g.toNat (plOf f bs b o lv)=plOf f bs b (offA (bs.getD b bz0) ((lv + g) / (bs.getD b bz0).2.2.1) o) ((lv + g) % (bs.getD b bz0).2.2.1):=by
 have B:=S.bnd _ (J6a A.hb);have h1:=B.2.1;have a0:=A.o0;have a1:=A.o1;have a2:=A.l0;have a3:=A.l1;have i:=offA_in (b:=bs.getD b bz0) (q:=(lv + g) / (bs.getD b bz0).2.2.1) a0 a1;have m0:=Int.emod_nonneg (lv + g) (show (bs.getD b bz0).2.2.1≠0 by lia);have m1:=Int.emod_lt_of_pos (lv + g) (show 0 < (bs.getD b bz0).2.2.1 by lia);refine ⟨⟨A.hb,i.1,i.2,m0,m1⟩,?_⟩;unfold plOf;generalize bs.getD b bz0=c at *;have q0:0<=(lv + g) / c.2.2.1:=Int.ediv_nonneg (by lia) (by lia);have dm:=Int.mul_ediv_add_emod (lv + g) c.2.2.1;obtain ⟨q,hq⟩:∃ q:Nat,(lv + g) / c.2.2.1=q:=⟨((lv + g) / c.2.2.1).toNat,by lia⟩;rw [hq] at dm ⊢;rw [<- J1s];have e:lv.toNat + g.toNat=q * c.2.2.1.toNat + ((lv + g) % c.2.2.1).toNat:=by
  have e1:((q * c.2.2.1.toNat:Nat):Int)=c.2.2.1 * (q:Int):=by
   rw [Int.natCast_mul,show ((c.2.2.1.toNat:Nat):Int)=c.2.2.1 by lia,Int.mul_comm]
  lia
 rw [e,J1s,B.round a0 a1 q]
theorem Sys.go_back (S:Sys f N bs) {b:Nat} {o lv:Int} (A:Adr bs b o lv) {g:Int} (hg:g<=0) :
  Adr bs b (offA (bs.getD b bz0) ((lv + g) / (bs.getD b bz0).2.2.1) o) ((lv + g) % (bs.getD b bz0).2.2.1)/\itN f (-g).toNat (plOf f bs b (offA (bs.getD b bz0) ((lv + g) / (bs.getD b bz0).2.2.1) o) ((lv + g) % (bs.getD b bz0).2.2.1))=plOf f bs b o lv:=by
 have B:=S.bnd _ (J6a A.hb);have h1:=B.2.1;have a0:=A.o0;have a1:=A.o1;have a2:=A.l0;have a3:=A.l1;have i:=offA_in (b:=bs.getD b bz0) (q:=(lv + g) / (bs.getD b bz0).2.2.1) a0 a1;have m0:=Int.emod_nonneg (lv + g) (show (bs.getD b bz0).2.2.1≠0 by lia);have m1:=Int.emod_lt_of_pos (lv + g) (show 0 < (bs.getD b bz0).2.2.1 by lia);refine ⟨⟨A.hb,i.1,i.2,m0,m1⟩,?_⟩;unfold plOf;generalize bs.getD b bz0=c at *;have dm:=Int.mul_ediv_add_emod (lv + g) c.2.2.1;have q0:(lv + g) / c.2.2.1<=0:=by
  apply Classical.byContradiction;intro k;have:c.2.2.1 * 1<=c.2.2.1 * ((lv + g) / c.2.2.1):=Int.mul_le_mul_of_nonneg_left (by lia) (by lia);lia
 obtain ⟨q,hq⟩:∃ q:Nat,(lv + g) / c.2.2.1=-(q:Int):=⟨(-((lv + g) / c.2.2.1)).toNat,by lia⟩;rw [hq] at dm i ⊢;rw [<- J1s];have e:((lv + g) % c.2.2.1).toNat + (-g).toNat=q * c.2.2.1.toNat + lv.toNat:=by
  have e1:((q * c.2.2.1.toNat:Nat):Int)=c.2.2.1 * (q:Int):=by
   rw [Int.natCast_mul,show ((c.2.2.1.toNat:Nat):Int)=c.2.2.1 by lia,Int.mul_comm]
  rw [Int.mul_neg] at dm;lia
 rw [e,J1s,B.round i.1 i.2 q]
 congr 2
 unfold offA;by_cases k:(q:Int) % 2=1
 ·rw [if_pos k,if_pos (show (-(q:Int)) % 2=1 by lia),flipB_two]
 ·rw [if_neg k,if_neg (show ¬ (-(q:Int)) % 2=1 by lia)]
end
end Rl
namespace Rl
theorem high_sum {f:Int->Int}:∀ {bs:List Band},(∀ b∈bs,Bnd f b)->∀ b∈bs,b.2.1 * b.2.2.1<=(bs.map fun b=>b.2.1 * b.2.2.1).sum
 | c :: bs,h,b,hb=>by
  have nn:∀ d∈c :: bs,0<=d.2.1 * d.2.2.1:=fun d hd=>Int.mul_nonneg (by have:=(h d hd).1;lia) (by have:=(h d hd).2.1;lia);have ns:0<=(bs.map fun b=>b.2.1 * b.2.2.1).sum:=by
   clear hb;have h2:∀ d∈bs,0<=d.2.1 * d.2.2.1:=fun d hd=>nn d (mem_cons_of_mem _ hd);clear nn h
   induction bs with
   | nil=>exact Int.le_refl _
   | cons d bs ih =>
    rw [map_cons,sum_cons];have:=h2 d mem_cons_self;have:=ih fun e he=>h2 e (mem_cons_of_mem _ he);lia
  rw [map_cons,sum_cons];rcases mem_cons.mp hb with rfl | hb
  ·lia
  ·have:=high_sum (bs:=bs) (fun d hd=>h d (mem_cons_of_mem _ hd)) b hb;have:=nn c mem_cons_self;lia
theorem Sys.high {f:Int->Int} {N:Int} {bs:List Band} (S:Sys f N bs) {b:Nat} (hb:b < bs.length):1<=(bs.getD b bz0).2.2.1/\(bs.getD b bz0).2.2.1<=N:=by
 have B:=S.bnd _ (J6a hb);have h:=high_sum S.bnd _ (J6a hb);rw [S.sum] at h;have w:=B.1;have h1:=B.2.1;have:1 * (bs.getD b bz0).2.2.1<=(bs.getD b bz0).2.1 * (bs.getD b bz0).2.2.1:=Int.mul_le_mul_of_nonneg_right w (by lia);exact ⟨h1,by lia⟩
end Rl
namespace Rl
end Rl
namespace L2
open PySem PyProof.Rows
theorem down_size {a:Int} (ha:-1<=a):Builtin.Range.rangeSize a (-1) (-1)=a + 1:=by
 unfold Builtin.Range.rangeSize;rw [if_neg (by decide)];split
 ·rw [show (-(-1:Int))=1 by decide,Int.ediv_one];lia
 ·lia
theorem down_small {a:Int} (ha:-1<=a) (ha':a < 2 ^ 24):Builtin.Range.small a (-1) (-1)=true:=by
 unfold Builtin.Range.small;rw [down_size ha];simp only [Builtin.Range.rangeFitsLong,Bool.and_eq_true,Bool.or_eq_true,decide_eq_true_eq,beq_iff_eq];refine ⟨?_,?_⟩ <;> simp <;> lia
def iDown (ta:TA):TI:=fun σ H R=>ta σ H fun vs H1=>∃ a:Int,vs=[.int a,.int (-1),.int (-1)]/\(-1<=a/\a < 2 ^ 24)/\R (Its a (-1) (a + 1).toNat) H1
section
variable {X:Cx} {tg:Expr}
theorem pi_down {a b c:Expr} {ta:TA} {p pos:Pos} (hg:Gl X "range") (hm:X.mg "range"=none) (ha:PA X [a,b,c] ta) (hs:starEach [a,b,c] X.env=[(false,eval a X.env),(false,eval b X.env),(false,eval c X.env)]:=by rfl) (hs2:starEach [b,c] X.env=[(false,eval b X.env),(false,eval c X.env)]:=by rfl) :
  PI X tg (.Call (.Name "range" p) [a,b,c] [] pos) (iDown ta):=by
 intro pins s σ H R I h;refine Call_ (J7q I hg hm boot_range (callWith_type1 (thn (ha pos pins s σ H _ I h) fun us s1 h9=>?_) (by rw [hs,hs2]) (by rw [hs2];rfl)));obtain ⟨vs,H1,I1,r1,q1⟩:=h9;obtain ⟨i,e,⟨q1,q2⟩,q⟩:=q1;subst e
 cases r1 with
 | cons r rr =>
  cases rr with
  | cons r' rr =>
   cases rr with
   | cons r'' rr =>
    cases rr;obtain ⟨t,rfl⟩:=r;obtain ⟨t',rfl⟩:=r';obtain ⟨t'',rfl⟩:=r'';refine call_range_3 (by decide) ?_ (Or.inl (PyProof.noPylong_small (by decide)));have I2:Inv X pins σ H1 { s1 with heap:=s1.heap.push { cls:=.type "range",data:=.fields #[.int i t,.int (-1) t',.int (-1) t''] },toks:=s1.toks }:=I1.kept fun b o e=>get?_push_of_some _ e;refine wpAny_pyIter_range (IsRange.new ..) (down_small q1 q2) ?_;refine ⟨(s1.heap.push { cls:=.type "range",data:=.fields #[.int i t,.int (-1) t',.int (-1) t''] }).objs.size,[(s1.heap.push { cls:=.type "range",data:=.fields #[.int i t,.int (-1) t',.int (-1) t''] }).objs.size],_,_,H1,rfl,
     I2.kept (t':=s1.toks) fun b o e=>get?_push_of_some _ e,J6f _ i (-1) (i + 1).toNat,?_,fun b hb=>?_,q⟩
    ·have e1:i + ((0:Nat):Int) * (-1)=i:=by simp
     have e2:(((i + 1).toNat:Nat):Int) - ((0:Nat):Int)=Builtin.Range.rangeSize i (-1) (-1):=by
      rw [down_size q1];lia
     show IsRangeIter _ _ (i + ((0:Nat):Int) * (-1)) ((((i + 1).toNat:Nat):Int) - ((0:Nat):Int)) (-1);rw [e1,e2];exact get?_push_size _ rfl
    ·obtain rfl:b=(s1.heap.push { cls:=.type "range",data:=.fields #[.int i t,.int (-1) t',.int (-1) t''] }).objs.size:=by simpa using hb
     exact I2.fpOk (Nat.le_refl _) (I2.hok.fresh (Nat.le_refl _))
end
theorem for_its {lo c:Int} {n:Nat} {g:TG} {tb:TS} {D:Ends} {σ:St} {H:Hp} (Pv:Nat->St->Hp->Prop) (h0:Pv 0 σ H)
  (hs:∀ (i:Nat) σ H,i < n->Pv i σ H->g (.int (lo + (i:Nat) * c)) σ H fun σ2 H2=>tb { D with nx:=Pv (i + 1),ct:=Pv (i + 1),bk:=D.nx } σ2 H2) (hd:∀ σ H,Pv n σ H->D.nx σ H) :
  ∃ W:Nat->Nat->St->Hp->Prop,(∃ m,W 0 m σ H)/\∀ i m σ H,W i m σ H->
   ((Its lo c n).stop i H/\D.nx σ H)\/((Its lo c n).go i H/\∃ N:St->Hp->Prop,(∀ σ' H',N σ' H'->∃ m',m' < m/\W (i + 1) m' σ' H')/\∀ x H',(Its lo c n).yld i H x H'->g x σ H' fun σ2 H2=>tb { D with nx:=N,ct:=N,bk:=D.nx } σ2 H2):=by
 refine ⟨fun i m σ H=>m=n - i/\i<=n/\Pv i σ H,⟨_,rfl,Nat.zero_le _,h0⟩,?_⟩;rintro i m σ H ⟨rfl,hi,p⟩;by_cases hlt:i < n
 ·refine .inr ⟨hlt,Pv (i + 1),fun σ' H' p'=>⟨_,by lia,rfl,hlt,p'⟩,fun x H' y=>?_⟩;obtain ⟨e,y⟩:=y;subst e y;exact hs i σ _ hlt p
 ·obtain rfl:i=n:=by lia
  exact .inl ⟨Nat.le_refl _,hd σ H p⟩
theorem lc_tupW {K:Frag} {a:Addr} {H1:Hp} {te:TE} {σ:St} {js:List Nat} {Q:VK} {d:Addr} (xs:List V) (F:Nat->V) (hx:SqT K H1 a xs) (hn:xs.length<=sizeLine) (hd:H1 d=none)
  (he:∀ (i:Nat) (H:Hp) (Qe:VK) (v:V),xs[i]?=some v->Same H1 H->(∀ H',Same H H'->Qe (F i) H')->te (some v :: capv σ js) H Qe)
  (hq:∀ H',Same H1 H'->H' d=some (.lst ((List.range xs.length).map F))->Q (.ref d) H'):LCW (Itt K a) tYes te σ js Q H1 d:=by
 have s0:∀ o,Same H1 (upd H1 d o):=fun o b u e=>by rw [Jg (Jd e hd)];exact e
 refine ⟨fun i m ys H=>m=xs.length - i/\i<=xs.length/\ys=(List.range i).map F/\Same H1 H/\H d=some (.lst ys),⟨xs.length,rfl,Nat.zero_le _,rfl,s0 _,J3⟩,?_⟩;rintro i m ys H2 ⟨rfl,hi,rfl,sm,h2⟩;refine ⟨h2,?_⟩;by_cases hlt:i < xs.length
 ·refine .inr ⟨⟨_,_,sm.tup hx,List.getElem?_eq_getElem hlt⟩,?_,fun v H3 y3=>?_⟩
  ·rw [length_map,length_range];lia
  ·obtain ⟨rfl,hv⟩:=y3;have hv:=hv _ (sm.tup hx);unfold tYes;dsimp only;rw [if_pos rfl];refine he i H3 _ v hv sm fun H5 s5=>⟨s5 _ _ h2,xs.length - (i + 1),by lia,rfl,hlt,?_,?_,J3⟩
   ·rw [range_succ,map_append];rfl
   ·intro b u e;rw [Jg (Jd e hd)];exact s5 _ _ (sm _ _ e)
 ·have e:i=xs.length:=by lia
  subst e;exact .inl ⟨⟨_,sm.tup hx,Nat.le_refl _⟩,hq H2 sm h2⟩
end L2
namespace L2
open PySem PyProof.Rows
theorem J78 {a b c:Int} (ha:0<=a) (ha':a<=1000) (hb:-1000<=b) (hb':b<=1000) (hc:0 < c) (hc':c<=1000):Builtin.Range.small a b c=true:=by
 unfold Builtin.Range.small;rw [J4b hc];have h1:0<=(if a < b then (b - a - 1) / c + 1 else 0)/\(if a < b then (b - a - 1) / c + 1 else 0)<=1001:=by
  split
  ·have h0:0<=(b - a - 1) / c:=Int.ediv_nonneg (by lia) (by lia);have h2:(b - a - 1) / c<=b - a - 1:=Int.ediv_le_self _ (by lia);lia
  ·lia
 generalize (if a < b then (b - a - 1) / c + 1 else 0)=n at *;have h3:n * c<=1001 * 1000:=Int.mul_le_mul h1.2 hc' (by lia) (by decide);have h4:0<=n * c:=Int.mul_nonneg h1.1 (by lia);simp only [Builtin.Range.rangeFitsLong,Bool.and_eq_true,Bool.or_eq_true,decide_eq_true_eq,beq_iff_eq,show c > 0 from hc,if_true];refine ⟨?_,?_⟩ <;> lia
def iSteps2 (ta:TA):TI:=fun σ H R=>ta σ H fun vs H1=>∃ a b c:Int,vs=[.int a,.int b,.int c]/\(0<=a/\a<=1000/\-1000<=b/\b<=1000/\0 < c/\c<=1000)/\R (Its a c (Builtin.Range.rangeSize a b c).toNat) H1
section
variable {X:Cx} {tg:Expr}
theorem pi_steps2 {a b c:Expr} {ta:TA} {p pos:Pos} (hg:Gl X "range") (hm:X.mg "range"=none) (ha:PA X [a,b,c] ta) (hs:starEach [a,b,c] X.env=[(false,eval a X.env),(false,eval b X.env),(false,eval c X.env)]:=by rfl) (hs2:starEach [b,c] X.env=[(false,eval b X.env),(false,eval c X.env)]:=by rfl) :
  PI X tg (.Call (.Name "range" p) [a,b,c] [] pos) (iSteps2 ta):=by
 intro pins s σ H R I h;refine Call_ (J7q I hg hm boot_range (callWith_type1 (thn (ha pos pins s σ H _ I h) fun us s1 h9=>?_) (by rw [hs,hs2]) (by rw [hs2];rfl)));obtain ⟨vs,H1,I1,r1,q1⟩:=h9;obtain ⟨i,j,c,e,⟨q1,q2,q3,q4,q5,q6⟩,q⟩:=q1;subst e
 cases r1 with
 | cons r rr =>
  cases rr with
  | cons r' rr =>
   cases rr with
   | cons r'' rr =>
    cases rr;obtain ⟨t,rfl⟩:=r;obtain ⟨t',rfl⟩:=r';obtain ⟨t'',rfl⟩:=r'';refine call_range_3 (by lia) ?_ (Or.inl (PyProof.noPylong_small (by lia)));have I2:Inv X pins σ H1 { s1 with heap:=s1.heap.push { cls:=.type "range",data:=.fields #[.int i t,.int j t',.int c t''] },toks:=s1.toks }:=I1.kept fun b o e=>get?_push_of_some _ e;refine wpAny_pyIter_range (IsRange.new ..) (J78 q1 q2 q3 q4 q5 q6) ?_;refine ⟨(s1.heap.push { cls:=.type "range",data:=.fields #[.int i t,.int j t',.int c t''] }).objs.size,[(s1.heap.push { cls:=.type "range",data:=.fields #[.int i t,.int j t',.int c t''] }).objs.size],_,_,H1,rfl,
     I2.kept (t':=s1.toks) fun b o e=>get?_push_of_some _ e,J6f _ i c (Builtin.Range.rangeSize i j c).toNat,?_,fun b hb=>?_,q⟩
    ·have e1:i + ((0:Nat):Int) * c=i:=by simp
     have e2:(((Builtin.Range.rangeSize i j c).toNat:Nat):Int) - ((0:Nat):Int)=Builtin.Range.rangeSize i j c:=by
      have:0<=Builtin.Range.rangeSize i j c:=by
       rw [J4b q5];split
       ·have:=Int.ediv_nonneg (show 0<=j - i - 1 by lia) (show 0<=c by lia);lia
       ·lia
      lia
     show IsRangeIter _ _ (i + ((0:Nat):Int) * c) ((((Builtin.Range.rangeSize i j c).toNat:Nat):Int) - ((0:Nat):Int)) c;rw [e1,e2];exact get?_push_size _ rfl
    ·obtain rfl:b=(s1.heap.push { cls:=.type "range",data:=.fields #[.int i t,.int j t',.int c t''] }).objs.size:=by simpa using hb
     exact I2.fpOk (Nat.le_refl _) (I2.hok.fresh (Nat.le_refl _))
end
theorem its_lt {a b c:Int} (hc:0 < c) {i:Nat} (hi:i < (Builtin.Range.rangeSize a b c).toNat):a + (i:Int) * c < b:=by
 rw [J4b hc] at hi;split at hi
 ·have h1:=Int.ediv_mul_le (b - a - 1) (show c≠0 by lia);have h2:(i:Int) * c<=(b - a - 1) / c * c:=Int.mul_le_mul_of_nonneg_right (by lia) (by lia);lia
 ·lia
end L2
namespace Rl
end Rl
namespace Rl
end Rl
namespace Rl
end Rl
namespace L2
open PySem PySem.Spec PyProof.Rows
end L2
namespace Rl
def vis (f:Int->Int) (pc:Int->Nat) (p:Nat):Nat->Int->Int
 | 0,_=>0
 | n + 1,y=>vis f pc p n y + (if pc (itN f n y)=p then 1 else 0)
section
variable {f:Int->Int} {pc:Int->Nat} {p:Nat}
theorem J45 (n:Nat) (y:Int):∀ m,vis f pc p (n + m) y=vis f pc p n y + vis f pc p m (itN f n y)
 | 0=>by show vis f pc p n y=_;unfold vis;lia
 | m + 1=>by
  show vis f pc p (n + m) y + (if pc (itN f (n + m) y)=p then 1 else 0)=vis f pc p n y + (vis f pc p m (itN f n y) + (if pc (itN f m (itN f n y))=p then 1 else 0));rw [J45 n y m,J1s];lia
theorem vis_0 (n:Nat) (y:Int):0<=vis f pc p n y:=by
 induction n with
 | zero=>exact Int.le_refl _
 | succ n ih =>
  show 0<=vis f pc p n y + (if pc (itN f n y)=p then 1 else 0);split <;> lia
theorem vis_one (y:Int):vis f pc p 1 y=if pc y=p then 1 else 0:=by
 show vis f pc p 0 y + (if pc y=p then 1 else 0)=_;show (0:Int) + _=_;lia
end
def Uni (f:Int->Int) (pc:Int->Nat) (r:Rst) (T:List Int):Prop:=∀ (p j:Nat) (y o y' o':Int) (n:Nat),LetAt r y j o->LetAt r y' j o'->(n:Int)<=T.getD j 0->vis f pc p n y=vis f pc p n y'
def Vv (f:Int->Int) (pc:Int->Nat) (r:Rst) (T:List Int) (p j:Nat):Int:=vis f pc p (T.getD j 0).toNat (posR r.ls r.top j)
theorem J3g {r:Rst} (h:r.Ok) {j:Nat} (hj:j∈r.top):LetAt r (posR r.ls r.top j) j 0:=⟨hj,by lia,by have:=h.row.pos j hj;lia,by lia⟩
section
variable {f:Int->Int} {pc:Int->Nat} {r:Rst} {s:Stp} {T:List Int}
theorem Uni.all (U:Uni f pc r T) (h:r.Ok) {j:Nat} {y o:Int} (A:LetAt r y j o) (hT:0<=T.getD j 0) (p:Nat):vis f pc p (T.getD j 0).toNat y=Vv f pc r T p j :=
 U p j y o _ 0 _ A (J3g h A.1) (by lia)
theorem Uni.chain (U:Uni f pc r T) (h:r.Ok) {w:Nat} (hT:0<=T.getD w 0) {y:Int} {a:Nat} (p:Nat):∀ t:Nat,(∀ i:Nat,i < t->∃ o,LetAt r (itN f (a + i * (T.getD w 0).toNat) y) w o)->
  vis f pc p (a + t * (T.getD w 0).toNat) y=vis f pc p a y + (t:Int) * Vv f pc r T p w
 | 0,_=>by rw [Nat.zero_mul,Nat.add_zero];simp
 | t + 1,c=>by
  obtain ⟨o,A⟩:=c t (by lia);have e:a + (t + 1) * (T.getD w 0).toNat=(a + t * (T.getD w 0).toNat) + (T.getD w 0).toNat:=by rw [Nat.add_mul,Nat.one_mul];lia
  rw [e,J45,Uni.chain U h hT p t (fun i hi=>c i (by lia)),U.all h A hT,show ((t + 1:Nat):Int) * Vv f pc r T p w=(t:Int) * Vv f pc r T p w + Vv f pc r T p w by rw [show ((t + 1:Nat):Int)=(t:Int) + 1 by lia,Int.add_mul,Int.one_mul]];lia
variable {y o:Int} {j:Nat}
theorem J38 (F:StepF f r T s) (own:s.own=true) (A:LetAt (s.behind r) y j o) (c:j∈s.losers r) :
  (∃ o',LetAt r y j o')/\∀ t:Nat,(t:Int) < s.times->∃ o',LetAt r (itN f ((T.getD j 0).toNat + t * (T.getD s.winner 0).toNat) y) s.winner o':=by
 have w2:=F.win.2.1;have t1:=F.tms.1;have pj:(∃ o',LetAt r y j o'):=(J4n F.ok F.ne F.np F.okl F.ret F.twr own A c (due:=0) (by lia) (by
  have jp:=(F.twr.pos j (F.down.sub j A.1));have:=Int.mul_nonneg (show 0<=T.getD s.winner 0 by lia) (show 0<=s.times by lia);lia)).1
 refine ⟨pj,fun t ht=>?_⟩;obtain ⟨o0,A0⟩:=pj;have jp:=F.twr.pos j A0.1;have m1:(t:Int) * T.getD s.winner 0 < T.getD s.winner 0 * s.times:=by
  rw [Int.mul_comm];exact Int.mul_lt_mul_of_pos_left ht (by lia)
 have m0:0<=(t:Int) * T.getD s.winner 0:=Int.mul_nonneg (by lia) (by lia);obtain ⟨_,up⟩:=J4n F.ok F.ne F.np F.okl F.ret F.twr own A c (due:=T.getD j 0 + (t:Int) * T.getD s.winner 0) (by lia) (by lia);obtain ⟨_,_,⟨o',B⟩,_,e⟩:=up (by lia) (t:Int) (by rw [show T.getD j 0 + (t:Int) * T.getD s.winner 0 - T.getD j 0=(t:Int) * T.getD s.winner 0 by lia,Int.mul_ediv_cancel _ (by lia)]);rw [show T.getD j 0 + (t:Int) * T.getD s.winner 0 - T.getD j 0 - (t:Int) * T.getD s.winner 0=0 by lia] at e;have e:go r y - (t:Int) * lenOf r.ls (s.losers r)=itN f (T.getD j 0 + (t:Int) * T.getD s.winner 0).toNat y:=e;rw [e,add_nat (by lia) m0,J5c (by lia) (by lia),Int.toNat_natCast] at B;exact ⟨o',B⟩
theorem J44 (F:StepF f r T s) (hh:s.isHome=false) (own:s.own=false) (A:LetAt (s.behind r) y j o) (c:j∈s.losers r) :
  (∀ t:Nat,(t:Int) < s.times->∃ o',LetAt r (itN f (t * (T.getD s.winner 0).toNat) y) s.winner o')/\∃ o',LetAt r (itN f (s.times.toNat * (T.getD s.winner 0).toNat) y) j o':=by
 have w2:=F.win.2.1;have t1:=F.tms.1;have jp:=F.twr.pos j (F.down.sub j A.1);have go1:∀ t:Nat,1<=t->(t:Int)<=s.times->∃ o',LetAt r (itN f (t * (T.getD s.winner 0).toNat) y) (if (t:Int)=s.times then j else s.winner) o':=fun t h1 h2=>by
  have m0:0<=(t:Int) * T.getD s.winner 0:=Int.mul_nonneg (by lia) (by lia);have m1:(t:Int) * T.getD s.winner 0<=T.getD s.winner 0 * s.times:=by
   rw [Int.mul_comm];exact Int.mul_le_mul_of_nonneg_left h2 (by lia)
  obtain ⟨_,up⟩:=J5z F.ok F.ne F.np F.okl F.ret F.twr hh own A c (due:=(t:Int) * T.getD s.winner 0) m0 (by lia);obtain ⟨⟨o',B⟩,_,e⟩:=up (t:Int) (by lia) h2 (Int.le_refl _) (fun _=>by rw [Int.add_mul,Int.one_mul];lia);rw [show (t:Int) * T.getD s.winner 0 - (t:Int) * T.getD s.winner 0=0 by lia] at e;have e:go r y + ((t:Int) - 1) * lenOf r.ls (s.losers r)=itN f ((t:Int) * T.getD s.winner 0).toNat y:=e;rw [e,J5c (by lia) (by lia),Int.toNat_natCast] at B;exact ⟨o',B⟩
 have m2:=Int.mul_nonneg (show 0<=T.getD s.winner 0 by lia) (show 0<=s.times by lia);refine ⟨fun t ht=>?_,?_⟩
 ·by_cases c0:t=0
  ·subst c0;rw [Nat.zero_mul];exact (J5z F.ok F.ne F.np F.okl F.ret F.twr hh own A c (due:=0) (by lia) (by lia)).1
  ·obtain ⟨o',B⟩:=go1 t (by lia) (by lia);rw [if_neg (by lia)] at B;exact ⟨o',B⟩
 ·obtain ⟨o',B⟩:=go1 s.times.toNat (by lia) (by lia);rw [if_pos (by lia)] at B;exact ⟨o',B⟩
theorem times_nat (F:StepF f r T s):(s.times.toNat:Int)=s.times:=by have:=F.tms.1;lia
theorem J3e (F:StepF f r T s) (U:Uni f pc r T) (own:s.own=true) (A:LetAt (s.behind r) y j o) (c:j∈s.losers r) {n:Nat} (h0:T.getD j 0<=n) (h1:(n:Int)<=T.getD j 0 + T.getD s.winner 0 * s.times) :
  ∃ t d:Nat,(n:Int)=T.getD j 0 + (t:Int) * T.getD s.winner 0 + d/\(d:Int) < T.getD s.winner 0/\(t:Int)<=s.times/\((t:Int)=s.times->d=0)/\∀ p,vis f pc p n y=Vv f pc r T p j + (t:Int) * Vv f pc r T p s.winner + vis f pc p d (itN f ((T.getD j 0).toNat + t * (T.getD s.winner 0).toNat) y):=by
 obtain ⟨⟨o0,A0⟩,wf⟩:=J38 F own A c;have w2:=F.win.2.1;have t1:=F.tms.1;have jp:=F.twr.pos j A0.1;generalize hW:T.getD s.winner 0=W at *;generalize hJ:T.getD j 0=J at *;obtain ⟨q,hq⟩:∃ q:Nat,(q:Int)=((n:Int) - J) / W:=⟨(((n:Int) - J) / W).toNat,by have:=Int.ediv_nonneg (show 0<=(n:Int) - J by lia) (show 0<=W by lia);lia⟩;obtain ⟨d,hd⟩:∃ d:Nat,(d:Int)=((n:Int) - J) % W:=⟨(((n:Int) - J) % W).toNat,by have:=Int.emod_nonneg ((n:Int) - J) (show W≠0 by lia);lia⟩;have e:=Int.mul_ediv_add_emod ((n:Int) - J) W;have dl:=Int.emod_lt_of_pos ((n:Int) - J) (show 0 < W by lia);rw [<- hq,<- hd,Int.mul_comm] at e;rw [<- hd] at dl;have ql:(q:Int)<=s.times:=by
  apply Classical.byContradiction;intro hc;have:=Int.mul_le_mul_of_nonneg_right (show s.times + 1<=(q:Int) by lia) (show 0<=W by lia);rw [Int.add_mul,Int.one_mul,Int.mul_comm s.times] at this;lia
 refine ⟨q,d,by lia,dl,ql,fun h=>?_,fun p=>?_⟩
 ·rw [h,Int.mul_comm] at e;lia
 ·have en:n=(J.toNat + q * W.toNat) + d:=by
   have e2:((q * W.toNat:Nat):Int)=(q:Int) * W:=by rw [Int.natCast_mul,Int.toNat_of_nonneg (show 0<=W by lia)]
   lia
  have ch:=U.chain F.ok (w:=s.winner) (y:=y) (a:=J.toNat) (by lia) p q (fun i hi=>by rw [hW];exact wf i (by lia));rw [hW] at ch;rw [en,J45,ch];have ea:=U.all F.ok A0 (by lia) p;rw [hJ] at ea;rw [ea]
theorem J2y (F:StepF f r T s) (U:Uni f pc r T) (hh:s.isHome=false) (own:s.own=false) (A:LetAt (s.behind r) y j o) (c:j∈s.losers r) {n t:Nat} (ht:(t:Int)<=s.times) (h0:(t:Int) * T.getD s.winner 0<=n) {d:Nat} (hd:(n:Int)=(t:Int) * T.getD s.winner 0 + d) (p:Nat) :
  vis f pc p n y=(t:Int) * Vv f pc r T p s.winner + vis f pc p d (itN f (t * (T.getD s.winner 0).toNat) y):=by
 obtain ⟨wf,_⟩:=J44 F hh own A c;have w2:=F.win.2.1;have en:n=t * (T.getD s.winner 0).toNat + d:=by
  have e2:((t * (T.getD s.winner 0).toNat:Nat):Int)=(t:Int) * T.getD s.winner 0:=by rw [Int.natCast_mul,Int.toNat_of_nonneg (show 0<=T.getD s.winner 0 by lia)]
  lia
 have ch:=U.chain F.ok (w:=s.winner) (y:=y) (a:=0) (by lia) p t (fun i hi=>by rw [Nat.zero_add];exact wf i (by lia));rw [Nat.zero_add] at ch;rw [en,J45,ch];show (0:Int) + _ + _=_;lia
end
section
variable {f:Int->Int} {pc:Int->Nat} {r:Rst} {T:List Int}
theorem J43 {s:Stp} {r:Rst} {j:Nat} (h:j∈s.losers r):s.isHome=false:=by
 cases s with
 | home a=>cases h
 | even a b=>rfl
 | over a b=>rfl
 | under a b=>rfl
 | overs a t=>rfl
 | unders a t=>rfl
theorem Uni.next (F:StepF f r T (nextN r)) (U:Uni f pc r T):Uni f pc ((nextN r).behind r) (towB (nextN r) r T):=by
 intro p j y o y' o' n A A' hn;rw [J49 F.ok F.ne F.len A.1] at hn;by_cases c:j∈(nextN r).losers r
 ·rw [if_pos c] at hn;have hh:=J43 c;have w2:=F.win.2.1;have t1:=F.tms.1
  cases own:(nextN r).own with
  | true =>
   obtain ⟨⟨o0,A0⟩,wf⟩:=J38 F own A c;obtain ⟨⟨o0',A0'⟩,wf'⟩:=J38 F own A' c;by_cases h0:(n:Int)<=T.getD j 0
   ·exact U p j y _ y' _ n A0 A0' h0
   ·obtain ⟨t,d,e1,e2,e3,e4,e5⟩:=J3e F U own A c (n:=n) (by lia) hn;obtain ⟨t',d',e1',e2',e3',e4',e5'⟩:=J3e F U own A' c (n:=n) (by lia) hn;have g1:((n:Int) - T.getD j 0) / T.getD (nextN r).winner 0=t:=by
     rw [show (n:Int) - T.getD j 0=(d:Int) + T.getD (nextN r).winner 0 * t by rw [Int.mul_comm];lia,Int.add_mul_ediv_left _ _ (by lia),Int.ediv_eq_zero_of_lt (by lia) e2];lia
    have g2:((n:Int) - T.getD j 0) / T.getD (nextN r).winner 0=t':=by
     rw [show (n:Int) - T.getD j 0=(d':Int) + T.getD (nextN r).winner 0 * t' by rw [Int.mul_comm];lia,Int.add_mul_ediv_left _ _ (by lia),Int.ediv_eq_zero_of_lt (by lia) e2'];lia
    obtain rfl:t=t':=by lia
    obtain rfl:d=d':=by lia
    rw [e5,e5'];by_cases ct:(t:Int)=(nextN r).times
    ·rw [e4 ct];rfl
    ·obtain ⟨o1,B⟩:=wf t (by lia);obtain ⟨o1',B'⟩:=wf' t (by lia);rw [U p _ _ _ _ _ d B B' (by lia)]
  | false =>
   obtain ⟨wf,⟨oe,E⟩⟩:=J44 F hh own A c;obtain ⟨wf',⟨oe',E'⟩⟩:=J44 F hh own A' c;generalize hW:T.getD (nextN r).winner 0=W at *;by_cases ct:(nextN r).times * W<=n
   ·obtain ⟨d,hd⟩:∃ d:Nat,(n:Int)=(nextN r).times * W + d:=⟨((n:Int) - (nextN r).times * W).toNat,by lia⟩;have tn:=times_nat F;have g1:=J2y F U hh own A c (n:=n) (t:=(nextN r).times.toNat) (d:=d) (by lia) (by rw [tn,hW];exact ct) (by rw [tn,hW];exact hd) p;have g2:=J2y F U hh own A' c (n:=n) (t:=(nextN r).times.toNat) (d:=d) (by lia) (by rw [tn,hW];exact ct) (by rw [tn,hW];exact hd) p;rw [hW] at g1 g2;rw [Int.mul_comm] at hd;rw [g1,g2,U p _ _ _ _ _ d E E' (by lia)]
   ·obtain ⟨q,hq⟩:∃ q:Nat,(q:Int)=(n:Int) / W:=⟨((n:Int) / W).toNat,by have:=Int.ediv_nonneg (show 0<=(n:Int) by lia) (show 0<=W by lia);lia⟩;obtain ⟨d,hd⟩:∃ d:Nat,(d:Int)=(n:Int) % W:=⟨((n:Int) % W).toNat,by have:=Int.emod_nonneg (n:Int) (show W≠0 by lia);lia⟩;have e:=Int.mul_ediv_add_emod (n:Int) W;have dl:=Int.emod_lt_of_pos (n:Int) (show 0 < W by lia);rw [<- hq,<- hd,Int.mul_comm] at e;have ql:(q:Int) < (nextN r).times:=by
     apply Classical.byContradiction;intro hc;have:=Int.mul_le_mul_of_nonneg_right (show (nextN r).times<=(q:Int) by lia) (show 0<=W by lia);lia
    have g1:=J2y F U hh own A c (n:=n) (t:=q) (d:=d) (by lia) (by rw [hW];lia) (by rw [hW];lia) p;have g2:=J2y F U hh own A' c (n:=n) (t:=q) (d:=d) (by lia) (by rw [hW];lia) (by rw [hW];lia) p;obtain ⟨o1,B⟩:=wf q (by lia);obtain ⟨o1',B'⟩:=wf' q (by lia);rw [hW] at g1 g2;rw [g1,g2,U p _ _ _ _ _ d B B' (by lia)]
 ·rw [if_neg c,Int.add_zero] at hn;obtain ⟨o1,B⟩:=J3f F.np F.ret A c;obtain ⟨o1',B'⟩:=J3f F.np F.ret A' c;exact U p j y _ y' _ n B B' hn
theorem Vv_next (F:StepF f r T (nextN r)) (U:Uni f pc r T) (p:Nat) {j:Nat} (hj:j∈((nextN r).behind r).top) :
  Vv f pc ((nextN r).behind r) (towB (nextN r) r T) p j=Vv f pc r T p j + (if j∈(nextN r).losers r then Vv f pc r T p (nextN r).winner * (nextN r).times else 0):=by
 have A:=J3g F.okl hj;have w2:=F.win.2.1;have t1:=F.tms.1;have tn:=times_nat F;unfold Vv;rw [J49 F.ok F.ne F.len hj];by_cases c:j∈(nextN r).losers r
 ·rw [if_pos c,if_pos c];have hh:=J43 c;have jp:=F.twr.pos j (F.down.sub j hj);have mp:=Int.mul_nonneg (show 0<=T.getD (nextN r).winner 0 by lia) (show 0<=(nextN r).times by lia);obtain ⟨n,hn⟩:∃ n:Nat,(n:Int)=T.getD j 0 + T.getD (nextN r).winner 0 * (nextN r).times:=⟨(T.getD j 0 + T.getD (nextN r).winner 0 * (nextN r).times).toNat,by lia⟩;rw [<- hn,Int.toNat_natCast]
  cases own:(nextN r).own with
  | true =>
   obtain ⟨t,d,e1,e2,e3,e4,e5⟩:=J3e F U own A c (n:=n) (by lia) (by lia);have:(t:Int)=(nextN r).times:=by
    apply Classical.byContradiction;intro hc;have:=Int.mul_le_mul_of_nonneg_right (show (t:Int) + 1<=(nextN r).times by lia) (show 0<=T.getD (nextN r).winner 0 by lia);rw [Int.add_mul,Int.one_mul,Int.mul_comm (nextN r).times] at this;lia
   rw [e5 p,e4 this,this,Int.mul_comm (nextN r).times];show Vv f pc r T p j + Vv f pc r T p (nextN r).winner * _ + 0=_;unfold Vv;lia
  | false =>
   obtain ⟨_,⟨oe,E⟩⟩:=J44 F hh own A c;have g1:=J2y F U hh own A c (n:=n) (t:=(nextN r).times.toNat) (d:=(T.getD j 0).toNat) (by lia) (by rw [tn,Int.mul_comm];lia) (by rw [tn,Int.mul_comm];lia) p;rw [g1,U.all F.ok E (by lia),tn,Int.mul_comm];unfold Vv;lia
 ·rw [if_neg c,if_neg c,Int.add_zero,Int.add_zero];obtain ⟨o1,B⟩:=J3f F.np F.ret A c;exact U p j _ _ _ _ _ B (J3g F.ok B.1) (by have:=F.twr.pos j B.1;lia)
end
def sumV (c:List Int) (X:Nat->Int):Int:=((List.range c.length).map fun i=>c.getD i 0 * X i).sum
theorem J2n (X Y:Nat->Int):∀ l:List Nat,(l.map fun i=>X i + Y i).sum=(l.map X).sum + (l.map Y).sum
 | []=>rfl
 | a :: l=>by simp only [map_cons,sum_cons,J2n X Y l];lia
theorem J25 {X Y:Nat->Int}:∀ {l:List Nat},(∀ i∈l,X i=Y i)->(l.map X).sum=(l.map Y).sum
 | [],_=>rfl
 | a :: l,h=>by simp only [map_cons,sum_cons];rw [h a mem_cons_self,J25 fun i hi=>h i (mem_cons_of_mem _ hi)]
theorem J2f {X:Nat->Int}:∀ {l:List Nat},(∀ i∈l,X i=0)->(l.map X).sum=0
 | [],_=>rfl
 | a :: l,h=>by simp only [map_cons,sum_cons];rw [h a mem_cons_self,J2f fun i hi=>h i (mem_cons_of_mem _ hi)];rfl
theorem J39 {z:Int} {w:Nat}:∀ {l:List Nat},l.Nodup->w∈l->(l.map fun i=>if i=w then z else 0).sum=z
 | a :: l,nd,hw=>by
  have n:=nodup_cons.mp nd;simp only [map_cons,sum_cons];by_cases e:a=w
  ·rw [if_pos e,J2f fun i hi=>if_neg fun (q:i=w)=>n.1 (by rw [e,<- q];exact hi)];lia
  ·rw [if_neg e,J39 n.2 (by rcases mem_cons.mp hw with q | q;exact absurd q.symm e;exact q)];lia
theorem J77 {c:List Int} {X:Nat->Int} {j:Nat} {a:Int} (hj:j < c.length):sumV (c.set j (c.getD j 0 + a)) X=sumV c X + a * X j:=by
 unfold sumV;rw [length_set];rw [<- J39 (z:=a * X j) (w:=j) (nodup_range (n:=c.length)) (mem_range.mpr hj),<- J2n];refine J25 fun i hi=>?_;rw [getD_eq_getElem?_getD,List.getElem?_set];by_cases e:j=i
 ·subst e;rw [if_pos rfl,if_pos hj,if_pos rfl];show (c.getD j 0 + a) * X j=_;rw [Int.add_mul]
 ·rw [if_neg e,if_neg (fun q=>e q.symm),<- getD_eq_getElem?_getD];lia
theorem sumL_mul (c:List Int) (z:Int):∀ {L l:List Nat},L.Nodup->l.Nodup->(∀ i∈L,i∈l)->(l.map fun i=>c.getD i 0 * (if i∈L then z else 0)).sum=(L.map fun i=>c.getD i 0).sum * z
 | [],l,_,_,_=>by rw [J2f fun i _=>by simp];simp
 | a :: L,l,nd,nl,h=>by
  have n:=nodup_cons.mp nd;have ih:=sumL_mul c z (L:=L) (l:=l) n.2 nl fun i hi=>h i (mem_cons_of_mem _ hi);simp only [map_cons,sum_cons];rw [Int.add_mul,<- ih,<- J39 (z:=c.getD a 0 * z) (w:=a) nl (h a mem_cons_self),<- J2n];refine J25 fun i hi=>?_;by_cases e:i=a
  ·subst e;rw [if_pos mem_cons_self,if_pos rfl,if_neg n.1];lia
  ·rw [if_neg e];by_cases q:i∈L
   ·rw [if_pos (mem_cons_of_mem _ q),if_pos q];lia
   ·rw [if_neg q,if_neg (fun m=>by rcases mem_cons.mp m with x | x;exact e x;exact q x)];lia
theorem sumV_up {c:List Int} {X X':Nat->Int} {top L:List Nat} {w:Nat} {t:Int} (zr:∀ i,i < c.length->i ∉ top->c.getD i 0=0) (nd:L.Nodup) (hL:∀ i∈L,i∈top/\i < c.length) (hX:∀ i∈top,X' i=X i + (if i∈L then X w * t else 0)) :
  sumV c X'=sumV c X + (L.map fun i=>c.getD i 0).sum * (X w * t):=by
 unfold sumV;rw [<- sumL_mul c (X w * t) nd (nodup_range (n:=c.length)) (fun i hi=>mem_range.mpr (hL i hi).2),<- J2n];refine J25 fun i hi=>?_;by_cases e:i∈top
 ·rw [hX i e,Int.mul_add]
 ·rw [zr i (mem_range.mp hi) e];simp
theorem sumV_le {c:List Int} {X:Nat->Int} (h0:∀ i,i < c.length->0<=c.getD i 0) (x0:∀ i,i < c.length->0<=X i) {j:Nat} (hj:j < c.length):c.getD j 0 * X j<=sumV c X:=by
 unfold sumV;have:∀ l:List Nat,(∀ i∈l,i < c.length)->0<=(l.map fun i=>c.getD i 0 * X i).sum/\(j∈l->c.getD j 0 * X j<=(l.map fun i=>c.getD i 0 * X i).sum):=by
  intro l
  induction l with
  | nil=>exact fun _=>⟨Int.le_refl _,fun h=>by cases h⟩
  | cons a l ih =>
   intro h;have ⟨i1,i2⟩:=ih fun i hi=>h i (mem_cons_of_mem _ hi);have a0:=Int.mul_nonneg (h0 a (h a mem_cons_self)) (x0 a (h a mem_cons_self));simp only [map_cons,sum_cons];refine ⟨by lia,fun hm=>?_⟩;rcases mem_cons.mp hm with e | e
   ·subst e;lia
   ·have:=i2 e;lia
 exact (this _ fun i hi=>mem_range.mp hi).2 (mem_range.mpr hj)
theorem sumV_at {c:List Int} {p:Nat} (hp:p < c.length):sumV c (fun i=>if i=p then 1 else 0)=c.getD p 0:=by
 unfold sumV;rw [<- J39 (z:=c.getD p 0) (w:=p) (nodup_range (n:=c.length)) (mem_range.mpr hp)];refine J25 fun i _=>?_;show c.getD i 0 * (if i=p then 1 else 0)=_;by_cases e:i=p
 ·rw [if_pos e,if_pos e,e];lia
 ·rw [if_neg e,if_neg e];lia
theorem sumV_zero (n:Nat) (X:Nat->Int):sumV (List.replicate n (0:Int)) X=0:=by
 unfold sumV;refine J2f fun i _=>?_;rw [getD_eq_getElem?_getD,getElem?_replicate];split <;> simp
theorem sumV_one {n w:Nat} {a:Int} {X:Nat->Int} (hw:w < n):sumV ((List.replicate n (0:Int)).set w a) X=a * X w:=by
 have e:=J77 (c:=List.replicate n (0:Int)) (X:=X) (j:=w) (a:=a) (by rw [length_replicate];exact hw);rw [sumV_zero,getD_eq_getElem?_getD,getElem?_replicate,if_pos hw] at e;simpa using e
structure PartP (f:Int->Int) (pc:Int->Nat) (r:Rst) (T:List Int) (s:Stp) (y:Int) (j:Nat) (due own tms:Int) (j':Nat) (due' y':Int):Prop where
 at_:∃ o,LetAt r y' j' o
 d:0<=due'/\due' < T.getD j' 0
 it:itN f due'.toNat y'=itN f due.toNat y
 vs:∀ p,vis f pc p due.toNat y=own * Vv f pc r T p j + tms * Vv f pc r T p s.winner + vis f pc p due'.toNat y'
 sum:due=own * T.getD j 0 + tms * T.getD s.winner 0 + due'
 o:own=0\/own=1
 t:0<=tms/\tms<=s.times
 nh:(own=0/\tms=0)\/s.isHome=false
 own1:own=1->s.own=true
 go_:y'=if own=0/\tms=0 then y else if s.own=true then go r y - tms * lenOf r.ls (s.losers r) else go r y + (tms - 1) * lenOf r.ls (s.losers r)
section
variable {f:Int->Int} {pc:Int->Nat} {r:Rst} {T:List Int} {s:Stp} {y o due:Int} {j:Nat}
theorem part_same (F:StepF f r T s) (A:∃ o,LetAt r y j o) (hd:0<=due/\due < T.getD j 0):PartP f pc r T s y j due 0 0 j due y where
 at_:=A
 d:=hd
 it:=rfl
 vs:=fun p=>by lia
 sum:=by lia
 o:=.inl rfl
 t:=⟨by lia,by have:=F.tms.1;lia⟩
 nh:=.inl ⟨rfl,rfl⟩
 own1:=fun h=>by lia
 go_:=by rw [if_pos ⟨rfl,rfl⟩]
theorem part_one (F:StepF f r T s) (U:Uni f pc r T) (own:s.own=true) (A:LetAt (s.behind r) y j o) (c:j∈s.losers r) (hd:T.getD j 0<=due/\due < T.getD j 0 + T.getD s.winner 0 * s.times) :
  PartP f pc r T s y j due 1 ((due - T.getD j 0) / T.getD s.winner 0) s.winner ((due - T.getD j 0) % T.getD s.winner 0) (go r y - (due - T.getD j 0) / T.getD s.winner 0 * lenOf r.ls (s.losers r)):=by
 have w2:=F.win.2.1;have jp:=F.twr.pos j (F.down.sub j A.1);obtain ⟨_,up⟩:=J4n F.ok F.ne F.np F.okl F.ret F.twr own A c (due:=due) (by lia) hd.2;obtain ⟨q0,q1,q2,q3,q4⟩:=up hd.1 _ rfl;have em:due - T.getD j 0 - (due - T.getD j 0) / T.getD s.winner 0 * T.getD s.winner 0=(due - T.getD j 0) % T.getD s.winner 0:=by
  have:=Int.mul_ediv_add_emod (due - T.getD j 0) (T.getD s.winner 0);rw [Int.mul_comm] at this;lia
 rw [em] at q3 q4;refine ⟨q2,q3,q4,fun p=>?_,by rw [Int.one_mul,<- em];generalize (due - T.getD j 0) / T.getD s.winner 0 * T.getD s.winner 0=z;lia,.inr rfl,⟨q0,Int.le_of_lt q1⟩,.inr (J43 c),(fun _=>own),by rw [if_neg (fun h=>by have:=h.1;lia),if_pos own]⟩;obtain ⟨n,hn⟩:∃ n:Nat,(n:Int)=due:=⟨due.toNat,by lia⟩;obtain ⟨t,d,e1,e2,e3,e4,e5⟩:=J3e F U own A c (n:=n) (by lia) (by lia);have g1:(due - T.getD j 0) / T.getD s.winner 0=t:=by
  rw [show due - T.getD j 0=(d:Int) + T.getD s.winner 0 * t by rw [Int.mul_comm];lia,Int.add_mul_ediv_left _ _ (by lia),Int.ediv_eq_zero_of_lt (by lia) e2];lia
 have g2:(due - T.getD j 0) % T.getD s.winner 0=d:=by rw [<- em,g1];lia
 rw [<- hn,Int.toNat_natCast,e5 p,hn,g1,g2,Int.toNat_natCast,Int.one_mul];obtain ⟨o1,B⟩:=(J38 F own A c).2 t (by lia);obtain ⟨o2,B2⟩:=q2;rw [g1] at B2;rw [U p _ _ _ _ _ d B B2 (by lia)]
theorem part_two (F:StepF f r T s) (U:Uni f pc r T) (own:s.own=false) (A:LetAt (s.behind r) y j o) (c:j∈s.losers r) (hd:0<=due/\due < T.getD j 0 + T.getD s.winner 0 * s.times) {t:Int} (h0:0<=t) (h1:t<=s.times) (h2:t * T.getD s.winner 0<=due) (h3:t < s.times->due < (t + 1) * T.getD s.winner 0) :
  PartP f pc r T s y j due 0 t (if t=s.times then j else s.winner) (due - t * T.getD s.winner 0) (if t=0 then y else go r y + (t - 1) * lenOf r.ls (s.losers r)):=by
 have hh:=J43 c;have w2:=F.win.2.1;have t1:=F.tms.1;obtain ⟨u0,up⟩:=J5z F.ok F.ne F.np F.okl F.ret F.twr hh own A c (due:=due) hd.1 hd.2;obtain ⟨n,hn⟩:∃ n:Nat,(n:Int)=due:=⟨due.toNat,by lia⟩;obtain ⟨tn,htn⟩:∃ tn:Nat,(tn:Int)=t:=⟨t.toNat,by lia⟩;obtain ⟨d,hd'⟩:∃ d:Nat,(d:Int)=due - t * T.getD s.winner 0:=⟨(due - t * T.getD s.winner 0).toNat,by lia⟩;have g1:=fun p=>J2y F U hh own A c (n:=n) (t:=tn) (d:=d) (by lia) (by rw [htn];lia) (by rw [htn];lia) p;by_cases ct:t=0
 ·subst ct;have h3:=h3 (by lia);rw [if_neg (show ¬ (0:Int)=s.times by lia),if_pos rfl];exact ⟨u0,⟨by lia,by lia⟩,by rw [show due - 0 * T.getD s.winner 0=due by lia],fun p=>by rw [show due - 0 * T.getD s.winner 0=due by lia];lia,by lia,.inl rfl,⟨by lia,by lia⟩,.inr hh,(fun h=>by lia),by rw [if_pos ⟨rfl,rfl⟩]⟩
 ·obtain ⟨q2,q3,q4⟩:=up t (by lia) h1 h2 h3;rw [if_neg ct];refine ⟨q2,q3,q4,fun p=>?_,by lia,.inl rfl,⟨h0,h1⟩,.inr hh,(fun h=>by lia),by rw [if_neg (fun h=>ct h.2),if_neg (by rw [own];decide)]⟩;rw [<- hd',Int.toNat_natCast,<- hn,Int.toNat_natCast,g1 p,htn];obtain ⟨wf,oe,E⟩:=J44 F hh own A c;have hz:∃ o,LetAt r (itN f (tn * (T.getD s.winner 0).toNat) y) (if t=s.times then j else s.winner) o:=by
   by_cases cs:t=s.times
   ·rw [if_pos cs,show tn=s.times.toNat by lia];exact ⟨oe,E⟩
   ·rw [if_neg cs];exact wf tn (by lia)
  obtain ⟨o1,B⟩:=hz;obtain ⟨o2,B2⟩:=q2;rw [U p _ _ _ _ _ d B B2 (by lia)];lia
end
structure Tal (f:Int->Int) (pc:Int->Nat) (r:Rst) (T:List Int) (tot:Nat->Int) (g:Int) (c:List Int) (j:Nat) (due y:Int):Prop where
 len:c.length=T.length
 zr:∀ i,i < c.length->i ∉ r.top->c.getD i 0=0
 nn:∀ i,i < c.length->0<=c.getD i 0
 at_:∃ o,LetAt r y j o
 d:0<=due/\due < T.getD j 0
 sum:sumV c (fun i=>T.getD i 0) + due=g
 vs:∀ p,sumV c (Vv f pc r T p) + vis f pc p due.toNat y=tot p
section
variable {f:Int->Int} {pc:Int->Nat} {r:Rst} {T:List Int} {tot:Nat->Int} {g due y:Int} {c:List Int} {j:Nat}
theorem J2s {c:List Int} {w:Nat} {a:Int} (h:w < c.length):(c.set w a).getD w 0=a:=by rw [getD_eq_getElem?_getD,List.getElem?_set,if_pos rfl,if_pos h];rfl
theorem J2h {c:List Int} {w i:Nat} {a:Int} (h:i≠w):(c.set w a).getD i 0=c.getD i 0:=by rw [getD_eq_getElem?_getD,List.getElem?_set,if_neg (Ne.symm h),getD_eq_getElem?_getD]
theorem Tal.le (h:Tal f pc r T tot g c j due y) (W:Twr f r T) (tz:∀ i,i < T.length->0<=T.getD i 0) {i:Nat} (hi:i < c.length):c.getD i 0<=g:=by
 have g0:=sumV_le (X:=fun i=>T.getD i 0) h.nn (fun i hi=>tz i (by have:=h.len;lia)) hi;have n0:=h.nn i hi;have s:=h.sum;have d:=h.d.1;by_cases e:i∈r.top
 ·have:=Int.mul_le_mul_of_nonneg_left (W.pos i e) n0;have g0:c.getD i 0 * T.getD i 0<=_:=g0;lia
 ·have:=h.zr i hi e;have g0:c.getD i 0 * T.getD i 0<=_:=g0;rw [this,Int.zero_mul] at g0;lia
theorem lost_le {L:List Nat} (h0:∀ i∈L,0<=c.getD i 0/\c.getD i 0<=g):0<=(L.map fun i=>c.getD i 0).sum/\(L.map fun i=>c.getD i 0).sum<=L.length * g:=by
 induction L with
 | nil=>simp
 | cons a L ih =>
  have:=ih fun i hi=>h0 i (mem_cons_of_mem _ hi);have a1:=h0 a mem_cons_self;simp only [map_cons,sum_cons,length_cons];rw [show ((L.length + 1:Nat):Int)=(L.length:Int) + 1 by lia,Int.add_mul,Int.one_mul];lia
theorem Tal.up (F:StepF f r T (nextN r)) (U:Uni f pc r T) (hL:∀ i∈(nextN r).losers r,i∈((nextN r).behind r).top) (nd:((nextN r).losers r).Nodup) (h:Tal f pc ((nextN r).behind r) (towB (nextN r) r T) tot g c j due y)
  {own tms due' y':Int} {j':Nat} (Pt:PartP f pc r T (nextN r) y j due own tms j' due' y') {c1 c2:List Int} (e1:c1=c.set j (c.getD j 0 + own)) (e2:c2=c1.set (nextN r).winner (c1.getD (nextN r).winner 0 + (nextN r).times * (((nextN r).losers r).map fun i=>c.getD i 0).sum + tms)) :
  Tal f pc r T tot g c2 j' due' y':=by
 have w1:=F.win.1;have t1:=F.tms.1;have wl:=F.ok.row.lt _ w1;have hlen:=h.len;rw [J3k] at hlen;obtain ⟨o,A⟩:=h.at_;have jt:=F.down.sub j A.1;have jl:=F.ok.row.lt _ jt;have tl:=F.len;have l1:c1.length=c.length:=by rw [e1,length_set]
 have l2:c2.length=c.length:=by rw [e2,length_set,l1]
 have lo:=(lost_le (c:=c) (g:=g) (L:=(nextN r).losers r) fun i hi=>⟨h.nn i (by have:=F.ok.row.lt _ (F.down.sub i (hL i hi));lia),?_⟩).1
 rotate_left
 ·have ib:=hL i hi;have il:=F.ok.row.lt _ (F.down.sub i ib);have g0:=sumV_le (X:=fun i=>(towB (nextN r) r T).getD i 0) h.nn (fun q hq=>?_) (show i < c.length by lia)
  ·have n0:=h.nn i (by lia);have tp:1<=(towB (nextN r) r T).getD i 0:=by
    rw [J49 F.ok F.ne F.len ib];have:=F.twr.pos i (F.down.sub i ib);have w2:=F.win.2.1;have:=Int.mul_nonneg (show 0<=T.getD (nextN r).winner 0 by lia) (show 0<=(nextN r).times by lia);split <;> lia
   have:=Int.mul_le_mul_of_nonneg_left tp n0;have s:=h.sum;have d:=h.d.1;have g0:c.getD i 0 * (towB (nextN r) r T).getD i 0<=_:=g0;lia
  ·rw [J4a _ _ _ (by lia)];by_cases q2:q∈((nextN r).behind r).top
   ·rw [if_pos q2];have:=F.twr.pos q (F.down.sub q q2);have w2:=F.win.2.1;have:=Int.mul_nonneg (show 0<=T.getD (nextN r).winner 0 by lia) (show 0<=(nextN r).times by lia);split <;> lia
   ·rw [if_neg q2];exact Int.le_refl _
 generalize hlo:(((nextN r).losers r).map fun i=>c.getD i 0).sum=lost at *;have lt0:0<=(nextN r).times * lost:=Int.mul_nonneg (by lia) lo;have sums:∀ (X X':Nat->Int),(∀ i∈((nextN r).behind r).top,X' i=X i + (if i∈(nextN r).losers r then X (nextN r).winner * (nextN r).times else 0))->sumV c2 X=sumV c X' + own * X j + tms * X (nextN r).winner:=fun X X' hX=>by
  have u:=sumV_up (c:=c) (X:=X) (X':=X') (top:=((nextN r).behind r).top) (L:=(nextN r).losers r) (w:=(nextN r).winner) (t:=(nextN r).times) h.zr nd (fun i hi=>⟨hL i hi,by have:=F.ok.row.lt _ (F.down.sub i (hL i hi));lia⟩) hX;rw [hlo] at u;rw [e2,Int.add_assoc,J77 (by rw [l1];lia),e1,J77 (by lia),u,Int.add_mul,show (nextN r).times * lost * X (nextN r).winner=lost * (X (nextN r).winner * (nextN r).times) by rw [Int.mul_comm (nextN r).times,Int.mul_assoc,Int.mul_comm (nextN r).times]];lia
 refine ⟨by lia,fun i hi hn=>?_,fun i hi=>?_,Pt.at_,Pt.d,?_,fun p=>?_⟩
 ·have iw:i≠(nextN r).winner:=fun e=>hn (e ▸ w1);have ij:i≠j:=fun e=>hn (e ▸ jt);rw [e2,J2h iw,e1,J2h ij];exact h.zr i (by lia) fun q=>hn (F.down.sub i q)
 ·have n1:∀ q,q < c.length->0<=c1.getD q 0:=fun q hq=>by
   rw [e1];have n0:=h.nn q hq;by_cases e:q=j
   ·subst e;rw [J2s hq];rcases Pt.o with e | e <;> lia
   ·rw [J2h e];exact n0
  rw [e2];by_cases e:i=(nextN r).winner
  ·subst e;rw [J2s (by lia)];have:=n1 (nextN r).winner (by lia);have:=Pt.t.1;lia
  ·rw [J2h e];exact n1 i (by lia)
 ·rw [sums (fun i=>T.getD i 0) (fun i=>(towB (nextN r) r T).getD i 0) fun i hi=>J49 F.ok F.ne F.len hi];have:=h.sum;have:=Pt.sum;lia
 ·rw [sums (Vv f pc r T p) (Vv f pc ((nextN r).behind r) (towB (nextN r) r T) p) fun i hi=>Vv_next F U p hi];have:=h.vs p;have:=Pt.vs p;lia
end
theorem Cok.uni {p:Cst} (h:Cok p) (one:∀ j∈p.1.top,p.2.getD j 0=1) {pc:Int->Nat} (hpc:∀ y j o,LetAt p.1 y j o->pc y=j) {m:Nat} (l:Long p m):∀ {k:Nat},k<=m->Uni (go p.1) pc (chN p k).1 (chN p k).2
 | 0,_=>fun q j y o y' o' n A A' hn=>by
  have A:LetAt p.1 y j o:=A;have A':LetAt p.1 y' j o':=A';have hn:(n:Int)<=p.2.getD j 0:=hn;rw [one j A.1] at hn;have:n=0\/n=1:=by lia
  rcases this with rfl | rfl
  ·rfl
  ·rw [vis_one,vis_one,hpc y j o A,hpc y' j o' A']
 | k + 1,hk=>Uni.next (h.stepF one l (show k < m by lia)) (Cok.uni h one hpc l (by lia))
theorem floor_way {f:Int->Int} {pc:Int->Nat} {r:Rst} {T:List Int} (U:Uni f pc r T) (h:r.Ok) {w:Nat} {b:Band} (B:Bnd f b) (hb:b.2.2.1=T.getD w 0) (hl:∀ o,0<=o->o < b.2.1->∃ o',LetAt r (b.1 + o) w o') {o:Int} (h0:0<=o) (h1:o < b.2.1) {g:Int} (g0:0<=g) (p:Nat) :
  vis f pc p g.toNat (b.1 + o)=g / T.getD w 0 * Vv f pc r T p w + vis f pc p (g % T.getD w 0).toNat (b.1 + o):=by
 have tp:=B.2.1;rw [hb] at tp;have stay:∀ i:Nat,∃ o',0<=o'/\o' < b.2.1/\itN f (i * (T.getD w 0).toNat) (b.1 + o)=b.1 + o':=by
  intro i
  induction i with
  | zero=>exact ⟨o,h0,h1,by rw [Nat.zero_mul];rfl⟩
  | succ i ih =>
   obtain ⟨o',a,b',e⟩:=ih;refine ⟨flipB b o',(J3u a b').1,(J3u a b').2,?_⟩;rw [Nat.add_mul,Nat.one_mul,J1s,e,<- hb];exact B.back a b'
 obtain ⟨t,ht⟩:∃ t:Nat,(t:Int)=g / T.getD w 0:=⟨(g / T.getD w 0).toNat,by have:=Int.ediv_nonneg g0 (show 0<=T.getD w 0 by lia);lia⟩;obtain ⟨d,hd⟩:∃ d:Nat,(d:Int)=g % T.getD w 0:=⟨(g % T.getD w 0).toNat,by have:=Int.emod_nonneg g (show T.getD w 0≠0 by lia);lia⟩;have e:=Int.mul_ediv_add_emod g (T.getD w 0);have dl:=Int.emod_lt_of_pos g (show 0 < T.getD w 0 by lia);rw [<- ht,<- hd,Int.mul_comm] at e;have en:g.toNat=t * (T.getD w 0).toNat + d:=by
  have e2:((t * (T.getD w 0).toNat:Nat):Int)=(t:Int) * T.getD w 0:=by rw [Int.natCast_mul,Int.toNat_of_nonneg (show 0<=T.getD w 0 by lia)]
  lia
 have ch:=U.chain h (w:=w) (y:=b.1 + o) (a:=0) (by lia) p t (fun i _=>by
  obtain ⟨o',a,b',e⟩:=stay i;rw [Nat.zero_add,e];exact hl o' a b')
 rw [Nat.zero_add] at ch;rw [en,J45,ch,<- ht,<- hd,Int.toNat_natCast];obtain ⟨o',a,b',e'⟩:=stay t;rw [e'];obtain ⟨o1,A1⟩:=hl o' a b';obtain ⟨o2,A2⟩:=hl o h0 h1;rw [U p _ _ _ _ _ d A1 A2 (by lia)];show (0:Int) + _ + _=_;lia
theorem losers_in {r:Rst} (h:r.Ok) (ne:r.top≠[]) {s:Stp} (n:NextP r s):∀ i∈s.losers r,i∈(s.behind r).top:=fun i hi=>by
 have ht:=(n.losers_lt h ne).1 i hi
 cases s with
 | home a=>cases hi
 | even a b =>
  have hi:i∈[b]:=hi;obtain rfl:i=b:=by simpa using hi
  show i∈withoutR r.top a;exact mem_without.mpr ⟨ht,fun e=>n.2.2.1 e.symm⟩
 | over a b=>exact ht
 | under a b =>
  have hi:i∈[b]:=hi;obtain rfl:i=b:=by simpa using hi
  exact (J2e h.row.nd ht _).mem_iff.mpr ht
 | overs a t=>exact ht
 | unders a t=>exact ht
abbrev J64 (p:Cst) (m:Nat):List Nat:=(List.range m).filter fun k=>(nextN (chN p k).1).isHome
theorem J4t (p:Cst):∀ m,bndN p m=(J64 p m).map fun k=>bandC (chN p k)
 | 0=>rfl
 | m + 1=>by
  show bndN p m ++ bndB (chN p m)=((List.range (m + 1)).filter _).map _;rw [J4t p m,range_succ,filter_append,map_append]
  congr 1
  unfold bndB
  cases e:(nextN (chN p m).1).isHome with
  | true=>rw [if_pos rfl,List.filter_cons_of_pos (by simpa using e)];rfl
  | false=>rw [if_neg (by decide),List.filter_cons_of_neg (by simp [e])];rfl
theorem J63 {p:Cst} {m b:Nat} (hb:b < (bndN p m).length):∃ k,(J64 p m)[b]?=some k/\k < m/\(nextN (chN p k).1).isHome=true/\(bndN p m).getD b bz0=bandC (chN p k):=by
 have hl:b < (J64 p m).length:=by rw [J4t,length_map] at hb;exact hb
 have hm:(J64 p m)[b]∈J64 p m:=List.getElem_mem hl;have hf:=mem_filter.mp hm;refine ⟨(J64 p m)[b],List.getElem?_eq_getElem hl,mem_range.mp hf.1,by simpa using hf.2,?_⟩;rw [J4t,getD_eq_getElem?_getD,getElem?_map,List.getElem?_eq_getElem hl];rfl
theorem chN_len (p:Cst):∀ k,(chN p k).2.length=p.2.length
 | 0=>rfl
 | k + 1=>by
  show (towB _ _ (chN p k).2).length=_;rw [J3k,chN_len p k]
end Rl
namespace L2
open PySem PySem.Spec PyProof.Rows
def LCW2 (K:Frag) (J:It) (tc:TT) (te:TE) (σ:St) (js:List Nat) (Q:VK) (H1:Hp) (d:Addr):Prop:=∃ W:Nat->Nat->List V->Hp->Prop,(∃ m,W 0 m [] (upd H1 d (.lst [])))/\
 ∀ i m ys H2,W i m ys H2->H2 d=some (.lst ys)/\((J.stop i H2/\Q (.ref d) H2)\/(J.go i H2/\ys.length < sizeLine/\∀ v H3,J.yld i H2 v H3->
  ∃ p a b,v=.ref p/\SqT K H3 p [a,b]/\tc (some a :: some b :: capv σ js) H3 fun bb H4=>if bb=true then te (some a :: some b :: capv σ js) H4 fun y H5=>H5 d=some (.lst ys)/\∃ m',m' < m/\W (i + 1) m' (ys ++ [y]) (upd H5 d (.lst (ys ++ [y])))
   else ∃ m',m' < m/\W (i + 1) m' ys H4))
def tLC2 (K:Frag) (wi:TI) (tc:TT) (te:TE) (js:List Nat):TE:=fun σ H Q=>wi σ H fun J H1=>∀ d,H1 d=none->LCW2 K J tc te σ js Q H1 d
section
variable {X:Cx} {elt iter:Expr} {ifs:List Expr} {x y z:Str} {px py pz tp:Pos} {kk:Nat} {scope:Scope} {cl:List (Str × Addr)} {pos spos:Pos} {wi:TI} {tc:TT} {te:TE} {caps:List Str} {js:List Nat} {i:Nat}
theorem comp_core2 {p0:Pos} {use:Option (Value->Sem Unit)} {QV:Value->Shared->Prop} {Q:VK} {pins:List (Addr × Obj)} {s:Shared} {σ:St} {H:Hp} (hc:X.calm=true) (hp:PI X (.Tuple [.Name x px,.Name z pz] kk tp) iter wi)
  (he:∀ (C:Addr) (fp:List Addr) (s:Shared) (H:Hp),PE (X.block (x :: z :: caps) scope cl C fp s H) elt te)
  (ht:∀ (C:Addr) (fp:List Addr) (s:Shared) (H:Hp),PTs (X.block (x :: z :: caps) scope cl C fp s H) ifs tc)
  (hcell:∀ p∈scope.names,p.2≠.cell) (hnames:∀ p∈scope.names,p.2=.local->scope.names.lookup p.1=some .local) (hnd:(x :: z :: caps).Nodup)
  (hsub:∀ p∈cl,X.env.cells.lookup p.1=some p.2) (hhas:∀ p∈scope.names,p.2=.free->∃ c,cl.lookup p.1=some c) (hlen:caps.length=js.length)
  (hcaps:∀ (k:Nat) (c:Str),caps[k]?=some c->∃ (j:Nat) (a:Addr),js[k]?=some j/\X.N[j]?=some c/\X.env.scope.names.lookup c=some .cell/\cl.lookup c=some a/\(relabel scope X.env).names.lookup c=some .cell)
  (hclos:closureFor scope X.env=pure cl) (hkind:scope.kind=.function) (hx:scope.names.lookup x=some .local) (hz':scope.names.lookup z=some .local) (hs:∀ v,foldedSetIterable iter X.env v=pure v)
  (I:Inv X pins σ H s) (h:tLC2 X.K wi tc te js σ H Q)
  (fin:∀ (d:Addr) (H':Hp) (s5:Shared) (C:Addr),Inv X pins σ H' s5->Q (.ref d) H'->(∃ m,s5.heap.Ns C m)->FpOk X pins H' C->compPost (model X.prog X.w) X.A X.xe use QV (.ref d) C (.ok .next) s5) :
  wpAny (model X.prog X.w) X.A (comprehension (.ListComp elt [⟨.Tuple [.Name x px,.Name z pz] kk tp,iter,ifs,0⟩] scope pos) scope X.env p0 (newList []) false (eval iter X.env) use) QV X.xe s:=by
 refine wpAny_comprehension_free (cl:=cl) (use:=use) (Q:=QV) rfl hs hclos hkind hnames (thn (hp pins s σ H _ I h) fun v s1 h1=>thn h1 fun itv s2 h2=>?_);obtain ⟨it,fp,tn,J,H2,e,I2,T,st2,f2,h3⟩:=h2;subst e;have hfr:H2 s2.heap.objs.size=none:=I2.hok.fresh (Nat.le_refl _);obtain ⟨W,⟨m0,w0⟩,hW⟩:=h3 s2.heap.objs.size hfr;refine wpAny_newObj_type (wpAny_newFunctionEnv hcell (by intro y hy;simp at hy) (fun h₁ hns₁ hsb₁=>?_) hkind);dsimp only at hns₁ hsb₁ ⊢;generalize hH2:s2.heap.push { cls:=.type "list",dict:=none,data:=.seq ([]:List Value).toArray }=G at hns₁ hsb₁ ⊢;have hC:G.objs.size=s2.heap.objs.size + 1:=by rw [<- hH2,size_push]
 have hDC:s2.heap.objs.size≠G.objs.size:=by rw [hC];exact Nat.ne_of_lt (Nat.lt_succ_self _)
 have hCle:s2.heap.objs.size<=G.objs.size:=by rw [hC];exact Nat.le_succ _
 have old:∀ b o,s2.heap.get? b=some o->h₁.get? b=some o:=fun b o e=>hsb₁.extBut b o (by rw [hC];exact Nat.ne_of_lt (Nat.lt_succ_of_lt (lt_size e))) (get?_push_of_some _ (hH2 ▸ get?_push_of_some _ e));have hacc:h₁.get? s2.heap.objs.size=some { cls:=.type "list",dict:=none,data:=.seq ([]:List Value).toArray }:=hsb₁.extBut _ _ hDC (get?_push_of_some _ (hH2 ▸ get?_push_size _ rfl));have fl:∀ b∈fp,b < s2.heap.objs.size:=fun b hb=>by
  obtain ⟨o,e,_⟩:=T.obj _ _ st2 b hb;exact lt_size e
 have hDf:s2.heap.objs.size ∉ fp:=fun hm=>Nat.lt_irrefl _ (fl _ hm);have hok1:HOk X.prog X.w (upd H2 s2.heap.objs.size (.lst [])) h₁:=I2.hok.laid old (Nat.le_refl _) ⟨Nat.zero_le _,[],0,.nil,hacc⟩;have IY0:∀ tk,Inv (X.block (x :: z :: caps) scope cl G.objs.size fp s2 H2) [] (none :: none :: capv σ js) (upd H2 s2.heap.objs.size (.lst [])) { s2 with heap:=h₁,toks:=tk }:=fun tk=>by
  refine ⟨J6c I2 hCle f2 fl hkind hcell hsub hhas,rfl,I2.bare,Un.laid old (Nat.le_refl _) hfr,⟨_,hns₁,fun k q v e1 e2 e3=>?_⟩,fun q c e=>?_,?_,fun q c e=>?_,fun p hp=>absurd hp (by simp),hok1,?_⟩
  ·rcases k with _ | _ | k
   ·simp at e2
   ·simp at e2
   ·have e1':caps[k]?=some q:=by simpa using e1
    have e2':(capv σ js)[k]?=some (some v):=by simpa using e2
    obtain ⟨j,a,q1,q2,q3,q4,q5⟩:=hcaps k q e1';obtain ⟨j',r1,r2⟩:=capv_get e2';rw [q1] at r1;cases r1;obtain ⟨m,hm,hl⟩:=I2.loc;obtain ⟨u,ru,lu⟩:=hl j q v q2 r2 (.inr (.inl q3));refine ⟨u,ru,.inr ⟨.inl q5,a,q4,?_⟩⟩;rcases lu with ⟨k1,_⟩ | ⟨_,c,ec,o,ho,hd⟩
    ·have k1':X.env.scope.names.lookup q=some .local:=k1;rw [q3] at k1';cases k1'
    ·have:=hsub _ (mem_of_lookup q4);rw [ec] at this;cases this;exact ⟨o,old _ _ ho,hd⟩
  ·obtain ⟨v,o,ho,hd⟩:=I2.cell q c (hsub _ (mem_of_lookup e));exact ⟨v,o,old _ _ ho,hd⟩
  ·show upd H2 s2.heap.objs.size (.lst []) G.objs.size=none;rw [Jg hDC.symm];exact I2.hok.fresh hCle
  ·have ec:=hsub _ (mem_of_lookup e);obtain ⟨v,o,ho,hd⟩:=I2.cell q c ec;rw [Jg (Nat.ne_of_lt (lt_size ho))];exact I2.freeC q c ec
  ·show (none :: none :: capv σ js).length=(x :: z :: caps).length;unfold capv;simp [hlen]
 have stat:∀ {H':Hp},(∀ b∈fp,H' b=none)->∀ b∈fp,FpOk (X.block (x :: z :: caps) scope cl G.objs.size fp s2 H2) [] H' b:=fun hn b hb =>
  ⟨hn b hb,Nat.ne_of_lt (Nat.lt_of_lt_of_le (fl b hb) hCle),(J6c (x:=x) (caps:=z :: caps) I2 hCle f2 fl hkind hcell hsub hhas).exfs b hb,.inl hb,fun q c e=>(f2 b hb).2.2.2.2.1 q c (hsub _ (mem_of_lookup e)),fun p hp=>absurd hp (by simp)⟩
 have hxl:(relabel scope X.env).names.lookup x=some .local:=lookup_relabel_local hx;have hzl:(relabel scope X.env).names.lookup z=some .local:=lookup_relabel_local hz';have loop:∀ tk,codeAny (model X.prog X.w) X.A (.compLoop (.ListComp elt [⟨.Tuple [.Name x px,.Name z pz] kk tp,iter,ifs,0⟩] scope pos) 0 (.ref it) (.ref s2.heap.objs.size) (compEnvC scope cl G.objs.size X.env))
   (compPost (model X.prog X.w) X.A X.xe use QV (.ref s2.heap.objs.size) G.objs.size) { s2 with heap:=h₁,toks:=tk }:=fun tk=>by
  refine J28 (fun m s'=>∃ (k:Nat) (o o2:Option V) (ys:List V) (H':Hp),Inv (X.block (x :: z :: caps) scope cl G.objs.size fp s2 H2) [] (o :: o2 :: capv σ js) H' s'/\tn k s'.heap/\(∀ b∈fp,H' b=none)/\W k m ys H') ?_ m0
   ⟨0,none,none,[],_,IY0 tk,T.keep _ _ _ st2 fun b hb o e=>old b o e,fun b hb=>by
    rw [Jg (show b≠s2.heap.objs.size from fun e=>hDf (by rw [<- e];exact hb))];exact (f2 b hb).1,w0⟩
  rintro m s3 ⟨k,o,o2,ys,H',I3,st3,fr3,w3⟩;obtain ⟨hd,hW3⟩:=hW k m ys H' w3;rcases hW3 with ⟨stop,q⟩ | ⟨go,hz,step⟩
  ·refine thn (T.done (X.block (x :: z :: caps) scope cl G.objs.size fp s2 H2) rfl rfl rfl hc k [] s3 _ _ (fun _ _=>False) I3 (stat fr3) st3 stop) fun r s4 h9=>?_;obtain ⟨hr,I4⟩:=h9;subst hr;have J5:Inv X pins σ H' s4:=I2.call' (ch:=fp) I4.os I4.base I4.hok I4.bare fun b hb=>⟨(f2 b hb).2.2.2.1,(f2 b hb).2.1,(f2 b hb).2.2.2.2.1,(f2 b hb).2.2.2.2.2⟩;exact fin _ H' s4 _ J5 q (by obtain ⟨m,q,_⟩:=I4.loc;exact ⟨m,q⟩) (I2.fpOk hCle I4.free)
  ·refine thn (T.item (X.block (x :: z :: caps) scope cl G.objs.size fp s2 H2) rfl rfl rfl hc k [] s3 _ _ (fun _ _=>False) I3 (stat fr3) st3 go) fun r s4 h9=>?_;obtain ⟨u,hr,h4⟩:=h9;subst hr;refine thn h4 fun _ s5 h9=>?_;obtain ⟨v,H5,I5,r5,y5,st5,fr5⟩:=h9;have I5':=I5.pinned (stat fr5) (T.obj _ _ st5);obtain ⟨pq,va,vb,rfl,sq5,stp⟩:=step v H5 y5;refine thn (pg_tup (X:=X.block (x :: z :: caps) scope cl G.objs.size fp s2 H2) (pos:=tp) (k:=kk) (n:=2) hc
     (J2p (J1p (X:=X.block (x :: z :: caps) scope cl G.objs.size fp s2 H2) (i:=0) (pos:=px) hnd rfl (.inl hxl) (.inr hxl))
      (J2p (J1p (X:=X.block (x :: z :: caps) scope cl G.objs.size fp s2 H2) (i:=1) (pos:=pz) hnd rfl (.inl hzl) (.inr hzl)) pgs_nil)) rfl rfl _ s5 _ _ _ u
    (fun σ' H'=>σ'=some va :: some vb :: capv σ js/\H'=H5) I5' r5 ⟨pq,[va,vb],rfl,sq5,rfl,va,[vb],rfl,vb,[],rfl,rfl,rfl,rfl⟩) fun _ s6 h9=>?_
   obtain ⟨σ6,H6,I6,q6⟩:=h9;obtain ⟨rfl,rfl⟩:=q6;refine thn (ht _ _ _ _ _ s6 _ _ _ I6 stp) fun ok s7 h9=>?_;obtain ⟨H7,I7,q7⟩:=h9;have back:∀ {s8:Shared} {H8:Hp} {o8 o9:Option V} {ys8:List V} {m':Nat},Inv (X.block (x :: z :: caps) scope cl G.objs.size fp s2 H2) ([] ++ pinsAt fp s5.heap) (o8 :: o9 :: capv σ js) H8 s8->m' < m->W (k + 1) m' ys8 H8->
     ∃ m',m' < m/\∃ (k:Nat) (o o2:Option V) (ys:List V) (H':Hp),Inv (X.block (x :: z :: caps) scope cl G.objs.size fp s2 H2) [] (o :: o2 :: capv σ js) H' s8/\tn k s8.heap/\(∀ b∈fp,H' b=none)/\W k m' ys H':=fun {s8 H8 o8 o9 ys8 m'} I8 hm w8=>by
    refine ⟨m',hm,k + 1,o8,o9,ys8,H8,I8.unpinned,T.keep _ _ _ st5 fun b hb o e=>(I8.pin (b,o) (mem_append_right _ (mem_append_right _ (J2g hb e)))).1,fun b hb=>?_,w8⟩;obtain ⟨o,e,d⟩:=T.obj _ _ st5 b hb;exact (I8.pin (b,o) (mem_append_right _ (mem_append_right _ (J2g hb e)))).2.1
   cases ok with
   | false =>
    have q7':∃ m',m' < m/\W (k + 1) m' ys H7:=by
     have:=q7;rwa [if_neg (by decide)] at this
    obtain ⟨m',hm,w8⟩:=q7';exact back I7 hm w8
   | true =>
    have q7':te (some va :: some vb :: capv σ js) H7 fun y H5=>H5 s2.heap.objs.size=some (.lst ys)/\∃ m',m' < m/\W (k + 1) m' (ys ++ [y]) (upd H5 s2.heap.objs.size (.lst (ys ++ [y]))):=by
     have:=q7;rwa [if_pos rfl] at this
    refine (show wpAny _ _ _ _ _ _ from thn (he _ _ _ _ _ s7 _ _ _ I7 q7') fun u8 s8 h9=>?_);obtain ⟨v8,H8,I8,r8,hd8,m',hm,w8⟩:=h9;refine thn (J2c (X:=X.block (x :: z :: caps) scope cl G.objs.size fp s2 H2) _ s8 _ _ (.ref s2.heap.objs.size) [v8] (.ref s2.heap.objs.size) [u8]
     (fun _ H'=>H'=upd H8 s2.heap.objs.size (.lst (ys ++ [v8]))) I8 rfl (.cons r8 .nil) ⟨s2.heap.objs.size,_,v8,rfl,rfl,hd8,hz,rfl⟩) fun _ s9 h9=>?_
    obtain ⟨_,H9,I9,_,q9⟩:=h9;subst q9;exact back I9 hm w8
 have st1:tn 0 h₁:=T.keep _ _ _ st2 fun b hb o e=>old b o e;exact codeAny_compStart_list (loop _) (T.self X.A 0 _ _ _ st1 (loop _))
theorem pe_lc2 (hc:X.calm=true) (hp:PI X (.Tuple [.Name x px,.Name z pz] kk tp) iter wi) (hclos:closureFor scope X.env=pure cl)
  (ht:∀ (C:Addr) (fp:List Addr) (s:Shared) (H:Hp),PTs (X.block (x :: z :: caps) scope cl C fp s H) ifs tc)
  (he:∀ (C:Addr) (fp:List Addr) (s:Shared) (H:Hp),PE (X.block (x :: z :: caps) scope cl C fp s H) elt te)
  (hcell:∀ p∈scope.names,p.2≠.cell) (hnames:∀ p∈scope.names,p.2=.local->scope.names.lookup p.1=some .local) (hnd:(x :: z :: caps).Nodup)
  (hsub:∀ p∈cl,X.env.cells.lookup p.1=some p.2)
  (hhas:freeOk scope cl=true:=by rfl) (hlen:caps.length=js.length:=by rfl) (hcaps:capsOk X scope cl caps js=true:=by rfl)
  (hkind:scope.kind=.function:=by rfl) (hx:scope.names.lookup x=some .local:=by rfl) (hz':scope.names.lookup z=some .local:=by rfl) (hs:∀ v,foldedSetIterable iter X.env v=pure v:=by intro _;rfl) :
  PE X (.ListComp elt [⟨.Tuple [.Name x px,.Name z pz] kk tp,iter,ifs,0⟩] scope pos) (tLC2 X.K wi tc te js):=by
 intro pins s σ H Q I h;rw [eval_ListComp];refine comp_core2 (use:=none) hc hp he ht hcell hnames hnd hsub (freeOk.get hhas) hlen (capsOk.get hlen hcaps) hclos hkind hx hz' hs I h fun d H' s5 C J5 q hC fp=>?_;obtain ⟨m,nsC⟩:=hC;exact ⟨m,nsC,fun h' hs'=>⟨.ref d,H',J5.turned (h':=h') (t':=s5.toks) (it:=C) (fun b o hb e=>(hs'.2 b hb).trans e) fp.1 fp.2.1 fp.2.2.2.1 fp.2.2.2.2.1 fp.2.2.2.2.2,rfl,q⟩⟩
end
section
variable {K:Frag} {a:Addr} {H1:Hp} {tc:TT} {te:TE} {σ:St} {js:List Nat} {Q:VK} {d:Addr}
theorem lc_enum (xs:List V) (g:Nat->Bool) (f:Nat->V) (hx:SqT K H1 a xs) (hn:xs.length<=sizeLine) (hd:H1 d=none)
  (hs:∀ (i:Nat) (v:V),xs[i]?=some v->∀ H Qt,Same H1 H->(∀ H',Same H H'->Qt (g i) H')->tc (some (.int (i:Nat)) :: some v :: capv σ js) H Qt)
  (he:∀ (i:Nat) (v:V),xs[i]?=some v->g i=true->∀ H Qe,Same H1 H->(∀ H',Same H H'->Qe (f i) H')->te (some (.int (i:Nat)) :: some v :: capv σ js) H Qe)
  (hq:∀ H',Same H1 H'->H' d=some (.lst (((List.range xs.length).filter g).map f))->Q (.ref d) H'):LCW2 K (Ite K a) tc te σ js Q H1 d:=by
 have s0:∀ o,Same H1 (upd H1 d o):=fun o b u e=>by rw [Jg (Jd e hd)];exact e
 refine ⟨fun i m ys H=>m=xs.length - i/\i<=xs.length/\ys=((List.range i).filter g).map f/\Same H1 H/\H d=some (.lst ys),⟨xs.length,rfl,Nat.zero_le _,rfl,s0 _,J3⟩,?_⟩;rintro i m ys H2 ⟨rfl,hi,rfl,sm,h2⟩;refine ⟨h2,?_⟩;by_cases hlt:i < xs.length
 ·refine .inr ⟨⟨_,_,sm.tup hx,List.getElem?_eq_getElem hlt⟩,?_,fun v H3 y3=>?_⟩
  ·have h1:(((List.range i).filter g).map f).length<=i:=by
    rw [length_map];exact Nat.le_trans (List.length_filter_le _ _) (by rw [length_range];exact Nat.le_refl _)
   lia
  ·obtain ⟨p,x,rfl,hp,rfl,hv⟩:=y3;have hv:=hv _ (sm.tup hx);have s3:Same H2 (upd H2 p (.tup [.int (i:Int),x])):=fun b u e=>by rw [Jg (Jd e hp)];exact e
   refine ⟨p,_,_,rfl,SqT.of J3,hs i x hv _ _ (sm.trans s3) fun H4 s4=>?_⟩
   cases hg:g i with
   | false =>
    rw [if_neg (by decide)];refine ⟨xs.length - (i + 1),by lia,rfl,hlt,?_,sm.trans (s3.trans s4),s4 _ _ (s3 _ _ h2)⟩;rw [range_succ,filter_append,map_append];simp [hg]
   | true =>
    rw [if_pos rfl];refine he i x hv hg H4 _ (sm.trans (s3.trans s4)) fun H5 s5=>⟨s5 _ _ (s4 _ _ (s3 _ _ h2)),xs.length - (i + 1),by lia,rfl,hlt,?_,?_,J3⟩
    ·rw [range_succ,filter_append,map_append];simp [hg]
    ·intro b u e;rw [Jg (Jd e hd)];exact s5 _ _ (s4 _ _ (s3 _ _ (sm _ _ e)))
 ·have e:i=xs.length:=by lia
  subst e;exact .inl ⟨⟨_,sm.tup hx,Nat.le_refl _⟩,hq H2 sm h2⟩
theorem lc_enumR (xs:List V) (Pr:Hp->Addr->Nat->Prop) (hx:SqT K H1 a xs) (hn:xs.length<=sizeLine) (hd:H1 d=none)
  (mono:∀ H H' q i,KeepD d H H'->q≠d->Pr H q i->Pr H' q i)
  (he:∀ (i:Nat) (v:V),xs[i]?=some v->∀ H Qe,Same H1 H->(∃ ys,H d=some (.lst ys))->(∀ q H',Same H H'->q≠d->Pr H' q i->Qe (.ref q) H')->te (some (.int (i:Nat)) :: some v :: capv σ js) H Qe)
  (hq:∀ ys H',Same H1 H'->H' d=some (.lst ys)->Refs (fun q i=>Pr H' q i) ys xs.length->Q (.ref d) H'):LCW2 K (Ite K a) tYes te σ js Q H1 d:=by
 have s0:∀ o,Same H1 (upd H1 d o):=fun o b u e=>by rw [Jg (Jd e hd)];exact e
 refine ⟨fun i m ys H=>m=xs.length - i/\i<=xs.length/\Same H1 H/\H d=some (.lst ys)/\Refs (fun q i=>q≠d/\Pr H q i) ys i,⟨_,rfl,Nat.zero_le _,s0 _,J3,Refs.nil⟩,?_⟩;rintro i m ys H2 ⟨rfl,hi,sm,h2,rf⟩;refine ⟨h2,?_⟩;by_cases hlt:i < xs.length
 ·refine .inr ⟨⟨_,_,sm.tup hx,List.getElem?_eq_getElem hlt⟩,by rw [rf.len];lia,fun v H3 y3=>?_⟩;obtain ⟨p,x,rfl,hp,rfl,hv⟩:=y3;have hv:=hv _ (sm.tup hx);have s3:Same H2 (upd H2 p (.tup [.int (i:Int),x])):=fun b u e=>by rw [Jg (Jd e hp)];exact e
  refine ⟨p,_,_,rfl,SqT.of J3,?_⟩;unfold tYes;dsimp only;rw [if_pos rfl];refine he i x hv _ _ (sm.trans s3) ⟨_,s3 _ _ h2⟩ fun q H5 s5 hqd hpq=>⟨s5 _ _ (s3 _ _ h2),xs.length - (i + 1),by lia,rfl,hlt,?_,J3,?_⟩
  ·intro b u e;rw [Jg (Jd e hd)];exact s5 _ _ (s3 _ _ (sm _ _ e))
  ·have kd:∀ H,KeepD d H (upd H d (.lst (ys ++ [.ref q]))):=fun H b o e n=>by rw [Jg n];exact e
   refine (rf.mono fun a j _ x=>⟨x.1,?_⟩).snoc ⟨hqd,mono _ _ _ _ (kd _) hqd hpq⟩;exact mono _ _ _ _ (fun b o e n=>kd _ _ _ (s5 _ _ (s3 _ _ e)) n) x.1 x.2
 ·have e:i=xs.length:=by lia
  subst e;exact .inl ⟨⟨_,sm.tup hx,Nat.le_refl _⟩,hq ys H2 sm h2 (rf.mono fun _ _ _ x=>x.2)⟩
end
end L2
namespace Rl
section
variable {f:Int->Int} {pc:Int->Nat} {p:Nat}
theorem count_row (b:Band) (o:Nat):((rowPl f b o).countP (fun x=>decide (pc x=p)):Int)=vis f pc p b.2.2.1.toNat (b.1 + (o:Int)):=by
 unfold rowPl
 induction b.2.2.1.toNat with
 | zero=>rfl
 | succ n ih =>
  rw [range_succ,map_append,List.countP_append];show ((_ + List.countP _ [itN f n (b.1 + (o:Int))]:Nat):Int)=vis f pc p n _ + (if pc (itN f n (b.1 + (o:Int)))=p then 1 else 0);rw [Int.natCast_add,ih];by_cases c:pc (itN f n (b.1 + (o:Int)))=p
  ·rw [if_pos c,List.countP_cons_of_pos (by simpa using c)];rfl
  ·rw [if_neg c,List.countP_cons_of_neg (by simpa using c)];rfl
theorem count_band {b:Band} {v:Int} (h0:0<=b.2.1) (h:∀ o,0<=o->o < b.2.1->vis f pc p b.2.2.1.toNat (b.1 + o)=v):((J73 f b).countP (fun x=>decide (pc x=p)):Int)=b.2.1 * v:=by
 unfold J73;have:∀ n:Nat,(n:Int)<=b.2.1->(((List.range n).flatMap (rowPl f b)).countP (fun x=>decide (pc x=p)):Int)=(n:Int) * v:=by
  intro n
  induction n with
  | zero=>intro _;simp
  | succ n ih =>
   intro hn;rw [range_succ,List.flatMap_append,List.countP_append,Int.natCast_add,ih (by lia),List.flatMap_singleton,count_row,h n (by lia) (by lia),show ((n + 1:Nat):Int)=(n:Int) + 1 by lia,Int.add_mul,Int.one_mul]
 have e:=this b.2.1.toNat (by lia);rw [e];rw [Int.toNat_of_nonneg h0]
theorem count_all {g:Band->Int}:∀ {bs:List Band},(∀ b∈bs,0<=b.2.1/\∀ o,0<=o->o < b.2.1->vis f pc p b.2.2.1.toNat (b.1 + o)=g b)->((allPl f bs).countP (fun x=>decide (pc x=p)):Int)=(bs.map fun b=>b.2.1 * g b).sum
 | [],_=>rfl
 | b :: bs,h=>by
  have ih:=count_all (bs:=bs) fun c hc=>h c (mem_cons_of_mem _ hc);have hb:=h b mem_cons_self;unfold allPl at ih ⊢;rw [List.flatMap_cons,List.countP_append,Int.natCast_add,ih,count_band hb.1 hb.2,map_cons,sum_cons]
theorem J5f (a l:Int) (ha:0<=a) (hl:0<=l):∀ n:Nat,((((List.range n).map fun (i:Nat)=>(i:Int)).countP fun x=>decide (a<=x/\x < a + l)):Int)=(if (n:Int)<=a then 0 else if (n:Int)<=a + l then (n:Int) - a else l)
 | 0=>by
  rw [if_pos (by lia)];rfl
 | n + 1=>by
  rw [range_succ,map_append,List.countP_append,Int.natCast_add,J5f a l ha hl n];show _ + ((List.countP _ [((n:Nat):Int)]:Nat):Int)=_;by_cases c:a<=(n:Int)/\(n:Int) < a + l
  ·rw [List.countP_cons_of_pos (by simpa using c)];show _ + ((0 + 1:Nat):Int)=_;split <;> split <;> (try split) <;> lia
  ·rw [List.countP_cons_of_neg (by simpa using c)];show _ + ((0:Nat):Int)=_;split <;> split <;> (try split) <;> lia
theorem Sys.perm {N:Int} {bs:List Band} (S:Sys f N bs):(allPl f bs).Perm ((List.range N.toNat).map fun (i:Nat)=>(i:Int)):=by
 refine (List.perm_ext_iff_of_nodup S.nodup ?_).mpr fun x=>⟨fun h=>?_,fun h=>?_⟩
 ·exact pairwise_map.mpr (nodup_range.imp fun {a b} h e=>h (by lia))
 ·have:=S.all_in h;exact mem_map.mpr ⟨x.toNat,mem_range.mpr (by lia),by lia⟩
 ·obtain ⟨i,hi,rfl⟩:=mem_map.mp h;have:=mem_range.mp hi;exact mem_allPl.mpr (S.exists (by lia) (by lia))
theorem Sys.pieces {N:Int} {bs:List Band} (S:Sys f N bs) {g:Band->Int} (h:∀ b∈bs,0<=b.2.1/\∀ o,0<=o->o < b.2.1->vis f pc p b.2.2.1.toNat (b.1 + o)=g b) {a l:Int} (ha:0<=a) (hl:1<=l) (hN:a + l<=N) (hp:∀ x,0<=x->x < N->(pc x=p↔a<=x/\x < a + l)) :
  (bs.map fun b=>b.2.1 * g b).sum=l:=by
 rw [<- count_all h,S.perm.countP_eq];have e:∀ ys:List Int,(∀ x∈ys,0<=x/\x < N)->ys.countP (fun x=>decide (pc x=p))=ys.countP (fun x=>decide (a<=x/\x < a + l)):=fun ys hy=>List.countP_congr fun x hx=>by
  have:=hp x (hy x hx).1 (hy x hx).2;simp only [decide_eq_true_eq];exact this
 rw [e _ fun x hx=>by
  obtain ⟨i,hi,rfl⟩:=mem_map.mp hx;have:=mem_range.mp hi;lia]
 rw [J5f a l ha (by lia)];split
 ·lia
 ·split <;> lia
end
end Rl
namespace R42
open PySem L2 Rl
def top (i:Nat):Stmt:=PySem.Challenge.pw_relaid_k42_whole_visits_of_great_lines.main.body.getD i (.Pass ⟨0,0,0,0⟩)
abbrev sMoved:Stmt:=top 8
abbrev sRefL:Stmt:=top 11
abbrev sRefO:Stmt:=top 12
abbrev sRefT:Stmt:=top 13
abbrev sTold:Stmt:=top 14
abbrev sFirst:Stmt:=top 15
abbrev sLenOf:Stmt:=top 19
abbrev sRestOf:Stmt:=top 20
abbrev sLetIn:Stmt:=top 21
abbrev sGone:Stmt:=top 22
abbrev sLetter:Stmt:=top 23
abbrev sRGoes:Stmt:=top 24
abbrev sRComes:Stmt:=top 25
abbrev sShare:Stmt:=top 27
abbrev sComeF:Stmt:=top 28
abbrev sAddr:Stmt:=top 29
abbrev sRefA:Stmt:=top 30
abbrev sPart1:Stmt:=top 32
abbrev sPart2:Stmt:=top 33
abbrev sPartD:Stmt:=top 34
abbrev sGoneB:Stmt:=top 35
abbrev sHomes:Stmt:=top 36
abbrev sPlace:Stmt:=top 37
abbrev sTallyA:Stmt:=top 40
abbrev sFloorV:Stmt:=top 41
abbrev sVisits:Stmt:=top 42
abbrev sBandV:Stmt:=top 43
abbrev J7d:Stmt:=top 45
abbrev J7f:Stmt:=top 46
abbrev sPut:Stmt:=top 47
abbrev J7e:Stmt:=top 48
abbrev sShort:Stmt:=top 49
abbrev sTurnsB:Stmt:=top 50
abbrev sTimes:Stmt:=top 58
abbrev sOverS:Stmt:=top 59
abbrev sUnderS:Stmt:=top 60
abbrev sNext:Stmt:=top 61
abbrev sFirstT:Stmt:=top 63
abbrev sTowB:Stmt:=top 64
abbrev sBandsL:Stmt:=top 65
abbrev sOther:Stmt:=top 68
abbrev sAdAf:Stmt:=top 69
abbrev sAfter:Stmt:=top 70
abbrev sCell:Stmt:=top 72
abbrev sDrawn3:Stmt:=top 73
abbrev sWhole:Stmt:=top 74
abbrev sGreat:Stmt:=top 75
abbrev sPiece:Stmt:=top 76
abbrev sToldV:Stmt:=top 77
abbrev sMany:Stmt:=top 78
abbrev sSumV:Stmt:=top 79
abbrev J7g:Stmt:=top 80
abbrev sLaw:Stmt:=top 81
abbrev sInit:Stmt:=J11 (top 16) 0
abbrev sRInit:Stmt:=J11 (top 18) 0
abbrev sPaInit:Stmt:=J11 (top 31) 0
abbrev sTaInit:Stmt:=J11 (top 39) 0
abbrev sStInit:Stmt:=J11 (top 51) 0
abbrev J5m:Stmt:=J11 (top 51) 2
abbrev sStOwn:Stmt:=J11 (top 51) 3
abbrev sHoInit:Stmt:=J11 (top 52) 0
abbrev sHoWord:Stmt:=J11 (top 52) 1
abbrev J5q:Stmt:=J11 (top 52) 2
abbrev J5r:Stmt:=J11 (top 52) 3
abbrev sEvInit:Stmt:=J11 (top 53) 0
abbrev sEvWord:Stmt:=J11 (top 53) 1
abbrev sEvOwn:Stmt:=J11 (top 53) 2
abbrev J5s:Stmt:=J11 (top 53) 3
abbrev sOvInit:Stmt:=J11 (top 54) 0
abbrev sOvWord:Stmt:=J11 (top 54) 1
abbrev sOvOwn:Stmt:=J11 (top 54) 2
abbrev J5n:Stmt:=J11 (top 54) 3
abbrev sUnInit:Stmt:=J11 (top 55) 0
abbrev sUnWord:Stmt:=J11 (top 55) 1
abbrev J5l:Stmt:=J11 (top 55) 2
abbrev sOsInit:Stmt:=J11 (top 56) 0
abbrev sOsWord:Stmt:=J11 (top 56) 1
abbrev J5o:Stmt:=J11 (top 56) 2
abbrev sOsOwn:Stmt:=J11 (top 56) 3
abbrev J5p:Stmt:=J11 (top 56) 4
abbrev sUsInit:Stmt:=J11 (top 57) 0
abbrev sUsWord:Stmt:=J11 (top 57) 1
abbrev J5j:Stmt:=J11 (top 57) 2
abbrev J5k:Stmt:=J11 (top 57) 3
abbrev sChInit:Stmt:=J11 (top 66) 0
abbrev iV (ns:List Int):List V:=ns.map V.int
abbrev nV (os:List Nat):List V:=(natI os).map V.int
abbrev bV (bs:List Bool):List V:=bs.map V.bl
def SqH (H:Hp) (p:Addr) (xs:List V):Prop:=H p=some (.lst xs)\/H p=some (.tup xs)
theorem SqH.sq {K:Frag} {H:Hp} {p:Addr} {xs:List V} (h:SqH H p xs):SqL K H p xs\/SqT K H p xs:=h.elim (fun h=>.inl (SqL.of h)) fun h=>.inr (SqT.of h)
theorem SqH.same {H H':Hp} {p:Addr} {xs:List V} (h:SqH H p xs) (s:Same H H'):SqH H' p xs:=h.elim (fun h=>.inl (s _ _ h)) fun h=>.inr (s _ _ h)
theorem Ja {H:Hp} {l:Addr} {o:HO} (h:H l=none):Same H (upd H l o):=fun b u e=>by rw [Jg (Jd e h)];exact e
theorem iteD {c A B:Prop} [Decidable c] (hc:¬ c) (h:B):if decide c=true then A else B:=by
 rw [decide_eq_false hc];exact iteF h
theorem iteDT {c A B:Prop} [Decidable c] (hc:c) (h:A):if decide c=true then A else B:=by
 rw [decide_eq_true hc];exact iteT h
theorem iteBT {c:Bool} {A B:Prop} (h:c=true) (q:A):if c=true then A else B:=by rw [if_pos h];exact q
theorem iteBF {c:Bool} {A B:Prop} (h:¬ c=true) (q:B):if c=true then A else B:=by rw [if_neg h];exact q
theorem J1t {K:Frag} {H:Hp} {p:Addr} {xs:List V} {Q:VK} (h:SqH H p xs) (k:∀ l H',Same H H'->H' l=some (.tup xs)->Q (.ref l) H'):rTup K [V.ref p] H Q:=by
 unfold rTup;rcases h with h | h
 ·exact ⟨p,xs,rfl,.inl ⟨SqL.of h,fun l hl=>k l _ (Ja hl) J3⟩⟩
 ·exact ⟨p,xs,rfl,.inr ⟨SqT.of h,k p H (Same.refl _) h⟩⟩
theorem vint_ne {i j:Int} (h:i≠j):¬ V.int i=V.int j:=fun e=>h (V.int.inj e)
theorem J6v {n o:Nat} (h:o < n):ixN n (o:Int)=some o:=by
 unfold ixN;rw [if_pos (by lia),if_pos (by lia)];simp
theorem J15 {ns:List Int} {j:Nat} (h:j < ns.length):(iV ns)[j]?=some (V.int (ns.getD j 0)):=by
 rw [getElem?_map,List.getElem?_eq_getElem h,getD_eq_getElem?_getD,List.getElem?_eq_getElem h];rfl
theorem J7s (ns:List Int) (j:Nat) (z:Int):(iV ns).set j (V.int z)=iV (ns.set j z):=by
 show (ns.map V.int).set j (V.int z)=(ns.set j z).map V.int;rw [List.map_set]
theorem nV_get {os:List Nat} {j:Nat} {y:V} (h:(nV os)[j]?=some y):j < os.length/\y=V.int (os.getD j 0:Nat)/\os.getD j 0∈os:=by
 have hj:j < os.length:=by
  have:=(List.getElem?_eq_some_iff.mp h).1;simpa [natI] using this
 refine ⟨hj,?_,?_⟩
 ·rw [getElem?_map] at h;unfold natI at h;rw [getElem?_map,List.getElem?_eq_getElem hj] at h;rw [getD_eq_getElem?_getD,List.getElem?_eq_getElem hj];exact (Option.some.inj h).symm
 ·rw [getD_eq_getElem?_getD,List.getElem?_eq_getElem hj];exact List.getElem_mem hj
theorem J67 (n:Nat):(List.replicate n [V.int 0]).flatten=iV (List.replicate n 0):=by
 induction n with
 | zero=>rfl
 | succ n ih=>rw [replicate_succ,flatten_cons,ih,replicate_succ];rfl
theorem flat_false (n:Nat):(List.replicate n [V.bl false]).flatten=bV (List.replicate n false):=by
 induction n with
 | zero=>rfl
 | succ n ih=>rw [replicate_succ,flatten_cons,ih,replicate_succ];rfl
theorem J18 {f:Str} {v:V} {fs:List (Str × V)}:(putF f v fs).lookup f=some v:=by rw [J2z,if_pos rfl]
theorem lk_ne {f g:Str} {v:V} {fs:List (Str × V)} (h:¬ g=f):(putF f v fs).lookup g=fs.lookup g:=by rw [J2z,if_neg h]
theorem J26 (ls:List Int):(iV ls).length=ls.length:=length_map ..
def KeepX (x:Addr) (H H':Hp):Prop:=∀ b o,H b=some o->b≠x->H' b=some o
theorem KeepX.of {x:Addr} {H H':Hp} (s:Same H H'):KeepX x H H':=fun b o e _=>s b o e
theorem KeepX.trans {x:Addr} {H H1 H2:Hp} (a:KeepX x H H1) (b:KeepX x H1 H2):KeepX x H H2:=fun c o e n=>b c o (a c o e n) n
theorem KeepX.upd {x:Addr} {H:Hp} {o:HO}:KeepX x H (upd H x o):=fun b u e n=>by rw [Jg n];exact e
theorem KeepX.sqH {x p:Addr} {H H':Hp} {xs:List V} (k:KeepX x H H') (h:SqH H p xs) (n:p≠x):SqH H' p xs:=h.elim (fun h=>.inl (k _ _ h n)) fun h=>.inr (k _ _ h n)
theorem SqH.ne {H:Hp} {p x C dx:Addr} {xs:List V} {fs:List (Str × V)} (h:SqH H p xs) (hx:H x=some (.ins C dx fs)):p≠x:=h.elim (fun h=>ne_of h hx (by intro z;cases z)) fun h=>ne_of h hx (by intro z;cases z)
theorem J7v {ts:List Bool} {j:Nat} (h:j < ts.length):(bV ts)[j]?=some (V.bl (ts.getD j false)):=by
 rw [getElem?_map,List.getElem?_eq_getElem h,getD_eq_getElem?_getD,List.getElem?_eq_getElem h];rfl
structure TxtX (K:Frag) (mg:Str->Option Value) (x:Str) (CO:Addr):Prop where
 mg:mg x=some (.ref CO)
 ex:excIn K CO bmV "ValueError.__new__"=true
structure TxtR (mg:Str->Option Value):Prop where
 len:mg "len"=none
 sum:mg "sum"=none
 tuple:mg "tuple"=none
 list:mg "list"=none
 range:mg "range"=none
theorem nV_eq (row:List Nat):nV row=row.map fun (j:Nat)=>V.int (j:Int):=by
 show (row.map fun (n:Nat)=>(n:Int)).map V.int=_;rw [map_map];rfl
theorem J6s (row:List Nat):(nV row).length=row.length:=by rw [nV_eq,length_map]
theorem nV_at {row:List Nat} {i:Nat} (h:i < row.length):(nV row)[i]?=some (V.int (row.getD i 0:Nat)):=by
 rw [nV_eq,getElem?_map,getD_eq_getElem?_getD,List.getElem?_eq_getElem h];rfl
section
variable {P:Program} {w:World} {K:Frag} {mg:Str->Option Value} {base:Heap}
def spFirst:Sp:=fun vs H Q _=>∃ (p q:Addr) (ls:List Int) (os:List Nat),vs=[.ref p,.ref q]/\H p=some (.tup (iV ls))/\SqH H q (nV os)/\(∀ o∈os,o < ls.length)/\ls.length<=24/\
 ∀ l H',Same H H'->H' l=some (.tup (iV (firsts ls os)))->Q (.ref l) H'
theorem scFirst:FnScope ["lengths","order","firsts","place","piece"] ["lengths","order"] (J7 sFirst):=fS
def PvF (p q fl:Addr) (ls:List Int) (os:List Nat) (H:Hp) (i:Nat) (σ:St) (H2:Hp):Prop :=
 ∃ v,σ=[some (.ref p),some (.ref q),some (.ref fl),some (.int (sumsF ls os i).2),v]/\H2 fl=some (.lst (iV (sumsF ls os i).1))/\H fl=none/\Same H H2
theorem ok_first {f:Addr} {fd:FuncData} (F:Fun K "first_places" "first_places" sFirst f fd) (T:TxtR mg):FnOk P w K mg base CX0 1 f fd ["lengths","order"] spFirst:=by
 refine F.ok scFirst (fun vs H Q E h=>?_) (fun cdv A outer s H vs Q E hr h=>?_)
 ·obtain ⟨p,q,ls,os,rfl,_⟩:=h;rfl
 ·obtain ⟨p,q,ls,os,rfl,hp,hq,hlt,hn,k⟩:=h;have hl:(iV ls).length=ls.length:=length_map ..;have turn:∀ (fl:Addr) (i:Nat) (y:V) (σ:St) (H2:Hp) (D:Ends),(nV os)[i]?=some y->PvF p q fl ls os H i σ H2->D.nx=PvF p q fl ls os H (i + 1)->
    gName 4 y σ H2 fun σ2 H2=>tSeq (tAsg (tVar 3) (gSub (tVar 2) (tVar 4) rSetL)) (tAsg (tOp (rI0 fun i j=>.int (i + j)) (tVar 3) (tOp (rIxT K) (tVar 0) (tVar 4))) (gName 3)) D σ2 H2:=by
   rintro fl i y σ H2 D hy ⟨v,rfl,h1,h2,h3⟩ hD;obtain ⟨hi,rfl,hm⟩:=nV_get hy;have ho:=hlt _ hm;refine ⟨_,rfl,_,rfl,_,rfl,fl,_,_,os.getD i 0,rfl,rfl,h1,J6v (by rw [length_map,J3x];exact ho),?_⟩;refine ⟨_,rfl,_,rfl,_,rfl,p,_,_,_,rfl,rfl,SqT.of (xs:=iV ls) ?_,J8 (J15 ho),_,_,rfl,rfl,?_⟩
   ·rw [Jg (ne_of (h3 _ _ hp) h1 (by intro z;cases z))];exact h3 _ _ hp
   ·show D.nx _ _;rw [hD];refine ⟨_,rfl,?_,h2,fun b o e=>?_⟩
    ·rw [J3,J7s];rfl
    ·rw [Jg (Jd e h2)];exact h3 _ _ e
  have start0:∀ fl,H fl=none->∀ H1,Same H H1->H1 fl=some (.lst (iV (List.replicate ls.length 0)))->PvF p q fl ls os H 0 [some (.ref p),some (.ref q),some (.ref fl),some (.int 0),none] H1:=fun fl h1 H1 h2 h3=>⟨none,rfl,h3,h1,h2⟩;have done:∀ fl (σ:St) (H2:Hp),PvF p q fl ls os H (nV os).length σ H2->tRet (tCB (rTup K) (tCons (tVar 2) tNil)) { nx:=fun _ H'=>Q .non H',rt:=Q } σ H2:=by
   rintro fl σ H2 ⟨v,rfl,h1,h2,h3⟩;have e:(nV os).length=os.length:=by simp [natI]
   rw [e] at h1;exact ⟨_,rfl,J1t (.inl h1) fun l H' s hl=>k l _ (h3.trans s) hl⟩
  have rep:∀ fl,H fl=none->∀ l2,(upd H fl (.lst [V.int 0])) l2=none->PvF p q l2 ls os H 0 [some (.ref p),some (.ref q),some (.ref l2),some (.int 0),none] (upd (upd H fl (.lst [V.int 0])) l2 (.lst (List.replicate ((iV ls).length:Int).toNat [V.int 0]).flatten)):=fun fl hf l2 h2 =>
   start0 l2 ((Ja hf).free h2) _ ((Ja hf).trans (Ja h2)) (by rw [J3,J67,hl];rfl)
  rcases hq with hq | hq
  ·refine ⟨_,J1 (Jh (i:=2) scFirst.nd rfl (Or.inl rfl) (pe_op op_rep (J3d (J0 Jb J4)) (Jn Jk (by rfl) T.len boot_len (J0 (pv 0) J4))))
    (J1 (Jh (i:=3) scFirst.nd rfl (Or.inl rfl) Jb)
    (J1 (J4g PassesOwn.never rfl (pi_list (pv 1)) (J1p (i:=4) scFirst.nd rfl (Or.inl rfl)) (J1 (J7k (pv 3) (pg_sub (pv 2) (pv 4) J3n)) (J6 (Jh (i:=3) scFirst.nd rfl (Or.inl rfl) (pe_op J19 (pv 3) (pe_ix Ji (pv 0) (pv 4) (fun _ _=>rfl)))))))
    (J6 (Jl (Jo J1g (by rfl) T.tuple boot_tuple (J0 (pv 2) J4)))))),?_⟩
   refine ⟨by show 1<=sizeLine;decide,fun fl hf=>⟨_,rfl,p,_,rfl,.inr (SqT.of (Ja hf _ _ hp)),fl,_,[V.int 0],rfl,rfl,J3,by lia,by lia,?_,fun l2 h2=>?_⟩⟩
   ·show 1 * ((iV ls).length:Int).toNat<=sizeLine;have:=J1e (n:=ls.length) (by lia);lia
   ·have p0:=rep fl hf l2 h2;exact ⟨_,rfl,q,rfl,⟨_,SqL.of (((Ja hf).trans (Ja h2)) _ _ hq)⟩,for_list (K:=K) (a:=q) (xs:=nV os) (PvF p q l2 ls os H) p0 (fun i σ H2 _ h9=>by obtain ⟨_,_,_,_,s⟩:=h9;exact SqL.of (s _ _ hq)) (fun i y σ H2 hi pv=>turn l2 i y σ H2 _ hi pv rfl) (fun σ H2 pv=>done l2 σ H2 pv)⟩
  ·refine ⟨_,J1 (Jh (i:=2) scFirst.nd rfl (Or.inl rfl) (pe_op op_rep (J3d (J0 Jb J4)) (Jn Jk (by rfl) T.len boot_len (J0 (pv 0) J4))))
    (J1 (Jh (i:=3) scFirst.nd rfl (Or.inl rfl) Jb)
    (J1 (J4g PassesOwn.never rfl (J6o (pv 1)) (J1p (i:=4) scFirst.nd rfl (Or.inl rfl)) (J1 (J7k (pv 3) (pg_sub (pv 2) (pv 4) J3n)) (J6 (Jh (i:=3) scFirst.nd rfl (Or.inl rfl) (pe_op J19 (pv 3) (pe_ix Ji (pv 0) (pv 4) (fun _ _=>rfl)))))))
    (J6 (Jl (Jo J1g (by rfl) T.tuple boot_tuple (J0 (pv 2) J4)))))),?_⟩
   refine ⟨by show 1<=sizeLine;decide,fun fl hf=>⟨_,rfl,p,_,rfl,.inr (SqT.of (Ja hf _ _ hp)),fl,_,[V.int 0],rfl,rfl,J3,by lia,by lia,?_,fun l2 h2=>?_⟩⟩
   ·show 1 * ((iV ls).length:Int).toNat<=sizeLine;have:=J1e (n:=ls.length) (by lia);lia
   ·have p0:=rep fl hf l2 h2;exact ⟨_,rfl,q,rfl,⟨_,SqT.of (((Ja hf).trans (Ja h2)) _ _ hq)⟩,for_tup (K:=K) (a:=q) (xs:=nV os) (PvF p q l2 ls os H) p0 (fun i σ H2 _ h9=>by obtain ⟨_,_,_,_,s⟩:=h9;exact SqT.of (s _ _ hq)) (fun i y σ H2 hi pv=>turn l2 i y σ H2 _ hi pv rfl) (fun σ H2 pv=>done l2 σ H2 pv)⟩
structure FieldsAt (K:Frag) (H:Hp) (x:Addr) (ls:List Int) (ts:List Bool):Prop where
 ex:∃ (C dx:Addr) (fs:List (Str × V)) (pl pt:Addr),H x=some (.ins C dx fs)/\Cls K C/\NoAttr K C "lengths"/\NoAttr K C "turned"/\fs.lookup ("lengths":Str)=some (.ref pl)/\fs.lookup ("turned":Str)=some (.ref pt)/\H pl=some (.tup (iV ls))/\H pt=some (.tup (bV ts))
def spMovedF (K:Frag):Sp:=fun vs H Q _=>∃ (x p:Addr) (ls:List Int) (ts:List Bool) (fs:List Int) (j:Nat) (off:Int),vs=[.ref x,.int j,.int off,.ref p]/\FieldsAt K H x ls ts/\H p=some (.tup (iV fs))/\fs.length=ls.length/\ts.length=ls.length/\j < ls.length/\Q (.int (moveN ls ts j off fs)) H
theorem scMoved:FnScope ["line","piece","offset","firsts"] ["line","piece","offset","firsts"] (J7 sMoved):=fS
theorem ok_movedF {f:Addr} {fd:FuncData} (F:Fun K "moved" "moved" sMoved f fd):FnOk P w K mg base CX0 1 f fd ["line","piece","offset","firsts"] (spMovedF K):=by
 refine F.ok scMoved (fun vs H Q E h=>?_) (fun cdv A outer s H vs Q E hr h=>?_)
 ·obtain ⟨x,p,ls,ts,fs,j,off,rfl,_⟩:=h;rfl
 ·obtain ⟨x,p,ls,ts,fs,j,off,rfl,L,hp,hl,ht,hj,k⟩:=h;obtain ⟨C,dx,fl,pl,pt,h0,cl,nL,nT,k1,k3,e1,e3⟩:=L.ex;refine ⟨_,J1 (ps_if (J2o (pe_ix Ji (J9 (pv 0) rfl) (pv 1) (fun _ _=>rfl))) (J6 (Jl (pe_op J2a (pe_op J2a (pe_op J19 (pe_ix Ji (pv 3) (pv 1) (fun _ _=>rfl)) (pe_ix Ji (J9 (pv 0) rfl) (pv 1) (fun _ _=>rfl))) Jb) (pv 2)))) Jx)
   (J6 (Jl (pe_op J19 (pe_ix Ji (pv 3) (pv 1) (fun _ _=>rfl)) (pv 2)))),?_⟩
  refine ⟨_,rfl,x,C,dx,fl,_,rfl,h0,cl,nT,k3,_,rfl,pt,_,_,_,rfl,rfl,SqT.of e3,J8 (J7v (by rw [ht];exact hj)),_,rfl,?_⟩;unfold moveN at k;by_cases c:ts.getD j false=true
  ·rw [if_pos c] at k;rw [if_pos c];exact ⟨_,rfl,_,rfl,p,_,_,_,rfl,rfl,SqT.of hp,J8 (J15 (by rw [hl];exact hj)),_,rfl,x,C,dx,fl,_,rfl,h0,cl,nL,k1,_,rfl,pl,_,_,_,rfl,rfl,SqT.of e1,J8 (J15 hj),_,_,rfl,rfl,_,_,rfl,rfl,_,rfl,_,_,rfl,rfl,k⟩
  ·rw [if_neg c] at k;rw [if_neg c];exact ⟨_,rfl,_,rfl,p,_,_,_,rfl,rfl,SqT.of hp,J8 (J15 (by rw [hl];exact hj)),_,rfl,_,_,rfl,rfl,k⟩
end
end R42
namespace R42
open PySem L2 Rl
structure Good (ls:List Int) (os:List Nat):Prop where
 lo:1<=ls.length
 hi:ls.length<=24
 pos:∀ a∈ls,1<=a
 sum:ls.sum<=10 ^ 30
 perm:os.Perm (List.range ls.length)
theorem Good.olt {ls:List Int} {os:List Nat} (g:Good ls os):∀ o∈os,o < ls.length:=fun o h=>mem_range.mp (g.perm.mem_iff.mp h)
structure Txt (K:Frag) (mg:Str->Option Value):Prop where
 len:mg "len"=none
 min:mg "min"=none
 sum:mg "sum"=none
 sorted:mg "sorted"=none
 list:mg "list"=none
 range:mg "range"=none
 tuple:mg "tuple"=none
 most:∃ t,mg "MOST_PIECES"=some (.int 24 t)
section
variable {P:Program} {w:World} {K:Frag} {mg:Str->Option Value} {base:Heap}
def spRefL:Sp:=fun vs H Q _=>∃ (p:Addr) (ls:List Int) (os:List Nat),vs=[.ref p]/\SqH H p (iV ls)/\Good ls os/\Q .non H
theorem scRefL:FnScope ["lengths"] ["lengths"] (J7 sRefL):=fS
theorem ok_refL {f:Addr} {fd:FuncData} (F:Fun K "refuse_lengths" "refuse_lengths" sRefL f fd) (T:Txt K mg):FnOk P w K mg base CX0 1 f fd ["lengths"] spRefL:=by
 refine F.ok scRefL (fun vs H Q E h=>?_) (fun cdv A outer s H vs Q E hr h=>?_)
 ·obtain ⟨p,ls,os,rfl,_⟩:=h;rfl
 ·obtain ⟨p,ls,os,rfl,hp,g,k⟩:=h;obtain ⟨t24,h24⟩:=T.most;have g1:=g.lo;have g2:=g.hi;refine ⟨_,J1 (ps_if (Jr op_eq (Jn Jk (by rfl) T.len boot_len (J0 (pv 0) J4)) Jb (J13 _)) (J6 J3p) Jx)
   (J1 (ps_if (Jr op_gt (Jn Jk (by rfl) T.len boot_len (J0 (pv 0) J4)) (pe_glob (v:=.int 24) rfl h24 ⟨_,rfl⟩) (J13 _)) (J6 J3p) Jx)
   (J1 (ps_if (Jr op_lt (Jn (call_min rfl) (by rfl) T.min boot_min (J0 (pv 0) J4)) Jb (J13 _)) (J6 J3p) Jx)
   (J6 (ps_if (Jr op_gt (Jn (J3v rfl) (by rfl) T.sum boot_sum (J0 (pv 0) J4)) (pe_op op_pow Jb Jb) (J13 _)) (J6 J3p) Jx)))),?_⟩
  have hl:(iV ls).length=ls.length:=length_map ..;refine ⟨_,rfl,p,_,rfl,hp.sq,rfl,_,rfl,iteD (vint_ne (by rw [hl];lia)) ?_⟩;refine ⟨_,rfl,p,_,rfl,hp.sq,_,_,rfl,rfl,_,rfl,iteD (by rw [hl];lia) ?_⟩;refine ⟨_,rfl,p,ls,rfl,hp.sq,by lia,fun M hM hall=>⟨_,_,rfl,rfl,_,rfl,iteD (by have:=g.pos M hM;lia) ?_⟩⟩;refine ⟨_,rfl,p,ls,rfl,hp.sq,_,_,rfl,rfl,⟨by decide,by decide,by decide⟩,_,_,rfl,rfl,_,rfl,iteD ?_ ?_⟩
  ·have:=g.sum;show ¬ (10:Int) ^ 30 < ls.sum;lia
  ·exact k
def spRefO:Sp:=fun vs H Q _=>∃ (q:Addr) (os:List Nat) (n:Nat),vs=[.ref q,.int n]/\SqH H q (nV os)/\os.Perm (List.range n)/\n<=24/\∀ H',Same H H'->Q .non H'
theorem scRefO:FnScope ["order","pieces"] ["order","pieces"] (J7 sRefO):=fS
theorem ok_refO {f:Addr} {fd:FuncData} (F:Fun K "refuse_order" "refuse_order" sRefO f fd) (T:Txt K mg):FnOk P w K mg base CX0 1 f fd ["order","pieces"] spRefO:=by
 refine F.ok scRefO (fun vs H Q E h=>?_) (fun cdv A outer s H vs Q E hr h=>?_)
 ·obtain ⟨q,os,n,rfl,_⟩:=h;rfl
 ·obtain ⟨q,os,n,rfl,hq,hp,hn,k⟩:=h;have hu:=hr.units0;refine ⟨_,J6 (ps_if (Jr (op_neL hu) (Jn call_sorted (by rfl) T.sorted PyProof.Rows.boot_sorted (J0 (pv 0) J4))
   (Jo (J2v rfl) (by rfl) T.list boot_list (J0 (Jo J7u (by rfl) T.range PyProof.Rows.boot_range (J0 (pv 1) J4)) J4)) (J13 _)) (J6 J3p) Jx),?_⟩
  have ho:(natI os).length < 64:=by
   unfold natI;rw [length_map,hp.length_eq,length_range];lia
  refine ⟨_,rfl,q,natI os,rfl,hq.sq,ho,fun l ns' hl h1 h2=>?_⟩;refine ⟨_,rfl,(n:Int),rfl,fun r hr'=>⟨r,n,rfl,J3,by lia,fun l2 hl2=>?_⟩⟩;have e:=J7a hp h1 h2;have n1:l≠r:=Jd (H:=upd H l (.lst (ns'.map V.int))) J3 hr';have s1:Same (upd H l (.lst (ns'.map V.int))) (upd (upd (upd H l (.lst (ns'.map V.int))) r (.rng 0 n)) l2 (.lst (((List.range n).map fun (i:Nat)=>(i:Int)).map V.int))):=(Ja hr').trans (Ja hl2);refine ⟨l,l2,_,_,rfl,rfl,SqL.of (s1 _ _ J3),SqL.of J3,Kin.ints _ _,_,rfl,iteNS (by rw [e];rfl) ?_⟩;exact k _ ((Ja hl).trans s1)
def spRefT:Sp:=fun vs H Q _=>∃ (q:Addr) (xs:List V) (n:Nat),vs=[.ref q,.int n]/\SqH H q xs/\xs.length=n/\Q .non H
theorem scRefT:FnScope ["turned","pieces"] ["turned","pieces"] (J7 sRefT):=fS
theorem ok_refT {f:Addr} {fd:FuncData} (F:Fun K "refuse_turned" "refuse_turned" sRefT f fd) (T:Txt K mg):FnOk P w K mg base CX0 1 f fd ["turned","pieces"] spRefT:=by
 refine F.ok scRefT (fun vs H Q E h=>?_) (fun cdv A outer s H vs Q E hr h=>?_)
 ·obtain ⟨q,xs,n,rfl,_⟩:=h;rfl
 ·obtain ⟨q,xs,n,rfl,hq,hn,k⟩:=h;refine ⟨_,J6 (ps_if (Jr op_ne (Jn Jk (by rfl) T.len boot_len (J0 (pv 0) J4)) (pv 1) (J13 _)) (J6 J3p) Jx),?_⟩;refine ⟨_,rfl,q,_,rfl,hq.sq,_,rfl,rfl,_,rfl,iteNS (by rw [hn]) ?_⟩;exact k
def TurnsOf (H:Hp) (tv:V) (n:Nat) (ts:List Bool):Prop:=ts.length=n/\((tv=.non/\ts=List.replicate n false)\/∃ t,tv=.ref t/\SqH H t (bV ts))
theorem TurnsOf.same {H H':Hp} {tv:V} {n:Nat} {ts:List Bool} (h:TurnsOf H tv n ts) (s:Same H H'):TurnsOf H' tv n ts:=⟨h.1,h.2.elim .inl fun h9=>by obtain ⟨t,e,q⟩:=h9;exact .inr ⟨t,e,q.same s⟩⟩
def spTold:Sp:=fun vs H Q _=>∃ (tv:V) (n:Nat) (ts:List Bool),vs=[tv,.int n]/\1<=n/\n<=24/\TurnsOf H tv n ts/\∀ p H',Same H H'->H' p=some (.tup (bV ts))->Q (.ref p) H'
theorem scTold:FnScope ["turned","pieces"] ["turned","pieces"] (J7 sTold):=fS
theorem ok_told {f fT:Addr} {fd fdT:FuncData} (F:Fun K "turns_told" "turns_told" sTold f fd) (T:Txt K mg) (FT:Fun K "refuse_turned" "refuse_turned" sRefT fT fdT) (bT:Binds K fdT ["turned","pieces"] []) (mT:mg "refuse_turned"=some (.ref fT)):FnOk P w K mg base CX0 2 f fd ["turned","pieces"] spTold:=by
 have GT:FnOk P w K mg base CX0 1 fT fdT ["turned","pieces"] spRefT:=ok_refT FT T;refine F.ok scTold (fun vs H Q E h=>?_) (fun cdv A outer s H vs Q E hr h=>?_)
 ·obtain ⟨tv,n,ts,rfl,_⟩:=h;rfl
 ·obtain ⟨tv,n,ts,rfl,h1,h2,⟨ht,h3⟩,k⟩:=h;refine ⟨_,J1 (ps_if (pt_cmp (pc_isN (pv 0))) (J6 (Jl (pe_op op_repT (J4y (J0 pe_bl J4)) (pv 1)))) Jx)
   (J1 (J1r (Jc GT hr rfl mT FT.kp bT .nil pass0 (J0 (pv 0) (J0 (pv 1) J4))))
   (J6 (Jl (Jo J1g (by rfl) T.tuple boot_tuple (J0 (pv 0) J4))))),?_⟩
  rcases h3 with ⟨rfl,rfl⟩ | ⟨t,rfl,hq⟩
  ·refine ⟨_,rfl,_,rfl,iteDT rfl ?_⟩;refine ⟨by show 1<=sizeLine;decide,fun p hp=>⟨_,rfl,p,(n:Int),[V.bl false],rfl,rfl,J3,by simp,by lia,by lia,?_,fun e=>?_,fun hk p2 hp2=>?_⟩⟩
   ·show 1 * (n:Int).toNat<=sizeLine;have:=J1e (n:=n) (by lia);lia
   ·have en:n=1:=by lia
    subst en;exact k p _ (Ja hp) J3
   ·refine k p2 _ ((Ja hp).trans (Ja hp2)) ?_;rw [J3,<- flat_false];rfl
  ·refine ⟨_,rfl,_,rfl,iteD (by intro e;cases e) ?_⟩;refine ⟨_,rfl,_,rfl,t,bV ts,n,rfl,hq,by rw [length_map];exact ht,?_⟩;exact ⟨_,rfl,J1t hq k⟩
def tCut (t:TS):TS:=fun D σ H=>∃ post:St->Hp->Prop,t { D with nx:=post } σ H/\∀ σ' H',post σ' H'->D.nx σ' H'
theorem ps_cut {X:Cx} {st:Stmt} {t:TS} (h:PS X st t):PS X st (tCut t):=by
 intro pins s σ H D I ⟨post,q,m⟩;refine thn (h pins s σ H _ I q) fun f s' z=>?_
 cases f with
 | next=>obtain ⟨σ',H',I',z⟩:=z;exact ⟨σ',H',I',m σ' H' z⟩
 | brk=>exact z
 | cont=>exact z
 | ret u=>exact z
structure LineAt (C:Addr) (H:Hp) (x:Addr) (ls:List Int) (os:List Nat) (ts:List Bool):Prop where
 ex:∃ (dx:Addr) (fs:List (Str × V)) (pl po pt ps pd:Addr),H x=some (.ins C dx fs)/\(fs.lookup ("lengths":Str)=some (.ref pl)/\fs.lookup ("order":Str)=some (.ref po)/\fs.lookup ("turned":Str)=some (.ref pt)/\
  fs.lookup ("starts":Str)=some (.ref ps)/\fs.lookup ("laid":Str)=some (.ref pd)/\fs.lookup ("size":Str)=some (.int ls.sum))/\
  H pl=some (.tup (iV ls))/\H po=some (.tup (nV os))/\H pt=some (.tup (bV ts))/\H ps=some (.tup (iV (firsts ls (List.range ls.length))))/\H pd=some (.tup (iV (firsts ls os)))
theorem LineAt.same {C:Addr} {H H':Hp} {x:Addr} {ls:List Int} {os:List Nat} {ts:List Bool} (h:LineAt C H x ls os ts) (s:Same H H'):LineAt C H' x ls os ts:=by
 obtain ⟨dx,fs,pl,po,pt,ps,pd,h0,hl,h1,h2,h3,h4,h5⟩:=h.ex;exact ⟨dx,fs,pl,po,pt,ps,pd,s _ _ h0,hl,s _ _ h1,s _ _ h2,s _ _ h3,s _ _ h4,s _ _ h5⟩
structure TxtC (K:Frag) (mg:Str->Option Value) (C:Addr):Prop where
 cl:Cls K C
 nL:NoAttr K C "lengths"
 nO:NoAttr K C "order"
 nT:NoAttr K C "turned"
 nS:NoAttr K C "starts"
 nD:NoAttr K C "laid"
 nZ:NoAttr K C "size"
structure FunD (K:Frag) (x qual:Str) (st:Stmt) (f:Addr) (fd:FuncData) (TD:Addr):Prop where
 ex:∃ (oc:Value) (od:Option Addr) (kV doc pm:Value) (an:Option Addr) (cdv ct:Value) (osl:Array (Option Value)),
  fd=fnOf x qual (J2u st) (J2d st) (J7 st) (.ref TD) kV doc pm an cdv ct/\K.lookup f=some ⟨oc,od,.func fd,osl⟩/\codeIn K cdv qual=true
 kp:keepIn K (.ref f)=true
theorem FunD.ok {x qual:Str} {st:Stmt} {f TD:Addr} {fd:FuncData} {N ps:List Str} {k:Nat} {sp:Sp} (F:FunD K x qual st f fd TD) (S:FnScope N ps (J7 st)) (len:∀ vs H Q E,sp vs H Q E->vs.length=ps.length)
  (hbody:∀ (cdv:Value) (A:Around) (outer:List Env) (s:Shared) (H:Hp) (vs:List V) (Q:VK) (E:XK),Room k (A.deeper (PyProof.Rows.envOfC qual (J7 st) s.heap.objs.size f cdv))->sp vs H Q E->
   ∃ t,PSs (cxOf CX0 P w K mg base N qual (J7 st) f cdv A outer s H E).nox (J2d st) t/\t { nx:=fun _ H'=>Q .non H',rt:=Q } (start N vs) H):FnOk P w K mg base CX0 (k + 1) f fd ps sp:=by
 obtain ⟨oc,od,kV,doc,pm,an,cdv,ct,osl,rfl,lk,hcd⟩:=F.ex;refine fn_of lk hcd S len fun A outer s H vs Q E hr hsp=>?_;obtain ⟨t,h,q⟩:=hbody cdv A outer s H vs Q E hr hsp;exact ⟨t,h.nox,q⟩
def spInit (C:Addr):Sp:=fun vs H Q _=>∃ (x dx p q:Addr) (tv:V) (ls:List Int) (os:List Nat) (ts:List Bool),vs=[.ref x,.ref p,.ref q,tv]/\H x=some (.ins C dx [])/\SqH H p (iV ls)/\SqH H q (nV os)/\Good ls os/\TurnsOf H tv ls.length ts/\
 ∀ H',LineAt C H' x ls os ts->(∀ b o,H b=some o->b≠x->H' b=some o)->Q .non H'
theorem scInit:FnScope ["self","lengths","order","turned"] ["self","lengths","order","turned"] (J7 sInit):=fS
theorem ok_init {f fL fO fT fF TD C:Addr} {fd fdL fdO fdT fdF:FuncData} (F:FunD K "__init__" "Line.__init__" sInit f fd TD) (T:Txt K mg) (TC:TxtC K mg C)
  (GL:FnOk P w K mg base CX0 1 fL fdL ["lengths"] spRefL) (bL:Binds K fdL ["lengths"] []) (mL:mg "refuse_lengths"=some (.ref fL)) (kL:keepIn K (.ref fL)=true)
  (GO:FnOk P w K mg base CX0 1 fO fdO ["order","pieces"] spRefO) (bO:Binds K fdO ["order","pieces"] []) (mO:mg "refuse_order"=some (.ref fO)) (kO:keepIn K (.ref fO)=true)
  (GT:FnOk P w K mg base CX0 2 fT fdT ["turned","pieces"] spTold) (bT:Binds K fdT ["turned","pieces"] []) (mT:mg "turns_told"=some (.ref fT)) (kT:keepIn K (.ref fT)=true)
  (GF:FnOk P w K mg base CX0 1 fF fdF ["lengths","order"] spFirst) (bF:Binds K fdF ["lengths","order"] []) (mF:mg "first_places"=some (.ref fF)) (kF:keepIn K (.ref fF)=true) :
  FnOk P w K mg base CX0 3 f fd ["self","lengths","order","turned"] (spInit C):=by
 refine F.ok scInit (fun vs H Q E h=>?_) (fun cdv A outer s H vs Q E hr h=>?_)
 ·obtain ⟨x,dx,p,q,tv,ls,os,ts,rfl,_⟩:=h;rfl
 ·obtain ⟨x,dx,p,q,tv,ls,os,ts,rfl,hx,hp,hq,g,ht,k⟩:=h;have hr1:Room 1 _:=rm hr;have g1:=g.lo;have g2:=g.hi;have npx:=hp.ne hx;have nqx:=hq.ne hx;refine ⟨_,J1 (J1r (Jc GL hr1 rfl mL kL bL .nil pass0 (J0 (pv 1) J4)))
   (J1 (J1r (Jc GO hr1 rfl mO kO bO .nil pass0 (J0 (pv 2) (J0 (Jn Jk (by rfl) T.len boot_len (J0 (pv 1) J4)) J4))))
   (J1 (J1w (pv 0) (Jc GT hr rfl mT kT bT .nil pass0 (J0 (pv 3) (J0 (Jn Jk (by rfl) T.len boot_len (J0 (pv 1) J4)) J4))) rfl)
   (J1 (J1w (pv 0) (Jo J1g (by rfl) T.tuple boot_tuple (J0 (pv 1) J4)) rfl)
   (J1 (J1w (pv 0) (Jo J1g (by rfl) T.tuple boot_tuple (J0 (pv 2) J4)) rfl)
   (J1 (J1w (pv 0) (Jc GF hr1 rfl mF kF bF .nil pass0 (J0 (J9 (pv 0) rfl) (J0 (Jo (J2v rfl) (by rfl) T.list boot_list (J0 (Jo J7u (by rfl) T.range PyProof.Rows.boot_range (J0 (Jn Jk (by rfl) T.len boot_len (J0 (pv 1) J4)) J4)) J4)) J4))) rfl)
   (J1 (J1w (pv 0) (Jc GF hr1 rfl mF kF bF .nil pass0 (J0 (J9 (pv 0) rfl) (J0 (J9 (pv 0) rfl) J4))) rfl)
   (J6 (J1w (pv 0) (Jn (J3v rfl) (by rfl) T.sum boot_sum (J0 (J9 (pv 0) rfl) J4)) rfl)))))))),?_⟩
  refine ⟨_,rfl,p,ls,os,rfl,hp,g,?_⟩;refine ⟨_,rfl,_,rfl,p,_,rfl,hp.sq,q,os,ls.length,(by rw [J26];rfl),hq,g.perm,g2,fun H1 s1=>?_⟩;refine ⟨_,rfl,_,rfl,p,_,rfl,(hp.same s1).sq,tv,ls.length,ts,(by rw [J26];rfl),g1,g2,ht.same s1,fun pt H2 s2 hpt=>?_⟩;have s12:=s1.trans s2;refine ⟨_,rfl,x,C,dx,[],rfl,s12 _ _ hx,TC.cl,TC.nT,(by show 0 < 1000;decide),?_⟩;generalize hfs1:putF ("turned":Str) (.ref pt) []=fs1;generalize hH3:upd H2 x (.ins C dx fs1)=H3;have l1:fs1.length<=1:=by rw [<- hfs1];exact Jm ..
  have k3:KeepX x H H3:=by rw [<- hH3];exact (KeepX.of s12).trans KeepX.upd
  have hx3:H3 x=some (.ins C dx fs1):=by rw [<- hH3];exact J3
  have ptx:pt≠x:=ne_of hpt (s12 _ _ hx) (by intro z;cases z);have hpt3:H3 pt=some (.tup (bV ts)):=by rw [<- hH3,Jg ptx];exact hpt
  refine ⟨_,rfl,J1t (k3.sqH hp npx) fun pl H4 s4 hpl=>⟨_,rfl,x,C,dx,fs1,rfl,s4 _ _ hx3,TC.cl,TC.nL,(by lia),?_⟩⟩;generalize hfs2:putF ("lengths":Str) (.ref pl) fs1=fs2;generalize hH5:upd H4 x (.ins C dx fs2)=H5;have l2:fs2.length<=2:=by rw [<- hfs2];have:=Jm ("lengths":Str) (.ref pl) fs1;lia
  have k35:KeepX x H3 H5:=by rw [<- hH5];exact (KeepX.of s4).trans KeepX.upd
  have k5:KeepX x H H5:=k3.trans k35;have hx5:H5 x=some (.ins C dx fs2):=by rw [<- hH5];exact J3
  have plx:pl≠x:=ne_of hpl (s4 _ _ hx3) (by intro z;cases z);have hpl5:H5 pl=some (.tup (iV ls)):=by rw [<- hH5,Jg plx];exact hpl
  refine ⟨_,rfl,J1t (k5.sqH hq nqx) fun po H6 s6 hpo=>⟨_,rfl,x,C,dx,fs2,rfl,s6 _ _ hx5,TC.cl,TC.nO,(by lia),?_⟩⟩;generalize hfs3:putF ("order":Str) (.ref po) fs2=fs3;generalize hH7:upd H6 x (.ins C dx fs3)=H7;have l3:fs3.length<=3:=by rw [<- hfs3];have:=Jm ("order":Str) (.ref po) fs2;lia
  have k57:KeepX x H5 H7:=by rw [<- hH7];exact (KeepX.of s6).trans KeepX.upd
  have k7:KeepX x H H7:=k5.trans k57;have hx7:H7 x=some (.ins C dx fs3):=by rw [<- hH7];exact J3
  have pox:po≠x:=ne_of hpo (s6 _ _ hx5) (by intro z;cases z);have hpo7:H7 po=some (.tup (nV os)):=by rw [<- hH7,Jg pox];exact hpo
  have hpl7:H7 pl=some (.tup (iV ls)):=k57 _ _ hpl5 plx;have lkL:fs3.lookup ("lengths":Str)=some (.ref pl):=by rw [<- hfs3,lk_ne (by decide +kernel),<- hfs2,J18]
  have lkO:fs3.lookup ("order":Str)=some (.ref po):=by rw [<- hfs3,J18]
  have lkT:fs3.lookup ("turned":Str)=some (.ref pt):=by rw [<- hfs3,lk_ne (by decide +kernel),<- hfs2,lk_ne (by decide +kernel),<- hfs1,J18]
  refine ⟨_,rfl,x,C,dx,fs3,_,rfl,hx7,TC.cl,TC.nL,lkL,_,rfl,p,_,rfl,(k7.sqH hp npx).sq,_,rfl,fun r hr'=>⟨r,_,rfl,J3,(by rw [J26];lia),fun l hl=>?_⟩⟩;have s8:Same H7 (upd (upd H7 r (.rng 0 ((iV ls).length:Nat))) l (.lst (((List.range (iV ls).length).map fun (i:Nat)=>(i:Int)).map V.int))):=(Ja hr').trans (Ja hl);refine ⟨pl,l,ls,List.range ls.length,rfl,s8 _ _ hpl7,.inl (by rw [J3,J26];rfl),fun o ho=>mem_range.mp ho,g2,fun ps H9 s9 hps=>?_⟩;have s79:=s8.trans s9;refine ⟨_,rfl,x,C,dx,fs3,rfl,s79 _ _ hx7,TC.cl,TC.nS,(by lia),?_⟩;generalize hfs4:putF ("starts":Str) (.ref ps) fs3=fs4;generalize hHa:upd H9 x (.ins C dx fs4)=Ha;have l4:fs4.length<=4:=by rw [<- hfs4];have:=Jm ("starts":Str) (.ref ps) fs3;lia
  have k7a:KeepX x H7 Ha:=by rw [<- hHa];exact (KeepX.of s79).trans KeepX.upd
  have hxa:Ha x=some (.ins C dx fs4):=by rw [<- hHa];exact J3
  have psx:ps≠x:=ne_of hps (s79 _ _ hx7) (by intro z;cases z);have hpsa:Ha ps=some (.tup (iV (firsts ls (List.range ls.length)))):=by rw [<- hHa,Jg psx];exact hps
  have hpla:=k7a _ _ hpl7 plx;have hpoa:=k7a _ _ hpo7 pox;have lkL4:fs4.lookup ("lengths":Str)=some (.ref pl):=by rw [<- hfs4,lk_ne (by decide +kernel),lkL]
  have lkO4:fs4.lookup ("order":Str)=some (.ref po):=by rw [<- hfs4,lk_ne (by decide +kernel),lkO]
  have lkT4:fs4.lookup ("turned":Str)=some (.ref pt):=by rw [<- hfs4,lk_ne (by decide +kernel),lkT]
  have lkS4:fs4.lookup ("starts":Str)=some (.ref ps):=by rw [<- hfs4,J18]
  refine ⟨_,rfl,x,C,dx,fs4,_,rfl,hxa,TC.cl,TC.nL,lkL4,_,rfl,x,C,dx,fs4,_,rfl,hxa,TC.cl,TC.nO,lkO4,pl,po,ls,os,rfl,hpla,.inr hpoa,g.olt,g2,fun pd Hb sb hpd=>?_⟩;refine ⟨_,rfl,x,C,dx,fs4,rfl,sb _ _ hxa,TC.cl,TC.nD,(by lia),?_⟩;generalize hfs5:putF ("laid":Str) (.ref pd) fs4=fs5;generalize hHc:upd Hb x (.ins C dx fs5)=Hc;have l5:fs5.length<=5:=by rw [<- hfs5];have:=Jm ("laid":Str) (.ref pd) fs4;lia
  have kac:KeepX x Ha Hc:=by rw [<- hHc];exact (KeepX.of sb).trans KeepX.upd
  have hxc:Hc x=some (.ins C dx fs5):=by rw [<- hHc];exact J3
  have pdx:pd≠x:=ne_of hpd (sb _ _ hxa) (by intro z;cases z);have hpdc:Hc pd=some (.tup (iV (firsts ls os))):=by rw [<- hHc,Jg pdx];exact hpd
  have lkL5:fs5.lookup ("lengths":Str)=some (.ref pl):=by rw [<- hfs5,lk_ne (by decide +kernel),lkL4]
  refine ⟨_,rfl,x,C,dx,fs5,_,rfl,hxc,TC.cl,TC.nL,lkL5,pl,ls,rfl,.inr (SqT.of (kac _ _ hpla plx)),_,rfl,x,C,dx,fs5,rfl,hxc,TC.cl,TC.nZ,(by lia),?_⟩;have kz:KeepX x Hc (upd Hc x (.ins C dx (putF ("size":Str) (.int ls.sum) fs5))):=KeepX.upd;refine k _ ⟨dx,_,pl,po,pt,ps,pd,J3,⟨?_,?_,?_,?_,?_,J18⟩,kz _ _ (kac _ _ hpla plx) plx,kz _ _ (kac _ _ hpoa pox) pox,kz _ _ (kac _ _ (k7a _ _ (k57 _ _ (k35 _ _ hpt3 ptx) ptx) ptx) ptx) ptx,kz _ _ (kac _ _ hpsa psx) psx,kz _ _ hpdc pdx⟩ (k7.trans (k7a.trans (kac.trans kz)))
  ·rw [lk_ne (by decide +kernel),lkL5]
  ·rw [lk_ne (by decide +kernel),<- hfs5,lk_ne (by decide +kernel),lkO4]
  ·rw [lk_ne (by decide +kernel),<- hfs5,lk_ne (by decide +kernel),lkT4]
  ·rw [lk_ne (by decide +kernel),<- hfs5,lk_ne (by decide +kernel),lkS4]
  ·rw [lk_ne (by decide +kernel),<- hfs5,J18]
end
theorem Good.ord {ls:List Int} {os:List Nat} (g:Good ls os):Ord ls os:=⟨g.pos,g.perm⟩
theorem Good.pos_sum {ls:List Int} {os:List Nat} (g:Good ls os):0 < ls.sum:=by
 have h:=g.ord.range.mono (i:=0) (k:=ls.length) (Nat.zero_le _) (Nat.le_refl _);have h1:J16 ls (List.range ls.length) 0 < J16 ls (List.range ls.length) 1:=g.ord.range.step (i:=0) g.lo;have h2:=g.ord.range.mono (i:=1) (k:=ls.length) g.lo (Nat.le_refl _);rw [g.ord.range.whole] at h2;rw [J1v] at h1;lia
end R42
namespace R42
open PySem L2 Rl
section
variable {P:Program} {w:World} {K:Frag} {mg:Str->Option Value} {base:Heap}
def J6k (K:Frag):Sp:=fun vs H Q _=>∃ (C x q dx pl:Addr) (fs:List (Str × V)) (ls:List Int) (row:List Nat),vs=[.ref x,.ref q]/\H x=some (.ins C dx fs)/\Cls K C/\NoAttr K C "lengths"/\fs.lookup ("lengths":Str)=some (.ref pl)/\
 H pl=some (.tup (iV ls))/\H q=some (.tup (nV row))/\(∀ j∈row,j < ls.length)/\row.length<=24/\∀ H',Same H H'->Q (.int (lenOf ls row)) H'
theorem scLenOf:FnScope ["rest","letters"] ["rest","letters"] (J7 sLenOf):=fS
theorem ok_lenOf {f:Addr} {fd:FuncData} (F:Fun K "length_of" "length_of" sLenOf f fd) (T:TxtR mg):FnOk P w K mg base CX0 1 f fd ["rest","letters"] (J6k K):=by
 refine F.ok scLenOf (fun vs H Q E h=>?_) (fun cdv A outer s H vs Q E hr h=>?_)
 ·obtain ⟨C,x,q,dx,pl,fs,ls,row,rfl,_⟩:=h;rfl
 ·obtain ⟨C,x,q,dx,pl,fs,ls,row,rfl,hx,hC,hN,lk,hpl,hq,hlt,hn,k⟩:=h;refine ⟨_,J6 (Jl (Jn (J3v rfl) (by rfl) T.sum boot_sum (J0 (pe_lc (caps:=["rest"]) (js:=[0]) rfl (J6o (pv 1)) rfl (fun _ _ _ _=>J36)
   (fun C fp s H=>J50 (J4p K) (pe_flK K (pv 1)) (pv 0))
   (by decide +kernel) (by decide +kernel) (by decide +kernel) (by intro p hp;simp only [mem_cons,not_mem_nil,or_false] at hp;rcases hp with rfl;rfl)) J4))),?_⟩
  refine ⟨_,rfl,q,rfl,⟨_,SqT.of hq⟩,fun d hd=>lc_tup (fun (j:Nat)=>V.int (j:Int)) row (fun _=>true) (fun j=>V.int (ls.getD j 0)) (by rw [<- nV_eq];exact SqT.of hq) (by lia) hd
   (fun _ _ H _ _ k=>k H (Same.refl _)) (fun j hj H2 Qe _ s2 k=>?_) (fun H' s' hd'=>?_)⟩
  ·exact ⟨_,rfl,x,C,dx,fs,_,rfl,s2 _ _ hx,hC,hN,lk,_,rfl,pl,_,_,_,rfl,rfl,SqT.of (s2 _ _ hpl),J8 (J15 (hlt j hj)),k _ (Same.refl _)⟩
  ·rw [J20] at hd';refine ⟨d,row.map fun j=>ls.getD j 0,rfl,.inl (SqL.of ?_),k H' s'⟩;rw [hd',map_map];rfl
structure RestAt (CR:Addr) (H:Hp) (x:Addr) (r:Rst):Prop where
 ex:∃ (dx:Addr) (fs:List (Str × V)) (pt pb pl pu:Addr),H x=some (.ins CR dx fs)/\(fs.lookup ("top":Str)=some (.ref pt)/\fs.lookup ("bottom":Str)=some (.ref pb)/\fs.lookup ("lengths":Str)=some (.ref pl)/\
  fs.lookup ("turned":Str)=some (.ref pu)/\fs.lookup ("size":Str)=some (.int r.size))/\H pt=some (.tup (nV r.top))/\H pb=some (.tup (nV r.bot))/\H pl=some (.tup (iV r.ls))/\H pu=some (.tup (bV r.ts))
theorem RestAt.same {CR:Addr} {H H':Hp} {x:Addr} {r:Rst} (h:RestAt CR H x r) (s:Same H H'):RestAt CR H' x r:=by
 obtain ⟨dx,fs,pt,pb,pl,pu,h0,hl,h1,h2,h3,h4⟩:=h.ex;exact ⟨dx,fs,pt,pb,pl,pu,s _ _ h0,hl,s _ _ h1,s _ _ h2,s _ _ h3,s _ _ h4⟩
structure TxtRest (K:Frag) (CR:Addr):Prop where
 cl:Cls K CR
 nT:NoAttr K CR "top"
 nB:NoAttr K CR "bottom"
 nL:NoAttr K CR "lengths"
 nU:NoAttr K CR "turned"
 nZ:NoAttr K CR "size"
theorem RestAt.fields {K:Frag} {CR:Addr} {H:Hp} {x:Addr} {r:Rst} (TR:TxtRest K CR) (h:RestAt CR H x r):FieldsAt K H x r.ls r.ts:=by
 obtain ⟨dx,fs,pt,pb,pl,pu,h0,⟨k1,k2,k3,k4,k5⟩,h1,h2,h3,h4⟩:=h.ex;exact ⟨CR,dx,fs,pl,pu,h0,TR.cl,TR.nL,TR.nU,k3,k4,h3,h4⟩
def J3a (CR:Addr):Sp:=fun vs H Q _=>∃ (x dx p1 p2 p3 p4:Addr) (r:Rst),vs=[.ref x,.ref p1,.ref p2,.ref p3,.ref p4]/\H x=some (.ins CR dx [])/\SqH H p1 (nV r.top)/\SqH H p2 (nV r.bot)/\SqH H p3 (iV r.ls)/\SqH H p4 (bV r.ts)/\
 (∀ j∈r.top,j < r.ls.length)/\r.top.length<=24/\∀ H',RestAt CR H' x r->KeepX x H H'->Q .non H'
theorem scRInit:FnScope ["self","top","bottom","lengths","turned"] ["self","top","bottom","lengths","turned"] (J7 sRInit):=fS
theorem ok_rinit {f fL CR:Addr} {fd fdL:FuncData} (F:Fun K "__init__" "Rest.__init__" sRInit f fd) (T:TxtR mg) (TR:TxtRest K CR)
  (GL:FnOk P w K mg base CX0 1 fL fdL ["rest","letters"] (J6k K)) (bL:Binds K fdL ["rest","letters"] []) (mL:mg "length_of"=some (.ref fL)) (kL:keepIn K (.ref fL)=true) :
  FnOk P w K mg base CX0 2 f fd ["self","top","bottom","lengths","turned"] (J3a CR):=by
 refine F.ok scRInit (fun vs H Q E h=>?_) (fun cdv A outer s H vs Q E hr h=>?_)
 ·obtain ⟨x,dx,p1,p2,p3,p4,r,rfl,_⟩:=h;rfl
 ·obtain ⟨x,dx,p1,p2,p3,p4,r,rfl,hx,q1,q2,q3,q4,hlt,hn,k⟩:=h;have n1:=q1.ne hx;have n2:=q2.ne hx;have n3:=q3.ne hx;have n4:=q4.ne hx;refine ⟨_,J1 (J1w (pv 0) (Jo J1g (by rfl) T.tuple boot_tuple (J0 (pv 1) J4)) rfl)
   (J1 (J1w (pv 0) (Jo J1g (by rfl) T.tuple boot_tuple (J0 (pv 2) J4)) rfl)
   (J1 (J1w (pv 0) (Jo J1g (by rfl) T.tuple boot_tuple (J0 (pv 3) J4)) rfl)
   (J1 (J1w (pv 0) (Jo J1g (by rfl) T.tuple boot_tuple (J0 (pv 4) J4)) rfl)
   (J6 (J1w (pv 0) (Jc GL hr rfl mL kL bL .nil pass0 (J0 (pv 0) (J0 (J9 (pv 0) rfl) J4))) rfl))))),?_⟩
  refine ⟨_,rfl,J1t q1 fun pt H1 s1 hpt=>⟨_,rfl,x,CR,dx,[],rfl,s1 _ _ hx,TR.cl,TR.nT,(by show 0 < 1000;decide),?_⟩⟩;generalize hfs1:putF ("top":Str) (.ref pt) []=fs1;generalize hH2:upd H1 x (.ins CR dx fs1)=H2;have l1:fs1.length<=1:=by rw [<- hfs1];exact Jm ..
  have k2:KeepX x H H2:=by rw [<- hH2];exact (KeepX.of s1).trans KeepX.upd
  have hx2:H2 x=some (.ins CR dx fs1):=by rw [<- hH2];exact J3
  have ptx:pt≠x:=ne_of hpt (s1 _ _ hx) (by intro z;cases z);have hpt2:H2 pt=some (.tup (nV r.top)):=by rw [<- hH2,Jg ptx];exact hpt
  refine ⟨_,rfl,J1t (k2.sqH q2 n2) fun pb H3 s3 hpb=>⟨_,rfl,x,CR,dx,fs1,rfl,s3 _ _ hx2,TR.cl,TR.nB,(by lia),?_⟩⟩;generalize hfs2:putF ("bottom":Str) (.ref pb) fs1=fs2;generalize hH4:upd H3 x (.ins CR dx fs2)=H4;have l2:fs2.length<=2:=by rw [<- hfs2];have:=Jm ("bottom":Str) (.ref pb) fs1;lia
  have k24:KeepX x H2 H4:=by rw [<- hH4];exact (KeepX.of s3).trans KeepX.upd
  have k4:KeepX x H H4:=k2.trans k24;have hx4:H4 x=some (.ins CR dx fs2):=by rw [<- hH4];exact J3
  have pbx:pb≠x:=ne_of hpb (s3 _ _ hx2) (by intro z;cases z);have hpb4:H4 pb=some (.tup (nV r.bot)):=by rw [<- hH4,Jg pbx];exact hpb
  refine ⟨_,rfl,J1t (k4.sqH q3 n3) fun pl H5 s5 hpl=>⟨_,rfl,x,CR,dx,fs2,rfl,s5 _ _ hx4,TR.cl,TR.nL,(by lia),?_⟩⟩;generalize hfs3:putF ("lengths":Str) (.ref pl) fs2=fs3;generalize hH6:upd H5 x (.ins CR dx fs3)=H6;have l3:fs3.length<=3:=by rw [<- hfs3];have:=Jm ("lengths":Str) (.ref pl) fs2;lia
  have k46:KeepX x H4 H6:=by rw [<- hH6];exact (KeepX.of s5).trans KeepX.upd
  have k6:KeepX x H H6:=k4.trans k46;have hx6:H6 x=some (.ins CR dx fs3):=by rw [<- hH6];exact J3
  have plx:pl≠x:=ne_of hpl (s5 _ _ hx4) (by intro z;cases z);have hpl6:H6 pl=some (.tup (iV r.ls)):=by rw [<- hH6,Jg plx];exact hpl
  refine ⟨_,rfl,J1t (k6.sqH q4 n4) fun pu H7 s7 hpu=>⟨_,rfl,x,CR,dx,fs3,rfl,s7 _ _ hx6,TR.cl,TR.nU,(by lia),?_⟩⟩;generalize hfs4:putF ("turned":Str) (.ref pu) fs3=fs4;generalize hH8:upd H7 x (.ins CR dx fs4)=H8;have l4:fs4.length<=4:=by rw [<- hfs4];have:=Jm ("turned":Str) (.ref pu) fs3;lia
  have k68:KeepX x H6 H8:=by rw [<- hH8];exact (KeepX.of s7).trans KeepX.upd
  have k8:KeepX x H H8:=k6.trans k68;have hx8:H8 x=some (.ins CR dx fs4):=by rw [<- hH8];exact J3
  have pux:pu≠x:=ne_of hpu (s7 _ _ hx6) (by intro z;cases z);have hpu8:H8 pu=some (.tup (bV r.ts)):=by rw [<- hH8,Jg pux];exact hpu
  have hpl8:H8 pl=some (.tup (iV r.ls)):=k68 _ _ hpl6 plx;have hpb8:H8 pb=some (.tup (nV r.bot)):=k68 _ _ (k46 _ _ hpb4 pbx) pbx;have hpt8:H8 pt=some (.tup (nV r.top)):=k68 _ _ (k46 _ _ (k24 _ _ hpt2 ptx) ptx) ptx;have lkT:fs4.lookup ("top":Str)=some (.ref pt):=by rw [<- hfs4,lk_ne (by decide +kernel),<- hfs3,lk_ne (by decide +kernel),<- hfs2,lk_ne (by decide +kernel),<- hfs1,J18]
  have lkB:fs4.lookup ("bottom":Str)=some (.ref pb):=by rw [<- hfs4,lk_ne (by decide +kernel),<- hfs3,lk_ne (by decide +kernel),<- hfs2,J18]
  have lkL:fs4.lookup ("lengths":Str)=some (.ref pl):=by rw [<- hfs4,lk_ne (by decide +kernel),<- hfs3,J18]
  have lkU:fs4.lookup ("turned":Str)=some (.ref pu):=by rw [<- hfs4,J18]
  refine ⟨_,rfl,_,rfl,x,CR,dx,fs4,_,rfl,hx8,TR.cl,TR.nT,lkT,CR,x,pt,dx,pl,fs4,r.ls,r.top,rfl,hx8,TR.cl,TR.nL,lkL,hpl8,hpt8,hlt,hn,fun H9 s9=>?_⟩;refine ⟨_,rfl,x,CR,dx,fs4,rfl,s9 _ _ hx8,TR.cl,TR.nZ,(by lia),?_⟩;have kz:KeepX x H8 (upd H9 x (.ins CR dx (putF ("size":Str) (.int (lenOf r.ls r.top)) fs4))):=(KeepX.of s9).trans KeepX.upd;refine k _ ⟨dx,_,pt,pb,pl,pu,J3,⟨?_,?_,?_,?_,J18⟩,kz _ _ hpt8 ptx,kz _ _ hpb8 pbx,kz _ _ hpl8 plx,kz _ _ hpu8 pux⟩ (k8.trans kz)
  ·rw [lk_ne (by decide +kernel),lkT]
  ·rw [lk_ne (by decide +kernel),lkB]
  ·rw [lk_ne (by decide +kernel),lkL]
  ·rw [lk_ne (by decide +kernel),lkU]
abbrev J10 (ls:List Int) (os:List Nat) (ts:List Bool):Rst:=⟨List.range ls.length,os,ls,ts⟩
def spRestOf (C CR:Addr):Sp:=fun vs H Q _=>∃ (x:Addr) (ls:List Int) (os:List Nat) (ts:List Bool),vs=[.ref x]/\LineAt C H x ls os ts/\ls.length<=24/\∀ p H',Same H H'->RestAt CR H' p (J10 ls os ts)->Q (.ref p) H'
theorem scRestOf:FnScope ["line"] ["line"] (J7 sRestOf):=fS
theorem ok_restof {f fI C CR:Addr} {fd fdI:FuncData} (F:Fun K "rest_of" "rest_of" sRestOf f fd) (T:TxtR mg) (TC:TxtC K mg C)
  (M:Mk K CR fI) (GI:FnOk P w K mg base CX0 2 fI fdI ["self","top","bottom","lengths","turned"] (J3a CR)) (bI:Binds K fdI ["self","top","bottom","lengths","turned"] []) (mgR:mg "Rest"=some (.ref CR)) :
  FnOk P w K mg base CX0 4 f fd ["line"] (spRestOf C CR):=by
 refine F.ok scRestOf (fun vs H Q E h=>?_) (fun cdv A outer s H vs Q E hr h=>?_)
 ·obtain ⟨x,ls,os,ts,rfl,_⟩:=h;rfl
 ·obtain ⟨x,ls,os,ts,rfl,L,hn,k⟩:=h;obtain ⟨dx,fl,pl,po,pt,ps,pd,h0,⟨k1,k2,k3,k4,k5,k6⟩,e1,e2,e3,e4,e5⟩:=L.ex;refine ⟨_,J6 (Jl (J1h M GI hr rfl mgR bI .nil pass0 (J0 (Jo (J2v rfl) (by rfl) T.list boot_list (J0 (Jo J7u (by rfl) T.range PyProof.Rows.boot_range (J0 (Jn Jk (by rfl) T.len boot_len (J0 (J9 (pv 0) rfl) J4)) J4)) J4))
   (J0 (J9 (pv 0) rfl) (J0 (J9 (pv 0) rfl) (J0 (J9 (pv 0) rfl) J4)))))),?_⟩
  refine ⟨_,rfl,x,C,dx,fl,_,rfl,h0,TC.cl,TC.nL,k1,pl,_,rfl,.inr (SqT.of e1),_,rfl,fun r hr'=>⟨r,_,rfl,J3,(by rw [J26];lia),fun l hl=>?_⟩⟩;have s8:Same H (upd (upd H r (.rng 0 ((iV ls).length:Nat))) l (.lst (((List.range (iV ls).length).map fun (i:Nat)=>(i:Int)).map V.int))):=(Ja hr').trans (Ja hl);have hl8:(upd (upd H r (.rng 0 ((iV ls).length:Nat))) l (.lst (((List.range (iV ls).length).map fun (i:Nat)=>(i:Int)).map V.int))) l=some (.lst (nV (List.range ls.length))):=by rw [J3,J26];rfl
  generalize (upd (upd H r (.rng 0 ((iV ls).length:Nat))) l (.lst (((List.range (iV ls).length).map fun (i:Nat)=>(i:Int)).map V.int)))=H8 at *;refine ⟨_,rfl,x,C,dx,fl,_,rfl,s8 _ _ h0,TC.cl,TC.nO,k2,_,rfl,x,C,dx,fl,_,rfl,s8 _ _ h0,TC.cl,TC.nL,k1,_,rfl,x,C,dx,fl,_,rfl,s8 _ _ h0,TC.cl,TC.nT,k3,fun y dy hy hdy hne=>?_⟩;have s9:Same H8 (upd (upd H8 dy (.own y)) y (.ins CR dy [])):=(Ja hdy).trans (Ja (by rw [Jg (Ne.symm hne)];exact hy));refine ⟨y,dy,l,po,pl,pt,J10 ls os ts,rfl,J3,.inl (s9 _ _ hl8),.inr (s9 _ _ (s8 _ _ e2)),.inr (s9 _ _ (s8 _ _ e1)),.inr (s9 _ _ (s8 _ _ e3)),fun j hj=>mem_range.mp hj,by rw [length_range];exact hn,fun H' R kp=>⟨rfl,k y H' (fun b u e=>?_) R⟩⟩;exact kp b u (s9 _ _ (s8 _ _ e)) (Jd (s8 _ _ e) hy)
def spLetIn (CO CR:Addr):Sp:=fun vs H Q E=>∃ (x q:Addr) (r:Rst) (row:List Nat) (y:Int),vs=[.ref x,.ref q,.int y]/\RestAt CR H x r/\H q=some (.tup (nV row))/\Row r.ls row/\(∀ i,AtR r.ls row y i->Q (.int (row.getD i 0:Nat)) H)/\(¬ (0<=y/\y < lenOf r.ls row)->E (.ref CO) none H)
theorem scLetIn:FnScope ["rest","row","y","end","letter"] ["rest","row","y"] (J7 sLetIn):=fS
theorem ok_letIn {f CO CR:Addr} {fd:FuncData} (F:Fun K "letter_in" "letter_in" sLetIn f fd) (TR:TxtRest K CR) (TO:TxtX K mg "Outside" CO):FnOk P w K mg base (Exc1 P w) 1 f fd ["rest","row","y"] (spLetIn CO CR):=by
 refine F.okX scLetIn (fun vs H Q E h=>?_) (fun cdv A outer s H vs Q E hr h=>?_)
 ·obtain ⟨x,q,r,row,y,rfl,_⟩:=h;rfl
 ·obtain ⟨x,q,r,row,y,rfl,R,hq,hrow,k,kx⟩:=h;obtain ⟨dx,fs,pt,pb,pl,pu,h0,⟨k1,k2,k3,k4,k5⟩,e1,e2,e3,e4⟩:=R.ex;refine ⟨_,J1 (ps_if (Jr op_lt (pv 2) Jb (J13 _)) (J6 (J3o rfl TO.mg TO.ex)) Jx)
   (J1 (Jh (i:=3) scLetIn.nd rfl (Or.inl rfl) Jb)
   (J1 (ps_nox (J4g PassesOwn.never rfl (J6o (pv 1)) (J1p (i:=4) scLetIn.nd rfl (Or.inl rfl))
    (J1 (Jh (i:=3) scLetIn.nd rfl (Or.inl rfl) (pe_op J19 (pv 3) (pe_ix Ji (J9 (pv 0) rfl) (pv 4) (fun _ _=>rfl))))
    (J6 (ps_if (Jr op_lt (pv 2) (pv 3) (J13 _)) (J6 (Jl (pv 4))) Jx)))))
   (J6 (J3o rfl TO.mg TO.ex)))),?_⟩
  refine ⟨_,rfl,_,_,rfl,rfl,_,rfl,?_⟩;by_cases c0:y < 0
  ·exact iteDT c0 (kx (by lia))
  refine iteD c0 ?_;refine ⟨_,rfl,q,rfl,⟨_,SqT.of hq⟩,for_tup (K:=K) (a:=q) (xs:=nV row)
   (fun i σ H2=>∃ v,σ=[some (.ref x),some (.ref q),some (.int y),some (.int (J16 r.ls row i)),v]/\H2=H/\J16 r.ls row i<=y) ⟨none,rfl,rfl,by rw [J1v];lia⟩ (fun i σ H2 _ h9=>by obtain ⟨_,_,e,_⟩:=h9;exact e ▸ SqT.of hq) ?_ ?_⟩
  ·rintro i z σ H2 hz ⟨v,rfl,rfl,hi⟩;obtain ⟨hil,rfl,hm⟩:=nV_get hz;refine ⟨_,rfl,_,rfl,x,CR,dx,fs,_,rfl,h0,TR.cl,TR.nL,k3,_,rfl,pl,_,_,_,rfl,rfl,SqT.of e3,J8 (J15 (hrow.lt _ hm)),_,_,rfl,rfl,?_⟩;refine ⟨_,rfl,_,rfl,_,_,rfl,rfl,_,rfl,?_⟩;have es:=J17 r.ls row i;by_cases c:y < J16 r.ls row i + r.ls.getD (row.getD i 0) 0
   ·exact iteDT c ⟨_,rfl,k i ⟨hil,hi,by rw [es];exact c⟩⟩
   ·exact iteD c ⟨_,by rw [es];rfl,rfl,by rw [es];lia⟩
  ·rintro σ H2 ⟨v,rfl,rfl,hi⟩;rw [J6s,J30] at hi;refine kx fun n=>?_;have h2:=n.2;lia
def spLetter (CO CR:Addr):Sp:=fun vs H Q E=>∃ (x:Addr) (r:Rst) (y:Int),vs=[.ref x,.int y]/\RestAt CR H x r/\Row r.ls r.top/\(∀ i,AtR r.ls r.top y i->Q (.int (r.top.getD i 0:Nat)) H)/\(¬ (0<=y/\y < r.size)->E (.ref CO) none H)
theorem scLetter:FnScope ["rest","y"] ["rest","y"] (J7 sLetter):=fS
theorem ok_letter {f fI CO CR:Addr} {fd fdI:FuncData} (F:Fun K "letter_at" "letter_at" sLetter f fd) (TR:TxtRest K CR)
  (GI:FnOk P w K mg base (Exc1 P w) 1 fI fdI ["rest","row","y"] (spLetIn CO CR)) (bI:Binds K fdI ["rest","row","y"] []) (mI:mg "letter_in"=some (.ref fI)) (kI:keepIn K (.ref fI)=true) :
  FnOk P w K mg base (Exc1 P w) 2 f fd ["rest","y"] (spLetter CO CR):=by
 refine F.okX scLetter (fun vs H Q E h=>?_) (fun cdv A outer s H vs Q E hr h=>?_)
 ·obtain ⟨x,r,y,rfl,_⟩:=h;rfl
 ·obtain ⟨x,r,y,rfl,R,hrow,k,kx⟩:=h;obtain ⟨dx,fs,pt,pb,pl,pu,h0,⟨k1,k2,k3,k4,k5⟩,e1,e2,e3,e4⟩:=R.ex;refine ⟨_,J6 (Jl (Jc GI hr rfl mI kI bI .nil pass1 (J0 (pv 0) (J0 (J9 (pv 0) rfl) (J0 (pv 1) J4))))),?_⟩;exact ⟨_,rfl,_,rfl,x,CR,dx,fs,_,rfl,h0,TR.cl,TR.nT,k1,_,rfl,x,pt,r,r.top,y,rfl,R,e1,hrow,k,kx⟩
def spGone (CO CR:Addr):Sp:=fun vs H Q E=>∃ (x p1 p2:Addr) (r:Rst) (r1 r2:List Nat) (y:Int),vs=[.ref x,.int y,.ref p1,.ref p2]/\RestAt CR H x r/\H p1=some (.tup (nV r1))/\H p2=some (.tup (nV r2))/\Row r.ls r1/\Row r.ls r2/\r.ts.length=r.ls.length/\r.ls.length<=24/\
 (∀ i H',Same H H'->AtR r.ls r1 y i->Q (.int (moveN r.ls r.ts (r1.getD i 0) (y - J16 r.ls r1 i) (firsts r.ls r2))) H')/\(¬ (0<=y/\y < lenOf r.ls r1)->E (.ref CO) none H)
theorem scGone:FnScope ["rest","y","from_row","to_row","letter","offset"] ["rest","y","from_row","to_row"] (J7 sGone):=fS
theorem ok_gone {f fA fM fF CO CR:Addr} {fd fdA fdM fdF:FuncData} (F:Fun K "gone_between" "gone_between" sGone f fd) (TR:TxtRest K CR)
  (GA:FnOk P w K mg base (Exc1 P w) 1 fA fdA ["rest","row","y"] (spLetIn CO CR)) (bA:Binds K fdA ["rest","row","y"] []) (mA:mg "letter_in"=some (.ref fA)) (kA:keepIn K (.ref fA)=true)
  (GF:FnOk P w K mg base CX0 1 fF fdF ["lengths","order"] spFirst) (bF:Binds K fdF ["lengths","order"] []) (mF:mg "first_places"=some (.ref fF)) (kF:keepIn K (.ref fF)=true)
  (GM:FnOk P w K mg base CX0 1 fM fdM ["line","piece","offset","firsts"] (spMovedF K)) (bM:Binds K fdM ["line","piece","offset","firsts"] []) (mM:mg "moved"=some (.ref fM)) (kM:keepIn K (.ref fM)=true) :
  FnOk P w K mg base (Exc1 P w) 2 f fd ["rest","y","from_row","to_row"] (spGone CO CR):=by
 refine F.okX scGone (fun vs H Q E h=>?_) (fun cdv A outer s H vs Q E hr h=>?_)
 ·obtain ⟨x,p1,p2,r,r1,r2,y,rfl,_⟩:=h;rfl
 ·obtain ⟨x,p1,p2,r,r1,r2,y,rfl,R,hp1,hp2,w1,w2,hts,few,k,kx⟩:=h;obtain ⟨dx,fs,pt,pb,pl,pu,h0,⟨k1,k2,k3,k4,k5⟩,e1,e2,e3,e4⟩:=R.ex;refine ⟨_,J1 (Jh (i:=4) scGone.nd rfl (Or.inl rfl) (Jc GA hr rfl mA kA bA .nil pass1 (J0 (pv 0) (J0 (pv 2) (J0 (pv 1) J4)))))
   (J1 (Jh (i:=5) scGone.nd rfl (Or.inl rfl) (pe_op J2a (pv 1) (pe_ix Ji (Jc GF hr rfl mF kF bF .nil pass0 (J0 (J9 (pv 0) rfl) (J0 (pv 2) J4))) (pv 4) (fun _ _=>rfl))))
   (J6 (Jl (Jc GM hr rfl mM kM bM .nil pass0 (J0 (pv 0) (J0 (pv 4) (J0 (pv 5) (J0 (Jc GF hr rfl mF kF bF .nil pass0 (J0 (J9 (pv 0) rfl) (J0 (pv 3) J4))) J4)))))))),?_⟩
  refine ⟨_,rfl,_,rfl,_,rfl,x,p1,r,r1,y,rfl,R,hp1,w1,fun i hi=>?_,kx⟩;have hj:r1.getD i 0 < r.ls.length:=w1.lt _ (J1k hi.1);refine ⟨_,rfl,_,rfl,x,CR,dx,fs,_,rfl,h0,TR.cl,TR.nL,k3,_,rfl,pl,p1,r.ls,r1,rfl,e3,.inr hp1,w1.lt,few,fun l H1 s1 hl=>?_⟩;refine ⟨_,rfl,l,_,_,_,rfl,rfl,SqT.of hl,J8 (J15 (by rw [J6y];exact hj)),_,_,rfl,rfl,?_⟩;refine ⟨_,rfl,_,rfl,_,rfl,_,rfl,x,CR,dx,fs,_,rfl,s1 _ _ h0,TR.cl,TR.nL,k3,_,rfl,pl,p2,r.ls,r2,rfl,s1 _ _ e3,.inr (s1 _ _ hp2),w2.lt,few,fun l2 H2 s2 hl2=>?_⟩;refine ⟨x,l2,r.ls,r.ts,firsts r.ls r2,r1.getD i 0,_,rfl,((R.same s1).same s2).fields TR,hl2,J6y _ _,hts,hj,?_⟩;rw [w1.first hi.1];exact k i H2 (s1.trans s2) hi
def spRGoes (CO CR:Addr):Sp:=fun vs H Q E=>∃ (x:Addr) (r:Rst) (y:Int),vs=[.ref x,.int y]/\RestAt CR H x r/\r.Ok/\(∀ z H',Same H H'->J2m r y z->Q (.int z) H')/\(¬ (0<=y/\y < r.size)->E (.ref CO) none H)
theorem scRGoes:FnScope ["rest","y"] ["rest","y"] (J7 sRGoes):=fS
theorem ok_rgoes {f fG CO CR:Addr} {fd fdG:FuncData} (F:Fun K "rest_goes" "rest_goes" sRGoes f fd) (TR:TxtRest K CR)
  (GG:FnOk P w K mg base (Exc1 P w) 2 fG fdG ["rest","y","from_row","to_row"] (spGone CO CR)) (bG:Binds K fdG ["rest","y","from_row","to_row"] []) (mG:mg "gone_between"=some (.ref fG)) (kG:keepIn K (.ref fG)=true) :
  FnOk P w K mg base (Exc1 P w) 3 f fd ["rest","y"] (spRGoes CO CR):=by
 refine F.okX scRGoes (fun vs H Q E h=>?_) (fun cdv A outer s H vs Q E hr h=>?_)
 ·obtain ⟨x,r,y,rfl,_⟩:=h;rfl
 ·obtain ⟨x,r,y,rfl,R,ok,k,kx⟩:=h;obtain ⟨dx,fs,pt,pb,pl,pu,h0,⟨k1,k2,k3,k4,k5⟩,e1,e2,e3,e4⟩:=R.ex;refine ⟨_,J6 (Jl (Jc GG hr rfl mG kG bG .nil pass1 (J0 (pv 0) (J0 (pv 1) (J0 (J9 (pv 0) rfl) (J0 (J9 (pv 0) rfl) J4)))))),?_⟩;exact ⟨_,rfl,_,rfl,_,rfl,x,CR,dx,fs,_,rfl,h0,TR.cl,TR.nT,k1,_,rfl,x,CR,dx,fs,_,rfl,h0,TR.cl,TR.nB,k2,x,pt,pb,r,r.top,r.bot,y,rfl,R,e1,e2,ok.row,ok.rowB,ok.len,ok.few,fun i H' s' hi=>k _ H' s' ⟨i,hi,rfl⟩,kx⟩
def spRComes (CO CR:Addr):Sp:=fun vs H Q E=>∃ (x:Addr) (r:Rst) (y:Int),vs=[.ref x,.int y]/\RestAt CR H x r/\r.Ok/\(∀ z H',Same H H'->J2m r z y->Q (.int z) H')/\(¬ (0<=y/\y < r.size)->E (.ref CO) none H)
theorem scRComes:FnScope ["rest","y"] ["rest","y"] (J7 sRComes):=fS
theorem ok_rcomes {f fG CO CR:Addr} {fd fdG:FuncData} (F:Fun K "rest_comes" "rest_comes" sRComes f fd) (TR:TxtRest K CR)
  (GG:FnOk P w K mg base (Exc1 P w) 2 fG fdG ["rest","y","from_row","to_row"] (spGone CO CR)) (bG:Binds K fdG ["rest","y","from_row","to_row"] []) (mG:mg "gone_between"=some (.ref fG)) (kG:keepIn K (.ref fG)=true) :
  FnOk P w K mg base (Exc1 P w) 3 f fd ["rest","y"] (spRComes CO CR):=by
 refine F.okX scRComes (fun vs H Q E h=>?_) (fun cdv A outer s H vs Q E hr h=>?_)
 ·obtain ⟨x,r,y,rfl,_⟩:=h;rfl
 ·obtain ⟨x,r,y,rfl,R,ok,k,kx⟩:=h;obtain ⟨dx,fs,pt,pb,pl,pu,h0,⟨k1,k2,k3,k4,k5⟩,e1,e2,e3,e4⟩:=R.ex;refine ⟨_,J6 (Jl (Jc GG hr rfl mG kG bG .nil pass1 (J0 (pv 0) (J0 (pv 1) (J0 (J9 (pv 0) rfl) (J0 (J9 (pv 0) rfl) J4)))))),?_⟩;refine ⟨_,rfl,_,rfl,_,rfl,x,CR,dx,fs,_,rfl,h0,TR.cl,TR.nB,k2,_,rfl,x,CR,dx,fs,_,rfl,h0,TR.cl,TR.nT,k1,x,pb,pt,r,r.bot,r.top,y,rfl,R,e2,e1,ok.rowB,ok.row,ok.len,ok.few,fun i H' s' hi=>k _ H' s' (comes_at ok hi),fun n=>kx ?_⟩;rw [ok.sizeB] at n;exact n
inductive Kd where
 | ho | ev | ov | un | os | us
 deriving DecidableEq
def kd:Stp->Kd
 | .home _=>.ho | .even _ _=>.ev | .over _ _=>.ov | .under _ _=>.un | .overs _ _=>.os | .unders _ _=>.us
def loseV:Stp->V
 | .even _ b=>.int (b:Nat) | .over _ b=>.int (b:Nat) | .under _ b=>.int (b:Nat) | _=>.non
def stF (s:Stp):List (Str × V):=putF ("times":Str) (.int s.times) (putF ("loser":Str) (loseV s) (putF ("winner":Str) (.int (s.winner:Nat)) []))
theorem stF_w (s:Stp):(stF s).lookup ("winner":Str)=some (.int (s.winner:Nat)):=by unfold stF;rw [lk_ne (by decide +kernel),lk_ne (by decide +kernel),J18]
theorem stF_l (s:Stp):(stF s).lookup ("loser":Str)=some (loseV s):=by unfold stF;rw [lk_ne (by decide +kernel),J18]
theorem stF_t (s:Stp):(stF s).lookup ("times":Str)=some (.int s.times):=by unfold stF;rw [J18]
theorem J3l (s:Stp) {m:Str} (h1:¬ m=("times":Str)) (h2:¬ m=("loser":Str)) (h3:¬ m=("winner":Str)):(stF s).lookup m=none:=by
 unfold stF;rw [lk_ne h1,lk_ne h2,lk_ne h3];rfl
def StepAt (cs:Kd->Addr) (H:Hp) (p:Addr) (s:Stp):Prop:=∃ dx,H p=some (.ins (cs (kd s)) dx (stF s))
theorem StepAt.same {cs:Kd->Addr} {H H':Hp} {p:Addr} {s:Stp} (h:StepAt cs H p s) (e:Same H H'):StepAt cs H' p s:=by obtain ⟨dx,q⟩:=h;exact ⟨dx,e _ _ q⟩
structure TxtS (K:Frag) (cs:Kd->Addr):Prop where
 cl:∀ k,Cls K (cs k)
 nW:∀ k,NoAttr K (cs k) "winner"
 nL:∀ k,NoAttr K (cs k) "loser"
 nT:∀ k,NoAttr K (cs k) "times"
def J4e (cs:Kd->Addr):Sp:=fun vs H Q _=>∃ (x dx:Addr) (k:Kd) (a b c:V),vs=[.ref x,a,b,c]/\H x=some (.ins (cs k) dx [])/\Q .non (upd H x (.ins (cs k) dx (putF ("times":Str) c (putF ("loser":Str) b (putF ("winner":Str) a [])))))
theorem scSInit:FnScope ["self","winner","loser","times"] ["self","winner","loser","times"] (J7 sStInit):=fS
theorem ok_sinit {f:Addr} {fd:FuncData} {cs:Kd->Addr} (F:Fun K "__init__" "Step.__init__" sStInit f fd) (TS:TxtS K cs):FnOk P w K mg base CX0 1 f fd ["self","winner","loser","times"] (J4e cs):=by
 refine F.ok scSInit (fun vs H Q E h=>?_) (fun cdv A outer s H vs Q E hr h=>?_)
 ·obtain ⟨x,dx,k,a,b,c,rfl,_⟩:=h;rfl
 ·obtain ⟨x,dx,k,a,b,c,rfl,hx,q⟩:=h;refine ⟨_,J1 (J1w (pv 0) (pv 1) rfl) (J1 (J1w (pv 0) (pv 2) rfl) (J6 (J1w (pv 0) (pv 3) rfl))),?_⟩;have l1:(putF ("winner":Str) a []).length<=1:=Jm ..;have l2:(putF ("loser":Str) b (putF ("winner":Str) a [])).length<=2:=by have:=Jm ("loser":Str) b (putF ("winner":Str) a []);lia
  refine ⟨_,rfl,_,rfl,x,cs k,dx,[],rfl,hx,TS.cl k,TS.nW k,(by show 0 < 1000;decide),?_⟩;refine ⟨_,rfl,_,rfl,x,cs k,dx,_,rfl,J3,TS.cl k,TS.nL k,(by lia),?_⟩;rw [J54];refine ⟨_,rfl,_,rfl,x,cs k,dx,_,rfl,J3,TS.cl k,TS.nT k,(by lia),?_⟩;rw [J54];exact q
def spMk (cs:Kd->Addr) (args:List V->Stp->Prop):Sp:=fun vs H Q _=>∃ (x dx:Addr) (us:List V) (s:Stp),vs=.ref x :: us/\args us s/\H x=some (.ins (cs (kd s)) dx [])/\Q .non (upd H x (.ins (cs (kd s)) dx (stF s)))
def aHo (us:List V) (s:Stp):Prop:=∃ a:Nat,us=[.int (a:Nat)]/\s=.home a
def aEv (us:List V) (s:Stp):Prop:=∃ a b:Nat,us=[.int (a:Nat),.int (b:Nat)]/\s=.even a b
def aOv (us:List V) (s:Stp):Prop:=∃ a b:Nat,us=[.int (a:Nat),.int (b:Nat)]/\s=.over a b
def aUn (us:List V) (s:Stp):Prop:=∃ a b:Nat,us=[.int (a:Nat),.int (b:Nat)]/\s=.under a b
def aOs (us:List V) (s:Stp):Prop:=∃ (a:Nat) (t:Int),us=[.int (a:Nat),.int t]/\s=.overs a t
def aUs (us:List V) (s:Stp):Prop:=∃ (a:Nat) (t:Int),us=[.int (a:Nat),.int t]/\s=.unders a t
theorem scHoInit:FnScope ["self","winner"] ["self","winner"] (J7 sHoInit):=fS
theorem ok_hoinit {f fS CS:Addr} {fd fdS:FuncData} {cs:Kd->Addr} (F:Fun K "__init__" "Home.__init__" sHoInit f fd) (B:BaseM K CS "__init__" fS) (mS:mg "Step"=some (.ref CS)) (GS:FnOk P w K mg base CX0 1 fS fdS ["self","winner","loser","times"] (J4e cs)) (bS:Binds K fdS ["self","winner","loser","times"] []) :
  FnOk P w K mg base CX0 2 f fd ["self","winner"] (spMk cs aHo):=by
 refine F.ok scHoInit (fun vs H Q E h=>?_) (fun cdv A outer s H vs Q E hr h=>?_)
 ·obtain ⟨x,dx,us,s,rfl,⟨a,rfl,rfl⟩,_⟩:=h;rfl
 ·obtain ⟨x,dx,us,s,rfl,⟨a,rfl,rfl⟩,hx,q⟩:=h;refine ⟨_,J6 (J1r (J59 B rfl mS GS hr bS .nil pass0 (J0 (pv 0) (J0 (pv 1) (J0 pe_non (J0 Jb J4)))))),?_⟩;exact ⟨_,rfl,_,rfl,x,dx,.ho,_,_,_,rfl,hx,q⟩
theorem scEvInit:FnScope ["self","winner","loser"] ["self","winner","loser"] (J7 sEvInit):=fS
theorem ok_evinit {f fS CS:Addr} {fd fdS:FuncData} {cs:Kd->Addr} (F:Fun K "__init__" "Even.__init__" sEvInit f fd) (B:BaseM K CS "__init__" fS) (mS:mg "Step"=some (.ref CS)) (GS:FnOk P w K mg base CX0 1 fS fdS ["self","winner","loser","times"] (J4e cs)) (bS:Binds K fdS ["self","winner","loser","times"] []) :
  FnOk P w K mg base CX0 2 f fd ["self","winner","loser"] (spMk cs aEv):=by
 refine F.ok scEvInit (fun vs H Q E h=>?_) (fun cdv A outer s H vs Q E hr h=>?_)
 ·obtain ⟨x,dx,us,s,rfl,⟨a,b,rfl,rfl⟩,_⟩:=h;rfl
 ·obtain ⟨x,dx,us,s,rfl,⟨a,b,rfl,rfl⟩,hx,q⟩:=h;refine ⟨_,J6 (J1r (J59 B rfl mS GS hr bS .nil pass0 (J0 (pv 0) (J0 (pv 1) (J0 (pv 2) (J0 Jb J4)))))),?_⟩;exact ⟨_,rfl,_,rfl,_,rfl,x,dx,.ev,_,_,_,rfl,hx,q⟩
theorem scOvInit:FnScope ["self","winner","loser"] ["self","winner","loser"] (J7 sOvInit):=fS
theorem ok_ovinit {f fS CS:Addr} {fd fdS:FuncData} {cs:Kd->Addr} (F:Fun K "__init__" "Over.__init__" sOvInit f fd) (B:BaseM K CS "__init__" fS) (mS:mg "Step"=some (.ref CS)) (GS:FnOk P w K mg base CX0 1 fS fdS ["self","winner","loser","times"] (J4e cs)) (bS:Binds K fdS ["self","winner","loser","times"] []) :
  FnOk P w K mg base CX0 2 f fd ["self","winner","loser"] (spMk cs aOv):=by
 refine F.ok scOvInit (fun vs H Q E h=>?_) (fun cdv A outer s H vs Q E hr h=>?_)
 ·obtain ⟨x,dx,us,s,rfl,⟨a,b,rfl,rfl⟩,_⟩:=h;rfl
 ·obtain ⟨x,dx,us,s,rfl,⟨a,b,rfl,rfl⟩,hx,q⟩:=h;refine ⟨_,J6 (J1r (J59 B rfl mS GS hr bS .nil pass0 (J0 (pv 0) (J0 (pv 1) (J0 (pv 2) (J0 Jb J4)))))),?_⟩;exact ⟨_,rfl,_,rfl,_,rfl,x,dx,.ov,_,_,_,rfl,hx,q⟩
theorem scUnInit:FnScope ["self","winner","loser"] ["self","winner","loser"] (J7 sUnInit):=fS
theorem ok_uninit {f fS CS:Addr} {fd fdS:FuncData} {cs:Kd->Addr} (F:Fun K "__init__" "Under.__init__" sUnInit f fd) (B:BaseM K CS "__init__" fS) (mS:mg "Step"=some (.ref CS)) (GS:FnOk P w K mg base CX0 1 fS fdS ["self","winner","loser","times"] (J4e cs)) (bS:Binds K fdS ["self","winner","loser","times"] []) :
  FnOk P w K mg base CX0 2 f fd ["self","winner","loser"] (spMk cs aUn):=by
 refine F.ok scUnInit (fun vs H Q E h=>?_) (fun cdv A outer s H vs Q E hr h=>?_)
 ·obtain ⟨x,dx,us,s,rfl,⟨a,b,rfl,rfl⟩,_⟩:=h;rfl
 ·obtain ⟨x,dx,us,s,rfl,⟨a,b,rfl,rfl⟩,hx,q⟩:=h;refine ⟨_,J6 (J1r (J59 B rfl mS GS hr bS .nil pass0 (J0 (pv 0) (J0 (pv 1) (J0 (pv 2) (J0 Jb J4)))))),?_⟩;exact ⟨_,rfl,_,rfl,_,rfl,x,dx,.un,_,_,_,rfl,hx,q⟩
theorem scOsInit:FnScope ["self","winner","times"] ["self","winner","times"] (J7 sOsInit):=fS
theorem ok_osinit {f fS CS:Addr} {fd fdS:FuncData} {cs:Kd->Addr} (F:Fun K "__init__" "Overs.__init__" sOsInit f fd) (B:BaseM K CS "__init__" fS) (mS:mg "Step"=some (.ref CS)) (GS:FnOk P w K mg base CX0 1 fS fdS ["self","winner","loser","times"] (J4e cs)) (bS:Binds K fdS ["self","winner","loser","times"] []) :
  FnOk P w K mg base CX0 2 f fd ["self","winner","times"] (spMk cs aOs):=by
 refine F.ok scOsInit (fun vs H Q E h=>?_) (fun cdv A outer s H vs Q E hr h=>?_)
 ·obtain ⟨x,dx,us,s,rfl,⟨a,b,rfl,rfl⟩,_⟩:=h;rfl
 ·obtain ⟨x,dx,us,s,rfl,⟨a,b,rfl,rfl⟩,hx,q⟩:=h;refine ⟨_,J6 (J1r (J59 B rfl mS GS hr bS .nil pass0 (J0 (pv 0) (J0 (pv 1) (J0 pe_non (J0 (pv 2) J4)))))),?_⟩;exact ⟨_,rfl,_,rfl,_,rfl,x,dx,.os,_,_,_,rfl,hx,q⟩
theorem scUsInit:FnScope ["self","winner","times"] ["self","winner","times"] (J7 sUsInit):=fS
theorem ok_usinit {f fS CS:Addr} {fd fdS:FuncData} {cs:Kd->Addr} (F:Fun K "__init__" "Unders.__init__" sUsInit f fd) (B:BaseM K CS "__init__" fS) (mS:mg "Step"=some (.ref CS)) (GS:FnOk P w K mg base CX0 1 fS fdS ["self","winner","loser","times"] (J4e cs)) (bS:Binds K fdS ["self","winner","loser","times"] []) :
  FnOk P w K mg base CX0 2 f fd ["self","winner","times"] (spMk cs aUs):=by
 refine F.ok scUsInit (fun vs H Q E h=>?_) (fun cdv A outer s H vs Q E hr h=>?_)
 ·obtain ⟨x,dx,us,s,rfl,⟨a,b,rfl,rfl⟩,_⟩:=h;rfl
 ·obtain ⟨x,dx,us,s,rfl,⟨a,b,rfl,rfl⟩,hx,q⟩:=h;refine ⟨_,J6 (J1r (J59 B rfl mS GS hr bS .nil pass0 (J0 (pv 0) (J0 (pv 1) (J0 pe_non (J0 (pv 2) J4)))))),?_⟩;exact ⟨_,rfl,_,rfl,_,rfl,x,dx,.us,_,_,_,rfl,hx,q⟩
def wordS:Kd->Str
 | .ho=>"home" | .ev=>"even" | .ov=>"over" | .un=>"under" | .os=>"overs" | .us=>"unders"
def ownB:Kd->Bool
 | .ev=>true | .ov=>true | .os=>true | _=>false
def J3m (k:Kd):Sp:=fun vs H Q _=>∃ x:Addr,vs=[.ref x]/\Q (.str (wordS k)) H
def spOwn (k:Kd):Sp:=fun vs H Q _=>∃ x:Addr,vs=[.ref x]/\Q (.bl (ownB k)) H
theorem scHoWord:FnScope ["self"] ["self"] (J7 sHoWord):=fS
theorem ok_howord {f:Addr} {fd:FuncData} (F:Fun K "word" "Home.word" sHoWord f fd):FnOk P w K mg base CX0 1 f fd ["self"] (J3m .ho):=by
 refine F.ok scHoWord (fun vs H Q E h=>?_) (fun cdv A outer s H vs Q E hr h=>?_)
 ·obtain ⟨x,rfl,_⟩:=h;rfl
 ·obtain ⟨x,rfl,q⟩:=h;exact ⟨_,J6 (Jl J4z),q⟩
theorem scEvWord:FnScope ["self"] ["self"] (J7 sEvWord):=fS
theorem ok_evword {f:Addr} {fd:FuncData} (F:Fun K "word" "Even.word" sEvWord f fd):FnOk P w K mg base CX0 1 f fd ["self"] (J3m .ev):=by
 refine F.ok scEvWord (fun vs H Q E h=>?_) (fun cdv A outer s H vs Q E hr h=>?_)
 ·obtain ⟨x,rfl,_⟩:=h;rfl
 ·obtain ⟨x,rfl,q⟩:=h;exact ⟨_,J6 (Jl J4z),q⟩
theorem scOvWord:FnScope ["self"] ["self"] (J7 sOvWord):=fS
theorem ok_ovword {f:Addr} {fd:FuncData} (F:Fun K "word" "Over.word" sOvWord f fd):FnOk P w K mg base CX0 1 f fd ["self"] (J3m .ov):=by
 refine F.ok scOvWord (fun vs H Q E h=>?_) (fun cdv A outer s H vs Q E hr h=>?_)
 ·obtain ⟨x,rfl,_⟩:=h;rfl
 ·obtain ⟨x,rfl,q⟩:=h;exact ⟨_,J6 (Jl J4z),q⟩
theorem scUnWord:FnScope ["self"] ["self"] (J7 sUnWord):=fS
theorem ok_unword {f:Addr} {fd:FuncData} (F:Fun K "word" "Under.word" sUnWord f fd):FnOk P w K mg base CX0 1 f fd ["self"] (J3m .un):=by
 refine F.ok scUnWord (fun vs H Q E h=>?_) (fun cdv A outer s H vs Q E hr h=>?_)
 ·obtain ⟨x,rfl,_⟩:=h;rfl
 ·obtain ⟨x,rfl,q⟩:=h;exact ⟨_,J6 (Jl J4z),q⟩
theorem scOsWord:FnScope ["self"] ["self"] (J7 sOsWord):=fS
theorem ok_osword {f:Addr} {fd:FuncData} (F:Fun K "word" "Overs.word" sOsWord f fd):FnOk P w K mg base CX0 1 f fd ["self"] (J3m .os):=by
 refine F.ok scOsWord (fun vs H Q E h=>?_) (fun cdv A outer s H vs Q E hr h=>?_)
 ·obtain ⟨x,rfl,_⟩:=h;rfl
 ·obtain ⟨x,rfl,q⟩:=h;exact ⟨_,J6 (Jl J4z),q⟩
theorem scUsWord:FnScope ["self"] ["self"] (J7 sUsWord):=fS
theorem ok_usword {f:Addr} {fd:FuncData} (F:Fun K "word" "Unders.word" sUsWord f fd):FnOk P w K mg base CX0 1 f fd ["self"] (J3m .us):=by
 refine F.ok scUsWord (fun vs H Q E h=>?_) (fun cdv A outer s H vs Q E hr h=>?_)
 ·obtain ⟨x,rfl,_⟩:=h;rfl
 ·obtain ⟨x,rfl,q⟩:=h;exact ⟨_,J6 (Jl J4z),q⟩
theorem idx_nat (row:List Nat) (a:Nat):(natI row).idxOf (a:Int)=row.idxOf a:=by
 unfold natI
 induction row with
 | nil=>rfl
 | cons x r ih =>
  rw [map_cons,idxOf_cons,idxOf_cons,ih];have e:((x:Int) == (a:Int))=(x == a):=by
   rw [Bool.eq_iff_iff,beq_iff_eq,beq_iff_eq];exact Int.ofNat_inj
  rw [e]
theorem mem_nat {row:List Nat} {a:Nat} (h:a∈row):(a:Int)∈natI row:=mem_map.mpr ⟨a,h,rfl⟩
theorem cut_nat (row:List Nat) (n:Nat) (h:n<=row.length):cutV (nV row) (some (n:Int)) none=nV (row.drop n):=by
 unfold cutV;rw [J6s,HT.sIx_nat,HT.sIx_none,Nat.min_eq_left h,nV_eq,nV_eq,List.map_drop,List.take_of_length_le (by simp)]
def J3z:Sp:=fun vs H Q _=>∃ (q:Addr) (row:List Nat) (a:Nat),vs=[.ref q,.int (a:Nat)]/\H q=some (.tup (nV row))/\a∈row/\∀ p H',Same H H'->H' p=some (.tup (nV (J2 row a)))->Q (.ref p) H'
theorem scBehindL:FnScope ["row","letter"] ["row","letter"] (J7 J7f):=fS
theorem ok_behindL {f:Addr} {fd:FuncData} (F:Fun K "letters_behind" "letters_behind" J7f f fd):FnOk P w K mg base CX0 1 f fd ["row","letter"] J3z:=by
 refine F.ok scBehindL (fun vs H Q E h=>?_) (fun cdv A outer s H vs Q E hr h=>?_)
 ·obtain ⟨q,row,a,rfl,_⟩:=h;rfl
 ·obtain ⟨q,row,a,rfl,hq,ha,k⟩:=h;refine ⟨_,J6 (Jl (J7m sl_tup (pv 0) (po_some (pe_op J19 (pe_bmT PySem.F.slot_tuple_index PySem.F.type_tuple_index mt_indexT (pv 0) (J0 (pv 1) J4)) Jb)) po_none)),?_⟩;have h1:row.idxOf a < row.length:=idxOf_lt_length_iff.mpr ha;have e:(((natI row).idxOf (a:Int):Nat):Int) + 1=((row.idxOf a + 1:Nat):Int):=by rw [idx_nat];lia
  refine ⟨_,rfl,_,rfl,⟨q,_,rfl,hq⟩,_,rfl,q,natI row,(a:Int),rfl,rfl,hq,mem_nat ha,_,_,rfl,rfl,_,rfl,q,nV row,rfl,SqT.of hq,?_,fun p hp=>k p _ (Ja hp) ?_⟩
  ·rintro ⟨z,_⟩;have z:HT.sIx (nV row).length 0 (some ((((natI row).idxOf (a:Int):Nat):Int) + 1))=0:=z;rw [e,HT.sIx_nat,J6s] at z;lia
  ·rw [J3];show some (HO.tup (cutV (nV row) (some ((((natI row).idxOf (a:Int):Nat):Int) + 1)) none))=_;rw [e,cut_nat row _ h1];rfl
def J1l (cs:Kd->Addr) (CR:Addr) (k:Kd):Sp:=fun vs H Q _=>∃ (x y:Addr) (s:Stp) (r:Rst),vs=[.ref x,.ref y]/\kd s=k/\StepAt cs H x s/\RestAt CR H y r/\s.winner∈r.top/\s.winner∈r.bot/\∀ p H',Same H H'->H' p=some (.tup (nV (s.losers r)))->Q (.ref p) H'
theorem scStLosers:FnScope ["self","rest"] ["self","rest"] (J7 J5m):=fS
theorem J3s {f CR:Addr} {fd:FuncData} {cs:Kd->Addr} (F:Fun K "losers" "Step.losers" J5m f fd) (TS:TxtS K cs) {k:Kd} (hk:k=.ev\/k=.ov\/k=.un):FnOk P w K mg base CX0 2 f fd ["self","rest"] (J1l cs CR k):=by
 refine F.ok scStLosers (fun vs H Q E h=>?_) (fun cdv A outer s H vs Q E hr h=>?_)
 ·obtain ⟨x,y,s,r,rfl,_⟩:=h;rfl
 ·obtain ⟨x,y,s,r,rfl,hs,⟨dx,hx⟩,R,_,_,q⟩:=h;obtain ⟨b,hb,hl⟩:∃ b:Nat,loseV s=.int (b:Nat)/\s.losers r=[b]:=by
   cases s with
   | even a b=>exact ⟨b,rfl,rfl⟩
   | over a b=>exact ⟨b,rfl,rfl⟩
   | under a b=>exact ⟨b,rfl,rfl⟩
   | home a=>subst hs;rcases hk with q | q | q <;> cases q
   | overs a t=>subst hs;rcases hk with q | q | q <;> cases q
   | unders a t=>subst hs;rcases hk with q | q | q <;> cases q
  refine ⟨_,J6 (Jl (J4y (J0 (J9 (pv 0) rfl) J4))),?_⟩;refine ⟨_,rfl,x,cs (kd s),dx,stF s,_,rfl,hx,TS.cl _,TS.nL _,stF_l s,(by show 1<=sizeLine;decide),fun p hp=>q p _ (Ja hp) ?_⟩;rw [J3,hb,hl];rfl
theorem scHoLosers:FnScope ["self","rest"] ["self","rest"] (J7 J5q):=fS
theorem ok_holosers {f CR:Addr} {fd:FuncData} {cs:Kd->Addr} (F:Fun K "losers" "Home.losers" J5q f fd):FnOk P w K mg base CX0 2 f fd ["self","rest"] (J1l cs CR .ho):=by
 refine F.ok scHoLosers (fun vs H Q E h=>?_) (fun cdv A outer s H vs Q E hr h=>?_)
 ·obtain ⟨x,y,s,r,rfl,_⟩:=h;rfl
 ·obtain ⟨x,y,s,r,rfl,hs,_,R,_,_,q⟩:=h
  cases s with
  | home a=>exact ⟨_,J6 (Jl (J4y J4)),Nat.zero_le _,fun p hp=>q p _ (Ja hp) J3⟩
  | even a b=>cases hs
  | over a b=>cases hs
  | under a b=>cases hs
  | overs a t=>cases hs
  | unders a t=>cases hs
theorem scOsLosers:FnScope ["self","rest"] ["self","rest"] (J7 J5o):=fS
theorem ok_oslosers {f fB CR:Addr} {fd fdB:FuncData} {cs:Kd->Addr} (F:Fun K "losers" "Overs.losers" J5o f fd) (TS:TxtS K cs) (TR:TxtRest K CR)
  (GB:FnOk P w K mg base CX0 1 fB fdB ["row","letter"] J3z) (bB:Binds K fdB ["row","letter"] []) (mB:mg "letters_behind"=some (.ref fB)) (kB:keepIn K (.ref fB)=true):FnOk P w K mg base CX0 2 f fd ["self","rest"] (J1l cs CR .os):=by
 refine F.ok scOsLosers (fun vs H Q E h=>?_) (fun cdv A outer s H vs Q E hr h=>?_)
 ·obtain ⟨x,y,s,r,rfl,_⟩:=h;rfl
 ·obtain ⟨x,y,s,r,rfl,hs,⟨dx,hx⟩,R,hT,hB,q⟩:=h;obtain ⟨dr,fr,pt,pb,pl,pu,h0,⟨k1,k2,k3,k4,k5⟩,e1,e2,e3,e4⟩:=R.ex;have hl:s.losers r=J2 r.bot s.winner:=by
   cases s with
   | overs a t=>rfl
   | _=>cases hs
  refine ⟨_,J6 (Jl (Jc GB hr rfl mB kB bB .nil pass0 (J0 (J9 (pv 1) rfl) (J0 (J9 (pv 0) rfl) J4)))),?_⟩;refine ⟨_,rfl,y,CR,dr,fr,_,rfl,h0,TR.cl,TR.nB,k2,_,rfl,x,cs (kd s),dx,stF s,_,rfl,hx,TS.cl _,TS.nW _,stF_w s,pb,r.bot,s.winner,rfl,e2,hB,fun p H' s' hp=>q p H' s' ?_⟩;rw [hl];exact hp
theorem scUsLosers:FnScope ["self","rest"] ["self","rest"] (J7 J5j):=fS
theorem ok_uslosers {f fB CR:Addr} {fd fdB:FuncData} {cs:Kd->Addr} (F:Fun K "losers" "Unders.losers" J5j f fd) (TS:TxtS K cs) (TR:TxtRest K CR)
  (GB:FnOk P w K mg base CX0 1 fB fdB ["row","letter"] J3z) (bB:Binds K fdB ["row","letter"] []) (mB:mg "letters_behind"=some (.ref fB)) (kB:keepIn K (.ref fB)=true):FnOk P w K mg base CX0 2 f fd ["self","rest"] (J1l cs CR .us):=by
 refine F.ok scUsLosers (fun vs H Q E h=>?_) (fun cdv A outer s H vs Q E hr h=>?_)
 ·obtain ⟨x,y,s,r,rfl,_⟩:=h;rfl
 ·obtain ⟨x,y,s,r,rfl,hs,⟨dx,hx⟩,R,hT,hB,q⟩:=h;obtain ⟨dr,fr,pt,pb,pl,pu,h0,⟨k1,k2,k3,k4,k5⟩,e1,e2,e3,e4⟩:=R.ex;have hl:s.losers r=J2 r.top s.winner:=by
   cases s with
   | unders a t=>rfl
   | _=>cases hs
  refine ⟨_,J6 (Jl (Jc GB hr rfl mB kB bB .nil pass0 (J0 (J9 (pv 1) rfl) (J0 (J9 (pv 0) rfl) J4)))),?_⟩;refine ⟨_,rfl,y,CR,dr,fr,_,rfl,h0,TR.cl,TR.nT,k1,_,rfl,x,cs (kd s),dx,stF s,_,rfl,hx,TS.cl _,TS.nW _,stF_w s,pt,r.top,s.winner,rfl,e1,hT,fun p H' s' hp=>q p H' s' ?_⟩;rw [hl];exact hp
theorem scStOwn:FnScope ["self"] ["self"] (J7 sStOwn):=fS
theorem J7n {f:Addr} {fd:FuncData} (F:Fun K "own_first" "Step.own_first" sStOwn f fd) {k:Kd} (hk:ownB k=false):FnOk P w K mg base CX0 1 f fd ["self"] (spOwn k):=by
 refine F.ok scStOwn (fun vs H Q E h=>?_) (fun cdv A outer s H vs Q E hr h=>?_)
 ·obtain ⟨x,rfl,_⟩:=h;rfl
 ·obtain ⟨x,rfl,q⟩:=h;rw [hk] at q;exact ⟨_,J6 (Jl pe_bl),q⟩
theorem scEvOwn:FnScope ["self"] ["self"] (J7 sEvOwn):=fS
theorem ok_evown {f:Addr} {fd:FuncData} (F:Fun K "own_first" "Even.own_first" sEvOwn f fd):FnOk P w K mg base CX0 1 f fd ["self"] (spOwn .ev):=by
 refine F.ok scEvOwn (fun vs H Q E h=>?_) (fun cdv A outer s H vs Q E hr h=>?_)
 ·obtain ⟨x,rfl,_⟩:=h;rfl
 ·obtain ⟨x,rfl,q⟩:=h;exact ⟨_,J6 (Jl pe_bl),q⟩
theorem scOvOwn:FnScope ["self"] ["self"] (J7 sOvOwn):=fS
theorem ok_ovown {f:Addr} {fd:FuncData} (F:Fun K "own_first" "Over.own_first" sOvOwn f fd):FnOk P w K mg base CX0 1 f fd ["self"] (spOwn .ov):=by
 refine F.ok scOvOwn (fun vs H Q E h=>?_) (fun cdv A outer s H vs Q E hr h=>?_)
 ·obtain ⟨x,rfl,_⟩:=h;rfl
 ·obtain ⟨x,rfl,q⟩:=h;exact ⟨_,J6 (Jl pe_bl),q⟩
theorem scOsOwn:FnScope ["self"] ["self"] (J7 sOsOwn):=fS
theorem ok_osown {f:Addr} {fd:FuncData} (F:Fun K "own_first" "Overs.own_first" sOsOwn f fd):FnOk P w K mg base CX0 1 f fd ["self"] (spOwn .os):=by
 refine F.ok scOsOwn (fun vs H Q E h=>?_) (fun cdv A outer s H vs Q E hr h=>?_)
 ·obtain ⟨x,rfl,_⟩:=h;rfl
 ·obtain ⟨x,rfl,q⟩:=h;exact ⟨_,J6 (Jl pe_bl),q⟩
theorem J3t {cs:Kd->Addr} {H1:Hp} {x dx:Addr} {s:Stp} (hx:H1 x=none) (hdx:H1 dx=none):StepAt cs (upd (upd (upd H1 dx (.own x)) x (.ins (cs (kd s)) dx [])) x (.ins (cs (kd s)) dx (stF s))) x s/\
  Same H1 (upd (upd (upd H1 dx (.own x)) x (.ins (cs (kd s)) dx [])) x (.ins (cs (kd s)) dx (stF s))):=by
 refine ⟨⟨dx,J3⟩,fun b u e=>?_⟩;rw [Jg (Jd e hx),Jg (Jd e hx),Jg (Jd e hdx)];exact e
theorem rowFew {ls:List Int} {row:List Nat} (h:Row ls row) (hl:ls.length<=24):row.length<=24:=Nat.le_trans h.len_le hl
def spTimes (CR:Addr):Sp:=fun vs H Q _=>∃ (y q:Addr) (r:Rst) (a:Nat) (row:List Nat),vs=[.ref y,.int (a:Nat),.ref q]/\RestAt CR H y r/\r.Ok/\H q=some (.tup (nV row))/\a∈row/\a < r.ls.length/\(∀ j∈row,j < r.ls.length)/\row.length<=24/\1<=lenOf r.ls (J2 row a)/\lenOf r.ls (J2 row a)<=10 ^ 30/\
 ∀ H',Same H H'->Q (.int (J1q r a row)) H'
theorem scTimes:FnScope ["rest","winner","row"] ["rest","winner","row"] (J7 sTimes):=fS
theorem small_div {s:Int} (h1:1<=s) (h2:s<=10 ^ 30):CDivB 0 s:=by
 refine ⟨by lia,?_⟩;have h3:s.natAbs<=10 ^ 30:=by lia
 exact Nat.lt_of_le_of_lt h3 (by decide)
theorem ok_times {f fL fB CR:Addr} {fd fdL fdB:FuncData} (F:Fun K "whole_times" "whole_times" sTimes f fd) (TR:TxtRest K CR)
  (GL:FnOk P w K mg base CX0 1 fL fdL ["rest","letters"] (J6k K)) (bL:Binds K fdL ["rest","letters"] []) (mL:mg "length_of"=some (.ref fL)) (kL:keepIn K (.ref fL)=true)
  (GB:FnOk P w K mg base CX0 1 fB fdB ["row","letter"] J3z) (bB:Binds K fdB ["row","letter"] []) (mB:mg "letters_behind"=some (.ref fB)) (kB:keepIn K (.ref fB)=true) :
  FnOk P w K mg base CX0 2 f fd ["rest","winner","row"] (spTimes CR):=by
 refine F.ok scTimes (fun vs H Q E h=>?_) (fun cdv A outer s H vs Q E hr h=>?_)
 ·obtain ⟨y,q,r,a,row,rfl,_⟩:=h;rfl
 ·obtain ⟨y,q,r,a,row,rfl,R,ok,hq,ha,hal,hlt,hn,h1,h2,k⟩:=h;obtain ⟨dr,fr,pt,pb,pl,pu,h0,⟨k1,k2,k3,k4,k5⟩,e1,e2,e3,e4⟩:=R.ex;refine ⟨_,J1 (ps_if (J2o (pe_ix Ji (J9 (pv 0) rfl) (pv 1) (fun _ _=>rfl))) (J6 (Jl Jb)) Jx)
   (J6 (Jl (pe_op J2q (pe_op J2a (pe_ix Ji (J9 (pv 0) rfl) (pv 1) (fun _ _=>rfl)) Jb) (Jc GL hr rfl mL kL bL .nil pass0 (J0 (pv 0) (J0 (Jc GB hr rfl mB kB bB .nil pass0 (J0 (pv 2) (J0 (pv 1) J4))) J4)))))),?_⟩
  refine ⟨_,rfl,y,CR,dr,fr,_,rfl,h0,TR.cl,TR.nU,k4,_,rfl,pu,_,_,_,rfl,rfl,SqT.of e4,J8 (J7v (by rw [ok.len];exact hal)),_,rfl,?_⟩;unfold J1q at k;by_cases c:r.ts.getD a false=true
  ·refine iteBT c ?_;have:=k H (Same.refl _);rw [if_pos c] at this;exact this
  ·refine iteBF c ?_;refine ⟨_,rfl,y,CR,dr,fr,_,rfl,h0,TR.cl,TR.nL,k3,_,rfl,pl,_,_,_,rfl,rfl,SqT.of e3,J8 (J15 hal),_,_,rfl,rfl,_,rfl,_,rfl,_,rfl,q,row,a,rfl,hq,ha,fun p H1 s1 hp=>?_⟩;refine ⟨CR,y,p,dr,pl,fr,r.ls,J2 row a,rfl,s1 _ _ h0,TR.cl,TR.nL,k3,s1 _ _ e3,hp,fun j hj=>hlt j (J12 hj),?_,fun H2 s2=>⟨_,_,rfl,rfl,small_div h1 h2,?_⟩⟩
   ·unfold J2;rw [length_drop];lia
   ·have:=k H2 (s1.trans s2);rw [if_neg c] at this;exact this
def spOverS (cs:Kd->Addr) (CR:Addr):Sp:=fun vs H Q _=>∃ (y:Addr) (r:Rst) (a b:Nat),vs=[.ref y,.int (a:Nat),.int (b:Nat)]/\RestAt CR H y r/\r.Ok/\a∈r.bot/\1<=lenOf r.ls (J2 r.bot a)/\lenOf r.ls (J2 r.bot a)<=10 ^ 30/\
 ∀ p H',Same H H'->StepAt cs H' p (if 0 < J1q r a r.bot then .overs a (J1q r a r.bot) else .over a b)->Q (.ref p) H'
theorem scOverS:FnScope ["rest","winner","loser","times"] ["rest","winner","loser"] (J7 sOverS):=fS
theorem ok_overs {f fT fM fO CR:Addr} {fd fdT fdM fdO:FuncData} {cs:Kd->Addr} (F:Fun K "over_step" "over_step" sOverS f fd) (TR:TxtRest K CR)
  (GT:FnOk P w K mg base CX0 2 fT fdT ["rest","winner","row"] (spTimes CR)) (bT:Binds K fdT ["rest","winner","row"] []) (mT:mg "whole_times"=some (.ref fT)) (kT:keepIn K (.ref fT)=true)
  (MM:Mk K (cs .os) fM) (GM:FnOk P w K mg base CX0 2 fM fdM ["self","winner","times"] (spMk cs aOs)) (bM:Binds K fdM ["self","winner","times"] []) (mM:mg "Overs"=some (.ref (cs .os)))
  (MO:Mk K (cs .ov) fO) (GO:FnOk P w K mg base CX0 2 fO fdO ["self","winner","loser"] (spMk cs aOv)) (bO:Binds K fdO ["self","winner","loser"] []) (mO:mg "Over"=some (.ref (cs .ov))) :
  FnOk P w K mg base CX0 4 f fd ["rest","winner","loser"] (spOverS cs CR):=by
 refine F.ok scOverS (fun vs H Q E h=>?_) (fun cdv A outer s H vs Q E hr h=>?_)
 ·obtain ⟨y,r,a,b,rfl,_⟩:=h;rfl
 ·obtain ⟨y,r,a,b,rfl,R,ok,ha,h1,h2,k⟩:=h;have hr2:Room 2 _:=rm hr;obtain ⟨dr,fr,pt,pb,pl,pu,h0,⟨k1,k2,k3,k4,k5⟩,e1,e2,e3,e4⟩:=R.ex;have hrow:Row r.ls r.bot:=ok.rowB;have few:r.bot.length<=24:=rowFew hrow ok.few;refine ⟨_,J1 (Jh (i:=3) scOverS.nd rfl (Or.inl rfl) (Jc GT hr2 rfl mT kT bT .nil pass0 (J0 (pv 0) (J0 (pv 1) (J0 (J9 (pv 0) rfl) J4)))))
   (J6 (Jl (J4i (Jr op_gt (pv 3) Jb (J13 _)) (J1h MM GM hr rfl mM bM .nil pass0 (J0 (pv 1) (J0 (pv 3) J4))) (J1h MO GO hr rfl mO bO .nil pass0 (J0 (pv 1) (J0 (pv 2) J4)))))),?_⟩
  refine ⟨_,rfl,_,rfl,_,rfl,y,CR,dr,fr,_,rfl,h0,TR.cl,TR.nB,k2,y,pb,r,a,r.bot,rfl,R,ok,e2,ha,hrow.lt a ha,hrow.lt,few,h1,h2,fun H1 s1=>?_⟩;refine ⟨_,rfl,_,_,rfl,rfl,_,rfl,?_⟩;by_cases c:0 < J1q r a r.bot
  ·refine iteDT c ⟨_,rfl,_,rfl,fun x dx hx hdx hne=>?_⟩;obtain ⟨st,sm⟩:=J3t (cs:=cs) (s:=.overs a (J1q r a r.bot)) hx hdx;refine ⟨x,dx,_,.overs a (J1q r a r.bot),rfl,⟨a,_,rfl,rfl⟩,J3,rfl,k x _ (s1.trans sm) ?_⟩;rw [if_pos c];exact st
  ·refine iteD c ⟨_,rfl,_,rfl,fun x dx hx hdx hne=>?_⟩;obtain ⟨st,sm⟩:=J3t (cs:=cs) (s:=.over a b) hx hdx;refine ⟨x,dx,_,.over a b,rfl,⟨a,b,rfl,rfl⟩,J3,rfl,k x _ (s1.trans sm) ?_⟩;rw [if_neg c];exact st
def spUnderS (cs:Kd->Addr) (CR:Addr):Sp:=fun vs H Q _=>∃ (y:Addr) (r:Rst) (a b:Nat),vs=[.ref y,.int (a:Nat),.int (b:Nat)]/\RestAt CR H y r/\r.Ok/\a∈r.top/\1<=lenOf r.ls (J2 r.top a)/\lenOf r.ls (J2 r.top a)<=10 ^ 30/\
 ∀ p H',Same H H'->StepAt cs H' p (if 0 < J1q r a r.top then .unders a (J1q r a r.top) else .under a b)->Q (.ref p) H'
theorem scUnderS:FnScope ["rest","winner","loser","times"] ["rest","winner","loser"] (J7 sUnderS):=fS
theorem ok_unders {f fT fM fO CR:Addr} {fd fdT fdM fdO:FuncData} {cs:Kd->Addr} (F:Fun K "under_step" "under_step" sUnderS f fd) (TR:TxtRest K CR)
  (GT:FnOk P w K mg base CX0 2 fT fdT ["rest","winner","row"] (spTimes CR)) (bT:Binds K fdT ["rest","winner","row"] []) (mT:mg "whole_times"=some (.ref fT)) (kT:keepIn K (.ref fT)=true)
  (MM:Mk K (cs .us) fM) (GM:FnOk P w K mg base CX0 2 fM fdM ["self","winner","times"] (spMk cs aUs)) (bM:Binds K fdM ["self","winner","times"] []) (mM:mg "Unders"=some (.ref (cs .us)))
  (MO:Mk K (cs .un) fO) (GO:FnOk P w K mg base CX0 2 fO fdO ["self","winner","loser"] (spMk cs aUn)) (bO:Binds K fdO ["self","winner","loser"] []) (mO:mg "Under"=some (.ref (cs .un))) :
  FnOk P w K mg base CX0 4 f fd ["rest","winner","loser"] (spUnderS cs CR):=by
 refine F.ok scUnderS (fun vs H Q E h=>?_) (fun cdv A outer s H vs Q E hr h=>?_)
 ·obtain ⟨y,r,a,b,rfl,_⟩:=h;rfl
 ·obtain ⟨y,r,a,b,rfl,R,ok,ha,h1,h2,k⟩:=h;have hr2:Room 2 _:=rm hr;obtain ⟨dr,fr,pt,pb,pl,pu,h0,⟨k1,k2,k3,k4,k5⟩,e1,e2,e3,e4⟩:=R.ex;have hrow:Row r.ls r.top:=ok.row;have few:r.top.length<=24:=rowFew hrow ok.few;refine ⟨_,J1 (Jh (i:=3) scUnderS.nd rfl (Or.inl rfl) (Jc GT hr2 rfl mT kT bT .nil pass0 (J0 (pv 0) (J0 (pv 1) (J0 (J9 (pv 0) rfl) J4)))))
   (J6 (Jl (J4i (Jr op_gt (pv 3) Jb (J13 _)) (J1h MM GM hr rfl mM bM .nil pass0 (J0 (pv 1) (J0 (pv 3) J4))) (J1h MO GO hr rfl mO bO .nil pass0 (J0 (pv 1) (J0 (pv 2) J4)))))),?_⟩
  refine ⟨_,rfl,_,rfl,_,rfl,y,CR,dr,fr,_,rfl,h0,TR.cl,TR.nT,k1,y,pt,r,a,r.top,rfl,R,ok,e1,ha,hrow.lt a ha,hrow.lt,few,h1,h2,fun H1 s1=>?_⟩;refine ⟨_,rfl,_,_,rfl,rfl,_,rfl,?_⟩;by_cases c:0 < J1q r a r.top
  ·refine iteDT c ⟨_,rfl,_,rfl,fun x dx hx hdx hne=>?_⟩;obtain ⟨st,sm⟩:=J3t (cs:=cs) (s:=.unders a (J1q r a r.top)) hx hdx;refine ⟨x,dx,_,.unders a (J1q r a r.top),rfl,⟨a,_,rfl,rfl⟩,J3,rfl,k x _ (s1.trans sm) ?_⟩;rw [if_pos c];exact st
  ·refine iteD c ⟨_,rfl,_,rfl,fun x dx hx hdx hne=>?_⟩;obtain ⟨st,sm⟩:=J3t (cs:=cs) (s:=.under a b) hx hdx;refine ⟨x,dx,_,.under a b,rfl,⟨a,b,rfl,rfl⟩,J3,rfl,k x _ (s1.trans sm) ?_⟩;rw [if_neg c];exact st
theorem atI_lastN {row:List Nat} (h:row≠[]):atI (nV row) (-1)=some (V.int (row.getD (row.length - 1) 0:Nat)):=by
 have hl:=List.length_pos_iff.mpr h;unfold atI;have e:ixN (nV row).length (-1)=some (row.length - 1):=by
  unfold ixN;rw [J6s,if_neg (by lia),if_pos (by lia)]
  congr 1
  lia
 rw [e];show (nV row)[row.length - 1]?=_;rw [nV_at (by lia)]
def spNext (cs:Kd->Addr) (CR:Addr):Sp:=fun vs H Q _=>∃ (y:Addr) (r:Rst),vs=[.ref y]/\RestAt CR H y r/\r.Ok/\r.top≠[]/\r.size<=10 ^ 30/\∀ p H',Same H H'->StepAt cs H' p (nextN r)->Q (.ref p) H'
theorem scNext:FnScope ["rest","last_top","last_bottom"] ["rest"] (J7 sNext):=fS
theorem ok_next {f fH fE fO fU CR:Addr} {fd fdH fdE fdO fdU:FuncData} {cs:Kd->Addr} (F:Fun K "next_step" "next_step" sNext f fd) (TR:TxtRest K CR)
  (MH:Mk K (cs .ho) fH) (GH:FnOk P w K mg base CX0 2 fH fdH ["self","winner"] (spMk cs aHo)) (bH:Binds K fdH ["self","winner"] []) (mH:mg "Home"=some (.ref (cs .ho)))
  (ME:Mk K (cs .ev) fE) (GE:FnOk P w K mg base CX0 2 fE fdE ["self","winner","loser"] (spMk cs aEv)) (bE:Binds K fdE ["self","winner","loser"] []) (mE:mg "Even"=some (.ref (cs .ev)))
  (GO:FnOk P w K mg base CX0 4 fO fdO ["rest","winner","loser"] (spOverS cs CR)) (bO:Binds K fdO ["rest","winner","loser"] []) (mO:mg "over_step"=some (.ref fO)) (kO:keepIn K (.ref fO)=true)
  (GU:FnOk P w K mg base CX0 4 fU fdU ["rest","winner","loser"] (spUnderS cs CR)) (bU:Binds K fdU ["rest","winner","loser"] []) (mU:mg "under_step"=some (.ref fU)) (kU:keepIn K (.ref fU)=true) :
  FnOk P w K mg base CX0 5 f fd ["rest"] (spNext cs CR):=by
 refine F.ok scNext (fun vs H Q E h=>?_) (fun cdv A outer s H vs Q E hr h=>?_)
 ·obtain ⟨y,r,rfl,_⟩:=h;rfl
 ·obtain ⟨y,r,rfl,R,ok,ne,hz,k⟩:=h;have hr3:Room 3 _:=rm hr;obtain ⟨dr,fr,pt,pb,pl,pu,h0,⟨k1,k2,k3,k4,k5⟩,e1,e2,e3,e4⟩:=R.ex;have mT:=ok.mT ne;have mB:=ok.mB ne;have neB:r.bot≠[]:=fun e=>by
   have:=ok.lens;rw [e] at this;exact ne (List.length_eq_zero_iff.mp this.symm)
  have lT:=ok.row.lt _ mT;have lB:=ok.row.lt _ mB;refine ⟨_,J1 (Jh (i:=1) scNext.nd rfl (Or.inl rfl) (pe_ix Ji (J9 (pv 0) rfl) (pe_un J6e Jb) (fun _ _=>rfl)))
   (J1 (Jh (i:=2) scNext.nd rfl (Or.inl rfl) (pe_ix Ji (J9 (pv 0) rfl) (pe_un J6e Jb) (fun _ _=>rfl)))
   (J1 (ps_if (Jr op_eq (pv 1) (pv 2) (J13 _)) (J6 (Jl (J1h MH GH hr3 rfl mH bH .nil pass0 (J0 (pv 1) J4)))) Jx)
   (J1 (ps_if (Jr op_eq (pe_ix Ji (J9 (pv 0) rfl) (pv 1) (fun _ _=>rfl)) (pe_ix Ji (J9 (pv 0) rfl) (pv 2) (fun _ _=>rfl)) (J13 _)) (J6 (Jl (J1h ME GE hr3 rfl mE bE .nil pass0 (J0 (pv 1) (J0 (pv 2) J4))))) Jx)
   (J1 (ps_if (Jr op_gt (pe_ix Ji (J9 (pv 0) rfl) (pv 1) (fun _ _=>rfl)) (pe_ix Ji (J9 (pv 0) rfl) (pv 2) (fun _ _=>rfl)) (J13 _)) (J6 (Jl (Jc GO hr rfl mO kO bO .nil pass0 (J0 (pv 0) (J0 (pv 1) (J0 (pv 2) J4)))))) Jx)
   (J6 (Jl (Jc GU hr rfl mU kU bU .nil pass0 (J0 (pv 0) (J0 (pv 2) (J0 (pv 1) J4)))))))))),?_⟩
  refine ⟨_,rfl,y,CR,dr,fr,_,rfl,h0,TR.cl,TR.nT,k1,_,rfl,pt,_,_,_,rfl,rfl,SqT.of e1,atI_lastN ne,?_⟩;refine ⟨_,rfl,y,CR,dr,fr,_,rfl,h0,TR.cl,TR.nB,k2,_,rfl,pb,_,_,_,rfl,rfl,SqT.of e2,atI_lastN neB,?_⟩;refine ⟨_,rfl,_,rfl,rfl,_,rfl,?_⟩;unfold nextN at k;have inj:∀ {i j:Nat},V.int (i:Nat)=V.int (j:Nat)->i=j:=fun q=>by have:=V.int.inj q;lia
  by_cases c1:lastT r=lastB r
  ·refine iteDT (congrArg (fun n:Nat=>V.int (n:Int)) c1) ⟨_,rfl,fun x dx hx hdx hne=>?_⟩;obtain ⟨st,sm⟩:=J3t (cs:=cs) (s:=.home (lastT r)) hx hdx;refine ⟨x,dx,_,.home (lastT r),rfl,⟨_,rfl,rfl⟩,J3,rfl,k x _ sm ?_⟩;rw [if_pos c1];exact st
  refine iteD (fun q=>c1 (inj q)) ?_;rw [if_neg c1] at k;refine ⟨_,rfl,y,CR,dr,fr,_,rfl,h0,TR.cl,TR.nL,k3,_,rfl,pl,_,_,_,rfl,rfl,SqT.of e3,J8 (J15 lT),_,rfl,y,CR,dr,fr,_,rfl,h0,TR.cl,TR.nL,k3,_,rfl,pl,_,_,_,rfl,rfl,SqT.of e3,J8 (J15 lB),rfl,_,rfl,?_⟩;by_cases c2:r.ls.getD (lastT r) 0=r.ls.getD (lastB r) 0
  ·refine iteDT (congrArg V.int c2) ⟨_,rfl,_,rfl,fun x dx hx hdx hne=>?_⟩;obtain ⟨st,sm⟩:=J3t (cs:=cs) (s:=.even (lastT r) (lastB r)) hx hdx;refine ⟨x,dx,_,.even (lastT r) (lastB r),rfl,⟨_,_,rfl,rfl⟩,J3,rfl,k x _ sm ?_⟩;rw [if_pos c2];exact st
  refine iteD (vint_ne c2) ?_;rw [if_neg c2] at k;refine ⟨_,rfl,y,CR,dr,fr,_,rfl,h0,TR.cl,TR.nL,k3,_,rfl,pl,_,_,_,rfl,rfl,SqT.of e3,J8 (J15 lT),_,rfl,y,CR,dr,fr,_,rfl,h0,TR.cl,TR.nL,k3,_,rfl,pl,_,_,_,rfl,rfl,SqT.of e3,J8 (J15 lB),_,_,rfl,rfl,_,rfl,?_⟩;have len1:∀ (row:List Nat) (a:Nat),a∈row->row.Perm r.top->row.getD (row.length - 1) 0≠a->1<=lenOf r.ls (J2 row a)/\lenOf r.ls (J2 row a)<=10 ^ 30:=fun row a ha hp hl=>by
   have hpos:∀ j∈row,1<=r.ls.getD j 0:=fun j hj=>ok.row.pos j (hp.mem_iff.mp hj);refine ⟨J42 (fun j hj=>hpos j (J12 hj)) (behind_ne ha hl),?_⟩;have h1:lenOf r.ls row=r.size:=J1y hp;have h2:lenOf r.ls row=lenOf r.ls (row.take (row.idxOf a + 1)) + lenOf r.ls (J2 row a):=by
    rw [<- Je];show _=lenOf r.ls (row.take (row.idxOf a + 1) ++ row.drop (row.idxOf a + 1));rw [take_append_drop]
   have h3:=Jy (ls:=r.ls) (os:=row.take (row.idxOf a + 1)) fun j hj=>by have:=hpos j (mem_of_mem_take hj);lia
   lia
  by_cases c3:r.ls.getD (lastB r) 0 < r.ls.getD (lastT r) 0
  ·rw [if_pos c3] at k;obtain ⟨q1,q2⟩:=len1 r.bot (lastT r) (ok.perm.mem_iff.mpr mT) ok.perm (fun e=>c1 e.symm);exact iteDT c3 ⟨_,rfl,_,rfl,_,rfl,y,r,lastT r,lastB r,rfl,R,ok,ok.perm.mem_iff.mpr mT,q1,q2,k⟩
  ·rw [if_neg c3] at k;obtain ⟨q1,q2⟩:=len1 r.top (lastB r) mB (List.Perm.refl _) c1;exact iteD c3 ⟨_,rfl,_,rfl,_,rfl,y,r,lastB r,lastT r,rfl,R,ok,mB,q1,q2,k⟩
def J3y:Sp:=fun vs H Q _=>∃ (q:Addr) (row:List Nat) (x:Nat),vs=[.ref q,.int (x:Nat)]/\SqH H q (nV row)/\row.length<=24/\∀ p H',Same H H'->H' p=some (.lst (nV (withoutR row x)))->Q (.ref p) H'
theorem scWithout:FnScope ["row","letter"] ["row","letter"] (J7 J7d):=fS
theorem notv {j x:Nat}:(!decide (V.int (j:Int)=V.int (x:Int)))=decide (j≠x):=by
 by_cases e:j=x
 ·rw [e];simp
 ·rw [decide_eq_false (vint_ne (by lia)),decide_eq_true e];rfl
theorem ok_without {f:Addr} {fd:FuncData} (F:Fun K "without" "without" J7d f fd):FnOk P w K mg base CX0 1 f fd ["row","letter"] J3y:=by
 refine F.ok scWithout (fun vs H Q E h=>?_) (fun cdv A outer s H vs Q E hr h=>?_)
 ·obtain ⟨q,row,x,rfl,_⟩:=h;rfl
 ·obtain ⟨q,row,x,rfl,hq,hn,k⟩:=h;rcases hq with hq | hq
  ·refine ⟨_,J6 (Jl (pe_lc (caps:=["letter"]) (js:=[1]) rfl (pi_list (pv 0)) rfl (fun C fp s H=>pts_one (Jr op_ne (pv 0) (pv 1) (J13 _))) (fun C fp s H=>pv 0)
    (by decide +kernel) (by decide +kernel) (by decide +kernel) (by intro p hp;simp only [mem_cons,not_mem_nil,or_false] at hp;rcases hp with rfl;rfl))),?_⟩
   refine ⟨_,rfl,q,rfl,⟨_,SqL.of hq⟩,fun d hd=>lc_lst (fun (j:Nat)=>V.int (j:Int)) row (fun j=>decide (j≠x)) (fun (j:Nat)=>V.int (j:Int)) (by rw [<- nV_eq];exact SqL.of hq) (by lia) hd
    (fun j _ H2 Qt _ k=>⟨_,rfl,_,rfl,rfl,_,rfl,by rw [notv];exact k H2 (Same.refl _)⟩) (fun j hj H2 Qe _ s2 k=>⟨_,rfl,k _ (Same.refl _)⟩) (fun H' s' hd'=>k d H' s' (by rw [hd',nV_eq];rfl))⟩
  ·refine ⟨_,J6 (Jl (pe_lc (caps:=["letter"]) (js:=[1]) rfl (J6o (pv 0)) rfl (fun C fp s H=>pts_one (Jr op_ne (pv 0) (pv 1) (J13 _))) (fun C fp s H=>pv 0)
    (by decide +kernel) (by decide +kernel) (by decide +kernel) (by intro p hp;simp only [mem_cons,not_mem_nil,or_false] at hp;rcases hp with rfl;rfl))),?_⟩
   refine ⟨_,rfl,q,rfl,⟨_,SqT.of hq⟩,fun d hd=>lc_tup (fun (j:Nat)=>V.int (j:Int)) row (fun j=>decide (j≠x)) (fun (j:Nat)=>V.int (j:Int)) (by rw [<- nV_eq];exact SqT.of hq) (by lia) hd
    (fun j _ H2 Qt _ k=>⟨_,rfl,_,rfl,rfl,_,rfl,by rw [notv];exact k H2 (Same.refl _)⟩) (fun j hj H2 Qe _ s2 k=>⟨_,rfl,k _ (Same.refl _)⟩) (fun H' s' hd'=>k d H' s' (by rw [hd',nV_eq];rfl))⟩
theorem J7t (row:List Nat) (n:Nat) (h:n<=row.length):cutV (nV row) none (some (n:Int))=nV (row.take n):=by
 unfold cutV;rw [J6s,HT.sIx_nat,HT.sIx_none,Nat.min_eq_left h,nV_eq,nV_eq,List.map_take,List.drop_zero,Nat.sub_zero]
def spPut:Sp:=fun vs H Q _=>∃ (q:Addr) (row:List Nat) (w l:Nat) (ah:Bool),vs=[.ref q,.int (w:Nat),.int (l:Nat),.bl ah]/\SqH H q (nV row)/\row.length<=24/\w∈row/\w≠l/\∀ p H',Same H H'->H' p=some (.lst (nV (putR row w l ah)))->Q (.ref p) H'
theorem scPut:FnScope ["row","winner","loser","ahead","others","at"] ["row","winner","loser","ahead"] (J7 sPut):=fS
theorem nV_app (xs ys:List Nat):nV (xs ++ ys)=nV xs ++ nV ys:=by rw [nV_eq,nV_eq,nV_eq,map_append]
theorem ok_put {f fW:Addr} {fd fdW:FuncData} (F:Fun K "put_beside" "put_beside" sPut f fd) (GW:FnOk P w K mg base CX0 1 fW fdW ["row","letter"] J3y) (bW:Binds K fdW ["row","letter"] []) (mW:mg "without"=some (.ref fW)) (kW:keepIn K (.ref fW)=true) :
  FnOk P w K mg base CX0 2 f fd ["row","winner","loser","ahead"] spPut:=by
 refine F.ok scPut (fun vs H Q E h=>?_) (fun cdv A outer s H vs Q E hr h=>?_)
 ·obtain ⟨q,row,wi,lo,ah,rfl,_⟩:=h;rfl
 ·obtain ⟨q,row,wi,lo,ah,rfl,hq,hn,hw,hwl,k⟩:=h;refine ⟨_,J1 (Jh (i:=4) scPut.nd rfl (Or.inl rfl) (Jc GW hr rfl mW kW bW .nil pass0 (J0 (pv 0) (J0 (pv 2) J4))))
   (J1 (ps_cut (Jh (i:=5) scPut.nd rfl (Or.inl rfl) (J4i (J2o (pv 3)) (pe_bm PySem.F.plainAttrs_list PySem.F.slot_list_index PySem.F.type_list_index J5x (pv 4) (J0 (pv 1) J4)) (pe_op J19 (pe_bm PySem.F.plainAttrs_list PySem.F.slot_list_index PySem.F.type_list_index J5x (pv 4) (J0 (pv 1) J4)) Jb))))
   (J6 (Jl (pe_op op_cat (pe_op op_cat (J7m sl_list (pv 4) po_none (po_some (pv 5))) (J3d (J0 (pv 2) J4))) (J7m sl_list (pv 4) (po_some (pv 5)) po_none))))),?_⟩
  refine ⟨_,rfl,_,rfl,q,row,lo,rfl,hq,hn,fun o H1 s1 ho=>?_⟩;have hm:wi∈withoutR row lo:=mem_without.mpr ⟨hw,hwl⟩;have hl1:(withoutR row lo).length<=24:=Nat.le_trans (List.length_filter_le _ _) hn;have k':∀ p H',Same H H'->H' p=some (.lst (nV ((withoutR row lo).take (if ah=true then (withoutR row lo).idxOf wi else (withoutR row lo).idxOf wi + 1) ++ [lo] ++ (withoutR row lo).drop (if ah=true then (withoutR row lo).idxOf wi else (withoutR row lo).idxOf wi + 1))))->Q (.ref p) H':=k;generalize withoutR row lo=os at *;have hi:os.idxOf wi < os.length:=idxOf_lt_length_iff.mpr hm;have hb:∃ n:Nat,n<=os.length/\n=(if ah=true then os.idxOf wi else os.idxOf wi + 1):=by
   refine ⟨_,?_,rfl⟩;split <;> lia
  obtain ⟨n,hn1,hn2⟩:=hb;rw [<- hn2] at k';refine ⟨fun σ' H'=>σ'=[some (.ref q),some (.int (wi:Nat)),some (.int (lo:Nat)),some (.bl ah),some (.ref o),some (.int (n:Nat))]/\H1=H',⟨_,rfl,_,rfl,?_⟩,?_⟩
  ·by_cases c:ah=true
   ·rw [if_pos c] at hn2;refine iteBT c ⟨_,rfl,.inl ⟨rfl,_,SqL.of ho⟩,_,rfl,o,natI os,(wi:Int),rfl,rfl,SqL.of ho,mem_nat hm,?_,rfl⟩;rw [hn2,<- idx_nat];rfl
   ·rw [if_neg c] at hn2;refine iteBF c ⟨_,rfl,.inl ⟨rfl,_,SqL.of ho⟩,_,rfl,o,natI os,(wi:Int),rfl,rfl,SqL.of ho,mem_nat hm,_,_,rfl,rfl,?_,rfl⟩;rw [hn2,<- idx_nat,Int.natCast_add];rfl
  rintro σ _ ⟨rfl,rfl⟩;refine ⟨_,rfl,_,rfl,_,rfl,o,_,rfl,SqL.of ho,fun a ha=>?_⟩;refine ⟨_,rfl,(by show 1<=sizeLine;decide),fun b hb=>?_⟩;have sa:=Ja (o:=.lst (cutV (nV os) none (some (n:Int)))) ha;have sb:=Ja (o:=.lst [V.int (lo:Nat)]) hb;refine ⟨a,b,_,_,rfl,rfl,sb _ _ J3,J3,?_,fun c hc=>?_⟩
  ·rw [J7t _ _ hn1,J6s,length_take];have:=J1e (n:=min n os.length + 1) (by lia);show min n os.length + 1<=sizeLine;lia
  have sc:=Ja (o:=.lst (cutV (nV os) none (some (n:Int)) ++ [V.int (lo:Nat)])) hc;refine ⟨_,rfl,_,rfl,_,rfl,o,_,rfl,SqL.of (sc _ _ (sb _ _ (sa _ _ ho))),fun d hd=>?_⟩;have sd:=Ja (o:=.lst (cutV (nV os) (some (n:Int)) none)) hd;refine ⟨c,d,_,_,rfl,rfl,sd _ _ J3,J3,?_,fun e he=>k' e _ (s1.trans (sa.trans (sb.trans (sc.trans (sd.trans (Ja he)))))) ?_⟩
  ·rw [J7t _ _ hn1,cut_nat _ _ hn1,length_append,J6s,J6s,length_take,length_drop];have:=J1e (n:=min n os.length + 1 + (os.length - n)) (by lia);show min n os.length + 1 + (os.length - n)<=sizeLine;lia
  ·rw [J3,J7t _ _ hn1,cut_nat _ _ hn1,nV_app,nV_app];rfl
def J3b:Sp:=fun vs H Q _=>∃ (q:Addr) (xs:List V) (j:Nat) (v:V),vs=[.ref q,.int (j:Nat),v]/\SqH H q xs/\j < xs.length/\∀ p H',Same H H'->H' p=some (.lst (xs.set j v))->Q (.ref p) H'
theorem scChanged:FnScope ["row","letter","entry","copied"] ["row","letter","entry"] (J7 J7e):=fS
theorem ok_changed {f:Addr} {fd:FuncData} (F:Fun K "changed" "changed" J7e f fd) (T:TxtR mg):FnOk P w K mg base CX0 1 f fd ["row","letter","entry"] J3b:=by
 refine F.ok scChanged (fun vs H Q E h=>?_) (fun cdv A outer s H vs Q E hr h=>?_)
 ·obtain ⟨q,xs,j,v,rfl,_⟩:=h;rfl
 ·obtain ⟨q,xs,j,v,rfl,hq,hj,k⟩:=h;refine ⟨_,J1 (Jh (i:=3) scChanged.nd rfl (Or.inl rfl) (Jo J1u (by rfl) T.list boot_list (J0 (pv 0) J4)))
   (J1 (J7k (pv 2) (pg_sub (pv 3) (pv 1) J3n)) (J6 (Jl (pv 3)))),?_⟩
  refine ⟨_,rfl,q,xs,rfl,hq.sq,fun c hc=>?_⟩;refine ⟨_,rfl,_,rfl,_,rfl,c,xs,_,j,rfl,rfl,J3,J6v hj,?_⟩;rw [J54];exact ⟨_,rfl,k c _ (Ja hc) J3⟩
theorem bV_set (ts:List Bool) (j:Nat) (b:Bool):(bV ts).set j (V.bl b)=bV (ts.set j b):=by
 show (ts.map V.bl).set j (V.bl b)=(ts.set j b).map V.bl;rw [List.map_set]
def J6j (CR:Addr):Sp:=fun vs H Q _=>∃ (y:Addr) (r:Rst) (a:Nat) (less:Int),vs=[.ref y,.int (a:Nat),.int less]/\RestAt CR H y r/\a < r.ls.length/\∀ p H',Same H H'->H' p=some (.lst (iV (r.ls.set a (r.ls.getD a 0 - less))))->Q (.ref p) H'
theorem scShort:FnScope ["rest","winner","less"] ["rest","winner","less"] (J7 sShort):=fS
theorem ok_short {f fC CR:Addr} {fd fdC:FuncData} (F:Fun K "shortened" "shortened" sShort f fd) (TR:TxtRest K CR) (GC:FnOk P w K mg base CX0 1 fC fdC ["row","letter","entry"] J3b) (bC:Binds K fdC ["row","letter","entry"] []) (mC:mg "changed"=some (.ref fC)) (kC:keepIn K (.ref fC)=true) :
  FnOk P w K mg base CX0 2 f fd ["rest","winner","less"] (J6j CR):=by
 refine F.ok scShort (fun vs H Q E h=>?_) (fun cdv A outer s H vs Q E hr h=>?_)
 ·obtain ⟨y,r,a,less,rfl,_⟩:=h;rfl
 ·obtain ⟨y,r,a,less,rfl,R,ha,k⟩:=h;obtain ⟨dr,fr,pt,pb,pl,pu,h0,⟨k1,k2,k3,k4,k5⟩,e1,e2,e3,e4⟩:=R.ex;refine ⟨_,J6 (Jl (Jc GC hr rfl mC kC bC .nil pass0 (J0 (J9 (pv 0) rfl) (J0 (pv 1) (J0 (pe_op J2a (pe_ix Ji (J9 (pv 0) rfl) (pv 1) (fun _ _=>rfl)) (pv 2)) J4))))),?_⟩;refine ⟨_,rfl,y,CR,dr,fr,_,rfl,h0,TR.cl,TR.nL,k3,_,rfl,_,rfl,y,CR,dr,fr,_,rfl,h0,TR.cl,TR.nL,k3,_,rfl,pl,_,_,_,rfl,rfl,SqT.of e3,J8 (J15 ha),_,rfl,_,_,rfl,rfl,pl,iV r.ls,a,_,rfl,.inr e3,by rw [J26];exact ha,fun p H' s' hp=>k p H' s' ?_⟩;rw [hp,J7s]
def J5i (CR:Addr):Sp:=fun vs H Q _=>∃ (y:Addr) (r:Rst) (a b:Nat),vs=[.ref y,.int (a:Nat),.int (b:Nat)]/\RestAt CR H y r/\a < r.ts.length/\b < r.ts.length/\∀ p H',Same H H'->H' p=some (.lst (bV (J29 r a b)))->Q (.ref p) H'
theorem scTurnsB:FnScope ["rest","winner","loser"] ["rest","winner","loser"] (J7 sTurnsB):=fS
theorem ok_turnsB {f fC CR:Addr} {fd fdC:FuncData} (F:Fun K "turns_behind" "turns_behind" sTurnsB f fd) (TR:TxtRest K CR) (GC:FnOk P w K mg base CX0 1 fC fdC ["row","letter","entry"] J3b) (bC:Binds K fdC ["row","letter","entry"] []) (mC:mg "changed"=some (.ref fC)) (kC:keepIn K (.ref fC)=true) :
  FnOk P w K mg base CX0 2 f fd ["rest","winner","loser"] (J5i CR):=by
 refine F.ok scTurnsB (fun vs H Q E h=>?_) (fun cdv A outer s H vs Q E hr h=>?_)
 ·obtain ⟨y,r,a,b,rfl,_⟩:=h;rfl
 ·obtain ⟨y,r,a,b,rfl,R,ha,hb,k⟩:=h;obtain ⟨dr,fr,pt,pb,pl,pu,h0,⟨k1,k2,k3,k4,k5⟩,e1,e2,e3,e4⟩:=R.ex;refine ⟨_,J6 (Jl (Jc GC hr rfl mC kC bC .nil pass0 (J0 (J9 (pv 0) rfl) (J0 (pv 2) (J0 (J58 op_ne (pe_ix Ji (J9 (pv 0) rfl) (pv 1) (fun _ _=>rfl)) (pe_ix Ji (J9 (pv 0) rfl) (pv 2) (fun _ _=>rfl)) (J13 _)) J4))))),?_⟩;refine ⟨_,rfl,y,CR,dr,fr,_,rfl,h0,TR.cl,TR.nU,k4,_,rfl,_,rfl,y,CR,dr,fr,_,rfl,h0,TR.cl,TR.nU,k4,_,rfl,pu,_,_,_,rfl,rfl,SqT.of e4,J8 (J7v ha),_,rfl,y,CR,dr,fr,_,rfl,h0,TR.cl,TR.nU,k4,_,rfl,pu,_,_,_,rfl,rfl,SqT.of e4,J8 (J7v hb),rfl,pu,bV r.ts,b,_,rfl,.inr e4,by rw [length_map];exact hb,fun p H' s' hp=>k p H' s' ?_⟩;rw [hp];unfold J29;rw [<- bV_set];have e:(!decide (V.bl (r.ts.getD a false)=V.bl (r.ts.getD b false)))=(r.ts.getD a false != r.ts.getD b false):=by
   cases r.ts.getD a false <;> cases r.ts.getD b false <;> rfl
  rw [e]
structure Fit (s:Stp) (r:Rst):Prop where
 ok:r.Ok
 left:(s.behind r).Ok
 win:s.winner∈r.top
 lose:∀ b:Nat,loseV s=.int (b:Nat)->b∈r.top/\s.winner≠b
 few:s.times.natAbs < 2 ^ 4000
 small:r.size<=10 ^ 30
def J2j (cs:Kd->Addr) (CR:Addr) (k:Kd):Sp:=fun vs H Q _=>∃ (x y:Addr) (s:Stp) (r:Rst),vs=[.ref x,.ref y]/\kd s=k/\StepAt cs H x s/\RestAt CR H y r/\Fit s r/\∀ p H',Same H H'->RestAt CR H' p (s.behind r)->Q (.ref p) H'
theorem J2w {CR:Addr} {H:Hp} {p1 p2 p3 p4:Addr} {r:Rst} {Q:VK} (ok:r.Ok) (h1:SqH H p1 (nV r.top)) (h2:SqH H p2 (nV r.bot)) (h3:SqH H p3 (iV r.ls)) (h4:SqH H p4 (bV r.ts)) (k:∀ p H',Same H H'->RestAt CR H' p r->Q (.ref p) H') :
  ∀ x dx,H x=none->H dx=none->dx≠x->J3a CR (.ref x :: ([.ref p1,.ref p2,.ref p3,.ref p4] ++ [])) (upd (upd H dx (.own x)) x (.ins CR dx [])) (fun v H2=>v=.non/\Q (.ref x) H2) E0:=fun x dx hx hdx hne=>by
 have s0:Same H (upd (upd H dx (.own x)) x (.ins CR dx [])):=(Ja hdx).trans (Ja (by rw [Jg (Ne.symm hne)];exact hx));refine ⟨x,dx,p1,p2,p3,p4,r,rfl,J3,h1.same s0,h2.same s0,h3.same s0,h4.same s0,ok.row.lt,Nat.le_trans ok.row.len_le ok.few,fun H' R kp=>⟨rfl,k x H' (fun b u e=>?_) R⟩⟩;exact kp b u (s0 _ _ e) (Jd e hx)
theorem scHoBehind:FnScope ["self","rest","top","bottom"] ["self","rest"] (J7 J5r):=fS
theorem ok_hobehind {f fW fC fI CR:Addr} {fd fdW fdC fdI:FuncData} {cs:Kd->Addr} (F:Fun K "behind" "Home.behind" J5r f fd) (TS:TxtS K cs) (TR:TxtRest K CR)
  (GW:FnOk P w K mg base CX0 1 fW fdW ["row","letter"] J3y) (bW:Binds K fdW ["row","letter"] []) (mW:mg "without"=some (.ref fW)) (kW:keepIn K (.ref fW)=true)
  (GC:FnOk P w K mg base CX0 1 fC fdC ["row","letter","entry"] J3b) (bC:Binds K fdC ["row","letter","entry"] []) (mC:mg "changed"=some (.ref fC)) (kC:keepIn K (.ref fC)=true)
  (M:Mk K CR fI) (GI:FnOk P w K mg base CX0 2 fI fdI ["self","top","bottom","lengths","turned"] (J3a CR)) (bI:Binds K fdI ["self","top","bottom","lengths","turned"] []) (mgR:mg "Rest"=some (.ref CR)) :
  FnOk P w K mg base CX0 4 f fd ["self","rest"] (J2j cs CR .ho):=by
 refine F.ok scHoBehind (fun vs H Q E h=>?_) (fun cdv A outer s H vs Q E hr h=>?_)
 ·obtain ⟨x,y,s,r,rfl,_⟩:=h;rfl
 ·obtain ⟨x,y,s,r,rfl,hs,⟨dx,hx⟩,R,fit,k⟩:=h;have hr1:Room 1 _:=rm hr;have hr2:Room 2 _:=rm hr;have ok:=fit.ok;have left:=fit.left;have win:=fit.win;have winB:=ok.perm.mem_iff.mpr win;have few:=Nat.le_trans ok.row.len_le ok.few;have fewB:=Nat.le_trans ok.rowB.len_le ok.few;have lw:=ok.row.lt _ win;obtain ⟨dr,fr,pt,pb,pl,pu,h0,⟨k1,k2,k3,k4,k5⟩,e1,e2,e3,e4⟩:=R.ex
  cases s with
  | home a =>
   have lt:a < r.ts.length:=by rw [ok.len];exact lw
   refine ⟨_,J1 (Jh (i:=2) scHoBehind.nd rfl (Or.inl rfl) (Jc GW hr1 rfl mW kW bW .nil pass0 (J0 (J9 (pv 1) rfl) (J0 (J9 (pv 0) rfl) J4))))
    (J1 (Jh (i:=3) scHoBehind.nd rfl (Or.inl rfl) (Jc GW hr1 rfl mW kW bW .nil pass0 (J0 (J9 (pv 1) rfl) (J0 (J9 (pv 0) rfl) J4))))
    (J6 (Jl (J1h M GI hr rfl mgR bI .nil pass0 (J0 (pv 2) (J0 (pv 3) (J0 (Jc GC hr1 rfl mC kC bC .nil pass0 (J0 (J9 (pv 1) rfl) (J0 (J9 (pv 0) rfl) (J0 Jb J4)))) (J0 (Jc GC hr1 rfl mC kC bC .nil pass0 (J0 (J9 (pv 1) rfl) (J0 (J9 (pv 0) rfl) (J0 pe_bl J4)))) J4)))))))),?_⟩
   refine ⟨_,rfl,y,CR,dr,fr,_,rfl,h0,TR.cl,TR.nT,k1,_,rfl,x,cs _,dx,stF _,_,rfl,hx,TS.cl _,TS.nW _,stF_w _,pt,r.top,a,rfl,.inr e1,few,fun t1 H1 s1 ht1=>?_⟩;refine ⟨_,rfl,y,CR,dr,fr,_,rfl,s1 _ _ h0,TR.cl,TR.nB,k2,_,rfl,x,cs _,dx,stF _,_,rfl,s1 _ _ hx,TS.cl _,TS.nW _,stF_w _,pb,r.bot,a,rfl,.inr (s1 _ _ e2),fewB,fun b1 H2 s12 hb1=>?_⟩;have s2:=s1.trans s12;refine ⟨_,rfl,_,rfl,_,rfl,y,CR,dr,fr,_,rfl,s2 _ _ h0,TR.cl,TR.nL,k3,_,rfl,x,cs _,dx,stF _,_,rfl,s2 _ _ hx,TS.cl _,TS.nW _,stF_w _,pl,iV r.ls,a,.int 0,rfl,.inr (s2 _ _ e3),by rw [J26];exact lw,fun l1 H3 s23 hl1=>?_⟩;have s3:=s2.trans s23;refine ⟨_,rfl,y,CR,dr,fr,_,rfl,s3 _ _ h0,TR.cl,TR.nU,k4,_,rfl,x,cs _,dx,stF _,_,rfl,s3 _ _ hx,TS.cl _,TS.nW _,stF_w _,pu,bV r.ts,a,.bl false,rfl,.inr (s3 _ _ e4),by rw [length_map];exact lt,fun u1 H4 s34 hu1=>?_⟩;exact J2w left (.inl (s34 _ _ (s23 _ _ (s12 _ _ ht1)))) (.inl (s34 _ _ (s23 _ _ hb1))) (.inl (by rw [s34 _ _ hl1,J7s];rfl)) (.inl (by rw [hu1,bV_set];rfl)) fun p H' s' R'=>k p H' (s3.trans (s34.trans s')) R'
  | even a b=>cases hs
  | over a b=>cases hs
  | under a b=>cases hs
  | overs a t=>cases hs
  | unders a t=>cases hs
theorem scEvBehind:FnScope ["self","rest","top","bottom","turned"] ["self","rest"] (J7 J5s):=fS
theorem ok_evbehind {f fW fP fC fT fI CR:Addr} {fd fdW fdP fdC fdT fdI:FuncData} {cs:Kd->Addr} (F:Fun K "behind" "Even.behind" J5s f fd) (TS:TxtS K cs) (TR:TxtRest K CR)
  (GW:FnOk P w K mg base CX0 1 fW fdW ["row","letter"] J3y) (bW:Binds K fdW ["row","letter"] []) (mW:mg "without"=some (.ref fW)) (kW:keepIn K (.ref fW)=true)
  (GP:FnOk P w K mg base CX0 2 fP fdP ["row","winner","loser","ahead"] spPut) (bP:Binds K fdP ["row","winner","loser","ahead"] []) (mP:mg "put_beside"=some (.ref fP)) (kP:keepIn K (.ref fP)=true)
  (GC:FnOk P w K mg base CX0 1 fC fdC ["row","letter","entry"] J3b) (bC:Binds K fdC ["row","letter","entry"] []) (mC:mg "changed"=some (.ref fC)) (kC:keepIn K (.ref fC)=true)
  (GT:FnOk P w K mg base CX0 2 fT fdT ["rest","winner","loser"] (J5i CR)) (bT:Binds K fdT ["rest","winner","loser"] []) (mT:mg "turns_behind"=some (.ref fT)) (kT:keepIn K (.ref fT)=true)
  (M:Mk K CR fI) (GI:FnOk P w K mg base CX0 2 fI fdI ["self","top","bottom","lengths","turned"] (J3a CR)) (bI:Binds K fdI ["self","top","bottom","lengths","turned"] []) (mgR:mg "Rest"=some (.ref CR)) :
  FnOk P w K mg base CX0 4 f fd ["self","rest"] (J2j cs CR .ev):=by
 refine F.ok scEvBehind (fun vs H Q E h=>?_) (fun cdv A outer s H vs Q E hr h=>?_)
 ·obtain ⟨x,y,s,r,rfl,_⟩:=h;rfl
 ·obtain ⟨x,y,s,r,rfl,hs,⟨dx,hx⟩,R,fit,k⟩:=h;have hr1:Room 1 _:=rm hr;have hr2:Room 2 _:=rm hr;have ok:=fit.ok;have left:=fit.left;have win:=fit.win;have winB:=ok.perm.mem_iff.mpr win;have few:=Nat.le_trans ok.row.len_le ok.few;have fewB:=Nat.le_trans ok.rowB.len_le ok.few;have lw:=ok.row.lt _ win;obtain ⟨dr,fr,pt,pb,pl,pu,h0,⟨k1,k2,k3,k4,k5⟩,e1,e2,e3,e4⟩:=R.ex
  cases s with
  | even a b =>
   obtain ⟨lose,wl⟩:=fit.lose b rfl;have lt:a < r.ts.length:=by rw [ok.len];exact lw
   have lb:b < r.ts.length:=by rw [ok.len];exact ok.row.lt _ lose
   refine ⟨_,J1 (Jh (i:=2) scEvBehind.nd rfl (Or.inl rfl) (Jc GW hr1 rfl mW kW bW .nil pass0 (J0 (J9 (pv 1) rfl) (J0 (J9 (pv 0) rfl) J4))))
    (J1 (Jh (i:=3) scEvBehind.nd rfl (Or.inl rfl) (Jc GW hr1 rfl mW kW bW .nil pass0 (J0 (Jc GP hr2 rfl mP kP bP .nil pass0 (J0 (J9 (pv 1) rfl) (J0 (J9 (pv 0) rfl) (J0 (J9 (pv 0) rfl) (J0 pe_bl J4))))) (J0 (J9 (pv 0) rfl) J4))))
    (J1 (Jh (i:=4) scEvBehind.nd rfl (Or.inl rfl) (Jc GC hr1 rfl mC kC bC .nil pass0 (J0 (Jc GT hr2 rfl mT kT bT .nil pass0 (J0 (pv 1) (J0 (J9 (pv 0) rfl) (J0 (J9 (pv 0) rfl) J4)))) (J0 (J9 (pv 0) rfl) (J0 pe_bl J4)))))
    (J6 (Jl (J1h M GI hr rfl mgR bI .nil pass0 (J0 (pv 2) (J0 (pv 3) (J0 (Jc GC hr1 rfl mC kC bC .nil pass0 (J0 (J9 (pv 1) rfl) (J0 (J9 (pv 0) rfl) (J0 Jb J4)))) (J0 (pv 4) J4))))))))),?_⟩
   refine ⟨_,rfl,y,CR,dr,fr,_,rfl,h0,TR.cl,TR.nT,k1,_,rfl,x,cs _,dx,stF _,_,rfl,hx,TS.cl _,TS.nW _,stF_w _,pt,r.top,a,rfl,.inr e1,few,fun t1 H1 s1 ht1=>?_⟩;refine ⟨_,rfl,y,CR,dr,fr,_,rfl,s1 _ _ h0,TR.cl,TR.nB,k2,_,rfl,x,cs _,dx,stF _,_,rfl,s1 _ _ hx,TS.cl _,TS.nW _,stF_w _,_,rfl,x,cs _,dx,stF _,_,rfl,s1 _ _ hx,TS.cl _,TS.nL _,stF_l _,pb,r.bot,a,b,false,rfl,.inr (s1 _ _ e2),fewB,winB,wl,fun b0 H2 s12 hb0=>?_⟩;have s2:=s1.trans s12;have fewP:(putR r.bot a b false).length<=24:=by rw [(J2e ok.rowB.nd (ok.perm.mem_iff.mpr lose) false).length_eq];exact fewB
   refine ⟨_,rfl,x,cs _,dx,stF _,_,rfl,s2 _ _ hx,TS.cl _,TS.nW _,stF_w _,b0,_,a,rfl,.inl hb0,fewP,fun b1 H3 s23 hb1=>?_⟩;have s3:=s2.trans s23;refine ⟨_,rfl,_,rfl,x,cs _,dx,stF _,_,rfl,s3 _ _ hx,TS.cl _,TS.nW _,stF_w _,_,rfl,x,cs _,dx,stF _,_,rfl,s3 _ _ hx,TS.cl _,TS.nL _,stF_l _,y,r,a,b,rfl,R.same s3,lt,lb,fun u0 H4 s34 hu0=>?_⟩;have s4:=s3.trans s34;refine ⟨_,rfl,x,cs _,dx,stF _,_,rfl,s4 _ _ hx,TS.cl _,TS.nW _,stF_w _,u0,bV (J29 r a b),a,.bl false,rfl,.inl hu0,by rw [length_map,J24];exact lt,fun u1 H5 s45 hu1=>?_⟩;have s5:=s4.trans s45;refine ⟨_,rfl,_,rfl,_,rfl,y,CR,dr,fr,_,rfl,s5 _ _ h0,TR.cl,TR.nL,k3,_,rfl,x,cs _,dx,stF _,_,rfl,s5 _ _ hx,TS.cl _,TS.nW _,stF_w _,pl,iV r.ls,a,.int 0,rfl,.inr (s5 _ _ e3),by rw [J26];exact lw,fun l1 H6 s56 hl1=>⟨_,rfl,?_⟩⟩;exact J2w left (.inl (s56 _ _ (s45 _ _ (s34 _ _ (s23 _ _ (s12 _ _ ht1)))))) (.inl (s56 _ _ (s45 _ _ (s34 _ _ hb1)))) (.inl (by rw [hl1,J7s];rfl)) (.inl (by rw [s56 _ _ hu1,bV_set];rfl)) fun p H' s' R'=>k p H' (s5.trans (s56.trans s')) R'
  | home a=>cases hs
  | over a b=>cases hs
  | under a b=>cases hs
  | overs a t=>cases hs
  | unders a t=>cases hs
theorem scOvBehind:FnScope ["self","rest","bottom","lengths"] ["self","rest"] (J7 J5n):=fS
theorem ok_ovbehind {f fP fS fT fI CR:Addr} {fd fdP fdS fdT fdI:FuncData} {cs:Kd->Addr} (F:Fun K "behind" "Over.behind" J5n f fd) (TS:TxtS K cs) (TR:TxtRest K CR)
  (GP:FnOk P w K mg base CX0 2 fP fdP ["row","winner","loser","ahead"] spPut) (bP:Binds K fdP ["row","winner","loser","ahead"] []) (mP:mg "put_beside"=some (.ref fP)) (kP:keepIn K (.ref fP)=true)
  (GS:FnOk P w K mg base CX0 2 fS fdS ["rest","winner","less"] (J6j CR)) (bS:Binds K fdS ["rest","winner","less"] []) (mS:mg "shortened"=some (.ref fS)) (kS:keepIn K (.ref fS)=true)
  (GT:FnOk P w K mg base CX0 2 fT fdT ["rest","winner","loser"] (J5i CR)) (bT:Binds K fdT ["rest","winner","loser"] []) (mT:mg "turns_behind"=some (.ref fT)) (kT:keepIn K (.ref fT)=true)
  (M:Mk K CR fI) (GI:FnOk P w K mg base CX0 2 fI fdI ["self","top","bottom","lengths","turned"] (J3a CR)) (bI:Binds K fdI ["self","top","bottom","lengths","turned"] []) (mgR:mg "Rest"=some (.ref CR)) :
  FnOk P w K mg base CX0 4 f fd ["self","rest"] (J2j cs CR .ov):=by
 refine F.ok scOvBehind (fun vs H Q E h=>?_) (fun cdv A outer s H vs Q E hr h=>?_)
 ·obtain ⟨x,y,s,r,rfl,_⟩:=h;rfl
 ·obtain ⟨x,y,s,r,rfl,hs,⟨dx,hx⟩,R,fit,k⟩:=h;have hr1:Room 1 _:=rm hr;have hr2:Room 2 _:=rm hr;have ok:=fit.ok;have left:=fit.left;have win:=fit.win;have winB:=ok.perm.mem_iff.mpr win;have few:=Nat.le_trans ok.row.len_le ok.few;have fewB:=Nat.le_trans ok.rowB.len_le ok.few;have lw:=ok.row.lt _ win;obtain ⟨dr,fr,pt,pb,pl,pu,h0,⟨k1,k2,k3,k4,k5⟩,e1,e2,e3,e4⟩:=R.ex
  cases s with
  | over a b =>
   obtain ⟨lose,wl⟩:=fit.lose b rfl;have lt:a < r.ts.length:=by rw [ok.len];exact lw
   have lbl:=ok.row.lt _ lose;have lb:b < r.ts.length:=by rw [ok.len];exact lbl
   refine ⟨_,J1 (Jh (i:=2) scOvBehind.nd rfl (Or.inl rfl) (Jc GP hr2 rfl mP kP bP .nil pass0 (J0 (J9 (pv 1) rfl) (J0 (J9 (pv 0) rfl) (J0 (J9 (pv 0) rfl) (J0 (pe_ix Ji (J9 (pv 1) rfl) (J9 (pv 0) rfl) (fun _ _=>rfl)) J4))))))
    (J1 (Jh (i:=3) scOvBehind.nd rfl (Or.inl rfl) (Jc GS hr2 rfl mS kS bS .nil pass0 (J0 (pv 1) (J0 (J9 (pv 0) rfl) (J0 (pe_ix Ji (J9 (pv 1) rfl) (J9 (pv 0) rfl) (fun _ _=>rfl)) J4)))))
    (J6 (Jl (J1h M GI hr rfl mgR bI .nil pass0 (J0 (J9 (pv 1) rfl) (J0 (pv 2) (J0 (pv 3) (J0 (Jc GT hr2 rfl mT kT bT .nil pass0 (J0 (pv 1) (J0 (J9 (pv 0) rfl) (J0 (J9 (pv 0) rfl) J4)))) J4)))))))),?_⟩
   refine ⟨_,rfl,y,CR,dr,fr,_,rfl,h0,TR.cl,TR.nB,k2,_,rfl,x,cs _,dx,stF _,_,rfl,hx,TS.cl _,TS.nW _,stF_w _,_,rfl,x,cs _,dx,stF _,_,rfl,hx,TS.cl _,TS.nL _,stF_l _,_,rfl,y,CR,dr,fr,_,rfl,h0,TR.cl,TR.nU,k4,_,rfl,x,cs _,dx,stF _,_,rfl,hx,TS.cl _,TS.nW _,stF_w _,pu,_,_,_,rfl,rfl,SqT.of e4,J8 (J7v lt),pb,r.bot,a,b,_,rfl,.inr e2,fewB,winB,wl,fun q1 H1 s1 hq1=>?_⟩;refine ⟨_,rfl,_,rfl,x,cs _,dx,stF _,_,rfl,s1 _ _ hx,TS.cl _,TS.nW _,stF_w _,_,rfl,y,CR,dr,fr,_,rfl,s1 _ _ h0,TR.cl,TR.nL,k3,_,rfl,x,cs _,dx,stF _,_,rfl,s1 _ _ hx,TS.cl _,TS.nL _,stF_l _,pl,_,_,_,rfl,rfl,SqT.of (s1 _ _ e3),J8 (J15 lbl),y,r,a,_,rfl,R.same s1,lw,fun l1 H2 s12 hl1=>?_⟩;have s2:=s1.trans s12;refine ⟨_,rfl,y,CR,dr,fr,_,rfl,s2 _ _ h0,TR.cl,TR.nT,k1,_,rfl,_,rfl,_,rfl,_,rfl,x,cs _,dx,stF _,_,rfl,s2 _ _ hx,TS.cl _,TS.nW _,stF_w _,_,rfl,x,cs _,dx,stF _,_,rfl,s2 _ _ hx,TS.cl _,TS.nL _,stF_l _,y,r,a,b,rfl,R.same s2,lt,lb,fun u1 H3 s23 hu1=>?_⟩;exact J2w left (.inr (s23 _ _ (s2 _ _ e1))) (.inl (s23 _ _ (s12 _ _ hq1))) (.inl (s23 _ _ hl1)) (.inl hu1) fun p H' s' R'=>k p H' (s2.trans (s23.trans s')) R'
  | home a=>cases hs
  | even a b=>cases hs
  | under a b=>cases hs
  | overs a t=>cases hs
  | unders a t=>cases hs
theorem scUnBehind:FnScope ["self","rest","top","lengths"] ["self","rest"] (J7 J5l):=fS
theorem ok_unbehind {f fP fS fT fI CR:Addr} {fd fdP fdS fdT fdI:FuncData} {cs:Kd->Addr} (F:Fun K "behind" "Under.behind" J5l f fd) (TS:TxtS K cs) (TR:TxtRest K CR)
  (GP:FnOk P w K mg base CX0 2 fP fdP ["row","winner","loser","ahead"] spPut) (bP:Binds K fdP ["row","winner","loser","ahead"] []) (mP:mg "put_beside"=some (.ref fP)) (kP:keepIn K (.ref fP)=true)
  (GS:FnOk P w K mg base CX0 2 fS fdS ["rest","winner","less"] (J6j CR)) (bS:Binds K fdS ["rest","winner","less"] []) (mS:mg "shortened"=some (.ref fS)) (kS:keepIn K (.ref fS)=true)
  (GT:FnOk P w K mg base CX0 2 fT fdT ["rest","winner","loser"] (J5i CR)) (bT:Binds K fdT ["rest","winner","loser"] []) (mT:mg "turns_behind"=some (.ref fT)) (kT:keepIn K (.ref fT)=true)
  (M:Mk K CR fI) (GI:FnOk P w K mg base CX0 2 fI fdI ["self","top","bottom","lengths","turned"] (J3a CR)) (bI:Binds K fdI ["self","top","bottom","lengths","turned"] []) (mgR:mg "Rest"=some (.ref CR)) :
  FnOk P w K mg base CX0 4 f fd ["self","rest"] (J2j cs CR .un):=by
 refine F.ok scUnBehind (fun vs H Q E h=>?_) (fun cdv A outer s H vs Q E hr h=>?_)
 ·obtain ⟨x,y,s,r,rfl,_⟩:=h;rfl
 ·obtain ⟨x,y,s,r,rfl,hs,⟨dx,hx⟩,R,fit,k⟩:=h;have hr1:Room 1 _:=rm hr;have hr2:Room 2 _:=rm hr;have ok:=fit.ok;have left:=fit.left;have win:=fit.win;have winB:=ok.perm.mem_iff.mpr win;have few:=Nat.le_trans ok.row.len_le ok.few;have fewB:=Nat.le_trans ok.rowB.len_le ok.few;have lw:=ok.row.lt _ win;obtain ⟨dr,fr,pt,pb,pl,pu,h0,⟨k1,k2,k3,k4,k5⟩,e1,e2,e3,e4⟩:=R.ex
  cases s with
  | under a b =>
   obtain ⟨lose,wl⟩:=fit.lose b rfl;have lt:a < r.ts.length:=by rw [ok.len];exact lw
   have lbl:=ok.row.lt _ lose;have lb:b < r.ts.length:=by rw [ok.len];exact lbl
   refine ⟨_,J1 (Jh (i:=2) scUnBehind.nd rfl (Or.inl rfl) (Jc GP hr2 rfl mP kP bP .nil pass0 (J0 (J9 (pv 1) rfl) (J0 (J9 (pv 0) rfl) (J0 (J9 (pv 0) rfl) (J0 (pe_ix Ji (J9 (pv 1) rfl) (J9 (pv 0) rfl) (fun _ _=>rfl)) J4))))))
    (J1 (Jh (i:=3) scUnBehind.nd rfl (Or.inl rfl) (Jc GS hr2 rfl mS kS bS .nil pass0 (J0 (pv 1) (J0 (J9 (pv 0) rfl) (J0 (pe_ix Ji (J9 (pv 1) rfl) (J9 (pv 0) rfl) (fun _ _=>rfl)) J4)))))
    (J6 (Jl (J1h M GI hr rfl mgR bI .nil pass0 (J0 (pv 2) (J0 (J9 (pv 1) rfl) (J0 (pv 3) (J0 (Jc GT hr2 rfl mT kT bT .nil pass0 (J0 (pv 1) (J0 (J9 (pv 0) rfl) (J0 (J9 (pv 0) rfl) J4)))) J4)))))))),?_⟩
   refine ⟨_,rfl,y,CR,dr,fr,_,rfl,h0,TR.cl,TR.nT,k1,_,rfl,x,cs _,dx,stF _,_,rfl,hx,TS.cl _,TS.nW _,stF_w _,_,rfl,x,cs _,dx,stF _,_,rfl,hx,TS.cl _,TS.nL _,stF_l _,_,rfl,y,CR,dr,fr,_,rfl,h0,TR.cl,TR.nU,k4,_,rfl,x,cs _,dx,stF _,_,rfl,hx,TS.cl _,TS.nW _,stF_w _,pu,_,_,_,rfl,rfl,SqT.of e4,J8 (J7v lt),pt,r.top,a,b,_,rfl,.inr e1,few,win,wl,fun q1 H1 s1 hq1=>?_⟩;refine ⟨_,rfl,_,rfl,x,cs _,dx,stF _,_,rfl,s1 _ _ hx,TS.cl _,TS.nW _,stF_w _,_,rfl,y,CR,dr,fr,_,rfl,s1 _ _ h0,TR.cl,TR.nL,k3,_,rfl,x,cs _,dx,stF _,_,rfl,s1 _ _ hx,TS.cl _,TS.nL _,stF_l _,pl,_,_,_,rfl,rfl,SqT.of (s1 _ _ e3),J8 (J15 lbl),y,r,a,_,rfl,R.same s1,lw,fun l1 H2 s12 hl1=>?_⟩;have s2:=s1.trans s12;refine ⟨_,rfl,_,rfl,y,CR,dr,fr,_,rfl,s2 _ _ h0,TR.cl,TR.nB,k2,_,rfl,_,rfl,_,rfl,x,cs _,dx,stF _,_,rfl,s2 _ _ hx,TS.cl _,TS.nW _,stF_w _,_,rfl,x,cs _,dx,stF _,_,rfl,s2 _ _ hx,TS.cl _,TS.nL _,stF_l _,y,r,a,b,rfl,R.same s2,lt,lb,fun u1 H3 s23 hu1=>?_⟩;exact J2w left (.inl (s23 _ _ (s12 _ _ hq1))) (.inr (s23 _ _ (s2 _ _ e2))) (.inl (s23 _ _ hl1)) (.inl hu1) fun p H' s' R'=>k p H' (s2.trans (s23.trans s')) R'
  | home a=>cases hs
  | even a b=>cases hs
  | over a b=>cases hs
  | overs a t=>cases hs
  | unders a t=>cases hs
theorem scOsBehind:FnScope ["self","rest","lengths"] ["self","rest"] (J7 J5p):=fS
theorem ok_osbehind {f fL fS fI CR:Addr} {fd fdL fdS fdI:FuncData} {cs:Kd->Addr} (F:Fun K "behind" "Overs.behind" J5p f fd) (TS:TxtS K cs) (TR:TxtRest K CR)
  (GL:FnOk P w K mg base CX0 1 fL fdL ["rest","letters"] (J6k K)) (bL:Binds K fdL ["rest","letters"] []) (mL:mg "length_of"=some (.ref fL)) (kL:keepIn K (.ref fL)=true)
  (GS:FnOk P w K mg base CX0 2 fS fdS ["rest","winner","less"] (J6j CR)) (bS:Binds K fdS ["rest","winner","less"] []) (mS:mg "shortened"=some (.ref fS)) (kS:keepIn K (.ref fS)=true)
  (M:Mk K CR fI) (GI:FnOk P w K mg base CX0 2 fI fdI ["self","top","bottom","lengths","turned"] (J3a CR)) (bI:Binds K fdI ["self","top","bottom","lengths","turned"] []) (mgR:mg "Rest"=some (.ref CR))
  (HL:∀ k,HasM P w K mg base CX0 2 "losers" ["self","rest"] (J1l cs CR k) (cs k)) :
  FnOk P w K mg base CX0 4 f fd ["self","rest"] (J2j cs CR .os):=by
 refine F.ok scOsBehind (fun vs H Q E h=>?_) (fun cdv A outer s H vs Q E hr h=>?_)
 ·obtain ⟨x,y,s,r,rfl,_⟩:=h;rfl
 ·obtain ⟨x,y,s,r,rfl,hs,⟨dx,hx⟩,R,fit,k⟩:=h;have hr1:Room 1 _:=rm hr;have hr2:Room 2 _:=rm hr;have ok:=fit.ok;have left:=fit.left;have win:=fit.win;have winB:=ok.perm.mem_iff.mpr win;have few:=Nat.le_trans ok.row.len_le ok.few;have fewB:=Nat.le_trans ok.rowB.len_le ok.few;have lw:=ok.row.lt _ win;obtain ⟨dr,fr,pt,pb,pl,pu,h0,⟨k1,k2,k3,k4,k5⟩,e1,e2,e3,e4⟩:=R.ex
  cases s with
  | overs a t =>
   have hlt:∀ j∈J2 r.bot a,j < r.ls.length:=fun j hj=>ok.rowB.lt j (J12 hj);have hln:(J2 r.bot a).length<=24:=by unfold J2;rw [length_drop];lia
   have hsz:(lenOf r.ls (J2 r.bot a)).natAbs < 2 ^ 4000:=by
    have p0:∀ j∈r.bot,1<=r.ls.getD j 0:=fun j hj=>ok.rowB.pos j hj;have h1:lenOf r.ls r.bot=r.size:=ok.sizeB;have h2:lenOf r.ls r.bot=lenOf r.ls (r.bot.take (r.bot.idxOf a + 1)) + lenOf r.ls (J2 r.bot a):=by
     rw [<- Je];show _=lenOf r.ls (r.bot.take (r.bot.idxOf a + 1) ++ r.bot.drop (r.bot.idxOf a + 1));rw [take_append_drop]
    have h3:=Jy (ls:=r.ls) (os:=r.bot.take (r.bot.idxOf a + 1)) fun j hj=>by have:=p0 j (mem_of_mem_take hj);lia
    have h4:=Jy (ls:=r.ls) (os:=J2 r.bot a) fun j hj=>by have:=p0 j (J12 hj);lia
    have h5:=fit.small;have h6:(lenOf r.ls (J2 r.bot a)).natAbs<=10 ^ 30:=by lia
    exact Nat.lt_of_le_of_lt h6 (by decide)
   refine ⟨_,J1 (Jh (i:=2) scOsBehind.nd rfl (Or.inl rfl) (Jc GS hr2 rfl mS kS bS .nil pass0 (J0 (pv 1) (J0 (J9 (pv 0) rfl) (J0 (pe_op J2l (J9 (pv 0) rfl) (Jc GL hr1 rfl mL kL bL .nil pass0 (J0 (pv 1) (J0 (J3q (sp:=J1l cs CR) (cls:=cs) (pv 0) HL hr2 pass0 (J0 (pv 1) J4)) J4)))) J4)))))
    (J6 (Jl (J1h M GI hr rfl mgR bI .nil pass0 (J0 (J9 (pv 1) rfl) (J0 (J9 (pv 1) rfl) (J0 (pv 2) (J0 (J9 (pv 1) rfl) J4))))))),?_⟩
   refine ⟨_,rfl,_,rfl,x,cs _,dx,stF _,_,rfl,hx,TS.cl _,TS.nW _,stF_w _,_,rfl,x,cs _,dx,stF _,_,rfl,hx,TS.cl _,TS.nT _,stF_t _,_,rfl,_,rfl,x,.os,dx,stF _,rfl,hx,J3l _ (by decide +kernel) (by decide +kernel) (by decide +kernel),_,rfl,x,y,.overs a t,r,rfl,rfl,⟨dx,hx⟩,R,win,winB,fun lp H1 s1 hlp=>?_⟩;refine ⟨CR,y,lp,dr,pl,fr,r.ls,J2 r.bot a,rfl,s1 _ _ h0,TR.cl,TR.nL,k3,s1 _ _ e3,hlp,hlt,hln,fun H2 s12=>?_⟩;have s2:=s1.trans s12;refine ⟨_,_,rfl,rfl,⟨fit.few,hsz⟩,y,r,a,_,rfl,R.same s2,lw,fun l1 H3 s23 hl1=>?_⟩;have s3:=s2.trans s23;refine ⟨_,rfl,y,CR,dr,fr,_,rfl,s3 _ _ h0,TR.cl,TR.nT,k1,_,rfl,y,CR,dr,fr,_,rfl,s3 _ _ h0,TR.cl,TR.nB,k2,_,rfl,_,rfl,y,CR,dr,fr,_,rfl,s3 _ _ h0,TR.cl,TR.nU,k4,?_⟩;exact J2w left (.inr (s3 _ _ e1)) (.inr (s3 _ _ e2)) (.inl hl1) (.inr (s3 _ _ e4)) fun p H' s' R'=>k p H' (s3.trans s') R'
  | home a=>cases hs
  | even a b=>cases hs
  | over a b=>cases hs
  | under a b=>cases hs
  | unders a t=>cases hs
theorem scUsBehind:FnScope ["self","rest","lengths"] ["self","rest"] (J7 J5k):=fS
theorem ok_usbehind {f fL fS fI CR:Addr} {fd fdL fdS fdI:FuncData} {cs:Kd->Addr} (F:Fun K "behind" "Unders.behind" J5k f fd) (TS:TxtS K cs) (TR:TxtRest K CR)
  (GL:FnOk P w K mg base CX0 1 fL fdL ["rest","letters"] (J6k K)) (bL:Binds K fdL ["rest","letters"] []) (mL:mg "length_of"=some (.ref fL)) (kL:keepIn K (.ref fL)=true)
  (GS:FnOk P w K mg base CX0 2 fS fdS ["rest","winner","less"] (J6j CR)) (bS:Binds K fdS ["rest","winner","less"] []) (mS:mg "shortened"=some (.ref fS)) (kS:keepIn K (.ref fS)=true)
  (M:Mk K CR fI) (GI:FnOk P w K mg base CX0 2 fI fdI ["self","top","bottom","lengths","turned"] (J3a CR)) (bI:Binds K fdI ["self","top","bottom","lengths","turned"] []) (mgR:mg "Rest"=some (.ref CR))
  (HL:∀ k,HasM P w K mg base CX0 2 "losers" ["self","rest"] (J1l cs CR k) (cs k)) :
  FnOk P w K mg base CX0 4 f fd ["self","rest"] (J2j cs CR .us):=by
 refine F.ok scUsBehind (fun vs H Q E h=>?_) (fun cdv A outer s H vs Q E hr h=>?_)
 ·obtain ⟨x,y,s,r,rfl,_⟩:=h;rfl
 ·obtain ⟨x,y,s,r,rfl,hs,⟨dx,hx⟩,R,fit,k⟩:=h;have hr1:Room 1 _:=rm hr;have hr2:Room 2 _:=rm hr;have ok:=fit.ok;have left:=fit.left;have win:=fit.win;have winB:=ok.perm.mem_iff.mpr win;have few:=Nat.le_trans ok.row.len_le ok.few;have fewB:=Nat.le_trans ok.rowB.len_le ok.few;have lw:=ok.row.lt _ win;obtain ⟨dr,fr,pt,pb,pl,pu,h0,⟨k1,k2,k3,k4,k5⟩,e1,e2,e3,e4⟩:=R.ex
  cases s with
  | unders a t =>
   have hlt:∀ j∈J2 r.top a,j < r.ls.length:=fun j hj=>ok.row.lt j (J12 hj);have hln:(J2 r.top a).length<=24:=by unfold J2;rw [length_drop];lia
   have hsz:(lenOf r.ls (J2 r.top a)).natAbs < 2 ^ 4000:=by
    have p0:∀ j∈r.top,1<=r.ls.getD j 0:=fun j hj=>ok.row.pos j hj;have h1:lenOf r.ls r.top=r.size:=rfl;have h2:lenOf r.ls r.top=lenOf r.ls (r.top.take (r.top.idxOf a + 1)) + lenOf r.ls (J2 r.top a):=by
     rw [<- Je];show _=lenOf r.ls (r.top.take (r.top.idxOf a + 1) ++ r.top.drop (r.top.idxOf a + 1));rw [take_append_drop]
    have h3:=Jy (ls:=r.ls) (os:=r.top.take (r.top.idxOf a + 1)) fun j hj=>by have:=p0 j (mem_of_mem_take hj);lia
    have h4:=Jy (ls:=r.ls) (os:=J2 r.top a) fun j hj=>by have:=p0 j (J12 hj);lia
    have h5:=fit.small;have h6:(lenOf r.ls (J2 r.top a)).natAbs<=10 ^ 30:=by lia
    exact Nat.lt_of_le_of_lt h6 (by decide)
   refine ⟨_,J1 (Jh (i:=2) scUsBehind.nd rfl (Or.inl rfl) (Jc GS hr2 rfl mS kS bS .nil pass0 (J0 (pv 1) (J0 (J9 (pv 0) rfl) (J0 (pe_op J2l (J9 (pv 0) rfl) (Jc GL hr1 rfl mL kL bL .nil pass0 (J0 (pv 1) (J0 (J3q (sp:=J1l cs CR) (cls:=cs) (pv 0) HL hr2 pass0 (J0 (pv 1) J4)) J4)))) J4)))))
    (J6 (Jl (J1h M GI hr rfl mgR bI .nil pass0 (J0 (J9 (pv 1) rfl) (J0 (J9 (pv 1) rfl) (J0 (pv 2) (J0 (J9 (pv 1) rfl) J4))))))),?_⟩
   refine ⟨_,rfl,_,rfl,x,cs _,dx,stF _,_,rfl,hx,TS.cl _,TS.nW _,stF_w _,_,rfl,x,cs _,dx,stF _,_,rfl,hx,TS.cl _,TS.nT _,stF_t _,_,rfl,_,rfl,x,.us,dx,stF _,rfl,hx,J3l _ (by decide +kernel) (by decide +kernel) (by decide +kernel),_,rfl,x,y,.unders a t,r,rfl,rfl,⟨dx,hx⟩,R,win,winB,fun lp H1 s1 hlp=>?_⟩;refine ⟨CR,y,lp,dr,pl,fr,r.ls,J2 r.top a,rfl,s1 _ _ h0,TR.cl,TR.nL,k3,s1 _ _ e3,hlp,hlt,hln,fun H2 s12=>?_⟩;have s2:=s1.trans s12;refine ⟨_,_,rfl,rfl,⟨fit.few,hsz⟩,y,r,a,_,rfl,R.same s2,lw,fun l1 H3 s23 hl1=>?_⟩;have s3:=s2.trans s23;refine ⟨_,rfl,y,CR,dr,fr,_,rfl,s3 _ _ h0,TR.cl,TR.nT,k1,_,rfl,y,CR,dr,fr,_,rfl,s3 _ _ h0,TR.cl,TR.nB,k2,_,rfl,_,rfl,y,CR,dr,fr,_,rfl,s3 _ _ h0,TR.cl,TR.nU,k4,?_⟩;exact J2w left (.inr (s3 _ _ e1)) (.inr (s3 _ _ e2)) (.inl hl1) (.inr (s3 _ _ e4)) fun p H' s' R'=>k p H' (s3.trans s') R'
  | home a=>cases hs
  | even a b=>cases hs
  | over a b=>cases hs
  | under a b=>cases hs
  | overs a t=>cases hs
def Frz (H H':Hp):Prop:=∀ b o,H b=some o->(∀ xs,o≠.lst xs)->H' b=some o
theorem Frz.of {H H':Hp} (s:Same H H'):Frz H H':=fun b o e _=>s b o e
theorem Frz.trans {H H1 H2:Hp} (a:Frz H H1) (b:Frz H1 H2):Frz H H2:=fun c o e n=>b c o (a c o e n) n
theorem Frz.upd {H:Hp} {l:Addr} {xs ys:List V} (h:H l=some (.lst xs)):Frz H (upd H l (.lst ys)):=fun b o e n=>by
 rw [Jg (fun q=>n xs (by subst q;rw [h] at e;exact (Option.some.inj e).symm))];exact e
theorem RestAt.frz {CR:Addr} {H H':Hp} {x:Addr} {r:Rst} (h:RestAt CR H x r) (s:Frz H H'):RestAt CR H' x r:=by
 obtain ⟨dx,fs,pt,pb,pl,pu,h0,hl,h1,h2,h3,h4⟩:=h.ex;exact ⟨dx,fs,pt,pb,pl,pu,s _ _ h0 (fun _ e=>nomatch e),hl,s _ _ h1 (fun _ e=>nomatch e),s _ _ h2 (fun _ e=>nomatch e),s _ _ h3 (fun _ e=>nomatch e),s _ _ h4 (fun _ e=>nomatch e)⟩
theorem StepAt.frz {cs:Kd->Addr} {H H':Hp} {p:Addr} {s:Stp} (h:StepAt cs H p s) (e:Frz H H'):StepAt cs H' p s:=let ⟨dx,q⟩:=h;⟨dx,e _ _ q (fun _ e=>nomatch e)⟩
theorem atI_last {xs:List V} {n:Nat} {v:V} (h:xs.length=n + 1) (e:xs[n]?=some v):atI xs (-1)=some v:=by
 unfold atI ixN;rw [if_neg (by decide),if_pos (by rw [h];lia)];show xs[((-1:Int) + (xs.length:Int)).toNat]?=some v;rw [h,show ((-1:Int) + ((n + 1:Nat):Int)).toNat=n by lia];exact e
theorem inV_nV (j:Nat) (row:List Nat):inV (V.int (j:Nat)) (nV row)=decide (j∈row):=by
 rw [nV_eq];unfold inV;rw [Bool.eq_iff_iff,List.any_eq_true,decide_eq_true_iff];constructor
 ·rintro ⟨y,hy,e⟩;obtain ⟨i,hi,rfl⟩:=mem_map.mp hy;have e':((i:Int) == (j:Int))=true:=e;have:i=j:=by have:=eq_of_beq e';lia
  exact this ▸ hi
 ·intro h;exact ⟨V.int (j:Nat),mem_map.mpr ⟨j,h,rfl⟩,(beq_self_eq_true _:((j:Int) == (j:Int))=true)⟩
theorem flat_nV (row:List Nat):(nV row).all flatV=true:=by
 rw [nV_eq,all_eq_true];intro y hy;obtain ⟨i,_,rfl⟩:=mem_map.mp hy;rfl
theorem home_kd (k:Kd):decide (V.str (wordS k)=V.str (Str.ofString "home"))=(match k with | .ho=>true | _=>false):=by cases k <;> decide +kernel
theorem home_word (s:Stp):decide (V.str (wordS (kd s))=V.str (Str.ofString "home"))=s.isHome:=by
 rw [home_kd];cases s <;> rfl
theorem flat_one (n:Nat):(List.replicate n [V.int 1]).flatten=iV (List.replicate n 1):=by
 induction n with
 | zero=>rfl
 | succ n ih=>rw [replicate_succ,flatten_cons,ih,replicate_succ];rfl
def spFirstT (C:Addr):Sp:=fun vs H Q _=>∃ (x:Addr) (ls:List Int) (os:List Nat) (ts:List Bool),vs=[.ref x]/\LineAt C H x ls os ts/\1<=ls.length/\ls.length<=24/\∀ p H',Same H H'->H' p=some (.tup (iV (List.replicate ls.length 1)))->Q (.ref p) H'
theorem scFirstT:FnScope ["line"] ["line"] (J7 sFirstT):=fS
theorem ok_firstT {f C:Addr} {fd:FuncData} (F:Fun K "first_towers" "first_towers" sFirstT f fd) (T:TxtR mg) (TC:TxtC K mg C):FnOk P w K mg base CX0 1 f fd ["line"] (spFirstT C):=by
 refine F.ok scFirstT (fun vs H Q E h=>?_) (fun cdv A outer s H vs Q E hr h=>?_)
 ·obtain ⟨x,ls,os,ts,rfl,_⟩:=h;rfl
 ·obtain ⟨x,ls,os,ts,rfl,L,h1,h2,k⟩:=h;obtain ⟨dx,fl,pl,po,pt,ps,pd,h0,⟨k1,k2,k3,k4,k5,k6⟩,e1,e2,e3,e4,e5⟩:=L.ex;refine ⟨_,J6 (Jl (pe_op op_repT (J4y (J0 Jb J4)) (Jn Jk (by rfl) T.len boot_len (J0 (J9 (pv 0) rfl) J4)))),?_⟩;refine ⟨by show 1<=sizeLine;decide,fun p hp=>⟨_,rfl,x,C,dx,fl,_,rfl,Ja hp _ _ h0,TC.cl,TC.nL,k1,pl,_,rfl,.inr (SqT.of (Ja hp _ _ e1)),p,((iV ls).length:Int),[V.int 1],rfl,rfl,J3,by simp,?_,?_,?_,fun e=>?_,fun hk p2 hp2=>?_⟩⟩
  ·rw [J26];lia
  ·rw [J26];lia
  ·show 1 * ((iV ls).length:Int).toNat<=sizeLine;rw [J26];have:=J1e (n:=ls.length) (by lia);lia
  ·rw [J26] at e;have en:ls.length=1:=by lia
   refine k p _ (Ja hp) ?_;rw [J3,en];rfl
  ·refine k p2 _ ((Ja hp).trans (Ja hp2)) ?_;rw [J3,J26,show ((ls.length:Nat):Int).toNat=ls.length by lia,flat_one]
def spTowB (cs:Kd->Addr) (CR:Addr):Sp:=fun vs H Q _=>∃ (tp x y z:Addr) (s:Stp) (r:Rst) (T:List Int),vs=[.ref tp,.ref x,.ref y,.ref z]/\H tp=some (.tup (iV T))/\StepAt cs H x s/\RestAt CR H y r/\RestAt CR H z (s.behind r)/\
 s.winner∈r.top/\s.winner∈r.bot/\s.winner < T.length/\T.length<=24/\CBig (T.getD s.winner 0) s.times/\∀ p H',Same H H'->H' p=some (.tup (iV (towB s r T)))->Q (.ref p) H'
theorem scTowB:FnScope ["towers","step","rest","behind","losers","grown","told","letter","tower"] ["towers","step","rest","behind"] (J7 sTowB):=fS
theorem iV_snoc (T:List Int) {i:Nat} (h:i < T.length):iV (T.take i) ++ [V.int (T.getD i 0)]=iV (T.take (i + 1)):=by
 show (T.take i).map V.int ++ _=(T.take (i + 1)).map V.int;rw [List.take_add_one,map_append,getD_eq_getElem?_getD,List.getElem?_eq_getElem h];rfl
theorem ok_towB {f CR:Addr} {fd:FuncData} {cs:Kd->Addr} (F:Fun K "towers_behind" "towers_behind" sTowB f fd) (T:TxtR mg) (hen:mg "enumerate"=none) (TR:TxtRest K CR) (TS:TxtS K cs)
  (HL:∀ k,HasM P w K mg base CX0 2 "losers" ["self","rest"] (J1l cs CR k) (cs k)):FnOk P w K mg base CX0 3 f fd ["towers","step","rest","behind"] (spTowB cs CR):=by
 refine F.ok scTowB (fun vs H Q E h=>?_) (fun cdv A outer s H vs Q E hr h=>?_)
 ·obtain ⟨tp,x,y,z,s,r,Tl,rfl,_⟩:=h;rfl
 ·obtain ⟨tp,x,y,z,st,r,Tl,rfl,htp,⟨dx,hx⟩,R,Z,wT,wB,wl,hn,big,k⟩:=h;have hr2:Room 2 _:=rm hr;refine ⟨_,J1 (Jh (i:=4) scTowB.nd rfl (Or.inl rfl) (J3q (sp:=J1l cs CR) (cls:=cs) (pv 1) HL hr2 pass0 (J0 (pv 2) J4)))
   (J1 (Jh (i:=5) scTowB.nd rfl (Or.inl rfl) (pe_op J2l (pe_ix Ji (pv 0) (J9 (pv 1) rfl) (fun _ _=>rfl)) (J9 (pv 1) rfl)))
   (J1 (Jh (i:=6) scTowB.nd rfl (Or.inl rfl) (J3d J4))
   (J1 (J4g PassesOwn.never rfl (pi_enum rfl hen (J0 (pv 0) J4)) (pg_tup rfl (J2p (J1p (i:=7) scTowB.nd rfl (Or.inl rfl)) (J2p (J1p (i:=8) scTowB.nd rfl (Or.inl rfl)) pgs_nil)))
    (J6 (ps_if (Jr J4j (pv 7) (J9 (pv 3) rfl) rfl)
     (J6 (J1r (pe_bm PySem.F.plainAttrs_list PySem.F.slot_list_append PySem.F.type_list_append J2c (pv 6) (J0 Jb J4))))
     (J6 (ps_if (Jr op_in_seq (pv 7) (pv 4) rfl)
      (J6 (J1r (pe_bm PySem.F.plainAttrs_list PySem.F.slot_list_append PySem.F.type_list_append J2c (pv 6) (J0 (pe_op J19 (pv 8) (pv 5)) J4))))
      (J6 (J1r (pe_bm PySem.F.plainAttrs_list PySem.F.slot_list_append PySem.F.type_list_append J2c (pv 6) (J0 (pv 8) J4)))))))))
   (J6 (Jl (Jo J1g (by rfl) T.tuple boot_tuple (J0 (pv 6) J4))))))),?_⟩
  refine ⟨_,rfl,x,kd st,dx,stF st,rfl,hx,J3l _ (by decide +kernel) (by decide +kernel) (by decide +kernel),_,rfl,x,y,st,r,rfl,rfl,⟨dx,hx⟩,R,wT,wB,fun lp Ha sa hlp=>?_⟩;refine ⟨_,rfl,_,rfl,x,cs (kd st),dx,stF st,_,rfl,sa _ _ hx,TS.cl _,TS.nW _,stF_w _,tp,_,_,_,rfl,rfl,SqT.of (sa _ _ htp),J8 (J15 wl),_,rfl,x,cs (kd st),dx,stF st,_,rfl,sa _ _ hx,TS.cl _,TS.nT _,stF_t _,_,_,rfl,rfl,big,?_⟩;refine ⟨Nat.zero_le _,fun tl htl=>?_⟩;have lenB:=J3k st r Tl;have htp1:=sa _ _ htp;refine ⟨_,rfl,tp,rfl,⟨_,SqT.of (Ja htl _ _ htp1)⟩,for_enum (K:=K) (a:=tp) (xs:=iV Tl)
   (fun i σ H2=>∃ v v',σ=[some (.ref tp),some (.ref x),some (.ref y),some (.ref z),some (.ref lp),some (.int (Tl.getD st.winner 0 * st.times)),some (.ref tl),v,v']/\H2 tl=some (.lst (iV ((towB st r Tl).take i)))/\Same Ha H2)
   ⟨none,none,rfl,J3,Ja htl⟩ (fun i σ H2 _ h9=>by obtain ⟨_,_,_,_,s2⟩:=h9;exact SqT.of (s2 _ _ htp1)) ?_ ?_⟩
  ·rintro i y' σ H2 t hy ⟨v,v',rfl,h1,s2⟩ ht;have hil:i < Tl.length:=by
    have:=(List.getElem?_eq_some_iff.mp hy).1;rw [length_map] at this;exact this
   rw [J15 hil] at hy;cases hy;have st2:=Ja (o:=.tup [.int (i:Int),.int (Tl.getD i 0)]) ht;have s3:=s2.trans st2;have h1':=st2 _ _ h1;obtain ⟨dz,fz,zt,zb,zl,zu,w0,⟨w1,w2,w3,w4,w5⟩,v1,v2,v3,v4⟩:=((Z.same sa).same s3).ex;have hlp':=s3 _ _ hlp;have eg:=J4a st r Tl hil;have sn:=iV_snoc (towB st r Tl) (i:=i) (by rw [lenB];exact hil);have tlen:(iV ((towB st r Tl).take i)).length < sizeLine:=by
    rw [J26,length_take];have:=J1e (n:=24) (by lia);lia
   have fin:∀ u,u=(towB st r Tl).getD i 0->∀ H3,H3=upd H2 t (.tup [.int (i:Int),.int (Tl.getD i 0)])->(∃ v v',[some (V.ref tp),some (.ref x),some (.ref y),some (.ref z),some (.ref lp),some (.int (Tl.getD st.winner 0 * st.times)),some (.ref tl),some (.int (i:Int)),some (.int (Tl.getD i 0))]=[some (.ref tp),some (.ref x),some (.ref y),some (.ref z),some (.ref lp),some (.int (Tl.getD st.winner 0 * st.times)),some (.ref tl),v,v']/\
     (upd H3 tl (.lst (iV ((towB st r Tl).take i) ++ [.int u]))) tl=some (.lst (iV ((towB st r Tl).take (i + 1))))/\Same Ha (upd H3 tl (.lst (iV ((towB st r Tl).take i) ++ [.int u])))):=by
    rintro u rfl H3 rfl;refine ⟨_,_,rfl,by rw [J3,sn],fun b o e=>?_⟩;rw [Jg (Jd e htl)];exact s3 _ _ e
   refine ⟨t,_,rfl,SqT.of J3,rfl,_,_,rfl,_,_,rfl,rfl,?_⟩;refine ⟨_,rfl,_,rfl,z,CR,dz,fz,_,rfl,w0,TR.cl,TR.nT,w1,zt,_,rfl,.inr (SqT.of v1),rfl,flat_nV _,_,rfl,?_⟩;by_cases c:i∈(st.behind r).top
   ·refine iteBF (show ¬ (!inV (V.int (i:Nat)) (nV (st.behind r).top))=true by rw [inV_nV];simpa using c) ?_;rw [if_pos c] at eg;refine ⟨_,rfl,_,rfl,lp,_,rfl,.inr (SqT.of hlp'),rfl,flat_nV _,_,rfl,?_⟩;by_cases c2:i∈st.losers r
    ·refine iteBT (show inV (V.int (i:Nat)) (nV (st.losers r))=true by rw [inV_nV];exact decide_eq_true c2) ?_;rw [if_pos c2] at eg;exact ⟨_,rfl,.inl ⟨rfl,_,SqL.of h1'⟩,_,rfl,_,rfl,_,_,rfl,rfl,tl,_,_,rfl,rfl,h1',tlen,fin _ eg.symm _ rfl⟩
    ·refine iteBF (show ¬ inV (V.int (i:Nat)) (nV (st.losers r))=true by rw [inV_nV];simpa using c2) ?_;rw [if_neg c2] at eg;exact ⟨_,rfl,.inl ⟨rfl,_,SqL.of h1'⟩,_,rfl,tl,_,_,rfl,rfl,h1',tlen,fin _ eg.symm _ rfl⟩
   ·refine iteBT (show (!inV (V.int (i:Nat)) (nV (st.behind r).top))=true by rw [inV_nV];simpa using c) ?_;rw [if_neg c] at eg;exact ⟨_,rfl,.inl ⟨rfl,_,SqL.of h1'⟩,tl,_,_,rfl,rfl,h1',tlen,fin _ eg.symm _ rfl⟩
  ·rintro σ H2 ⟨v,v',rfl,h1,s2⟩;rw [J26,<- lenB,List.take_length] at h1;exact ⟨_,rfl,J1t (.inl h1) fun p H' s' hp=>k p H' ((sa.trans s2).trans s') hp⟩
def bandV (b:Band):List V:=[.int b.1,.int b.2.1,.int b.2.2.1,.bl b.2.2.2]
def spBandsL (cs:Kd->Addr) (CR:Addr):Sp:=fun vs H Q _=>∃ (tp x y z:Addr) (s:Stp) (r:Rst) (T:List Int),vs=[.ref x,.ref y,.ref z,.ref tp]/\H tp=some (.tup (iV T))/\StepAt cs H x s/\RestAt CR H y r/\RestAt CR H z (s.behind r)/\
 s.winner < r.ls.length/\s.winner < r.ts.length/\s.winner < T.length/\(s.isHome=false->∀ p H',Same H H'->H' p=some (.lst [])->Q (.ref p) H')/\
 (s.isHome=true->∀ p q H',Same H H'->H' p=some (.lst [.ref q])->H' q=some (.tup (bandV ((s.behind r).size,r.ls.getD s.winner 0,T.getD s.winner 0,r.ts.getD s.winner false)))->Q (.ref p) H')
theorem scBandsL:FnScope ["step","rest","behind","towers","winner"] ["step","rest","behind","towers"] (J7 sBandsL):=fS
theorem ok_bandsL {f CR:Addr} {fd:FuncData} {cs:Kd->Addr} (F:Fun K "bands_left" "bands_left" sBandsL f fd) (TR:TxtRest K CR) (TS:TxtS K cs)
  (HW:∀ k,HasM P w K mg base CX0 1 "word" ["self"] (J3m k) (cs k)):FnOk P w K mg base CX0 2 f fd ["step","rest","behind","towers"] (spBandsL cs CR):=by
 refine F.ok scBandsL (fun vs H Q E h=>?_) (fun cdv A outer s H vs Q E hr h=>?_)
 ·obtain ⟨tp,x,y,z,s,r,Tl,rfl,_⟩:=h;rfl
 ·obtain ⟨tp,x,y,z,st,r,Tl,rfl,htp,⟨dx,hx⟩,R,Z,wl,wt,wT,k0,k1⟩:=h;have hr1:Room 1 _:=rm hr;obtain ⟨dy,fy,yt,yb,yl,yu,q0,⟨q1,q2,q3,q4,q5⟩,p1,p2,p3,p4⟩:=R.ex;obtain ⟨dz,fz,zt,zb,zl,zu,w0,⟨w1,w2,w3,w4,w5⟩,v1,v2,v3,v4⟩:=Z.ex;refine ⟨_,J1 (ps_if (Jr op_ne (J2x (sp:=J3m) (cls:=cs) (pv 0) HW hr1 pass0) J4z (J13 _)) (J6 (Jl (J3d J4))) Jx)
   (J1 (Jh (i:=4) scBandsL.nd rfl (Or.inl rfl) (J9 (pv 0) rfl))
   (J6 (Jl (J3d (J0 (J4y (J0 (J9 (pv 2) rfl) (J0 (pe_ix Ji (J9 (pv 1) rfl) (pv 4) (fun _ _=>rfl)) (J0 (pe_ix Ji (pv 3) (pv 4) (fun _ _=>rfl)) (J0 (pe_ix Ji (J9 (pv 1) rfl) (pv 4) (fun _ _=>rfl)) J4))))) J4))))),?_⟩
  refine ⟨_,rfl,x,kd st,dx,stF st,rfl,hx,J3l _ (by decide +kernel) (by decide +kernel) (by decide +kernel),x,rfl,rfl,_,rfl,?_⟩;have hw:=home_word st;by_cases c:st.isHome=true
  ·refine iteBF (show ¬ (!decide (V.str (wordS (kd st))=V.str (Str.ofString "home")))=true by rw [hw,c];decide) ?_;refine ⟨_,rfl,x,cs (kd st),dx,stF st,_,rfl,hx,TS.cl _,TS.nW _,stF_w _,?_⟩;refine ⟨_,rfl,z,CR,dz,fz,_,rfl,w0,TR.cl,TR.nZ,w5,_,rfl,y,CR,dy,fy,_,rfl,q0,TR.cl,TR.nL,q3,_,rfl,yl,_,_,_,rfl,rfl,SqT.of p3,J8 (J15 wl),_,rfl,_,rfl,tp,_,_,_,rfl,rfl,SqT.of htp,J8 (J15 wT),
    _,rfl,y,CR,dy,fy,_,rfl,q0,TR.cl,TR.nU,q4,_,rfl,yu,_,_,_,rfl,rfl,SqT.of p4,J8 (J7v wt),(by show 4<=sizeLine;decide),fun q hq=>⟨(by show 1<=sizeLine;decide),fun p hp=>?_⟩⟩
   exact k1 c p q _ ((Ja hq).trans (Ja hp)) J3 (Ja hp _ _ J3)
  ·refine iteBT (show (!decide (V.str (wordS (kd st))=V.str (Str.ofString "home")))=true by rw [hw];simpa using c) ?_;exact ⟨Nat.zero_le _,fun p hp=>k0 (by simpa using c) p _ (Ja hp) J3⟩
end
end R42
namespace R42
open PySem L2 Rl
section
theorem next_fit {r:Rst} (ok:r.Ok) (ne:r.top≠[]) (hz:r.size<=10 ^ 30):Fit (nextN r) r:=by
 have np:=nextP ok ne;refine ⟨ok,ok.next ne,np.win ok ne,fun b hb=>?_,Nat.lt_of_le_of_lt (np.times ok ne hz) (by decide),hz⟩;have mT:=ok.mT ne;have mB:=ok.mB ne;generalize nextN r=st at *;have inj:∀ {i j:Nat},V.int (i:Nat)=V.int (j:Nat)->i=j:=fun q=>by have:=V.int.inj q;lia
 cases st with
 | even a b'=>obtain rfl:=inj hb;obtain ⟨_,n2,n3,_⟩:=np;exact ⟨by rw [n2];exact mB,n3⟩
 | over a b'=>obtain rfl:=inj hb;obtain ⟨_,n2,n3,_⟩:=np;exact ⟨by rw [n2];exact mB,n3⟩
 | under a b'=>obtain rfl:=inj hb;obtain ⟨_,n2,n3,_⟩:=np;exact ⟨by rw [n2];exact mT,n3⟩
 | home a=>cases hb
 | overs a t=>cases hb
 | unders a t=>cases hb
end
section
variable {P:Program} {w:World} {K:Frag} {mg:Str->Option Value} {base:Heap}
structure TxtCh (K:Frag) (CH:Addr):Prop where
 cl:Cls K CH
 nL:NoAttr K CH "line"
 nR:NoAttr K CH "rests"
 nS:NoAttr K CH "steps"
 nT:NoAttr K CH "towers"
 nB:NoAttr K CH "bands"
abbrev bz:Band:=(0,0,0,false)
structure ChartAt (CH CR:Addr) (cs:Kd->Addr) (H:Hp) (x xl:Addr) (p0:Cst) (m:Nat):Prop where
 ex:∃ (dx:Addr) (fs:List (Str × V)) (pr ps pt pb:Addr) (xr xs xt xb:List V),H x=some (.ins CH dx fs)/\(fs.lookup ("line":Str)=some (.ref xl)/\fs.lookup ("rests":Str)=some (.ref pr)/\fs.lookup ("steps":Str)=some (.ref ps)/\fs.lookup ("towers":Str)=some (.ref pt)/\fs.lookup ("bands":Str)=some (.ref pb))/\
  (H pr=some (.tup xr)/\H ps=some (.tup xs)/\H pt=some (.tup xt)/\H pb=some (.tup xb))/\Refs (fun q i=>RestAt CR H q (chN p0 i).1) xr (m + 1)/\Refs (fun q i=>StepAt cs H q (nextN (chN p0 i).1)) xs m/\Refs (fun q i=>H q=some (.tup (iV (chN p0 i).2))) xt (m + 1)/\
  Refs (fun q i=>H q=some (.tup (bandV ((bndN p0 m).getD i bz)))) xb (bndN p0 m).length
theorem ChartAt.frz {CH CR:Addr} {cs:Kd->Addr} {H H':Hp} {x xl:Addr} {p0:Cst} {m:Nat} (h:ChartAt CH CR cs H x xl p0 m) (s:Frz H H'):ChartAt CH CR cs H' x xl p0 m:=by
 obtain ⟨dx,fs,pr,ps,pt,pb,xr,xs,xt,xb,h0,hl,⟨h1,h2,h3,h4⟩,r1,r2,r3,r4⟩:=h.ex;exact ⟨dx,fs,pr,ps,pt,pb,xr,xs,xt,xb,s _ _ h0 (fun _ e=>nomatch e),hl,⟨s _ _ h1 (fun _ e=>nomatch e),s _ _ h2 (fun _ e=>nomatch e),s _ _ h3 (fun _ e=>nomatch e),s _ _ h4 (fun _ e=>nomatch e)⟩,
  r1.mono fun q i _ a=>a.frz s,r2.mono fun q i _ a=>a.frz s,r3.mono fun q i _ a=>s _ _ a (fun _ e=>nomatch e),r4.mono fun q i _ a=>s _ _ a (fun _ e=>nomatch e)⟩
theorem ChartAt.same {CH CR:Addr} {cs:Kd->Addr} {H H':Hp} {x xl:Addr} {p0:Cst} {m:Nat} (h:ChartAt CH CR cs H x xl p0 m) (s:Same H H'):ChartAt CH CR cs H' x xl p0 m:=h.frz (Frz.of s)
abbrev Jz (ls:List Int) (os:List Nat) (ts:List Bool):Cst:=(J10 ls os ts,List.replicate ls.length 1)
def spCInit (C CR CH:Addr) (cs:Kd->Addr):Sp:=fun vs H Q _=>∃ (x dx xl:Addr) (ls:List Int) (os:List Nat) (ts:List Bool),vs=[.ref x,.ref xl]/\H x=some (.ins CH dx [])/\LineAt C H xl ls os ts/\(J10 ls os ts).Ok/\(J10 ls os ts).size<=10 ^ 30/\1<=ls.length/\
 ∀ m H',Long (Jz ls os ts) m->(chN (Jz ls os ts) m).1.top=[]->ChartAt CH CR cs H' x xl (Jz ls os ts) m->KeepX x H H'->Q .non H'
theorem scCInit:FnScope ["self","line","rest","rests","steps","towers","bands","step","behind"] ["self","line"] (J7 sChInit):=fS
theorem line16:(6367451:Nat) + 5<=sizeLine:=by rw [sizeLine_eq];decide
theorem big_tow {p:Cst} (h:Cok p) (ne:p.1.top≠[]):CBig (p.2.getD (nextN p.1).winner 0) (nextN p.1).times:=by
 have w:=(nextP h.ok ne).win h.ok ne;have h1:=h.tow.le h.ok w;have h2:=h.tow.pos _ w;have h3:=(nextP h.ok ne).times h.ok ne h.size30;have e:(10:Nat) ^ 30 < 2 ^ 4000:=by decide
 exact ⟨Nat.lt_of_le_of_lt (show (p.2.getD (nextN p.1).winner 0).natAbs<=10 ^ 30 by lia) e,Nat.lt_of_le_of_lt h3 e⟩
theorem ok_cinit {f fRO fFT fN fBL fTB C CR CH:Addr} {fd fdRO fdFT fdN fdBL fdTB:FuncData} {cs:Kd->Addr} (F:Fun K "__init__" "Chart.__init__" sChInit f fd) (T:TxtR mg) (TR:TxtRest K CR) (TS:TxtS K cs) (TH:TxtCh K CH)
  (GRO:FnOk P w K mg base CX0 4 fRO fdRO ["line"] (spRestOf C CR)) (bRO:Binds K fdRO ["line"] []) (mRO:mg "rest_of"=some (.ref fRO)) (kRO:keepIn K (.ref fRO)=true)
  (GFT:FnOk P w K mg base CX0 1 fFT fdFT ["line"] (spFirstT C)) (bFT:Binds K fdFT ["line"] []) (mFT:mg "first_towers"=some (.ref fFT)) (kFT:keepIn K (.ref fFT)=true)
  (GN:FnOk P w K mg base CX0 5 fN fdN ["rest"] (spNext cs CR)) (bN:Binds K fdN ["rest"] []) (mN:mg "next_step"=some (.ref fN)) (kN:keepIn K (.ref fN)=true)
  (HB:∀ k,HasM P w K mg base CX0 4 "behind" ["self","rest"] (J2j cs CR k) (cs k))
  (GBL:FnOk P w K mg base CX0 2 fBL fdBL ["step","rest","behind","towers"] (spBandsL cs CR)) (bBL:Binds K fdBL ["step","rest","behind","towers"] []) (mBL:mg "bands_left"=some (.ref fBL)) (kBL:keepIn K (.ref fBL)=true)
  (GTB:FnOk P w K mg base CX0 3 fTB fdTB ["towers","step","rest","behind"] (spTowB cs CR)) (bTB:Binds K fdTB ["towers","step","rest","behind"] []) (mTB:mg "towers_behind"=some (.ref fTB)) (kTB:keepIn K (.ref fTB)=true) :
  FnOk P w K mg base CX0 6 f fd ["self","line"] (spCInit C CR CH cs):=by
 refine F.ok scCInit (fun vs H Q E h=>?_) (fun cdv A outer s H vs Q E hr h=>?_)
 ·obtain ⟨x,dx,xl,ls,os,ts,rfl,_⟩:=h;rfl
 ·obtain ⟨x,dx,xl,ls,os,ts,rfl,hx,L,ok0,hz0,h1,k⟩:=h;have hr1:Room 1 _:=rm hr;have hr2:Room 2 _:=rm hr;have hr3:Room 3 _:=rm hr;have hr4:Room 4 _:=rm hr;have hr5:Room 5 _:=rm hr;refine ⟨_,J1 (Jh (i:=2) scCInit.nd rfl (Or.inl rfl) (Jc GRO hr4 rfl mRO kRO bRO .nil pass0 (J0 (pv 1) J4)))
   (J1 (Jh (i:=3) scCInit.nd rfl (Or.inl rfl) (J3d (J0 (pv 2) J4)))
   (J1 (Jh (i:=4) scCInit.nd rfl (Or.inl rfl) (J3d J4))
   (J1 (Jh (i:=5) scCInit.nd rfl (Or.inl rfl) (J3d (J0 (Jc GFT hr1 rfl mFT kFT bFT .nil pass0 (J0 (pv 1) J4)) J4)))
   (J1 (Jh (i:=6) scCInit.nd rfl (Or.inl rfl) (J3d J4))
   (J1 (J7j PassesOwn.never (Jr op_gt (J9 (pv 2) rfl) Jb (J13 _))
    (J1 (Jh (i:=7) scCInit.nd rfl (Or.inl rfl) (Jc GN hr5 rfl mN kN bN .nil pass0 (J0 (pv 2) J4)))
    (J1 (Jh (i:=8) scCInit.nd rfl (Or.inl rfl) (J3q (sp:=J2j cs CR) (cls:=cs) (pv 7) HB hr4 pass0 (J0 (pv 2) J4)))
    (J1 (J1r (pe_bm PySem.F.plainAttrs_list PySem.F.slot_list_extend PySem.F.type_list_extend mt_extend (pv 6) (J0 (Jc GBL hr2 rfl mBL kBL bBL .nil pass0 (J0 (pv 7) (J0 (pv 2) (J0 (pv 8) (J0 (pe_ix J27 (pv 5) (pe_un J6e Jb) (fun _ _=>rfl)) J4))))) J4)))
    (J1 (J1r (pe_bm PySem.F.plainAttrs_list PySem.F.slot_list_append PySem.F.type_list_append J2c (pv 5) (J0 (Jc GTB hr3 rfl mTB kTB bTB .nil pass0 (J0 (pe_ix J27 (pv 5) (pe_un J6e Jb) (fun _ _=>rfl)) (J0 (pv 7) (J0 (pv 2) (J0 (pv 8) J4))))) J4)))
    (J1 (J1r (pe_bm PySem.F.plainAttrs_list PySem.F.slot_list_append PySem.F.type_list_append J2c (pv 4) (J0 (pv 7) J4)))
    (J1 (J1r (pe_bm PySem.F.plainAttrs_list PySem.F.slot_list_append PySem.F.type_list_append J2c (pv 3) (J0 (pv 8) J4)))
    (J6 (Jh (i:=2) scCInit.nd rfl (Or.inl rfl) (pv 8))))))))))
   (J1 (J1w (pv 0) (pv 1) rfl)
   (J1 (J1w (pv 0) (Jo J1g (by rfl) T.tuple boot_tuple (J0 (pv 3) J4)) rfl)
   (J1 (J1w (pv 0) (Jo J1g (by rfl) T.tuple boot_tuple (J0 (pv 4) J4)) rfl)
   (J1 (J1w (pv 0) (Jo J1g (by rfl) T.tuple boot_tuple (J0 (pv 5) J4)) rfl)
   (J6 (J1w (pv 0) (Jo J1g (by rfl) T.tuple boot_tuple (J0 (pv 6) J4)) rfl))))))))))),?_⟩
  have few:=ok0.few;have cok0:Cok (Jz ls os ts):=J5g ok0 hz0;refine ⟨_,rfl,xl,ls,os,ts,rfl,L,few,fun y0 Hr sr R0=>?_⟩;refine ⟨_,rfl,(by show 1<=sizeLine;decide),fun lr hlr=>⟨Nat.zero_le _,fun lq hlq=>?_⟩⟩;have sa:=Ja (o:=.lst [V.ref y0]) hlr;have sb:=sa.trans (Ja (o:=.lst []) hlq);refine ⟨_,rfl,xl,ls,os,ts,rfl,(L.same sr).same sb,h1,few,fun t0 Ht st ht0=>⟨(by show 1<=sizeLine;decide),fun lt hlt=>⟨Nat.zero_le _,fun lb hlb=>?_⟩⟩⟩;have sc:=sb.trans st;have sd:=Ja (o:=.lst [V.ref t0]) hlt;have se:=Ja (o:=.lst []) hlb;have sf:=(sc.trans sd).trans se;have fr_r:Hr lr=none:=hlr;have fr_q:Hr lq=none:=sa.free hlq;have fr_t:Hr lt=none:=sc.free hlt;have fr_b:Hr lb=none:=(sc.trans sd).free hlb;have n_qr:lq≠lr:=fun e=>by rw [e,J3] at hlq;cases hlq
  have hr_t:Ht lr=some (.lst [V.ref y0]):=st _ _ (Ja (o:=.lst []) hlq _ _ J3);have hq_t:Ht lq=some (.lst []):=st _ _ J3;have n_rt:lr≠lt:=Jd hr_t hlt;have n_qt:lq≠lt:=Jd hq_t hlt;have n_rb:lr≠lb:=Jd (sd _ _ hr_t) hlb;have n_qb:lq≠lb:=Jd (sd _ _ hq_t) hlb;have n_tb:lt≠lb:=Jd (J3 (H:=Ht) (a:=lt) (o:=.lst [V.ref t0])) hlb;have gr:(upd (upd Ht lt (.lst [V.ref t0])) lb (.lst [])) lr=some (.lst [V.ref y0]):=se _ _ (sd _ _ hr_t);have gq:(upd (upd Ht lt (.lst [V.ref t0])) lb (.lst [])) lq=some (.lst []):=se _ _ (sd _ _ hq_t);have gt:(upd (upd Ht lt (.lst [V.ref t0])) lb (.lst [])) lt=some (.lst [V.ref t0]):=se _ _ J3;have gb:(upd (upd Ht lt (.lst [V.ref t0])) lb (.lst [])) lb=some (.lst []):=J3;have gy:=R0.same sf;have g0:(upd (upd Ht lt (.lst [V.ref t0])) lb (.lst [])) t0=some (.tup (iV (List.replicate ls.length 1))):=se _ _ (sd _ _ ht0);generalize (upd (upd Ht lt (.lst [V.ref t0])) lb (.lst []))=Hs at *;generalize hp0:Jz ls os ts=p0 at *;have e0:J10 ls os ts=(chN p0 0).1:=by rw [<- hp0];rfl
  have e1:List.replicate ls.length 1=(chN p0 0).2:=by rw [<- hp0];rfl
  rw [e0] at gy;rw [e1] at g0;clear R0 hr_t hq_t ht0 hlr hlq hlt hlb;have hxr:=sr _ _ hx;refine ⟨fun m σ Hw=>∃ (i:Nat) (y:Addr) (xr xs xt xb:List V) (v7 v8:Option V),σ=[some (.ref x),some (.ref xl),some (.ref y),some (.ref lr),some (.ref lq),some (.ref lt),some (.ref lb),v7,v8]/\Long p0 i/\RestAt CR Hw y (chN p0 i).1/\Same Hr Hw/\
    (Hw lr=some (.lst xr)/\Hw lq=some (.lst xs)/\Hw lt=some (.lst xt)/\Hw lb=some (.lst xb))/\Refs (fun q i=>RestAt CR Hw q (chN p0 i).1) xr (i + 1)/\Refs (fun q i=>StepAt cs Hw q (nextN (chN p0 i).1)) xs i/\Refs (fun q i=>Hw q=some (.tup (iV (chN p0 i).2))) xt (i + 1)/\
    Refs (fun q j=>Hw q=some (.tup (bandV ((bndN p0 i).getD j bz)))) xb (bndN p0 i).length/\m=(chN p0 i).1.size.toNat,
   ⟨_,0,y0,_,_,_,_,none,none,rfl,(fun i hi=>absurd hi (Nat.not_lt_zero _)),gy,sf,⟨gr,gq,gt,gb⟩,Refs.nil.snoc gy,Refs.nil,Refs.nil.snoc g0,Refs.nil,rfl⟩,?_⟩
  rintro m σ Hw ⟨i,y,xr,xs,xt,xb,v7,v8,rfl,lg,R,sw,⟨hr_,hq_,ht_,hb_⟩,rr,rs,rt,rb,rfl⟩;obtain ⟨dy,fy,yt,yb,yl,yu,q0,⟨q1,q2,q3,q4,q5⟩,p1,p2,p3,p4⟩:=R.ex;have cok:=cok0.at_ lg;have few_i:=cok0.few lg;refine ⟨_,rfl,y,CR,dy,fy,_,rfl,q0,TR.cl,TR.nZ,q5,_,_,rfl,rfl,_,rfl,?_⟩;by_cases c:(chN p0 i).1.top=[]
  ·have sz:(chN p0 i).1.size=0:=by unfold Rst.size;rw [c];rfl
   refine iteD (by rw [sz];decide) ?_;have hxw:=sw _ _ hxr;have hxw':Hw x=some (.ins CH dx []):=hxw;refine ⟨_,rfl,_,rfl,x,CH,dx,[],rfl,hxw',TH.cl,TH.nL,(by show 0 < 1000;decide),?_⟩;generalize hfs1:putF ("line":Str) (.ref xl) []=fs1;generalize hH2:upd Hw x (.ins CH dx fs1)=H2;have l1:fs1.length<=1:=by rw [<- hfs1];exact Jm ..
   have k2:KeepX x Hw H2:=by rw [<- hH2];exact KeepX.upd
   have hx2:H2 x=some (.ins CH dx fs1):=by rw [<- hH2];exact J3
   have nr:lr≠x:=ne_of hr_ hxw' (by intro z;cases z);have nq:lq≠x:=ne_of hq_ hxw' (by intro z;cases z);have nt:lt≠x:=ne_of ht_ hxw' (by intro z;cases z);have nb:lb≠x:=ne_of hb_ hxw' (by intro z;cases z);refine ⟨_,rfl,J1t (.inl (k2 _ _ hr_ nr)) fun pr H3 s3 hpr=>⟨_,rfl,x,CH,dx,fs1,rfl,s3 _ _ hx2,TH.cl,TH.nR,(by lia),?_⟩⟩;generalize hfs2:putF ("rests":Str) (.ref pr) fs1=fs2;generalize hH4:upd H3 x (.ins CH dx fs2)=H4;have l2:fs2.length<=2:=by rw [<- hfs2];have:=Jm ("rests":Str) (.ref pr) fs1;lia
   have k24:KeepX x H2 H4:=by rw [<- hH4];exact (KeepX.of s3).trans KeepX.upd
   have k4:KeepX x Hw H4:=k2.trans k24;have hx4:H4 x=some (.ins CH dx fs2):=by rw [<- hH4];exact J3
   have prx:pr≠x:=ne_of hpr (s3 _ _ hx2) (by intro z;cases z);have hpr4:H4 pr=some (.tup xr):=by rw [<- hH4,Jg prx];exact hpr
   refine ⟨_,rfl,J1t (.inl (k4 _ _ hq_ nq)) fun ps H5 s5 hps=>⟨_,rfl,x,CH,dx,fs2,rfl,s5 _ _ hx4,TH.cl,TH.nS,(by lia),?_⟩⟩;generalize hfs3:putF ("steps":Str) (.ref ps) fs2=fs3;generalize hH6:upd H5 x (.ins CH dx fs3)=H6;have l3:fs3.length<=3:=by rw [<- hfs3];have:=Jm ("steps":Str) (.ref ps) fs2;lia
   have k46:KeepX x H4 H6:=by rw [<- hH6];exact (KeepX.of s5).trans KeepX.upd
   have k6:KeepX x Hw H6:=k4.trans k46;have hx6:H6 x=some (.ins CH dx fs3):=by rw [<- hH6];exact J3
   have psx:ps≠x:=ne_of hps (s5 _ _ hx4) (by intro z;cases z);have hps6:H6 ps=some (.tup xs):=by rw [<- hH6,Jg psx];exact hps
   refine ⟨_,rfl,J1t (.inl (k6 _ _ ht_ nt)) fun pt H7 s7 hpt=>⟨_,rfl,x,CH,dx,fs3,rfl,s7 _ _ hx6,TH.cl,TH.nT,(by lia),?_⟩⟩;generalize hfs4:putF ("towers":Str) (.ref pt) fs3=fs4;generalize hH8:upd H7 x (.ins CH dx fs4)=H8;have l4:fs4.length<=4:=by rw [<- hfs4];have:=Jm ("towers":Str) (.ref pt) fs3;lia
   have k68:KeepX x H6 H8:=by rw [<- hH8];exact (KeepX.of s7).trans KeepX.upd
   have k8:KeepX x Hw H8:=k6.trans k68;have hx8:H8 x=some (.ins CH dx fs4):=by rw [<- hH8];exact J3
   have ptx:pt≠x:=ne_of hpt (s7 _ _ hx6) (by intro z;cases z);have hpt8:H8 pt=some (.tup xt):=by rw [<- hH8,Jg ptx];exact hpt
   have lkL:fs4.lookup ("line":Str)=some (.ref xl):=by rw [<- hfs4,lk_ne (by decide +kernel),<- hfs3,lk_ne (by decide +kernel),<- hfs2,lk_ne (by decide +kernel),<- hfs1,J18]
   have lkR:fs4.lookup ("rests":Str)=some (.ref pr):=by rw [<- hfs4,lk_ne (by decide +kernel),<- hfs3,lk_ne (by decide +kernel),<- hfs2,J18]
   have lkS:fs4.lookup ("steps":Str)=some (.ref ps):=by rw [<- hfs4,lk_ne (by decide +kernel),<- hfs3,J18]
   have lkT:fs4.lookup ("towers":Str)=some (.ref pt):=by rw [<- hfs4,J18]
   refine ⟨_,rfl,J1t (.inl (k8 _ _ hb_ nb)) fun pb H9 s9 hpb=>⟨_,rfl,x,CH,dx,fs4,rfl,s9 _ _ hx8,TH.cl,TH.nB,(by lia),?_⟩⟩;have k8z:KeepX x H8 (upd H9 x (.ins CH dx (putF ("bands":Str) (.ref pb) fs4))):=(KeepX.of s9).trans KeepX.upd;have kz:KeepX x Hw (upd H9 x (.ins CH dx (putF ("bands":Str) (.ref pb) fs4))):=k8.trans k8z;have pbx:pb≠x:=ne_of hpb (s9 _ _ hx8) (by intro z;cases z);have zb:(upd H9 x (.ins CH dx (putF ("bands":Str) (.ref pb) fs4))) pb=some (.tup xb):=by rw [Jg pbx];exact hpb
   have zx:(upd H9 x (.ins CH dx (putF ("bands":Str) (.ref pb) fs4))) x=some (.ins CH dx (putF ("bands":Str) (.ref pb) fs4)):=J3;generalize (upd H9 x (.ins CH dx (putF ("bands":Str) (.ref pb) fs4)))=Hz at *;have keepR:∀ q r,RestAt CR Hw q r->RestAt CR Hz q r:=fun q r a=>by
    obtain ⟨dq,fq,q1,q2,q3,q4,a0,al,a1,a2,a3,a4⟩:=a.ex;have nx:∀ {b:Addr} {zs:List V},Hw b=some (.tup zs)->Hz b=some (.tup zs):=fun e=>kz _ _ e (ne_of e hxw' (by intro z;cases z));refine ⟨dq,fq,q1,q2,q3,q4,kz _ _ a0 (fun e=>?_),al,nx a1,nx a2,nx a3,nx a4⟩;rw [e,hxw'] at a0;have:=(Option.some.inj a0);injection this with _ _ e3
    rw [<- e3] at al;exact nomatch al.1
   have keepS:∀ q s,StepAt cs Hw q s->StepAt cs Hz q s:=fun q s ⟨dq,a⟩=>⟨dq,kz _ _ a (fun e=>by
    rw [e,hxw'] at a;have:=(Option.some.inj a);injection this with _ _ e3
    have w:=stF_w s;rw [<- e3] at w;exact nomatch w)⟩
   have keepT:∀ (q:Addr) (zs:List V),Hw q=some (.tup zs)->Hz q=some (.tup zs):=fun q zs a=>kz _ _ a (ne_of a hxw' (by intro z;cases z));refine k i Hz lg c ⟨dx,_,pr,ps,pt,pb,xr,xs,xt,xb,zx,⟨by rw [lk_ne (by decide +kernel),lkL],by rw [lk_ne (by decide +kernel),lkR],by rw [lk_ne (by decide +kernel),lkS],by rw [lk_ne (by decide +kernel),lkT],J18⟩,
    ⟨k8z _ _ (k68 _ _ (k46 _ _ hpr4 prx) prx) prx,k8z _ _ (k68 _ _ hps6 psx) psx,k8z _ _ hpt8 ptx,zb⟩,rr.mono fun q j _ a=>keepR _ _ a,rs.mono fun q j _ a=>keepS _ _ a,rt.mono fun q j _ a=>keepT _ _ a,rb.mono fun q j _ a=>keepT _ _ a⟩ ?_
   exact (KeepX.of (sr.trans sw)).trans kz
  ·have szp:0 < (chN p0 i).1.size:=by
    have:=J42 cok.ok.row.pos c;show 0 < lenOf _ _;lia
   refine iteDT szp ?_;have down:=cok.ok.down c;have win:=(nextP cok.ok c).win cok.ok c;have hz:=cok.size30;have fit:=next_fit cok.ok c hz;have tlen:=cok.tow.len;have wl:=cok.ok.row.lt _ win;have big:=big_tow cok c;have lg':Long p0 (i + 1):=fun j hj=>by
    by_cases e:j=i
    ·subst e;exact c
    ·exact lg j (by lia)
   have few':=cok0.few lg';obtain ⟨tq,etq,htq⟩:=rt.at_ i (by lia);have last:=atI_last rt.len etq;have l16:=line16;have bl:=J4s p0 i;refine ⟨_,fun σ' H' h=>h,?_⟩;refine ⟨_,rfl,y,(chN p0 i).1,rfl,R,cok.ok,c,hz,fun xp Hn sn h9=>?_⟩;obtain ⟨dxp,hxp⟩:=h9;refine ⟨_,rfl,xp,kd (nextN (chN p0 i).1),dxp,stF (nextN (chN p0 i).1),rfl,hxp,J3l _ (by decide +kernel) (by decide +kernel) (by decide +kernel),_,rfl,xp,y,nextN (chN p0 i).1,(chN p0 i).1,rfl,rfl,⟨dxp,hxp⟩,R.same sn,fit,fun z Hb sbh Z=>?_⟩;have Z:RestAt CR Hb z (chN p0 (i + 1)).1:=Z;have snb:=sn.trans sbh;have X1:StepAt cs Hb xp (nextN (chN p0 i).1):=⟨dxp,sbh _ _ hxp⟩;have ht1:=snb _ _ ht_;have hb1:=snb _ _ hb_;have go:∀ (Hc:Hp) (zb:List V),Frz Hb Hc->Same Hr Hc->Hc lr=some (.lst xr)->Hc lq=some (.lst xs)->Hc lt=some (.lst xt)->Hc lb=some (.lst zb)->Refs (fun q j=>Hc q=some (.tup (bandV ((bndN p0 (i + 1)).getD j bz)))) zb (bndN p0 (i + 1)).length->
     ∀ (tq2:Addr) (Hd:Hp),Same Hc Hd->Hd tq2=some (.tup (iV (chN p0 (i + 1)).2))->
     (∃ m',m' < (chN p0 i).1.size.toNat/\∃ (i':Nat) (y':Addr) (xr' xs' xt' xb':List V) (v7 v8:Option V),[some (V.ref x),some (.ref xl),some (.ref z),some (.ref lr),some (.ref lq),some (.ref lt),some (.ref lb),some (.ref xp),some (.ref z)]=[some (.ref x),some (.ref xl),some (.ref y'),some (.ref lr),some (.ref lq),some (.ref lt),some (.ref lb),v7,v8]/\Long p0 i'/\RestAt CR (upd (upd (upd Hd lt (.lst (xt ++ [.ref tq2]))) lq (.lst (xs ++ [.ref xp]))) lr (.lst (xr ++ [.ref z]))) y' (chN p0 i').1/\Same Hr (upd (upd (upd Hd lt (.lst (xt ++ [.ref tq2]))) lq (.lst (xs ++ [.ref xp]))) lr (.lst (xr ++ [.ref z])))/\
      ((upd (upd (upd Hd lt (.lst (xt ++ [.ref tq2]))) lq (.lst (xs ++ [.ref xp]))) lr (.lst (xr ++ [.ref z]))) lr=some (.lst xr')/\(upd (upd (upd Hd lt (.lst (xt ++ [.ref tq2]))) lq (.lst (xs ++ [.ref xp]))) lr (.lst (xr ++ [.ref z]))) lq=some (.lst xs')/\(upd (upd (upd Hd lt (.lst (xt ++ [.ref tq2]))) lq (.lst (xs ++ [.ref xp]))) lr (.lst (xr ++ [.ref z]))) lt=some (.lst xt')/\(upd (upd (upd Hd lt (.lst (xt ++ [.ref tq2]))) lq (.lst (xs ++ [.ref xp]))) lr (.lst (xr ++ [.ref z]))) lb=some (.lst xb'))/\
      Refs (fun q i=>RestAt CR (upd (upd (upd Hd lt (.lst (xt ++ [.ref tq2]))) lq (.lst (xs ++ [.ref xp]))) lr (.lst (xr ++ [.ref z]))) q (chN p0 i).1) xr' (i' + 1)/\Refs (fun q i=>StepAt cs (upd (upd (upd Hd lt (.lst (xt ++ [.ref tq2]))) lq (.lst (xs ++ [.ref xp]))) lr (.lst (xr ++ [.ref z]))) q (nextN (chN p0 i).1)) xs' i'/\Refs (fun q i=>(upd (upd (upd Hd lt (.lst (xt ++ [.ref tq2]))) lq (.lst (xs ++ [.ref xp]))) lr (.lst (xr ++ [.ref z]))) q=some (.tup (iV (chN p0 i).2))) xt' (i' + 1)/\
      Refs (fun q j=>(upd (upd (upd Hd lt (.lst (xt ++ [.ref tq2]))) lq (.lst (xs ++ [.ref xp]))) lr (.lst (xr ++ [.ref z]))) q=some (.tup (bandV ((bndN p0 i').getD j bz)))) xb' (bndN p0 i').length/\m'=(chN p0 i').1.size.toNat):=by
    intro Hc zb fc src cr cq ct cb rbc tq2 Hd sd2 htq2;have dr:=sd2 _ _ cr;have dq:=sd2 _ _ cq;have dt:=sd2 _ _ ct;have db:=sd2 _ _ cb;have f1:Frz Hd (upd Hd lt (.lst (xt ++ [.ref tq2]))):=Frz.upd dt;have f2:Frz (upd Hd lt (.lst (xt ++ [.ref tq2]))) (upd (upd Hd lt (.lst (xt ++ [.ref tq2]))) lq (.lst (xs ++ [.ref xp]))):=Frz.upd (xs:=xs) (by rw [Jg n_qt];exact dq);have f3:Frz (upd (upd Hd lt (.lst (xt ++ [.ref tq2]))) lq (.lst (xs ++ [.ref xp]))) (upd (upd (upd Hd lt (.lst (xt ++ [.ref tq2]))) lq (.lst (xs ++ [.ref xp]))) lr (.lst (xr ++ [.ref z]))):=Frz.upd (xs:=xr) (by rw [Jg (Ne.symm n_qr),Jg n_rt];exact dr);have fde:=(f1.trans f2).trans f3;have sre:Same Hr (upd (upd (upd Hd lt (.lst (xt ++ [.ref tq2]))) lq (.lst (xs ++ [.ref xp]))) lr (.lst (xr ++ [.ref z]))):=fun b o e=>by
     rw [Jg (Jd e fr_r),Jg (Jd e fr_q),Jg (Jd e fr_t)];exact sd2 _ _ (src _ _ e)
    have er:(upd (upd (upd Hd lt (.lst (xt ++ [.ref tq2]))) lq (.lst (xs ++ [.ref xp]))) lr (.lst (xr ++ [.ref z]))) lr=some (.lst (xr ++ [.ref z])):=J3;have eq:(upd (upd (upd Hd lt (.lst (xt ++ [.ref tq2]))) lq (.lst (xs ++ [.ref xp]))) lr (.lst (xr ++ [.ref z]))) lq=some (.lst (xs ++ [.ref xp])):=by rw [Jg n_qr,J3]
    have et:(upd (upd (upd Hd lt (.lst (xt ++ [.ref tq2]))) lq (.lst (xs ++ [.ref xp]))) lr (.lst (xr ++ [.ref z]))) lt=some (.lst (xt ++ [.ref tq2])):=by rw [Jg (Ne.symm n_rt),Jg (Ne.symm n_qt),J3]
    have eb:(upd (upd (upd Hd lt (.lst (xt ++ [.ref tq2]))) lq (.lst (xs ++ [.ref xp]))) lr (.lst (xr ++ [.ref z]))) lb=some (.lst zb):=by rw [Jg (Ne.symm n_rb),Jg (Ne.symm n_qb),Jg (Ne.symm n_tb)];exact db
    generalize (upd (upd (upd Hd lt (.lst (xt ++ [.ref tq2]))) lq (.lst (xs ++ [.ref xp]))) lr (.lst (xr ++ [.ref z])))=He at *;have fwe:Frz Hw He:=((((Frz.of snb).trans fc).trans (Frz.of sd2)).trans fde);have fbe:Frz Hb He:=((fc).trans (Frz.of sd2)).trans fde;have Ze:=Z.frz fbe;refine ⟨(chN p0 (i + 1)).1.size.toNat,?_,i + 1,z,_,_,_,_,_,_,rfl,lg',Ze,sre,⟨er,eq,et,eb⟩,(rr.mono fun q j _ a=>a.frz fwe).snoc Ze,(rs.mono fun q j _ a=>a.frz fwe).snoc (X1.frz fbe),(rt.mono fun q j _ a=>fwe _ _ a (fun _ e=>nomatch e)).snoc (fde _ _ htq2 (fun _ e=>nomatch e)),rbc.mono fun q j _ a=>((Frz.of sd2).trans fde) _ _ a (fun _ e=>nomatch e),rfl⟩;have:=down.less;have e:(chN p0 (i + 1)).1.size=((nextN (chN p0 i).1).behind (chN p0 i).1).size:=rfl;rw [e];lia
   refine ⟨_,rfl,.inl ⟨rfl,_,SqL.of hb1⟩,_,rfl,_,rfl,_,rfl,_,rfl,_,rfl,lt,_,_,_,rfl,rfl,SqL.of ht1,last,tq,xp,y,z,nextN (chN p0 i).1,(chN p0 i).1,(chN p0 i).2,rfl,snb _ _ htq,X1,R.same snb,Z,wl,(by rw [cok.ok.len];exact wl),(by rw [tlen];exact wl),fun hh bp Hc0 sc0 hbp=>?_,fun hh bp bq Hc0 sc0 hbp hbq=>?_⟩
   ·have eB:bndN p0 (i + 1)=bndN p0 i:=by
     show bndN p0 i ++ bndB (chN p0 i)=_;unfold bndB;rw [if_neg (by rw [hh];decide),append_nil]
    have hb2:=sc0 _ _ hb1;refine ⟨lb,bp,xb,[],rfl,rfl,hb2,hbp,(by rw [rb.len];show _ + 0<=_;lia),?_⟩;have fc:Frz Hb (upd Hc0 lb (.lst (xb ++ []))):=(Frz.of sc0).trans (Frz.upd hb2);have src:Same Hr (upd Hc0 lb (.lst (xb ++ []))):=fun b o e=>by
     rw [Jg (Jd e fr_b)];exact sc0 _ _ (snb _ _ (sw _ _ e))
    have cr:(upd Hc0 lb (.lst (xb ++ []))) lr=some (.lst xr):=by rw [Jg n_rb];exact sc0 _ _ (snb _ _ hr_)
    have cq:(upd Hc0 lb (.lst (xb ++ []))) lq=some (.lst xs):=by rw [Jg n_qb];exact sc0 _ _ (snb _ _ hq_)
    have ct:(upd Hc0 lb (.lst (xb ++ []))) lt=some (.lst xt):=by rw [Jg n_tb];exact sc0 _ _ ht1
    have cb:(upd Hc0 lb (.lst (xb ++ []))) lb=some (.lst (xb ++ [])):=J3;generalize (upd Hc0 lb (.lst (xb ++ [])))=Hc at *;have rbc:Refs (fun q j=>Hc q=some (.tup (bandV ((bndN p0 (i + 1)).getD j bz)))) (xb ++ []) (bndN p0 (i + 1)).length:=by
     rw [eB,append_nil];exact rb.mono fun q j _ a=>((Frz.of snb).trans fc) _ _ a (fun _ e=>nomatch e)
    refine ⟨_,rfl,.inl ⟨rfl,_,SqL.of ct⟩,_,rfl,_,rfl,lt,_,_,_,rfl,rfl,SqL.of ct,last,_,rfl,_,rfl,_,rfl,tq,xp,y,z,nextN (chN p0 i).1,(chN p0 i).1,(chN p0 i).2,rfl,((Frz.of snb).trans fc) _ _ htq (fun _ e=>nomatch e),X1.frz fc,R.frz ((Frz.of snb).trans fc),Z.frz fc,win,cok.ok.perm.mem_iff.mpr win,(by rw [tlen];exact wl),(by rw [tlen];exact cok.ok.few),big,fun tq2 Hd sd2 htq2=>?_⟩;refine ⟨lt,_,_,rfl,rfl,sd2 _ _ ct,(by rw [rt.len];lia),?_⟩;refine ⟨_,rfl,.inl ⟨rfl,_,SqL.of (xs:=xs) (by rw [Jg n_qt];exact sd2 _ _ cq)⟩,_,rfl,lq,xs,_,rfl,rfl,(by rw [Jg n_qt];exact sd2 _ _ cq),(by rw [rs.len];lia),?_⟩;refine ⟨_,rfl,.inl ⟨rfl,_,SqL.of (xs:=xr) (by rw [Jg (Ne.symm n_qr),Jg n_rt];exact sd2 _ _ cr)⟩,_,rfl,lr,xr,_,rfl,rfl,(by rw [Jg (Ne.symm n_qr),Jg n_rt];exact sd2 _ _ cr),(by rw [rr.len];lia),?_⟩;exact ⟨_,rfl,go Hc _ fc src cr cq ct cb rbc tq2 Hd sd2 htq2⟩
   ·have eB:bndN p0 (i + 1)=bndN p0 i ++ [((chS (chN p0 i)).1.size,(chN p0 i).1.ls.getD (nextN (chN p0 i).1).winner 0,(chN p0 i).2.getD (nextN (chN p0 i).1).winner 0,(chN p0 i).1.ts.getD (nextN (chN p0 i).1).winner false)]:=by
     show bndN p0 i ++ bndB (chN p0 i)=_;unfold bndB;rw [if_pos hh]
    have hb2:=sc0 _ _ hb1;refine ⟨lb,bp,xb,[.ref bq],rfl,rfl,hb2,hbp,(by rw [rb.len];show _ + 1<=_;lia),?_⟩;have fc:Frz Hb (upd Hc0 lb (.lst (xb ++ [.ref bq]))):=(Frz.of sc0).trans (Frz.upd hb2);have fq:(upd Hc0 lb (.lst (xb ++ [.ref bq]))) bq=_:=(Frz.upd (ys:=xb ++ [.ref bq]) hb2) _ _ hbq (fun _ e=>nomatch e);have src:Same Hr (upd Hc0 lb (.lst (xb ++ [.ref bq]))):=fun b o e=>by
     rw [Jg (Jd e fr_b)];exact sc0 _ _ (snb _ _ (sw _ _ e))
    have cr:(upd Hc0 lb (.lst (xb ++ [.ref bq]))) lr=some (.lst xr):=by rw [Jg n_rb];exact sc0 _ _ (snb _ _ hr_)
    have cq:(upd Hc0 lb (.lst (xb ++ [.ref bq]))) lq=some (.lst xs):=by rw [Jg n_qb];exact sc0 _ _ (snb _ _ hq_)
    have ct:(upd Hc0 lb (.lst (xb ++ [.ref bq]))) lt=some (.lst xt):=by rw [Jg n_tb];exact sc0 _ _ ht1
    have cb:(upd Hc0 lb (.lst (xb ++ [.ref bq]))) lb=some (.lst (xb ++ [.ref bq])):=J3;generalize (upd Hc0 lb (.lst (xb ++ [.ref bq])))=Hc at *;have rbc:Refs (fun q j=>Hc q=some (.tup (bandV ((bndN p0 (i + 1)).getD j bz)))) (xb ++ [.ref bq]) (bndN p0 (i + 1)).length:=by
     have r1:Refs (fun q j=>Hc q=some (.tup (bandV ((bndN p0 (i + 1)).getD j bz)))) xb (bndN p0 i).length:=rb.mono fun q j hj a=>by
      have e:(bndN p0 (i + 1)).getD j bz=(bndN p0 i).getD j bz:=by
       rw [eB,getD_eq_getElem?_getD,List.getElem?_append_left hj];exact (getD_eq_getElem?_getD ..).symm
      rw [e];exact ((Frz.of snb).trans fc) _ _ a (fun _ e=>nomatch e)
     have e2:(bndN p0 (i + 1)).length=(bndN p0 i).length + 1:=by rw [eB,length_append];rfl
     rw [e2];refine r1.snoc ?_;have e:(bndN p0 (i + 1)).getD (bndN p0 i).length bz=((chS (chN p0 i)).1.size,(chN p0 i).1.ls.getD (nextN (chN p0 i).1).winner 0,(chN p0 i).2.getD (nextN (chN p0 i).1).winner 0,(chN p0 i).1.ts.getD (nextN (chN p0 i).1).winner false):=by
      rw [eB,getD_eq_getElem?_getD,List.getElem?_append_right (Nat.le_refl _),Nat.sub_self];rfl
     rw [e];exact fq
    refine ⟨_,rfl,.inl ⟨rfl,_,SqL.of ct⟩,_,rfl,_,rfl,lt,_,_,_,rfl,rfl,SqL.of ct,last,_,rfl,_,rfl,_,rfl,tq,xp,y,z,nextN (chN p0 i).1,(chN p0 i).1,(chN p0 i).2,rfl,((Frz.of snb).trans fc) _ _ htq (fun _ e=>nomatch e),X1.frz fc,R.frz ((Frz.of snb).trans fc),Z.frz fc,win,cok.ok.perm.mem_iff.mpr win,(by rw [tlen];exact wl),(by rw [tlen];exact cok.ok.few),big,fun tq2 Hd sd2 htq2=>?_⟩;refine ⟨lt,_,_,rfl,rfl,sd2 _ _ ct,(by rw [rt.len];lia),?_⟩;refine ⟨_,rfl,.inl ⟨rfl,_,SqL.of (xs:=xs) (by rw [Jg n_qt];exact sd2 _ _ cq)⟩,_,rfl,lq,xs,_,rfl,rfl,(by rw [Jg n_qt];exact sd2 _ _ cq),(by rw [rs.len];lia),?_⟩;refine ⟨_,rfl,.inl ⟨rfl,_,SqL.of (xs:=xr) (by rw [Jg (Ne.symm n_qr),Jg n_rt];exact sd2 _ _ cr)⟩,_,rfl,lr,xr,_,rfl,rfl,(by rw [Jg (Ne.symm n_qr),Jg n_rt];exact sd2 _ _ cr),(by rw [rr.len];lia),?_⟩;exact ⟨_,rfl,go Hc _ fc src cr cq ct cb rbc tq2 Hd sd2 htq2⟩
structure ChP (ls:List Int) (os:List Nat) (ts:List Bool) (m:Nat):Prop where
 good:Good ls os
 hts:ts.length=ls.length
 lg:Long (Jz ls os ts) m
 tp:(chN (Jz ls os ts) m).1.top=[]
abbrev bsC (ls:List Int) (os:List Nat) (ts:List Bool) (m:Nat):List Band:=bndN (Jz ls os ts) m
noncomputable abbrev gC (ls:List Int) (os:List Nat) (ts:List Bool):Int->Int:=go (J10 ls os ts)
abbrev rC (ls:List Int) (os:List Nat) (ts:List Bool) (k:Nat):Rst:=(chN (Jz ls os ts) k).1
abbrev tC' (ls:List Int) (os:List Nat) (ts:List Bool) (k:Nat):List Int:=(chN (Jz ls os ts) k).2
abbrev sC (ls:List Int) (os:List Nat) (ts:List Bool) (k:Nat):Stp:=nextN (chN (Jz ls os ts) k).1
section
variable {ls:List Int} {os:List Nat} {ts:List Bool} {m:Nat}
theorem ChP.ok0 (h:ChP ls os ts m):(J10 ls os ts).Ok:=J75 h.good.perm h.good.pos h.hts h.good.hi
theorem ChP.z0 (h:ChP ls os ts m):(J10 ls os ts).size<=10 ^ 30:=by rw [h.ok0.size_sum];exact h.good.sum
theorem ChP.cok (h:ChP ls os ts m):Cok (Jz ls os ts):=J5g h.ok0 h.z0
theorem ChP.one (h:ChP ls os ts m):∀ j∈(Jz ls os ts).1.top,(Jz ls os ts).2.getD j 0=1:=fun j hj=>by
 show (List.replicate ls.length (1:Int)).getD j 0=1;rw [getD_eq_getElem?_getD,getElem?_replicate,if_pos (mem_range.mp hj)];rfl
theorem ChP.sys (h:ChP ls os ts m):Sys (gC ls os ts) (J10 ls os ts).size (bsC ls os ts m):=h.cok.sys h.one (fS_ones (fun j hj=>mem_range.mp hj)) h.lg h.tp
theorem ChP.stp (h:ChP ls os ts m) {k:Nat} (hk:k < m):StepF (gC ls os ts) (rC ls os ts k) (tC' ls os ts k) (sC ls os ts k):=h.cok.stepF h.one h.lg hk
theorem ChP.few (h:ChP ls os ts m):m<=6367451:=h.cok.few h.lg
theorem ChP.lt (h:ChP ls os ts m) {k:Nat} (hk:k<=m) {y:Int} (h0:0<=y) (h1:y < (rC ls os ts k).size):k < m:=by
 apply Classical.byContradiction;intro c;obtain rfl:k=m:=by lia
 have e:(rC ls os ts k).size=0:=by
  show lenOf _ (chN (Jz ls os ts) k).1.top=0;rw [h.tp];rfl
 lia
theorem ChP.sizes (h:ChP ls os ts m) {i k:Nat} (hik:i<=k) (hk:k<=m):(rC ls os ts k).size<=(rC ls os ts i).size:=h.cok.sizes h.lg hik hk
end
def ChF (C CH CR:Addr) (cs:Kd->Addr) (H:Hp) (xc:Addr) (ls:List Int) (os:List Nat) (ts:List Bool) (m:Nat):Prop:=∃ xl,ChartAt CH CR cs H xc xl (Jz ls os ts) m/\LineAt C H xl ls os ts
theorem ChF.same {C CH CR:Addr} {cs:Kd->Addr} {H H':Hp} {xc:Addr} {ls:List Int} {os:List Nat} {ts:List Bool} {m:Nat} (h:ChF C CH CR cs H xc ls os ts m) (s:Same H H'):ChF C CH CR cs H' xc ls os ts m :=
 by obtain ⟨xl,a,l⟩:=h;exact ⟨xl,a.same s,l.same s⟩
theorem big30 {a b:Int} (ha:0<=a) (ha':a<=10 ^ 30) (hb:0<=b) (hb':b<=10 ^ 30):CBig a b:=by
 have e:(10:Nat) ^ 30 < 2 ^ 4000:=by decide
 exact ⟨Nat.lt_of_le_of_lt (show a.natAbs<=10 ^ 30 by lia) e,Nat.lt_of_le_of_lt (show b.natAbs<=10 ^ 30 by lia) e⟩
theorem div30 {i b:Int} (hb:0 < b) (hb':b<=10 ^ 30):CDivB i b:=by
 have e:(10:Nat) ^ 30 < 2 ^ 4000:=by decide
 exact ⟨hb,Nat.lt_of_le_of_lt (show b.natAbs<=10 ^ 30 by lia) e⟩
theorem at1 {xs:List V} {k:Nat} {v:V} (h:xs[k + 1]?=some v):atI xs ((k:Int) + 1)=some v:=by
 rw [show (k:Int) + 1=((k + 1:Nat):Int) by lia];exact J8 h
def spShare (C CH CR:Addr) (cs:Kd->Addr):Sp:=fun vs H Q _=>∃ (xc:Addr) (ls:List Int) (os:List Nat) (ts:List Bool) (m k:Nat),vs=[.ref xc,.int (k:Nat)]/\ChF C CH CR cs H xc ls os ts m/\ChP ls os ts m/\k < m/\Q (.int (((rC ls os ts k).size - (rC ls os ts (k + 1)).size) / (sC ls os ts k).times)) H
theorem scShare:FnScope ["chart","at"] ["chart","at"] (J7 sShare):=fS
theorem ok_share {f  C CH CR : Addr} {fd  : FuncData} {cs : Kd -> Addr} (F : Fun K "share_of" "share_of" sShare f fd) (TR : TxtRest K CR) (TS : TxtS K cs) (TH : TxtCh K CH)
 :
    FnOk P w K mg base CX0 1 f fd ["chart", "at"] (spShare C CH CR cs) := by
  refine F.ok scShare (fun vs H Q E h => ?_) (fun cdv A outer s H vs Q E hr h => ?_)
  · obtain ⟨xc, ls, os, ts, m, k, rfl, _⟩ := h
    rfl
  · obtain ⟨xc, ls, os, ts, m, k, rfl, F0, cp, hk, q⟩ := h
    refine ⟨_, (J6 (Jl (pe_op J2q (pe_op J2a (J9 (pe_ix Ji (J9 (pv 0) rfl) (pv 1) (fun _ _ => rfl)) rfl) (J9 (pe_ix Ji (J9 (pv 0) rfl) (pe_op J19 (pv 1) Jb) (fun _ _ => rfl)) rfl)) (J9 (pe_ix Ji (J9 (pv 0) rfl) (pv 1) (fun _ _ => rfl)) rfl)))), ?_⟩;obtain ⟨xl, A0, L0⟩ := F0;obtain ⟨dq, fs, pr, ps, pt, pb, xr, xs, xt, xb, h0, ⟨lL, lR, lS, lT, lB⟩, ⟨h1, h2, h3, h4⟩, r1, r2, r3, r4⟩ := A0.ex;obtain ⟨yi, eyi, Ri⟩ := r1.at_ k (by lia);obtain ⟨yj, eyj, Rj⟩ := r1.at_ (k + 1) (by lia);obtain ⟨sp, esp, ⟨dsp, hsp⟩⟩ := r2.at_ k hk;obtain ⟨tk, etk, htk⟩ := r3.at_ k (by lia);obtain ⟨di, fi, it, ib, il, iu, i0, ⟨i1, i2, i3, i4, i5⟩, o1, o2, o3, o4⟩ := Ri.ex;obtain ⟨dj, fj, _, _, _, _, j0, ⟨_, _, _, _, j5⟩, _⟩ := Rj.ex;have tm := (cp.stp hk).tms;exact ⟨_, rfl, xc, CH, dq, fs, _, rfl, h0, TH.cl, TH.nR, lR, _, rfl, pr, _, _, _, rfl, rfl, SqT.of (h1), J8 eyi, yi, CR, di, fi, _, rfl, i0, TR.cl, TR.nZ, i5, _, rfl, xc, CH, dq, fs, _, rfl, h0, TH.cl, TH.nR, lR, _, rfl, _, _, rfl, rfl, pr, _, _, _, rfl, rfl, SqT.of (h1), at1 eyj, yj, CR, dj, fj, _, rfl, j0, TR.cl, TR.nZ, j5, _, _, rfl, rfl, _, rfl, xc, CH, dq, fs, _, rfl, h0, TH.cl, TH.nS, lS, _, rfl, ps, _, _, _, rfl, rfl, SqT.of (h2), J8 esp, sp, cs (kd (sC ls os ts k)), dsp, stF (sC ls os ts k), _, rfl, hsp, TS.cl _, TS.nT _, stF_t _, _, _, rfl, rfl, div30 (by lia) (by lia), q⟩
def spCome (C CH CR:Addr) (cs:Kd->Addr):Sp:=fun vs H Q _=>∃ (xc:Addr) (ls:List Int) (os:List Nat) (ts:List Bool) (m k:Nat) (y:Int),vs=[.ref xc,.int (k:Nat),.int y]/\ChF C CH CR cs H xc ls os ts m/\ChP ls os ts m/\k < m/\(sC ls os ts k).isHome=false/\((rC ls os ts (k + 1)).size<=y/\y < (rC ls os ts k).size)/\
 ∀ p y0 d H',Same H H'->H' p=some (.tup [.int y0,.int d])->(0<=y0/\y0 < (rC ls os ts (k + 1)).size)->0<=d->Reach (gC ls os ts) (rC ls os ts (k + 1)).size d.toNat y0 y->Q (.ref p) H'
theorem own_kd (s:Stp):ownB (kd s)=s.own:=by cases s <;> rfl
theorem scComeF:FnScope ["chart","at","y","rest","step","towers","share","times","come"] ["chart","at","y"] (J7 sComeF):=fS
theorem ok_come {f fSH fRC fLA C CH CR CO:Addr} {fd fdSH fdRC fdLA:FuncData} {cs:Kd->Addr} (F:Fun K "come_from" "come_from" sComeF f fd) (TR:TxtRest K CR) (TS:TxtS K cs) (TH:TxtCh K CH)
  (GSH:FnOk P w K mg base CX0 1 fSH fdSH ["chart","at"] (spShare C CH CR cs)) (bSH:Binds K fdSH ["chart","at"] []) (mSH:mg "share_of"=some (.ref fSH)) (kSH:keepIn K (.ref fSH)=true)
  (HO:∀ k,HasM P w K mg base CX0 1 "own_first" ["self"] (spOwn k) (cs k))
  (GRC:FnOk P w K mg base (Exc1 P w) 3 fRC fdRC ["rest","y"] (spRComes CO CR)) (bRC:Binds K fdRC ["rest","y"] []) (mRC:mg "rest_comes"=some (.ref fRC)) (kRC:keepIn K (.ref fRC)=true)
  (GLA:FnOk P w K mg base (Exc1 P w) 2 fLA fdLA ["rest","y"] (spLetter CO CR)) (bLA:Binds K fdLA ["rest","y"] []) (mLA:mg "letter_at"=some (.ref fLA)) (kLA:keepIn K (.ref fLA)=true) :
  FnOk P w K mg base CX0 4 f fd ["chart","at","y"] (spCome C CH CR cs):=by
 refine F.ok scComeF (fun vs H Q E h=>?_) (fun cdv A outer s H vs Q E hr h=>?_)
 ·obtain ⟨xc,ls,os,ts,m,k,y,rfl,_⟩:=h;rfl
 ·obtain ⟨xc,ls,os,ts,m,k,y,rfl,F0,cp,hk,hh,hy,q⟩:=h;have hr1:Room 1 _:=rm hr;have hr2:Room 2 _:=rm hr;have hr3:Room 3 _:=rm hr;refine ⟨_,(J1 (Jh (i:=3) scComeF.nd rfl (Or.inl rfl) (pe_ix Ji (J9 (pv 0) rfl) (pv 1) (fun _ _=>rfl)))
   (J1 (Jh (i:=4) scComeF.nd rfl (Or.inl rfl) (pe_ix Ji (J9 (pv 0) rfl) (pv 1) (fun _ _=>rfl)))
   (J1 (Jh (i:=5) scComeF.nd rfl (Or.inl rfl) (pe_ix Ji (J9 (pv 0) rfl) (pv 1) (fun _ _=>rfl)))
   (J1 (Jh (i:=6) scComeF.nd rfl (Or.inl rfl) (Jc GSH hr1 rfl mSH kSH bSH .nil pass0 (J0 (pv 0) (J0 (pv 1) J4))))
   (J1 (ps_if (J2o (J2x (sp:=spOwn) (cls:=cs) (pv 4) HO hr1 pass0)) (J1 (Jh (i:=7) scComeF.nd rfl (Or.inl rfl) (pe_op J2q (pe_op J2a (pe_op J2a (J9 (pv 3) rfl) Jb) (pv 2)) (pv 6)))
    (J1 (Jh (i:=8) scComeF.nd rfl (Or.inl rfl) (Jc GRC hr3 rfl mRC kRC bRC .nil passF (J0 (pv 3) (J0 (pe_op J19 (pv 2) (pe_op J2l (pv 7) (pv 6))) J4))))
    (J6 (Jl (J4y (J0 (pv 8) (J0 (pe_op J19 (pe_ix Ji (pv 5) (Jc GLA hr2 rfl mLA kLA bLA .nil passF (J0 (pv 3) (J0 (pv 8) J4))) (fun _ _=>rfl)) (pe_op J2l (pv 7) (pe_ix Ji (pv 5) (J9 (pv 4) rfl) (fun _ _=>rfl)))) J4))))))) Jx)
   (J1 (Jh (i:=7) scComeF.nd rfl (Or.inl rfl) (pe_op J2q (pe_op J2a (pv 2) (J9 (pe_ix Ji (J9 (pv 0) rfl) (pe_op J19 (pv 1) Jb) (fun _ _=>rfl)) rfl)) (pv 6)))
   (J6 (Jl (J4y (J0 (pe_op J2a (Jc GRC hr3 rfl mRC kRC bRC .nil passF (J0 (pv 3) (J0 (pv 2) J4))) (pe_op J2l (pv 7) (pv 6))) (J0 (pe_op J2l (pe_op J19 (pv 7) Jb) (pe_ix Ji (pv 5) (J9 (pv 4) rfl) (fun _ _=>rfl))) J4))))))))))),?_⟩
  have F0':=F0;obtain ⟨xl,A0,L0⟩:=F0;obtain ⟨dq,fs,pr,ps,pt,pb,xr,xs,xt,xb,h0,⟨lL,lR,lS,lT,lB⟩,⟨h1,h2,h3,h4⟩,r1,r2,r3,r4⟩:=A0.ex;obtain ⟨yi,eyi,Ri⟩:=r1.at_ k (by lia);obtain ⟨yj,eyj,Rj⟩:=r1.at_ (k + 1) (by lia);obtain ⟨sp,esp,⟨dsp,hsp⟩⟩:=r2.at_ k hk;obtain ⟨tk,etk,htk⟩:=r3.at_ k (by lia);obtain ⟨di,fi,it,ib,il,iu,i0,⟨i1,i2,i3,i4,i5⟩,o1,o2,o3,o4⟩:=Ri.ex;obtain ⟨dj,fj,_,_,_,_,j0,⟨_,_,_,_,j5⟩,_⟩:=Rj.ex;have F:=cp.stp hk;obtain ⟨w1,w2,w3⟩:=F.win;obtain ⟨t1,t2⟩:=F.tms;obtain ⟨s1,s2,s3⟩:=F.spn hh;have wl:=F.ok.row.lt _ w1;have tl:=F.len;have zz:=F.sz;have e1:(rC ls os ts (k + 1)).size=((sC ls os ts k).behind (rC ls os ts k)).size:=rfl;refine ⟨_,rfl,xc,CH,dq,fs,_,rfl,h0,TH.cl,TH.nR,lR,_,rfl,pr,_,_,_,rfl,rfl,SqT.of (h1),J8 eyi,?_⟩;refine ⟨_,rfl,xc,CH,dq,fs,_,rfl,h0,TH.cl,TH.nS,lS,_,rfl,ps,_,_,_,rfl,rfl,SqT.of (h2),J8 esp,?_⟩;refine ⟨_,rfl,xc,CH,dq,fs,_,rfl,h0,TH.cl,TH.nT,lT,_,rfl,pt,_,_,_,rfl,rfl,SqT.of (h3),J8 etk,?_⟩;refine ⟨_,rfl,_,rfl,xc,ls,os,ts,m,k,rfl,F0',cp,hk,?_⟩;rw [e1,s3];refine ⟨_,rfl,sp,kd (sC ls os ts k),dsp,stF (sC ls os ts k),rfl,hsp,J3l _ (by decide +kernel) (by decide +kernel) (by decide +kernel),sp,rfl,_,rfl,?_⟩;rw [own_kd]
  cases hown:(sC ls os ts k).own with
  | true =>
   refine iteT ?_;obtain ⟨q0,q1,q2,q3⟩:=come_own F.ok F.ne F.np F.okl F.down F.ret F.twr hh hown hy.1 hy.2 (t':=((rC ls os ts k).size - 1 - y) / lenOf (rC ls os ts k).ls ((sC ls os ts k).losers (rC ls os ts k))) rfl;have bg1:CBig (((rC ls os ts k).size - 1 - y) / lenOf (rC ls os ts k).ls ((sC ls os ts k).losers (rC ls os ts k))) (lenOf (rC ls os ts k).ls ((sC ls os ts k).losers (rC ls os ts k))):=big30 q0 (by lia) (by lia) s2;have bg2:CBig (((rC ls os ts k).size - 1 - y) / lenOf (rC ls os ts k).ls ((sC ls os ts k).losers (rC ls os ts k))) ((tC' ls os ts k).getD (sC ls os ts k).winner 0):=big30 q0 (by lia) (by lia) w3;refine ⟨_,rfl,yi,CR,di,fi,_,rfl,i0,TR.cl,TR.nZ,i5,_,_,rfl,rfl,_,rfl,_,_,rfl,rfl,_,rfl,_,_,rfl,rfl,div30 (by lia) s2,?_⟩;refine ⟨_,rfl,_,rfl,_,rfl,_,rfl,_,_,rfl,rfl,bg1,_,_,rfl,rfl,yi,rC ls os ts k,_,rfl,Ri,F.ok,fun z H1 sm g=>?_,fun n=>n q2⟩;obtain ⟨j,o,A,zin,rch⟩:=q3 z g;have zr:=A.inside F.ok;have lj:=F.ok.row.lt _ A.1;refine ⟨_,rfl,_,rfl,_,rfl,_,rfl,yi,rC ls os ts k,z,rfl,Ri.same sm,F.ok.row,fun i hi=>?_,fun n=>n zr⟩;obtain ⟨ej,_⟩:=A.same F.ok (LetAt.of_at F.ok hi);rw [<- ej];refine ⟨tk,_,_,_,rfl,rfl,SqT.of (sm _ _ htk),J8 (J15 (by rw [tl];exact lj)),_,rfl,_,rfl,_,rfl,sp,cs (kd (sC ls os ts k)),dsp,stF (sC ls os ts k),_,rfl,sm _ _ hsp,TS.cl _,TS.nW _,stF_w _,tk,_,_,_,rfl,rfl,SqT.of (sm _ _ htk),J8 (J15 (by rw [tl];exact wl)),_,_,rfl,rfl,bg2,_,_,rfl,rfl,(by show 2<=sizeLine;decide),fun p hp=>?_⟩;have pj:=F.twr.pos j A.1;have m0:0<=((rC ls os ts k).size - 1 - y) / lenOf (rC ls os ts k).ls ((sC ls os ts k).losers (rC ls os ts k)) * (tC' ls os ts k).getD (sC ls os ts k).winner 0:=Int.mul_nonneg q0 (by lia);exact q p _ _ _ (sm.trans (Ja hp)) J3 zin (Int.add_nonneg (show 0<=(tC' ls os ts k).getD j 0 by lia) m0) rch
  | false =>
   refine iteF ?_;obtain ⟨q0,q1,q3⟩:=come_last F.ok F.ne F.np F.okl F.down F.ret F.twr hh hown hy.1 hy.2 (t':=(y - ((sC ls os ts k).behind (rC ls os ts k)).size) / lenOf (rC ls os ts k).ls ((sC ls os ts k).losers (rC ls os ts k))) rfl;have bg1:CBig ((y - ((sC ls os ts k).behind (rC ls os ts k)).size) / lenOf (rC ls os ts k).ls ((sC ls os ts k).losers (rC ls os ts k))) (lenOf (rC ls os ts k).ls ((sC ls os ts k).losers (rC ls os ts k))):=big30 q0 (by lia) (by lia) s2;have bg2:CBig ((y - ((sC ls os ts k).behind (rC ls os ts k)).size) / lenOf (rC ls os ts k).ls ((sC ls os ts k).losers (rC ls os ts k)) + 1) ((tC' ls os ts k).getD (sC ls os ts k).winner 0):=big30 (by lia) (by lia) (by lia) w3;refine ⟨_,rfl,_,rfl,xc,CH,dq,fs,_,rfl,h0,TH.cl,TH.nR,lR,_,rfl,_,_,rfl,rfl,pr,_,_,_,rfl,rfl,SqT.of (h1),at1 eyj,yj,CR,dj,fj,_,rfl,j0,TR.cl,TR.nZ,j5,_,_,rfl,rfl,_,rfl,_,_,rfl,rfl,div30 (by lia) s2,?_⟩;have yr:0<=y/\y < (rC ls os ts k).size:=by
    have zn:0<=((sC ls os ts k).behind (rC ls os ts k)).size:=Jy fun j hj=>by have:=F.okl.row.pos j hj;lia
    rw [e1] at hy;exact ⟨by lia,hy.2⟩
   refine ⟨_,rfl,_,rfl,yi,rC ls os ts k,y,rfl,Ri,F.ok,fun z H1 sm g=>?_,fun n=>n yr⟩;obtain ⟨zin,rch⟩:=q3 z g;refine ⟨_,rfl,_,rfl,_,_,rfl,rfl,bg1,_,_,rfl,rfl,_,rfl,_,_,rfl,rfl,_,rfl,_,rfl,sp,cs (kd (sC ls os ts k)),dsp,stF (sC ls os ts k),_,rfl,sm _ _ hsp,TS.cl _,TS.nW _,stF_w _,tk,_,_,_,rfl,rfl,SqT.of (sm _ _ htk),J8 (J15 (by rw [tl];exact wl)),_,_,rfl,rfl,bg2,(by show 2<=sizeLine;decide),fun p hp=>?_⟩;exact q p _ _ _ (sm.trans (Ja hp)) J3 zin (Int.mul_nonneg (show 0<=(y - ((sC ls os ts k).behind (rC ls os ts k)).size) / lenOf (rC ls os ts k).ls ((sC ls os ts k).losers (rC ls os ts k)) + 1 by lia) (show 0<=(tC' ls os ts k).getD (sC ls os ts k).winner 0 by lia)) rch
def spAddr (C CH CR CO:Addr) (cs:Kd->Addr):Sp:=fun vs H Q E=>∃ (xc:Addr) (ls:List Int) (os:List Nat) (ts:List Bool) (m:Nat) (x:Int),vs=[.ref xc,.int x]/\ChF C CH CR cs H xc ls os ts m/\ChP ls os ts m/\
 (∀ p (b:Nat) o lv H',Same H H'->H' p=some (.tup [.int (b:Nat),.int o,.int lv])->Adr (bsC ls os ts m) b o lv->plOf (gC ls os ts) (bsC ls os ts m) b o lv=x->Q (.ref p) H')/\(¬ (0<=x/\x < (J10 ls os ts).size)->E (.ref CO) none H)
theorem scAddr:FnScope ["chart","x","at","y","level","come","start"] ["chart","x"] (J7 sAddr):=fS
theorem ok_addr {f fCF C CH CR CO:Addr} {fd fdCF:FuncData} {cs:Kd->Addr} (F:Fun K "address" "address" sAddr f fd) (TC:TxtC K mg C) (TR:TxtRest K CR) (TS:TxtS K cs) (TH:TxtCh K CH) (TO:TxtX K mg "Outside" CO)
  (GCF:FnOk P w K mg base CX0 4 fCF fdCF ["chart","at","y"] (spCome C CH CR cs)) (bCF:Binds K fdCF ["chart","at","y"] []) (mCF:mg "come_from"=some (.ref fCF)) (kCF:keepIn K (.ref fCF)=true)
  (HW:∀ k,HasM P w K mg base CX0 1 "word" ["self"] (J3m k) (cs k)) :
  FnOk P w K mg base (Exc1 P w) 5 f fd ["chart","x"] (spAddr C CH CR CO cs):=by
 refine F.okX scAddr (fun vs H Q E h=>?_) (fun cdv A outer s H vs Q E hr h=>?_)
 ·obtain ⟨xc,ls,os,ts,m,x,rfl,_⟩:=h;rfl
 ·obtain ⟨xc,ls,os,ts,m,x,rfl,F0,cp,q,kx⟩:=h;have hr1:Room 1 _:=rm hr;have hr4:Room 4 _:=rm hr;refine ⟨_,(J1 (ps_if (PW.pt (pw_or (Jr op_lt (pv 1) Jb (J13 _)) (J6n (Jr op_ge (pv 1) (J9 (J9 (pv 0) rfl) rfl) (J13 _))))) (J6 (J3o rfl TO.mg TO.ex)) Jx)
   (J1 (Jh (i:=2) scAddr.nd rfl (Or.inl rfl) Jb)
   (J1 (Jh (i:=3) scAddr.nd rfl (Or.inl rfl) (pv 1))
   (J1 (Jh (i:=4) scAddr.nd rfl (Or.inl rfl) Jb)
   (J1 (ps_nox (J7j PassesOwn.never (PW.pt (pw_or (Jr op_lt (pv 3) (J9 (pe_ix Ji (J9 (pv 0) rfl) (pe_op J19 (pv 2) Jb) (fun _ _=>rfl)) rfl) (J13 _)) (J6n (Jr op_ne (J2x (sp:=J3m) (cls:=cs) (pe_ix Ji (J9 (pv 0) rfl) (pv 2) (fun _ _=>rfl)) HW hr1 pass0) J4z (J13 _)))))
    (J1 (ps_if (Jr op_ge (pv 3) (J9 (pe_ix Ji (J9 (pv 0) rfl) (pe_op J19 (pv 2) Jb) (fun _ _=>rfl)) rfl) (J13 _)) (J1 (Jh (i:=5) scAddr.nd rfl (Or.inl rfl) (Jc GCF hr4 rfl mCF kCF bCF .nil pass0 (J0 (pv 0) (J0 (pv 2) (J0 (pv 3) J4)))))
     (J1 (Jh (i:=3) scAddr.nd rfl (Or.inl rfl) (pe_ix Ji (pv 5) Jb (fun _ _=>rfl)))
     (J6 (Jh (i:=4) scAddr.nd rfl (Or.inl rfl) (pe_op J19 (pv 4) (pe_ix Ji (pv 5) Jb (fun _ _=>rfl))))))) Jx)
    (J6 (Jh (i:=2) scAddr.nd rfl (Or.inl rfl) (pe_op J19 (pv 2) Jb))))))
   (J1 (Jh (i:=6) scAddr.nd rfl (Or.inl rfl) (J9 (pe_ix Ji (J9 (pv 0) rfl) (pe_op J19 (pv 2) Jb) (fun _ _=>rfl)) rfl))
   (J6 (Jl (J4y (J0 (pe_bm PySem.F.plainAttrs_list PySem.F.slot_list_index PySem.F.type_list_index J5x (pe_lc (caps:=[]) (js:=[]) rfl (J6o (J9 (pv 0) rfl)) rfl (fun _ _ _ _=>J36) (fun C fp s H=>J50 (J4p K) (pv 0) Jb) (by decide +kernel) (by decide +kernel) (by decide +kernel) (by intro p hp;cases hp)) (J0 (pv 6) J4)) (J0 (pe_op J2a (pv 3) (pv 6)) (J0 (pv 4) J4)))))))))))),?_⟩
  have F0':=F0;obtain ⟨xl,A0,L0⟩:=F0;obtain ⟨dq,fs,pr,ps,pt,pb,xr,xs,xt,xb,h0,⟨lL,lR,lS,lT,lB⟩,⟨h1,h2,h3,h4⟩,r1,r2,r3,r4⟩:=A0.ex;obtain ⟨dl,fl,pl,po,pu,pst,pla,l0,⟨_,_,_,_,_,l6⟩,_⟩:=L0.ex;have sz0:(J10 ls os ts).size=ls.sum:=whole_size ls os ts;have S:=cp.sys;have fw:=cp.few;by_cases c0:x < 0
  ·exact ⟨_,rfl,_,_,rfl,rfl,_,rfl,iteDT c0 (kx (by lia))⟩
  refine ⟨_,rfl,_,_,rfl,rfl,_,rfl,iteD c0 ?_⟩;refine ⟨_,rfl,_,rfl,xc,CH,dq,fs,_,rfl,h0,TH.cl,TH.nL,lL,xl,C,dl,fl,_,rfl,l0,TC.cl,TC.nZ,l6,_,_,rfl,rfl,_,rfl,?_⟩;by_cases c1:x>=ls.sum
  ·exact iteDT c1 (kx (by lia))
  refine iteD c1 ?_;refine ⟨_,rfl,?_⟩;have m0:0 < m:=cp.lt (k:=0) (Nat.zero_le _) (y:=x) (by lia) (by show x < (J10 ls os ts).size;lia);refine ⟨fun mu σ Hw=>∃ (k:Nat) (y lv:Int) (v5:Option V),k < m/\(0<=y/\y < (rC ls os ts k).size)/\0<=lv/\Reach (gC ls os ts) (rC ls os ts k).size lv.toNat y x/\mu=m - k/\σ=[some (.ref xc),some (.int x),some (.int (k:Nat)),some (.int y),some (.int lv),v5,none]/\Same H Hw,
   ⟨_,0,x,0,none,m0,⟨by lia,by show x < (J10 ls os ts).size;lia⟩,Int.le_refl _,Reach.zero,rfl,rfl,Same.refl _⟩,?_⟩
  rintro mu σ Hw ⟨k,y,lv,v5,hk,hy,hlv,rch,rfl,rfl,sw⟩;obtain ⟨yi,eyi,Ri⟩:=r1.at_ k (by lia);obtain ⟨yj,eyj,Rj⟩:=r1.at_ (k + 1) (by lia);obtain ⟨sp,esp,⟨dsp,hsp⟩⟩:=r2.at_ k hk;obtain ⟨tk,etk,htk⟩:=r3.at_ k (by lia);obtain ⟨di,fi,it,ib,il,iu,i0,⟨i1,i2,i3,i4,i5⟩,o1,o2,o3,o4⟩:=Ri.ex;obtain ⟨dj,fj,_,_,_,_,j0,⟨_,_,_,_,j5⟩,_⟩:=Rj.ex;have les:=cp.sizes (i:=k) (k:=k + 1) (by lia) (by lia);refine ⟨_,rfl,_,rfl,xc,CH,dq,fs,_,rfl,sw _ _ h0,TH.cl,TH.nR,lR,_,rfl,_,_,rfl,rfl,pr,_,_,_,rfl,rfl,SqT.of (sw _ _ h1),at1 eyj,yj,CR,dj,fj,_,rfl,sw _ _ j0,TR.cl,TR.nZ,j5,_,_,rfl,rfl,_,rfl,?_⟩;by_cases c2:y < (rC ls os ts (k + 1)).size
  ·refine iteDT c2 ?_;refine ⟨_,fun σ' H' h=>h,?_⟩;refine ⟨_,rfl,_,rfl,xc,CH,dq,fs,_,rfl,sw _ _ h0,TH.cl,TH.nR,lR,_,rfl,_,_,rfl,rfl,pr,_,_,_,rfl,rfl,SqT.of (sw _ _ h1),at1 eyj,yj,CR,dj,fj,_,rfl,sw _ _ j0,TR.cl,TR.nZ,j5,_,_,rfl,rfl,_,rfl,iteD (Int.not_le.mpr c2) ?_⟩;have hk1:=cp.lt (k:=k + 1) (by lia) hy.1 c2;refine ⟨_,rfl,_,_,rfl,rfl,m - (k + 1),by lia,k + 1,y,lv,v5,hk1,⟨hy.1,c2⟩,hlv,rch.low les,rfl,?_,sw⟩;rw [show (((k + 1:Nat):Int))=(k:Int) + 1 by lia];rfl
  refine iteD c2 ?_;refine ⟨_,rfl,xc,CH,dq,fs,_,rfl,sw _ _ h0,TH.cl,TH.nS,lS,_,rfl,ps,_,_,_,rfl,rfl,SqT.of (sw _ _ h2),J8 esp,sp,kd (sC ls os ts k),dsp,stF (sC ls os ts k),rfl,sw _ _ hsp,J3l _ (by decide +kernel) (by decide +kernel) (by decide +kernel),sp,rfl,rfl,_,rfl,?_⟩;have hw:=home_word (sC ls os ts k);by_cases hh:(sC ls os ts k).isHome=true
  ·refine iteBF (by rw [hw,hh];decide) ?_;obtain ⟨b,hb,eb⟩:=home_band (p:=Jz ls os ts) hk hh;obtain ⟨Bn,b1,b2⟩:=cp.cok.band cp.one (k:=k) (fun i hi=>cp.lg i (by lia)) hh;have hbl:(bsC ls os ts m).getD b bz0=bandC (chN (Jz ls os ts) k):=eb;obtain ⟨im,ix⟩:=S.starts hb;rw [hbl,b1] at im ix;have lb:=J4s (Jz ls os ts) m;have c2':=Int.not_lt.mp c2;obtain ⟨z1,ez1⟩:∃ z1,z1=(rC ls os ts (k + 1)).size:=⟨_,rfl⟩;have b1:(bandC (chN (Jz ls os ts) k)).1=z1:=b1.trans ez1.symm;have b2:(bandC (chN (Jz ls os ts) k)).1 + (bandC (chN (Jz ls os ts) k)).2.1=(rC ls os ts k).size:=b2;have c2':z1<=y:=by rw [ez1];exact c2'
   have hyk:=hy.2;rw [b1] at b2;have Fb:=Bn.2.2 (y - z1) (by lia) (by lia);have fl:=J3u (b:=bandC (chN (Jz ls os ts) k)) (o:=y - z1) (by lia) (by lia);rw [b1,show z1 + (y - z1)=y by lia,b2] at Fb;have lt:=rch.lt Fb (by lia);refine ⟨_,rfl,xc,CH,dq,fs,_,rfl,sw _ _ h0,TH.cl,TH.nR,lR,_,rfl,_,_,rfl,rfl,pr,_,_,_,rfl,rfl,SqT.of (sw _ _ h1),at1 eyj,yj,CR,dj,fj,_,rfl,sw _ _ j0,TR.cl,TR.nZ,j5,?_⟩;have hxl:xb.length=(bsC ls os ts m).length:=r4.len;refine ⟨_,rfl,xc,CH,dq,fs,_,rfl,sw _ _ h0,TH.cl,TH.nB,lB,pb,rfl,⟨_,SqT.of (sw _ _ h4)⟩,fun d hd=>lc_tupW xb (fun i=>V.int ((bsC ls os ts m).getD i bz0).1) (SqT.of (sw _ _ h4)) (by have:=line16;have lb':(bsC ls os ts m).length<=m:=lb;lia) hd (fun i Hc Qe v hv sc k'=>?_) (fun H5 s5 hd5=>?_)⟩
   ·have hi:i < (bsC ls os ts m).length:=by rw [<- hxl];exact (List.getElem?_eq_some_iff.mp hv).1
    obtain ⟨bp,ebp,hbp⟩:=r4.at_ i hi;obtain rfl:v=.ref bp:=Option.some.inj (hv.symm.trans ebp);exact ⟨_,rfl,bp,_,_,_,rfl,rfl,SqT.of (sc _ _ (sw _ _ hbp)),J8 (j:=0) rfl,k' _ (Same.refl _)⟩
   rw [hxl] at hd5;have hd5':H5 d=some (.lst (iV (J4c (bsC ls os ts m)))):=by
    rw [hd5];show _=some (HO.lst (List.map V.int (List.map _ _)));rw [map_map];rfl
   refine ⟨.inl ⟨rfl,_,SqL.of hd5'⟩,_,rfl,d,J4c (bsC ls os ts m),(rC ls os ts (k + 1)).size,rfl,rfl,SqL.of hd5',im,?_⟩;rw [ix];refine ⟨_,rfl,_,rfl,_,_,rfl,rfl,_,rfl,(by show 3<=sizeLine;decide),fun p hp=>?_⟩;refine q p b (y - z1) lv _ (sw.trans (s5.trans (Ja hp))) (by rw [J3,ez1]) ⟨hb,by lia,by rw [hbl];lia,hlv,by rw [hbl];lia⟩ ?_;unfold plOf;rw [hbl,b1,show z1 + (y - z1)=y by lia];exact rch.last
  ·refine iteBT (by rw [hw];simpa using hh) ?_;have hh:(sC ls os ts k).isHome=false:=by simpa using hh
   refine ⟨_,fun σ' H' h=>h,?_⟩;refine ⟨_,rfl,_,rfl,xc,CH,dq,fs,_,rfl,sw _ _ h0,TH.cl,TH.nR,lR,_,rfl,_,_,rfl,rfl,pr,_,_,_,rfl,rfl,SqT.of (sw _ _ h1),at1 eyj,yj,CR,dj,fj,_,rfl,sw _ _ j0,TR.cl,TR.nZ,j5,_,_,rfl,rfl,_,rfl,iteDT (Int.not_lt.mp c2) ?_⟩;refine ⟨_,rfl,_,rfl,_,rfl,xc,ls,os,ts,m,k,y,rfl,F0'.same sw,cp,hk,hh,⟨Int.not_lt.mp c2,hy.2⟩,fun p y0 d H5 s5 hp y0in d0 rc=>?_⟩;refine ⟨_,rfl,p,_,_,_,rfl,rfl,SqT.of hp,J8 (j:=0) rfl,?_⟩;refine ⟨_,rfl,_,rfl,p,_,_,_,rfl,rfl,SqT.of hp,J8 (j:=1) rfl,_,_,rfl,rfl,?_⟩;have hk1:=cp.lt (k:=k + 1) (by lia) y0in.1 y0in.2;refine ⟨_,rfl,_,_,rfl,rfl,m - (k + 1),by lia,k + 1,y0,lv + d,some (.ref p),hk1,y0in,by lia,?_,rfl,?_,sw.trans s5⟩
   ·have:=rc.trans (rch.low les);rw [show d.toNat + lv.toNat=(lv + d).toNat by lia] at this;exact this
   ·rw [show (((k + 1:Nat):Int))=(k:Int) + 1 by lia];rfl
theorem hm_word (s:Stp):decide (V.str (wordS (kd s))=V.str (wordS .ho))=s.isHome:=by cases s <;> rfl
def spHomes (C CH CR:Addr) (cs:Kd->Addr):Sp:=fun vs H Q _=>∃ (xc:Addr) (ls:List Int) (os:List Nat) (ts:List Bool) (m:Nat),vs=[.ref xc]/\ChF C CH CR cs H xc ls os ts m/\ChP ls os ts m/\∀ d H',Same H H'->H' d=some (.lst (nV (J64 (Jz ls os ts) m)))->Q (.ref d) H'
theorem scHomes:FnScope ["chart"] ["chart"] (J7 sHomes):=fS
theorem ok_homes {f  C CH CR:Addr} {fd :FuncData} {cs:Kd->Addr} (F:Fun K "homes_of" "homes_of" sHomes f fd) (TS:TxtS K cs) (TH:TxtCh K CH) (henum:mg "enumerate"=none)
  (HW:∀ k,HasM P w K mg base CX0 1 "word" ["self"] (J3m k) (cs k)) :
  FnOk P w K mg base CX0 2 f fd ["chart"] (spHomes C CH CR cs):=by
 refine F.ok scHomes (fun vs H Q E h=>?_) (fun cdv A outer s H vs Q E hr h=>?_)
 ·obtain ⟨xc,ls,os,ts,m,rfl,_⟩:=h;rfl
 ·obtain ⟨xc,ls,os,ts,m,rfl,F0,cp,k⟩:=h;have hr1:Room 1 _:=rm hr;refine ⟨_,(J6 (Jl (pe_lc2 (caps:=[]) (js:=[]) rfl (pi_enum rfl henum (J0 (J9 (pv 0) rfl) J4)) rfl (fun _ _ _ _=>(pts_one (Jr op_eq (J2x (sp:=J3m) (cls:=cs) (pv 1) HW hr1 pass0) J4z (J13 _)))) (fun C fp s H=>(pv 0)) (by decide +kernel) (by decide +kernel) (by decide +kernel) (by intro p hp;cases hp)))),?_⟩;obtain ⟨xl,A0,L0⟩:=F0;obtain ⟨dq,fs,pr,ps,pt,pb,xr,xs,xt,xb,h0,⟨lL,lR,lS,lT,lB⟩,⟨h1,h2,h3,h4⟩,r1,r2,r3,r4⟩:=A0.ex;have fw:=cp.few;refine ⟨_,rfl,xc,CH,dq,fs,_,rfl,h0,TH.cl,TH.nS,lS,ps,rfl,⟨_,SqT.of h2⟩,fun d hd=>lc_enum xs (fun i=>(sC ls os ts i).isHome) (fun i=>V.int (i:Nat)) (SqT.of h2) (by rw [r2.len];have:=line16;lia) hd (fun i v hv H1 Qt s1 kt=>?_) (fun i v hv hg H1 Qe s1 ke=>?_) (fun H' s' hd'=>?_)⟩
  ·have hi:i < m:=by rw [<- r2.len];exact (List.getElem?_eq_some_iff.mp hv).1
   obtain ⟨x,ex,St⟩:=r2.at_ i hi;obtain rfl:v=.ref x:=Option.some.inj (hv.symm.trans ex);obtain ⟨dx,hx⟩:=St.same s1;refine ⟨_,rfl,x,kd (sC ls os ts i),dx,stF (sC ls os ts i),rfl,hx,J3l _ (by decide +kernel) (by decide +kernel) (by decide +kernel),x,rfl,rfl,_,rfl,?_⟩;have:=hm_word (sC ls os ts i);show Qt (decide (V.str (wordS (kd (sC ls os ts i)))=V.str (wordS .ho))) H1;rw [this];exact kt H1 (Same.refl _)
  ·exact ⟨_,rfl,ke H1 (Same.refl _)⟩
  ·rw [r2.len] at hd';refine k d H' s' (hd'.trans ?_);show _=some (HO.lst (List.map V.int (natI _)));unfold natI;rw [map_map];rfl
noncomputable def pcC (ls:List Int) (os:List Nat) (ts:List Bool) (y:Int):Nat:=by
 classical exact if h:∃ j o,LetAt (J10 ls os ts) y j o then h.choose else 0
theorem pcC_eq {ls:List Int} {os:List Nat} {ts:List Bool} {m:Nat} (cp:ChP ls os ts m) {y o:Int} {j:Nat} (A:LetAt (J10 ls os ts) y j o):pcC ls os ts y=j:=by
 unfold pcC;have h:∃ j o,LetAt (J10 ls os ts) y j o:=⟨j,o,A⟩;rw [dif_pos h];obtain ⟨o',B⟩:=h.choose_spec;exact (B.same cp.ok0 A).1
theorem ChP.uni {ls:List Int} {os:List Nat} {ts:List Bool} {m:Nat} (cp:ChP ls os ts m) {k:Nat} (hk:k<=m):Uni (gC ls os ts) (pcC ls os ts) (rC ls os ts k) (tC' ls os ts k):=cp.cok.uni cp.one (fun y j o A=>pcC_eq cp A) cp.lg hk
structure TxtPa (K:Frag) (CA:Addr):Prop where
 cl:Cls K CA
 nO:NoAttr K CA "own"
 nT:NoAttr K CA "times"
 nL:NoAttr K CA "letter"
 nD:NoAttr K CA "due"
structure PartAt (CA:Addr) (H:Hp) (x:Addr) (own tms:Int) (j:Nat) (due:Int):Prop where
 ex:∃ (dx:Addr) (fs:List (Str × V)),H x=some (.ins CA dx fs)/\fs.lookup ("own":Str)=some (.int own)/\fs.lookup ("times":Str)=some (.int tms)/\fs.lookup ("letter":Str)=some (.int (j:Nat))/\fs.lookup ("due":Str)=some (.int due)
theorem PartAt.same {CA:Addr} {H H':Hp} {x:Addr} {own tms:Int} {j:Nat} {due:Int} (h:PartAt CA H x own tms j due) (s:Same H H'):PartAt CA H' x own tms j due :=
 by obtain ⟨dx,fs,h0,r⟩:=h.ex;exact ⟨dx,fs,s _ _ h0,r⟩
def spPart (CA:Addr):Sp:=fun vs H Q _=>∃ (x dx:Addr) (own tms:Int) (j:Nat) (due:Int),vs=[.ref x,.int own,.int tms,.int (j:Nat),.int due]/\H x=some (.ins CA dx [])/\∀ H',PartAt CA H' x own tms j due->KeepX x H H'->Q .non H'
theorem scPaInit:FnScope ["self","own","times","letter","due"] ["self","own","times","letter","due"] (J7 sPaInit):=fS
theorem ok_part {f  CA : Addr} {fd  : FuncData}  (F : Fun K "__init__" "Part.__init__" sPaInit f fd) (TP : TxtPa K CA)
 :
    FnOk P w K mg base CX0 1 f fd ["self", "own", "times", "letter", "due"] (spPart CA) := by
  refine F.ok scPaInit (fun vs H Q E h => ?_) (fun cdv A outer s H vs Q E hr h => ?_)
  · obtain ⟨x, dx, own, tms, j, due, rfl, _⟩ := h
    rfl
  · obtain ⟨x, dx, own, tms, j, due, rfl, hx, k⟩ := h
    refine ⟨_, (J1 (J1w (pv 0) (pv 1) rfl)
      (J1 (J1w (pv 0) (pv 2) rfl)
      (J1 (J1w (pv 0) (pv 3) rfl)
      (J6 (J1w (pv 0) (pv 4) rfl))))), ?_⟩
    refine ⟨_, rfl, _, rfl, x, CA, dx, [], rfl, hx, TP.cl, TP.nO, (by show 0 < 1000; decide), ?_⟩;generalize hfs1 : putF ("own" : Str) (.int own) [] = fs1;generalize hH1 : upd H x (.ins CA dx fs1) = H1;have l1 : fs1.length <= 1 := by rw [<- hfs1]; exact Jm ..
    have k1 : KeepX x H H1 := by rw [<- hH1]; exact KeepX.upd
    have hx1 : H1 x = some (.ins CA dx fs1) := by rw [<- hH1]; exact J3
    refine ⟨_, rfl, _, rfl, x, CA, dx, fs1, rfl, hx1, TP.cl, TP.nT, (by lia), ?_⟩;generalize hfs2 : putF ("times" : Str) (.int tms) fs1 = fs2;generalize hH2 : upd H1 x (.ins CA dx fs2) = H2;have l2 : fs2.length <= 2 := by rw [<- hfs2]; have := Jm ("times" : Str) (.int tms) fs1; lia
    have k2 : KeepX x H1 H2 := by rw [<- hH2]; exact KeepX.upd
    have hx2 : H2 x = some (.ins CA dx fs2) := by rw [<- hH2]; exact J3
    refine ⟨_, rfl, _, rfl, x, CA, dx, fs2, rfl, hx2, TP.cl, TP.nL, (by lia), ?_⟩;generalize hfs3 : putF ("letter" : Str) (.int (j : Nat)) fs2 = fs3;generalize hH3 : upd H2 x (.ins CA dx fs3) = H3;have l3 : fs3.length <= 3 := by rw [<- hfs3]; have := Jm ("letter" : Str) (.int (j : Nat)) fs2; lia
    have k3 : KeepX x H2 H3 := by rw [<- hH3]; exact KeepX.upd
    have hx3 : H3 x = some (.ins CA dx fs3) := by rw [<- hH3]; exact J3
    refine ⟨_, rfl, _, rfl, x, CA, dx, fs3, rfl, hx3, TP.cl, TP.nD, (by lia), ?_⟩;refine k _ ⟨dx, _, J3, ?_, ?_, ?_, J18⟩ (k1.trans (k2.trans (k3.trans KeepX.upd)))
    · rw [lk_ne (by decide +kernel), <- hfs3, lk_ne (by decide +kernel), <- hfs2, lk_ne (by decide +kernel), <- hfs1, J18]
    · rw [lk_ne (by decide +kernel), <- hfs3, lk_ne (by decide +kernel), <- hfs2, J18]
    · rw [lk_ne (by decide +kernel), <- hfs3, J18]
theorem J40 {CA:Addr} {H:Hp} {own tms:Int} {j:Nat} {due:Int} {Q:VK} (k:∀ p H',Same H H'->PartAt CA H' p own tms j due->Q (.ref p) H') :
  ∀ x dx,H x=none->H dx=none->dx≠x->spPart CA (.ref x :: ([.int own,.int tms,.int (j:Nat),.int due] ++ [])) (upd (upd H dx (.own x)) x (.ins CA dx [])) (fun v H2=>v=.non/\Q (.ref x) H2) E0:=fun x dx hx hdx hne=>by
 have sx:=(Ja (o:=.own x) hdx).trans (Ja (l:=x) (o:=.ins CA dx []) (by rw [Jg (Ne.symm hne)];exact hx));exact ⟨x,dx,own,tms,j,due,rfl,J3,fun H' S kp=>⟨rfl,k x H' (fun b u e=>kp _ _ (sx _ _ e) (Jd e hx)) S⟩⟩
theorem tow_los {ls:List Int} {os:List Nat} {ts:List Bool} {m k:Nat} (cp:ChP ls os ts m) (hk:k < m) {j:Nat} (hj:j∈(rC ls os ts (k + 1)).top):(tC' ls os ts (k + 1)).getD j 0=(tC' ls os ts k).getD j 0 + (if j∈(sC ls os ts k).losers (rC ls os ts k) then (tC' ls os ts k).getD (sC ls os ts k).winner 0 * (sC ls os ts k).times else 0):=by
 have F:=cp.stp hk;exact J49 F.ok F.ne F.len hj
theorem home_is {s:Stp} (h:s.isHome=true):s=.home s.winner:=by cases s <;> first | rfl | cases h
def spPart1 (CA:Addr) (cs:Kd->Addr):Sp:=fun vs H Q _=>∃ (sp dsp tk:Addr) (ls:List Int) (os:List Nat) (ts:List Bool) (m k j:Nat) (y o due:Int),vs=[.ref sp,.ref tk,.int (j:Nat),.int due]/\H sp=some (.ins (cs (kd (sC ls os ts k))) dsp (stF (sC ls os ts k)))/\H tk=some (.tup (iV (tC' ls os ts k)))/\ChP ls os ts m/\k < m/\LetAt (rC ls os ts (k + 1)) y j o/\(0<=due/\due < (tC' ls os ts (k + 1)).getD j 0)/\j∈(sC ls os ts k).losers (rC ls os ts k)/\(sC ls os ts k).own=true/\
 ∀ q own tms (j':Nat) due' y' H',Same H H'->PartAt CA H' q own tms j' due'->PartP (gC ls os ts) (pcC ls os ts) (rC ls os ts k) (tC' ls os ts k) (sC ls os ts k) y j due own tms j' due' y'->Q (.ref q) H'
def spPart2 (CA:Addr) (cs:Kd->Addr):Sp:=fun vs H Q _=>∃ (sp dsp tk:Addr) (ls:List Int) (os:List Nat) (ts:List Bool) (m k j:Nat) (y o due:Int),vs=[.ref sp,.ref tk,.int (j:Nat),.int due]/\H sp=some (.ins (cs (kd (sC ls os ts k))) dsp (stF (sC ls os ts k)))/\H tk=some (.tup (iV (tC' ls os ts k)))/\ChP ls os ts m/\k < m/\LetAt (rC ls os ts (k + 1)) y j o/\(0<=due/\due < (tC' ls os ts (k + 1)).getD j 0)/\j∈(sC ls os ts k).losers (rC ls os ts k)/\(sC ls os ts k).own=false/\
 ∀ q own tms (j':Nat) due' y' H',Same H H'->PartAt CA H' q own tms j' due'->PartP (gC ls os ts) (pcC ls os ts) (rC ls os ts k) (tC' ls os ts k) (sC ls os ts k) y j due own tms j' due' y'->Q (.ref q) H'
def spPartD (C CH CR CA:Addr) (cs:Kd->Addr):Sp:=fun vs H Q _=>∃ (xc:Addr) (ls:List Int) (os:List Nat) (ts:List Bool) (m k j:Nat) (y o due:Int),vs=[.ref xc,.int (k:Nat),.int (j:Nat),.int due]/\ChF C CH CR cs H xc ls os ts m/\ChP ls os ts m/\k < m/\LetAt (rC ls os ts (k + 1)) y j o/\(0<=due/\due < (tC' ls os ts (k + 1)).getD j 0)/\
 ∀ q own tms (j':Nat) due' y' H',Same H H'->PartAt CA H' q own tms j' due'->PartP (gC ls os ts) (pcC ls os ts) (rC ls os ts k) (tC' ls os ts k) (sC ls os ts k) y j due own tms j' due' y'->Q (.ref q) H'
theorem scPart1:FnScope ["step","towers","letter","due","left"] ["step","towers","letter","due"] (J7 sPart1):=fS
theorem ok_part1 {f fPA CA:Addr} {fd fdPA:FuncData} {cs:Kd->Addr} (F:Fun K "part_own_first" "part_own_first" sPart1 f fd) (TS:TxtS K cs)
  (MPA:Mk K CA fPA) (GPA:FnOk P w K mg base CX0 1 fPA fdPA ["self","own","times","letter","due"] (spPart CA)) (bPA:Binds K fdPA ["self","own","times","letter","due"] []) (mgPA:mg "Part"=some (.ref CA)) :
  FnOk P w K mg base CX0 3 f fd ["step","towers","letter","due"] (spPart1 CA cs):=by
 refine F.ok scPart1 (fun vs H Q E h=>?_) (fun cdv A outer s H vs Q E hr h=>?_)
 ·obtain ⟨sp,dsp,tk,ls,os,ts,m,k,j,y,o,due,rfl,_⟩:=h;rfl
 ·obtain ⟨sp,dsp,tk,ls,os,ts,m,k,j,y,o,due,rfl,hsp,htk,cp,hk,A,hd,hj,own,q⟩:=h;have hr2:Room 2 _:=rm hr;refine ⟨_,(J1 (ps_if (Jr op_lt (pv 3) (pe_ix Ji (pv 1) (pv 2) (fun _ _=>rfl)) (J13 _)) (J6 (Jl (J1h MPA GPA hr2 rfl mgPA bPA .nil pass0 (J0 Jb (J0 Jb (J0 (pv 2) (J0 (pv 3) J4))))))) Jx)
   (J1 (Jh (i:=4) scPart1.nd rfl (Or.inl rfl) (pe_op J2a (pv 3) (pe_ix Ji (pv 1) (pv 2) (fun _ _=>rfl))))
   (J6 (Jl (J1h MPA GPA hr2 rfl mgPA bPA .nil pass0 (J0 Jb (J0 (pe_op J2q (pv 4) (pe_ix Ji (pv 1) (J9 (pv 0) rfl) (fun _ _=>rfl))) (J0 (J9 (pv 0) rfl) (J0 (pe_op J3r (pv 4) (pe_ix Ji (pv 1) (J9 (pv 0) rfl) (fun _ _=>rfl))) J4))))))))),?_⟩
  have F:=cp.stp hk;have U:=cp.uni (k:=k) (by lia);have hd2:=hd.2;rw [tow_los cp hk A.1,if_pos hj] at hd2;obtain ⟨w1,w2,w3⟩:=F.win;obtain ⟨t1,t2⟩:=F.tms;have wl:=F.ok.row.lt _ w1;have tl:=F.len;have jt:=F.down.sub j A.1;have jl:=F.ok.row.lt _ jt;have pj:=F.twr.pos j jt;refine ⟨_,rfl,_,rfl,_,rfl,tk,_,_,_,rfl,rfl,SqT.of htk,J8 (J15 (by rw [tl];exact jl)),_,_,rfl,rfl,_,rfl,?_⟩;by_cases c0:due < (tC' ls os ts k).getD j 0
  ·refine iteDT c0 ⟨_,rfl,_,rfl,J40 fun p H1 s1 Pa=>?_⟩;exact q p 0 0 j due y H1 s1 Pa (part_same F (J38 F own A hj).1 ⟨hd.1,c0⟩)
  refine iteD c0 ?_;refine ⟨_,rfl,_,rfl,_,rfl,tk,_,_,_,rfl,rfl,SqT.of htk,J8 (J15 (by rw [tl];exact jl)),_,_,rfl,rfl,?_⟩;refine ⟨_,rfl,_,rfl,_,rfl,sp,cs (kd (sC ls os ts k)),dsp,stF (sC ls os ts k),_,rfl,hsp,TS.cl _,TS.nW _,stF_w _,tk,_,_,_,rfl,rfl,SqT.of htk,J8 (J15 (by rw [tl];exact wl)),_,_,rfl,rfl,div30 (by lia) w3,_,rfl,sp,cs (kd (sC ls os ts k)),dsp,stF (sC ls os ts k),_,rfl,hsp,TS.cl _,TS.nW _,stF_w _,_,rfl,_,rfl,_,rfl,sp,cs (kd (sC ls os ts k)),dsp,stF (sC ls os ts k),_,rfl,hsp,TS.cl _,TS.nW _,stF_w _,tk,_,_,_,rfl,rfl,SqT.of htk,J8 (J15 (by rw [tl];exact wl)),_,_,rfl,rfl,(show 0 < (tC' ls os ts k).getD (sC ls os ts k).winner 0 by lia),J40 fun p H1 s1 Pa=>?_⟩;exact q p _ _ _ _ _ H1 s1 Pa (part_one F U own A hj ⟨by lia,hd2⟩)
theorem scPart2:FnScope ["step","towers","letter","due","times","coming"] ["step","towers","letter","due"] (J7 sPart2):=fS
theorem ok_part2 {f fPA CA:Addr} {fd fdPA:FuncData} {cs:Kd->Addr} (F:Fun K "part_own_last" "part_own_last" sPart2 f fd) (hmin:mg "min"=none) (TS:TxtS K cs)
  (MPA:Mk K CA fPA) (GPA:FnOk P w K mg base CX0 1 fPA fdPA ["self","own","times","letter","due"] (spPart CA)) (bPA:Binds K fdPA ["self","own","times","letter","due"] []) (mgPA:mg "Part"=some (.ref CA)) :
  FnOk P w K mg base CX0 3 f fd ["step","towers","letter","due"] (spPart2 CA cs):=by
 refine F.ok scPart2 (fun vs H Q E h=>?_) (fun cdv A outer s H vs Q E hr h=>?_)
 ·obtain ⟨sp,dsp,tk,ls,os,ts,m,k,j,y,o,due,rfl,_⟩:=h;rfl
 ·obtain ⟨sp,dsp,tk,ls,os,ts,m,k,j,y,o,due,rfl,hsp,htk,cp,hk,A,hd,hj,own,q⟩:=h;have hr2:Room 2 _:=rm hr;refine ⟨_,(J1 (Jh (i:=4) scPart2.nd rfl (Or.inl rfl) (Jn (call_min2 rfl) (by rfl) hmin boot_min (J0 (pe_op J2q (pv 3) (pe_ix Ji (pv 1) (J9 (pv 0) rfl) (fun _ _=>rfl))) (J0 (J9 (pv 0) rfl) J4))))
   (J1 (ps_cut (Jh (i:=5) scPart2.nd rfl (Or.inl rfl) (J4i (Jr op_eq (pv 4) (J9 (pv 0) rfl) (J13 _)) (pv 2) (J9 (pv 0) rfl))))
   (J6 (Jl (J1h MPA GPA hr2 rfl mgPA bPA .nil pass0 (J0 Jb (J0 (pv 4) (J0 (pv 5) (J0 (pe_op J2a (pv 3) (pe_op J2l (pv 4) (pe_ix Ji (pv 1) (J9 (pv 0) rfl) (fun _ _=>rfl)))) J4))))))))),?_⟩
  have F:=cp.stp hk;have U:=cp.uni (k:=k) (by lia);have hd2:=hd.2;rw [tow_los cp hk A.1,if_pos hj] at hd2;obtain ⟨w1,w2,w3⟩:=F.win;obtain ⟨t1,t2⟩:=F.tms;have wl:=F.ok.row.lt _ w1;have tl:=F.len;have jt:=F.down.sub j A.1;have jl:=F.ok.row.lt _ jt;have pj:=F.twr.pos j jt;refine ⟨_,rfl,_,rfl,_,rfl,sp,cs (kd (sC ls os ts k)),dsp,stF (sC ls os ts k),_,rfl,hsp,TS.cl _,TS.nW _,stF_w _,tk,_,_,_,rfl,rfl,SqT.of htk,J8 (J15 (by rw [tl];exact wl)),_,_,rfl,rfl,div30 (by lia) w3,_,rfl,sp,cs (kd (sC ls os ts k)),dsp,stF (sC ls os ts k),_,rfl,hsp,TS.cl _,TS.nT _,stF_t _,_,_,rfl,?_⟩;generalize hW:(tC' ls os ts k).getD (sC ls os ts k).winner 0=W at *;have e1:=Int.ediv_mul_le due (show W≠0 by lia);have e2:=Int.lt_ediv_add_one_mul_self due (show 0 < W by lia);have e0:0<=due / W:=Int.ediv_nonneg hd.1 (by lia);obtain ⟨t',ht⟩:∃ t',t'=(if (sC ls os ts k).times < due / W then (sC ls os ts k).times else due / W):=⟨_,rfl⟩;have ht':t'<=(sC ls os ts k).times/\0<=t'/\t'<=due / W/\(t' < (sC ls os ts k).times->t'=due / W):=by
   rw [ht];split <;> refine ⟨by lia,by lia,by lia,fun h=>by lia⟩
  have tm:t' * W<=due:=by
   have:=Int.mul_le_mul_of_nonneg_right ht'.2.2.1 (show 0<=W by lia);lia
  refine ⟨fun σ' H'=>σ'=[some (.ref sp),some (.ref tk),some (.int (j:Nat)),some (.int due),some (.int t'),some (.int (if t'=(sC ls os ts k).times then j else (sC ls os ts k).winner:Nat))]/\H=H',?_,?_⟩
  ·refine ⟨_,rfl,_,rfl,sp,cs (kd (sC ls os ts k)),dsp,stF (sC ls os ts k),_,rfl,hsp,TS.cl _,TS.nT _,stF_t _,rfl,_,rfl,?_⟩;by_cases ct:t'=(sC ls os ts k).times
   ·refine iteDT (congrArg V.int (ht.symm.trans ct)) ⟨_,rfl,?_,rfl⟩;rw [if_pos ct,ht];rfl
   ·refine iteD (fun e=>ct (by rw [ht];exact V.int.inj e)) ⟨_,rfl,sp,cs (kd (sC ls os ts k)),dsp,stF (sC ls os ts k),_,rfl,hsp,TS.cl _,TS.nW _,stF_w _,?_,rfl⟩;rw [if_neg ct,ht];rfl
  rintro σ _ ⟨rfl,rfl⟩;refine ⟨_,rfl,_,rfl,_,rfl,_,rfl,_,rfl,_,rfl,sp,cs (kd (sC ls os ts k)),dsp,stF (sC ls os ts k),_,rfl,hsp,TS.cl _,TS.nW _,stF_w _,tk,_,_,_,rfl,rfl,SqT.of htk,J8 (J15 (by rw [tl];exact wl)),_,_,rfl,rfl,?_,_,_,rfl,rfl,J40 fun p H1 s1 Pa=>?_⟩
  ·rw [hW];exact big30 (by lia) (by lia) (by lia) w3
  ·rw [hW] at Pa;have pt:=part_two F U own A hj ⟨hd.1,by rw [hW];exact hd2⟩ (t:=t') (by lia) ht'.1 (by rw [hW];exact tm) (fun h=>by rw [ht'.2.2.2 h,hW];exact e2);rw [hW] at pt;exact q p _ _ _ _ _ H1 s1 Pa pt
theorem scPartD:FnScope ["chart","at","letter","due","step"] ["chart","at","letter","due"] (J7 sPartD):=fS
theorem ok_partD {f fPA fP1 fP2 C CH CR CA:Addr} {fd fdPA fdP1 fdP2:FuncData} {cs:Kd->Addr} (F:Fun K "part_done" "part_done" sPartD f fd) (TR:TxtRest K CR) (TS:TxtS K cs) (TH:TxtCh K CH)
  (HL:∀ k,HasM P w K mg base CX0 2 "losers" ["self","rest"] (J1l cs CR k) (cs k))
  (HO:∀ k,HasM P w K mg base CX0 1 "own_first" ["self"] (spOwn k) (cs k))
  (MPA:Mk K CA fPA) (GPA:FnOk P w K mg base CX0 1 fPA fdPA ["self","own","times","letter","due"] (spPart CA)) (bPA:Binds K fdPA ["self","own","times","letter","due"] []) (mgPA:mg "Part"=some (.ref CA))
  (GP1:FnOk P w K mg base CX0 3 fP1 fdP1 ["step","towers","letter","due"] (spPart1 CA cs)) (bP1:Binds K fdP1 ["step","towers","letter","due"] []) (mP1:mg "part_own_first"=some (.ref fP1)) (kP1:keepIn K (.ref fP1)=true)
  (GP2:FnOk P w K mg base CX0 3 fP2 fdP2 ["step","towers","letter","due"] (spPart2 CA cs)) (bP2:Binds K fdP2 ["step","towers","letter","due"] []) (mP2:mg "part_own_last"=some (.ref fP2)) (kP2:keepIn K (.ref fP2)=true) :
  FnOk P w K mg base CX0 4 f fd ["chart","at","letter","due"] (spPartD C CH CR CA cs):=by
 refine F.ok scPartD (fun vs H Q E h=>?_) (fun cdv A outer s H vs Q E hr h=>?_)
 ·obtain ⟨xc,ls,os,ts,m,k,j,y,o,due,rfl,_⟩:=h;rfl
 ·obtain ⟨xc,ls,os,ts,m,k,j,y,o,due,rfl,F0,cp,hk,A,hd,q⟩:=h;have hr1:Room 1 _:=rm hr;have hr2:Room 2 _:=rm hr;have hr3:Room 3 _:=rm hr;refine ⟨_,(J1 (Jh (i:=4) scPartD.nd rfl (Or.inl rfl) (pe_ix Ji (J9 (pv 0) rfl) (pv 1) (fun _ _=>rfl)))
   (J1 (ps_if (Jr J4j (pv 2) (J3q (sp:=J1l cs CR) (cls:=cs) (pv 4) HL hr2 pass0 (J0 (pe_ix Ji (J9 (pv 0) rfl) (pv 1) (fun _ _=>rfl)) J4)) rfl) (J6 (Jl (J1h MPA GPA hr2 rfl mgPA bPA .nil pass0 (J0 Jb (J0 Jb (J0 (pv 2) (J0 (pv 3) J4))))))) Jx)
   (J1 (ps_if (J2o (J2x (sp:=spOwn) (cls:=cs) (pv 4) HO hr1 pass0)) (J6 (Jl (Jc GP1 hr3 rfl mP1 kP1 bP1 .nil pass0 (J0 (pv 4) (J0 (pe_ix Ji (J9 (pv 0) rfl) (pv 1) (fun _ _=>rfl)) (J0 (pv 2) (J0 (pv 3) J4))))))) Jx)
   (J6 (Jl (Jc GP2 hr3 rfl mP2 kP2 bP2 .nil pass0 (J0 (pv 4) (J0 (pe_ix Ji (J9 (pv 0) rfl) (pv 1) (fun _ _=>rfl)) (J0 (pv 2) (J0 (pv 3) J4)))))))))),?_⟩
  have F0':=F0;obtain ⟨xl,A0,L0⟩:=F0;obtain ⟨dq,fs,pr,ps,pt,pb,xr,xs,xt,xb,h0,⟨lL,lR,lS,lT,lB⟩,⟨h1,h2,h3,h4⟩,r1,r2,r3,r4⟩:=A0.ex;obtain ⟨yi,eyi,Ri⟩:=r1.at_ k (by lia);obtain ⟨yj,eyj,Rj⟩:=r1.at_ (k + 1) (by lia);obtain ⟨sp,esp,⟨dsp,hsp⟩⟩:=r2.at_ k hk;obtain ⟨tk,etk,htk⟩:=r3.at_ k (by lia);obtain ⟨di,fi,it,ib,il,iu,i0,⟨i1,i2,i3,i4,i5⟩,o1,o2,o3,o4⟩:=Ri.ex;obtain ⟨dj,fj,_,_,_,_,j0,⟨_,_,_,_,j5⟩,_⟩:=Rj.ex;have F:=cp.stp hk;have w1:=F.win.1;refine ⟨_,rfl,xc,CH,dq,fs,_,rfl,h0,TH.cl,TH.nS,lS,_,rfl,ps,_,_,_,rfl,rfl,SqT.of (h2),J8 esp,?_⟩;refine ⟨_,rfl,_,rfl,sp,kd (sC ls os ts k),dsp,stF (sC ls os ts k),rfl,hsp,J3l _ (by decide +kernel) (by decide +kernel) (by decide +kernel),_,rfl,xc,CH,dq,fs,_,rfl,h0,TH.cl,TH.nR,lR,_,rfl,pr,_,_,_,rfl,rfl,SqT.of (h1),J8 eyi,sp,yi,(sC ls os ts k),rC ls os ts k,rfl,rfl,⟨dsp,hsp⟩,Ri,w1,F.ok.perm.mem_iff.mpr w1,fun lp H1 s1 hlp=>?_⟩;refine ⟨lp,_,rfl,.inr (SqT.of hlp),rfl,flat_nV _,_,rfl,?_⟩;by_cases c:j∈(sC ls os ts k).losers (rC ls os ts k)
  ·refine iteBF (show ¬ (!inV (V.int (j:Nat)) (nV ((sC ls os ts k).losers (rC ls os ts k))))=true by rw [inV_nV,decide_eq_true c];decide) ?_;refine ⟨_,rfl,sp,kd (sC ls os ts k),dsp,stF (sC ls os ts k),rfl,s1 _ _ hsp,J3l _ (by decide +kernel) (by decide +kernel) (by decide +kernel),sp,rfl,_,rfl,?_⟩;rw [own_kd]
   cases own:(sC ls os ts k).own with
   | true=>exact iteT ⟨_,rfl,_,rfl,xc,CH,dq,fs,_,rfl,s1 _ _ h0,TH.cl,TH.nT,lT,_,rfl,pt,_,_,_,rfl,rfl,SqT.of (s1 _ _ h3),J8 etk,_,rfl,_,rfl,sp,dsp,tk,ls,os,ts,m,k,j,y,o,due,rfl,s1 _ _ hsp,s1 _ _ htk,cp,hk,A,hd,c,own,fun p a b c d e H2 s2 Pa pp=>q p a b c d e H2 (s1.trans s2) Pa pp⟩
   | false=>exact iteF ⟨_,rfl,_,rfl,xc,CH,dq,fs,_,rfl,s1 _ _ h0,TH.cl,TH.nT,lT,_,rfl,pt,_,_,_,rfl,rfl,SqT.of (s1 _ _ h3),J8 etk,_,rfl,_,rfl,sp,dsp,tk,ls,os,ts,m,k,j,y,o,due,rfl,s1 _ _ hsp,s1 _ _ htk,cp,hk,A,hd,c,own,fun p a b c d e H2 s2 Pa pp=>q p a b c d e H2 (s1.trans s2) Pa pp⟩
  ·refine iteBT (show (!inV (V.int (j:Nat)) (nV ((sC ls os ts k).losers (rC ls os ts k))))=true by rw [inV_nV,decide_eq_false c];rfl) ?_;obtain ⟨o',A'⟩:=J3f F.np F.ret A c;have hd2:=hd.2;rw [tow_los cp hk A.1,if_neg c,Int.add_zero] at hd2;exact ⟨_,rfl,_,rfl,J40 fun p H2 s2 Pa=>q p 0 0 j due y H2 (s1.trans s2) Pa (part_same F ⟨o',A'⟩ ⟨hd.1,hd2⟩)⟩
structure TxtTa (K:Frag) (CT:Addr):Prop where
 cl:Cls K CT
 nC:NoAttr K CT "counts"
 nL:NoAttr K CT "letter"
 nD:NoAttr K CT "due"
structure TalO (CT:Addr) (H:Hp) (x q:Addr) (j:Nat) (due:Int):Prop where
 ex:∃ (dx:Addr) (fs:List (Str × V)),H x=some (.ins CT dx fs)/\fs.lookup ("counts":Str)=some (.ref q)/\fs.lookup ("letter":Str)=some (.int (j:Nat))/\fs.lookup ("due":Str)=some (.int due)
structure TallyAt (CT:Addr) (H:Hp) (x:Addr) (c:List Int) (j:Nat) (due:Int):Prop where
 ex:∃ q,TalO CT H x q j due/\H q=some (.lst (iV c))
def spTally (CT:Addr):Sp:=fun vs H Q _=>∃ (x dx q:Addr) (j:Nat) (due:Int),vs=[.ref x,.ref q,.int (j:Nat),.int due]/\H x=some (.ins CT dx [])/\∀ H',TalO CT H' x q j due->KeepX x H H'->Q .non H'
theorem scTaInit:FnScope ["self","counts","letter","due"] ["self","counts","letter","due"] (J7 sTaInit):=fS
theorem ok_tally {f  CT : Addr} {fd  : FuncData}  (F : Fun K "__init__" "Tally.__init__" sTaInit f fd) (TT : TxtTa K CT)
 :
    FnOk P w K mg base CX0 1 f fd ["self", "counts", "letter", "due"] (spTally CT) := by
  refine F.ok scTaInit (fun vs H Q E h => ?_) (fun cdv A outer s H vs Q E hr h => ?_)
  · obtain ⟨x, dx, q, j, due, rfl, _⟩ := h
    rfl
  · obtain ⟨x, dx, q, j, due, rfl, hx, k⟩ := h
    refine ⟨_, (J1 (J1w (pv 0) (pv 1) rfl)
      (J1 (J1w (pv 0) (pv 2) rfl)
      (J6 (J1w (pv 0) (pv 3) rfl)))), ?_⟩
    refine ⟨_, rfl, _, rfl, x, CT, dx, [], rfl, hx, TT.cl, TT.nC, (by show 0 < 1000; decide), ?_⟩;generalize hfs1 : putF ("counts" : Str) (.ref q) [] = fs1;generalize hH1 : upd H x (.ins CT dx fs1) = H1;have l1 : fs1.length <= 1 := by rw [<- hfs1]; exact Jm ..
    have k1 : KeepX x H H1 := by rw [<- hH1]; exact KeepX.upd
    have hx1 : H1 x = some (.ins CT dx fs1) := by rw [<- hH1]; exact J3
    refine ⟨_, rfl, _, rfl, x, CT, dx, fs1, rfl, hx1, TT.cl, TT.nL, (by lia), ?_⟩;generalize hfs2 : putF ("letter" : Str) (.int (j : Nat)) fs1 = fs2;generalize hH2 : upd H1 x (.ins CT dx fs2) = H2;have l2 : fs2.length <= 2 := by rw [<- hfs2]; have := Jm ("letter" : Str) (.int (j : Nat)) fs1; lia
    have k2 : KeepX x H1 H2 := by rw [<- hH2]; exact KeepX.upd
    have hx2 : H2 x = some (.ins CT dx fs2) := by rw [<- hH2]; exact J3
    refine ⟨_, rfl, _, rfl, x, CT, dx, fs2, rfl, hx2, TT.cl, TT.nD, (by lia), ?_⟩;refine k _ ⟨dx, _, J3, ?_, ?_, J18⟩ (k1.trans (k2.trans KeepX.upd))
    · rw [lk_ne (by decide +kernel), <- hfs2, lk_ne (by decide +kernel), <- hfs1, J18]
    · rw [lk_ne (by decide +kernel), <- hfs2, J18]
theorem tally_made {CT:Addr} {H:Hp} {q:Addr} {j:Nat} {due:Int} {Q:VK} (k:∀ p H',Same H H'->TalO CT H' p q j due->Q (.ref p) H') :
  ∀ x dx,H x=none->H dx=none->dx≠x->spTally CT (.ref x :: ([.ref q,.int (j:Nat),.int due] ++ [])) (upd (upd H dx (.own x)) x (.ins CT dx [])) (fun v H2=>v=.non/\Q (.ref x) H2) E0:=fun x dx hx hdx hne=>by
 have sx:=(Ja (o:=.own x) hdx).trans (Ja (l:=x) (o:=.ins CT dx []) (by rw [Jg (Ne.symm hne)];exact hx));exact ⟨x,dx,q,j,due,rfl,J3,fun H' S kp=>⟨rfl,k x H' (fun b u e=>kp _ _ (sx _ _ e) (Jd e hx)) S⟩⟩
theorem bigN {a b:Int} (ha:0<=a) (ha':a<=10 ^ 100) (hb:0<=b) (hb':b<=10 ^ 100):CBig a b:=by
 have e:(10:Nat) ^ 100 < 2 ^ 4000:=by decide
 exact ⟨Nat.lt_of_le_of_lt (show a.natAbs<=10 ^ 100 by lia) e,Nat.lt_of_le_of_lt (show b.natAbs<=10 ^ 100 by lia) e⟩
abbrev TalC (ls:List Int) (os:List Nat) (ts:List Bool) (k:Nat):=Tal (gC ls os ts) (pcC ls os ts) (rC ls os ts k) (tC' ls os ts k)
def spTallyA (C CH CR CA CT:Addr) (cs:Kd->Addr):Sp:=fun vs H Q _=>∃ (xc tq:Addr) (ls:List Int) (os:List Nat) (ts:List Bool) (m k:Nat) (tot:Nat->Int) (g:Int) (c:List Int) (j:Nat) (due y:Int),vs=[.ref xc,.int (k:Nat),.ref tq]/\ChF C CH CR cs H xc ls os ts m/\ChP ls os ts m/\k < m/\TallyAt CT H tq c j due/\TalC ls os ts (k + 1) tot g c j due y/\g<=10 ^ 90/\
 ∀ q c' (j':Nat) due' y' H',Same H H'->TallyAt CT H' q c' j' due'->TalC ls os ts k tot g c' j' due' y'->Q (.ref q) H'
theorem scTallyA:FnScope ["chart","at","tally","step","part","lost","counts"] ["chart","at","tally"] (J7 sTallyA):=fS
theorem ok_tallyA {f fPD fTA C CH CR CA CT:Addr} {fd fdPD fdTA:FuncData} {cs:Kd->Addr} (F:Fun K "tally_ahead" "tally_ahead" sTallyA f fd) (T:TxtR mg) (TR:TxtRest K CR) (TS:TxtS K cs) (TH:TxtCh K CH) (TP:TxtPa K CA) (TT:TxtTa K CT)
  (GPD:FnOk P w K mg base CX0 4 fPD fdPD ["chart","at","letter","due"] (spPartD C CH CR CA cs)) (bPD:Binds K fdPD ["chart","at","letter","due"] []) (mPD:mg "part_done"=some (.ref fPD)) (kPD:keepIn K (.ref fPD)=true)
  (HL:∀ k,HasM P w K mg base CX0 2 "losers" ["self","rest"] (J1l cs CR k) (cs k))
  (MTA:Mk K CT fTA) (GTA:FnOk P w K mg base CX0 1 fTA fdTA ["self","counts","letter","due"] (spTally CT)) (bTA:Binds K fdTA ["self","counts","letter","due"] []) (mgTA:mg "Tally"=some (.ref CT)) :
  FnOk P w K mg base CX0 5 f fd ["chart","at","tally"] (spTallyA C CH CR CA CT cs):=by
 refine F.ok scTallyA (fun vs H Q E h=>?_) (fun cdv A outer s H vs Q E hr h=>?_)
 ·obtain ⟨xc,tq,ls,os,ts,m,k,tot,g,c,j,due,y,rfl,_⟩:=h;rfl
 ·obtain ⟨xc,tq,ls,os,ts,m,k,tot,g,c,j,due,y,rfl,F0,cp,hk,Ta,tl0,hg,q⟩:=h;have hr2:Room 2 _:=rm hr;have hr4:Room 4 _:=rm hr;refine ⟨_,(J1 (Jh (i:=3) scTallyA.nd rfl (Or.inl rfl) (pe_ix Ji (J9 (pv 0) rfl) (pv 1) (fun _ _=>rfl)))
   (J1 (Jh (i:=4) scTallyA.nd rfl (Or.inl rfl) (Jc GPD hr4 rfl mPD kPD bPD .nil pass0 (J0 (pv 0) (J0 (pv 1) (J0 (J9 (pv 2) rfl) (J0 (J9 (pv 2) rfl) J4))))))
   (J1 (Jh (i:=5) scTallyA.nd rfl (Or.inl rfl) (Jn (J3v rfl) (by rfl) T.sum boot_sum (J0 (pe_lc (caps:=["tally"]) (js:=[2]) rfl (J6o (J3q (sp:=J1l cs CR) (cls:=cs) (pv 3) HL hr2 pass0 (J0 (pe_ix Ji (J9 (pv 0) rfl) (pv 1) (fun _ _=>rfl)) J4))) rfl (fun _ _ _ _=>J36) (fun C fp s H=>(J50 (J7r K) (pe_flK K (pv 1)) (pv 0))) (by decide +kernel) (by decide +kernel) (by decide +kernel) (by intro p hp;simp only [mem_cons,not_mem_nil,or_false] at hp;rcases hp with rfl;rfl)) J4)))
   (J1 (Jh (i:=6) scTallyA.nd rfl (Or.inl rfl) (Jo J1u (by rfl) T.list boot_list (J0 (J9 (pv 2) rfl) J4)))
   (J1 (J7k (pe_op J19 (pe_ix J27 (pv 6) (J9 (pv 2) rfl) (fun _ _=>rfl)) (J9 (pv 4) rfl)) (pg_sub (pv 6) (J9 (pv 2) rfl) J3n))
   (J1 (J7k (pe_op J19 (pe_op J19 (pe_ix J27 (pv 6) (J9 (pv 3) rfl) (fun _ _=>rfl)) (pe_op J2l (J9 (pv 3) rfl) (pv 5))) (J9 (pv 4) rfl)) (pg_sub (pv 6) (J9 (pv 3) rfl) J3n))
   (J6 (Jl (J1h MTA GTA hr2 rfl mgTA bTA .nil pass0 (J0 (pv 6) (J0 (J9 (pv 4) rfl) (J0 (J9 (pv 4) rfl) J4)))))))))))),?_⟩
  have F0':=F0;obtain ⟨xl,A0,L0⟩:=F0;obtain ⟨dq,fs,pr,ps,pt,pb,xr,xs,xt,xb,h0,⟨lL,lR,lS,lT,lB⟩,⟨h1,h2,h3,h4⟩,r1,r2,r3,r4⟩:=A0.ex;obtain ⟨yi,eyi,Ri⟩:=r1.at_ k (by lia);obtain ⟨yj,eyj,Rj⟩:=r1.at_ (k + 1) (by lia);obtain ⟨sp,esp,⟨dsp,hsp⟩⟩:=r2.at_ k hk;obtain ⟨tk,etk,htk⟩:=r3.at_ k (by lia);obtain ⟨di,fi,it,ib,il,iu,i0,⟨i1,i2,i3,i4,i5⟩,o1,o2,o3,o4⟩:=Ri.ex;obtain ⟨dj,fj,_,_,_,_,j0,⟨_,_,_,_,j5⟩,_⟩:=Rj.ex;have F:=cp.stp hk;have U:=cp.uni (k:=k) (by lia);obtain ⟨w1,w2,w3⟩:=F.win;obtain ⟨t1,t2⟩:=F.tms;have wl:=F.ok.row.lt _ w1;obtain ⟨cq,TO,hcq⟩:=Ta.ex;obtain ⟨dta,fta,ta0,taC,taL,taD⟩:=TO.ex;obtain ⟨o,A⟩:=tl0.at_;have jl:=F.ok.row.lt _ (F.down.sub j A.1);have hcl:c.length=(rC ls os ts k).ls.length:=by have e:=tl0.len;rw [show (tC' ls os ts (k + 1))=towB (sC ls os ts k) (rC ls os ts k) (tC' ls os ts k) from rfl,J3k] at e;rw [e];exact F.len
  have hcf:c.length<=24:=by rw [hcl];exact F.ok.few
  have hL:=losers_in F.ok F.ne F.np;have nd:((sC ls os ts k).losers (rC ls os ts k)).Nodup:=NextP.losers_nd F.ok;have lf:=(F.np.losers_lt F.ok F.ne).2;have lin:∀ i∈(sC ls os ts k).losers (rC ls os ts k),i < c.length:=fun i hi=>by rw [hcl];exact F.ok.row.lt _ (F.down.sub i (hL i hi))
  refine ⟨_,rfl,xc,CH,dq,fs,_,rfl,h0,TH.cl,TH.nS,lS,_,rfl,ps,_,_,_,rfl,rfl,SqT.of (h2),J8 esp,?_⟩;refine ⟨_,rfl,_,rfl,_,rfl,tq,CT,dta,fta,_,rfl,ta0,TT.cl,TT.nL,taL,_,rfl,tq,CT,dta,fta,_,rfl,ta0,TT.cl,TT.nD,taD,xc,ls,os,ts,m,k,j,y,o,due,rfl,F0',cp,hk,A,tl0.d,fun qa own tms j' due' y' H1 s1 Pa Pt=>?_⟩;refine ⟨_,rfl,sp,kd (sC ls os ts k),dsp,stF (sC ls os ts k),rfl,s1 _ _ hsp,J3l _ (by decide +kernel) (by decide +kernel) (by decide +kernel),_,rfl,xc,CH,dq,fs,_,rfl,s1 _ _ h0,TH.cl,TH.nR,lR,_,rfl,pr,_,_,_,rfl,rfl,SqT.of (s1 _ _ h1),J8 eyi,sp,yi,(sC ls os ts k),rC ls os ts k,rfl,rfl,⟨dsp,s1 _ _ hsp⟩,Ri.same s1,w1,F.ok.perm.mem_iff.mpr w1,fun lp H2 s2 hlp=>?_⟩;have s12:=s1.trans s2;refine ⟨lp,rfl,⟨_,SqT.of hlp⟩,fun d hd=>lc_tup (fun (i:Nat)=>V.int (i:Int)) ((sC ls os ts k).losers (rC ls os ts k)) (fun _=>true) (fun i=>V.int (c.getD i 0)) (by rw [<- nV_eq];exact SqT.of hlp) (by lia) hd (fun _ _ H _ _ k=>k H (Same.refl _)) (fun i hi H3 Qe _ s3 ke=>?_) (fun H3 s3 hd'=>?_)⟩
  ·have s13:=s12.trans s3;exact ⟨_,rfl,tq,CT,dta,fta,_,rfl,s13 _ _ ta0,TT.cl,TT.nC,taC,_,rfl,cq,_,_,_,rfl,rfl,SqL.of (s13 _ _ hcq),J8 (J15 (lin i hi)),ke _ (Same.refl _)⟩
  rw [J20] at hd';have s13:=s12.trans s3;refine ⟨d,((sC ls os ts k).losers (rC ls os ts k)).map fun i=>c.getD i 0,rfl,.inl (SqL.of (by rw [hd',map_map];rfl)),?_⟩;obtain ⟨lost,hlo⟩:∃ lost,lost=(((sC ls os ts k).losers (rC ls os ts k)).map fun i=>c.getD i 0).sum:=⟨_,rfl⟩;have lb:0<=lost/\lost<=24 * g:=by
   have g0:0<=g:=by
    have a:=sumV_le (c:=c) (X:=fun i=>(tC' ls os ts (k + 1)).getD i 0) tl0.nn (fun i hi=>?_) (show j < c.length by lia)
    ·have b:=tl0.nn j (by lia);have e:=tl0.sum;have f:=tl0.d;have m:=Int.mul_nonneg b (show 0<=(tC' ls os ts (k + 1)).getD j 0 by lia);have a:c.getD j 0 * (tC' ls os ts (k + 1)).getD j 0<=_:=a;lia
    ·by_cases hi':i∈(rC ls os ts (k + 1)).top
     ·have:=(cp.cok.twr cp.one (k:=k + 1) (fun i hi=>cp.lg i (by lia))).pos i hi';exact Int.le_trans (by decide) this
     ·have hi':i ∉ ((sC ls os ts k).behind (rC ls os ts k)).top:=hi';show 0<=(towB (sC ls os ts k) (rC ls os ts k) (tC' ls os ts k)).getD i 0;rw [J4a _ _ _ (by rw [F.len];lia),if_neg hi'];exact Int.le_refl _
   have tw:=cp.cok.twr cp.one (k:=k + 1) (fun i hi=>cp.lg i (by lia));have h:=lost_le (c:=c) (g:=g) (L:=(sC ls os ts k).losers (rC ls os ts k)) fun i hi=>⟨tl0.nn i (lin i hi),tl0.le tw (fun i hi'=>?_) (lin i hi)⟩
   ·rw [<- hlo] at h;have:(((sC ls os ts k).losers (rC ls os ts k)).length:Int) * g<=24 * g:=Int.mul_le_mul_of_nonneg_right (by lia) g0;lia
   ·by_cases h2:i∈(rC ls os ts (k + 1)).top
    ·exact Int.le_trans (by decide) (tw.pos i h2)
    ·have h2:i ∉ ((sC ls os ts k).behind (rC ls os ts k)).top:=h2;show 0<=(towB (sC ls os ts k) (rC ls os ts k) (tC' ls os ts k)).getD i 0;rw [J4a _ _ _ (by have h3:i < (towB (sC ls os ts k) (rC ls os ts k) (tC' ls os ts k)).length:=hi';rw [J3k] at h3;exact h3),if_neg h2];exact Int.le_refl _
  rw [<- hlo];refine ⟨_,rfl,tq,CT,dta,fta,_,rfl,s13 _ _ ta0,TT.cl,TT.nC,taC,cq,_,rfl,.inl (SqL.of (s13 _ _ hcq)),fun l hl=>?_⟩;have s4:=Ja (o:=.lst (iV c)) hl;have s14:=s13.trans s4;obtain ⟨dpa,fpa,pa0,paO,paT,paL,paD⟩:=(Pa.same ((s2.trans s3).trans s4)).ex;refine ⟨_,rfl,_,rfl,tq,CT,dta,fta,_,rfl,s14 _ _ ta0,TT.cl,TT.nL,taL,l,_,_,_,rfl,rfl,SqL.of J3,J8 (J15 (by lia)),_,rfl,qa,CA,dpa,fpa,_,rfl,pa0,TP.cl,TP.nO,paO,_,_,rfl,rfl,_,rfl,_,rfl,tq,CT,dta,fta,_,rfl,s14 _ _ ta0,TT.cl,TT.nL,taL,l,_,_,j,rfl,rfl,J3,J6v (by show j < (c.map V.int).length;rw [length_map];lia),?_⟩;rw [J54,J7s];have keep:∀ {b:Addr} {u:HO} {c':List Int},(upd H3 l (.lst (iV c))) b=some u->b≠l->(upd H3 l (.lst (iV c'))) b=some u:=fun {b u c'} e n=>by rw [Jg n] at e ⊢;exact e
  have s5:∀ c':List Int,Same H3 (upd H3 l (.lst (iV c'))):=fun c'=>Ja hl;obtain ⟨c1,ec1⟩:∃ c1,c1=c.set j (c.getD j 0 + own):=⟨_,rfl⟩;rw [<- ec1];have hc1:c1.length=c.length:=by rw [ec1,length_set]
  have s15:=s13.trans (s5 c1);have pa1:(upd H3 l (.lst (iV c1))) qa=some (.ins CA dpa fpa):=keep pa0 (fun e=>by rw [e,J3] at pa0;cases pa0);refine ⟨_,rfl,_,rfl,sp,cs (kd (sC ls os ts k)),dsp,stF (sC ls os ts k),_,rfl,s15 _ _ hsp,TS.cl _,TS.nW _,stF_w _,l,_,_,_,rfl,rfl,SqL.of J3,J8 (J15 (by lia)),_,rfl,sp,cs (kd (sC ls os ts k)),dsp,stF (sC ls os ts k),_,rfl,s15 _ _ hsp,TS.cl _,TS.nT _,stF_t _,_,rfl,_,_,rfl,rfl,bigN (by lia) (by lia) lb.1 (by lia),_,_,rfl,rfl,_,rfl,qa,CA,dpa,fpa,_,rfl,pa1,TP.cl,TP.nT,paT,_,_,rfl,rfl,_,rfl,_,rfl,sp,cs (kd (sC ls os ts k)),dsp,stF (sC ls os ts k),_,rfl,s15 _ _ hsp,TS.cl _,TS.nW _,stF_w _,l,_,_,(sC ls os ts k).winner,rfl,rfl,J3,J6v (by show (sC ls os ts k).winner < (c1.map V.int).length;rw [length_map];lia),?_⟩;rw [J54,J7s];obtain ⟨c2,ec2⟩:∃ c2,c2=c1.set (sC ls os ts k).winner (c1.getD (sC ls os ts k).winner 0 + (sC ls os ts k).times * lost + tms):=⟨_,rfl⟩;rw [<- ec2];have s16:=s13.trans (s5 c2);have pa2:(upd H3 l (.lst (iV c2))) qa=some (.ins CA dpa fpa):=keep pa0 (fun e=>by rw [e,J3] at pa0;cases pa0);refine ⟨_,rfl,_,rfl,qa,CA,dpa,fpa,_,rfl,pa2,TP.cl,TP.nL,paL,_,rfl,qa,CA,dpa,fpa,_,rfl,pa2,TP.cl,TP.nD,paD,tally_made fun p H6 s6 To=>?_⟩;rw [hlo] at ec2;exact q p c2 j' due' y' H6 (s16.trans s6) ⟨l,To,s6 _ _ J3⟩ (Tal.up F U hL nd tl0 Pt ec1 ec2)
noncomputable def visC (ls:List Int) (os:List Nat) (ts:List Bool) (g x:Int):List Int:=(List.range ls.length).map fun p=>vis (gC ls os ts) (pcC ls os ts) p g.toNat x
structure FloorL (ls:List Int) (os:List Nat) (ts:List Bool) (b:Band) (g:Int) (c:List Int):Prop where
 len:c.length=ls.length
 at_:∀ o,0<=o->o < b.2.1->∀ p,p < ls.length->c.getD p 0=vis (gC ls os ts) (pcC ls os ts) p g.toNat (b.1 + o)
def J79 (C CH CR CT:Addr) (cs:Kd->Addr):Sp:=fun vs H Q _=>∃ (xc:Addr) (ls:List Int) (os:List Nat) (ts:List Bool) (m bn:Nat) (g:Int),vs=[.ref xc,.int (bn:Nat),.int g]/\ChF C CH CR cs H xc ls os ts m/\ChP ls os ts m/\bn < (bsC ls os ts m).length/\(0<=g/\g<=10 ^ 90)/\
 ∀ p c H',Same H H'->H' p=some (.tup (iV c))->FloorL ls os ts ((bsC ls os ts m).getD bn bz0) g c->Q (.ref p) H'
theorem scFloorV:FnScope ["chart","band","goings","home","winner","height","counts","tally","at"] ["chart","band","goings"] (J7 sFloorV):=fS
theorem ok_floorV {f fHM fTA fTH CA C CH CR CT:Addr} {fd fdHM fdTA fdTH:FuncData} {cs:Kd->Addr} (F:Fun K "floor_visits" "floor_visits" sFloorV f fd) (T:TxtR mg) (TC:TxtC K mg C) (TR:TxtRest K CR) (TS:TxtS K cs) (TH:TxtCh K CH) (TT:TxtTa K CT)
  (GHM:FnOk P w K mg base CX0 2 fHM fdHM ["chart"] (spHomes C CH CR cs)) (bHM:Binds K fdHM ["chart"] []) (mHM:mg "homes_of"=some (.ref fHM)) (kHM:keepIn K (.ref fHM)=true)
  (MTA:Mk K CT fTA) (GTA:FnOk P w K mg base CX0 1 fTA fdTA ["self","counts","letter","due"] (spTally CT)) (bTA:Binds K fdTA ["self","counts","letter","due"] []) (mgTA:mg "Tally"=some (.ref CT))
  (GTH:FnOk P w K mg base CX0 5 fTH fdTH ["chart","at","tally"] (spTallyA C CH CR CA CT cs)) (bTH:Binds K fdTH ["chart","at","tally"] []) (mTH:mg "tally_ahead"=some (.ref fTH)) (kTH:keepIn K (.ref fTH)=true) :
  FnOk P w K mg base CX0 6 f fd ["chart","band","goings"] (J79 C CH CR CT cs):=by
 refine F.ok scFloorV (fun vs H Q E h=>?_) (fun cdv A outer s H vs Q E hr h=>?_)
 ·obtain ⟨xc,ls,os,ts,m,bn,g,rfl,_⟩:=h;rfl
 ·obtain ⟨xc,ls,os,ts,m,bn,g,rfl,F0,cp,hb,hg,kk⟩:=h;have hr2:Room 2 _:=rm hr;have hr5:Room 5 _:=rm hr;refine ⟨_,(J1 (Jh (i:=3) scFloorV.nd rfl (Or.inl rfl) (pe_ix J27 (Jc GHM hr2 rfl mHM kHM bHM .nil pass0 (J0 (pv 0) J4)) (pv 1) (fun _ _=>rfl)))
   (J1 (Jh (i:=4) scFloorV.nd rfl (Or.inl rfl) (J9 (pe_ix Ji (J9 (pv 0) rfl) (pv 3) (fun _ _=>rfl)) rfl))
   (J1 (Jh (i:=5) scFloorV.nd rfl (Or.inl rfl) (pe_ix Ji (pe_ix Ji (J9 (pv 0) rfl) (pv 1) (fun _ _=>rfl)) Jb (fun _ _=>rfl)))
   (J1 (Jh (i:=6) scFloorV.nd rfl (Or.inl rfl) (pe_op op_rep (J3d (J0 Jb J4)) (Jn Jk (by rfl) T.len boot_len (J0 (J9 (J9 (pv 0) rfl) rfl) J4))))
   (J1 (J7k (pe_op J2q (pv 2) (pv 5)) (pg_sub (pv 6) (pv 4) J3n))
   (J1 (Jh (i:=7) scFloorV.nd rfl (Or.inl rfl) (J1h MTA GTA hr2 rfl mgTA bTA .nil pass0 (J0 (pv 6) (J0 (pv 4) (J0 (pe_op J3r (pv 2) (pv 5)) J4)))))
   (J1 (J4g PassesOwn.never rfl (pi_down rfl T.range (J0 (pe_op J2a (pv 3) Jb) (J0 (pe_un J6e Jb) (J0 (pe_un J6e Jb) J4)))) (J1p (i:=8) scFloorV.nd rfl (Or.inl rfl))
    (J6 (Jh (i:=7) scFloorV.nd rfl (Or.inl rfl) (Jc GTH hr5 rfl mTH kTH bTH .nil pass0 (J0 (pv 0) (J0 (pv 8) (J0 (pv 7) J4)))))))
   (J6 (Jl (Jo J1g (by rfl) T.tuple boot_tuple (J0 (J9 (pv 7) rfl) J4))))))))))),?_⟩
  have F0':=F0;obtain ⟨xl,A0,L0⟩:=F0;obtain ⟨dq,fs,pr,ps,pt,pb,xr,xs,xt,xb,h0,⟨lL,lR,lS,lT,lB⟩,⟨h1,h2,h3,h4⟩,r1,r2,r3,r4⟩:=A0.ex;have S:=cp.sys;have fw:=cp.few;obtain ⟨dl,fl,pl,po,pt',pS,pd,l0,⟨k1,k2,k3,k4,k5,k6⟩,e1,e2,e3,e4,e5⟩:=L0.ex;obtain ⟨bp,ebp,hbp⟩:=r4.at_ bn hb;have hbp:H bp=some (.tup (bandV ((bsC ls os ts m).getD bn bz0))):=hbp;obtain ⟨k,ehk,hk,hh,ebd⟩:=J63 hb;obtain ⟨Bn,b1,b2⟩:=cp.cok.band cp.one (k:=k) (fun i hi=>cp.lg i (by lia)) hh;have ebd:(bsC ls os ts m).getD bn bz0=bandC (chN (Jz ls os ts) k):=ebd;rw [ebd] at hbp kk;have F:=cp.stp hk;have U:=cp.uni (k:=k) (by lia);obtain ⟨w1,w2,w3⟩:=F.win;have wl:=F.ok.row.lt _ w1;have eh:(bandC (chN (Jz ls os ts) k)).2.2.1=(tC' ls os ts k).getD (sC ls os ts k).winner 0:=rfl;have tlen:∀ i,(tC' ls os ts i).length=ls.length:=fun i=>by rw [chN_len];exact length_replicate ..
  have hcl:(rC ls os ts k).ls.length=ls.length:=by rw [<- F.len];exact tlen k
  have few:=cp.good.hi;have T1:1<=(tC' ls os ts k).getD (sC ls os ts k).winner 0:=w2;refine ⟨_,rfl,xc,ls,os,ts,m,rfl,F0',cp,fun d H1 s1 hd=>?_⟩;refine ⟨_,rfl,d,_,_,_,rfl,rfl,SqL.of hd,J8 (show (nV (J64 (Jz ls os ts) m))[bn]?=some (V.int ((k:Nat):Int)) from ?_),?_⟩
  ·rw [nV_eq,getElem?_map,ehk];rfl
  obtain ⟨sp,esp,⟨dsp,hsp⟩⟩:=r2.at_ k hk;refine ⟨_,rfl,xc,CH,dq,fs,_,rfl,s1 _ _ h0,TH.cl,TH.nS,lS,_,rfl,ps,_,_,_,rfl,rfl,SqT.of (s1 _ _ h2),J8 esp,sp,cs (kd (sC ls os ts k)),dsp,stF (sC ls os ts k),_,rfl,s1 _ _ hsp,TS.cl _,TS.nW _,stF_w _,?_⟩;refine ⟨_,rfl,xc,CH,dq,fs,_,rfl,s1 _ _ h0,TH.cl,TH.nB,lB,_,rfl,pb,_,_,_,rfl,rfl,SqT.of (s1 _ _ h4),J8 ebp,bp,_,_,_,rfl,rfl,SqT.of (s1 _ _ hbp),J8 (j:=2) rfl,?_⟩;rw [eh];refine ⟨by show 1<=sizeLine;decide,fun f0 hf=>?_⟩;have s2:=Ja (o:=.lst [V.int 0]) hf;have s12:=s1.trans s2;refine ⟨_,rfl,xc,CH,dq,fs,_,rfl,s12 _ _ h0,TH.cl,TH.nL,lL,xl,C,dl,fl,_,rfl,s12 _ _ l0,TC.cl,TC.nL,k1,pl,_,rfl,.inr (SqT.of (s12 _ _ e1)),f0,_,[V.int 0],rfl,rfl,J3,by lia,by rw [J26];lia,?_,fun l hl=>?_⟩
  ·show 1 * ((iV ls).length:Int).toNat<=sizeLine;rw [J26];have:=J1e (n:=ls.length) (by lia);lia
  rw [J26,Int.toNat_natCast,J67];have n2:H l=none:=s12.free hl;have np:∀ (c:List Int),Same H (upd (upd H1 f0 (.lst [V.int 0])) l (.lst (iV c))):=fun c=>s12.trans (Ja hl);refine ⟨_,rfl,_,rfl,_,_,rfl,rfl,div30 (by lia) w3,_,rfl,_,rfl,l,_,_,(sC ls os ts k).winner,rfl,rfl,J3,J6v (by rw [J26,length_replicate];lia),?_⟩;rw [J54,J7s];obtain ⟨c0,ec0⟩:∃ c0,c0=(List.replicate ls.length (0:Int)).set (sC ls os ts k).winner (g / (tC' ls os ts k).getD (sC ls os ts k).winner 0):=⟨_,rfl⟩;rw [<- ec0];have sc0:=np c0;refine ⟨_,rfl,_,rfl,_,rfl,_,rfl,_,_,rfl,rfl,(show 0 < (tC' ls os ts k).getD (sC ls os ts k).winner 0 by lia),fun s0 dx hx hdx hne=>?_⟩;have sx:=(Ja (o:=.own s0) hdx).trans (Ja (l:=s0) (o:=.ins CT dx []) (by rw [Jg (Ne.symm hne)];exact hx));refine ⟨s0,dx,l,(sC ls os ts k).winner,_,rfl,J3,fun H6 To kp=>⟨rfl,?_⟩⟩;have s6:Same (upd (upd H1 f0 (.lst [V.int 0])) l (.lst (iV c0))) H6:=fun b u e=>kp _ _ (sx _ _ e) (Jd e hx);have s16:=sc0.trans s6;have Ta0:TallyAt CT H6 s0 c0 (sC ls os ts k).winner (g % (tC' ls os ts k).getD (sC ls os ts k).winner 0):=⟨l,To,s6 _ _ J3⟩;obtain ⟨z1,ez1⟩:∃ z1,z1=(bandC (chN (Jz ls os ts) k)).1:=⟨_,rfl⟩;have hgm:(sC ls os ts k)=.home (sC ls os ts k).winner:=home_is hh;have np':NextP (rC ls os ts k) (.home (sC ls os ts k).winner):=by rw [<- hgm];exact F.np
  obtain ⟨_,g2⟩:=home_go F.ok F.ne np';have ebh:((Stp.home (sC ls os ts k).winner).behind (rC ls os ts k)).size=z1:=by rw [<- hgm,ez1,b1];rfl
  rw [ebh] at g2;have b2:(bandC (chN (Jz ls os ts) k)).1 + (bandC (chN (Jz ls os ts) k)).2.1=(rC ls os ts k).size:=b2;have hfl:∀ o,0<=o->o < (bandC (chN (Jz ls os ts) k)).2.1->∃ o',LetAt (rC ls os ts k) ((bandC (chN (Jz ls os ts) k)).1 + o) (sC ls os ts k).winner o':=fun o h0 h1=>by
   obtain ⟨A,_⟩:=g2 (z1 + o) (by lia) (by lia);rw [ez1] at A;exact ⟨_,A⟩
  have wd1:=Bn.1;have fway:=fun (o:Int) (h0:0<=o) (h1:o < (bandC (chN (Jz ls os ts) k)).2.1) p=>floor_way U F.ok Bn eh hfl h0 h1 hg.1 p;have em0:=Int.emod_nonneg g (show (tC' ls os ts k).getD (sC ls os ts k).winner 0≠0 by lia);have em1:=Int.emod_lt_of_pos g (show 0 < (tC' ls os ts k).getD (sC ls os ts k).winner 0 by lia);have ed0:0<=g / (tC' ls os ts k).getD (sC ls os ts k).winner 0:=Int.ediv_nonneg hg.1 (by lia);have hc0:c0.length=ls.length:=by rw [ec0,length_set,length_replicate]
  have get0:∀ i,i≠(sC ls os ts k).winner->c0.getD i 0=0:=fun i hi=>by
   rw [ec0,J2h hi,getD_eq_getElem?_getD,getElem?_replicate];split <;> rfl
  have tal0:TalC ls os ts k (fun p=>vis (gC ls os ts) (pcC ls os ts) p g.toNat ((bandC (chN (Jz ls os ts) k)).1 + 0)) g c0 (sC ls os ts k).winner (g % (tC' ls os ts k).getD (sC ls os ts k).winner 0) ((bandC (chN (Jz ls os ts) k)).1 + 0):=by
   refine ⟨by rw [hc0,tlen],fun i hi hn=>get0 i (fun e=>hn (e ▸ w1)),fun i hi=>?_,hfl 0 (by lia) (by lia),⟨em0,em1⟩,?_,fun p=>?_⟩
   ·by_cases e:i=(sC ls os ts k).winner
    ·rw [e,ec0,J2s (by rw [length_replicate];lia)];exact ed0
    ·rw [get0 i e];exact Int.le_refl _
   ·rw [ec0,sumV_one (by lia),Int.mul_comm];exact Int.mul_ediv_add_emod g _
   ·rw [ec0,sumV_one (by lia)];exact (fway 0 (by lia) (by lia) p).symm
  refine ⟨_,rfl,_,_,rfl,rfl,_,rfl,_,rfl,(k:Int) - 1,?_,⟨by lia,by lia⟩,for_its (lo:=(k:Int) - 1) (c:=-1) (n:=((k:Int) - 1 + 1).toNat)
   (fun i σ Hw=>∃ (su:Addr) (c:List Int) (j:Nat) (due y:Int) (v8:Option V),i<=k/\σ=[some (.ref xc),some (.int (bn:Nat)),some (.int g),some (.int (k:Nat)),some (.int ((sC ls os ts k).winner:Nat)),some (.int ((tC' ls os ts k).getD (sC ls os ts k).winner 0)),some (.ref l),some (.ref su),v8]/\TallyAt CT Hw su c j due/\TalC ls os ts (k - i) (fun p=>vis (gC ls os ts) (pcC ls os ts) p g.toNat ((bandC (chN (Jz ls os ts) k)).1 + 0)) g c j due y/\Same H Hw)
   ⟨s0,c0,_,_,_,none,Nat.zero_le _,rfl,Ta0,tal0,s16⟩ ?_ ?_⟩
  ·rfl
  ·rintro i σ Hw hi ⟨su,c,j,due,y,v8,_,rfl,Su,tal,sw⟩;obtain ⟨k2,hk2⟩:∃ k2,k - i=k2 + 1:=⟨k - i - 1,by lia⟩;rw [hk2] at tal;have eat:(k:Int) - 1 + (i:Int) * (-1)=((k2:Nat):Int):=by lia
   rw [eat];refine ⟨_,rfl,_,rfl,_,rfl,xc,su,ls,os,ts,m,k2,_,g,c,j,due,y,rfl,F0'.same sw,cp,by lia,Su,tal,hg.2,fun q c' j' due' y' H7 s7 Ta' tal'=>?_⟩;rw [show k2=k - (i + 1) by lia] at tal';exact ⟨q,c',j',due',y',some (.int ((k2:Nat):Int)),by lia,rfl,Ta',tal',sw.trans s7⟩
  ·rintro σ Hw ⟨su,c,j,due,y,v8,_,rfl,Su,tal,sw⟩;rw [show k - ((k:Int) - 1 + 1).toNat=0 by lia] at tal;obtain ⟨cq,TO,hcq⟩:=Su.ex;obtain ⟨dta,fta,ta0,taC,taL,taD⟩:=TO.ex;have clen:c.length=ls.length:=tal.len.trans (tlen 0);refine ⟨_,rfl,su,CT,dta,fta,_,rfl,ta0,TT.cl,TT.nC,taC,?_⟩;unfold rTup;refine ⟨cq,iV c,rfl,.inl ⟨SqL.of hcq,fun l9 hl9=>kk l9 c _ (sw.trans (Ja hl9)) J3 ⟨clen,fun o h0 h1 p hp=>?_⟩⟩⟩;have v:=tal.vs p;have dz:due=0:=by
    obtain ⟨o1,A1⟩:=tal.at_;have one:=cp.one j A1.1;have hd2:due < (Jz ls os ts).2.getD j 0:=tal.d.2;rw [one] at hd2;have:=tal.d.1;lia
   rw [dz] at v;have ex:sumV c (Vv (gC ls os ts) (pcC ls os ts) (rC ls os ts 0) (tC' ls os ts 0) p)=sumV c (fun i=>if i=p then 1 else 0):=by
    unfold sumV;refine J25 fun i hi=>?_;have hi:i < ls.length:=by have:=mem_range.mp hi;lia
    have it:i∈(Jz ls os ts).1.top:=mem_range.mpr hi;have one:=cp.one i it;have A1:=J3g cp.ok0 it;show c.getD i 0 * vis _ _ p ((Jz ls os ts).2.getD i 0).toNat _=_;rw [one];show c.getD i 0 * vis _ _ p 1 (posR (J10 ls os ts).ls (J10 ls os ts).top i)=_;rw [vis_one,pcC_eq cp A1]
   rw [ex,sumV_at (by lia)] at v;have v:c.getD p 0 + 0=_:=v;rw [Int.add_zero] at v;rw [v];show vis _ _ p g.toNat _=_;rw [fway 0 (by lia) (by lia) p,fway o h0 h1 p];obtain ⟨q1,B1⟩:=hfl 0 (by lia) (by lia);obtain ⟨q2,B2⟩:=hfl o h0 h1;rw [U p _ _ _ _ _ _ B1 B2 (by lia)]
def spVisits (C CH CR CO:Addr) (cs:Kd->Addr):Sp:=fun vs H Q E=>∃ (xc:Addr) (ls:List Int) (os:List Nat) (ts:List Bool) (m:Nat) (x g:Int),vs=[.ref xc,.int x,.int g]/\ChF C CH CR cs H xc ls os ts m/\ChP ls os ts m/\(0<=g/\g<=10 ^ 80)/\
 (∀ p H',Same H H'->H' p=some (.tup (iV (visC ls os ts g x)))->(0<=x/\x < (J10 ls os ts).size)->Q (.ref p) H')/\(¬ (0<=x/\x < (J10 ls os ts).size)->E (.ref CO) none H)
theorem scVisits:FnScope ["chart","x","goings","told","ahead","reached"] ["chart","x","goings"] (J7 sVisits):=fS
theorem ok_visits {f fAD fFV C CH CR CO CT:Addr} {fd fdAD fdFV:FuncData} {cs:Kd->Addr} (F:Fun K "visits" "visits" sVisits f fd) (T:TxtR mg) (henum:mg "enumerate"=none)
  (GAD:FnOk P w K mg base (Exc1 P w) 5 fAD fdAD ["chart","x"] (spAddr C CH CR CO cs)) (bAD:Binds K fdAD ["chart","x"] []) (mAD:mg "address"=some (.ref fAD)) (kAD:keepIn K (.ref fAD)=true)
  (GFV:FnOk P w K mg base CX0 6 fFV fdFV ["chart","band","goings"] (J79 C CH CR CT cs)) (bFV:Binds K fdFV ["chart","band","goings"] []) (mFV:mg "floor_visits"=some (.ref fFV)) (kFV:keepIn K (.ref fFV)=true) :
  FnOk P w K mg base (Exc1 P w) 7 f fd ["chart","x","goings"] (spVisits C CH CR CO cs):=by
 refine F.okX scVisits (fun vs H Q E h=>?_) (fun cdv A outer s H vs Q E hr h=>?_)
 ·obtain ⟨xc,ls,os,ts,m,x,g,rfl,_⟩:=h;rfl
 ·obtain ⟨xc,ls,os,ts,m,x,g,rfl,F0,cp,hg,kq,kx⟩:=h;have hr5:Room 5 _:=rm hr;have hr6:Room 6 _:=rm hr;refine ⟨_,(J1 (Jh (i:=3) scVisits.nd rfl (Or.inl rfl) (Jc GAD hr5 rfl mAD kAD bAD .nil pass1 (J0 (pv 0) (J0 (pv 1) J4))))
   (J1 (Jh (i:=4) scVisits.nd rfl (Or.inr rfl) (Jc GFV hr6 rfl mFV kFV bFV .nil pass0 (J0 (pv 0) (J0 (pe_ix Ji (pv 3) Jb (fun _ _=>rfl)) (J0 (pe_ix Ji (pv 3) Jb (fun _ _=>rfl)) J4)))))
   (J1 (Jh (i:=5) scVisits.nd rfl (Or.inl rfl) (Jc GFV hr6 rfl mFV kFV bFV .nil pass0 (J0 (pv 0) (J0 (pe_ix Ji (pv 3) Jb (fun _ _=>rfl)) (J0 (pe_op J19 (pe_ix Ji (pv 3) Jb (fun _ _=>rfl)) (pv 2)) J4)))))
   (J6 (Jl (Jo J1g (by rfl) T.tuple boot_tuple (J0 (pe_lc2 (caps:=["ahead"]) (js:=[4]) rfl (pi_enum rfl henum (J0 (pv 5) J4)) rfl (fun _ _ _ _=>J36) (fun C fp s H=>(pe_op J2a (pv 1) (J50 (J4p K) (pv 2) (pv 0)))) (by decide +kernel) (by decide +kernel) (by decide +kernel) (by intro p hp;simp only [mem_cons,not_mem_nil,or_false] at hp;rcases hp with rfl;rfl)) J4))))))),?_⟩
  refine ⟨_,rfl,_,rfl,xc,ls,os,ts,m,x,rfl,F0,cp,fun tp b o lv H1 s1 htp Ad epl=>?_,kx⟩;have S:=cp.sys;have xin:=S.pl_in Ad;rw [epl] at xin;have hb:=Ad.hb;have hbig:((bsC ls os ts m).getD b bz0).2.2.1<=10 ^ 30:=by
   obtain ⟨k,ehk,hk,hh,ebd⟩:=J63 hb;have F:=cp.stp hk;rw [show (bsC ls os ts m).getD b bz0=bandC (chN (Jz ls os ts) k) from ebd];exact F.win.2.2
  have l0:=Ad.l0;have l1:=Ad.l1;have few:=cp.good.hi;refine ⟨_,rfl,_,rfl,tp,_,_,_,rfl,rfl,SqT.of htp,J8 (j:=0) rfl,_,rfl,tp,_,_,_,rfl,rfl,SqT.of htp,J8 (j:=2) rfl,xc,ls,os,ts,m,b,lv,rfl,F0.same s1,cp,hb,⟨l0,by lia⟩,fun p1 c1 H2 s2 hp1 FL1=>?_⟩;have s12:=s1.trans s2;refine ⟨_,rfl,_,rfl,tp,_,_,_,rfl,rfl,SqT.of (s2 _ _ htp),J8 (j:=0) rfl,_,rfl,tp,_,_,_,rfl,rfl,SqT.of (s2 _ _ htp),J8 (j:=2) rfl,_,rfl,_,_,rfl,rfl,xc,ls,os,ts,m,b,lv + g,rfl,F0.same s12,cp,hb,⟨by lia,by lia⟩,fun p2 c2 H3 s3 hp2 FL2=>?_⟩;have s13:=s12.trans s3;refine ⟨_,rfl,p2,rfl,⟨_,SqT.of hp2⟩,fun d hd=>lc_enum (iV c2) (fun _=>true) (fun i=>V.int (c2.getD i 0 - c1.getD i 0)) (SqT.of hp2) (by rw [J26,FL2.len];have:=line16;lia) hd (fun i v hv H4 Qt s4 kt=>kt H4 (Same.refl _)) (fun i v hv _ H4 Qe s4 ke=>?_) (fun H4 s4 hd'=>?_)⟩
  ·have hi:i < c2.length:=by rw [<- J26 c2];exact (List.getElem?_eq_some_iff.mp hv).1
   obtain rfl:v=V.int (c2.getD i 0):=Option.some.inj (hv.symm.trans (J15 hi));exact ⟨_,rfl,_,rfl,_,rfl,p1,_,_,_,rfl,rfl,SqT.of (s4 _ _ (s3 _ _ hp1)),J8 (J15 (by rw [FL1.len,<- FL2.len];exact hi)),_,_,rfl,rfl,ke H4 (Same.refl _)⟩
  unfold rTup;rw [J20,J26,FL2.len] at hd';refine ⟨d,_,rfl,.inl ⟨SqL.of hd',fun l hl=>kq l _ (s13.trans (s4.trans (Ja hl))) ?_ xin⟩⟩;rw [J3];show some (HO.tup _)=some (HO.tup ((visC ls os ts g x).map V.int));unfold visC;rw [map_map];refine congrArg (fun z=>some (HO.tup z)) (List.map_congr_left fun p hp=>?_);have hp:=mem_range.mp hp;rw [FL1.at_ o Ad.o0 Ad.o1 p hp,FL2.at_ o Ad.o0 Ad.o1 p hp,add_nat l0 hg.1,J45];show V.int _=V.int (vis _ _ p g.toNat x);unfold plOf at epl;rw [epl]
  congr 1
  lia
structure BVAt (H:Hp) (d:Addr) (ls:List Int) (os:List Nat) (ts:List Bool) (m:Nat):Prop where
 ex:∃ ys,H d=some (.lst ys)/\Refs (fun q i=>∃ c,H q=some (.tup (iV c))/\FloorL ls os ts ((bsC ls os ts m).getD i bz0) ((bsC ls os ts m).getD i bz0).2.2.1 c) ys (bsC ls os ts m).length
def spBandV (C CH CR:Addr) (cs:Kd->Addr):Sp:=fun vs H Q _=>∃ (xc:Addr) (ls:List Int) (os:List Nat) (ts:List Bool) (m:Nat),vs=[.ref xc]/\ChF C CH CR cs H xc ls os ts m/\ChP ls os ts m/\∀ d H',H d=none->Same H H'->BVAt H' d ls os ts m->Q (.ref d) H'
theorem scBandV:FnScope ["chart"] ["chart"] (J7 sBandV):=fS
theorem ok_bandV {f fFV C CH CR CT:Addr} {fd fdFV:FuncData} {cs:Kd->Addr} (F:Fun K "band_visits" "band_visits" sBandV f fd) (TH:TxtCh K CH) (henum:mg "enumerate"=none)
  (GFV:FnOk P w K mg base CX0 6 fFV fdFV ["chart","band","goings"] (J79 C CH CR CT cs)) (bFV:Binds K fdFV ["chart","band","goings"] []) (mFV:mg "floor_visits"=some (.ref fFV)) (kFV:keepIn K (.ref fFV)=true) :
  FnOk P w K mg base CX0 7 f fd ["chart"] (spBandV C CH CR cs):=by
 refine F.ok scBandV (fun vs H Q E h=>?_) (fun cdv A outer s H vs Q E hr h=>?_)
 ·obtain ⟨xc,ls,os,ts,m,rfl,_⟩:=h;rfl
 ·obtain ⟨xc,ls,os,ts,m,rfl,F0,cp,kq⟩:=h;have hr6:Room 6 _:=rm hr;refine ⟨_,(J6 (Jl (pe_lc2 (caps:=["chart"]) (js:=[0]) rfl (pi_enum rfl henum (J0 (J9 (pv 0) rfl) J4)) rfl (fun _ _ _ _=>J36) (fun C fp s H=>(Jc GFV hr6 rfl mFV kFV bFV .nil pass0 (J0 (pv 2) (J0 (pv 0) (J0 (J50 (J4p K) (pv 1) Jb) J4))))) (by decide +kernel) (by decide +kernel) (by decide +kernel) (by intro p hp;simp only [mem_cons,not_mem_nil,or_false] at hp;rcases hp with rfl;rfl)))),?_⟩;have F0':=F0;obtain ⟨xl,A0,L0⟩:=F0;obtain ⟨dq,fs,pr,ps,pt,pb,xr,xs,xt,xb,h0,⟨lL,lR,lS,lT,lB⟩,⟨h1,h2,h3,h4⟩,r1,r2,r3,r4⟩:=A0.ex;have fw:=cp.few;have hxl:xb.length=(bsC ls os ts m).length:=r4.len;have hbl:(bsC ls os ts m).length<=m:=J4s _ m;refine ⟨_,rfl,xc,CH,dq,fs,_,rfl,h0,TH.cl,TH.nB,lB,pb,rfl,⟨_,SqT.of h4⟩,fun d hd=>lc_enumR xb (fun H q i=>∃ c,H q=some (.tup (iV c))/\FloorL ls os ts ((bsC ls os ts m).getD i bz0) ((bsC ls os ts m).getD i bz0).2.2.1 c) (SqT.of h4) (by have:=line16;lia) hd (fun H H' q i kd hn ⟨c,h,f⟩=>⟨c,kd _ _ h hn,f⟩) (fun i v hv H1 Qe s1 ⟨ys,hd1⟩ ke=>?_) (fun ys H1 s1 hd1 rf=>?_)⟩
  ·have hi:i < (bsC ls os ts m).length:=by rw [<- hxl];exact (List.getElem?_eq_some_iff.mp hv).1
   obtain ⟨bp,ebp,hbp⟩:=r4.at_ i hi;obtain rfl:v=.ref bp:=Option.some.inj (hv.symm.trans ebp);have hbp:H bp=some (.tup (bandV ((bsC ls os ts m).getD i bz0))):=hbp;have hB:0<=((bsC ls os ts m).getD i bz0).2.2.1/\((bsC ls os ts m).getD i bz0).2.2.1<=10 ^ 90:=by
    obtain ⟨k,ehk,hk,hh,ebd⟩:=J63 hi;have F:=cp.stp hk;rw [show (bsC ls os ts m).getD i bz0=bandC (chN (Jz ls os ts) k) from ebd];have w:=F.win;have a:(bandC (chN (Jz ls os ts) k)).2.2.1=(tC' ls os ts k).getD (sC ls os ts k).winner 0:=rfl;lia
   refine ⟨_,rfl,_,rfl,_,rfl,bp,_,_,_,rfl,rfl,SqT.of (s1 _ _ hbp),J8 (j:=2) rfl,xc,ls,os,ts,m,i,_,rfl,F0'.same s1,cp,hi,hB,fun p c H2 s2 hp FL=>?_⟩;exact ke p H2 s2 (fun e=>by rw [e,s2 _ _ hd1] at hp;cases hp) ⟨c,hp,FL⟩
  ·rw [hxl] at rf;exact kq d H1 hd s1 ⟨ys,hd1,rf⟩
def spRefA (C CH CR CB:Addr) (cs:Kd->Addr):Sp:=fun vs H Q E=>∃ (xc q:Addr) (ls:List Int) (os:List Nat) (ts:List Bool) (m:Nat) (b o lv:Int),vs=[.ref xc,.ref q]/\ChF C CH CR cs H xc ls os ts m/\H q=some (.tup [.int b,.int o,.int lv])/\
 ((∃ bn:Nat,b=bn/\Adr (bsC ls os ts m) bn o lv)->Q .non H)/\(¬ (∃ bn:Nat,b=bn/\Adr (bsC ls os ts m) bn o lv)->E (.ref CB) none H)
theorem scRefA:FnScope ["chart","told","band"] ["chart","told"] (J7 sRefA):=fS
theorem ok_refA {f  C CH CR CB : Addr} {fd  : FuncData} {cs : Kd -> Addr} (F : Fun K "refuse_address" "refuse_address" sRefA f fd) (T : TxtR mg) (TH : TxtCh K CH) (TB : TxtX K mg "BadAddress" CB)
 :
    FnOk P w K mg base (Exc1 P w) 1 f fd ["chart", "told"] (spRefA C CH CR CB cs) := by
  refine F.okX scRefA (fun vs H Q E h => ?_) (fun cdv A outer s H vs Q E hr h => ?_)
  · obtain ⟨xc, q, ls, os, ts, m, b, o, lv, rfl, _⟩ := h
    rfl
  · obtain ⟨xc, q, ls, os, ts, m, b, o, lv, rfl, F0, hq, k, kx⟩ := h
    refine ⟨_, (J1 (ps_if (PW.pt (pw_or (Jr op_lt (pe_ix Ji (pv 1) Jb (fun _ _ => rfl)) Jb (J13 _)) (J6n (Jr op_ge (pe_ix Ji (pv 1) Jb (fun _ _ => rfl)) (Jn Jk (by rfl) T.len boot_len (J0 (J9 (pv 0) rfl) J4)) (J13 _))))) (J6 (J3o rfl TB.mg TB.ex)) Jx)
      (J1 (Jh (i := 2) scRefA.nd rfl (Or.inl rfl) (pe_ix Ji (J9 (pv 0) rfl) (pe_ix Ji (pv 1) Jb (fun _ _ => rfl)) (fun _ _ => rfl)))
      (J1 (ps_if (PW.pt (pw_or (Jr op_lt (pe_ix Ji (pv 1) Jb (fun _ _ => rfl)) Jb (J13 _)) (J6n (Jr op_ge (pe_ix Ji (pv 1) Jb (fun _ _ => rfl)) (pe_ix Ji (pv 2) Jb (fun _ _ => rfl)) (J13 _))))) (J6 (J3o rfl TB.mg TB.ex)) Jx)
      (J6 (ps_if (PW.pt (pw_or (Jr op_lt (pe_ix Ji (pv 1) Jb (fun _ _ => rfl)) Jb (J13 _)) (J6n (Jr op_ge (pe_ix Ji (pv 1) Jb (fun _ _ => rfl)) (pe_ix Ji (pv 2) Jb (fun _ _ => rfl)) (J13 _))))) (J6 (J3o rfl TB.mg TB.ex)) Jx))))), ?_⟩
    obtain ⟨xl, A0, L0⟩ := F0;obtain ⟨dq, fs, pr, ps, pt, pb, xr, xs, xt, xb, h0, ⟨lL, lR, lS, lT, lB⟩, ⟨h1, h2, h3, h4⟩, r1, r2, r3, r4⟩ := A0.ex;have hxl : xb.length = (bsC ls os ts m).length := r4.len;refine ⟨_, rfl, q, _, _, _, rfl, rfl, SqT.of hq, J8 (j := 0) rfl, _, _, rfl, rfl, _, rfl, ?_⟩;by_cases c0 : b < 0
    · exact iteDT c0 (kx fun ⟨bn, e, _⟩ => by lia)
    refine iteD c0 ?_;refine ⟨_, rfl, q, _, _, _, rfl, rfl, SqT.of hq, J8 (j := 0) rfl, _, rfl, xc, CH, dq, fs, _, rfl, h0, TH.cl, TH.nB, lB, pb, _, rfl, .inr (SqT.of h4), _, _, rfl, rfl, _, rfl, ?_⟩;by_cases c1 : b >= (xb.length : Int)
    · exact iteDT c1 (kx fun ⟨bn, e, a⟩ => by have := a.hb; lia)
    refine iteD c1 ?_;obtain ⟨bn, rfl⟩ : ∃ bn : Nat, b = bn := ⟨b.toNat, by lia⟩;have hb : bn < (bsC ls os ts m).length := by lia
    obtain ⟨bp, ebp, hbp⟩ := r4.at_ bn hb;have hbp : H bp = some (.tup (bandV ((bsC ls os ts m).getD bn bz0))) := hbp;refine ⟨_, rfl, xc, CH, dq, fs, _, rfl, h0, TH.cl, TH.nB, lB, _, rfl, q, _, _, _, rfl, rfl, SqT.of hq, J8 (j := 0) rfl, pb, _, _, _, rfl, rfl, SqT.of h4, J8 ebp, ?_⟩;have inv : ∀ {A : Prop}, (Adr (bsC ls os ts m) bn o lv -> False) -> ¬ (∃ bn' : Nat, (bn : Int) = bn' /\ Adr (bsC ls os ts m) bn' o lv) := fun {A} h h9 => by
      obtain ⟨bn', e, a⟩ := h9;obtain rfl : bn = bn' := by lia
      exact h a
    refine ⟨_, rfl, q, _, _, _, rfl, rfl, SqT.of hq, J8 (j := 1) rfl, _, _, rfl, rfl, _, rfl, ?_⟩;by_cases c2 : o < 0
    · exact iteDT c2 (kx (inv (A := True) fun a => by have := a.o0; lia))
    refine iteD c2 ?_;refine ⟨_, rfl, q, _, _, _, rfl, rfl, SqT.of hq, J8 (j := 1) rfl, _, rfl, bp, _, _, _, rfl, rfl, SqT.of hbp, J8 (j := 1) rfl, _, _, rfl, rfl, _, rfl, ?_⟩;by_cases c3 : o >= ((bsC ls os ts m).getD bn bz0).2.1
    · exact iteDT c3 (kx (inv (A := True) fun a => by have := a.o1; lia))
    refine iteD c3 ?_;refine ⟨_, rfl, q, _, _, _, rfl, rfl, SqT.of hq, J8 (j := 2) rfl, _, _, rfl, rfl, _, rfl, ?_⟩;by_cases c4 : lv < 0
    · exact iteDT c4 (kx (inv (A := True) fun a => by have := a.l0; lia))
    refine iteD c4 ?_;refine ⟨_, rfl, q, _, _, _, rfl, rfl, SqT.of hq, J8 (j := 2) rfl, _, rfl, bp, _, _, _, rfl, rfl, SqT.of hbp, J8 (j := 2) rfl, _, _, rfl, rfl, _, rfl, ?_⟩;by_cases c5 : lv >= ((bsC ls os ts m).getD bn bz0).2.2.1
    · exact iteDT c5 (kx (inv (A := True) fun a => by have := a.l1; lia))
    exact iteD c5 (k ⟨bn, rfl, hb, by lia, by lia, by lia, by lia⟩)
def spGoneB (C CH CR CA:Addr) (cs:Kd->Addr):Sp:=fun vs H Q _=>∃ (xc qa:Addr) (ls:List Int) (os:List Nat) (ts:List Bool) (m k j j':Nat) (y o due own tms due' y':Int),vs=[.ref xc,.int (k:Nat),.int y,.ref qa]/\ChF C CH CR cs H xc ls os ts m/\ChP ls os ts m/\k < m/\PartAt CA H qa own tms j' due'/\LetAt (rC ls os ts (k + 1)) y j o/\PartP (gC ls os ts) (pcC ls os ts) (rC ls os ts k) (tC' ls os ts k) (sC ls os ts k) y j due own tms j' due' y'/\∀ H',Same H H'->Q (.int y') H'
theorem scGoneB:FnScope ["chart","at","y","part","gone"] ["chart","at","y","part"] (J7 sGoneB):=fS
theorem ok_goneB {f fRG fSH CO C CH CR CA:Addr} {fd fdRG fdSH:FuncData} {cs:Kd->Addr} (F:Fun K "gone_by_part" "gone_by_part" sGoneB f fd) (TR:TxtRest K CR) (TS:TxtS K cs) (TH:TxtCh K CH) (TP:TxtPa K CA)
  (GRG:FnOk P w K mg base (Exc1 P w) 3 fRG fdRG ["rest","y"] (spRGoes CO CR)) (bRG:Binds K fdRG ["rest","y"] []) (mRG:mg "rest_goes"=some (.ref fRG)) (kRG:keepIn K (.ref fRG)=true)
  (HO:∀ k,HasM P w K mg base CX0 1 "own_first" ["self"] (spOwn k) (cs k))
  (GSH:FnOk P w K mg base CX0 1 fSH fdSH ["chart","at"] (spShare C CH CR cs)) (bSH:Binds K fdSH ["chart","at"] []) (mSH:mg "share_of"=some (.ref fSH)) (kSH:keepIn K (.ref fSH)=true) :
  FnOk P w K mg base CX0 4 f fd ["chart","at","y","part"] (spGoneB C CH CR CA cs):=by
 refine F.ok scGoneB (fun vs H Q E h=>?_) (fun cdv A outer s H vs Q E hr h=>?_)
 ·obtain ⟨xc,qa,ls,os,ts,m,k,j,j',y,o,due,own,tms,due',y',rfl,_⟩:=h;rfl
 ·obtain ⟨xc,qa,ls,os,ts,m,k,j,j',y,o,due,own,tms,due',y',rfl,F0,cp,hk,Pa,A,Pt,kq⟩:=h;have hr1:Room 1 _:=rm hr;have hr3:Room 3 _:=rm hr;refine ⟨_,(J1 (ps_if (PW.pt (pw_and (Jr op_eq (J9 (pv 3) rfl) Jb (J13 _)) (pw_and1 (Jr op_eq (J9 (pv 3) rfl) Jb (J13 _))))) (J6 (Jl (pv 2))) Jx)
   (J1 (Jh (i:=4) scGoneB.nd rfl (Or.inl rfl) (Jc GRG hr3 rfl mRG kRG bRG .nil passF (J0 (pe_ix Ji (J9 (pv 0) rfl) (pv 1) (fun _ _=>rfl)) (J0 (pv 2) J4))))
   (J1 (ps_if (J2o (J2x (sp:=spOwn) (cls:=cs) (pe_ix Ji (J9 (pv 0) rfl) (pv 1) (fun _ _=>rfl)) HO hr1 pass0)) (J6 (Jl (pe_op J2a (pv 4) (pe_op J2l (J9 (pv 3) rfl) (Jc GSH hr1 rfl mSH kSH bSH .nil pass0 (J0 (pv 0) (J0 (pv 1) J4))))))) Jx)
   (J6 (Jl (pe_op J19 (pv 4) (pe_op J2l (pe_op J2a (J9 (pv 3) rfl) Jb) (Jc GSH hr1 rfl mSH kSH bSH .nil pass0 (J0 (pv 0) (J0 (pv 1) J4)))))))))),?_⟩
  have F0':=F0;obtain ⟨xl,A0,L0⟩:=F0;obtain ⟨dq,fs,pr,ps,pt,pb,xr,xs,xt,xb,h0,⟨lL,lR,lS,lT,lB⟩,⟨h1,h2,h3,h4⟩,r1,r2,r3,r4⟩:=A0.ex;obtain ⟨yi,eyi,Ri⟩:=r1.at_ k (by lia);obtain ⟨yj,eyj,Rj⟩:=r1.at_ (k + 1) (by lia);obtain ⟨sp,esp,⟨dsp,hsp⟩⟩:=r2.at_ k hk;obtain ⟨tk,etk,htk⟩:=r3.at_ k (by lia);obtain ⟨di,fi,it,ib,il,iu,i0,⟨i1,i2,i3,i4,i5⟩,o1,o2,o3,o4⟩:=Ri.ex;obtain ⟨dj,fj,_,_,_,_,j0,⟨_,_,_,_,j5⟩,_⟩:=Rj.ex;obtain ⟨dpa,fpa,pa0,paO,paT,paL,paD⟩:=Pa.ex;have F:=cp.stp hk;obtain ⟨t1,t2⟩:=F.tms;have ey:=Pt.go_;have yin:0<=y/\y < (rC ls os ts k).size:=by
   have h:0<=y/\y < (rC ls os ts (k + 1)).size:=A.inside (F.okl:(rC ls os ts (k + 1)).Ok);have:=cp.sizes (i:=k) (k:=k + 1) (by lia) (by lia);lia
  have ownone:own=1->(sC ls os ts k).own=true:=Pt.own1;by_cases c1:own=0
  ·refine ⟨_,rfl,qa,CA,dpa,fpa,_,rfl,pa0,TP.cl,TP.nO,paO,rfl,_,rfl,iteDT (congrArg V.int c1) ?_⟩;by_cases c2:tms=0
   ·refine ⟨_,rfl,qa,CA,dpa,fpa,_,rfl,pa0,TP.cl,TP.nT,paT,rfl,_,rfl,iteDT (congrArg V.int c2) ⟨_,rfl,?_⟩⟩;rw [if_pos ⟨c1,c2⟩] at ey;rw [<- ey];exact kq H (Same.refl _)
   have nz:¬ (own=0/\tms=0):=fun h=>c2 h.2;have hh:=Pt.nh.resolve_left nz;obtain ⟨s1,s2,s3⟩:=F.spn hh;rw [if_neg nz] at ey;refine ⟨_,rfl,qa,CA,dpa,fpa,_,rfl,pa0,TP.cl,TP.nT,paT,rfl,_,rfl,iteD (fun e=>c2 (V.int.inj e)) ?_⟩;refine ⟨_,rfl,xc,CH,dq,fs,_,rfl,h0,TH.cl,TH.nR,lR,_,rfl,pr,_,_,_,rfl,rfl,SqT.of (h1),J8 eyi,_,rfl,yi,rC ls os ts k,y,rfl,Ri,F.ok,fun z H1 sm g=>?_,fun n=>n yin⟩;obtain rfl:=go_of F.ok g;refine ⟨_,rfl,xc,CH,dq,fs,_,rfl,sm _ _ h0,TH.cl,TH.nS,lS,_,rfl,ps,_,_,_,rfl,rfl,SqT.of (sm _ _ h2),J8 esp,sp,kd (sC ls os ts k),dsp,stF (sC ls os ts k),rfl,sm _ _ hsp,J3l _ (by decide +kernel) (by decide +kernel) (by decide +kernel),sp,rfl,_,rfl,?_⟩;rw [own_kd]
   cases hown:(sC ls os ts k).own with
   | true =>
    rw [hown,if_pos rfl] at ey;refine iteT ⟨_,rfl,_,rfl,qa,CA,dpa,fpa,_,rfl,sm _ _ pa0,TP.cl,TP.nT,paT,_,rfl,_,rfl,xc,ls,os,ts,m,k,rfl,F0'.same sm,cp,hk,?_⟩;rw [show (rC ls os ts (k + 1)).size=((sC ls os ts k).behind (rC ls os ts k)).size from rfl,s3];refine ⟨_,_,rfl,rfl,big30 Pt.t.1 (by have:=Pt.t.2;lia) (by lia) s2,_,_,rfl,rfl,?_⟩;rw [ey] at kq;exact kq H1 sm
   | false =>
    rw [hown,if_neg (by decide)] at ey;have t0:1<=tms:=by
     have q:=Pt.t.1;rcases Pt.o with e | e
     ·have:¬ tms=0:=fun e2=>nz ⟨e,e2⟩;lia
     ·exact absurd (ownone e) (by rw [hown];decide)
    refine iteF ⟨_,rfl,_,rfl,qa,CA,dpa,fpa,_,rfl,sm _ _ pa0,TP.cl,TP.nT,paT,_,_,rfl,rfl,_,rfl,_,rfl,xc,ls,os,ts,m,k,rfl,F0'.same sm,cp,hk,?_⟩;rw [show (rC ls os ts (k + 1)).size=((sC ls os ts k).behind (rC ls os ts k)).size from rfl,s3];refine ⟨_,_,rfl,rfl,big30 (by lia) (by have:=Pt.t.2;lia) (by lia) s2,_,_,rfl,rfl,?_⟩;rw [ey] at kq;exact kq H1 sm
  have nz:¬ (own=0/\tms=0):=fun h=>c1 h.1;have hh:=Pt.nh.resolve_left nz;obtain ⟨s1,s2,s3⟩:=F.spn hh;rw [if_neg nz] at ey;refine ⟨_,rfl,qa,CA,dpa,fpa,_,rfl,pa0,TP.cl,TP.nO,paO,rfl,_,rfl,iteD (fun e=>c1 (V.int.inj e)) (iteF ?_)⟩;refine ⟨_,rfl,xc,CH,dq,fs,_,rfl,h0,TH.cl,TH.nR,lR,_,rfl,pr,_,_,_,rfl,rfl,SqT.of (h1),J8 eyi,_,rfl,yi,rC ls os ts k,y,rfl,Ri,F.ok,fun z H1 sm g=>?_,fun n=>n yin⟩;obtain rfl:=go_of F.ok g;refine ⟨_,rfl,xc,CH,dq,fs,_,rfl,sm _ _ h0,TH.cl,TH.nS,lS,_,rfl,ps,_,_,_,rfl,rfl,SqT.of (sm _ _ h2),J8 esp,sp,kd (sC ls os ts k),dsp,stF (sC ls os ts k),rfl,sm _ _ hsp,J3l _ (by decide +kernel) (by decide +kernel) (by decide +kernel),sp,rfl,_,rfl,?_⟩;rw [own_kd]
  cases hown:(sC ls os ts k).own with
  | true =>
   rw [hown,if_pos rfl] at ey;refine iteT ⟨_,rfl,_,rfl,qa,CA,dpa,fpa,_,rfl,sm _ _ pa0,TP.cl,TP.nT,paT,_,rfl,_,rfl,xc,ls,os,ts,m,k,rfl,F0'.same sm,cp,hk,?_⟩;rw [show (rC ls os ts (k + 1)).size=((sC ls os ts k).behind (rC ls os ts k)).size from rfl,s3];refine ⟨_,_,rfl,rfl,big30 Pt.t.1 (by have:=Pt.t.2;lia) (by lia) s2,_,_,rfl,rfl,?_⟩;rw [ey] at kq;exact kq H1 sm
  | false =>
   rw [hown,if_neg (by decide)] at ey;have t0:1<=tms:=by
    have q:=Pt.t.1;rcases Pt.o with e | e
    ·have:¬ tms=0:=fun e2=>nz ⟨e,e2⟩;lia
    ·exact absurd (ownone e) (by rw [hown];decide)
   refine iteF ⟨_,rfl,_,rfl,qa,CA,dpa,fpa,_,rfl,sm _ _ pa0,TP.cl,TP.nT,paT,_,_,rfl,rfl,_,rfl,_,rfl,xc,ls,os,ts,m,k,rfl,F0'.same sm,cp,hk,?_⟩;rw [show (rC ls os ts (k + 1)).size=((sC ls os ts k).behind (rC ls os ts k)).size from rfl,s3];refine ⟨_,_,rfl,rfl,big30 (by lia) (by have:=Pt.t.2;lia) (by lia) s2,_,_,rfl,rfl,?_⟩;rw [ey] at kq;exact kq H1 sm
def spPlace (C CH CR CB CA:Addr) (cs:Kd->Addr):Sp:=fun vs H Q E=>∃ (xc q:Addr) (ls:List Int) (os:List Nat) (ts:List Bool) (m:Nat) (b o lv:Int),vs=[.ref xc,.ref q]/\ChF C CH CR cs H xc ls os ts m/\ChP ls os ts m/\H q=some (.tup [.int b,.int o,.int lv])/\
 (∀ (bn:Nat) H',Same H H'->b=bn->Adr (bsC ls os ts m) bn o lv->Q (.int (plOf (gC ls os ts) (bsC ls os ts m) bn o lv)) H')/\(¬ (∃ bn:Nat,b=bn/\Adr (bsC ls os ts m) bn o lv)->E (.ref CB) none H)
theorem scPlace:FnScope ["chart","told","home","y","letter","due","at","part"] ["chart","told"] (J7 sPlace):=fS
theorem ok_place {f fRA fHM fPD fGP C CH CR CB CA:Addr} {fd fdRA fdHM fdPD fdGP:FuncData} {cs:Kd->Addr} (F:Fun K "place" "place" sPlace f fd) (T:TxtR mg) (TR:TxtRest K CR) (TS:TxtS K cs) (TH:TxtCh K CH) (TP:TxtPa K CA)
  (GRA:FnOk P w K mg base (Exc1 P w) 1 fRA fdRA ["chart","told"] (spRefA C CH CR CB cs)) (bRA:Binds K fdRA ["chart","told"] []) (mRA:mg "refuse_address"=some (.ref fRA)) (kRA:keepIn K (.ref fRA)=true)
  (GHM:FnOk P w K mg base CX0 2 fHM fdHM ["chart"] (spHomes C CH CR cs)) (bHM:Binds K fdHM ["chart"] []) (mHM:mg "homes_of"=some (.ref fHM)) (kHM:keepIn K (.ref fHM)=true)
  (GPD:FnOk P w K mg base CX0 4 fPD fdPD ["chart","at","letter","due"] (spPartD C CH CR CA cs)) (bPD:Binds K fdPD ["chart","at","letter","due"] []) (mPD:mg "part_done"=some (.ref fPD)) (kPD:keepIn K (.ref fPD)=true)
  (GGP:FnOk P w K mg base CX0 4 fGP fdGP ["chart","at","y","part"] (spGoneB C CH CR CA cs)) (bGP:Binds K fdGP ["chart","at","y","part"] []) (mGP:mg "gone_by_part"=some (.ref fGP)) (kGP:keepIn K (.ref fGP)=true) :
  FnOk P w K mg base (Exc1 P w) 6 f fd ["chart","told"] (spPlace C CH CR CB CA cs):=by
 refine F.okX scPlace (fun vs H Q E h=>?_) (fun cdv A outer s H vs Q E hr h=>?_)
 ·obtain ⟨xc,q,ls,os,ts,m,b,o,lv,rfl,_⟩:=h;rfl
 ·obtain ⟨xc,q,ls,os,ts,m,b,o,lv,rfl,F0,cp,hq,kk,kx⟩:=h;have hr1:Room 1 _:=rm hr;have hr2:Room 2 _:=rm hr;have hr4:Room 4 _:=rm hr;refine ⟨_,(J1 (J1r (Jc GRA hr1 rfl mRA kRA bRA .nil pass1 (J0 (pv 0) (J0 (pv 1) J4))))
   (J1 (Jh (i:=2) scPlace.nd rfl (Or.inl rfl) (pe_ix J27 (Jc GHM hr2 rfl mHM kHM bHM .nil pass0 (J0 (pv 0) J4)) (pe_ix Ji (pv 1) Jb (fun _ _=>rfl)) (fun _ _=>rfl)))
   (J1 (Jh (i:=3) scPlace.nd rfl (Or.inl rfl) (pe_op J19 (pe_ix Ji (pe_ix Ji (J9 (pv 0) rfl) (pe_ix Ji (pv 1) Jb (fun _ _=>rfl)) (fun _ _=>rfl)) Jb (fun _ _=>rfl)) (pe_ix Ji (pv 1) Jb (fun _ _=>rfl))))
   (J1 (Jh (i:=4) scPlace.nd rfl (Or.inl rfl) (J9 (pe_ix Ji (J9 (pv 0) rfl) (pv 2) (fun _ _=>rfl)) rfl))
   (J1 (Jh (i:=5) scPlace.nd rfl (Or.inl rfl) (pe_ix Ji (pv 1) Jb (fun _ _=>rfl)))
   (J1 (ps_nox (J4g PassesOwn.never rfl (pi_down rfl T.range (J0 (pe_op J2a (pv 2) Jb) (J0 (pe_un J6e Jb) (J0 (pe_un J6e Jb) J4)))) (J1p (i:=6) scPlace.nd rfl (Or.inl rfl))
    (J1 (Jh (i:=7) scPlace.nd rfl (Or.inl rfl) (Jc GPD hr4 rfl mPD kPD bPD .nil pass0 (J0 (pv 0) (J0 (pv 6) (J0 (pv 4) (J0 (pv 5) J4))))))
    (J1 (Jh (i:=3) scPlace.nd rfl (Or.inl rfl) (Jc GGP hr4 rfl mGP kGP bGP .nil pass0 (J0 (pv 0) (J0 (pv 6) (J0 (pv 3) (J0 (pv 7) J4))))))
    (J1 (Jh (i:=4) scPlace.nd rfl (Or.inl rfl) (J9 (pv 7) rfl))
    (J6 (Jh (i:=5) scPlace.nd rfl (Or.inl rfl) (J9 (pv 7) rfl))))))))
   (J6 (Jl (pv 3))))))))),?_⟩
  have F0':=F0;obtain ⟨xl,A0,L0⟩:=F0;obtain ⟨dq,fs,pr,ps,pt,pb,xr,xs,xt,xb,h0,⟨lL,lR,lS,lT,lB⟩,⟨h1,h2,h3,h4⟩,r1,r2,r3,r4⟩:=A0.ex;refine ⟨_,rfl,_,rfl,xc,q,ls,os,ts,m,b,o,lv,rfl,F0',hq,fun ⟨bn,eb,Ad⟩=>?_,kx⟩;subst eb;have S:=cp.sys;have fw:=cp.few;obtain ⟨bp,ebp,hbp⟩:=r4.at_ bn Ad.hb;have hbp:H bp=some (.tup (bandV ((bsC ls os ts m).getD bn bz0))):=hbp;obtain ⟨k,ehk,hk,hh,ebd⟩:=J63 Ad.hb;obtain ⟨Bn,b1,b2⟩:=cp.cok.band cp.one (k:=k) (fun i hi=>cp.lg i (by lia)) hh;have a1:=Ad.o0;have a2:=Ad.o1;have a3:=Ad.l0;have a4:=Ad.l1;have target:=kk bn;unfold plOf at target;have ebd:(bsC ls os ts m).getD bn bz0=bandC (chN (Jz ls os ts) k):=ebd;rw [ebd] at hbp a2 a4 target;have F:=cp.stp hk;obtain ⟨z1,ez1⟩:∃ z1,z1=(rC ls os ts (k + 1)).size:=⟨_,rfl⟩;have b1:(bandC (chN (Jz ls os ts) k)).1=z1:=b1.trans ez1.symm;have b2:(bandC (chN (Jz ls os ts) k)).1 + (bandC (chN (Jz ls os ts) k)).2.1=(rC ls os ts k).size:=b2;rw [b1] at b2 target;refine ⟨_,rfl,xc,ls,os,ts,m,rfl,F0',cp,fun d H5 s5 hd=>?_⟩;refine ⟨_,rfl,q,_,_,_,rfl,rfl,SqT.of (s5 _ _ hq),J8 (j:=0) rfl,d,_,_,_,rfl,rfl,SqL.of hd,J8 (show (nV (J64 (Jz ls os ts) m))[bn]?=some (V.int ((k:Nat):Int)) from ?_),?_⟩
  ·rw [nV_eq,getElem?_map,ehk];rfl
  refine ⟨_,rfl,xc,CH,dq,fs,_,rfl,s5 _ _ h0,TH.cl,TH.nB,lB,_,rfl,q,_,_,_,rfl,rfl,SqT.of (s5 _ _ hq),J8 (j:=0) rfl,pb,_,_,_,rfl,rfl,SqT.of (s5 _ _ h4),J8 ebp,bp,_,_,_,rfl,rfl,SqT.of (s5 _ _ hbp),J8 (j:=0) rfl,_,rfl,q,_,_,_,rfl,rfl,SqT.of (s5 _ _ hq),J8 (j:=1) rfl,_,_,rfl,rfl,?_⟩;rw [b1];obtain ⟨sp,esp,⟨dsp,hsp⟩⟩:=r2.at_ k hk;refine ⟨_,rfl,xc,CH,dq,fs,_,rfl,s5 _ _ h0,TH.cl,TH.nS,lS,_,rfl,ps,_,_,_,rfl,rfl,SqT.of (s5 _ _ h2),J8 esp,sp,cs (kd (sC ls os ts k)),dsp,stF (sC ls os ts k),_,rfl,s5 _ _ hsp,TS.cl _,TS.nW _,stF_w _,?_⟩;refine ⟨_,rfl,q,_,_,_,rfl,rfl,SqT.of (s5 _ _ hq),J8 (j:=2) rfl,?_⟩;have hg:(sC ls os ts k)=.home (sC ls os ts k).winner:=home_is hh;have np:NextP (rC ls os ts k) (.home (sC ls os ts k).winner):=by rw [<- hg];exact F.np
  obtain ⟨_,g2⟩:=home_go F.ok F.ne np;have ebh:((Stp.home (sC ls os ts k).winner).behind (rC ls os ts k)).size=z1:=by rw [<- hg,ez1];rfl
  rw [ebh] at g2;obtain ⟨A0',_⟩:=g2 (z1 + o) (by lia) (by lia);have ehi:(bandC (chN (Jz ls os ts) k)).2.2.1=(tC' ls os ts k).getD (sC ls os ts k).winner 0:=rfl;rw [ehi] at a4;refine ⟨_,rfl,_,_,rfl,rfl,_,rfl,_,rfl,(k:Int) - 1,?_,⟨by lia,by lia⟩,for_its (lo:=(k:Int) - 1) (c:=-1) (n:=((k:Int) - 1 + 1).toNat)
   (fun i σ Hw=>∃ (j:Nat) (y oo due:Int) (v6 v7:Option V),i<=k/\σ=[some (.ref xc),some (.ref q),some (.int (k:Nat)),some (.int y),some (.int (j:Nat)),some (.int due),v6,v7]/\LetAt (rC ls os ts (k - i)) y j oo/\(0<=due/\due < (tC' ls os ts (k - i)).getD j 0)/\itN (gC ls os ts) due.toNat y=itN (gC ls os ts) lv.toNat (z1 + o)/\Same H Hw)
   ⟨_,_,_,_,none,none,Nat.zero_le _,rfl,A0',⟨a3,a4⟩,rfl,s5⟩ ?_ ?_⟩
  ·rfl
  ·rintro i σ Hw hi ⟨j,y,oo,due,v6,v7,_,rfl,A,hd,ei,sw⟩;obtain ⟨k2,hk2⟩:∃ k2,k - i=k2 + 1:=⟨k - i - 1,by lia⟩;rw [hk2] at A hd;have eat:(k:Int) - 1 + (i:Int) * (-1)=((k2:Nat):Int):=by lia
   rw [eat];refine ⟨_,rfl,_,rfl,_,rfl,_,rfl,xc,ls,os,ts,m,k2,j,y,oo,due,rfl,F0'.same sw,cp,by lia,A,hd,fun qa own tms j' due' y' H7 s7 Pa Pt=>?_⟩;have sw7:=sw.trans s7;refine ⟨_,rfl,_,rfl,_,rfl,_,rfl,xc,qa,ls,os,ts,m,k2,j,j',y,oo,due,own,tms,due',y',rfl,F0'.same sw7,cp,by lia,Pa,A,Pt,fun H8 s8=>?_⟩;obtain ⟨dpa,fpa,pa0,paO,paT,paL,paD⟩:=(Pa.same s8).ex;refine ⟨_,rfl,qa,CA,dpa,fpa,_,rfl,pa0,TP.cl,TP.nL,paL,?_⟩;refine ⟨_,rfl,qa,CA,dpa,fpa,_,rfl,pa0,TP.cl,TP.nD,paD,?_⟩;obtain ⟨o',A'⟩:=Pt.at_;have hd':=Pt.d;rw [show k2=k - (i + 1) by lia] at A' hd';exact ⟨j',y',o',due',_,_,by lia,rfl,A',hd',Pt.it.trans ei,sw7.trans s8⟩
  ·rintro σ Hw ⟨j,y,oo,due,v6,v7,_,rfl,A,hd,ei,sw⟩;rw [show k - ((k:Int) - 1 + 1).toNat=0 by lia] at A hd;have one:=cp.one j A.1;have hd2:due < (Jz ls os ts).2.getD j 0:=hd.2;rw [one] at hd2;obtain rfl:due=0:=by have:=hd.1;lia
   refine ⟨_,rfl,?_⟩;have ei:y=itN (gC ls os ts) lv.toNat (z1 + o):=ei;rw [ei];exact target Hw sw rfl Ad
def spOther:Sp:=fun vs H Q _=>∃ (bp:Addr) (b:Band) (o:Int),vs=[.ref bp,.int o]/\H bp=some (.tup (bandV b))/\Q (.int (b.2.1 - 1 - o)) H
theorem scOther:FnScope ["band","offset"] ["band","offset"] (J7 sOther):=fS
theorem ok_other {f   : Addr} {fd  : FuncData}  (F : Fun K "other_offset" "other_offset" sOther f fd) 
 :
    FnOk P w K mg base CX0 1 f fd ["band", "offset"] spOther := by
  refine F.ok scOther (fun vs H Q E h => ?_) (fun cdv A outer s H vs Q E hr h => ?_)
  · obtain ⟨bp, b, o, rfl, _⟩ := h
    rfl
  · obtain ⟨bp, b, o, rfl, hb, q⟩ := h
    refine ⟨_, (J6 (Jl (pe_op J2a (pe_op J2a (pe_ix Ji (pv 0) Jb (fun _ _ => rfl)) Jb) (pv 1)))), ?_⟩;exact ⟨_, rfl, bp, _, _, _, rfl, rfl, SqT.of hb, J8 (j := 1) rfl, _, _, rfl, rfl, _, rfl, _, _, rfl, rfl, q⟩
def spAdAf (C CH CR:Addr) (cs:Kd->Addr):Sp:=fun vs H Q _=>∃ (xc q:Addr) (ls:List Int) (os:List Nat) (ts:List Bool) (m b:Nat) (o lv g:Int),vs=[.ref xc,.ref q,.int g]/\ChF C CH CR cs H xc ls os ts m/\ChP ls os ts m/\H q=some (.tup [.int (b:Nat),.int o,.int lv])/\Adr (bsC ls os ts m) b o lv/\
 ∀ p H',Same H H'->H' p=some (.tup [.int (b:Nat),.int (offA ((bsC ls os ts m).getD b bz0) ((lv + g) / ((bsC ls os ts m).getD b bz0).2.2.1) o),.int ((lv + g) % ((bsC ls os ts m).getD b bz0).2.2.1)])->Q (.ref p) H'
theorem scAdAf:FnScope ["chart","told","goings","band","reached","times_round","offset"] ["chart","told","goings"] (J7 sAdAf):=fS
theorem ok_adaf {f fOO C CH CR:Addr} {fd fdOO:FuncData} {cs:Kd->Addr} (F:Fun K "address_after" "address_after" sAdAf f fd) (TH:TxtCh K CH)
  (GOO:FnOk P w K mg base CX0 1 fOO fdOO ["band","offset"] spOther) (bOO:Binds K fdOO ["band","offset"] []) (mOO:mg "other_offset"=some (.ref fOO)) (kOO:keepIn K (.ref fOO)=true) :
  FnOk P w K mg base CX0 2 f fd ["chart","told","goings"] (spAdAf C CH CR cs):=by
 refine F.ok scAdAf (fun vs H Q E h=>?_) (fun cdv A outer s H vs Q E hr h=>?_)
 ·obtain ⟨xc,q,ls,os,ts,m,b,o,lv,g,rfl,_⟩:=h;rfl
 ·obtain ⟨xc,q,ls,os,ts,m,b,o,lv,g,rfl,F0,cp,hq,Ad,k⟩:=h;have hr1:Room 1 _:=rm hr;refine ⟨_,(J1 (Jh (i:=3) scAdAf.nd rfl (Or.inl rfl) (pe_ix Ji (J9 (pv 0) rfl) (pe_ix Ji (pv 1) Jb (fun _ _=>rfl)) (fun _ _=>rfl)))
   (J1 (Jh (i:=4) scAdAf.nd rfl (Or.inl rfl) (pe_op J19 (pe_ix Ji (pv 1) Jb (fun _ _=>rfl)) (pv 2)))
   (J1 (Jh (i:=5) scAdAf.nd rfl (Or.inl rfl) (pe_op J2q (pv 4) (pe_ix Ji (pv 3) Jb (fun _ _=>rfl))))
   (J1 (ps_cut (Jh (i:=6) scAdAf.nd rfl (Or.inl rfl) (J4i (PW.pt (pw_and (J2o (pe_ix Ji (pv 3) Jb (fun _ _=>rfl))) (pw_and1 (Jr op_eq (pe_op J3r (pv 5) Jb) Jb (J13 _))))) (Jc GOO hr1 rfl mOO kOO bOO .nil pass0 (J0 (pv 3) (J0 (pe_ix Ji (pv 1) Jb (fun _ _=>rfl)) J4))) (pe_ix Ji (pv 1) Jb (fun _ _=>rfl)))))
   (J6 (Jl (J4y (J0 (pe_ix Ji (pv 1) Jb (fun _ _=>rfl)) (J0 (pv 6) (J0 (pe_op J3r (pv 4) (pe_ix Ji (pv 3) Jb (fun _ _=>rfl))) J4)))))))))),?_⟩
  obtain ⟨xl,A0,L0⟩:=F0;obtain ⟨dq,fs,pr,ps,pt,pb,xr,xs,xt,xb,h0,⟨lL,lR,lS,lT,lB⟩,⟨h1,h2,h3,h4⟩,r1,r2,r3,r4⟩:=A0.ex;obtain ⟨bp,ebp,hbp⟩:=r4.at_ b Ad.hb;have hbp:H bp=some (.tup (bandV ((bsC ls os ts m).getD b bz0))):=hbp;have hi:=cp.sys.high Ad.hb;have z0:=cp.z0;generalize hc:(bsC ls os ts m).getD b bz0=c at *;refine ⟨_,rfl,xc,CH,dq,fs,_,rfl,h0,TH.cl,TH.nB,lB,_,rfl,q,_,_,_,rfl,rfl,SqT.of hq,J8 (j:=0) rfl,pb,_,_,_,rfl,rfl,SqT.of h4,J8 ebp,?_⟩;refine ⟨_,rfl,q,_,_,_,rfl,rfl,SqT.of hq,J8 (j:=2) rfl,_,rfl,_,_,rfl,rfl,?_⟩;refine ⟨_,rfl,_,rfl,bp,_,_,_,rfl,rfl,SqT.of hbp,J8 (j:=2) rfl,_,_,rfl,rfl,div30 (show 0 < c.2.2.1 by lia) (show c.2.2.1<=10 ^ 30 by lia),?_⟩;refine ⟨fun σ' H'=>σ'=[some (.ref xc),some (.ref q),some (.int g),some (.ref bp),some (.int (lv + g)),some (.int ((lv + g) / c.2.2.1)),some (.int (offA c ((lv + g) / c.2.2.1) o))]/\H=H',?_,?_⟩
  ·refine ⟨_,rfl,bp,_,_,_,rfl,rfl,SqT.of hbp,J8 (j:=3) rfl,_,rfl,?_⟩;by_cases ct:c.2.2.2=true
   ·refine iteBT ct ?_;refine ⟨_,rfl,_,_,rfl,rfl,(by show (0:Int) < 2;decide),rfl,_,rfl,?_⟩;by_cases cq:(lv + g) / c.2.2.1 % 2=1
    ·refine iteDT (congrArg V.int cq) ?_;refine ⟨_,rfl,_,rfl,q,_,_,_,rfl,rfl,SqT.of hq,J8 (j:=1) rfl,bp,c,o,rfl,hbp,?_,rfl⟩;unfold offA flipB;rw [if_pos cq,if_pos ct];rfl
    ·refine iteD (fun e=>cq (V.int.inj e)) ?_;refine ⟨_,rfl,q,_,_,_,rfl,rfl,SqT.of hq,J8 (j:=1) rfl,?_,rfl⟩;unfold offA;rw [if_neg cq];rfl
   ·refine iteBF ct (iteF ?_);refine ⟨_,rfl,q,_,_,_,rfl,rfl,SqT.of hq,J8 (j:=1) rfl,?_,rfl⟩;unfold offA flipB;rw [if_neg ct,ite_self];rfl
  rintro σ _ ⟨rfl,rfl⟩;refine ⟨_,rfl,q,_,_,_,rfl,rfl,SqT.of hq,J8 (j:=0) rfl,_,rfl,_,rfl,_,rfl,bp,_,_,_,rfl,rfl,SqT.of hbp,J8 (j:=2) rfl,_,_,rfl,rfl,(show 0 < c.2.2.1 by lia),(by show 3<=sizeLine;decide),fun p hp=>k p _ (Ja hp) J3⟩
def spAfter (C CH CR CO:Addr) (cs:Kd->Addr):Sp:=fun vs H Q E=>∃ (xc:Addr) (ls:List Int) (os:List Nat) (ts:List Bool) (m:Nat) (x g:Int),vs=[.ref xc,.int x,.int g]/\ChF C CH CR cs H xc ls os ts m/\ChP ls os ts m/\
 (∀ z H',Same H H'->(0<=z/\z < (J10 ls os ts).size)->(0<=g->itN (gC ls os ts) g.toNat x=z)->(g<=0->itN (gC ls os ts) (-g).toNat z=x)->Q (.int z) H')/\(¬ (0<=x/\x < (J10 ls os ts).size)->E (.ref CO) none H)
theorem scAfter:FnScope ["chart","x","goings"] ["chart","x","goings"] (J7 sAfter):=fS
theorem ok_after {f fAD fAA fPL C CH CR CO CB CA:Addr} {fd fdAD fdAA fdPL:FuncData} {cs:Kd->Addr} (F:Fun K "after" "after" sAfter f fd)
  (GAD:FnOk P w K mg base (Exc1 P w) 5 fAD fdAD ["chart","x"] (spAddr C CH CR CO cs)) (bAD:Binds K fdAD ["chart","x"] []) (mAD:mg "address"=some (.ref fAD)) (kAD:keepIn K (.ref fAD)=true)
  (GAA:FnOk P w K mg base CX0 2 fAA fdAA ["chart","told","goings"] (spAdAf C CH CR cs)) (bAA:Binds K fdAA ["chart","told","goings"] []) (mAA:mg "address_after"=some (.ref fAA)) (kAA:keepIn K (.ref fAA)=true)
  (GPL:FnOk P w K mg base (Exc1 P w) 6 fPL fdPL ["chart","told"] (spPlace C CH CR CB CA cs)) (bPL:Binds K fdPL ["chart","told"] []) (mPL:mg "place"=some (.ref fPL)) (kPL:keepIn K (.ref fPL)=true) :
  FnOk P w K mg base (Exc1 P w) 7 f fd ["chart","x","goings"] (spAfter C CH CR CO cs):=by
 refine F.okX scAfter (fun vs H Q E h=>?_) (fun cdv A outer s H vs Q E hr h=>?_)
 ·obtain ⟨xc,ls,os,ts,m,x,g,rfl,_⟩:=h;rfl
 ·obtain ⟨xc,ls,os,ts,m,x,g,rfl,F0,cp,k,kx⟩:=h;have hr2:Room 2 _:=rm hr;have hr5:Room 5 _:=rm hr;have hr6:Room 6 _:=rm hr;refine ⟨_,(J6 (Jl (Jc GPL hr6 rfl mPL kPL bPL .nil pass1 (J0 (pv 0) (J0 (Jc GAA hr2 rfl mAA kAA bAA .nil pass0 (J0 (pv 0) (J0 (Jc GAD hr5 rfl mAD kAD bAD .nil pass1 (J0 (pv 0) (J0 (pv 1) J4))) (J0 (pv 2) J4)))) J4))))),?_⟩;refine ⟨_,rfl,_,rfl,_,rfl,_,rfl,xc,ls,os,ts,m,x,rfl,F0,cp,fun p b o lv H1 s1 hp Ad ep=>?_,kx⟩;refine ⟨_,rfl,xc,p,ls,os,ts,m,b,o,lv,g,rfl,F0.same s1,cp,hp,Ad,fun p2 H2 s2 hp2=>?_⟩;have S:=cp.sys;have A2:Adr (bsC ls os ts m) b (offA ((bsC ls os ts m).getD b bz0) ((lv + g) / ((bsC ls os ts m).getD b bz0).2.2.1) o) ((lv + g) % ((bsC ls os ts m).getD b bz0).2.2.1):=by
   rcases Int.le_total 0 g with h | h
   ·exact (S.go_on Ad h).1
   ·exact (S.go_back Ad h).1
  refine ⟨xc,p2,ls,os,ts,m,b,_,_,rfl,(F0.same s1).same s2,cp,hp2,fun bn H3 s3 eb A3=>?_,fun n=>absurd ⟨b,rfl,A2⟩ n⟩;obtain rfl:b=bn:=by lia
  refine k _ H3 (s1.trans (s2.trans s3)) (S.pl_in A3) (fun h=>?_) (fun h=>?_)
  ·rw [<- ep];exact (S.go_on Ad h).2
  ·rw [<- ep];exact (S.go_back Ad h).2
def spCell (K:Frag):Sp:=fun vs H Q _=>∃ (a:Addr) (ns:List Int) (j:Nat),vs=[.ref a,.int j]/\SqL K H a (iV ns)/\Q (.int (cellN ns j)) H
theorem scCell:FnScope ["script","k"] ["script","k"] (J7 sCell):=fS
theorem ok_cell {f:Addr} {fd:FuncData} (F:Fun K "_law_cell" "_law_cell" sCell f fd) (T:TxtR mg):FnOk P w K mg base CX0 1 f fd ["script","k"] (spCell K):=by
 refine F.ok scCell (fun vs H Q E h=>?_) (fun cdv A outer s H vs Q E hr h=>?_)
 ·obtain ⟨a,ns,j,rfl,_⟩:=h;rfl
 ·obtain ⟨a,ns,j,rfl,hS,k⟩:=h;refine ⟨_,J1 (ps_if (Jr op_lt (pv 1) (Jn Jk (by rfl) T.len boot_len (J0 (pv 0) J4)) (J13 _)) (J6 (Jl (pe_ix J27 (pv 0) (pv 1) (fun _ _=>rfl)))) Jx) (J6 (Jl Jb)),?_⟩;refine ⟨_,rfl,_,rfl,a,_,rfl,.inl hS,_,_,rfl,rfl,_,rfl,?_⟩;have hl:(iV ns).length=ns.length:=length_map ..;by_cases hj:j < ns.length
  ·refine iteDT (by rw [hl];lia) ?_;exact ⟨_,rfl,_,rfl,a,_,_,_,rfl,rfl,hS,J8 (J15 hj),k⟩
  ·refine iteD (by rw [hl];lia) ?_;have e:cellN ns j=0:=by
    unfold cellN;rw [getD_eq_getElem?_getD,getElem?_eq_none (by lia)];rfl
   rw [e] at k;exact k
structure TxtL (K:Frag) (mg:Str->Option Value):Prop where
 isi:mg "isinstance"=none
 int:mg "int"=none
 bool:mg "bool"=none
 kib:kitOne K (.type "int") (.type "bool")=some false
def spWhole:Sp:=fun vs H Q _=>∃ i:Int,vs=[.int i]/\Q (.bl true) H
theorem scWhole:FnScope ["found"] ["found"] (J7 sWhole):=fS
theorem ok_whole {f:Addr} {fd:FuncData} (F:Fun K "_law_whole" "_law_whole" sWhole f fd) (TL:TxtL K mg):FnOk P w K mg base CX0 1 f fd ["found"] spWhole:=by
 refine F.ok scWhole (fun vs H Q E h=>?_) (fun cdv A outer s H vs Q E hr h=>?_)
 ·obtain ⟨i,rfl,_⟩:=h;rfl
 ·obtain ⟨i,rfl,k⟩:=h;refine ⟨_,J6 (Jl (pe_and (Jn (J33 rfl) (by rfl) TL.isi boot_isinstance (J0 (pv 0) (J0 (pe_bltn (v:=.ty "int") rfl TL.int boot_int rfl) J4)))
   (pe_one (pe_not (Jn (J33 rfl) (by rfl) TL.isi boot_isinstance (J0 (pv 0) (J0 (pe_bltn (v:=.ty "bool") rfl TL.bool PyProof.Rows.boot_bool rfl) J4))))))),?_⟩
  refine ⟨_,rfl,_,.ty "int",.type "int",.type "int",true,rfl,rfl,fun v h=>h,.int i,rfl,true,rfl,iteT ?_⟩;exact ⟨_,rfl,_,.ty "bool",.type "int",.type "bool",false,rfl,rfl,fun v h=>h,.int i,TL.kib,false,rfl,k⟩
def bitsN (ns:List Int):Int:=cellN ns 1 % (1 * 2 ^ (24:Int).toNat)
def turnB (ns:List Int) (k:Nat):Bool:=decide (V.int (Builtin.bitAnd (bitsN ns / 2 ^ k) 1)=V.int 1)
def drawT (ns:List Int) (many:Nat):List Bool:=(List.range many).map (turnB ns)
theorem drawT_len (ns:List Int) (many:Nat):(drawT ns many).length=many:=by simp [drawT]
structure DrawnAt (H:Hp) (p:Addr) (ls:List Int) (os:List Nat) (ts:List Bool):Prop where
 ex:∃ l o t:Addr,H p=some (.tup [.ref l,.ref o,.ref t])/\H l=some (.lst (iV ls))/\H o=some (.lst (nV os))/\H t=some (.lst (bV ts))
theorem DrawnAt.same {H H':Hp} {p:Addr} {ls:List Int} {os:List Nat} {ts:List Bool} (h:DrawnAt H p ls os ts) (s:Same H H'):DrawnAt H' p ls os ts:=by
 obtain ⟨l,o,t,h0,h1,h2,h3⟩:=h.ex;exact ⟨l,o,t,s _ _ h0,s _ _ h1,s _ _ h2,s _ _ h3⟩
theorem drawn_good (ns:List Int) {many:Nat} {top:Int} (h1:1<=many) (h2:many<=24) (h3:0 < top) (h4:top<=10 ^ 28):Good (drawL ns many top) (drawO ns many many):=by
 have hl:=drawL_len ns many top;refine ⟨by lia,by lia,fun a ha=>(drawL_mem h3 a ha).1,?_,by rw [hl];exact J4r ns many many⟩;have e1:=sum_le (drawL ns many top) fun a ha=>(drawL_mem h3 a ha).2;rw [hl] at e1;have e2:=mul_top h2 (Int.le_of_lt h3);have e3:(24:Int) * top<=10 ^ 30:=by
  have:(24:Int) * top<=24 * 10 ^ 28:=by lia
  have:(24:Int) * 10 ^ 28<=10 ^ 30:=by decide
  lia
 lia
def spDrawn (K:Frag):Sp:=fun vs H Q _=>∃ (a:Addr) (ns:List Int) (many:Nat) (top:Int),vs=[.ref a,.int many,.int top]/\SqL K H a (iV ns)/\1<=many/\many<=24/\0 < top/\
 ∀ p H',Same H H'->DrawnAt H' p (drawL ns many top) (drawO ns many many) (drawT ns many)->Q (.ref p) H'
theorem scDrawn:FnScope ["script","many","top","lengths","order","k","bits","turned"] ["script","many","top"] (J7 sDrawn3):=fS
theorem insV (os:List Nat) (i y:Nat):(nV os).take i ++ V.int (y:Int) :: (nV os).drop i=nV (insAt os i y):=by
 show ((os.map fun (n:Nat)=>(n:Int)).map V.int).take i ++ V.int (y:Int) :: ((os.map fun (n:Nat)=>(n:Int)).map V.int).drop i=((insAt os i y).map fun (n:Nat)=>(n:Int)).map V.int;unfold insAt;simp only [map_append,map_cons,List.map_take,List.map_drop]
theorem ok_drawn {f fc:Addr} {fd fdc:FuncData} (F:Fun K "_law_drawn" "_law_drawn" sDrawn3 f fd) (T:TxtR mg) (GC:FnOk P w K mg base CX0 1 fc fdc ["script","k"] (spCell K)) (bC:Binds K fdc ["script","k"] []) (mC:mg "_law_cell"=some (.ref fc)) (kC:keepIn K (.ref fc)=true) :
  FnOk P w K mg base CX0 2 f fd ["script","many","top"] (spDrawn K):=by
 refine F.ok scDrawn (fun vs H Q E h=>?_) (fun cdv A outer s H vs Q E hr h=>?_)
 ·obtain ⟨a,ns,many,top,rfl,_⟩:=h;rfl
 ·obtain ⟨a,ns,many,top,rfl,hS,h1,h2,h3,k⟩:=h;refine ⟨_,J1 (ps_lc (i:=3) (caps:=["script","top"]) (js:=[0,2]) scDrawn.nd rfl (Or.inl rfl) rfl (J2k rfl T.range (J0 (pv 1) J4)) rfl (fun _ _ _ _=>J36)
    (fun C fp s H=>pe_op J19 Jb (pe_op J3r (Jc GC hr rfl mC kC bC .nil pass0 (J0 (pv 1) (J0 (pe_op J19 Jb (pv 0)) J4))) (pv 2)))
    (by decide +kernel) (by decide +kernel) (by decide +kernel) (by intro p hp;simp only [mem_cons,not_mem_nil,or_false] at hp;rcases hp with rfl | rfl <;> rfl))
   (J1 (Jh (i:=4) scDrawn.nd rfl (Or.inl rfl) (J3d J4))
   (J1 (J4g PassesOwn.never rfl (J2k rfl T.range (J0 (pv 1) J4)) (J1p (i:=5) scDrawn.nd rfl (Or.inl rfl))
    (J6 (J1r (pe_bm PySem.F.plainAttrs_list PySem.F.slot_list_insert PySem.F.type_list_insert mt_insert (pv 4)
     (J0 (pe_op J3r (Jc GC hr rfl mC kC bC .nil pass0 (J0 (pv 0) (J0 (pe_op J19 (pe_op J19 Jb (pv 1)) (pv 5)) J4))) (pe_op J19 (pv 5) Jb)) (J0 (pv 5) J4))))))
   (J1 (Jh (i:=6) scDrawn.nd rfl (Or.inr rfl) (pe_op J3r (Jc GC hr rfl mC kC bC .nil pass0 (J0 (pv 0) (J0 Jb J4))) (pe_op op_shl Jb Jb)))
   (J1 (ps_lc (i:=7) (caps:=["bits"]) (js:=[6]) scDrawn.nd rfl (Or.inl rfl) rfl (J2k rfl T.range (J0 (pv 1) J4)) rfl (fun _ _ _ _=>J36)
    (fun C fp s H=>J58 op_eq (pe_op op_and (pe_op op_shr (pv 1) (pv 0)) Jb) Jb (J13 _))
    (by decide +kernel) (by decide +kernel) (by decide +kernel) (by intro p hp;simp only [mem_cons,not_mem_nil,or_false] at hp;rcases hp with rfl;rfl))
   (J6 (Jl (J4y (J0 (pv 3) (J0 (pv 4) (J0 (pv 7) J4)))))))))),?_⟩
  refine ⟨_,rfl,(many:Int),rfl,by lia,by lia,fun d hd=>lc_rng 0 many (fun _=>true) (fun k=>V.int (1 + cellN ns (2 + k) % top)) (by lia) hd (fun i hi H Qt _ kt=>kt H (Same.refl _)) (fun j hj H2 Qe _ s2 ke=>?_) (fun H1 s1 hd1=>?_)⟩
  ·have e:(2 + (0 + (j:Int)))=((2 + j:Nat):Int):=by lia
   exact ⟨_,rfl,_,rfl,_,_,rfl,rfl,a,ns,2 + j,(by rw [<- e];rfl),s2.seq hS,_,rfl,_,_,rfl,rfl,h3,_,_,rfl,rfl,ke _ (Same.refl _)⟩
  have eL:(List.range many).map (fun k=>V.int (1 + cellN ns (2 + k) % top))=iV (drawL ns many top):=by
   show _=(drawL ns many top).map V.int;unfold drawL;rw [map_map];rfl
  rw [J20,eL] at hd1;refine ⟨Nat.zero_le _,fun ol hol=>?_⟩;refine ⟨_,rfl,(many:Int),rfl,by lia,by lia,for_range (lo:=0) (n:=many) (fun i σ H2=>∃ v,σ=[some (.ref a),some (.int many),some (.int top),some (.ref d),some (.ref ol),v,none,none]/\H2 ol=some (.lst (nV (drawO ns many i)))/\Same H1 H2)
   ⟨none,rfl,J3,Ja hol⟩ ?_ ?_⟩
  ·rintro i σ H2 hi ⟨v,rfl,ho,s2⟩;rw [Int.zero_add];obtain ⟨q1,q2⟩:=spotO_le ns many i;have e:(2 + (many:Int) + (i:Int))=((2 + many + i:Nat):Int):=by lia
   have hlen:(nV (drawO ns many i)).length=i:=by
    rw [length_map];unfold natI;rw [length_map,drawO_len]
   refine ⟨_,rfl,.inl ⟨rfl,_,SqL.of ho⟩,_,rfl,_,rfl,_,_,rfl,rfl,_,rfl,_,_,rfl,rfl,a,ns,2 + many + i,(by rw [<- e];rfl),(s1.trans s2).seq hS,_,rfl,_,_,rfl,rfl,_,_,rfl,rfl,(by lia),_,rfl,
    ol,_,spotO ns many i,V.int (i:Int),rfl,(by rw [q2]),ho,(by rw [hlen];exact q1),(by rw [hlen];exact J1e (by lia)),?_⟩
   refine ⟨_,rfl,?_,fun b o z=>?_⟩
   ·rw [J3,insV];rfl
   ·rw [Jg (Jd z hol)];exact s2 _ _ z
  ·rintro σ H2 ⟨v,rfl,ho,s2⟩;have s3:=s1.trans s2;refine ⟨_,rfl,a,ns,1,rfl,s3.seq hS,_,_,rfl,rfl,⟨by decide,by decide,by decide⟩,_,_,rfl,rfl,(by show (0:Int) < 1 * 2 ^ 24;decide),?_⟩;refine ⟨_,rfl,(many:Int),rfl,by lia,by lia,fun tl htl=>lc_rng 0 many (fun _=>true) (fun k=>V.bl (turnB ns k)) (by lia) htl (fun i hi H Qt _ kt=>kt H (Same.refl _)) (fun j hj H4 Qe _ s4 ke=>?_) (fun H4 s4 ht4=>?_)⟩
   ·have e:(0 + (j:Int)).toNat=j:=by lia
    refine ⟨_,rfl,_,rfl,_,_,rfl,rfl,(by lia),_,_,rfl,rfl,rfl,?_⟩;have q:=ke H4 (Same.refl _);unfold turnB bitsN at q;rw [<- e] at q;exact q
   have eT:(List.range many).map (fun k=>V.bl (turnB ns k))=bV (drawT ns many):=by
    show _=(drawT ns many).map V.bl;unfold drawT;rw [map_map];rfl
   rw [J20,eT] at ht4;refine ⟨_,rfl,_,rfl,_,rfl,(by show 3<=sizeLine;decide),fun p hp=>?_⟩;have s5:=s4.trans (Ja (o:=.tup [.ref d,.ref ol,.ref tl]) hp);exact k p _ (s3.trans s5) ⟨d,ol,tl,J3,s5 _ _ (s2 _ _ hd1),s5 _ _ ho,Ja hp _ _ ht4⟩
def manyG (ns:List Int):Nat:=(1 + cellN ns 0 % 5).toNat
def topsG:List Int:=[7,1000,10 ^ 9,7,1000,10 ^ 9,100,10 ^ 28]
def topG (ns:List Int):Int:=topsG.getD (cellN ns 0 / 5 % 8).toNat 0
theorem topG_in (ns:List Int):7<=topG ns/\topG ns<=10 ^ 28:=by
 have h0:0<=cellN ns 0 / 5 % 8:=Int.emod_nonneg _ (by decide);have h1:cellN ns 0 / 5 % 8 < 8:=Int.emod_lt_of_pos _ (by decide);unfold topG;generalize cellN ns 0 / 5 % 8=q at *;obtain ⟨k,rfl⟩:∃ k:Nat,q=k:=⟨q.toNat,by lia⟩;rw [Int.toNat_natCast];have:∀ k < 8,7<=topsG.getD k 0/\topsG.getD k 0<=10 ^ 28:=by decide
 exact this k (by lia)
theorem manyG_in (ns:List Int):1<=manyG ns/\manyG ns<=5:=by
 have h0:0<=cellN ns 0 % 5:=Int.emod_nonneg _ (by decide);have h1:cellN ns 0 % 5 < 5:=Int.emod_lt_of_pos _ (by decide);unfold manyG;lia
def spGreat (K:Frag):Sp:=fun vs H Q _=>∃ (a:Addr) (ns:List Int),vs=[.ref a]/\SqL K H a (iV ns)/\
 ∀ p H' (ls:List Int) (os:List Nat) (ts:List Bool),Same H H'->DrawnAt H' p ls os ts->Good ls os->ts.length=ls.length->ls.length<=5->Q (.ref p) H'
theorem scGreat:FnScope ["script","lead","tops"] ["script"] (J7 sGreat):=fS
theorem ok_great {f fC fD :Addr} {fd fdC fdD:FuncData}  (F:Fun K "_law_great" "_law_great" sGreat f fd) (T:TxtR mg)
  (GC:FnOk P w K mg base CX0 1 fC fdC ["script","k"] (spCell K)) (bC:Binds K fdC ["script","k"] []) (mC:mg "_law_cell"=some (.ref fC)) (kC:keepIn K (.ref fC)=true)
  (GD:FnOk P w K mg base CX0 2 fD fdD ["script","many","top"] (spDrawn K)) (bD:Binds K fdD ["script","many","top"] []) (mD:mg "_law_drawn"=some (.ref fD)) (kD:keepIn K (.ref fD)=true) :
  FnOk P w K mg base CX0 3 f fd ["script"] (spGreat K):=by
 refine F.ok scGreat (fun vs H Q E h=>?_) (fun cdv A outer s H vs Q E hr h=>?_)
 ·obtain ⟨a,ns,rfl,_⟩:=h;rfl
 ·obtain ⟨a,ns,rfl,hS,k⟩:=h;have hr1:Room 1 _:=rm hr;have hr2:Room 2 _:=rm hr;refine ⟨_,(J1 (Jh (i:=1) scGreat.nd rfl (Or.inl rfl) (Jc GC hr1 rfl mC kC bC .nil pass0 (J0 (pv 0) (J0 Jb J4))))
   (J1 (Jh (i:=2) scGreat.nd rfl (Or.inl rfl) (J3d (J0 Jb (J0 Jb (J0 (pe_op op_pow Jb Jb) (J0 Jb (J0 Jb (J0 (pe_op op_pow Jb Jb) (J0 Jb (J0 (pe_op op_pow Jb Jb) J4))))))))))
   (J6 (Jl (Jc GD hr2 rfl mD kD bD .nil pass0 (J0 (pv 0) (J0 (pe_op J19 Jb (pe_op J3r (pv 1) Jb)) (J0 (pe_ix J27 (pv 2) (pe_op J3r (pe_op op_fdiv (pv 1) Jb) (Jn Jk (by rfl) T.len boot_len (J0 (pv 2) J4))) (fun _ _=>rfl)) J4)))))))),?_⟩
  have c0:0<=cellN ns 0 / 5 % 8:=Int.emod_nonneg _ (by decide);have c1:cellN ns 0 / 5 % 8 < 8:=Int.emod_lt_of_pos _ (by decide);obtain ⟨m1,m2⟩:=manyG_in ns;obtain ⟨t1,t2⟩:=topG_in ns;have b0:0<=cellN ns 0 % 5:=Int.emod_nonneg _ (by decide);have em:1 + cellN ns 0 % 5=((manyG ns:Nat):Int):=by unfold manyG;lia
  refine ⟨_,rfl,a,ns,0,rfl,hS,?_⟩;have pw:∀ n:Int,0<=n->n<=100->CPow 10 n:=fun n h0 h1=>⟨h0,by lia,by decide⟩;refine ⟨_,_,rfl,rfl,pw 9 (by decide) (by decide),_,_,rfl,rfl,pw 9 (by decide) (by decide),_,_,rfl,rfl,pw 28 (by decide) (by decide),by show 8<=sizeLine;decide,fun l hl=>?_⟩;have s1:=Ja (o:=.lst (iV topsG)) hl;have hl1:upd H l (.lst (iV topsG)) l=some (.lst (iV topsG)):=J3;have at1:atI (iV topsG) (cellN ns 0 / 5 % 8)=some (V.int (topG ns)):=by
   obtain ⟨k,ek⟩:∃ k:Nat,cellN ns 0 / 5 % 8=k:=⟨(cellN ns 0 / 5 % 8).toNat,by lia⟩;unfold topG;rw [ek,Int.toNat_natCast];exact J8 (J15 (show k < topsG.length by show k < 8;lia))
  have G:=drawn_good ns (many:=manyG ns) (top:=topG ns) (by lia) (by lia) (by lia) t2;have hll:=drawL_len ns (manyG ns) (topG ns);refine ⟨_,rfl,_,rfl,_,_,rfl,rfl,(by show (0:Int) < 5;decide),_,_,rfl,rfl,_,rfl,_,rfl,_,_,rfl,rfl,⟨by decide,by decide⟩,_,rfl,l,_,rfl,.inl (SqL.of hl1),_,_,rfl,rfl,(by show (0:Int) < 8;decide),l,_,_,_,rfl,rfl,SqL.of hl1,at1,a,ns,manyG ns,topG ns,(by rw [<- em];rfl),s1.seq hS,by lia,by lia,by lia,fun p H' s' D=>?_⟩;exact k p H' _ _ _ (s1.trans s') D G (by rw [drawT_len];exact hll.symm) (by lia)
def spPiece:Sp:=fun vs H Q _=>∃ (p:Addr) (ls:List Int) (os:List Nat) (ts:List Bool) (x:Int),vs=[.ref p,.int x]/\DrawnAt H p ls os ts/\Good ls os/\ts.length=ls.length/\(0<=x/\x < ls.sum)/\∀ (i:Nat) o,LetAt (J10 ls os ts) x i o->i < ls.length->Q (.int (i:Nat)) H
theorem scPiece:FnScope ["drawn","x","piece"] ["drawn","x"] (J7 sPiece):=fS
theorem ok_piece {f   : Addr} {fd  : FuncData}  (F : Fun K "_law_piece" "_law_piece" sPiece f fd) 
 :
    FnOk P w K mg base CX0 1 f fd ["drawn", "x"] spPiece := by
  refine F.ok scPiece (fun vs H Q E h => ?_) (fun cdv A outer s H vs Q E hr h => ?_)
  · obtain ⟨p, ls, os, ts, x, rfl, _⟩ := h
    rfl
  · obtain ⟨p, ls, os, ts, x, rfl, D, G, hts, hx, q⟩ := h
    refine ⟨_, (J1 (Jh (i := 2) scPiece.nd rfl (Or.inl rfl) Jb)
      (J1 (J7j PassesOwn.never (Jr op_ge (pv 1) (pe_ix J27 (pe_ix Ji (pv 0) Jb (fun _ _ => rfl)) (pv 2) (fun _ _ => rfl)) (J13 _))
        (J1 (Jh (i := 1) scPiece.nd rfl (Or.inl rfl) (pe_op J2a (pv 1) (pe_ix J27 (pe_ix Ji (pv 0) Jb (fun _ _ => rfl)) (pv 2) (fun _ _ => rfl))))
        (J6 (Jh (i := 2) scPiece.nd rfl (Or.inl rfl) (pe_op J19 (pv 2) Jb)))))
      (J6 (Jl (pv 2))))), ?_⟩
    obtain ⟨dl, ol, dt, d0, d1, d2, d3⟩ := D.ex;have ok : (J10 ls os ts).Ok := J75 G.perm G.pos hts G.hi;have rg : ∀ {i : Nat}, i < ls.length -> (List.range ls.length).getD i 0 = i := fun {i} h => range_getD0 h;have wh : J16 ls (List.range ls.length) ls.length = ls.sum := by
      have h1 := J30 ls (List.range ls.length);rw [length_range] at h1;rw [h1]; unfold lenOf; rw [J23]
    have l1 := G.lo;refine ⟨fun m σ Hw => ∃ i : Nat, i < ls.length /\ J16 ls (List.range ls.length) i <= x /\ m = ls.length - i /\ σ = [some (.ref p), some (.int (x - J16 ls (List.range ls.length) i)), some (.int (i : Nat))] /\ H = Hw, ⟨_, 0, by lia, by rw [J1v]; exact hx.1, rfl, by rw [J1v, Int.sub_zero]; rfl, rfl⟩, ?_⟩;rintro m σ _ ⟨i, hi, ha, rfl, rfl, rfl⟩;have es : J16 ls (List.range ls.length) (i + 1) = J16 ls (List.range ls.length) i + ls.getD i 0 := by rw [J17, rg hi]
    refine ⟨_, rfl, _, rfl, p, _, _, _, rfl, rfl, SqT.of d0, J8 (j := 0) rfl, _, rfl, dl, _, _, _, rfl, rfl, SqL.of d1, J8 (J15 hi), _, _, rfl, rfl, _, rfl, ?_⟩;by_cases c : x - J16 ls (List.range ls.length) i >= ls.getD i 0
    · refine iteDT c ?_
      refine ⟨_, fun σ' H' h => h, ?_⟩;have hi1 : i + 1 < ls.length := by
        apply Classical.byContradiction;intro k;obtain e : i + 1 = ls.length := by lia
        rw [e, wh] at es;lia
      refine ⟨_, rfl, _, rfl, p, _, _, _, rfl, rfl, SqT.of d0, J8 (j := 0) rfl, _, rfl, dl, _, _, _, rfl, rfl, SqL.of d1, J8 (J15 hi), _, _, rfl, rfl, ?_⟩;refine ⟨_, rfl, _, _, rfl, rfl, ls.length - (i + 1), by lia, i + 1, hi1, by lia, rfl, ?_, rfl⟩;rw [es, show (((i + 1 : Nat) : Int)) = (i : Int) + 1 by lia, show x - (J16 ls (List.range ls.length) i + ls.getD i 0) = x - J16 ls (List.range ls.length) i - ls.getD i 0 by lia]; rfl
    · refine iteD c ?_
      have A : AtR (J10 ls os ts).ls (J10 ls os ts).top x i := ⟨by show i < (List.range ls.length).length; rw [length_range]; exact hi, ha, by show x < J16 ls (List.range ls.length) (i + 1); lia⟩;have B := LetAt.of_at ok A;rw [show (J10 ls os ts).top.getD i 0 = i from rg hi] at B;exact ⟨_, rfl, q i _ B hi⟩
end
theorem J46 (ls:List Int) (os:List Nat) (ts:List Bool) (g x:Int):(visC ls os ts g x).length=ls.length:=by unfold visC;rw [length_map,length_range]
theorem J47 {ls:List Int} {os:List Nat} {ts:List Bool} {g x:Int} {p:Nat} (hp:p < ls.length):(visC ls os ts g x).getD p 0=vis (gC ls os ts) (pcC ls os ts) p g.toNat x:=by
 unfold visC;rw [getD_eq_getElem?_getD,getElem?_map,getElem?_range hp];rfl
section
variable {P:Program} {w:World} {K:Frag} {mg:Str->Option Value} {base:Heap}
def spToldV:Sp:=fun vs H Q _=>∃ (p l:Addr) (xs:List Int),vs=[.ref p,.ref l]/\H p=some (.tup (iV xs))/\H l=some (.lst (iV xs))/\∀ H',Same H H'->Q (.bl true) H'
theorem scToldV:FnScope ["found","due","number"] ["found","due"] (J7 sToldV):=fS
theorem ok_toldV {f fW :Addr} {fd fdW:FuncData}  (F:Fun K "_law_told" "_law_told" sToldV f fd) (T:TxtR mg) (hisi:mg "isinstance"=none)
  (GW:FnOk P w K mg base CX0 1 fW fdW ["found"] spWhole) (bW:Binds K fdW ["found"] []) (mW:mg "_law_whole"=some (.ref fW)) (kW:keepIn K (.ref fW)=true) :
  FnOk P w K mg base CX0 2 f fd ["found","due"] spToldV:=by
 refine F.ok scToldV (fun vs H Q E h=>?_) (fun cdv A outer s H vs Q E hr h=>?_)
 ·obtain ⟨p,l,xs,rfl,_⟩:=h;rfl
 ·obtain ⟨p,l,xs,rfl,hp,hl,k⟩:=h;have hr1:Room 1 _:=rm hr;have hu:=hr.units0;refine ⟨_,(J1 (ps_if (PW.pt (pw_or (J4x (J2o (Jn (J33 rfl) (by rfl) hisi boot_isinstance (J0 (pv 0) (J0 (pe_bltn (v:=.ty "tuple") rfl T.tuple boot_tuple rfl) J4))))) (J6n (Jr op_ne (Jn Jk (by rfl) T.len boot_len (J0 (pv 0) J4)) (Jn Jk (by rfl) T.len boot_len (J0 (pv 1) J4)) (J13 _))))) (J6 (Jl pe_bl)) Jx)
   (J1 (J4g PassesOwn.never rfl (J6o (pv 0)) (J1p (i:=2) scToldV.nd rfl (Or.inl rfl))
    (J6 (ps_if (J4x (J2o (Jc GW hr1 rfl mW kW bW .nil pass0 (J0 (pv 2) J4)))) (J6 (Jl pe_bl)) Jx)))
   (J6 (Jl (J58 (op_eqL hu) (Jo J1u (by rfl) T.list boot_list (J0 (pv 0) J4)) (pv 1) (J13 _)))))),?_⟩
  refine ⟨_,rfl,_,.ty "tuple",.type "tuple",.type "tuple",true,rfl,rfl,fun v h=>h,.tup hp,rfl,true,rfl,iteF ?_⟩;refine ⟨_,rfl,p,_,rfl,.inr (SqT.of hp),_,rfl,l,_,rfl,.inl (SqL.of hl),rfl,_,rfl,iteNS rfl ?_⟩;refine ⟨_,rfl,p,rfl,⟨_,SqT.of hp⟩,for_tup (K:=K) (a:=p) (xs:=iV xs) (fun i σ Hw=>∃ v,σ=[some (.ref p),some (.ref l),v]/\H=Hw) ⟨none,rfl,rfl⟩ ?_ ?_ ?_⟩
  ·rintro i σ _ hi ⟨v,rfl,rfl⟩;exact SqT.of hp
  ·rintro i y σ _ hi ⟨v,rfl,rfl⟩;obtain ⟨c,rfl⟩:∃ c,y=V.int c:=by
    have hi:(xs.map V.int)[i]?=some y:=hi;rw [getElem?_map] at hi;obtain ⟨c,_,e⟩:=Option.map_eq_some_iff.mp hi;exact ⟨c,e.symm⟩
   exact ⟨_,rfl,c,rfl,true,rfl,iteF ⟨_,rfl,rfl⟩⟩
  rintro σ _ ⟨v,rfl,rfl⟩;refine ⟨_,rfl,p,_,rfl,.inr (SqT.of hp),fun c hc=>?_⟩;have s1:=Ja (o:=.lst (iV xs)) hc;refine ⟨_,rfl,c,l,_,_,rfl,rfl,SqL.of J3,SqL.of (s1 _ _ hl),Kin.ints _ _,?_⟩;rw [decide_eq_true rfl];exact k _ s1
def spMany:Sp:=fun vs H Q _=>∃ c:Int,vs=[.int c]/\∀ M:Int,(0<=M/\M<=10 ^ 60)->Q (.int M) H
theorem scMany:FnScope ["cell"] ["cell"] (J7 sMany):=fS
theorem ok_many {f   : Addr} {fd  : FuncData}  (F : Fun K "_law_many" "_law_many" sMany f fd) 
 :
    FnOk P w K mg base CX0 1 f fd ["cell"] spMany := by
  refine F.ok scMany (fun vs H Q E h => ?_) (fun cdv A outer s H vs Q E hr h => ?_)
  · obtain ⟨c, rfl, _⟩ := h
    rfl
  · obtain ⟨c, rfl, k⟩ := h
    refine ⟨_, (J1 (ps_if (Jr op_eq (pe_op J3r (pv 0) Jb) Jb (J13 _)) (J6 (Jl (pe_op J3r (pe_op op_fdiv (pv 0) Jb) Jb))) Jx)
      (J6 (Jl (pe_op J3r (pe_op op_fdiv (pv 0) Jb) (pe_op op_mul Jb (pe_op op_pow Jb Jb)))))), ?_⟩
    refine ⟨_, rfl, _, _, rfl, rfl, (by show (0 : Int) < 3; decide), rfl, _, rfl, ?_⟩;have pw : ∀ n : Int, 0 <= n -> n <= 100 -> CPow 10 n := fun n h0 h1 => ⟨h0, by lia, by decide⟩;by_cases cc : c % 3 = 1
    · refine iteDT (congrArg V.int cc) ?_
      refine ⟨_, rfl, _, _, rfl, rfl, ⟨by decide, by decide⟩, _, _, rfl, rfl, (by show (0 : Int) < 50; decide), k _ ?_⟩;have e0 := Int.emod_nonneg (c / 3) (show (50 : Int) ≠ 0 by decide);have e1 := Int.emod_lt_of_pos (c / 3) (show (0 : Int) < 50 by decide);exact ⟨e0, by lia⟩
    · refine iteD (fun e => cc (V.int.inj e)) ?_
      refine ⟨_, rfl, _, _, rfl, rfl, ⟨by decide, by decide⟩, _, _, rfl, rfl, pw 59 (by decide) (by decide), _, _, rfl, rfl, .inl ⟨by decide, by decide⟩, _, _, rfl, rfl, (by show (0 : Int) < 5 * 10 ^ (59 : Int).toNat; decide), k _ ?_⟩;have e0 := Int.emod_nonneg (c / 3) (show (5 * 10 ^ (59 : Int).toNat : Int) ≠ 0 by decide);have e1 := Int.emod_lt_of_pos (c / 3) (show (0 : Int) < 5 * 10 ^ (59 : Int).toNat by decide);have e2 : (5 * 10 ^ (59 : Int).toNat : Int) <= 10 ^ 60 := by decide
      exact ⟨e0, by lia⟩
end
theorem vis_le {f:Int->Int} {pc:Int->Nat} {p:Nat} (y:Int):∀ n:Nat,vis f pc p n y<=n
 | 0=>Int.le_refl _
 | n + 1=>by
  have:=vis_le (f:=f) (pc:=pc) (p:=p) y n;show vis f pc p n y + (if pc (itN f n y)=p then 1 else 0)<=_;split <;> lia
theorem FloorL.eq {ls:List Int} {os:List Nat} {ts:List Bool} {b:Band} {g:Int} {c:List Int} (F:FloorL ls os ts b g c) {o:Int} (h0:0<=o) (h1:o < b.2.1):c=visC ls os ts g (b.1 + o):=by
 refine ext_getElem (by rw [F.len,J46]) fun p h1' h2=>?_;have hp:p < ls.length:=by rw [<- F.len];exact h1'
 have e:∀ (xs:List Int) (h:p < xs.length),xs[p]=xs.getD p 0:=fun xs h=>by rw [getD_eq_getElem?_getD,List.getElem?_eq_getElem h];rfl
 rw [e,e,J47 hp];exact F.at_ o h0 h1 p hp
theorem band_in {ls:List Int} {os:List Nat} {ts:List Bool} {m:Nat} (cp:ChP ls os ts m) {i:Nat} (hi:i < (bsC ls os ts m).length) :
  1<=((bsC ls os ts m).getD i bz0).2.1/\1<=((bsC ls os ts m).getD i bz0).2.2.1/\0<=((bsC ls os ts m).getD i bz0).1/\((bsC ls os ts m).getD i bz0).1 + ((bsC ls os ts m).getD i bz0).2.1<=(J10 ls os ts).size/\((bsC ls os ts m).getD i bz0).2.2.1<=(J10 ls os ts).size:=by
 have S:=cp.sys;have B:=S.bnd _ (J6a hi);have hb:=B.2.1;have hw:=B.1;have f0:=S.pl_in (b:=i) (o:=0) (lv:=0) ⟨hi,by lia,by lia,by lia,by lia⟩;have f1:=S.pl_in (b:=i) (o:=((bsC ls os ts m).getD i bz0).2.1 - 1) (lv:=0) ⟨hi,by lia,by lia,by lia,by lia⟩;have e0:plOf (gC ls os ts) (bsC ls os ts m) i 0 0=((bsC ls os ts m).getD i bz0).1 + 0:=rfl;have e1:plOf (gC ls os ts) (bsC ls os ts m) i (((bsC ls os ts m).getD i bz0).2.1 - 1) 0=((bsC ls os ts m).getD i bz0).1 + (((bsC ls os ts m).getD i bz0).2.1 - 1):=rfl;refine ⟨hw,hb,by lia,by lia,?_⟩;have su:=S.sum;have one:∀ {bs:List Band},(∀ b∈bs,Bnd (gC ls os ts) b)->∀ b∈bs,b.2.2.1<=(bs.map fun b=>b.2.1 * b.2.2.1).sum/\0<=(bs.map fun b=>b.2.1 * b.2.2.1).sum:=by
  intro bs
  induction bs with
  | nil=>intro _ b h;cases h
  | cons a bs ih =>
   intro h b hm;have ha:=h a mem_cons_self;have p1:a.2.2.1<=a.2.1 * a.2.2.1:=by
    have:=Int.mul_le_mul_of_nonneg_right ha.1 (show 0<=a.2.2.1 by have:=ha.2.1;lia);rw [Int.one_mul] at this;exact this
   have p2:=ha.2.1;have nn:0<=(bs.map fun b=>b.2.1 * b.2.2.1).sum:=by
    cases bs with
    | nil=>exact Int.le_refl _
    | cons c cs=>exact (ih (fun b hb=>h b (mem_cons_of_mem _ hb)) c mem_cons_self).2
   simp only [map_cons,sum_cons];rcases mem_cons.mp hm with e | e
   ·subst e;lia
   ·have:=ih (fun b hb=>h b (mem_cons_of_mem _ hb)) b e;lia
 have:=(one S.bnd _ (J6a hi)).1;lia
theorem bands_sum {ls:List Int} {os:List Nat} {ts:List Bool} {m:Nat} (cp:ChP ls os ts m) (fl:∀ i,i < (bsC ls os ts m).length->∃ c,FloorL ls os ts ((bsC ls os ts m).getD i bz0) ((bsC ls os ts m).getD i bz0).2.2.1 c) {p:Nat} (hp:p < ls.length) :
  ((bsC ls os ts m).map fun b=>b.2.1 * vis (gC ls os ts) (pcC ls os ts) p b.2.2.1.toNat (b.1 + 0)).sum=ls.getD p 0:=by
 have S:=cp.sys;have ok:=cp.ok0;have pt:p∈(J10 ls os ts).top:=mem_range.mpr hp;have A:=J3g ok pt;have pl:1<=ls.getD p 0:=ok.row.pos p pt;have Al:LetAt (J10 ls os ts) (posR (J10 ls os ts).ls (J10 ls os ts).top p + (ls.getD p 0 - 1)) p (ls.getD p 0 - 1):=⟨pt,by lia,by show _ < ls.getD p 0;lia,rfl⟩;refine S.pieces (pc:=pcC ls os ts) (p:=p) (a:=posR (J10 ls os ts).ls (J10 ls os ts).top p) (fun b hb=>⟨by have:=(S.bnd b hb).1;lia,fun o h0 h1=>?_⟩) (A.inside ok).1 pl (by have:=(Al.inside ok).2;lia) (fun x h0 h1=>⟨fun e=>?_,fun e=>?_⟩)
 ·obtain ⟨i,hi,rfl⟩:∃ i,i < (bsC ls os ts m).length/\(bsC ls os ts m).getD i bz0=b:=by
   obtain ⟨i,hi,e⟩:=List.getElem_of_mem hb;exact ⟨i,hi,by rw [getD_eq_getElem?_getD,List.getElem?_eq_getElem hi];exact e⟩
  obtain ⟨c,F⟩:=fl i hi;have w1:=(band_in cp hi).1;rw [<- F.at_ o h0 h1 p hp,<- F.at_ 0 (by lia) (by lia) p hp]
 ·obtain ⟨i,B⟩:=ok.row.exists h0 h1;have C:=LetAt.of_at ok B;have ej:=pcC_eq cp C;rw [e] at ej;rw [<- ej] at C;obtain ⟨_,c1,c2,c3⟩:=C;exact ⟨by lia,by have c2:_ < ls.getD p 0:=c2;lia⟩
 ·exact pcC_eq cp (show LetAt (J10 ls os ts) x p (x - posR (J10 ls os ts).ls (J10 ls os ts).top p) from ⟨pt,by lia,by show _ < ls.getD p 0;lia,by lia⟩)
theorem vis_sum {ls:List Int} {os:List Nat} {ts:List Bool} {m:Nat} (cp:ChP ls os ts m) {x:Int} (hx:0<=x/\x < (J10 ls os ts).size):∀ n:Nat,((List.range ls.length).map fun p=>vis (gC ls os ts) (pcC ls os ts) p n x).sum=(n:Int)
 | 0=>J2f fun i _=>rfl
 | n + 1=>by
  have ih:=vis_sum cp hx n;have z:=cp.sys.itin hx.1 hx.2 n;obtain ⟨i,B⟩:=cp.ok0.row.exists z.1 z.2;have C:=LetAt.of_at cp.ok0 B;have ej:=pcC_eq cp C;have hj:(J10 ls os ts).top.getD i 0∈List.range ls.length:=C.1;have e:((List.range ls.length).map fun p=>vis (gC ls os ts) (pcC ls os ts) p (n + 1) x).sum=((List.range ls.length).map fun p=>vis (gC ls os ts) (pcC ls os ts) p n x + (if p=(J10 ls os ts).top.getD i 0 then 1 else 0)).sum:=by
   refine J25 fun p _=>?_;show vis _ _ p n x + (if pcC ls os ts (itN (gC ls os ts) n x)=p then 1 else 0)=_;rw [ej];by_cases c:p=(J10 ls os ts).top.getD i 0
   ·rw [if_pos c,if_pos c.symm]
   ·rw [if_neg c,if_neg (fun q=>c q.symm)]
  rw [e,J2n,ih,J39 nodup_range hj];lia
theorem J76 {ls:List Int} {os:List Nat} {ts:List Bool} {m:Nat} (cp:ChP ls os ts m) {x g:Int} (hx:0<=x/\x < (J10 ls os ts).size) (hg:0<=g):(visC ls os ts g x).sum=g:=by
 unfold visC;rw [vis_sum cp hx];lia
theorem visC_0 {ls:List Int} {os:List Nat} {ts:List Bool} {g x:Int}:∀ v∈visC ls os ts g x,0<=v:=fun v hv=>by
 unfold visC at hv;obtain ⟨p,_,rfl⟩:=mem_map.mp hv;exact vis_0 _ _
theorem FloorL.sum {ls:List Int} {os:List Nat} {ts:List Bool} {m:Nat} (cp:ChP ls os ts m) {i:Nat} (hi:i < (bsC ls os ts m).length) {c:List Int} (F:FloorL ls os ts ((bsC ls os ts m).getD i bz0) ((bsC ls os ts m).getD i bz0).2.2.1 c):(∀ v∈c,0<=v)/\c.sum=((bsC ls os ts m).getD i bz0).2.2.1:=by
 obtain ⟨q1,q2,q3,q4,q5⟩:=band_in cp hi;rw [F.eq (o:=0) (by lia) (by lia)];exact ⟨visC_0,J76 cp ⟨by lia,by lia⟩ (by lia)⟩
end R42
namespace R42
open PySem L2 Rl
section
variable {P:Program} {w:World} {K:Frag} {mg:Str->Option Value} {base:Heap}
def spSumV:Sp:=fun vs H Q _=>∃ (p:Addr) (xs:List Int) (g:Int),vs=[.ref p,.int g]/\H p=some (.tup (iV xs))/\(∀ v∈xs,0<=v)/\xs.sum=g/\Q (.bl true) H
theorem scSumV:FnScope ["found","many","number"] ["found","many"] (J7 sSumV):=fS
theorem ok_sumV {f fW :Addr} {fd fdW:FuncData}  (F:Fun K "_law_sum" "_law_sum" sSumV f fd) (T:TxtR mg) (hisi:mg "isinstance"=none)
  (GW:FnOk P w K mg base CX0 1 fW fdW ["found"] spWhole) (bW:Binds K fdW ["found"] []) (mW:mg "_law_whole"=some (.ref fW)) (kW:keepIn K (.ref fW)=true) :
  FnOk P w K mg base CX0 2 f fd ["found","many"] spSumV:=by
 refine F.ok scSumV (fun vs H Q E h=>?_) (fun cdv A outer s H vs Q E hr h=>?_)
 ·obtain ⟨p,xs,g,rfl,_⟩:=h;rfl
 ·obtain ⟨p,xs,g,rfl,hp,hx,hs,k⟩:=h;have hr1:Room 1 _:=rm hr;refine ⟨_,(J1 (ps_if (J4x (J2o (Jn (J33 rfl) (by rfl) hisi boot_isinstance (J0 (pv 0) (J0 (pe_bltn (v:=.ty "tuple") rfl T.tuple boot_tuple rfl) J4))))) (J6 (Jl pe_bl)) Jx)
   (J1 (J4g PassesOwn.never rfl (J6o (pv 0)) (J1p (i:=2) scSumV.nd rfl (Or.inl rfl))
    (J6 (ps_if (PW.pt (pw_or (J4x (J2o (Jc GW hr1 rfl mW kW bW .nil pass0 (J0 (pv 2) J4)))) (J6n (Jr op_lt (pv 2) Jb (J13 _))))) (J6 (Jl pe_bl)) Jx)))
   (J6 (Jl (J58 op_eq (Jn (J3v rfl) (by rfl) T.sum boot_sum (J0 (pv 0) J4)) (pv 1) (J13 _)))))),?_⟩
  refine ⟨_,rfl,_,.ty "tuple",.type "tuple",.type "tuple",true,rfl,rfl,fun v h=>h,.tup hp,rfl,true,rfl,iteF ?_⟩;refine ⟨_,rfl,p,rfl,⟨_,SqT.of hp⟩,for_tup (K:=K) (a:=p) (xs:=iV xs) (fun i σ Hw=>∃ v,σ=[some (.ref p),some (.int g),v]/\H=Hw) ⟨none,rfl,rfl⟩ ?_ ?_ ?_⟩
  ·rintro i σ _ hi ⟨v,rfl,rfl⟩;exact SqT.of hp
  ·rintro i y σ _ hi ⟨v,rfl,rfl⟩;obtain ⟨c,rfl,hc⟩:∃ c,y=V.int c/\c∈xs:=by
    have hi:(xs.map V.int)[i]?=some y:=hi;rw [getElem?_map] at hi;obtain ⟨c,e1,e⟩:=Option.map_eq_some_iff.mp hi;exact ⟨c,e.symm,List.mem_of_getElem? e1⟩
   have:=hx c hc;refine ⟨_,rfl,c,rfl,true,rfl,iteF ?_⟩;exact ⟨_,rfl,_,_,rfl,rfl,_,rfl,iteD (by lia) ⟨_,rfl,rfl⟩⟩
  rintro σ _ ⟨v,rfl,rfl⟩;refine ⟨_,rfl,p,xs,rfl,.inr (SqT.of hp),_,rfl,rfl,?_⟩;rw [hs,decide_eq_true rfl];exact k
def spBandsM (C CH CR:Addr) (cs:Kd->Addr):Sp:=fun vs H Q _=>∃ (xc p:Addr) (ls:List Int) (os:List Nat) (ts:List Bool) (m:Nat),vs=[.ref xc,.ref p]/\ChF C CH CR cs H xc ls os ts m/\ChP ls os ts m/\DrawnAt H p ls os ts/\∀ H',Same H H'->Q (.bl true) H'
theorem scBandsL2:FnScope ["chart","drawn","totals","told","k","start","width","height","turned"] ["chart","drawn"] (J7 J7g):=fS
theorem ok_bandsV {f fBV fSv C CH CR:Addr} {fd fdBV fdSv:FuncData} {cs:Kd->Addr} (F:Fun K "_law_bands" "_law_bands" J7g f fd) (T:TxtR mg) (TH:TxtCh K CH)
  (GBV:FnOk P w K mg base CX0 7 fBV fdBV ["chart"] (spBandV C CH CR cs)) (bBV:Binds K fdBV ["chart"] []) (mBV:mg "band_visits"=some (.ref fBV)) (kBV:keepIn K (.ref fBV)=true)
  (GSv:FnOk P w K mg base CX0 2 fSv fdSv ["found","many"] spSumV) (bSv:Binds K fdSv ["found","many"] []) (mSv:mg "_law_sum"=some (.ref fSv)) (kSv:keepIn K (.ref fSv)=true) :
  FnOk P w K mg base CX0 8 f fd ["chart","drawn"] (spBandsM C CH CR cs):=by
 refine F.ok scBandsL2 (fun vs H Q E h=>?_) (fun cdv A outer s H vs Q E hr h=>?_)
 ·obtain ⟨xc,dp,ls,os,ts,m,rfl,_⟩:=h;rfl
 ·obtain ⟨xc,dp,ls,os,ts,m,rfl,F0,cp,D,k⟩:=h;have hr2:Room 2 _:=rm hr;have hr7:Room 7 _:=rm hr;have hu:=hr.units0;refine ⟨_,(J1 (Jh (i:=2) scBandsL2.nd rfl (Or.inr rfl) (pe_op op_rep (J3d (J0 Jb J4)) (Jn Jk (by rfl) T.len boot_len (J0 (pe_ix Ji (pv 1) Jb (fun _ _=>rfl)) J4))))
   (J1 (Jh (i:=3) scBandsL2.nd rfl (Or.inr rfl) (Jc GBV hr7 rfl mBV kBV bBV .nil pass0 (J0 (pv 0) J4)))
   (J1 (J4g PassesOwn.never rfl (J2k rfl T.range (J0 (Jn Jk (by rfl) T.len boot_len (J0 (pv 3) J4)) J4)) (J1p (i:=4) scBandsL2.nd rfl (Or.inr rfl))
    (J1 (J7k (pe_ix Ji (J9 (pv 0) rfl) (pv 4) (fun _ _=>rfl)) (pg_tup rfl (J2p (J1p (i:=5) scBandsL2.nd rfl (Or.inl rfl)) (J2p (J1p (i:=6) scBandsL2.nd rfl (Or.inr rfl)) (J2p (J1p (i:=7) scBandsL2.nd rfl (Or.inl rfl)) (J2p (J1p (i:=8) scBandsL2.nd rfl (Or.inl rfl)) pgs_nil))))))
    (J1 (ps_if (J4x (J2o (Jc GSv hr2 rfl mSv kSv bSv .nil pass0 (J0 (pe_ix J27 (pv 3) (pv 4) (fun _ _=>rfl)) (J0 (pv 7) J4))))) (J6 (Jl pe_bl)) Jx)
    (J6 (Jh (i:=2) scBandsL2.nd rfl (Or.inr rfl) (pe_lc (caps:=["totals","width","told","k"]) (js:=[2,6,3,4]) rfl (J2k rfl T.range (J0 (Jn Jk (by rfl) T.len boot_len (J0 (pv 2) J4)) J4)) rfl (fun _ _ _ _=>J36) (fun C fp s H=>(pe_op J19 (J50 (J7r K) (pv 1) (pv 0)) (pe_op J2l (pv 2) (J50 (J4p K) (J50 (J7r K) (pv 3) (pv 4)) (pv 0))))) (by decide +kernel) (by decide +kernel) (by decide +kernel) (by intro p hp;simp only [mem_cons,not_mem_nil,or_false] at hp;rcases hp with rfl | rfl | rfl | rfl <;> rfl)))))))
   (J6 (Jl (J58 (op_eqL hu) (pv 2) (pe_ix Ji (pv 1) Jb (fun _ _=>rfl)) (J13 _))))))),?_⟩
  obtain ⟨dl,ol,dt,d0,d1,d2,d3⟩:=D.ex;have S:=cp.sys;have few:=cp.good.hi;have zs:(J10 ls os ts).size=ls.sum:=cp.ok0.size_sum;have z30:=cp.z0;have hll:(iV ls).length=ls.length:=length_map ..;refine ⟨by show 1<=sizeLine;decide,fun f1 hf1=>?_⟩;have u1:=Ja (o:=.lst [V.int 0]) hf1;refine ⟨_,rfl,dp,_,_,_,rfl,rfl,SqT.of (u1 _ _ d0),J8 (j:=0) rfl,dl,_,rfl,.inl (SqL.of (u1 _ _ d1)),f1,_,[V.int 0],rfl,rfl,J3,by lia,by lia,?_,fun tq htq=>?_⟩
  ·show 1 * ((iV ls).length:Int).toNat<=sizeLine;rw [hll];have:=J1e (n:=ls.length) (by lia);lia
  rw [hll,Int.toNat_natCast,J67];obtain ⟨TT,eTT⟩:∃ TT:Nat->Nat->Int,TT=fun k p=>(((bsC ls os ts m).take k).map fun b=>b.2.1 * vis (gC ls os ts) (pcC ls os ts) p b.2.2.1.toNat (b.1 + 0)).sum:=⟨_,rfl⟩;have tt0:(List.replicate ls.length (0:Int))=(List.range ls.length).map (TT 0):=by
   rw [eTT];refine ext_getElem (by rw [length_replicate,length_map,length_range]) fun i q1 q2=>?_;rw [List.getElem_replicate,getElem_map];rfl
  have ttS:∀ k,k < (bsC ls os ts m).length->∀ p,TT (k + 1) p=TT k p + ((bsC ls os ts m).getD k bz0).2.1 * vis (gC ls os ts) (pcC ls os ts) p ((bsC ls os ts m).getD k bz0).2.2.1.toNat (((bsC ls os ts m).getD k bz0).1 + 0):=fun k hk p=>by
   rw [eTT];show (((bsC ls os ts m).take (k + 1)).map _).sum=_;rw [<- List.take_append_getElem hk,map_append,sum_append,map_cons,map_nil,sum_cons,List.sum_nil,Int.add_zero,show (bsC ls os ts m)[k]=(bsC ls os ts m).getD k bz0 by rw [getD_eq_getElem?_getD,List.getElem?_eq_getElem hk];rfl]
  rw [tt0];have ttl:∀ f:Nat->Int,(iV ((List.range ls.length).map f)).length=ls.length:=fun f=>by rw [length_map,length_map,length_range]
  obtain ⟨H1,eH1⟩:∃ H1,H1=upd (upd H f1 (.lst [V.int 0])) tq (.lst (iV ((List.range ls.length).map (TT 0)))):=⟨_,rfl⟩;rw [<- eH1];have s1:Same H H1:=by rw [eH1];exact u1.trans (Ja htq)
  have ht1:H1 tq=some (.lst (iV ((List.range ls.length).map (TT 0)))):=by rw [eH1];exact J3
  refine ⟨_,rfl,xc,ls,os,ts,m,rfl,F0.same s1,cp,fun fd0 H5 hn5 s5 BV=>?_⟩;obtain ⟨ys,hfd,rfs⟩:=BV.ex;have s15:=s1.trans s5;obtain ⟨xl5,A5,L5⟩:=F0.same s15;obtain ⟨dq,fs,pr,ps,pt,pb,xr,xs,xt,xb,h0,⟨lL,lR,lS,lT,lB⟩,⟨h1,h2,h3,h4⟩,r1,r2,r3,r4⟩:=A5.ex;have hyl:ys.length=(bsC ls os ts m).length:=rfs.len;have fls:∀ i,i < (bsC ls os ts m).length->∃ c,FloorL ls os ts ((bsC ls os ts m).getD i bz0) ((bsC ls os ts m).getD i bz0).2.2.1 c:=fun i hi=>by
   obtain ⟨q,_,c,_,f⟩:=rfs.at_ i hi;exact ⟨c,f⟩
  have nbm:(bsC ls os ts m).length<=m:=J4s _ m;have fw:=cp.few;refine ⟨_,rfl,fd0,_,rfl,.inl (SqL.of hfd),((ys.length:Nat):Int),rfl,by lia,by lia,for_range (lo:=0) (n:=ys.length)
   (fun i σ Hw=>∃ (tq:Addr) (v4 v5 v6 v7 v8:Option V),σ=[some (.ref xc),some (.ref dp),some (.ref tq),some (.ref fd0),v4,v5,v6,v7,v8]/\Hw tq=some (.lst (iV ((List.range ls.length).map (TT i))))/\Same H5 Hw)
   ⟨tq,none,none,none,none,none,rfl,s5 _ _ ht1,Same.refl _⟩ ?_ ?_⟩
  ·rintro i σ Hw hi ⟨tq,v4,v5,v6,v7,v8,rfl,htw,sw⟩;rw [Int.zero_add];have hi':i < (bsC ls os ts m).length:=by lia
   obtain ⟨bp,ebp,hbp⟩:=r4.at_ i hi';have hbp:H5 bp=some (.tup (bandV ((bsC ls os ts m).getD i bz0))):=hbp;obtain ⟨cq,ecq,c,hcq,FL⟩:=rfs.at_ i hi';obtain ⟨q1,q2,q3,q4,q5⟩:=band_in cp hi';obtain ⟨c0,cs0⟩:=FL.sum cp hi';have st:=ttS i hi';refine ⟨_,rfl,xc,CH,dq,fs,_,rfl,sw _ _ h0,TH.cl,TH.nB,lB,_,rfl,pb,_,_,_,rfl,rfl,SqT.of (sw _ _ h4),J8 ebp,?_⟩;obtain ⟨bb,ebb⟩:∃ bb,bb=(bsC ls os ts m).getD i bz0:=⟨_,rfl⟩;rw [<- ebb] at hbp FL q1 q2 q3 q4 q5 cs0 st;refine ⟨bp,_,rfl,SqT.of (sw _ _ hbp),rfl,_,_,rfl,_,_,rfl,_,_,rfl,_,_,rfl,rfl,?_⟩;refine ⟨_,rfl,_,rfl,fd0,_,_,_,rfl,rfl,SqL.of (sw _ _ hfd),J8 ecq,_,rfl,cq,c,_,rfl,sw _ _ hcq,c0,cs0,true,rfl,iteF ?_⟩;refine ⟨_,rfl,tq,_,rfl,.inl (SqL.of htw),(((iV ((List.range ls.length).map (TT i))).length:Nat):Int),rfl,by rw [ttl];lia,by rw [ttl];lia,fun d hd=>lc_rng 0 (iV ((List.range ls.length).map (TT i))).length (fun _=>true) (fun p=>V.int (TT (i + 1) p)) (by rw [ttl];lia) hd (fun j hj H Qt _ kt=>kt H (Same.refl _)) (fun j hj H7 Qe _ s7 ke=>?_) (fun H7 s7 hd'=>?_)⟩
   ·rw [ttl] at hj;have hcl:j < c.length:=by rw [FL.len];exact hj
    have cv:=FL.at_ 0 (by lia) (by lia) j hj;have v0:=vis_0 (f:=gC ls os ts) (pc:=pcC ls os ts) (p:=j) bb.2.2.1.toNat (bb.1 + 0);have v1:=vis_le (f:=gC ls os ts) (pc:=pcC ls os ts) (p:=j) (bb.1 + 0) bb.2.2.1.toNat;have bg:CBig bb.2.1 (c.getD j 0):=by
     rw [cv];have e:(10:Nat) ^ 100 < 2 ^ 4000:=by decide
     exact ⟨Nat.lt_of_le_of_lt (show bb.2.1.natAbs<=10 ^ 100 by lia) e,Nat.lt_of_le_of_lt (show (vis (gC ls os ts) (pcC ls os ts) j bb.2.2.1.toNat (bb.1 + 0)).natAbs<=10 ^ 100 by lia) e⟩
    have e0:(0:Int) + (j:Nat)=((j:Nat):Int):=by lia
    rw [e0];refine ⟨_,rfl,_,rfl,tq,_,_,_,rfl,rfl,SqL.of (s7 _ _ htw),J8 (J15 (by rw [length_map,length_range];exact hj)),_,rfl,_,rfl,_,rfl,fd0,_,_,_,rfl,rfl,SqL.of (s7 _ _ (sw _ _ hfd)),J8 ecq,_,rfl,cq,_,_,_,rfl,rfl,SqT.of (s7 _ _ (sw _ _ hcq)),J8 (J15 hcl),_,_,rfl,rfl,bg,_,_,rfl,rfl,?_⟩;have kk:=ke H7 (Same.refl _);rw [st j,<- cv] at kk;rw [show ((List.range ls.length).map (TT i)).getD j 0=TT i j by rw [getD_eq_getElem?_getD,getElem?_map,getElem?_range hj];rfl];exact kk
   rw [J20,ttl] at hd';refine ⟨d,_,_,_,_,_,rfl,?_,sw.trans s7⟩;rw [hd'];show _=some (HO.lst (List.map V.int (List.map _ _)));rw [map_map];rfl
  rintro σ H6 ⟨tq,v4,v5,v6,v7,v8,rfl,htw,s6⟩;have ytk:∀ p,p < ls.length->TT ys.length p=ls.getD p 0:=fun p hp=>by
   rw [eTT,hyl];show (((bsC ls os ts m).take (bsC ls os ts m).length).map _).sum=_;rw [List.take_length];exact bands_sum cp fls hp
  have ett:(List.range ls.length).map (TT ys.length)=ls:=by
   refine ext_getElem (by rw [length_map,length_range]) fun p p1 p2=>?_;rw [getElem_map,List.getElem_range,ytk p p2,getD_eq_getElem?_getD,List.getElem?_eq_getElem p2];rfl
  rw [ett] at htw;have s16:=s15.trans s6;refine ⟨_,rfl,_,rfl,dp,_,_,_,rfl,rfl,SqT.of (s16 _ _ d0),J8 (j:=0) rfl,tq,dl,_,_,rfl,rfl,SqL.of htw,SqL.of (s16 _ _ d1),Kin.ints _ _,?_⟩;rw [decide_eq_true rfl];exact k _ s16
def spLaw (K:Frag):Sp:=fun vs H Q _=>∃ (a:Addr) (ns:List Int),vs=[.ref a]/\SqL K H a (ns.map V.int)/\ns.length<=63/\∀ H',Q (.bl true) H'
theorem scLaw:FnScope ["script","drawn","chart","size","k","x","one","two","first","second"] ["script"] (J7 sLaw):=fS
theorem ok_law {f fGt fCH fI fBd fMn fVI fAF fSv fTd fPi C CR CH CO:Addr} {fd fdGt fdCH fdI fdBd fdMn fdVI fdAF fdSv fdTd fdPi:FuncData} {cs:Kd->Addr} (F:Fun K "law" "law" sLaw f fd) (T:TxtR mg) (hmin:mg "min"=none) (hint:mg "int"=none)
  (GGt:FnOk P w K mg base CX0 3 fGt fdGt ["script"] (spGreat K)) (bGt:Binds K fdGt ["script"] []) (mGt:mg "_law_great"=some (.ref fGt)) (kGt:keepIn K (.ref fGt)=true)
  (MCH:Mk K CH fCH) (GCH:FnOk P w K mg base CX0 6 fCH fdCH ["self","line"] (spCInit C CR CH cs)) (bCH:Binds K fdCH ["self","line"] []) (mgCH:mg "Chart"=some (.ref CH))
  (MI:Mk K C fI) (GI:FnOk P w K mg base CX0 3 fI fdI ["self","lengths","order","turned"] (spInit C)) (bI:Binds K fdI ["self","lengths","order","turned"] []) (mgI:mg "Line"=some (.ref C))
  (GBd:FnOk P w K mg base CX0 8 fBd fdBd ["chart","drawn"] (spBandsM C CH CR cs)) (bBd:Binds K fdBd ["chart","drawn"] []) (mBd:mg "_law_bands"=some (.ref fBd)) (kBd:keepIn K (.ref fBd)=true)
  (GMn:FnOk P w K mg base CX0 1 fMn fdMn ["cell"] spMany) (bMn:Binds K fdMn ["cell"] []) (mMn:mg "_law_many"=some (.ref fMn)) (kMn:keepIn K (.ref fMn)=true)
  (GVI:FnOk P w K mg base (Exc1 P w) 7 fVI fdVI ["chart","x","goings"] (spVisits C CH CR CO cs)) (bVI:Binds K fdVI ["chart","x","goings"] []) (mVI:mg "visits"=some (.ref fVI)) (kVI:keepIn K (.ref fVI)=true)
  (GAF:FnOk P w K mg base (Exc1 P w) 7 fAF fdAF ["chart","x","goings"] (spAfter C CH CR CO cs)) (bAF:Binds K fdAF ["chart","x","goings"] []) (mAF:mg "after"=some (.ref fAF)) (kAF:keepIn K (.ref fAF)=true)
  (GSv:FnOk P w K mg base CX0 2 fSv fdSv ["found","many"] spSumV) (bSv:Binds K fdSv ["found","many"] []) (mSv:mg "_law_sum"=some (.ref fSv)) (kSv:keepIn K (.ref fSv)=true)
  (GTd:FnOk P w K mg base CX0 2 fTd fdTd ["found","due"] spToldV) (bTd:Binds K fdTd ["found","due"] []) (mTd:mg "_law_told"=some (.ref fTd)) (kTd:keepIn K (.ref fTd)=true)
  (GPi:FnOk P w K mg base CX0 1 fPi fdPi ["drawn","x"] spPiece) (bPi:Binds K fdPi ["drawn","x"] []) (mPi:mg "_law_piece"=some (.ref fPi)) (kPi:keepIn K (.ref fPi)=true) :
  FnOk P w K mg base CX0 9 f fd ["script"] (spLaw K):=by
 refine F.ok scLaw (fun vs H Q E h=>?_) (fun cdv A outer s H vs Q E hr h=>?_)
 ·obtain ⟨a,ns,rfl,_⟩:=h;rfl
 ·obtain ⟨a,ns,rfl,hS,hlen,k⟩:=h;have hr1:Room 1 _:=rm hr;have hr2:Room 2 _:=rm hr;have hr3:Room 3 _:=rm hr;have hr4:Room 4 _:=rm hr;have hr7:Room 7 _:=rm hr;have hr8:Room 8 _:=rm hr;refine ⟨_,(J1 (Jh (i:=1) scLaw.nd rfl (Or.inr rfl) (Jc GGt hr3 rfl mGt kGt bGt .nil pass0 (J0 (pv 0) J4)))
   (J1 (Jh (i:=2) scLaw.nd rfl (Or.inl rfl) (J1h MCH GCH hr7 rfl mgCH bCH .nil pass0 (J0 (J1h MI GI hr4 rfl mgI bI .nil pass0 (J0 (Jo J1u (by rfl) T.list boot_list (J0 (pe_ix Ji (pv 1) Jb (fun _ _=>rfl)) J4)) (J0 (Jo J1u (by rfl) T.list boot_list (J0 (pe_ix Ji (pv 1) Jb (fun _ _=>rfl)) J4)) (J0 (Jo J1u (by rfl) T.list boot_list (J0 (pe_ix Ji (pv 1) Jb (fun _ _=>rfl)) J4)) J4)))) J4)))
   (J1 (Jh (i:=3) scLaw.nd rfl (Or.inl rfl) (Jn (J3v rfl) (by rfl) T.sum boot_sum (J0 (pe_ix Ji (pv 1) Jb (fun _ _=>rfl)) J4)))
   (J1 (ps_if (J4x (J2o (Jc GBd hr8 rfl mBd kBd bBd .nil pass0 (J0 (pv 2) (J0 (pv 1) J4))))) (J6 (Jl pe_bl)) Jx)
   (J1 (J4g PassesOwn.never rfl (pi_steps2 rfl T.range (J0 (pe_op J19 Jb (pe_op op_mul Jb (Jn Jk (by rfl) T.len boot_len (J0 (pe_ix Ji (pv 1) Jb (fun _ _=>rfl)) J4)))) (J0 (Jn (call_min2 rfl) (by rfl) hmin boot_min (J0 (pe_op J2a (Jn Jk (by rfl) T.len boot_len (J0 (pv 0) J4)) Jb) (J0 (pe_op J19 Jb (pe_op op_mul Jb (Jn Jk (by rfl) T.len boot_len (J0 (pe_ix Ji (pv 1) Jb (fun _ _=>rfl)) J4)))) J4))) (J0 Jb J4)))) (J1p (i:=4) scLaw.nd rfl (Or.inl rfl))
    (J1 (Jh (i:=5) scLaw.nd rfl (Or.inr rfl) (pe_op J3r (pe_ix J27 (pv 0) (pv 4) (fun _ _=>rfl)) (pv 3)))
    (J1 (Jh (i:=6) scLaw.nd rfl (Or.inl rfl) (Jc GMn hr1 rfl mMn kMn bMn .nil pass0 (J0 (pe_ix J27 (pv 0) (pe_op J19 (pv 4) Jb) (fun _ _=>rfl)) J4)))
    (J1 (Jh (i:=7) scLaw.nd rfl (Or.inl rfl) (Jc GMn hr1 rfl mMn kMn bMn .nil pass0 (J0 (pe_ix J27 (pv 0) (pe_op J19 (pv 4) Jb) (fun _ _=>rfl)) J4)))
    (J1 (Jh (i:=8) scLaw.nd rfl (Or.inr rfl) (Jc GVI hr7 rfl mVI kVI bVI .nil passF (J0 (pv 2) (J0 (pv 5) (J0 (pv 6) J4)))))
    (J1 (Jh (i:=9) scLaw.nd rfl (Or.inr rfl) (Jc GVI hr7 rfl mVI kVI bVI .nil passF (J0 (pv 2) (J0 (Jc GAF hr7 rfl mAF kAF bAF .nil passF (J0 (pv 2) (J0 (pv 5) (J0 (pv 6) J4)))) (J0 (pv 7) J4)))))
    (J1 (ps_if (PW.pt (pw_or (J4x (J2o (Jc GSv hr2 rfl mSv kSv bSv .nil pass0 (J0 (pv 8) (J0 (pv 6) J4))))) (J6n (J4x (J2o (Jc GSv hr2 rfl mSv kSv bSv .nil pass0 (J0 (pv 9) (J0 (pv 7) J4)))))))) (J6 (Jl pe_bl)) Jx)
    (J1 (ps_if (J4x (J2o (Jc GTd hr2 rfl mTd kTd bTd .nil pass0 (J0 (Jc GVI hr7 rfl mVI kVI bVI .nil passF (J0 (pv 2) (J0 (pv 5) (J0 (pe_op J19 (pv 6) (pv 7)) J4)))) (J0 (pe_lc (caps:=["first","second"]) (js:=[8,9]) rfl (J2k rfl T.range (J0 (Jn Jk (by rfl) T.len boot_len (J0 (pv 8) J4)) J4)) rfl (fun _ _ _ _=>J36) (fun C fp s H=>(pe_op J19 (J50 (J4p K) (pv 1) (pv 0)) (J50 (J4p K) (pv 2) (pv 0)))) (by decide +kernel) (by decide +kernel) (by decide +kernel) (by intro p hp;simp only [mem_cons,not_mem_nil,or_false] at hp;rcases hp with rfl | rfl <;> rfl)) J4))))) (J6 (Jl pe_bl)) Jx)
    (J6 (ps_if (J4x (J2o (Jc GTd hr2 rfl mTd kTd bTd .nil pass0 (J0 (Jc GVI hr7 rfl mVI kVI bVI .nil passF (J0 (pv 2) (J0 (pv 5) (J0 Jb J4)))) (J0 (pe_lc (caps:=["drawn","x"]) (js:=[1,5]) rfl (J2k rfl T.range (J0 (Jn Jk (by rfl) T.len boot_len (J0 (pv 8) J4)) J4)) rfl (fun _ _ _ _=>J36) (fun C fp s H=>(Jo call_int1 (by rfl) hint boot_int (J0 (J58 op_eq (pv 0) (Jc GPi hr1 rfl mPi kPi bPi .nil pass0 (J0 (pv 1) (J0 (pv 2) J4))) (J13 _)) J4))) (by decide +kernel) (by decide +kernel) (by decide +kernel) (by intro p hp;simp only [mem_cons,not_mem_nil,or_false] at hp;rcases hp with rfl | rfl <;> rfl)) J4))))) (J6 (Jl pe_bl)) Jx))))))))))
   (J6 (Jl pe_bl))))))),?_⟩
  refine ⟨_,rfl,a,ns,rfl,hS,fun dp H2 ls os ts s2 D G hts h5=>?_⟩;obtain ⟨dl,ol,dt,d0,d1,d2,d3⟩:=D.ex;refine ⟨_,rfl,dp,_,_,_,rfl,rfl,SqT.of d0,J8 (j:=0) rfl,dl,_,rfl,.inl (SqL.of d1),fun l1 hl1=>?_⟩;have w1:=Ja (o:=.lst (iV ls)) hl1;refine ⟨_,rfl,dp,_,_,_,rfl,rfl,SqT.of (w1 _ _ d0),J8 (j:=1) rfl,ol,_,rfl,.inl (SqL.of (w1 _ _ d2)),fun l2 hl2=>?_⟩;have w2:=w1.trans (Ja (o:=.lst (nV os)) hl2);refine ⟨_,rfl,dp,_,_,_,rfl,rfl,SqT.of (w2 _ _ d0),J8 (j:=2) rfl,dt,_,rfl,.inl (SqL.of (w2 _ _ d3)),fun l3 hl3=>?_⟩;have w3:=Ja (o:=.lst (bV ts)) hl3;have w23:=(Ja (o:=.lst (nV os)) hl2).trans w3;have e1:=w23 l1 _ J3;have e2:=w3 l2 _ J3;have e3:upd (upd (upd H2 l1 (.lst (iV ls))) l2 (.lst (nV os))) l3 (.lst (bV ts)) l3=_:=J3;have w0:=w2.trans w3;generalize upd (upd (upd H2 l1 (.lst (iV ls))) l2 (.lst (nV os))) l3 (.lst (bV ts))=Hc at *;refine fun x dx hx hdx hne=>?_;have sx:=(Ja (o:=.own x) hdx).trans (Ja (l:=x) (o:=.ins C dx []) (by rw [Jg (Ne.symm hne)];exact hx));refine ⟨x,dx,l1,l2,.ref l3,ls,os,ts,rfl,J3,.inl (sx _ _ e1),.inl (sx _ _ e2),G,⟨hts,.inr ⟨l3,rfl,.inl (sx _ _ e3)⟩⟩,fun H3 L kp=>⟨rfl,?_⟩⟩;have g2:=G.hi;have g1:=G.lo;have ok0:(J10 ls os ts).Ok:=J75 G.perm G.pos hts g2;have z0:(J10 ls os ts).size<=10 ^ 30:=by rw [ok0.size_sum];exact G.sum
  have s3:Same H2 H3:=fun b o e=>kp _ _ (sx _ _ (w0 _ _ e)) (Jd (w0 _ _ e) hx);intro xc dc hxc hdc hnc;have sc:=(Ja (o:=.own xc) hdc).trans (Ja (l:=xc) (o:=.ins CH dc []) (by rw [Jg (Ne.symm hnc)];exact hxc));refine ⟨xc,dc,x,ls,os,ts,rfl,J3,L.same sc,ok0,z0,g1,fun m H4 lg tp A0 kc=>⟨rfl,?_⟩⟩;have s4:Same H3 H4:=fun b o e=>kc _ _ (sc _ _ e) (Jd e hxc);have s24:=s3.trans s4;have cok0:Cok (Jz ls os ts):=J5g ok0 z0;have few:=cok0.few lg;have one0:∀ j∈(Jz ls os ts).1.top,(Jz ls os ts).2.getD j 0=1:=fun j hj=>by
   show (List.replicate ls.length (1:Int)).getD j 0=1;rw [getD_eq_getElem?_getD,getElem?_replicate,if_pos (mem_range.mp hj)];rfl
  have cp:ChP ls os ts m:=⟨G,hts,lg,tp⟩;have F0:ChF C CH CR cs H4 xc ls os ts m:=⟨x,A0,L.same s4⟩;have zs:(J10 ls os ts).size=ls.sum:=ok0.size_sum;have zp:=G.pos_sum;have S:=cp.sys;have hll:(iV ls).length=ls.length:=length_map ..;have hnl:(iV ns).length=ns.length:=length_map ..;have hS4:SqL K H4 a (iV ns):=(s2.trans s24).seq hS;have d0:=s24 _ _ d0;have d1:=s24 _ _ d1;have D4:=D.same s24;refine ⟨_,rfl,dp,_,_,_,rfl,rfl,SqT.of d0,J8 (j:=0) rfl,dl,ls,rfl,.inl (SqL.of d1),?_⟩;refine ⟨_,rfl,_,rfl,xc,dp,ls,os,ts,m,rfl,F0,cp,D4,fun H5 s5=>⟨true,rfl,iteF ?_⟩⟩;have hS5:=s5.seq hS4;have d0:=s5 _ _ d0;have d1:=s5 _ _ d1;have D5:=D4.same s5;have F5:=F0.same s5;refine ⟨_,rfl,dp,_,_,_,rfl,rfl,SqT.of d0,J8 (j:=0) rfl,dl,_,rfl,.inl (SqL.of d1),_,_,rfl,rfl,.inl ⟨by decide,by decide⟩,_,_,rfl,rfl,?_⟩;refine ⟨_,rfl,a,_,rfl,.inl hS5,_,_,rfl,rfl,_,rfl,dp,_,_,_,rfl,rfl,SqT.of d0,J8 (j:=0) rfl,dl,_,rfl,.inl (SqL.of d1),_,_,rfl,rfl,.inl ⟨by decide,by decide⟩,_,_,rfl,rfl,_,_,rfl,?_⟩;refine ⟨_,_,3,rfl,⟨?_,?_,?_,?_,by decide,by decide⟩,for_its (fun i σ Hw=>∃ v4 v5 v6 v7 v8 v9,σ=[some (.ref a),some (.ref dp),some (.ref xc),some (.int ls.sum),v4,v5,v6,v7,v8,v9]/\Same H5 Hw) ⟨_,_,_,_,_,_,rfl,Same.refl _⟩ ?_ ?_⟩
  ·show (0:Int)<=2 + 2 * ((iV ls).length:Int);lia
  ·show 2 + 2 * ((iV ls).length:Int)<=1000;lia
  ·show -1000<=(if 14 + 2 * ((iV ls).length:Int) < ((iV ns).length:Int) - 2 then 14 + 2 * ((iV ls).length:Int) else ((iV ns).length:Int) - 2);split <;> lia
  ·show (if 14 + 2 * ((iV ls).length:Int) < ((iV ns).length:Int) - 2 then 14 + 2 * ((iV ls).length:Int) else ((iV ns).length:Int) - 2)<=1000;split <;> lia
  ·rintro i σ Hw hi ⟨v4,v5,v6,v7,v8,v9,rfl,sw⟩;have hlt:=its_lt (by decide) hi;have hk2:2 + 2 * ((iV ls).length:Int) + (i:Nat) * 3 < ((iV ns).length:Int) - 2:=by
    refine Int.lt_of_lt_of_le hlt ?_;show (if 14 + 2 * ((iV ls).length:Int) < ((iV ns).length:Int) - 2 then 14 + 2 * ((iV ls).length:Int) else ((iV ns).length:Int) - 2)<=_;split <;> lia
   clear hlt hi;obtain ⟨kk,ek⟩:∃ kk:Nat,2 + 2 * ((iV ls).length:Int) + (i:Nat) * 3=kk:=⟨2 + 2 * (iV ls).length + i * 3,by lia⟩;have at0:atI (iV ns) (2 + 2 * ((iV ls).length:Int) + (i:Nat) * 3)=some (V.int (ns.getD kk 0)):=by rw [ek];exact J8 (J15 (by lia))
   have at1:atI (iV ns) (2 + 2 * ((iV ls).length:Int) + (i:Nat) * 3 + 1)=some (V.int (ns.getD (kk + 1) 0)):=by rw [ek];exact J8 (j:=kk + 1) (J15 (by lia))
   have at2:atI (iV ns) (2 + 2 * ((iV ls).length:Int) + (i:Nat) * 3 + 2)=some (V.int (ns.getD (kk + 2) 0)):=by rw [ek];exact J8 (j:=kk + 2) (J15 (by lia))
   have hSw:=sw.seq hS5;have x0:0<=ns.getD kk 0 % ls.sum:=Int.emod_nonneg _ (by lia);have x1:ns.getD kk 0 % ls.sum < ls.sum:=Int.emod_lt_of_pos _ (by lia);refine ⟨_,rfl,_,rfl,a,_,_,_,rfl,rfl,hSw,at0,_,rfl,_,_,rfl,rfl,(show 0 < ls.sum by lia),?_⟩;obtain ⟨X,hX⟩:∃ X,X=ns.getD kk 0 % ls.sum:=⟨_,rfl⟩;rw [<- hX] at x0 x1;have xin:0<=X/\X < (J10 ls os ts).size:=⟨x0,by lia⟩;refine ⟨_,rfl,_,rfl,_,_,rfl,rfl,a,_,_,_,rfl,rfl,hSw,at1,_,rfl,fun M1 hM1=>?_⟩;refine ⟨_,rfl,_,rfl,_,_,rfl,rfl,a,_,_,_,rfl,rfl,hSw,at2,_,rfl,fun M2 hM2=>?_⟩;refine ⟨_,rfl,_,rfl,_,rfl,xc,ls,os,ts,m,X,M1,(by rw [hX];rfl),F5.same sw,cp,⟨hM1.1,by lia⟩,fun p1 H6 s6 hp1 _=>?_,fun q=>absurd xin q⟩;have s56:=sw.trans s6;refine ⟨_,rfl,_,rfl,_,rfl,_,rfl,xc,ls,os,ts,m,X,M1,(by rw [hX];rfl),F5.same s56,cp,fun z H7 s7 hz ez _=>?_,fun q=>absurd xin q⟩;have ez:=ez hM1.1;have s57:=s56.trans s7;refine ⟨_,rfl,xc,ls,os,ts,m,z,M2,rfl,F5.same s57,cp,⟨hM2.1,by lia⟩,fun p2 H8 s8 hp2 _=>?_,fun q=>absurd hz q⟩;have s58:=s57.trans s8;have hp1':=s8 _ _ (s7 _ _ hp1);refine ⟨_,rfl,_,rfl,p1,_,M1,rfl,hp1',visC_0,J76 cp xin hM1.1,true,rfl,iteF ?_⟩;refine ⟨_,rfl,_,rfl,p2,_,M2,rfl,hp2,visC_0,J76 cp hz hM2.1,true,rfl,iteF ?_⟩;refine ⟨_,rfl,_,rfl,_,rfl,_,rfl,_,_,rfl,rfl,xc,ls,os,ts,m,X,M1 + M2,(by rw [hX];rfl),F5.same s58,cp,⟨by lia,by lia⟩,fun p3 H9 s9 hp3 _=>?_,fun q=>absurd xin q⟩;have s59:=s58.trans s9;have vl1:=J46 ls os ts M1 X;have lv1:(iV (visC ls os ts M1 X)).length=ls.length:=by rw [length_map,vl1]
   have few:=cp.good.hi;refine ⟨_,rfl,p1,_,rfl,.inr (SqT.of (s9 _ _ hp1')),(((iV (visC ls os ts M1 X)).length:Nat):Int),rfl,by lia,by lia,fun d hd=>lc_rng 0 (iV (visC ls os ts M1 X)).length (fun _=>true) (fun p=>V.int ((visC ls os ts (M1 + M2) X).getD p 0)) (by lia) hd (fun j hj H Qt _ kt=>kt H (Same.refl _)) (fun j hj H10 Qe _ s10 ke=>?_) (fun H10 s10 hd'=>?_)⟩
   ·have hj':j < ls.length:=by lia
    rw [show (0:Int) + (j:Nat)=((j:Nat):Int) by lia];refine ⟨_,rfl,_,rfl,p1,_,_,_,rfl,rfl,SqT.of (s10 _ _ (s9 _ _ hp1')),J8 (J15 (by lia)),_,rfl,_,rfl,p2,_,_,_,rfl,rfl,SqT.of (s10 _ _ (s9 _ _ hp2)),J8 (J15 (by rw [J46];exact hj')),_,_,rfl,rfl,?_⟩;have kk:=ke H10 (Same.refl _);rw [J47 hj',add_nat hM1.1 hM2.1,J45,ez,<- J47 hj',<- J47 hj'] at kk;exact kk
   have eV:∀ g,(List.range ls.length).map (fun p=>V.int ((visC ls os ts g X).getD p 0))=iV (visC ls os ts g X):=fun g=>by
    refine ext_getElem (by rw [length_map,length_range,length_map,J46]) fun p q1 q2=>?_;have hp:p < ls.length:=by rw [length_map,length_range] at q1;exact q1
    rw [getElem_map,List.getElem_range,getElem_map,getD_eq_getElem?_getD,List.getElem?_eq_getElem (by rw [J46];exact hp)];rfl
   rw [J20,lv1,eV] at hd';refine ⟨p3,d,_,rfl,s10 _ _ hp3,hd',fun H11 s11=>⟨true,rfl,iteF ?_⟩⟩;have s511:=s59.trans (s10.trans s11);have hp1'':=s11 _ _ (s10 _ _ (s9 _ _ hp1'));refine ⟨_,rfl,_,rfl,xc,ls,os,ts,m,X,1,(by rw [hX];rfl),F5.same s511,cp,⟨by decide,by decide⟩,fun p4 H12 s12 hp4 _=>?_,fun q=>absurd xin q⟩;have s512:=s511.trans s12;refine ⟨_,rfl,p1,_,rfl,.inr (SqT.of (s12 _ _ hp1'')),(((iV (visC ls os ts M1 X)).length:Nat):Int),rfl,by lia,by lia,fun d2 hd2=>lc_rng 0 (iV (visC ls os ts M1 X)).length (fun _=>true) (fun p=>V.int ((visC ls os ts 1 X).getD p 0)) (by lia) hd2 (fun j hj H Qt _ kt=>kt H (Same.refl _)) (fun j hj H13 Qe _ s13 ke=>?_) (fun H13 s13 hd2'=>?_)⟩
   ·have hj':j < ls.length:=by lia
    rw [show (0:Int) + (j:Nat)=((j:Nat):Int) by lia];refine ⟨_,rfl,_,rfl,_,rfl,dp,ls,os,ts,X,(by rw [hX];rfl),D5.same (s512.trans s13),cp.good,cp.hts,⟨x0,x1⟩,fun i' o' A' hi'=>?_⟩;have ep:=pcC_eq cp A';refine ⟨rfl,.inr ⟨_,rfl,?_⟩⟩;have kk:=ke H13 (Same.refl _);rw [J47 hj',show (1:Int).toNat=1 from rfl,vis_one,ep] at kk;by_cases cj:i'=j
    ·rw [if_pos cj] at kk;rw [cj,decide_eq_true rfl];exact kk
    ·rw [if_neg cj] at kk;rw [decide_eq_false (fun e=>cj (by have:=V.int.inj e;lia))];exact kk
   rw [J20,lv1,eV] at hd2';refine ⟨p4,d2,_,rfl,s13 _ _ hp4,hd2',fun H14 s14=>⟨true,rfl,iteF ?_⟩⟩;exact ⟨_,_,_,_,_,_,rfl,s512.trans (s13.trans s14)⟩
  ·rintro σ Hw ⟨v4,v5,v6,v7,v8,v9,rfl,sw⟩;exact k _
end
end R42
namespace R42
open PySem L2 Rl
theorem kib (K:Frag):kitOne K (.type "int") (.type "bool")=some false:=by kernel_rfl
theorem dflt_binds {K:Frag} {x qual:Str} {st:Stmt} {f TD:Addr} {fd:FuncData} {cT:Value} {dT:Option Addr} {nT:Nat} {slT:Array (Option Value)} (F:FunD K x qual st f fd TD) (lT:K.lookup TD=some ⟨cT,dT,.seq #[.none] nT,slT⟩) (ps:List Str)
  (h0:∀ (kV doc pm:Value) (an:Option Addr) (cdv ct:Value) (us:List Value),us.length=ps.length->∃ k,bindArgs (fnOf x qual (J2u st) (J2d st) (J7 st) (.ref TD) kV doc pm an cdv ct) ⟨us,[]⟩=seqItems? (.ref TD) >>= k/\k (some #[.none])=pure (ps.zip us))
  (h1:∀ (kV doc pm:Value) (an:Option Addr) (cdv ct:Value) (us:List Value),(us ++ [Value.none]).length=ps.length->∃ k,bindArgs (fnOf x qual (J2u st) (J2d st) (J7 st) (.ref TD) kV doc pm an cdv ct) ⟨us,[]⟩=seqItems? (.ref TD) >>= k/\k (some #[.none])=pure (ps.zip (us ++ [Value.none]))) :
  Binds K fd ps []/\Binds K fd ps [.none]:=by
 obtain ⟨oc,od,kV,doc,pm,an,cdv,ct,osl,rfl,lk,hcd⟩:=F.ex;refine ⟨fun s us X hl=>?_,fun s us X hl=>?_⟩
 ·rw [append_nil] at hl ⊢;obtain ⟨k,e1,e2⟩:=h0 kV doc pm an cdv ct us hl;exact BindsTo.of_defaults (T:=TD) rfl (X _ _ lT) rfl e1 e2
 ·obtain ⟨k,e1,e2⟩:=h1 kV doc pm an cdv ct us hl;exact BindsTo.of_defaults (T:=TD) rfl (X _ _ lT) rfl e1 e2
def csOf (a b c d e f:Addr):Kd->Addr
 | .ho=>a | .ev=>b | .ov=>c | .un=>d | .os=>e | .us=>f
abbrev DfI (K:Frag) (x:Str) (st:Stmt) (f:Addr) (od an:Option Addr) (sl:Array (Option Value)) (oc kV dc pm cd ct:Value):Prop:=nsIn K mainGlobals x=some (some (.ref f))/\K.lookup f=some ⟨oc,od,.func (fnOf x x (J2u st) (J2d st) (J7 st) .none kV dc pm an cd ct),sl⟩/\codeIn K cd x=true/\keepIn K (.ref f)=true
abbrev MeI (K:Frag) (C:Addr) (x q:Str) (st:Stmt) (D:Value) (f:Addr) (od an:Option Addr) (sl:Array (Option Value)) (oc kV dc pm cd ct:Value):Prop:=findIn K (.ref C) x=some (some (.ref f))/\isFn K (.ref f)=true/\K.lookup f=some ⟨oc,od,.func (fnOf x q (J2u st) (J2d st) (J7 st) D kV dc pm an cd ct),sl⟩/\codeIn K cd q=true/\keepIn K (.ref f)=true
abbrev NaI (K:Frag) (x:Str) (C:Addr):Prop:=nsIn K mainGlobals x=some (some (.ref C))
abbrev NzI (K:Frag) (x:Str):Prop:=nsIn K mainGlobals x=some none
abbrev FiI (K:Frag) (C:Addr) (x:Str) (f:Addr):Prop:=findIn K (.ref C) x=some (some (.ref f))
abbrev FnI (K:Frag) (C:Addr) (x:Str):Prop:=findIn K (.ref C) x=some none
abbrev ClI (K:Frag) (C:Addr):Prop:=plainGet K C Str.empty=true/\hasDictIn K C=true/\plainOver K C=true/\findIn K (.ref C) "__setattr__"=some (some (.builtin "object.__setattr__"))
abbrev MkI (K:Frag) (C:Addr):Prop:=makesIn K C=true/\keepIn K (.ref C)=true
theorem dfn {K:Frag} {h:Heap} {mg:Str->Option Value} (X:K.In h) (G:h.Ns mainGlobals mg) {x:Str} {st:Stmt} {f:Addr} {od an:Option Addr} {sl:Array (Option Value)} {oc kV dc pm cd ct:Value} (d:DfI K x st f od an sl oc kV dc pm cd ct) :
  Fun K x x st f (fnOf x x (J2u st) (J2d st) (J7 st) .none kV dc pm an cd ct)/\mg x=some (.ref f)/\keepIn K (.ref f)=true:=⟨J1i d.2.1 d.2.2.1 d.2.2.2,mg_of X G d.1,d.2.2.2⟩
theorem clf {K:Frag} {C:Addr} (d:ClI K C):Cls K C:=⟨d.1,d.2.1,d.2.2.1,d.2.2.2⟩
theorem usOf0 {P:List PySem.Value → Prop} (h : P []) : ∀ us : List PySem.Value,us.length = 0 → P us := fun us e => by
  cases us with
  | nil => exact h
  | cons a l => cases e
theorem usS {P:List PySem.Value → Prop} {n : Nat} (h : ∀ a us,us.length = n → P (a :: us)) : ∀ us : List PySem.Value,us.length = n + 1 → P us := fun us e => by
  cases us with
  | nil => cases e
  | cons a l => exact h a l (Nat.succ.inj e)
theorem usOf1 {P:List PySem.Value → Prop} (h : ∀ a0,P [a0]) : ∀ us : List PySem.Value,us.length = 1 → P us := usS fun a => usOf0 (P := fun us => P (a :: us)) (h a)
theorem usOf2 {P:List PySem.Value → Prop} (h : ∀ a0 a1,P [a0,a1]) : ∀ us : List PySem.Value,us.length = 2 → P us := usS fun a => usOf1 (P := fun us => P (a :: us)) (h a)
theorem usOf3 {P:List PySem.Value → Prop} (h : ∀ a0 a1 a2,P [a0,a1,a2]) : ∀ us : List PySem.Value,us.length = 3 → P us := usS fun a => usOf2 (P := fun us => P (a :: us)) (h a)
theorem usOf4 {P:List PySem.Value → Prop} (h : ∀ a0 a1 a2 a3,P [a0,a1,a2,a3]) : ∀ us : List PySem.Value,us.length = 4 → P us := usS fun a => usOf3 (P := fun us => P (a :: us)) (h a)
theorem usOf5 {P:List PySem.Value → Prop} (h : ∀ a0 a1 a2 a3 a4,P [a0,a1,a2,a3,a4]) : ∀ us : List PySem.Value,us.length = 5 → P us := usS fun a => usOf4 (P := fun us => P (a :: us)) (h a)
theorem all_mk {l : PySem.W.OpenLaw} {w : World} {K : Frag} {h : Heap} {mg : Str -> Option Value} {fa  COutside CBadAddress C CR CH CA CT CSt CHo CEv COv CUn COs CUs : Addr} (X : K.In h) (G : h.Ns mainGlobals mg) (hfa : mg "law" = some (.ref fa))
    {f0 f1 f2 f3 f4 f5 f6 f7 f8 f9 f10 f11 f12 f13 f14 f15 f16 f17 f18 f19 f20 f21 f22 f23 f24 f25 f26 f27 f28 f29 f30 f31 f32 f33 f34 f35 f36 f37 f38 f39 f40 f41 f42 f43 f44 f45 f46 f47 f48 f49 f50 f51 f52 f_LI f_RI f_HI f_AI f_TI f_StI f_StL f_StO f_HoI f_HoW f_HoL f_HoB f_EvI f_EvW f_EvO f_EvB f_OvI f_OvW f_OvO f_OvB f_UnI f_UnW f_UnB f_OsI f_OsW f_OsL f_OsO f_OsB f_UsI f_UsW f_UsL f_UsB : Addr} {od0 an0 od1 an1 od2 an2 od3 an3 od4 an4 od5 an5 od6 an6 od7 an7 od8 an8 od9 an9 od10 an10 od11 an11 od12 an12 od13 an13 od14 an14 od15 an15 od16 an16 od17 an17 od18 an18 od19 an19 od20 an20 od21 an21 od22 an22 od23 an23 od24 an24 od25 an25 od26 an26 od27 an27 od28 an28 od29 an29 od30 an30 od31 an31 od32 an32 od33 an33 od34 an34 od35 an35 od36 an36 od37 an37 od38 an38 od39 an39 od40 an40 od41 an41 od42 an42 od43 an43 od44 an44 od45 an45 od46 an46 od47 an47 od48 an48 od49 an49 od50 an50 od51 an51 od52 an52 od_LI an_LI od_RI an_RI od_HI an_HI od_AI an_AI od_TI an_TI od_StI an_StI od_StL an_StL od_StO an_StO od_HoI an_HoI od_HoW an_HoW od_HoL an_HoL od_HoB an_HoB od_EvI an_EvI od_EvW an_EvW od_EvO an_EvO od_EvB an_EvB od_OvI an_OvI od_OvW an_OvW od_OvO an_OvO od_OvB an_OvB od_UnI an_UnI od_UnW an_UnW od_UnB an_UnB od_OsI an_OsI od_OsW an_OsW od_OsL an_OsL od_OsO an_OsO od_OsB an_OsB od_UsI an_UsI od_UsW an_UsW od_UsL an_UsL od_UsB an_UsB : Option Addr} {sl0 sl1 sl2 sl3 sl4 sl5 sl6 sl7 sl8 sl9 sl10 sl11 sl12 sl13 sl14 sl15 sl16 sl17 sl18 sl19 sl20 sl21 sl22 sl23 sl24 sl25 sl26 sl27 sl28 sl29 sl30 sl31 sl32 sl33 sl34 sl35 sl36 sl37 sl38 sl39 sl40 sl41 sl42 sl43 sl44 sl45 sl46 sl47 sl48 sl49 sl50 sl51 sl52 sl_LI sl_RI sl_HI sl_AI sl_TI sl_StI sl_StL sl_StO sl_HoI sl_HoW sl_HoL sl_HoB sl_EvI sl_EvW sl_EvO sl_EvB sl_OvI sl_OvW sl_OvO sl_OvB sl_UnI sl_UnW sl_UnB sl_OsI sl_OsW sl_OsL sl_OsO sl_OsB sl_UsI sl_UsW sl_UsL sl_UsB : Array (Option Value)} {oc0 kV0 dc0 pm0 cd0 ct0 oc1 kV1 dc1 pm1 cd1 ct1 oc2 kV2 dc2 pm2 cd2 ct2 oc3 kV3 dc3 pm3 cd3 ct3 oc4 kV4 dc4 pm4 cd4 ct4 oc5 kV5 dc5 pm5 cd5 ct5 oc6 kV6 dc6 pm6 cd6 ct6 oc7 kV7 dc7 pm7 cd7 ct7 oc8 kV8 dc8 pm8 cd8 ct8 oc9 kV9 dc9 pm9 cd9 ct9 oc10 kV10 dc10 pm10 cd10 ct10 oc11 kV11 dc11 pm11 cd11 ct11 oc12 kV12 dc12 pm12 cd12 ct12 oc13 kV13 dc13 pm13 cd13 ct13 oc14 kV14 dc14 pm14 cd14 ct14 oc15 kV15 dc15 pm15 cd15 ct15 oc16 kV16 dc16 pm16 cd16 ct16 oc17 kV17 dc17 pm17 cd17 ct17 oc18 kV18 dc18 pm18 cd18 ct18 oc19 kV19 dc19 pm19 cd19 ct19 oc20 kV20 dc20 pm20 cd20 ct20 oc21 kV21 dc21 pm21 cd21 ct21 oc22 kV22 dc22 pm22 cd22 ct22 oc23 kV23 dc23 pm23 cd23 ct23 oc24 kV24 dc24 pm24 cd24 ct24 oc25 kV25 dc25 pm25 cd25 ct25 oc26 kV26 dc26 pm26 cd26 ct26 oc27 kV27 dc27 pm27 cd27 ct27 oc28 kV28 dc28 pm28 cd28 ct28 oc29 kV29 dc29 pm29 cd29 ct29 oc30 kV30 dc30 pm30 cd30 ct30 oc31 kV31 dc31 pm31 cd31 ct31 oc32 kV32 dc32 pm32 cd32 ct32 oc33 kV33 dc33 pm33 cd33 ct33 oc34 kV34 dc34 pm34 cd34 ct34 oc35 kV35 dc35 pm35 cd35 ct35 oc36 kV36 dc36 pm36 cd36 ct36 oc37 kV37 dc37 pm37 cd37 ct37 oc38 kV38 dc38 pm38 cd38 ct38 oc39 kV39 dc39 pm39 cd39 ct39 oc40 kV40 dc40 pm40 cd40 ct40 oc41 kV41 dc41 pm41 cd41 ct41 oc42 kV42 dc42 pm42 cd42 ct42 oc43 kV43 dc43 pm43 cd43 ct43 oc44 kV44 dc44 pm44 cd44 ct44 oc45 kV45 dc45 pm45 cd45 ct45 oc46 kV46 dc46 pm46 cd46 ct46 oc47 kV47 dc47 pm47 cd47 ct47 oc48 kV48 dc48 pm48 cd48 ct48 oc49 kV49 dc49 pm49 cd49 ct49 oc50 kV50 dc50 pm50 cd50 ct50 oc51 kV51 dc51 pm51 cd51 ct51 oc52 kV52 dc52 pm52 cd52 ct52 oc_LI kV_LI dc_LI pm_LI cd_LI ct_LI oc_RI kV_RI dc_RI pm_RI cd_RI ct_RI oc_HI kV_HI dc_HI pm_HI cd_HI ct_HI oc_AI kV_AI dc_AI pm_AI cd_AI ct_AI oc_TI kV_TI dc_TI pm_TI cd_TI ct_TI oc_StI kV_StI dc_StI pm_StI cd_StI ct_StI oc_StL kV_StL dc_StL pm_StL cd_StL ct_StL oc_StO kV_StO dc_StO pm_StO cd_StO ct_StO oc_HoI kV_HoI dc_HoI pm_HoI cd_HoI ct_HoI oc_HoW kV_HoW dc_HoW pm_HoW cd_HoW ct_HoW oc_HoL kV_HoL dc_HoL pm_HoL cd_HoL ct_HoL oc_HoB kV_HoB dc_HoB pm_HoB cd_HoB ct_HoB oc_EvI kV_EvI dc_EvI pm_EvI cd_EvI ct_EvI oc_EvW kV_EvW dc_EvW pm_EvW cd_EvW ct_EvW oc_EvO kV_EvO dc_EvO pm_EvO cd_EvO ct_EvO oc_EvB kV_EvB dc_EvB pm_EvB cd_EvB ct_EvB oc_OvI kV_OvI dc_OvI pm_OvI cd_OvI ct_OvI oc_OvW kV_OvW dc_OvW pm_OvW cd_OvW ct_OvW oc_OvO kV_OvO dc_OvO pm_OvO cd_OvO ct_OvO oc_OvB kV_OvB dc_OvB pm_OvB cd_OvB ct_OvB oc_UnI kV_UnI dc_UnI pm_UnI cd_UnI ct_UnI oc_UnW kV_UnW dc_UnW pm_UnW cd_UnW ct_UnW oc_UnB kV_UnB dc_UnB pm_UnB cd_UnB ct_UnB oc_OsI kV_OsI dc_OsI pm_OsI cd_OsI ct_OsI oc_OsW kV_OsW dc_OsW pm_OsW cd_OsW ct_OsW oc_OsL kV_OsL dc_OsL pm_OsL cd_OsL ct_OsL oc_OsO kV_OsO dc_OsO pm_OsO cd_OsO ct_OsO oc_OsB kV_OsB dc_OsB pm_OsB cd_OsB ct_OsB oc_UsI kV_UsI dc_UsI pm_UsI cd_UsI ct_UsI oc_UsW kV_UsW dc_UsW pm_UsW cd_UsW ct_UsW oc_UsL kV_UsL dc_UsL pm_UsL cd_UsL ct_UsL oc_UsB kV_UsB dc_UsB pm_UsB cd_UsB ct_UsB : Value} {TD : Addr} {dT : Option Addr} {slT : Array (Option Value)} {cT : Value} {nT : Nat}
     {t_MOST_PIECES : Tok}
    (a_L : NaI K "Line" C) (a_R : NaI K "Rest" CR) (a_H : NaI K "Chart" CH) (a_A : NaI K "Part" CA) (a_T : NaI K "Tally" CT) (a_St : NaI K "Step" CSt) (a_Ho : NaI K "Home" CHo) (a_Ev : NaI K "Even" CEv) (a_Ov : NaI K "Over" COv) (a_Un : NaI K "Under" CUn) (a_Os : NaI K "Overs" COs) (a_Us : NaI K "Unders" CUs) (d0 : DfI K "moved" sMoved f0 od0 an0 sl0 oc0 kV0 dc0 pm0 cd0 ct0) (d1 : DfI K "refuse_lengths" sRefL f1 od1 an1 sl1 oc1 kV1 dc1 pm1 cd1 ct1) (d2 : DfI K "refuse_order" sRefO f2 od2 an2 sl2 oc2 kV2 dc2 pm2 cd2 ct2) (d3 : DfI K "refuse_turned" sRefT f3 od3 an3 sl3 oc3 kV3 dc3 pm3 cd3 ct3) (d4 : DfI K "turns_told" sTold f4 od4 an4 sl4 oc4 kV4 dc4 pm4 cd4 ct4) (d5 : DfI K "first_places" sFirst f5 od5 an5 sl5 oc5 kV5 dc5 pm5 cd5 ct5) (d6 : DfI K "length_of" sLenOf f6 od6 an6 sl6 oc6 kV6 dc6 pm6 cd6 ct6) (d7 : DfI K "rest_of" sRestOf f7 od7 an7 sl7 oc7 kV7 dc7 pm7 cd7 ct7) (d8 : DfI K "letter_in" sLetIn f8 od8 an8 sl8 oc8 kV8 dc8 pm8 cd8 ct8) (d9 : DfI K "gone_between" sGone f9 od9 an9 sl9 oc9 kV9 dc9 pm9 cd9 ct9) (d10 : DfI K "letter_at" sLetter f10 od10 an10 sl10 oc10 kV10 dc10 pm10 cd10 ct10) (d11 : DfI K "rest_goes" sRGoes f11 od11 an11 sl11 oc11 kV11 dc11 pm11 cd11 ct11) (d12 : DfI K "rest_comes" sRComes f12 od12 an12 sl12 oc12 kV12 dc12 pm12 cd12 ct12) (d13 : DfI K "share_of" sShare f13 od13 an13 sl13 oc13 kV13 dc13 pm13 cd13 ct13) (d14 : DfI K "come_from" sComeF f14 od14 an14 sl14 oc14 kV14 dc14 pm14 cd14 ct14) (d15 : DfI K "address" sAddr f15 od15 an15 sl15 oc15 kV15 dc15 pm15 cd15 ct15) (d16 : DfI K "refuse_address" sRefA f16 od16 an16 sl16 oc16 kV16 dc16 pm16 cd16 ct16) (d17 : DfI K "part_own_first" sPart1 f17 od17 an17 sl17 oc17 kV17 dc17 pm17 cd17 ct17) (d18 : DfI K "part_own_last" sPart2 f18 od18 an18 sl18 oc18 kV18 dc18 pm18 cd18 ct18) (d19 : DfI K "part_done" sPartD f19 od19 an19 sl19 oc19 kV19 dc19 pm19 cd19 ct19) (d20 : DfI K "gone_by_part" sGoneB f20 od20 an20 sl20 oc20 kV20 dc20 pm20 cd20 ct20) (d21 : DfI K "homes_of" sHomes f21 od21 an21 sl21 oc21 kV21 dc21 pm21 cd21 ct21) (d22 : DfI K "place" sPlace f22 od22 an22 sl22 oc22 kV22 dc22 pm22 cd22 ct22) (d23 : DfI K "tally_ahead" sTallyA f23 od23 an23 sl23 oc23 kV23 dc23 pm23 cd23 ct23) (d24 : DfI K "floor_visits" sFloorV f24 od24 an24 sl24 oc24 kV24 dc24 pm24 cd24 ct24) (d25 : DfI K "visits" sVisits f25 od25 an25 sl25 oc25 kV25 dc25 pm25 cd25 ct25) (d26 : DfI K "band_visits" sBandV f26 od26 an26 sl26 oc26 kV26 dc26 pm26 cd26 ct26) (d27 : DfI K "without" J7d f27 od27 an27 sl27 oc27 kV27 dc27 pm27 cd27 ct27) (d28 : DfI K "letters_behind" J7f f28 od28 an28 sl28 oc28 kV28 dc28 pm28 cd28 ct28) (d29 : DfI K "put_beside" sPut f29 od29 an29 sl29 oc29 kV29 dc29 pm29 cd29 ct29) (d30 : DfI K "changed" J7e f30 od30 an30 sl30 oc30 kV30 dc30 pm30 cd30 ct30) (d31 : DfI K "shortened" sShort f31 od31 an31 sl31 oc31 kV31 dc31 pm31 cd31 ct31) (d32 : DfI K "turns_behind" sTurnsB f32 od32 an32 sl32 oc32 kV32 dc32 pm32 cd32 ct32) (d33 : DfI K "whole_times" sTimes f33 od33 an33 sl33 oc33 kV33 dc33 pm33 cd33 ct33) (d34 : DfI K "over_step" sOverS f34 od34 an34 sl34 oc34 kV34 dc34 pm34 cd34 ct34) (d35 : DfI K "under_step" sUnderS f35 od35 an35 sl35 oc35 kV35 dc35 pm35 cd35 ct35) (d36 : DfI K "next_step" sNext f36 od36 an36 sl36 oc36 kV36 dc36 pm36 cd36 ct36) (d37 : DfI K "first_towers" sFirstT f37 od37 an37 sl37 oc37 kV37 dc37 pm37 cd37 ct37) (d38 : DfI K "towers_behind" sTowB f38 od38 an38 sl38 oc38 kV38 dc38 pm38 cd38 ct38) (d39 : DfI K "bands_left" sBandsL f39 od39 an39 sl39 oc39 kV39 dc39 pm39 cd39 ct39) (d40 : DfI K "other_offset" sOther f40 od40 an40 sl40 oc40 kV40 dc40 pm40 cd40 ct40) (d41 : DfI K "address_after" sAdAf f41 od41 an41 sl41 oc41 kV41 dc41 pm41 cd41 ct41) (d42 : DfI K "after" sAfter f42 od42 an42 sl42 oc42 kV42 dc42 pm42 cd42 ct42) (d43 : DfI K "_law_cell" sCell f43 od43 an43 sl43 oc43 kV43 dc43 pm43 cd43 ct43) (d44 : DfI K "_law_drawn" sDrawn3 f44 od44 an44 sl44 oc44 kV44 dc44 pm44 cd44 ct44) (d45 : DfI K "_law_whole" sWhole f45 od45 an45 sl45 oc45 kV45 dc45 pm45 cd45 ct45) (d46 : DfI K "_law_great" sGreat f46 od46 an46 sl46 oc46 kV46 dc46 pm46 cd46 ct46) (d47 : DfI K "_law_piece" sPiece f47 od47 an47 sl47 oc47 kV47 dc47 pm47 cd47 ct47) (d48 : DfI K "_law_told" sToldV f48 od48 an48 sl48 oc48 kV48 dc48 pm48 cd48 ct48) (d49 : DfI K "_law_many" sMany f49 od49 an49 sl49 oc49 kV49 dc49 pm49 cd49 ct49) (d50 : DfI K "_law_sum" sSumV f50 od50 an50 sl50 oc50 kV50 dc50 pm50 cd50 ct50) (d51 : DfI K "_law_bands" J7g f51 od51 an51 sl51 oc51 kV51 dc51 pm51 cd51 ct51) (d52 : DfI K "law" sLaw f52 od52 an52 sl52 oc52 kV52 dc52 pm52 cd52 ct52) (me_LI : MeI K C "__init__" "Line.__init__" sInit (.ref TD) f_LI od_LI an_LI sl_LI oc_LI kV_LI dc_LI pm_LI cd_LI ct_LI) (lT : K.lookup TD = some ⟨cT, dT, .seq #[.none] nT, slT⟩) (me_RI : MeI K CR "__init__" "Rest.__init__" sRInit .none f_RI od_RI an_RI sl_RI oc_RI kV_RI dc_RI pm_RI cd_RI ct_RI) (me_HI : MeI K CH "__init__" "Chart.__init__" sChInit .none f_HI od_HI an_HI sl_HI oc_HI kV_HI dc_HI pm_HI cd_HI ct_HI) (me_AI : MeI K CA "__init__" "Part.__init__" sPaInit .none f_AI od_AI an_AI sl_AI oc_AI kV_AI dc_AI pm_AI cd_AI ct_AI) (me_TI : MeI K CT "__init__" "Tally.__init__" sTaInit .none f_TI od_TI an_TI sl_TI oc_TI kV_TI dc_TI pm_TI cd_TI ct_TI) (me_StI : MeI K CSt "__init__" "Step.__init__" sStInit .none f_StI od_StI an_StI sl_StI oc_StI kV_StI dc_StI pm_StI cd_StI ct_StI) (me_StL : MeI K CSt "losers" "Step.losers" J5m .none f_StL od_StL an_StL sl_StL oc_StL kV_StL dc_StL pm_StL cd_StL ct_StL) (me_StO : MeI K CSt "own_first" "Step.own_first" sStOwn .none f_StO od_StO an_StO sl_StO oc_StO kV_StO dc_StO pm_StO cd_StO ct_StO) (me_HoI : MeI K CHo "__init__" "Home.__init__" sHoInit .none f_HoI od_HoI an_HoI sl_HoI oc_HoI kV_HoI dc_HoI pm_HoI cd_HoI ct_HoI) (me_HoW : MeI K CHo "word" "Home.word" sHoWord .none f_HoW od_HoW an_HoW sl_HoW oc_HoW kV_HoW dc_HoW pm_HoW cd_HoW ct_HoW) (me_HoL : MeI K CHo "losers" "Home.losers" J5q .none f_HoL od_HoL an_HoL sl_HoL oc_HoL kV_HoL dc_HoL pm_HoL cd_HoL ct_HoL) (me_HoB : MeI K CHo "behind" "Home.behind" J5r .none f_HoB od_HoB an_HoB sl_HoB oc_HoB kV_HoB dc_HoB pm_HoB cd_HoB ct_HoB) (me_EvI : MeI K CEv "__init__" "Even.__init__" sEvInit .none f_EvI od_EvI an_EvI sl_EvI oc_EvI kV_EvI dc_EvI pm_EvI cd_EvI ct_EvI) (me_EvW : MeI K CEv "word" "Even.word" sEvWord .none f_EvW od_EvW an_EvW sl_EvW oc_EvW kV_EvW dc_EvW pm_EvW cd_EvW ct_EvW) (me_EvO : MeI K CEv "own_first" "Even.own_first" sEvOwn .none f_EvO od_EvO an_EvO sl_EvO oc_EvO kV_EvO dc_EvO pm_EvO cd_EvO ct_EvO) (me_EvB : MeI K CEv "behind" "Even.behind" J5s .none f_EvB od_EvB an_EvB sl_EvB oc_EvB kV_EvB dc_EvB pm_EvB cd_EvB ct_EvB) (me_OvI : MeI K COv "__init__" "Over.__init__" sOvInit .none f_OvI od_OvI an_OvI sl_OvI oc_OvI kV_OvI dc_OvI pm_OvI cd_OvI ct_OvI) (me_OvW : MeI K COv "word" "Over.word" sOvWord .none f_OvW od_OvW an_OvW sl_OvW oc_OvW kV_OvW dc_OvW pm_OvW cd_OvW ct_OvW) (me_OvO : MeI K COv "own_first" "Over.own_first" sOvOwn .none f_OvO od_OvO an_OvO sl_OvO oc_OvO kV_OvO dc_OvO pm_OvO cd_OvO ct_OvO) (me_OvB : MeI K COv "behind" "Over.behind" J5n .none f_OvB od_OvB an_OvB sl_OvB oc_OvB kV_OvB dc_OvB pm_OvB cd_OvB ct_OvB) (me_UnI : MeI K CUn "__init__" "Under.__init__" sUnInit .none f_UnI od_UnI an_UnI sl_UnI oc_UnI kV_UnI dc_UnI pm_UnI cd_UnI ct_UnI) (me_UnW : MeI K CUn "word" "Under.word" sUnWord .none f_UnW od_UnW an_UnW sl_UnW oc_UnW kV_UnW dc_UnW pm_UnW cd_UnW ct_UnW) (me_UnB : MeI K CUn "behind" "Under.behind" J5l .none f_UnB od_UnB an_UnB sl_UnB oc_UnB kV_UnB dc_UnB pm_UnB cd_UnB ct_UnB) (me_OsI : MeI K COs "__init__" "Overs.__init__" sOsInit .none f_OsI od_OsI an_OsI sl_OsI oc_OsI kV_OsI dc_OsI pm_OsI cd_OsI ct_OsI) (me_OsW : MeI K COs "word" "Overs.word" sOsWord .none f_OsW od_OsW an_OsW sl_OsW oc_OsW kV_OsW dc_OsW pm_OsW cd_OsW ct_OsW) (me_OsL : MeI K COs "losers" "Overs.losers" J5o .none f_OsL od_OsL an_OsL sl_OsL oc_OsL kV_OsL dc_OsL pm_OsL cd_OsL ct_OsL) (me_OsO : MeI K COs "own_first" "Overs.own_first" sOsOwn .none f_OsO od_OsO an_OsO sl_OsO oc_OsO kV_OsO dc_OsO pm_OsO cd_OsO ct_OsO) (me_OsB : MeI K COs "behind" "Overs.behind" J5p .none f_OsB od_OsB an_OsB sl_OsB oc_OsB kV_OsB dc_OsB pm_OsB cd_OsB ct_OsB) (me_UsI : MeI K CUs "__init__" "Unders.__init__" sUsInit .none f_UsI od_UsI an_UsI sl_UsI oc_UsI kV_UsI dc_UsI pm_UsI cd_UsI ct_UsI) (me_UsW : MeI K CUs "word" "Unders.word" sUsWord .none f_UsW od_UsW an_UsW sl_UsW oc_UsW kV_UsW dc_UsW pm_UsW cd_UsW ct_UsW) (me_UsL : MeI K CUs "losers" "Unders.losers" J5j .none f_UsL od_UsL an_UsL sl_UsL oc_UsL kV_UsL dc_UsL pm_UsL cd_UsL ct_UsL) (me_UsB : MeI K CUs "behind" "Unders.behind" J5k .none f_UsB od_UsB an_UsB sl_UsB oc_UsB kV_UsB dc_UsB pm_UsB cd_UsB ct_UsB) (pg_L : ClI K C) (mk_L : MkI K C) (n_L_lengths : FnI K C "lengths") (n_L_order : FnI K C "order") (n_L_turned : FnI K C "turned") (n_L_starts : FnI K C "starts") (n_L_laid : FnI K C "laid") (n_L_size : FnI K C "size") (pg_R : ClI K CR) (mk_R : MkI K CR) (n_R_top : FnI K CR "top") (n_R_bottom : FnI K CR "bottom") (n_R_lengths : FnI K CR "lengths") (n_R_turned : FnI K CR "turned") (n_R_size : FnI K CR "size") (pg_H : ClI K CH) (mk_H : MkI K CH) (n_H_line : FnI K CH "line") (n_H_rests : FnI K CH "rests") (n_H_steps : FnI K CH "steps") (n_H_towers : FnI K CH "towers") (n_H_bands : FnI K CH "bands") (pg_A : ClI K CA) (mk_A : MkI K CA) (n_A_own : FnI K CA "own") (n_A_times : FnI K CA "times") (n_A_letter : FnI K CA "letter") (n_A_due : FnI K CA "due") (pg_T : ClI K CT) (mk_T : MkI K CT) (n_T_counts : FnI K CT "counts") (n_T_letter : FnI K CT "letter") (n_T_due : FnI K CT "due") (pg_St : ClI K CSt) (ih_Ho_own_first : FiI K CHo "own_first" f_StO) (pg_Ho : ClI K CHo) (mk_Ho : MkI K CHo) (n_Ho_winner : FnI K CHo "winner") (n_Ho_loser : FnI K CHo "loser") (n_Ho_times : FnI K CHo "times") (ih_Ev_losers : FiI K CEv "losers" f_StL) (pg_Ev : ClI K CEv) (mk_Ev : MkI K CEv) (n_Ev_winner : FnI K CEv "winner") (n_Ev_loser : FnI K CEv "loser") (n_Ev_times : FnI K CEv "times") (ih_Ov_losers : FiI K COv "losers" f_StL) (pg_Ov : ClI K COv) (mk_Ov : MkI K COv) (n_Ov_winner : FnI K COv "winner") (n_Ov_loser : FnI K COv "loser") (n_Ov_times : FnI K COv "times") (ih_Un_losers : FiI K CUn "losers" f_StL) (ih_Un_own_first : FiI K CUn "own_first" f_StO) (pg_Un : ClI K CUn) (mk_Un : MkI K CUn) (n_Un_winner : FnI K CUn "winner") (n_Un_loser : FnI K CUn "loser") (n_Un_times : FnI K CUn "times") (pg_Os : ClI K COs) (mk_Os : MkI K COs) (n_Os_winner : FnI K COs "winner") (n_Os_loser : FnI K COs "loser") (n_Os_times : FnI K COs "times") (ih_Us_own_first : FiI K CUs "own_first" f_StO) (pg_Us : ClI K CUs) (mk_Us : MkI K CUs) (n_Us_winner : FnI K CUs "winner") (n_Us_loser : FnI K CUs "loser") (n_Us_times : FnI K CUs "times") (z_len : NzI K "len") (z_min : NzI K "min") (z_sum : NzI K "sum") (z_sorted : NzI K "sorted") (z_list : NzI K "list") (z_range : NzI K "range") (z_tuple : NzI K "tuple") (z_isinstance : NzI K "isinstance") (z_int : NzI K "int") (z_bool : NzI K "bool") (z_enumerate : NzI K "enumerate") (z_ValueError : NzI K "ValueError") (v_MOST_PIECES : nsIn K mainGlobals "MOST_PIECES" = some (some (.int 24 t_MOST_PIECES))) (aOutside : nsIn K mainGlobals "Outside" = some (some (.ref COutside))) (xOutside : excIn K COutside bmV "ValueError.__new__" = true) (aBadAddress : nsIn K mainGlobals "BadAddress" = some (some (.ref CBadAddress))) (xBadAddress : excIn K CBadAddress bmV "ValueError.__new__" = true) (sbB : specialIn K (.ref CSt) "__getattribute__" = some (some (.builtin "type.__getattribute__"))) (rdB : readsIn K CSt (.type "type") = true) (fdB : findCls K (.ref CSt) (.type "type") "__init__" = some (.val (.ref f_StI)))
    : ∃ fd : FuncData, (∀ (s : Shared) (v : Value), BindsTo s fd ⟨[v], []⟩ [("script", v)]) /\ ∀ base : Heap, K.In base -> base.Ns mainGlobals mg -> FnOk l.prog w K mg base CX0 9 fa fd ["script"] (spLaw K) := by
  have e := hfa.symm.trans (mg_of X G d52.1);cases e;obtain ⟨F0, m0, k0⟩ := dfn X G d0;have b0 := F0.binds (ps := ["line", "piece", "offset", "firsts"]) fun _ _ _ _ _ _ => usOf4 fun _ _ _ _ => rfl
  obtain ⟨F1, m1, k1⟩ := dfn X G d1;have b1 := F1.binds (ps := ["lengths"]) fun _ _ _ _ _ _ => usOf1 fun _ => rfl
  obtain ⟨F2, m2, k2⟩ := dfn X G d2;have b2 := F2.binds (ps := ["order", "pieces"]) fun _ _ _ _ _ _ => usOf2 fun _ _ => rfl
  obtain ⟨F3, m3, k3⟩ := dfn X G d3;have b3 := F3.binds (ps := ["turned", "pieces"]) fun _ _ _ _ _ _ => usOf2 fun _ _ => rfl
  obtain ⟨F4, m4, k4⟩ := dfn X G d4;have b4 := F4.binds (ps := ["turned", "pieces"]) fun _ _ _ _ _ _ => usOf2 fun _ _ => rfl
  obtain ⟨F5, m5, k5⟩ := dfn X G d5;have b5 := F5.binds (ps := ["lengths", "order"]) fun _ _ _ _ _ _ => usOf2 fun _ _ => rfl
  obtain ⟨F6, m6, k6⟩ := dfn X G d6;have b6 := F6.binds (ps := ["rest", "letters"]) fun _ _ _ _ _ _ => usOf2 fun _ _ => rfl
  obtain ⟨F7, m7, k7⟩ := dfn X G d7;have b7 := F7.binds (ps := ["line"]) fun _ _ _ _ _ _ => usOf1 fun _ => rfl
  obtain ⟨F8, m8, k8⟩ := dfn X G d8;have b8 := F8.binds (ps := ["rest", "row", "y"]) fun _ _ _ _ _ _ => usOf3 fun _ _ _ => rfl
  obtain ⟨F9, m9, k9⟩ := dfn X G d9;have b9 := F9.binds (ps := ["rest", "y", "from_row", "to_row"]) fun _ _ _ _ _ _ => usOf4 fun _ _ _ _ => rfl
  obtain ⟨F10, m10, k10⟩ := dfn X G d10;have b10 := F10.binds (ps := ["rest", "y"]) fun _ _ _ _ _ _ => usOf2 fun _ _ => rfl
  obtain ⟨F11, m11, k11⟩ := dfn X G d11;have b11 := F11.binds (ps := ["rest", "y"]) fun _ _ _ _ _ _ => usOf2 fun _ _ => rfl
  obtain ⟨F12, m12, k12⟩ := dfn X G d12;have b12 := F12.binds (ps := ["rest", "y"]) fun _ _ _ _ _ _ => usOf2 fun _ _ => rfl
  obtain ⟨F13, m13, k13⟩ := dfn X G d13;have b13 := F13.binds (ps := ["chart", "at"]) fun _ _ _ _ _ _ => usOf2 fun _ _ => rfl
  obtain ⟨F14, m14, k14⟩ := dfn X G d14;have b14 := F14.binds (ps := ["chart", "at", "y"]) fun _ _ _ _ _ _ => usOf3 fun _ _ _ => rfl
  obtain ⟨F15, m15, k15⟩ := dfn X G d15;have b15 := F15.binds (ps := ["chart", "x"]) fun _ _ _ _ _ _ => usOf2 fun _ _ => rfl
  obtain ⟨F16, m16, k16⟩ := dfn X G d16;have b16 := F16.binds (ps := ["chart", "told"]) fun _ _ _ _ _ _ => usOf2 fun _ _ => rfl
  obtain ⟨F17, m17, k17⟩ := dfn X G d17;have b17 := F17.binds (ps := ["step", "towers", "letter", "due"]) fun _ _ _ _ _ _ => usOf4 fun _ _ _ _ => rfl
  obtain ⟨F18, m18, k18⟩ := dfn X G d18;have b18 := F18.binds (ps := ["step", "towers", "letter", "due"]) fun _ _ _ _ _ _ => usOf4 fun _ _ _ _ => rfl
  obtain ⟨F19, m19, k19⟩ := dfn X G d19;have b19 := F19.binds (ps := ["chart", "at", "letter", "due"]) fun _ _ _ _ _ _ => usOf4 fun _ _ _ _ => rfl
  obtain ⟨F20, m20, k20⟩ := dfn X G d20;have b20 := F20.binds (ps := ["chart", "at", "y", "part"]) fun _ _ _ _ _ _ => usOf4 fun _ _ _ _ => rfl
  obtain ⟨F21, m21, k21⟩ := dfn X G d21;have b21 := F21.binds (ps := ["chart"]) fun _ _ _ _ _ _ => usOf1 fun _ => rfl
  obtain ⟨F22, m22, k22⟩ := dfn X G d22;have b22 := F22.binds (ps := ["chart", "told"]) fun _ _ _ _ _ _ => usOf2 fun _ _ => rfl
  obtain ⟨F23, m23, k23⟩ := dfn X G d23;have b23 := F23.binds (ps := ["chart", "at", "tally"]) fun _ _ _ _ _ _ => usOf3 fun _ _ _ => rfl
  obtain ⟨F24, m24, k24⟩ := dfn X G d24;have b24 := F24.binds (ps := ["chart", "band", "goings"]) fun _ _ _ _ _ _ => usOf3 fun _ _ _ => rfl
  obtain ⟨F25, m25, k25⟩ := dfn X G d25;have b25 := F25.binds (ps := ["chart", "x", "goings"]) fun _ _ _ _ _ _ => usOf3 fun _ _ _ => rfl
  obtain ⟨F26, m26, k26⟩ := dfn X G d26;have b26 := F26.binds (ps := ["chart"]) fun _ _ _ _ _ _ => usOf1 fun _ => rfl
  obtain ⟨F27, m27, k27⟩ := dfn X G d27;have b27 := F27.binds (ps := ["row", "letter"]) fun _ _ _ _ _ _ => usOf2 fun _ _ => rfl
  obtain ⟨F28, m28, k28⟩ := dfn X G d28;have b28 := F28.binds (ps := ["row", "letter"]) fun _ _ _ _ _ _ => usOf2 fun _ _ => rfl
  obtain ⟨F29, m29, k29⟩ := dfn X G d29;have b29 := F29.binds (ps := ["row", "winner", "loser", "ahead"]) fun _ _ _ _ _ _ => usOf4 fun _ _ _ _ => rfl
  obtain ⟨F30, m30, k30⟩ := dfn X G d30;have b30 := F30.binds (ps := ["row", "letter", "entry"]) fun _ _ _ _ _ _ => usOf3 fun _ _ _ => rfl
  obtain ⟨F31, m31, k31⟩ := dfn X G d31;have b31 := F31.binds (ps := ["rest", "winner", "less"]) fun _ _ _ _ _ _ => usOf3 fun _ _ _ => rfl
  obtain ⟨F32, m32, k32⟩ := dfn X G d32;have b32 := F32.binds (ps := ["rest", "winner", "loser"]) fun _ _ _ _ _ _ => usOf3 fun _ _ _ => rfl
  obtain ⟨F33, m33, k33⟩ := dfn X G d33;have b33 := F33.binds (ps := ["rest", "winner", "row"]) fun _ _ _ _ _ _ => usOf3 fun _ _ _ => rfl
  obtain ⟨F34, m34, k34⟩ := dfn X G d34;have b34 := F34.binds (ps := ["rest", "winner", "loser"]) fun _ _ _ _ _ _ => usOf3 fun _ _ _ => rfl
  obtain ⟨F35, m35, k35⟩ := dfn X G d35;have b35 := F35.binds (ps := ["rest", "winner", "loser"]) fun _ _ _ _ _ _ => usOf3 fun _ _ _ => rfl
  obtain ⟨F36, m36, k36⟩ := dfn X G d36;have b36 := F36.binds (ps := ["rest"]) fun _ _ _ _ _ _ => usOf1 fun _ => rfl
  obtain ⟨F37, m37, k37⟩ := dfn X G d37;have b37 := F37.binds (ps := ["line"]) fun _ _ _ _ _ _ => usOf1 fun _ => rfl
  obtain ⟨F38, m38, k38⟩ := dfn X G d38;have b38 := F38.binds (ps := ["towers", "step", "rest", "behind"]) fun _ _ _ _ _ _ => usOf4 fun _ _ _ _ => rfl
  obtain ⟨F39, m39, k39⟩ := dfn X G d39;have b39 := F39.binds (ps := ["step", "rest", "behind", "towers"]) fun _ _ _ _ _ _ => usOf4 fun _ _ _ _ => rfl
  obtain ⟨F40, m40, k40⟩ := dfn X G d40;have b40 := F40.binds (ps := ["band", "offset"]) fun _ _ _ _ _ _ => usOf2 fun _ _ => rfl
  obtain ⟨F41, m41, k41⟩ := dfn X G d41;have b41 := F41.binds (ps := ["chart", "told", "goings"]) fun _ _ _ _ _ _ => usOf3 fun _ _ _ => rfl
  obtain ⟨F42, m42, k42⟩ := dfn X G d42;have b42 := F42.binds (ps := ["chart", "x", "goings"]) fun _ _ _ _ _ _ => usOf3 fun _ _ _ => rfl
  obtain ⟨F43, m43, k43⟩ := dfn X G d43;have b43 := F43.binds (ps := ["script", "k"]) fun _ _ _ _ _ _ => usOf2 fun _ _ => rfl
  obtain ⟨F44, m44, k44⟩ := dfn X G d44;have b44 := F44.binds (ps := ["script", "many", "top"]) fun _ _ _ _ _ _ => usOf3 fun _ _ _ => rfl
  obtain ⟨F45, m45, k45⟩ := dfn X G d45;have b45 := F45.binds (ps := ["found"]) fun _ _ _ _ _ _ => usOf1 fun _ => rfl
  obtain ⟨F46, m46, k46⟩ := dfn X G d46;have b46 := F46.binds (ps := ["script"]) fun _ _ _ _ _ _ => usOf1 fun _ => rfl
  obtain ⟨F47, m47, k47⟩ := dfn X G d47;have b47 := F47.binds (ps := ["drawn", "x"]) fun _ _ _ _ _ _ => usOf2 fun _ _ => rfl
  obtain ⟨F48, m48, k48⟩ := dfn X G d48;have b48 := F48.binds (ps := ["found", "due"]) fun _ _ _ _ _ _ => usOf2 fun _ _ => rfl
  obtain ⟨F49, m49, k49⟩ := dfn X G d49;have b49 := F49.binds (ps := ["cell"]) fun _ _ _ _ _ _ => usOf1 fun _ => rfl
  obtain ⟨F50, m50, k50⟩ := dfn X G d50;have b50 := F50.binds (ps := ["found", "many"]) fun _ _ _ _ _ _ => usOf2 fun _ _ => rfl
  obtain ⟨F51, m51, k51⟩ := dfn X G d51;have b51 := F51.binds (ps := ["chart", "drawn"]) fun _ _ _ _ _ _ => usOf2 fun _ _ => rfl
  obtain ⟨F52, m52, k52⟩ := dfn X G d52;have b52 := F52.binds (ps := ["script"]) fun _ _ _ _ _ _ => usOf1 fun _ => rfl
  have mg_L := mg_of X G a_L;have cl_L := clf pg_L;have F_LI : FunD K "__init__" "Line.__init__" sInit f_LI _ TD := ⟨⟨oc_LI, od_LI, kV_LI, dc_LI, pm_LI, an_LI, cd_LI, ct_LI, sl_LI, rfl, me_LI.2.2.1, me_LI.2.2.2.1⟩, me_LI.2.2.2.2⟩;obtain ⟨b_LI, b1_LI⟩ := dflt_binds F_LI lT ["self", "lengths", "order", "turned"] (fun _ _ _ _ _ _ us hl => match us, hl with | [_, _, _, _], _ => ⟨_, rfl, rfl⟩) (fun _ _ _ _ _ _ us hl => match us, (show us.length = 3 by simpa using hl) with | [_, _, _], _ => ⟨_, rfl, rfl⟩);have mg_R := mg_of X G a_R;have cl_R := clf pg_R;have F_RI := J1i me_RI.2.2.1 me_RI.2.2.2.1 me_RI.2.2.2.2;have b_RI := F_RI.binds (ps := ["self", "top", "bottom", "lengths", "turned"]) fun _ _ _ _ _ _ => usOf5 fun _ _ _ _ _ => rfl
  have mg_H := mg_of X G a_H;have cl_H := clf pg_H;have F_HI := J1i me_HI.2.2.1 me_HI.2.2.2.1 me_HI.2.2.2.2;have b_HI := F_HI.binds (ps := ["self", "line"]) fun _ _ _ _ _ _ => usOf2 fun _ _ => rfl
  have mg_A := mg_of X G a_A;have cl_A := clf pg_A;have F_AI := J1i me_AI.2.2.1 me_AI.2.2.2.1 me_AI.2.2.2.2;have b_AI := F_AI.binds (ps := ["self", "own", "times", "letter", "due"]) fun _ _ _ _ _ _ => usOf5 fun _ _ _ _ _ => rfl
  have mg_T := mg_of X G a_T;have cl_T := clf pg_T;have F_TI := J1i me_TI.2.2.1 me_TI.2.2.2.1 me_TI.2.2.2.2;have b_TI := F_TI.binds (ps := ["self", "counts", "letter", "due"]) fun _ _ _ _ _ _ => usOf4 fun _ _ _ _ => rfl
  have mg_St := mg_of X G a_St;have cl_St := clf pg_St;have F_StI := J1i me_StI.2.2.1 me_StI.2.2.2.1 me_StI.2.2.2.2;have b_StI := F_StI.binds (ps := ["self", "winner", "loser", "times"]) fun _ _ _ _ _ _ => usOf4 fun _ _ _ _ => rfl
  have F_StL := J1i me_StL.2.2.1 me_StL.2.2.2.1 me_StL.2.2.2.2;have b_StL := F_StL.binds (ps := ["self", "rest"]) fun _ _ _ _ _ _ => usOf2 fun _ _ => rfl
  have F_StO := J1i me_StO.2.2.1 me_StO.2.2.2.1 me_StO.2.2.2.2;have b_StO := F_StO.binds (ps := ["self"]) fun _ _ _ _ _ _ => usOf1 fun _ => rfl
  have mg_Ho := mg_of X G a_Ho;have cl_Ho := clf pg_Ho;have F_HoI := J1i me_HoI.2.2.1 me_HoI.2.2.2.1 me_HoI.2.2.2.2;have b_HoI := F_HoI.binds (ps := ["self", "winner"]) fun _ _ _ _ _ _ => usOf2 fun _ _ => rfl
  have F_HoW := J1i me_HoW.2.2.1 me_HoW.2.2.2.1 me_HoW.2.2.2.2;have b_HoW := F_HoW.binds (ps := ["self"]) fun _ _ _ _ _ _ => usOf1 fun _ => rfl
  have F_HoL := J1i me_HoL.2.2.1 me_HoL.2.2.2.1 me_HoL.2.2.2.2;have b_HoL := F_HoL.binds (ps := ["self", "rest"]) fun _ _ _ _ _ _ => usOf2 fun _ _ => rfl
  have F_HoB := J1i me_HoB.2.2.1 me_HoB.2.2.2.1 me_HoB.2.2.2.2;have b_HoB := F_HoB.binds (ps := ["self", "rest"]) fun _ _ _ _ _ _ => usOf2 fun _ _ => rfl
  have mg_Ev := mg_of X G a_Ev;have cl_Ev := clf pg_Ev;have F_EvI := J1i me_EvI.2.2.1 me_EvI.2.2.2.1 me_EvI.2.2.2.2;have b_EvI := F_EvI.binds (ps := ["self", "winner", "loser"]) fun _ _ _ _ _ _ => usOf3 fun _ _ _ => rfl
  have F_EvW := J1i me_EvW.2.2.1 me_EvW.2.2.2.1 me_EvW.2.2.2.2;have b_EvW := F_EvW.binds (ps := ["self"]) fun _ _ _ _ _ _ => usOf1 fun _ => rfl
  have F_EvO := J1i me_EvO.2.2.1 me_EvO.2.2.2.1 me_EvO.2.2.2.2;have b_EvO := F_EvO.binds (ps := ["self"]) fun _ _ _ _ _ _ => usOf1 fun _ => rfl
  have F_EvB := J1i me_EvB.2.2.1 me_EvB.2.2.2.1 me_EvB.2.2.2.2;have b_EvB := F_EvB.binds (ps := ["self", "rest"]) fun _ _ _ _ _ _ => usOf2 fun _ _ => rfl
  have mg_Ov := mg_of X G a_Ov;have cl_Ov := clf pg_Ov;have F_OvI := J1i me_OvI.2.2.1 me_OvI.2.2.2.1 me_OvI.2.2.2.2;have b_OvI := F_OvI.binds (ps := ["self", "winner", "loser"]) fun _ _ _ _ _ _ => usOf3 fun _ _ _ => rfl
  have F_OvW := J1i me_OvW.2.2.1 me_OvW.2.2.2.1 me_OvW.2.2.2.2;have b_OvW := F_OvW.binds (ps := ["self"]) fun _ _ _ _ _ _ => usOf1 fun _ => rfl
  have F_OvO := J1i me_OvO.2.2.1 me_OvO.2.2.2.1 me_OvO.2.2.2.2;have b_OvO := F_OvO.binds (ps := ["self"]) fun _ _ _ _ _ _ => usOf1 fun _ => rfl
  have F_OvB := J1i me_OvB.2.2.1 me_OvB.2.2.2.1 me_OvB.2.2.2.2;have b_OvB := F_OvB.binds (ps := ["self", "rest"]) fun _ _ _ _ _ _ => usOf2 fun _ _ => rfl
  have mg_Un := mg_of X G a_Un;have cl_Un := clf pg_Un;have F_UnI := J1i me_UnI.2.2.1 me_UnI.2.2.2.1 me_UnI.2.2.2.2;have b_UnI := F_UnI.binds (ps := ["self", "winner", "loser"]) fun _ _ _ _ _ _ => usOf3 fun _ _ _ => rfl
  have F_UnW := J1i me_UnW.2.2.1 me_UnW.2.2.2.1 me_UnW.2.2.2.2;have b_UnW := F_UnW.binds (ps := ["self"]) fun _ _ _ _ _ _ => usOf1 fun _ => rfl
  have F_UnB := J1i me_UnB.2.2.1 me_UnB.2.2.2.1 me_UnB.2.2.2.2;have b_UnB := F_UnB.binds (ps := ["self", "rest"]) fun _ _ _ _ _ _ => usOf2 fun _ _ => rfl
  have mg_Os := mg_of X G a_Os;have cl_Os := clf pg_Os;have F_OsI := J1i me_OsI.2.2.1 me_OsI.2.2.2.1 me_OsI.2.2.2.2;have b_OsI := F_OsI.binds (ps := ["self", "winner", "times"]) fun _ _ _ _ _ _ => usOf3 fun _ _ _ => rfl
  have F_OsW := J1i me_OsW.2.2.1 me_OsW.2.2.2.1 me_OsW.2.2.2.2;have b_OsW := F_OsW.binds (ps := ["self"]) fun _ _ _ _ _ _ => usOf1 fun _ => rfl
  have F_OsL := J1i me_OsL.2.2.1 me_OsL.2.2.2.1 me_OsL.2.2.2.2;have b_OsL := F_OsL.binds (ps := ["self", "rest"]) fun _ _ _ _ _ _ => usOf2 fun _ _ => rfl
  have F_OsO := J1i me_OsO.2.2.1 me_OsO.2.2.2.1 me_OsO.2.2.2.2;have b_OsO := F_OsO.binds (ps := ["self"]) fun _ _ _ _ _ _ => usOf1 fun _ => rfl
  have F_OsB := J1i me_OsB.2.2.1 me_OsB.2.2.2.1 me_OsB.2.2.2.2;have b_OsB := F_OsB.binds (ps := ["self", "rest"]) fun _ _ _ _ _ _ => usOf2 fun _ _ => rfl
  have mg_Us := mg_of X G a_Us;have cl_Us := clf pg_Us;have F_UsI := J1i me_UsI.2.2.1 me_UsI.2.2.2.1 me_UsI.2.2.2.2;have b_UsI := F_UsI.binds (ps := ["self", "winner", "times"]) fun _ _ _ _ _ _ => usOf3 fun _ _ _ => rfl
  have F_UsW := J1i me_UsW.2.2.1 me_UsW.2.2.2.1 me_UsW.2.2.2.2;have b_UsW := F_UsW.binds (ps := ["self"]) fun _ _ _ _ _ _ => usOf1 fun _ => rfl
  have F_UsL := J1i me_UsL.2.2.1 me_UsL.2.2.2.1 me_UsL.2.2.2.2;have b_UsL := F_UsL.binds (ps := ["self", "rest"]) fun _ _ _ _ _ _ => usOf2 fun _ _ => rfl
  have F_UsB := J1i me_UsB.2.2.1 me_UsB.2.2.2.1 me_UsB.2.2.2.2;have b_UsB := F_UsB.binds (ps := ["self", "rest"]) fun _ _ _ _ _ _ => usOf2 fun _ _ => rfl
  have T0 : Txt K mg := ⟨mg_none_of X G z_len, mg_none_of X G z_min, mg_none_of X G z_sum, mg_none_of X G z_sorted, mg_none_of X G z_list, mg_none_of X G z_range, mg_none_of X G z_tuple, ⟨_, mg_of X G v_MOST_PIECES⟩⟩;have T : TxtR mg := ⟨mg_none_of X G z_len, mg_none_of X G z_sum, mg_none_of X G z_tuple, mg_none_of X G z_list, mg_none_of X G z_range⟩;have TC : TxtC K mg C := ⟨cl_L, n_L_lengths, n_L_order, n_L_turned, n_L_starts, n_L_laid, n_L_size⟩;have TR : TxtRest K CR := ⟨cl_R, n_R_top, n_R_bottom, n_R_lengths, n_R_turned, n_R_size⟩;have TH : TxtCh K CH := ⟨cl_H, n_H_line, n_H_rests, n_H_steps, n_H_towers, n_H_bands⟩;have TL : TxtL K mg := ⟨mg_none_of X G z_isinstance, mg_none_of X G z_int, mg_none_of X G z_bool, kib K⟩;have TPa : TxtPa K CA := ⟨cl_A, n_A_own, n_A_times, n_A_letter, n_A_due⟩;have TTa : TxtTa K CT := ⟨cl_T, n_T_counts, n_T_letter, n_T_due⟩;have TOutside : TxtX K mg "Outside" COutside := ⟨mg_of X G aOutside, xOutside⟩;have TBadAddress : TxtX K mg "BadAddress" CBadAddress := ⟨mg_of X G aBadAddress, xBadAddress⟩;have hcs : ∃ cs : Kd -> Addr, cs = csOf CHo CEv COv CUn COs CUs := ⟨_, rfl⟩;obtain ⟨cs, hcs⟩ := hcs;have TS : TxtS K cs := by
    subst hcs;exact ⟨fun k => match k with | .ho => cl_Ho | .ev => cl_Ev | .ov => cl_Ov | .un => cl_Un | .os => cl_Os | .us => cl_Us, fun k => match k with | .ho => n_Ho_winner | .ev => n_Ev_winner | .ov => n_Ov_winner | .un => n_Un_winner | .os => n_Os_winner | .us => n_Us_winner, fun k => match k with | .ho => n_Ho_loser | .ev => n_Ev_loser | .ov => n_Ov_loser | .un => n_Un_loser | .os => n_Os_loser | .us => n_Us_loser, fun k => match k with | .ho => n_Ho_times | .ev => n_Ev_times | .ov => n_Ov_times | .un => n_Un_times | .os => n_Os_times | .us => n_Us_times⟩
  have BM : BaseM K CSt "__init__" f_StI := ⟨sbB, rdB, fdB, me_StI.2.2.2.2⟩;have MHo : Mk K (cs .ho) f_HoI := by
    subst hcs;exact ⟨mk_Ho.1, me_HoI.1, me_HoI.2.1, mk_Ho.2⟩
  have m_Ho : mg "Home" = some (.ref (cs .ho)) := by
    subst hcs;exact mg_Ho
  have ClHo : Cls K (cs .ho) := TS.cl _;have Me_Ho_W : Meth K (cs .ho) "word" f_HoW := by
    subst hcs;exact ⟨me_HoW.1, me_HoW.2.1, me_HoW.2.2.2.2⟩
  have Me_Ho_L : Meth K (cs .ho) "losers" f_HoL := by
    subst hcs;exact ⟨me_HoL.1, me_HoL.2.1, me_HoL.2.2.2.2⟩
  have Me_Ho_O : Meth K (cs .ho) "own_first" f_StO := by
    subst hcs;exact ⟨ih_Ho_own_first, me_StO.2.1, me_StO.2.2.2.2⟩
  have Me_Ho_B : Meth K (cs .ho) "behind" f_HoB := by
    subst hcs;exact ⟨me_HoB.1, me_HoB.2.1, me_HoB.2.2.2.2⟩
  have MEv : Mk K (cs .ev) f_EvI := by
    subst hcs;exact ⟨mk_Ev.1, me_EvI.1, me_EvI.2.1, mk_Ev.2⟩
  have m_Ev : mg "Even" = some (.ref (cs .ev)) := by
    subst hcs;exact mg_Ev
  have ClEv : Cls K (cs .ev) := TS.cl _;have Me_Ev_W : Meth K (cs .ev) "word" f_EvW := by
    subst hcs;exact ⟨me_EvW.1, me_EvW.2.1, me_EvW.2.2.2.2⟩
  have Me_Ev_L : Meth K (cs .ev) "losers" f_StL := by
    subst hcs;exact ⟨ih_Ev_losers, me_StL.2.1, me_StL.2.2.2.2⟩
  have Me_Ev_O : Meth K (cs .ev) "own_first" f_EvO := by
    subst hcs;exact ⟨me_EvO.1, me_EvO.2.1, me_EvO.2.2.2.2⟩
  have Me_Ev_B : Meth K (cs .ev) "behind" f_EvB := by
    subst hcs;exact ⟨me_EvB.1, me_EvB.2.1, me_EvB.2.2.2.2⟩
  have MOv : Mk K (cs .ov) f_OvI := by
    subst hcs;exact ⟨mk_Ov.1, me_OvI.1, me_OvI.2.1, mk_Ov.2⟩
  have m_Ov : mg "Over" = some (.ref (cs .ov)) := by
    subst hcs;exact mg_Ov
  have ClOv : Cls K (cs .ov) := TS.cl _;have Me_Ov_W : Meth K (cs .ov) "word" f_OvW := by
    subst hcs;exact ⟨me_OvW.1, me_OvW.2.1, me_OvW.2.2.2.2⟩
  have Me_Ov_L : Meth K (cs .ov) "losers" f_StL := by
    subst hcs;exact ⟨ih_Ov_losers, me_StL.2.1, me_StL.2.2.2.2⟩
  have Me_Ov_O : Meth K (cs .ov) "own_first" f_OvO := by
    subst hcs;exact ⟨me_OvO.1, me_OvO.2.1, me_OvO.2.2.2.2⟩
  have Me_Ov_B : Meth K (cs .ov) "behind" f_OvB := by
    subst hcs;exact ⟨me_OvB.1, me_OvB.2.1, me_OvB.2.2.2.2⟩
  have MUn : Mk K (cs .un) f_UnI := by
    subst hcs;exact ⟨mk_Un.1, me_UnI.1, me_UnI.2.1, mk_Un.2⟩
  have m_Un : mg "Under" = some (.ref (cs .un)) := by
    subst hcs;exact mg_Un
  have ClUn : Cls K (cs .un) := TS.cl _;have Me_Un_W : Meth K (cs .un) "word" f_UnW := by
    subst hcs;exact ⟨me_UnW.1, me_UnW.2.1, me_UnW.2.2.2.2⟩
  have Me_Un_L : Meth K (cs .un) "losers" f_StL := by
    subst hcs;exact ⟨ih_Un_losers, me_StL.2.1, me_StL.2.2.2.2⟩
  have Me_Un_O : Meth K (cs .un) "own_first" f_StO := by
    subst hcs;exact ⟨ih_Un_own_first, me_StO.2.1, me_StO.2.2.2.2⟩
  have Me_Un_B : Meth K (cs .un) "behind" f_UnB := by
    subst hcs;exact ⟨me_UnB.1, me_UnB.2.1, me_UnB.2.2.2.2⟩
  have MOs : Mk K (cs .os) f_OsI := by
    subst hcs;exact ⟨mk_Os.1, me_OsI.1, me_OsI.2.1, mk_Os.2⟩
  have m_Os : mg "Overs" = some (.ref (cs .os)) := by
    subst hcs;exact mg_Os
  have ClOs : Cls K (cs .os) := TS.cl _;have Me_Os_W : Meth K (cs .os) "word" f_OsW := by
    subst hcs;exact ⟨me_OsW.1, me_OsW.2.1, me_OsW.2.2.2.2⟩
  have Me_Os_L : Meth K (cs .os) "losers" f_OsL := by
    subst hcs;exact ⟨me_OsL.1, me_OsL.2.1, me_OsL.2.2.2.2⟩
  have Me_Os_O : Meth K (cs .os) "own_first" f_OsO := by
    subst hcs;exact ⟨me_OsO.1, me_OsO.2.1, me_OsO.2.2.2.2⟩
  have Me_Os_B : Meth K (cs .os) "behind" f_OsB := by
    subst hcs;exact ⟨me_OsB.1, me_OsB.2.1, me_OsB.2.2.2.2⟩
  have MUs : Mk K (cs .us) f_UsI := by
    subst hcs;exact ⟨mk_Us.1, me_UsI.1, me_UsI.2.1, mk_Us.2⟩
  have m_Us : mg "Unders" = some (.ref (cs .us)) := by
    subst hcs;exact mg_Us
  have ClUs : Cls K (cs .us) := TS.cl _;have Me_Us_W : Meth K (cs .us) "word" f_UsW := by
    subst hcs;exact ⟨me_UsW.1, me_UsW.2.1, me_UsW.2.2.2.2⟩
  have Me_Us_L : Meth K (cs .us) "losers" f_UsL := by
    subst hcs;exact ⟨me_UsL.1, me_UsL.2.1, me_UsL.2.2.2.2⟩
  have Me_Us_O : Meth K (cs .us) "own_first" f_StO := by
    subst hcs;exact ⟨ih_Us_own_first, me_StO.2.1, me_StO.2.2.2.2⟩
  have Me_Us_B : Meth K (cs .us) "behind" f_UsB := by
    subst hcs;exact ⟨me_UsB.1, me_UsB.2.1, me_UsB.2.2.2.2⟩
  refine ⟨fnOf "law" "law" (J2u sLaw) (J2d sLaw) (J7 sLaw) .none kV52 dc52 pm52 an52 cd52 ct52, fun s v => .of_eq rfl, fun base _ _ => ?_⟩;have GF := ok_first (P := l.prog) (w := w) (base := base) F5 T;have GI := ok_init (P := l.prog) (w := w) (base := base) F_LI T0 TC (ok_refL F1 T0) b1 m1 k1 (ok_refO F2 T0) b2 m2 k2 (ok_told F4 T0 F3 b3 m3) b4 m4 k4 GF b5 m5 k5;have ML : Mk K C f_LI := ⟨mk_L.1, me_LI.1, me_LI.2.1, mk_L.2⟩;have GM := ok_movedF (P := l.prog) (w := w) (mg := mg) (base := base) F0;have GLn := ok_lenOf (P := l.prog) (w := w) (base := base) F6 T;have GRI := ok_rinit F_RI T TR GLn b6 m6 k6;have MR : Mk K CR f_RI := ⟨mk_R.1, me_RI.1, me_RI.2.1, mk_R.2⟩;have GLI := ok_letIn (P := l.prog) (w := w) (base := base) F8 TR TOutside;have GLA := ok_letter F10 TR GLI b8 m8 k8;have GGB := ok_gone F9 TR GLI b8 m8 k8 GF b5 m5 k5 GM b0 m0 k0;have GRG := ok_rgoes F11 TR GGB b9 m9 k9;have GRC := ok_rcomes F12 TR GGB b9 m9 k9;have GRO := ok_restof F7 T TC MR GRI b_RI mg_R;have GBL := ok_behindL (P := l.prog) (w := w) (mg := mg) (base := base) F28;have bBL := b28;have mBL := m28;have kBL := k28;have GSI := ok_sinit (P := l.prog) (w := w) (mg := mg) (base := base) F_StI TS;have GHoI := ok_hoinit F_HoI BM mg_St GSI b_StI;have GEvI := ok_evinit F_EvI BM mg_St GSI b_StI;have GOvI := ok_ovinit F_OvI BM mg_St GSI b_StI;have GUnI := ok_uninit F_UnI BM mg_St GSI b_StI;have GOsI := ok_osinit F_OsI BM mg_St GSI b_StI;have GUsI := ok_usinit F_UsI BM mg_St GSI b_StI;have HW : ∀ k, HasM l.prog w K mg base CX0 1 "word" ["self"] (J3m k) (cs k) := fun k => match k with | .ho => ⟨_, _, ClHo, Me_Ho_W, ok_howord F_HoW, b_HoW⟩ | .ev => ⟨_, _, ClEv, Me_Ev_W, ok_evword F_EvW, b_EvW⟩ | .ov => ⟨_, _, ClOv, Me_Ov_W, ok_ovword F_OvW, b_OvW⟩ | .un => ⟨_, _, ClUn, Me_Un_W, ok_unword F_UnW, b_UnW⟩ | .os => ⟨_, _, ClOs, Me_Os_W, ok_osword F_OsW, b_OsW⟩ | .us => ⟨_, _, ClUs, Me_Us_W, ok_usword F_UsW, b_UsW⟩
  have HO : ∀ k, HasM l.prog w K mg base CX0 1 "own_first" ["self"] (spOwn k) (cs k) := fun k => match k with | .ho => ⟨_, _, ClHo, Me_Ho_O, J7n F_StO rfl, b_StO⟩ | .ev => ⟨_, _, ClEv, Me_Ev_O, ok_evown F_EvO, b_EvO⟩ | .ov => ⟨_, _, ClOv, Me_Ov_O, ok_ovown F_OvO, b_OvO⟩ | .un => ⟨_, _, ClUn, Me_Un_O, J7n F_StO rfl, b_StO⟩ | .os => ⟨_, _, ClOs, Me_Os_O, ok_osown F_OsO, b_OsO⟩ | .us => ⟨_, _, ClUs, Me_Us_O, J7n F_StO rfl, b_StO⟩
  have HL : ∀ k, HasM l.prog w K mg base CX0 2 "losers" ["self", "rest"] (J1l cs CR k) (cs k) := fun k => match k with | .ho => ⟨_, _, ClHo, Me_Ho_L, ok_holosers F_HoL, b_HoL⟩ | .ev => ⟨_, _, ClEv, Me_Ev_L, J3s F_StL TS (.inl rfl), b_StL⟩ | .ov => ⟨_, _, ClOv, Me_Ov_L, J3s F_StL TS (.inr (.inl rfl)), b_StL⟩ | .un => ⟨_, _, ClUn, Me_Un_L, J3s F_StL TS (.inr (.inr rfl)), b_StL⟩ | .os => ⟨_, _, ClOs, Me_Os_L, ok_oslosers F_OsL TS TR GBL bBL mBL kBL, b_OsL⟩ | .us => ⟨_, _, ClUs, Me_Us_L, ok_uslosers F_UsL TS TR GBL bBL mBL kBL, b_UsL⟩
  have GWo := ok_without (P := l.prog) (w := w) (mg := mg) (base := base) F27;have GPu := ok_put F29 GWo b27 m27 k27;have GCh := ok_changed (P := l.prog) (w := w) (base := base) F30 T;have GSo := ok_short F31 TR GCh b30 m30 k30;have GTB := ok_turnsB F32 TR GCh b30 m30 k30;have HB : ∀ k, HasM l.prog w K mg base CX0 4 "behind" ["self", "rest"] (J2j cs CR k) (cs k) := fun k => match k with | .ho => ⟨_, _, ClHo, Me_Ho_B, ok_hobehind F_HoB TS TR GWo b27 m27 k27 GCh b30 m30 k30 MR GRI b_RI mg_R, b_HoB⟩ | .ev => ⟨_, _, ClEv, Me_Ev_B, ok_evbehind F_EvB TS TR GWo b27 m27 k27 GPu b29 m29 k29 GCh b30 m30 k30 GTB b32 m32 k32 MR GRI b_RI mg_R, b_EvB⟩ | .ov => ⟨_, _, ClOv, Me_Ov_B, ok_ovbehind F_OvB TS TR GPu b29 m29 k29 GSo b31 m31 k31 GTB b32 m32 k32 MR GRI b_RI mg_R, b_OvB⟩ | .un => ⟨_, _, ClUn, Me_Un_B, ok_unbehind F_UnB TS TR GPu b29 m29 k29 GSo b31 m31 k31 GTB b32 m32 k32 MR GRI b_RI mg_R, b_UnB⟩ | .os => ⟨_, _, ClOs, Me_Os_B, ok_osbehind F_OsB TS TR GLn b6 m6 k6 GSo b31 m31 k31 MR GRI b_RI mg_R HL, b_OsB⟩ | .us => ⟨_, _, ClUs, Me_Us_B, ok_usbehind F_UsB TS TR GLn b6 m6 k6 GSo b31 m31 k31 MR GRI b_RI mg_R HL, b_UsB⟩
  have GT := ok_times F33 TR GLn b6 m6 k6 GBL b28 m28 k28;have GO := ok_overs F34 TR GT b33 m33 k33 MOs GOsI b_OsI m_Os MOv GOvI b_OvI m_Ov;have GU := ok_unders F35 TR GT b33 m33 k33 MUs GUsI b_UsI m_Us MUn GUnI b_UnI m_Un;have GN := ok_next F36 TR MHo GHoI b_HoI m_Ho MEv GEvI b_EvI m_Ev GO b34 m34 k34 GU b35 m35 k35;have GFT := ok_firstT (P := l.prog) (w := w) (base := base) F37 T TC;have GTw := ok_towB (P := l.prog) (w := w) (base := base) F38 T (mg_none_of X G z_enumerate) TR TS HL;have GBa := ok_bandsL (P := l.prog) (w := w) (base := base) F39 TR TS HW;have GCI := ok_cinit F_HI T TR TS TH GRO b7 m7 k7 GFT b37 m37 k37 GN b36 m36 k36 HB GBa b39 m39 k39 GTw b38 m38 k38;have MH : Mk K CH f_HI := ⟨mk_H.1, me_HI.1, me_HI.2.1, mk_H.2⟩;have GSH := ok_share (P := l.prog) (w := w) (mg := mg) (base := base) (C := C) F13 TR TS TH;have GCF := ok_come (C := C) F14 TR TS TH GSH b13 m13 k13 HO GRC b12 m12 k12 GLA b10 m10 k10;have GAD := ok_addr F15 TC TR TS TH TOutside GCF b14 m14 k14 HW;have GRA := ok_refA (P := l.prog) (w := w) (base := base) (C := C) (CR := CR) (cs := cs) F16 T TH TBadAddress;have GHM := ok_homes  (C := C) (CR := CR) F21 TS TH (mg_none_of X G z_enumerate) HW;have GPA := ok_part (P := l.prog) (w := w) (mg := mg) (base := base) F_AI TPa;have MPA : Mk K CA f_AI := ⟨mk_A.1, me_AI.1, me_AI.2.1, mk_A.2⟩;have GP1 := ok_part1 F17 TS MPA GPA b_AI mg_A;have GP2 := ok_part2 F18 (mg_none_of X G z_min) TS MPA GPA b_AI mg_A;have GPD := ok_partD (C := C) F19 TR TS TH HL HO MPA GPA b_AI mg_A GP1 b17 m17 k17 GP2 b18 m18 k18;have GGP := ok_goneB F20 TR TS TH TPa GRG b11 m11 k11 HO GSH b13 m13 k13;have GPL := ok_place F22 T TR TS TH TPa GRA b16 m16 k16 GHM b21 m21 k21 GPD b19 m19 k19 GGP b20 m20 k20;have GTA := ok_tally (P := l.prog) (w := w) (mg := mg) (base := base) F_TI TTa;have MTA : Mk K CT f_TI := ⟨mk_T.1, me_TI.1, me_TI.2.1, mk_T.2⟩;have GTH := ok_tallyA F23 T TR TS TH TPa TTa GPD b19 m19 k19 HL MTA GTA b_TI mg_T;have GFV := ok_floorV F24 T TC TR TS TH TTa GHM b21 m21 k21 MTA GTA b_TI mg_T GTH b23 m23 k23;have GVI := ok_visits F25 T (mg_none_of X G z_enumerate) GAD b15 m15 k15 GFV b24 m24 k24;have GBV := ok_bandV F26 TH (mg_none_of X G z_enumerate) GFV b24 m24 k24;have GOO := ok_other (P := l.prog) (w := w) (mg := mg) (base := base) F40;have GAA := ok_adaf F41 (C := C) (CR := CR) (cs := cs) TH GOO b40 m40 k40;have GAF := ok_after F42 GAD b15 m15 k15 GAA b41 m41 k41 GPL b22 m22 k22;have GC := ok_cell (P := l.prog) (w := w) (base := base) F43 T;have GW := ok_whole (P := l.prog) (w := w) (base := base) F45 TL;have GD := ok_drawn (P := l.prog) (w := w) (base := base) F44 T GC b43 m43 k43;have GGt := ok_great F46 T GC b43 m43 k43 GD b44 m44 k44;have GMn := ok_many (P := l.prog) (w := w) (mg := mg) (base := base) F49;have GPi := ok_piece (P := l.prog) (w := w) (mg := mg) (base := base) F47;have GTd := ok_toldV F48 T (mg_none_of X G z_isinstance) GW b45 m45 k45;have GSv := ok_sumV F50 T (mg_none_of X G z_isinstance) GW b45 m45 k45;have GBd := ok_bandsV F51 T TH GBV b26 m26 k26 GSv b50 m50 k50;exact ok_law F52 T (mg_none_of X G z_min) (mg_none_of X G z_int) GGt b46 m46 k46 MH GCI b_HI mg_H ML GI b_LI mg_L GBd b51 m51 k51 GMn b49 m49 k49 GVI b25 m25 k25 GAF b42 m42 k42 GSv b50 m50 k50 GTd b48 m48 k48 GPi b47 m47 k47
theorem walk {l:PySem.W.OpenLaw} {q:Program} {loose:List Str} {XP:(Str->Option Value)->Heap->Prop} {YP:World->Heap->Prop} {d:DefRec} {K:Params->Frag} (hn:l.most=some 63) (hdf:d.params.defaults=[])
  (hY:∀ (w:World) (h:Heap),YP w h->(K w.params).In h)
  (F:∀ (w:World) (mg:Str->Option Value) (fa:Addr) (h:Heap),(K w.params).In h->h.Ns mainGlobals mg->mg d.name=some (.ref fa)->
   ∃ fd:FuncData,(∀ (s:Shared) (u:Value),BindsTo s fd ⟨[u],[]⟩ [("script",u)])/\∀ base:Heap,(K w.params).In base->base.Ns mainGlobals mg->FnOk l.prog w (K w.params) mg base CX0 9 fa fd ["script"] (spLaw (K w.params))) :
  PySem.W.WalkO q loose XP YP l.row.toRowW d [] (fun f vs=>PySem.call f vs) :=
 L2.walk_of (n:=63) (k:=9) (x:="script") (CX:=fun _=>CX0) (sp:=fun w=>spLaw (K w.params)) hn (by decide) hdf ⟨rfl,by decide,by decide⟩ hY F (fun _ _ a ns hl _ hS=>⟨a,ns,rfl,hS,hl,fun _=>rfl⟩) fun _ _ _ _ _ z=>z
end R42
open PySem PySem.W PyProof.Rows
namespace PySem.W.Fast
def tw6986598799665354692:=()
def tw12645047693041200839:=()
def tw8292479035054130228:=()
def tw2629334333297885929:=()
def tw12285320352557637909:=()
def tw1803632654830655650:=()
def tw2078753336610125058:=()
def tw98647479398775010:=()
def tw12509918169488339257:=()
def tw4002412939066941334:=()
def tw8532052153976787415:=()
def tw12133779735095202761:=()
def tw1364583366328104863:=()
def tw9580967138279190735:=()
def tw7085503272952597780:=()
def tw4994415273237228939:=()
def tw1582250021787228254:=()
def tw5675745426466196212:=()
def tw4501226059641820225:=()
def tw17631930416601279831:=()
def tw2747767108988282665:=()
def tw8328814729167525667:=()
end PySem.W.Fast
namespace PySem.W.Fast
def tw12491649186464319887:=()
def tw14723561778502864776:=()
def tw1338790062978913664:=()
def tw13362794375401113855:=()
def tw16134570680501362998:=()
def tw12678632025797358972:=()
def tw1700982330693529690:=()
def tw5662919347212856187:=()
def tw13096033050817328604:=()
def tw573363782579779208:=()
def tw15449562155196374412:=()
def tw672498246621253862:=()
def tw3596990639684438848:=()
def tw15379780303031627732:=()
def tw17839536299168433035:=()
def tw3862052590686474903:=()
def tw6299114206574727629:=()
def tw11985140230921771150:=()
def tw16273021807416272712:=()
def tw16112626984479992461:=()
def tw10155769408283547658:=()
def tw17724554366643590669:=()
def tw4423543369963107804:=()
def tw14844557063008150837:=()
def tw14191446265928596588:=()
def tw17879030120702681910:=()
def tw2683465084649483682:=()
def tw3286398807260279085:=()
def tw15880819953855017763:=()
def tw2048299497691245930:=()
def tw17172325599955366040:=()
def tw12022628428501103463:=()
def tw15191683879787647773:=()
def tw5585031611096903767:=()
def tw15026441862844103668:=()
def tw14440264003683686952:=()
def tw15055136039277994458:=()
def tw7946762719839885117:=()
def tw13802318835388297569:=()
def tw677352648946473512:=()
def tw12130590897430838438:=()
def tw2858963298558594720:=()
def tw13380269196511635445:=()
def tw4942285138531559295:=()
def tw2826235021557900829:=()
def tw8183275934455365488:=()
def tw1157656866857310545:=()
def tw17445372392536525058:=()
def tw14499067299546700139:=()
def tw12903507065281317521:=()
def tw5655354235290627940:=()
def tw14988830585073197952:=()
def tw9788782040762971690:=()
def tw4070677599498331937:=()
def tw18023412199550909298:=()
def tw4518050370670618014:=()
def tw3667755420382557818:=()
def tw1441390846686035136:=()
def tw5367431084664574280:=()
def tw7282378204774984268:=()
def tw8111714846532928098:=()
def tw11045239444672658903:=()
def tw15220469044964254337:=()
def tw18135416604268410952:=()
def tw15677465554927547168:=()
def tw14673003617591159277:=()
def tw12538836504869253525:=()
def tw3376257019057804475:=()
def tw7762714256673246558:=()
def tw15021439503484147310:=()
def tw12538398641671466261:=()
def tw740843468431874675:=()
def tw11925159363747719799:=()
def tw7434613856294076325:=()
def tw3100517454290138922:=()
def tw12121397190590869734:=()
def tw2012861158620696406:=()
def tw3080734779286514951:=()
def tw2740532444214778965:=()
def tw869586677093871634:=()
def tw15051281243818635090:=()
def tw1504147932930019173:=()
def tw13435394481015109930:=()
def tw17033736498893545899:=()
def tw3044806701066332721:=()
def tw13118767626065177657:=()
def tw3400991042969362583:=()
def tw13645354352597541608:=()
def tw7536477567961618560:=()
def tw5974811324669546209:=()
def tw6015029032391550935:=()
def tw2679973006232838239:=()
def tw14588898645157505970:=()
def tw1471525590540827847:=()
def tw4081951796226999287:=()
def tw5147705040991992127:=()
def tw10609234437704564158:=()
def tw6048939941687851151:=()
def tw16030071007174367392:=()
def tw11096188298951956676:=()
def tw2446171450490931812:=()
def tw492512734577558118:=()
def tw11910180588858822748:=()
def tw8514415095048011131:=()
def tw13668619429923245484:=()
def tw2415802187357956387:=()
def tw12401253679592472797:=()
def tw4334824284926389073:=()
def tw9453527401539547292:=()
def tw5950819876025387104:=()
def tw7321068539304099762:=()
def tw2580659058824217607:=()
def tw233635500483645312:=()
def tw16971340261926152192:=()
def tw10408505145064706044:=()
def tw17536222890069477650:=()
def tw806385011376596493:=()
def tw2736616437084651917:=()
def tw3096664654952441689:=()
def tw16476997156674570495:=()
def tw4216222209802458595:=()
def tw4989494294621566493:=()
def tw160824701217821424:=()
def tw12527935566265207203:=()
def tw5874829374683813047:=()
def tw9974184026602553445:=()
def tw15118005025608764329:=()
def tw16226253428813760761:=()
def tw2945491237406255964:=()
def tw14646395966645560818:=()
def tw9517843078363439616:=()
def tw17067765208726291930:=()
def tw17649818786279061765:=()
def tw12567125713495504999:=()
def tw18264261905164066430:=()
def tw14018688591341925248:=()
def tw14146960645202907747:=()
def tw3198525549488824986:=()
def tw15086878220907412632:=()
def tw7780481708653609494:=()
def tw3643840336909442740:=()
def tw8904989769507684229:=()
def tw1601514412649245055:=()
def tw17788723476483683081:=()
def tw6028570826379780215:=()
def tw13086080837897561268:=()
def tw12544761221846961109:=()
def tw6686119056017124542:=()
def tw9747201322758407951:=()
def tw16080308576282281605:=()
def tw3185204425413097887:=()
def tw14893165421984881924:=()
def tw7001256497424446716:=()
def tw10460451579035537099:=()
def tw14580927101223200545:=()
def tw1791898849403904779:=()
def tw10147096249067348172:=()
def tw10710386755560865127:=()
def tw1906217730693066032:=()
def tw7258890920364036915:=()
def tw1435116381965107311:=()
def tw12463717218483177192:=()
def tw16146216759225109931:=()
def tw4809118995630228629:=()
def tw6054587753897793205:=()
def tw16196483161577437009:=()
def tw11278882484969896534:=()
def tw10103881628114720935:=()
def tw17731690236566472058:=()
def tw15839758414262911709:=()
def tw4937772658160113583:=()
def tw6977500021224821914:=()
def tw1845043669244914759:=()
def tw7128200561329513213:=()
def tw605049939525011796:=()
def tw8012049446387000936:=()
def tw17181949677743130687:=()
def tw7871333511779693687:=()
def tw1781673990275964953:=()
def tw13280314601953455743:=()
def tw14619078215802768329:=()
def tw18036845530213811038:=()
def tw16841763610030290466:=()
def tw526678885241206848:=()
def tw16303415306344103563:=()
def tw8183056638709624515:=()
def tw6929414547691560414:=()
def tw12359196383167796582:=()
def tw6084918597541890572:=()
def tw8871771917284664229:=()
def tw6536067734798779060:=()
def tw7947169555170731658:=()
def tw10359347578077606988:=()
def tw8527987991173172870:=()
def tw11132263997075940867:=()
def tw325099274523241913:=()
def tw5294122337452708848:=()
def tw8961265986071676850:=()
def tw2111283924042915891:=()
def tw12495702602467905744:=()
def tw10037310741960825248:=()
def tw15652967177447822225:=()
def tw8251241830594119390:=()
def tw6297765736003565334:=()
def tw434283820694985241:=()
def tw6821363057124256839:=()
def tw16908422383364698381:=()
def tw3323857282874844770:=()
def tw12772205521367258830:=()
def tw18446678349665908530:=()
def tw2192479403384521551:=()
def tw8799404488836211473:=()
def tw17008279665715353132:=()
def tw13651386957035407063:=()
def tw12280775507563331351:=()
def tw12967365287346647833:=()
def tw10939236438417474056:=()
def tw16972437954757200011:=()
def tw4830071322672880553:=()
def tw7023757481714716178:=()
def tw10029594643203610551:=()
def tw4660843759851847496:=()
def tw4730000308473350449:=()
def tw8732363211440508620:=()
def tw7107865067955606743:=()
def tw14152724316128507430:=()
def tw7285966303796406271:=()
def tw9444523654868844874:=()
def tw762855363555186954:=()
def tw9874559247120546696:=()
def tw9996298338428069398:=()
def tw4274599956845840264:=()
def tw10213703120110389236:=()
def tw18028662088673113172:=()
def tw5343399024536820728:=()
def tw7665997669070882686:=()
def tw14052091032991235529:=()
def tw5262562236378300626:=()
def tw17882579234490311021:=()
def tw11905877400955793128:=()
def tw9616756501531104519:=()
def tw3983729427876933646:=()
def tw5838699995719802524:=()
def tw169375902709585143:=()
def tw249863406877127376:=()
def tw14551000697806766049:=()
def tw9041800391688669995:=()
def tw9373762366131323864:=()
def tw13972175944927443632:=()
def tw12736940560878531475:=()
def tw8629520686164228465:=()
def tw5698268030297871194:=()
def tw4950785868173938866:=()
def tw109319616080291763:=()
def tw9026286447106931795:=()
def tw12564573380669784535:=()
def tw1130977014074763232:=()
def tw4093029473482784630:=()
def tw1862363259760046625:=()
def tw12938115097897034458:=()
def tw6784879742706266498:=()
def tw13090566127805553951:=()
def tw17585750599402389820:=()
def tw10461746630878365743:=()
def tw7886644424396994073:=()
def tw7435826940167444776:=()
def tw15974183191973093831:=()
def tw10070724992467813145:=()
def tw66359445423425826:=()
def tw5032856499456171585:=()
def tw17074824031415705587:=()
def tw8403740173726850101:=()
def tw9944896866004768053:=()
def tw4623435228723592597:=()
def tw16703094000354840947:=()
def tw13072155861772668454:=()
def tw11432778122487181724:=()
def tw10843289009719129199:=()
def tw3966575984469506288:=()
def tw10897109586578367449:=()
def tw5615811044303102844:=()
def tw15950730466250738375:=()
def tw15672256372790437515:=()
def tw4511439490453627472:=()
def tw14294770311935335956:=()
def tw7722094841190218407:=()
def tw9114632964725366621:=()
def tw12516278213990668164:=()
def tw1727478471217845512:=()
def tw16270039858431108924:=()
def tw13075056323651664546:=()
def tw495179598096568944:=()
def tw13612945651955350947:=()
def tw13353797515544348452:=()
def tw12650227626208072715:=()
def tw12825162219188248196:=()
def tw16343547005907743118:=()
def tw10924995160924564456:=()
def tw13040258863215325284:=()
def tw2297018799445482182:=()
def tw4950299945035955554:=()
def tw16600060757560981513:=()
def tw16338221348933682094:=()
def tw3724102881743076283:=()
def tw9999766257348413236:=()
def tw15258757341431527759:=()
def tw8603988072151513360:=()
def tw11001164413910295543:=()
def tw7748717667716975285:=()
def tw16001041489226138164:=()
def tw16445183187994283628:=()
def tw3875565906789582549:=()
def tw10873769181695732663:=()
def tw16288276583649004301:=()
def tw12065120562886767162:=()
def tw1809081902481762242:=()
def tw4121824000084612966:=()
def tw3107835214796248304:=()
def tw11015459209118105272:=()
def tw5718328582350651477:=()
def tw14322088997945642574:=()
def tw4579692007240097659:=()
def tw9968828159541177086:=()
def tw5910660391309523125:=()
def tw8695291372490383801:=()
def tw16025824112513875130:=()
def tw17404969677760484783:=()
def tw9636468110124329539:=()
def tw1860524632906890704:=()
def tw15997049104884585943:=()
def tw14746424771486162497:=()
def tw9426262683713222909:=()
def tw12065105925538232247:=()
def tw3121157937158748577:=()
def tw18311212737266789598:=()
def tw12393764413001873042:=()
def tw17815077976471099701:=()
def tw11980937087380577636:=()
def tw15237715577157593836:=()
def tw832641848567591585:=()
def tw3565848444014028073:=()
def tw11274487102827141701:=()
def tw15333003220011794325:=()
def tw4953622708955919289:=()
def tw14129278470359025712:=()
def tw16231135232610583039:=()
def tw14670577129563328858:=()
def tw16767000559808586201:=()
def tw9157352466505116923:=()
def tw1060062160553328452:=()
def tw6992691413789188630:=()
def tw2903000871217673076:=()
def tw2595837253347058104:=()
def tw6519882131841904276:=()
def tw2201187468823069181:=()
def tw8289585187463325942:=()
def tw8513996630684683054:=()
def tw1475501888939791443:=()
def tw6136730979150869587:=()
def tw7156879988877010181:=()
def tw5934879471712476799:=()
def tw17004334682241307715:=()
def tw1393853145115584631:=()
def tw11124536173856393684:=()
def tw8652991575685562663:=()
def tw2294522656679248458:=()
def tw7500072359785144047:=()
def tw10035308103563949103:=()
def tw14306053158574844642:=()
def tw12862326994643289389:=()
def tw8937363991023774794:=()
def tw17288350013771110571:=()
def tw3948900392964795574:=()
def tw6458719935172017234:=()
def tw13684361456187955816:=()
def tw9413363817573974049:=()
def tw5566660403545452781:=()
def tw573817590924154064:=()
def tw16751473910333857863:=()
def tw11719874508301131804:=()
def tw282305860447501929:=()
def tw3417842942244414798:=()
def tw15422987951915296514:=()
def tw10479700941384628522:=()
def tw540088029591086712:=()
def tw17988224107935960792:=()
def tw1925140482292725368:=()
def tw3648249158882462576:=()
def tw3095099815144492329:=()
def tw14645007290140855067:=()
def tw8954040267988953019:=()
def tw15065149179848255068:=()
def tw12283701251891236597:=()
def tw3734415194751420493:=()
def tw15233307865800939793:=()
def tw1490139875528696035:=()
def tw6867144623522614447:=()
def tw9263849177904801919:=()
def tw10518041920031470023:=()
def tw1255755239977100310:=()
def tw12444163281485659349:=()
def tw6578345795675906881:=()
def tw16609527879086885207:=()
def tw15497697111288368780:=()
def tw5064722572499318305:=()
def tw14162468865425959233:=()
def tw16419737148375365814:=()
def tw10630045520200649176:=()
def tw3675738648544605787:=()
def tw1228884638355308038:=()
def tw16260608276030174274:=()
def tw8201646749604747691:=()
def tw16507612185368068928:=()
def tw13843931946211973307:=()
def tw9421212209165876157:=()
def tw7737805607126979597:=()
def tw11137476332005968137:=()
def tw9054766345157455320:=()
def tw6528129624922289897:=()
def tw17299954003076610645:=()
def tw17583681725518726754:=()
def tw8439423660258072058:=()
def tw2966190328805181050:=()
def tw1980806657837132388:=()
def tw4352543915274650583:=()
def tw6827444489985484905:=()
def tw12163320563009532143:=()
def tw12217218104354521286:=()
def tw15472108036807813569:=()
def tw8243401255765683233:=()
def tw10705944896891560005:=()
def tw5982867840887281202:=()
def tw15861472955248600241:=()
def tw18293046107105559857:=()
def tw14855381728654953848:=()
def tw636205540169388023:=()
def tw13835118445199065918:=()
def tw8953559625316595430:=()
def tw8408374734033589983:=()
def tw2313995907069439555:=()
def tw11790015370765708775:=()
def tw714824231601072274:=()
def tw10820638948546839233:=()
def tw13963630596993437490:=()
def tw10462894051410401245:=()
def tw16203456707077269029:=()
def tw3048634735843301843:=()
def tw8498167254669958736:=()
def tw14587328526163125271:=()
def tw16768041938716602272:=()
def tw16695410944290579634:=()
def tw6277850340857107440:=()
def tw15349177029957780790:=()
def tw7876690811741142264:=()
def tw15400801233209010209:=()
def tw18279522458902829162:=()
def tw11007910422367808217:=()
def tw2546655279300100171:=()
def tw6976776407224954736:=()
def tw3655446920391780003:=()
def tw1031489725405725815:=()
def tw17705028751370814294:=()
def tw8183455246142188127:=()
def tw10471368741586066818:=()
def tw11008534981528856848:=()
def tw14311674532462594886:=()
def tw4595621481757738706:=()
def tw14516316067629235517:=()
def tw471069287284124845:=()
def tw5176616784740108351:=()
def tw4582839706867360417:=()
def tw1880076136258232437:=()
def tw1450673938788465324:=()
def tw3933938470253696156:=()
def tw7913801423783279269:=()
def tw14029297278764523043:=()
def tw1388944777921310209:=()
def tw4165782668330846648:=()
def tw12379529091168506477:=()
def tw10450301543157145312:=()
def tw5701384437407996328:=()
def tw7764271412443801980:=()
def tw15026595802256023710:=()
def tw10125344565904265615:=()
def tw4295235429960646713:=()
def tw17787398830529494684:=()
def tw10694824591021468866:=()
def tw1702211473450861055:=()
def tw15727662039755693009:=()
def tw13079021292272538130:=()
def tw2352919040535302102:=()
def tw4145138185805282711:=()
def tw9850773202003697069:=()
def tw17200206800140380948:=()
def tw9055306064254589427:=()
def tw8172633305378429269:=()
def tw4468947272905241292:=()
def tw10977150063054659679:=()
def tw535639338119717302:=()
def tw13001767466309787176:=()
def tw4915823591699063022:=()
def tw9720841293675609739:=()
def tw11608847328521144141:=()
def tw17312035756731660392:=()
def tw2601870776774856951:=()
def tw8645154089012273126:=()
def tw8440586462704975571:=()
def tw15174800151057199233:=()
def tw9669088887611332872:=()
def tw2902744059706852909:=()
def tw11165607492182319771:=()
def tw4026141313635089846:=()
def tw14750484290005404010:=()
def tw11009469425922955127:=()
def tw1951409563984458864:=()
def tw3363575920589876930:=()
def tw9280990335514614493:=()
def tw13627973075002690492:=()
def tw4468967158238502435:=()
def tw16871131415466815853:=()
def tw1945487332715203623:=()
def tw6289917704303779680:=()
def tw10857913868817749789:=()
def tw12077141549037836506:=()
def tw12735463552369496532:=()
def tw10146774923815042572:=()
def tw3084080637881836179:=()
def tw17151818173845473529:=()
def tw17151302443926942819:=()
def tw7756366355094860033:=()
def tw784678098049589670:=()
def tw14399714807291118697:=()
def tw18232486312651552110:=()
def tw17278726999992558495:=()
def tw2871717454529045014:=()
def tw11047031830248566338:=()
def tw798503146496215398:=()
def tw3497369155195750067:=()
def tw7798443325309430530:=()
def tw5448581211653928694:=()
def tw9188821513904545481:=()
def tw11536456640243007831:=()
def tw8920664672632617766:=()
def tw14087075873074031631:=()
def tw272626496429348458:=()
def tw9580200247600347589:=()
def tw11431045893313550809:=()
def tw15723954747586608285:=()
def tw6839324820305610853:=()
def tw2116550510592444639:=()
def tw3596302091981122451:=()
def tw12920099323578881472:=()
def tw6805435305671412473:=()
def tw8584978716317940443:=()
def tw3715967837727552286:=()
def tw9443180788710647130:=()
def tw11284115426119104275:=()
def tw16034833287860110009:=()
def tw8240077458341830693:=()
def tw11803311210216768090:=()
def tw16299731325186566031:=()
def tw9198152080875010961:=()
def tw5284473201894383083:=()
def tw10982649229401210438:=()
def tw4859953789919246703:=()
def tw15416414708698233562:=()
def tw6199417922925645587:=()
def tw5193447685456154061:=()
def tw11163295470703392905:=()
def tw16022093520239766841:=()
def tw11905137230317730016:=()
def tw5045999422975767676:=()
def tw6555116439730810714:=()
def tw1816684938922301970:=()
def tw15694072001509339385:=()
def tw6721986755657582432:=()
def tw15252769137063245972:=()
def tw8791590610881919922:=()
def tw7933313895399469328:=()
def tw10730968079241035863:=()
def tw7449531012669058940:=()
def tw6831866361044441701:=()
def tw13047704759212212015:=()
def tw9017439195625140876:=()
def tw9206606483484544589:=()
def tw15240042493569939676:=()
def tw13813363815723931239:=()
def tw5112365084845511115:=()
def tw9896471928060478530:=()
def tw10432934244543491052:=()
def tw9255460497846654002:=()
def tw796518894022417747:=()
def tw11126258212568663541:=()
def tw159551396880781391:=()
def tw10788025323046491100:=()
def tw18178963968540472598:=()
def tw8914011444620820451:=()
def tw16703247711257097950:=()
def tw14213831436108210416:=()
def tw17154900966262892144:=()
def tw7863022023553046561:=()
def tw17645400479870368963:=()
def tw7380988604898617127:=()
def tw360031664303753516:=()
def tw1237701254219680790:=()
def tw6279553012363294495:=()
def tw10618488513174637272:=()
def tw6903986922215200354:=()
def tw1341174843559762423:=()
def tw16547289633997189652:=()
def tw15763552106347032827:=()
def tw5075714439266494475:=()
def tw14097414086563303033:=()
def tw6622477251717917432:=()
def tw14175306225407195708:=()
def tw15450121742399481620:=()
def tw1920048509655017499:=()
def tw13992138563556095412:=()
def tw17901887732140330747:=()
def tw15358244905072644177:=()
def tw17510296811706739433:=()
def tw8043627291456439206:=()
def tw7824288463967706647:=()
def tw3359374685411247933:=()
def tw1102966939903147285:=()
def tw1868722273331622955:=()
def tw2922926131661998699:=()
def tw1086071223972037746:=()
def tw17928555206745617706:=()
def tw4847708676848491627:=()
def tw4877225865086231676:=()
def tw1636895517593522447:=()
def tw12227191374818764363:=()
def tw794650689036740353:=()
def tw4329705265762577210:=()
def tw6315705127288309262:=()
def tw3149698211040518006:=()
def tw6412800702115477600:=()
def tw5630609055706971105:=()
def tw18024230580170566001:=()
def tw3273790097175558582:=()
def tw10556255088867590671:=()
def tw14965838058759733244:=()
def tw2919762973173665005:=()
def tw17661750317938237544:=()
def tw6217095192512644787:=()
def tw12659579906887535539:=()
def tw4164724620069858597:=()
def tw3865089401000289730:=()
def tw7415664580097362409:=()
def tw14287495440599198982:=()
def tw11752773297158691684:=()
def tw7342618352792615254:=()
def tw5580493452975553559:=()
def tw12144495159997234190:=()
def tw10835693739578192748:=()
def tw3241859082752735787:=()
def tw9706414604734514432:=()
def tw16688632763208648652:=()
def tw7006488680404515348:=()
def tw8606546532397849450:=()
def tw4933453331249375740:=()
def tw5363765716320998018:=()
def tw17460154005295982391:=()
def tw10989280349784881570:=()
def tw14111907429394317109:=()
def tw13927152907312239316:=()
def tw16341761030034099537:=()
def tw6078960940509479870:=()
def tw3740207495754758150:=()
def tw4914227265684483273:=()
def tw18088082020108725274:=()
def tw207963036462455159:=()
def tw13769891015620111593:=()
def tw15201582185107223461:=()
def tw14009791578265905291:=()
def tw5884626598393423914:=()
def tw11341308368578122505:=()
def tw15499831232459801163:=()
def tw12744727640234234171:=()
def tw17838955007730711521:=()
def tw2187945888581039029:=()
def tw3669682888383388320:=()
def tw8115123976180225928:=()
def tw2558866853111763654:=()
def tw12149791069704556535:=()
def tw8613325183226025764:=()
def tw2787735965668432654:=()
def tw8632215947698545512:=()
def tw7693514772305117362:=()
def tw11066064443219130099:=()
def tw10429558525534294505:=()
def tw13912042842032267341:=()
def tw4657873279681062086:=()
def tw15945904243534964613:=()
end PySem.W.Fast
set_option maxRecDepth 100000 in
set_option maxHeartbeats 0 in
theorem PySem.Challenge.cw_relaid_k42_whole_visits_of_great_lines_holds : PySem.Challenge.rw_relaid_k42_whole_visits_of_great_lines.Holds := by
  w_on; o_law; k_head; (case hw => w_witness2)
  k_fill
  refine R42.walk (l := PySem.Challenge.rw_relaid_k42_whole_visits_of_great_lines) rfl rfl (fun w h Y => PySem.W.kIn_of Y) ?F
  case F =>
    intro w mg fa h KX G hmg;refine' R42.all_mk KX G hmg ?a_L ?a_R ?a_H ?a_A ?a_T ?a_St ?a_Ho ?a_Ev ?a_Ov ?a_Un ?a_Os ?a_Us ?d0 ?d1 ?d2 ?d3 ?d4 ?d5 ?d6 ?d7 ?d8 ?d9 ?d10 ?d11 ?d12 ?d13 ?d14 ?d15 ?d16 ?d17 ?d18 ?d19 ?d20 ?d21 ?d22 ?d23 ?d24 ?d25 ?d26 ?d27 ?d28 ?d29 ?d30 ?d31 ?d32 ?d33 ?d34 ?d35 ?d36 ?d37 ?d38 ?d39 ?d40 ?d41 ?d42 ?d43 ?d44 ?d45 ?d46 ?d47 ?d48 ?d49 ?d50 ?d51 ?d52 ?me_LI ?lT ?me_RI ?me_HI ?me_AI ?me_TI ?me_StI ?me_StL ?me_StO ?me_HoI ?me_HoW ?me_HoL ?me_HoB ?me_EvI ?me_EvW ?me_EvO ?me_EvB ?me_OvI ?me_OvW ?me_OvO ?me_OvB ?me_UnI ?me_UnW ?me_UnB ?me_OsI ?me_OsW ?me_OsL ?me_OsO ?me_OsB ?me_UsI ?me_UsW ?me_UsL ?me_UsB ?pg_L ?mk_L ?n_L_lengths ?n_L_order ?n_L_turned ?n_L_starts ?n_L_laid ?n_L_size ?pg_R ?mk_R ?n_R_top ?n_R_bottom ?n_R_lengths ?n_R_turned ?n_R_size ?pg_H ?mk_H ?n_H_line ?n_H_rests ?n_H_steps ?n_H_towers ?n_H_bands ?pg_A ?mk_A ?n_A_own ?n_A_times ?n_A_letter ?n_A_due ?pg_T ?mk_T ?n_T_counts ?n_T_letter ?n_T_due ?pg_St ?ih_Ho_own_first ?pg_Ho ?mk_Ho ?n_Ho_winner ?n_Ho_loser ?n_Ho_times ?ih_Ev_losers ?pg_Ev ?mk_Ev ?n_Ev_winner ?n_Ev_loser ?n_Ev_times ?ih_Ov_losers ?pg_Ov ?mk_Ov ?n_Ov_winner ?n_Ov_loser ?n_Ov_times ?ih_Un_losers ?ih_Un_own_first ?pg_Un ?mk_Un ?n_Un_winner ?n_Un_loser ?n_Un_times ?pg_Os ?mk_Os ?n_Os_winner ?n_Os_loser ?n_Os_times ?ih_Us_own_first ?pg_Us ?mk_Us ?n_Us_winner ?n_Us_loser ?n_Us_times ?z_len ?z_min ?z_sum ?z_sorted ?z_list ?z_range ?z_tuple ?z_isinstance ?z_int ?z_bool ?z_enumerate ?z_ValueError ?v_MOST_PIECES ?aOutside ?xOutside ?aBadAddress ?xBadAddress ?sbB ?rdB ?fdB
    case a_L | a_R | a_H | a_A | a_T | a_St | a_Ho | a_Ev | a_Ov | a_Un | a_Os | a_Us => (show _ = _; k_is)
    case d0 | d1 | d2 | d3 | d4 | d5 | d6 | d7 | d8 | d9 | d10 | d11 | d12 | d13 | d14 | d15 | d16 | d17 | d18 | d19 | d20 | d21 | d22 | d23 | d24 | d25 | d26 | d27 | d28 | d29 | d30 | d31 | d32 | d33 | d34 | d35 | d36 | d37 | d38 | d39 | d40 | d41 | d42 | d43 | d44 | d45 | d46 | d47 | d48 | d49 | d50 | d51 | d52 => (refine ⟨?_, ?_, ?_, ?_⟩; k_is; k_is; k_is; k_is)
    case me_LI => (refine ⟨?_, ?_, ?_, ?_, ?_⟩; k_is; k_is; k_is; k_is; k_is)
    case lT => k_is
    case me_RI | me_HI | me_AI | me_TI | me_StI | me_StL | me_StO | me_HoI | me_HoW | me_HoL | me_HoB | me_EvI | me_EvW | me_EvO | me_EvB | me_OvI | me_OvW | me_OvO | me_OvB | me_UnI | me_UnW | me_UnB | me_OsI | me_OsW | me_OsL | me_OsO | me_OsB | me_UsI | me_UsW | me_UsL | me_UsB => (refine ⟨?_, ?_, ?_, ?_, ?_⟩; k_is; k_is; k_is; k_is; k_is)
    case pg_L => (refine ⟨?_, ?_, ?_, ?_⟩; k_is; k_is; k_is; k_is)
    case mk_L => (refine ⟨?_, ?_⟩; k_is; k_is)
    case n_L_lengths | n_L_order | n_L_turned | n_L_starts | n_L_laid | n_L_size => (show _ = _; k_is)
    case pg_R => (refine ⟨?_, ?_, ?_, ?_⟩; k_is; k_is; k_is; k_is)
    case mk_R => (refine ⟨?_, ?_⟩; k_is; k_is)
    case n_R_top | n_R_bottom | n_R_lengths | n_R_turned | n_R_size => (show _ = _; k_is)
    case pg_H => (refine ⟨?_, ?_, ?_, ?_⟩; k_is; k_is; k_is; k_is)
    case mk_H => (refine ⟨?_, ?_⟩; k_is; k_is)
    case n_H_line | n_H_rests | n_H_steps | n_H_towers | n_H_bands => (show _ = _; k_is)
    case pg_A => (refine ⟨?_, ?_, ?_, ?_⟩; k_is; k_is; k_is; k_is)
    case mk_A => (refine ⟨?_, ?_⟩; k_is; k_is)
    case n_A_own | n_A_times | n_A_letter | n_A_due => (show _ = _; k_is)
    case pg_T => (refine ⟨?_, ?_, ?_, ?_⟩; k_is; k_is; k_is; k_is)
    case mk_T => (refine ⟨?_, ?_⟩; k_is; k_is)
    case n_T_counts | n_T_letter | n_T_due => (show _ = _; k_is)
    case pg_St => (refine ⟨?_, ?_, ?_, ?_⟩; k_is; k_is; k_is; k_is)
    case ih_Ho_own_first => (show _ = _; k_is)
    case pg_Ho => (refine ⟨?_, ?_, ?_, ?_⟩; k_is; k_is; k_is; k_is)
    case mk_Ho => (refine ⟨?_, ?_⟩; k_is; k_is)
    case n_Ho_winner | n_Ho_loser | n_Ho_times | ih_Ev_losers => (show _ = _; k_is)
    case pg_Ev => (refine ⟨?_, ?_, ?_, ?_⟩; k_is; k_is; k_is; k_is)
    case mk_Ev => (refine ⟨?_, ?_⟩; k_is; k_is)
    case n_Ev_winner | n_Ev_loser | n_Ev_times | ih_Ov_losers => (show _ = _; k_is)
    case pg_Ov => (refine ⟨?_, ?_, ?_, ?_⟩; k_is; k_is; k_is; k_is)
    case mk_Ov => (refine ⟨?_, ?_⟩; k_is; k_is)
    case n_Ov_winner | n_Ov_loser | n_Ov_times | ih_Un_losers | ih_Un_own_first => (show _ = _; k_is)
    case pg_Un => (refine ⟨?_, ?_, ?_, ?_⟩; k_is; k_is; k_is; k_is)
    case mk_Un => (refine ⟨?_, ?_⟩; k_is; k_is)
    case n_Un_winner | n_Un_loser | n_Un_times => (show _ = _; k_is)
    case pg_Os => (refine ⟨?_, ?_, ?_, ?_⟩; k_is; k_is; k_is; k_is)
    case mk_Os => (refine ⟨?_, ?_⟩; k_is; k_is)
    case n_Os_winner | n_Os_loser | n_Os_times | ih_Us_own_first => (show _ = _; k_is)
    case pg_Us => (refine ⟨?_, ?_, ?_, ?_⟩; k_is; k_is; k_is; k_is)
    case mk_Us => (refine ⟨?_, ?_⟩; k_is; k_is)
    case n_Us_winner | n_Us_loser | n_Us_times | z_len | z_min | z_sum | z_sorted | z_list | z_range | z_tuple | z_isinstance | z_int | z_bool | z_enumerate | z_ValueError => (show _ = _; k_is)
    case v_MOST_PIECES | aOutside => k_is
    case xOutside => k_exc
    case aBadAddress => k_is
    case xBadAddress => k_exc
    case sbB | rdB | fdB => k_is
#print axioms PySem.Challenge.cw_relaid_k42_whole_visits_of_great_lines_holds
