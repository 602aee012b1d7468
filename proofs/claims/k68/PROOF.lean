import PyProof.Rows.All
import Wide.All
import OpenK.AllK
import Wide.FinOn
import Lean
import PyProof.EqAt
import PyProof.EqKinds
import PyProof.TupleCall
import PySem.Challenge.RW_relaid_k68_whole_bands_and_handles
open PySem.Heap (get?_push_of_some get?_push_size get?_update_other get?_update_self lt_size size_push)
open PySem.W (Frag callWith_K codeIn emptyDict excIn findCls findIn fnOf handedIn hasDictIn hideAll instObj isFn keepIn lookIn makesIn methodCall_KW methodObj mg_none_of mg_of nsIn of_hideAll plainGet plainGet_of plainOver readsIn takerIn)
open List (all_eq_true any_eq_true append_nil cons_append countP_cons drop_left filter_cons flatten_cons foldl getD_eq_getElem?_getD getElem?_append_left getElem?_append_right getElem?_eq_none getElem?_map getElem?_range getElem?_set_ne getElem_idxOf getElem_inj idxOf_cons idxOf_cons_self idxOf_lt_length_iff length_append length_cons length_drop length_eq_zero_iff length_map length_pos_iff length_range length_set length_take map_append map_congr_left map_cons map_id map_map mem_append mem_append_left mem_append_right mem_cons mem_cons_of_mem mem_cons_self mem_filter mem_map mem_of_getElem? mem_range mem_singleton nil_append nodup_append nodup_cons nodup_range not_mem_nil of_mem_zip pairwise_map perm_append_singleton perm_ext_iff_of_nodup perm_middle range_succ replicate_succ size_toArray sum_cons take_append_drop take_of_length_le zip_append)
open Array (getElem?_toList length_toList)
open PyProof.Rows (boot_list boot_max boot_min boot_sorted boot_sum boot_tuple callWith_builtin1 callWith_type1)
open PySem (boot_len mem_of_lookup)
set_option Elab.async false
set_option linter.all false
set_option maxRecDepth 100000
set_option maxHeartbeats 4000000
namespace L2
open PySem PySem.Spec PyProof.Rows
abbrev Key:=Sum Int Str
def keyIs:Key->Value->Bool
 | .inl k,v=>Value.isInt k v
 | .inr x,v=>Value.isStrOf x v
def keyH (w:World):Key->Int
 | .inl k=>hashInt k
 | .inr x=>hashStr w x
theorem Jt:∀ {k:Key} {v:Value},keyIs k v=true->(∃ i t,k=Sum.inl i/\v=Value.int i t)\/(∃ x t,k=Sum.inr x/\v=Value.str x t)
 | .inl i,v,h=>by
  obtain ⟨t,e⟩:=Value.isInt_shape (k:=i) (v:=v) h;exact .inl ⟨i,t,rfl,e⟩
 | .inr x,v,h=>by
  obtain ⟨t,e⟩:=Value.isStrOf_shape (x:=x) (v:=v) h;exact .inr ⟨x,t,rfl,e⟩
theorem key_ll (a b:Int):decide ((Sum.inl a:Key)=Sum.inl b)=(a == b):=by
 by_cases e:a=b
 ·subst e;simp
 ·have h:¬ (Sum.inl a:Key)=Sum.inl b:=fun q=>e (Sum.inl.inj q);rw [decide_eq_false h];exact (beq_eq_false_iff_ne.mpr e).symm
theorem key_rr (a b:Str):decide ((Sum.inr a:Key)=Sum.inr b)=decide (a=b):=by
 by_cases e:a=b
 ·subst e;simp
 ·have h:¬ (Sum.inr a:Key)=Sum.inr b:=fun q=>e (Sum.inr.inj q);rw [decide_eq_false h,decide_eq_false e]
theorem key_lr (a:Int) (b:Str):decide ((Sum.inl a:Key)=Sum.inr b)=false:=decide_eq_false (fun q=>nomatch q)
theorem key_rl (a:Str) (b:Int):decide ((Sum.inr a:Key)=Sum.inl b)=false:=decide_eq_false (fun q=>nomatch q)
def mixKind (prog:Program) (w:World):PySem.KeyKind prog w Key where
 is:=keyIs
 hash:=keyH w
 inj:=fun v a b ha hb=>by
  rcases Jt ha with ⟨i,t,rfl,rfl⟩ | ⟨x,t,rfl,rfl⟩
  ·rcases Jt hb with ⟨j,u,rfl,e⟩ | ⟨y,u,rfl,e⟩
   ·injection e with e1 _;rw [e1]
   ·exact nomatch e
  ·rcases Jt hb with ⟨j,u,rfl,e⟩ | ⟨y,u,rfl,e⟩
   ·exact nomatch e
   ·injection e with e1 _;rw [e1]
 byValue:=fun k v h=>by
  rcases Jt h with ⟨i,t,rfl,rfl⟩ | ⟨x,t,rfl,rfl⟩ <;> rfl
 pyHash:=fun hv h=>by
  rcases Jt hv with ⟨i,t,rfl,rfl⟩ | ⟨x,t,rfl,rfl⟩
  ·exact wpAny_pyHash_int h
  ·exact wpAny_pyHash_str h
 eqBool:=fun hu hv h=>by
  rcases Jt hu with ⟨i,t,rfl,rfl⟩ | ⟨x,t,rfl,rfl⟩
  ·rcases Jt hv with ⟨j,u,rfl,rfl⟩ | ⟨y,u,rfl,rfl⟩
   ·rw [key_ll] at h;exact wpAny_eqBool_int h
   ·rw [key_lr] at h;exact SeqAt.EqAt.int_str i t y u _ _ _ _ h
  ·rcases Jt hv with ⟨j,u,rfl,rfl⟩ | ⟨y,u,rfl,rfl⟩
   ·rw [key_rl] at h;exact SeqAt.EqAt.str_int x t j u _ _ _ _ h
   ·rw [key_rr] at h;exact wpAny_eqBool_str h
 «strs»:=fun k x t v h=>by
  rcases Jt h with ⟨i,u,rfl,e⟩ | ⟨y,u,rfl,e⟩
  ·exact nomatch e
  ·injection e with e1 _
   subst e1;cases v <;> rfl
end L2
namespace L2
open PySem PySem.Spec PyProof.Rows
inductive V where
 | non | bl (b:Bool) | int (i:Int) | str (x:Str) | byt (b:Array UInt8) | flt (b:UInt64) | ref (a:Addr) | ty (n:String)
 deriving DecidableEq
def RelV:V->Value->Prop
 | .non,u=>u=Value.none
 | .bl b,u=>u=Value.bool b
 | .int i,u=>∃ t,u=Value.int i t
 | .str x,u=>∃ t,u=Value.str x t
 | .byt b,u=>∃ t,u=Value.bytes b t
 | .flt b,u=>∃ t,u=Value.float b t
 | .ref a,u=>u=Value.ref a
 | .ty n,u=>u=Value.type n
abbrev Vals:List V->List Value->Prop:=Paired RelV
theorem Vals.length {xs:List V} {us:List Value} (r:Vals xs us):xs.length=us.length:=Paired.length r
theorem Vals.get:∀ {xs:List V} {us:List Value} {i:Nat} {x:V},Vals xs us->xs[i]?=some x->∃ u,us[i]?=some u/\RelV x u
 | _,_,_,_,.nil,e=>by simp at e
 | _,_,0,_,.cons r _,e=>by simp at e;subst e;exact ⟨_,rfl,r⟩
 | _,_,i + 1,x,.cons _ t,e=>by
  obtain ⟨u,h1,h2⟩:=Vals.get (i:=i) (x:=x) t (by simpa using e);exact ⟨u,by simpa using h1,h2⟩
theorem Vals.set {x:V} {u:Value} (r:RelV x u):∀ {xs:List V} {us:List Value} (i:Nat),Vals xs us->Vals (xs.set i x) (us.set i u)
 | _,_,_,.nil=>.nil
 | _,_,0,.cons _ t=>.cons r t
 | _,_,i + 1,.cons q t=>.cons q (Vals.set r i t)
theorem Vals.append:∀ {xs ys:List V} {us ws:List Value},Vals xs us->Vals ys ws->Vals (xs ++ ys) (us ++ ws)
 | _,_,_,_,.nil,s=>s
 | _,_,_,_,.cons r t,s=>.cons r (Vals.append t s)
theorem Vals.take:∀ {xs:List V} {us:List Value} (n:Nat),Vals xs us->Vals (xs.take n) (us.take n)
 | _,_,0,_=>.nil
 | _,_,_ + 1,.nil=>.nil
 | _,_,n + 1,.cons r t=>.cons r (Vals.take n t)
theorem Vals.drop:∀ {xs:List V} {us:List Value} (n:Nat),Vals xs us->Vals (xs.drop n) (us.drop n)
 | _,_,0,r=>r
 | _,_,_ + 1,.nil=>.nil
 | _,_,n + 1,.cons _ t=>Vals.drop n t
def RelO:Option V->Option Value->Prop
 | some v,some u=>RelV v u
 | none,none=>True
 | _,_=>False
def KV {κ:Type}:List (κ × V)->List (κ × Value)->Prop:=Paired fun (p:κ × V) (q:κ × Value)=>p.1=q.1/\RelV p.2 q.2
def kV:Key->V
 | .inl i=>.int i
 | .inr x=>.str x
inductive HO where
  | lst (xs:List V)
  | tup (xs:List V)
  | dK (kvs:List (Key × V)) | dT (kvs:List (List Key × V))
  | set (S:Int->Bool) (n:Nat)
  | ins (C dx:Addr) (fs:List (Str × V))
  | own (x:Addr)
  | xd (fs:List (Str × V))
  | met (f x:Addr)
  | rng (lo hi:Int)
  | frz (o:Obj) (u:HO)
  | tbl (ps:Array Value)
  | ext (φ:Heap->Prop)
abbrev Hp:=Addr->Option HO
def upd (H:Hp) (a:Addr) (o:HO):Hp:=fun b=>if b=a then some o else H b
theorem J0 {H:Hp} {a:Addr} {o:HO}:upd H a o a=some o:=by unfold upd;rw [if_pos rfl]
theorem J9 {H:Hp} {a b:Addr} {o:HO} (h:b≠a):upd H a o b=H b:=by unfold upd;rw [if_neg h]
theorem upd_upd {H:Hp} {a:Addr} {o u:HO}:upd (upd H a o) a u=upd H a u:=by
 funext b;unfold upd;split <;> rfl
theorem ne_of {H:Hp} {a b:Addr} {o u:HO} (h:H a=some o) (h':H b=some u) (d:o≠u):a≠b:=by
 intro e;subst e;rw [h] at h';exact d (Option.some.inj h')
theorem J7 {H:Hp} {a b:Addr} {o:HO} (h:H a=some o) (h':H b=none):a≠b:=by
 intro e;subst e;rw [h] at h';cases h'
section
variable (P:Program) (w:World)
def TupX (h:Heap) (a:Addr) (items:Array Value):Prop:=∃ o,h.get? a=some o/\(o.cls=.type "tuple"/\o.dict=none)/\∃ n,o.data=.seq items n
theorem TupX.tup {h:Heap} {a:Addr} {items:Array Value} (x:TupX h a items):IsTup h a items:=by obtain ⟨o,e,c,r⟩:=x;exact ⟨o,e,c.1,r⟩
theorem TupX.lt {h:Heap} {a:Addr} {items:Array Value} (x:TupX h a items):a < h.objs.size:=by obtain ⟨_,e,_⟩:=x;exact lt_size e
theorem TupX.new (h:Heap) (items:Array Value):TupX (h.push { cls:=.type "tuple",data:=.seq items }) h.objs.size items:=⟨_,get?_push_size _ rfl,⟨rfl,rfl⟩,_,rfl⟩
def ObjOk (H:Hp) (h:Heap) (a:Addr):HO->Prop
 | .lst xs=>xs.length<=sizeLine/\∃ (its:List Value) (n:Nat),Vals xs its/\h.get? a=some { cls:=.type "list",data:=.seq its.toArray n }
 | .tup xs=>xs.length<=sizeLine/\∃ its:List Value,Vals xs its/\TupX h a its.toArray
 | .dK kvs=>kvs.length<=sizeLine/\(a == sysModules)=false/\∃ vs,KV kvs vs/\h.DictOf (mixKind P w) a vs
 | .dT kvs=>kvs.length<=sizeLine/\(a == sysModules)=false/\∃ xs:List (List Key × Addr × Value),
   Paired (fun (p:List Key × V) (q:List Key × Addr × Value)=>p.1=q.1/\H q.2.1=some (.tup (p.1.map kV))/\RelV p.2 q.2.2) kvs xs/\
   ∃ o es ep,h.get? a=some o/\o.ExactDict/\o.data=.dict es ep/\es.toList=xs.map (entryOfKey (tupleKind (mixKind P w)))/\(xs.map (·.1)).Nodup
 | .set S n=>h.SetOf (intKind P w) a S n
 | .ins C dx fs=>H dx=some (.own a)/\fs.length<=1000/\dx≠a/\h.get? a=some (instObj C dx)/\
   ∃ mA,h.Ns1 dx mA/\(∀ f,RelO (fs.lookup f) (mA f))/\PySem.Within mA (fs.map (·.1))
 | .own _=>∃ o,h.get? a=some o
 | .xd fs=>∃ mA,h.Ns1 a mA/\∀ f,RelO (fs.lookup f) (mA f)
 | .rng lo hi=>∃ t u v,h.get? a=some { cls:=.type "range",data:=.fields #[.int lo t,.int hi u,.int 1 v] }
 | .frz o u=>h.get? a=some o/\ObjOk H h a u
 | .tbl ps=>h.get? a=some { cls:=.none,data:=.fields ps }
 | .met f x=>h.get? a=some (methodObj (.ref f) (.ref x))
 | .ext φ=>φ h/\(∃ o,h.get? a=some o)/\∀ h1 h2:Heap,φ h1->(∀ o,h1.get? a=some o->h2.get? a=some o)->φ h2
def HOk (H:Hp) (h:Heap):Prop:=∀ a o,H a=some o->ObjOk P w H h a o
end
section
variable {P:Program} {w:World} {H H':Hp} {h h':Heap} {a:Addr} {o:HO}
theorem ObjOk.lt (x:ObjOk P w H h a o):a < h.objs.size:=by
 cases o with
 | lst xs=>obtain ⟨_,_,_,_,e⟩:=x;exact lt_size e
 | tup xs=>obtain ⟨_,_,_,p⟩:=x;exact p.lt
 | dK kvs=>obtain ⟨_,_,_,_,o,_,_,e,_⟩:=x;exact lt_size e
 | dT kvs=>obtain ⟨_,_,_,_,o,_,_,e,_⟩:=x;exact lt_size e
 | set S n=>obtain ⟨o,_,_,_,e,_⟩:=x;exact lt_size e
 | ins C dx fs=>obtain ⟨_,_,_,e,_⟩:=x;exact lt_size e
 | own y=>obtain ⟨_,e⟩:=x;exact lt_size e
 | xd fs=>obtain ⟨_,⟨_,_,_,e,_⟩,_⟩:=x;exact lt_size e
 | rng lo hi=>obtain ⟨_,_,_,e⟩:=x;exact lt_size e
 | frz ob u=>obtain ⟨e,_⟩:=x;exact lt_size e
 | tbl ps=>exact lt_size (show h.get? a=some _ from x)
 | met f y=>exact lt_size (show h.get? a=some _ from x)
 | ext φ=>obtain ⟨_,⟨_,e⟩,_⟩:=x;exact lt_size e
theorem Paired.mapP {α β:Type} {F G:α->β->Prop}:∀ {l₁:List α} {l₂:List β},Paired F l₁ l₂->(∀ a b,F a b->G a b)->Paired G l₁ l₂
 | _,_,.nil,_=>.nil
 | _,_,.cons r t,f=>.cons (f _ _ r) (Paired.mapP t f)
theorem ObjOk.stay (x:ObjOk P w H h a o) (k:∀ b u,(b=a\/H b=some (.own a))->h.get? b=some u->h'.get? b=some u)
  (ho:∀ b,H b=some (.own a)->H' b=some (.own a)) (ht:∀ b xs,H b=some (.tup xs)->H' b=some (.tup xs)):ObjOk P w H' h' a o:=by
 induction o with
 | lst xs=>obtain ⟨z,its,n,r,e⟩:=x;exact ⟨z,its,n,r,k _ _ (.inl rfl) e⟩
 | tup xs=>obtain ⟨z,its,r,ob,e,c⟩:=x;exact ⟨z,its,r,ob,k _ _ (.inl rfl) e,c⟩
 | dK kvs=>obtain ⟨z,y,vs,r,ob,es,ep,e,c⟩:=x;exact ⟨z,y,vs,r,ob,es,ep,k _ _ (.inl rfl) e,c⟩
 | dT kvs =>
  obtain ⟨z,y,xs,r,ob,es,ep,e,c⟩:=x;exact ⟨z,y,xs,Paired.mapP r fun p q z=>⟨z.1,ht _ _ z.2.1,z.2.2⟩,ob,es,ep,k _ _ (.inl rfl) e,c⟩
 | set S n=>obtain ⟨ob,es,ep,t,e,c⟩:=x;exact ⟨ob,es,ep,t,k _ _ (.inl rfl) e,c⟩
 | ins C dx fs =>
  obtain ⟨d,z,ne,e,mA,⟨od,es,ep,e2,c⟩,r⟩:=x;exact ⟨ho _ d,z,ne,k _ _ (.inl rfl) e,mA,⟨od,es,ep,k _ _ (.inr d) e2,c⟩,r⟩
 | own y=>obtain ⟨ob,e⟩:=x;exact ⟨ob,k _ _ (.inl rfl) e⟩
 | xd fs=>obtain ⟨mA,⟨od,es,ep,e,c⟩,r⟩:=x;exact ⟨mA,⟨od,es,ep,k _ _ (.inl rfl) e,c⟩,r⟩
 | rng lo hi=>obtain ⟨t,u,v,e⟩:=x;exact ⟨t,u,v,k _ _ (.inl rfl) e⟩
 | frz ob u ih=>obtain ⟨e,q⟩:=x;exact ⟨k _ _ (.inl rfl) e,ih q⟩
 | tbl ps =>
  have e:h.get? a=some { cls:=.none,data:=.fields ps }:=x;show h'.get? a=some { cls:=.none,data:=.fields ps };exact k a _ (.inl rfl) e
 | met f y =>
  have e:h.get? a=some (methodObj (.ref f) (.ref y)):=x;show h'.get? a=some (methodObj (.ref f) (.ref y));exact k a _ (.inl rfl) e
 | ext φ=>obtain ⟨p,⟨o,e⟩,st⟩:=x;exact ⟨st _ _ p fun o q=>k _ _ (.inl rfl) q,⟨o,k _ _ (.inl rfl) e⟩,st⟩
theorem HOk.lt (x:HOk P w H h) (e:H a=some o):a < h.objs.size:=(x a o e).lt
theorem HOk.fresh (x:HOk P w H h) (e:h.objs.size<=a):H a=none:=by
 cases q:H a with
 | none=>rfl
 | some u=>exact absurd (Nat.lt_of_lt_of_le (x.lt q) e) (Nat.lt_irrefl _)
theorem HOk.kept (x:HOk P w H h) (k:∀ b u,h.get? b=some u->h'.get? b=some u):HOk P w H h':=fun a o e =>
 (x a o e).stay (fun b u _ q=>k b u q) (fun _ q=>q) fun _ _ q=>q
theorem HOk.laid (x:HOk P w H h) (k:∀ b u,h.get? b=some u->h'.get? b=some u) (hp:h.objs.size<=a) (new:ObjOk P w (upd H a o) h' a o):HOk P w (upd H a o) h':=fun b u e=>by
 have hn:=x.fresh hp;by_cases hb:b=a
 ·subst hb;rw [J0] at e;cases e;exact new
 ·rw [J9 hb] at e;exact (x b u e).stay (fun c v _ q=>k c v q) (fun c q=>by rw [J9 (J7 q hn)];exact q) fun c xs q=>by rw [J9 (J7 q hn)];exact q
end
def Rd (H:Hp) (a:Addr) (u:HO):Prop:=H a=some u\/∃ o,H a=some (.frz o u)
theorem Rd.ok {P:Program} {w:World} {H:Hp} {h:Heap} {a:Addr} {u:HO} (r:Rd H a u) (x:HOk P w H h):ObjOk P w H h a u:=by
 rcases r with r | ⟨o,r⟩
 ·exact x a u r
 ·obtain ⟨_,q⟩:=x a _ r;exact q
def Mut:Option HO->Prop
 | some (.lst _)=>True
 | some (.dK _)=>True
 | some (.dT _)=>True
 | some (.set _ _)=>True
 | some (.ins _ _ _)=>True
 | some (.ext _)=>True
 | _=>False
section
variable {P:Program} {w:World} {H:Hp} {h h':Heap} {x e:Addr} {o':HO}
theorem HOk.write (ok:HOk P w H h) (mu:Mut (H x)) (he:e=x\/H e=some (.own x)) (k:∀ b u,b≠e->h.get? b=some u->h'.get? b=some u) (heo:∃ u,h'.get? e=some u)
  (new:ObjOk P w (upd H x o') h' x o'):HOk P w (upd H x o') h':=fun b u q=>by
 have nown:∀ c y,H c=some (.own y)->c≠x:=fun c y r z=>by subst z;rw [r] at mu;exact mu
 have ntup:∀ c xs,H c=some (.tup xs)->c≠x:=fun c xs r z=>by subst z;rw [r] at mu;exact mu
 by_cases hb:b=x
 ·subst hb;rw [J0] at q;cases q;exact new
 ·rw [J9 hb] at q;by_cases hbe:b=e
  ·have q':H b=some (.own x):=by
    rcases he with z | z
    ·exact absurd (hbe.trans z) hb
    ·rw [hbe];exact z
   rw [q] at q';cases q';obtain ⟨v,hv⟩:=heo;exact ⟨v,by rw [hbe];exact hv⟩
  ·refine (ok b u q).stay (fun c v hc r=>k c v ?_ r) (fun c r=>by rw [J9 (nown c b r)];exact r) fun c xs r=>by rw [J9 (ntup c xs r)];exact r
   rcases hc with rfl | hc
   ·exact hbe
   ·rintro rfl;rcases he with z | z
    ·exact nown c b hc z
    ·rw [hc] at z;cases z;exact hb rfl
end
structure Un (fs ex:List Addr) (H H':Hp) (h h':Heap):Prop where
 keep:∀ b o,h.get? b=some o->H b=none->b ∉ fs->b ∉ ex->h'.get? b=some o
 slot:∀ b o,h.get? b=some o->H b=none->b∈fs->b ∉ ex->∃ sl,h'.get? b=some { o with slots:=sl }
 free:∀ b o,h.get? b=some o->H b=none->b ∉ ex->H' b=none
 there:∀ b o,h.get? b=some o->b ∉ ex->∃ o',h'.get? b=some o'
 tups:∀ b xs,H b=some (.tup xs)->H' b=some (.tup xs)
 frzs:∀ b o u,H b=some (.frz o u)->H' b=some (.frz o u)
 tbls:∀ b ps,H b=some (.tbl ps)->∃ more,H' b=some (.tbl (ps ++ more))
section
variable {fs fs' ex ex':List Addr} {H H1 H2:Hp} {h h1 h2 h':Heap} {a x e:Addr} {o:HO}
theorem Un.any (u:Un fs ex H H1 h h1) {b:Addr} {ob:Obj} (q:h.get? b=some ob) (n:H b=none) (hx:b ∉ ex):∃ sl,h1.get? b=some { ob with slots:=sl }:=by
 by_cases hb:b∈fs
 ·exact u.slot b ob q n hb hx
 ·exact ⟨ob.slots,u.keep b ob q n hb hx⟩
theorem Un.kept (k:∀ b u,h.get? b=some u->h'.get? b=some u):Un fs ex H H h h' :=
 ⟨fun b ob q _ _ _=>k b ob q,fun b ob q _ _ _=>⟨ob.slots,k b ob q⟩,fun _ _ _ n _=>n,fun b ob q _=>⟨ob,k b ob q⟩,fun _ _ q=>q,fun _ _ _ q=>q,fun _ ps q=>⟨#[],by rw [q];simp⟩⟩
theorem Un.refl:Un fs ex H H h h:=Un.kept fun _ _ q=>q
theorem Un.laid (k:∀ b u,h.get? b=some u->h'.get? b=some u) (hp:h.objs.size<=a) (hn:H a=none):Un fs ex H (upd H a o) h h' where
 keep:=fun b u q _ _ _=>k b u q
 slot:=fun b u q _ _ _=>⟨u.slots,k b u q⟩
 free:=fun b u q n _=>by rw [J9 (Nat.ne_of_lt (Nat.lt_of_lt_of_le (lt_size q) hp))];exact n
 there:=fun b u q _=>⟨u,k b u q⟩
 tups:=fun b xs q=>by rw [J9 (J7 q hn)];exact q
 frzs:=fun b u xs q=>by rw [J9 (J7 q hn)];exact q
 tbls:=fun b ps q=>⟨#[],by rw [J9 (J7 q hn),q];simp⟩
theorem Un.write (mu:Mut (H x)) (he:e=x\/H e=some (.own x)) (k:∀ b u,b≠e->h.get? b=some u->h'.get? b=some u) (heo:∃ u,h'.get? e=some u):Un fs ex H (upd H x o) h h':=by
 have hx:∀ b,H b=none->b≠x:=fun b n z=>by subst z;rw [n] at mu;exact mu
 have hb:∀ b,H b=none->b≠e:=fun b n z=>by
  subst z;rcases he with r | r
  ·exact hx b n r
  ·rw [n] at r;cases r
 have hm:∀ b u,H b=some u->¬ Mut (some u)->b≠x:=fun b u q nm z=>by subst z;rw [q] at mu;exact nm mu
 refine ⟨fun b u q n _ _=>k b u (hb b n) q,fun b u q n _ _=>⟨u.slots,k b u (hb b n) q⟩,fun b u q n _=>by rw [J9 (hx b n)];exact n,fun b u q _=>?_,
  fun b xs q=>by rw [J9 (hm b _ q fun z=>z)];exact q,fun b u xs q=>by rw [J9 (hm b _ q fun z=>z)];exact q,fun b ps q=>⟨#[],by rw [J9 (hm b _ q fun z=>z),q];simp⟩⟩
 by_cases hbe:b=e
 ·subst hbe;exact heo
 ·exact ⟨u,k b u hbe q⟩
end
def trk (h:Heap) (H:Hp):List Addr:=(List.range h.objs.size).filter fun a=>(H a).isSome
def hidT (h:Heap) (H:Hp):Heap:=hideAll h (trk h H)
theorem hidT_size (h:Heap) (H:Hp):(hidT h H).objs.size=h.objs.size:=PySem.W.hideAll_size _ _
theorem hidT_get {h:Heap} {H:Hp} {b:Addr} {o:Obj} (e:h.get? b=some o) (n:H b=none):(hidT h H).get? b=some o :=
 PySem.W.hideAll_get _ e fun hm=>by
  have q:(H b).isSome=true:=(mem_filter.mp hm).2;rw [n] at q;simp at q
theorem of_hidT {h:Heap} {H:Hp} {b:Addr} {o:Obj} (e:(hidT h H).get? b=some o):h.get? b=some o/\H b=none:=by
 have e':h.get? b=some o:=of_hideAll (trk h H) e;refine ⟨e',?_⟩
 cases q:H b with
 | none=>rfl
 | some x =>
  have hm:b∈trk h H:=mem_filter.mpr ⟨mem_range.mpr (lt_size e'),by simp [q]⟩;have z:(hidT h H).get? b=none:=PySem.W.hideAll_none (trk h H) hm;rw [z] at e;cases e
end L2
namespace L2
open PySem PySem.Spec PyProof.Rows
structure Mod (K:Frag) (mg:Str->Option Value) (base:Heap):Prop where
 kin:K.In base
 glob:base.Ns mainGlobals mg
 blt:∃ mb,base.Ns builtinsNs mb/\∀ x:Str,x≠"__name__"->mb x=bootBuiltins x
 nolimit:base.NoLimit
structure Cx where
 prog:Program
 w:World
 K:Frag
 mg:Str->Option Value
 base:Heap
 A:Around
 N:List Str
 s₀:Shared
 H₀:Hp
 env:Env
 outer:List Env
 stack:List Env
 ex:List Addr
 fn:Str->Bool
 calm:Bool
 pn:List (Addr × Obj)
 xe:Value->Shared->Prop
def frs (l:List Env):List Addr:=l.filterMap (·.frame)
abbrev Cx.fs (X:Cx):List Addr:=frs X.outer
def Vis (sc:Scope) (x:Str):Prop:=sc.names.lookup x=some .local\/sc.names.lookup x=some .cell\/sc.names.lookup x=some .free
def Loc (sc:Scope) (x:Str):Prop:=sc.names.lookup x=some .local\/sc.names.lookup x=some .cell
def Look (env:Env) (h:Heap) (m:Str->Option Value) (x:Str) (u:Value):Prop :=
 (env.kindOf x=some .local/\m x=some u)\/((env.kindOf x=some .cell\/env.kindOf x=some .free)/\∃ c,env.cells.lookup x=some c/\h.IsCell c (some u))
structure Cx.Ok (X:Cx):Prop where
 mod:Mod X.K X.mg X.base
 kind:X.env.scope.kind=.function
 glob:X.env.globals=mainGlobals
 blt:X.env.builtins=builtinsNs
 above:X.s₀.heap.objs.size<=X.env.locals
 inj:∀ x y c,X.env.cells.lookup x=some c->X.env.cells.lookup y=some c->x=y
 has:∀ x,(X.env.kindOf x=some .cell\/X.env.kindOf x=some .free)->∃ c,X.env.cells.lookup x=some c
 cab:∀ x c,X.fn x=true->X.env.cells.lookup x=some c->X.s₀.heap.objs.size<=c
 hd:X.calm=true->X.A.handled=none
 frames:X.A.frames=some X.stack
 stk:X.stack=X.outer\/(X.stack=X.env :: X.outer/\X.env.frame=some X.env.locals)
 exf:∀ b∈X.ex,b≠X.env.locals/\∀ x c,X.env.cells.lookup x=some c->c≠b
 bs:∀ b o,X.base.get? b=some o->X.s₀.heap.get? b=some o/\X.H₀ b=none
 bsz:X.base.objs.size<=X.s₀.heap.objs.size
 noex:∀ b o,X.base.get? b=some o->b ∉ X.ex
 exfs:∀ b∈X.ex,b ∉ X.fs
 funs:X.s₀.heap.FunFrames X.base X.outer
 frf:∀ b∈X.fs,X.H₀ b=none
structure Inv (X:Cx) (pins:List (Addr × Obj)) (σ:List (Option V)) (H:Hp) (s:Shared):Prop where
 ok:X.Ok
 os:s.os=X.s₀.os
 bare:AllBare s.gens
 base:Un X.fs X.ex X.H₀ H X.s₀.heap s.heap
 loc:∃ m,s.heap.Ns X.env.locals m/\∀ (i:Nat) (x:Str) (v:V),X.N[i]?=some x->σ[i]?=some (some v)->Vis X.env.scope x->∃ u,RelV v u/\Look X.env s.heap m x u
 cell:∀ x c,X.env.cells.lookup x=some c->∃ v,s.heap.IsCell c v
 free:H X.env.locals=none
 freeC:∀ x c,X.env.cells.lookup x=some c->H c=none
 pin:∀ p∈X.pn ++ pins,s.heap.get? p.1=some p.2/\H p.1=none/\p.1≠X.env.locals/\p.1 ∉ X.fs/\∀ v,p.2.data≠.cell v
 hok:HOk X.prog X.w H s.heap
 len:σ.length=X.N.length
section
variable {X:Cx} {pins:List (Addr × Obj)} {σ:List (Option V)} {H H':Hp} {s:Shared} {h':Heap}
theorem Cx.Ok.nofr (ok:X.Ok) {b:Addr} {o:Obj} (e:X.base.get? b=some o):b ∉ X.fs:=fun hb=>by
 have:=(ok.funs.mem hb).1;rw [e] at this;cases this
theorem Inv.bs (I:Inv X pins σ H s):∀ b o,X.base.get? b=some o->s.heap.get? b=some o/\H b=none:=fun b o e =>
 ⟨I.base.keep b o (I.ok.bs b o e).1 (I.ok.bs b o e).2 (I.ok.nofr e) (I.ok.noex b o e),I.base.free b o (I.ok.bs b o e).1 (I.ok.bs b o e).2 (I.ok.noex b o e)⟩
theorem Inv.bk (I:Inv X pins σ H s):∀ b o,X.base.get? b=some o->s.heap.get? b=some o:=fun b o e=>(I.bs b o e).1
theorem Inv.mod (I:Inv X pins σ H s):Mod X.K X.mg X.base:=I.ok.mod
theorem Inv.kIn (I:Inv X pins σ H s):X.K.In s.heap:=I.ok.mod.kin.keeps I.bk
theorem Inv.fr (I:Inv X pins σ H s):∃ m,Fr X.base X.env.locals s.heap m :=
 let ⟨m,hn,_⟩:=I.loc
 ⟨m,hn,I.bk,Nat.le_trans I.ok.bsz I.ok.above⟩
theorem Inv.lt (I:Inv X pins σ H s):X.env.locals < s.heap.objs.size:=by obtain ⟨_,hn,_⟩:=I.loc;exact hn.lt
theorem Inv.sz (I:Inv X pins σ H s):X.s₀.heap.objs.size<=s.heap.objs.size:=Nat.le_trans I.ok.above (Nat.le_of_lt I.lt)
theorem Inv.nofs (I:Inv X pins σ H s) {a:Addr} (h:s.heap.objs.size<=a):a ∉ X.fs:=fun hb=>by
 obtain ⟨_,o,ho,_⟩:=I.ok.funs.mem hb;exact absurd (Nat.lt_of_lt_of_le (lt_size ho) (Nat.le_trans I.sz h)) (Nat.lt_irrefl _)
theorem Inv.cne (I:Inv X pins σ H s):∀ x c,X.env.cells.lookup x=some c->c≠X.env.locals:=fun x c e z=>by
 obtain ⟨v,o,ho,hd⟩:=I.cell x c e;obtain ⟨m,⟨o',es,ep,ho',hd',_⟩,_⟩:=I.loc;rw [z,ho'] at ho;cases ho;rw [hd'] at hd;cases hd
theorem Inv.funs (I:Inv X pins σ H s):s.heap.FunFrames X.base X.outer:=by
 have all:∀ (l:List Env),(∀ b∈frs l,b∈X.fs)->X.s₀.heap.FunFrames X.base l->s.heap.FunFrames X.base l:=by
  intro l
  induction l with
  | nil=>intro _ _;trivial
  | cons env r ih =>
   intro hs hl;obtain ⟨hk,⟨L,o,hf,hn,ho,hd⟩,hr⟩:=hl;have hL:L∈X.fs:=hs L (by unfold frs;rw [List.filterMap_cons,hf];exact mem_cons_self);obtain ⟨sl,e⟩:=I.base.slot L o ho (I.ok.frf L hL) hL fun z=>I.ok.exfs L z hL;exact ⟨hk,⟨L,_,hf,hn,e,hd⟩,ih (fun b hb=>hs b (by unfold frs;rw [List.filterMap_cons,hf];exact mem_cons_of_mem _ hb)) hr⟩
 exact all X.outer (fun _ hb=>hb) I.ok.funs
theorem Inv.stack (I:Inv X pins σ H s):s.heap.FunFrames X.base X.stack:=by
 rcases I.ok.stk with e | ⟨e,hf⟩
 ·rw [e];exact I.funs
 ·rw [e];obtain ⟨m,hn,_⟩:=I.loc;refine .cons (by rw [I.ok.kind];decide) hf hn ?_ I.funs;exact Heap.get?_none_of_le (Nat.le_trans I.ok.bsz I.ok.above)
theorem Inv.stkSub (I:Inv X pins σ H s):∀ b∈frs X.stack,b∈X.env.locals :: X.fs:=fun b hb=>by
 rcases I.ok.stk with e | ⟨e,hf⟩
 ·rw [e] at hb;exact mem_cons_of_mem _ hb
 ·rw [e] at hb;unfold frs at hb;rw [List.filterMap_cons,hf] at hb;exact hb
theorem Inv.stkFree (I:Inv X pins σ H s):∀ b∈frs X.stack,H b=none:=fun b hb=>by
 rcases mem_cons.mp (I.stkSub b hb) with e | hb
 ·rw [e];exact I.free
 ·obtain ⟨_,o,ho,_⟩:=I.ok.funs.mem hb;exact I.base.free b o ho (I.ok.frf b hb) fun z=>I.ok.exfs b z hb
theorem Inv.step {g':Array GenState} {t':Nat} {d':Drawn} {ch:List Addr} (I:Inv X pins σ H s)
  (hch:∀ b∈ch,(b∈X.ex\/X.s₀.heap.objs.size<=b)/\b≠X.env.locals/\(∀ x c,X.env.cells.lookup x=some c->c≠b)/\∀ p∈X.pn ++ pins,p.1≠b)
  (keep:∀ b o,b≠X.env.locals->b ∉ X.fs->b ∉ ch->s.heap.get? b=some o->H b=none->h'.get? b=some o)
  (slot:∀ b o,b≠X.env.locals->b∈X.fs->b ∉ ch->s.heap.get? b=some o->H b=none->∃ sl,h'.get? b=some { o with slots:=sl }) (free:∀ b o,b ∉ ch->s.heap.get? b=some o->H b=none->H' b=none)
  (there:∀ b o,b ∉ ch->s.heap.get? b=some o->∃ o',h'.get? b=some o')
  (tups:∀ b xs,H b=some (.tup xs)->H' b=some (.tup xs)) (frzs:∀ b o u,H b=some (.frz o u)->H' b=some (.frz o u)) (tbls:∀ b ps,H b=some (.tbl ps)->∃ more,H' b=some (.tbl (ps ++ more)))
  (ns:∀ m,s.heap.Ns X.env.locals m->h'.Ns X.env.locals m) (hok:HOk X.prog X.w H' h') (hg:AllBare g') :
  Inv X pins σ H' { s with heap:=h',gens:=g',drawn:=d',toks:=t' }:=by
 have neL:∀ b o,X.s₀.heap.get? b=some o->b≠X.env.locals:=fun b o e=>Nat.ne_of_lt (Nat.lt_of_lt_of_le (lt_size e) I.ok.above);have neC:∀ b o,X.s₀.heap.get? b=some o->b ∉ X.ex->b ∉ ch:=fun b o e hx hb=>by
  rcases (hch b hb).1 with z | z
  ·exact hx z
  ·exact absurd (Nat.lt_of_lt_of_le (lt_size e) z) (Nat.lt_irrefl _)
 have cellK:∀ x c,X.env.cells.lookup x=some c->∀ v,s.heap.IsCell c v->h'.IsCell c v:=fun x c e v h9=>by
  obtain ⟨o,ho,hd⟩:=h9;have nch:c ∉ ch:=fun z=>(hch c z).2.2.1 x c e rfl;by_cases hc:c∈X.fs
  ·obtain ⟨sl,q⟩:=slot c o (I.cne x c e) hc nch ho (I.freeC x c e);exact ⟨_,q,hd⟩
  ·exact ⟨o,keep c o (I.cne x c e) hc nch ho (I.freeC x c e),hd⟩
 refine ⟨I.ok,I.os,hg,⟨fun b o e n hb hx=>?_,fun b o e n hb hx=>?_,fun b o e n hx=>?_,fun b o e hx=>?_,fun b xs e=>tups b xs (I.base.tups b xs e),fun b o xs e=>frzs b o xs (I.base.frzs b o xs e),fun b ps e=>?_⟩,?_,fun x c e=>?_,?_,fun x c e=>?_,fun p hp=>?_,hok,I.len⟩
 ·exact keep b o (neL b o e) hb (neC b o e hx) (I.base.keep b o e n hb hx) (I.base.free b o e n hx)
 ·obtain ⟨sl,e1⟩:=I.base.slot b o e n hb hx;obtain ⟨sl',e2⟩:=slot b _ (neL b o e) hb (neC b o e hx) e1 (I.base.free b o e n hx);exact ⟨sl',e2⟩
 ·obtain ⟨o',e1⟩:=I.base.there b o e hx;exact free b o' (neC b o e hx) e1 (I.base.free b o e n hx)
 ·obtain ⟨o',e1⟩:=I.base.there b o e hx;exact there b o' (neC b o e hx) e1
 ·obtain ⟨m1,e1⟩:=I.base.tbls b ps e;obtain ⟨m2,e2⟩:=tbls b _ e1;exact ⟨m1 ++ m2,by rw [e2,Array.append_assoc]⟩
 ·obtain ⟨m,hn,hl⟩:=I.loc;refine ⟨m,ns m hn,fun i x v e1 e2 e3=>?_⟩;obtain ⟨u,r,l⟩:=hl i x v e1 e2 e3;refine ⟨u,r,?_⟩;rcases l with l | ⟨k,c,e,z⟩
  ·exact .inl l
  ·exact .inr ⟨k,c,e,cellK x c e _ z⟩
 ·obtain ⟨v,z⟩:=I.cell x c e;exact ⟨v,cellK x c e v z⟩
 ·obtain ⟨m,⟨o,_,_,ho,_⟩,_⟩:=I.loc;exact free _ o (fun z=>(hch _ z).2.1 rfl) ho I.free
 ·obtain ⟨v,o,ho,hd⟩:=I.cell x c e;exact free c o (fun z=>(hch c z).2.2.1 x c e rfl) ho (I.freeC x c e)
 ·obtain ⟨e,n,ne,nf,d⟩:=I.pin p hp;have nch:p.1 ∉ ch:=fun z=>(hch p.1 z).2.2.2 p hp rfl;exact ⟨keep p.1 p.2 ne nf nch e n,free p.1 p.2 nch e n,ne,nf,d⟩
theorem Inv.un {t':Nat} (I:Inv X pins σ H s) (u:Un X.fs [] H H' s.heap h') (hok:HOk X.prog X.w H' h'):Inv X pins σ H' { s with heap:=h',toks:=t' }:=by
 obtain ⟨m,⟨o,es,ep,ho,r⟩,_⟩:=id I.loc;obtain ⟨sl,hL⟩:=u.any ho I.free (by simp);exact I.step (g':=s.gens) (d':=s.drawn) (ch:=[]) (fun _ z=>nomatch z) (fun b o _ hb _ e n=>u.keep b o e n hb (by simp)) (fun b o _ hb _ e n=>u.slot b o e n hb (by simp)) (fun b o _ e n=>u.free b o e n (by simp)) (fun b o _ e=>u.there b o e (by simp)) u.tups u.frzs u.tbls (fun m' hm=>by
  obtain ⟨o',es',ep',ho',r'⟩:=hm;rw [ho] at ho';cases ho';exact ⟨_,es',ep',hL,r'⟩) hok I.bare
theorem Inv.call {g':Array GenState} {t':Nat} {d':Drawn} {ch:List Addr} (I:Inv X pins σ H s) (u:Un (frs X.stack) ch H H' s.heap h') (hok:HOk X.prog X.w H' h') (hg:AllBare g')
  (hch:∀ b∈ch,(b∈X.ex\/X.s₀.heap.objs.size<=b)/\b≠X.env.locals/\(∀ x c,X.env.cells.lookup x=some c->c≠b)/\∀ p∈X.pn ++ pins,p.1≠b) :
  Inv X pins σ H' { s with heap:=h',gens:=g',drawn:=d',toks:=t' }:=by
 obtain ⟨m,⟨o,es,ep,ho,r⟩,_⟩:=id I.loc;obtain ⟨sl,hL⟩:=u.any ho I.free fun z=>(hch _ z).2.1 rfl;exact I.step (ch:=ch) hch (fun b o hL hb hc e n=>u.keep b o e n (fun z=>(mem_cons.mp (I.stkSub b z)).elim hL hb) hc) (fun b o _ _ hc e n=>u.any e n hc) (fun b o hc e n=>u.free b o e n hc) (fun b o hc e=>u.there b o e hc) u.tups u.frzs u.tbls (fun m' hm=>by
  obtain ⟨o',es',ep',ho',r'⟩:=hm;rw [ho] at ho';cases ho';exact ⟨_,es',ep',hL,r'⟩) hok hg
theorem Inv.turned {t':Nat} {it:Addr} (I:Inv X pins σ H s) (k:∀ b o,b≠it->s.heap.get? b=some o->h'.get? b=some o) (hn:H it=none) (hL:it≠X.env.locals)
  (h1:it∈X.ex\/X.s₀.heap.objs.size<=it) (h2:∀ x c,X.env.cells.lookup x=some c->c≠it) (h3:∀ p∈X.pn ++ pins,p.1≠it):Inv X pins σ H { s with heap:=h',toks:=t' }:=by
 have nit:∀ b u,H b=some u->b≠it:=fun b u e z=>by rw [z,hn] at e;cases e
 refine I.step (g':=s.gens) (d':=s.drawn) (ch:=[it]) (fun b hb=>?_) (fun b o _ _ hc e _=>k b o (fun z=>hc (by simp [z])) e) (fun b o _ _ hc e _=>⟨o.slots,k b o (fun z=>hc (by simp [z])) e⟩) (fun _ _ _ _ n=>n)
  (fun b o hc e=>⟨o,k b o (fun z=>hc (by simp [z])) e⟩) (fun _ _ e=>e) (fun _ _ _ e=>e) (fun b ps e=>⟨#[],by rw [e];simp⟩) (fun m hm=>?_) (fun b u e=>?_) I.bare
 ·have e:b=it:=by simpa using hb
  subst e;exact ⟨h1,hL,h2,h3⟩
 ·obtain ⟨o,es,ep,ho,r⟩:=hm;exact ⟨o,es,ep,k _ o (Ne.symm hL) ho,r⟩
 ·refine (I.hok b u e).stay (fun c v hc q=>k c v ?_ q) (fun _ q=>q) fun _ _ q=>q;rcases hc with z | z
  ·rw [z];exact nit b u e
  ·exact nit c _ z
theorem Inv.tok (I:Inv X pins σ H s) (t:Nat):Inv X pins σ H { s with toks:=t }:=I.un (h':=s.heap) (t':=t) Un.refl I.hok
theorem Inv.kept {t':Nat} (I:Inv X pins σ H s) (k:∀ b u,s.heap.get? b=some u->h'.get? b=some u):Inv X pins σ H { s with heap:=h',toks:=t' }:=I.un (Un.kept k) (I.hok.kept k)
theorem Inv.laid {a:Addr} {o:HO} {t':Nat} (I:Inv X pins σ H s) (k:∀ b u,s.heap.get? b=some u->h'.get? b=some u) (hp:s.heap.objs.size<=a) (new:ObjOk X.prog X.w (upd H a o) h' a o) :
  Inv X pins σ (upd H a o) { s with heap:=h',toks:=t' }:=I.un (Un.laid k hp (I.hok.fresh hp)) (I.hok.laid k hp new)
theorem Inv.write {x e:Addr} {o:HO} {t':Nat} (I:Inv X pins σ H s) (mu:Mut (H x)) (he:e=x\/H e=some (.own x)) (k:∀ b u,b≠e->s.heap.get? b=some u->h'.get? b=some u) (heo:∃ u,h'.get? e=some u)
  (new:ObjOk X.prog X.w (upd H x o) h' x o):Inv X pins σ (upd H x o) { s with heap:=h',toks:=t' }:=I.un (Un.write mu he k heo) (I.hok.write mu he k heo new)
theorem Inv.pins_of {pins':List (Addr × Obj)} (I:Inv X pins σ H s) (h:∀ p∈pins',s.heap.get? p.1=some p.2/\H p.1=none/\p.1≠X.env.locals/\p.1 ∉ X.fs/\∀ v,p.2.data≠.cell v):Inv X pins' σ H s :=
 ⟨I.ok,I.os,I.bare,I.base,I.loc,I.cell,I.free,I.freeC,fun p hp=>(mem_append.mp hp).elim (fun z=>I.pin p (mem_append_left _ z)) (h p),I.hok,I.len⟩
theorem nodup_ix {N:List Str} (hN:N.Nodup) {i j:Nat} {x:Str} (a:N[i]?=some x) (b:N[j]?=some x):i=j:=by
 obtain ⟨h1,e1⟩:=List.getElem?_eq_some_iff.mp a;obtain ⟨h2,e2⟩:=List.getElem?_eq_some_iff.mp b;exact (getElem_inj hN).mp (e1.trans e2.symm)
theorem store_ok2 {M:Model} {A:Around} {E:Value->Shared->Prop} {i:Nat} {x:Str} {v:V} {u:Value} {Q:Unit->Shared->Prop} (I:Inv X pins σ H s) (hN:X.N.Nodup) (hi:X.N[i]?=some x) (hx:Loc X.env.scope x) (r:RelV v u)
  (h:∀ s',Inv X pins (σ.set i (some v)) H s'->(∃ a,Heap.SameBut a s.heap s'.heap/\(a=X.env.locals\/X.env.cells.lookup x=some a))->Q () s') (hf:X.fn x=true\/X.env.scope.names.lookup x=some .local:=by first | exact .inl rfl | exact .inr rfl | assumption):wpAny M A (storeName X.env x u) Q E s:=by
 obtain ⟨m,hn,hl⟩:=id I.loc;have hcls:(X.env.scope.kind == .class || (X.env.scope.kind == .module && X.env.locals != X.env.globals))=false:=by rw [I.ok.kind];rfl
 have hiσ:i < σ.length:=by rw [I.len];exact (List.getElem?_eq_some_iff.mp hi).1
 have cne:=I.cne;have tracked:∀ {a:Addr} {h':Heap},(∃ o,s.heap.get? a=some o/\H a=none)->Heap.SameBut a s.heap h'->HOk X.prog X.w H h':=fun {a h'} ha hs b ob e=>by
  obtain ⟨_,_,hfree⟩:=ha;refine (I.hok b ob e).stay (fun c w' hc q=>(hs.2 c ?_).trans q) (fun _ q=>q) fun _ _ q=>q;rintro rfl;rcases hc with rfl | hc
  ·rw [hfree] at e;cases e
  ·rw [hfree] at hc;cases hc
 rcases hx with hk | hk
 ·refine wpAny_storeName_local hk hn (fun h' hn' hs=>?_) hcls;obtain ⟨oL,_,_,hoL,_⟩:=id hn;refine h _ ⟨I.ok,I.os,I.bare,⟨fun b o e n hb hx=>?_,fun b o e n hb hx=>?_,I.base.free,fun b o e hx=>?_,I.base.tups,I.base.frzs,I.base.tbls⟩,⟨_,hn',fun j y v' e1 e2 e3=>?_⟩,fun y c e=>?_,I.free,I.freeC,fun p hp=>?_,tracked ⟨oL,hoL,I.free⟩ hs,by simpa using I.len⟩ ⟨_,hs,.inl rfl⟩
  ·exact (hs.2 b (Nat.ne_of_lt (Nat.lt_of_lt_of_le (lt_size e) I.ok.above))).trans (I.base.keep b o e n hb hx)
  ·obtain ⟨sl,e1⟩:=I.base.slot b o e n hb hx;exact ⟨sl,(hs.2 b (Nat.ne_of_lt (Nat.lt_of_lt_of_le (lt_size e) I.ok.above))).trans e1⟩
  ·obtain ⟨o',e1⟩:=I.base.there b o e hx;exact ⟨o',(hs.2 b (Nat.ne_of_lt (Nat.lt_of_lt_of_le (lt_size e) I.ok.above))).trans e1⟩
  ·by_cases hj:j=i
   ·subst hj;rw [hi] at e1;cases e1;rw [List.getElem?_set_self hiσ] at e2;cases e2;exact ⟨u,r,.inl ⟨hk,by simp⟩⟩
   ·rw [getElem?_set_ne (Ne.symm hj)] at e2;obtain ⟨u',r',q⟩:=hl j y v' e1 e2 e3;refine ⟨u',r',?_⟩;rcases q with ⟨k,e⟩ | ⟨k,c,e,z⟩
    ·refine .inl ⟨k,?_⟩;have:y≠x:=fun e=>hj (nodup_ix hN e1 (e ▸ hi));simp [this,e]
    ·exact .inr ⟨k,c,e,z.sameBut hs (cne y c e)⟩
  ·obtain ⟨w',z⟩:=I.cell y c e;exact ⟨w',z.sameBut hs (cne y c e)⟩
  ·obtain ⟨e,n,ne,nf,d⟩:=I.pin p hp;exact ⟨(hs.2 p.1 ne).trans e,n,ne,nf,d⟩
 ·have hfn:X.fn x=true:=by
   rcases hf with z | z
   ·exact z
   ·rw [z] at hk;cases hk
  obtain ⟨c,hc⟩:=I.ok.has x (.inl hk);obtain ⟨w',z⟩:=I.cell x c hc;refine wpAny_storeName_cell I.ok.kind hk hc z (fun h' hc' hs=>?_);obtain ⟨oc,hoc,hocd⟩:=id z;refine h { s with heap:=h' } ⟨I.ok,I.os,I.bare,⟨fun b o e n hb hx=>?_,fun b o e n hb hx=>?_,I.base.free,fun b o e hx=>?_,I.base.tups,I.base.frzs,I.base.tbls⟩,⟨m,hn.sameBut hs (Ne.symm (cne x c hc)),fun j y v' e1 e2 e3=>?_⟩,fun y c' e=>?_,I.free,I.freeC,fun p hp=>?_,tracked ⟨oc,hoc,I.freeC x c hc⟩ hs,by simpa using I.len⟩ ⟨c,hs,.inr hc⟩
  ·exact (hs.2 b (Nat.ne_of_lt (Nat.lt_of_lt_of_le (lt_size e) (I.ok.cab x c hfn hc)))).trans (I.base.keep b o e n hb hx)
  ·obtain ⟨sl,e1⟩:=I.base.slot b o e n hb hx;exact ⟨sl,(hs.2 b (Nat.ne_of_lt (Nat.lt_of_lt_of_le (lt_size e) (I.ok.cab x c hfn hc)))).trans e1⟩
  ·obtain ⟨o',e1⟩:=I.base.there b o e hx;exact ⟨o',(hs.2 b (Nat.ne_of_lt (Nat.lt_of_lt_of_le (lt_size e) (I.ok.cab x c hfn hc)))).trans e1⟩
  ·by_cases hj:j=i
   ·subst hj;rw [hi] at e1;cases e1;rw [List.getElem?_set_self hiσ] at e2;cases e2;exact ⟨u,r,.inr ⟨.inl hk,c,hc,hc'⟩⟩
   ·rw [getElem?_set_ne (Ne.symm hj)] at e2;obtain ⟨u',r',q⟩:=hl j y v' e1 e2 e3;refine ⟨u',r',?_⟩;rcases q with q | ⟨k,c',e,z'⟩
    ·exact .inl q
    ·refine .inr ⟨k,c',e,z'.sameBut hs ?_⟩;rintro rfl;exact hj (nodup_ix hN e1 (I.ok.inj _ _ _ e hc ▸ hi))
  ·by_cases hcc:c'=c
   ·subst hcc;exact ⟨_,hc'⟩
   ·obtain ⟨w2,z2⟩:=I.cell y c' e;exact ⟨w2,z2.sameBut hs hcc⟩
  ·obtain ⟨e,n,ne,nf,d⟩:=I.pin p hp;refine ⟨(hs.2 p.1 ?_).trans e,n,ne,nf,d⟩;intro q;rw [q,hoc] at e;have q':oc=p.2:=Option.some.inj e;exact d w' (by rw [<- q'];exact hocd)
theorem store_ok {M:Model} {A:Around} {E:Value->Shared->Prop} {i:Nat} {x:Str} {v:V} {u:Value} {Q:Unit->Shared->Prop} (I:Inv X pins σ H s) (hN:X.N.Nodup) (hi:X.N[i]?=some x) (hx:Loc X.env.scope x) (r:RelV v u)
  (h:∀ s',Inv X pins (σ.set i (some v)) H s'->Q () s') (hf:X.fn x=true\/X.env.scope.names.lookup x=some .local:=by first | exact .inl rfl | exact .inr rfl | assumption):wpAny M A (storeName X.env x u) Q E s :=
 store_ok2 I hN hi hx r (fun s' I' _=>h s' I') hf
theorem Inv.call' {s':Shared} {ch:List Addr} (I:Inv X pins σ H s) (ho:s'.os=s.os) (u:Un (frs X.stack) ch H H' s.heap s'.heap) (hok:HOk X.prog X.w H' s'.heap) (hg:AllBare s'.gens)
  (hch:∀ b∈ch,(b∈X.ex\/X.s₀.heap.objs.size<=b)/\b≠X.env.locals/\(∀ x c,X.env.cells.lookup x=some c->c≠b)/\∀ p∈X.pn ++ pins,p.1≠b):Inv X pins σ H' s':=by
 obtain ⟨h',g',d',t',o'⟩:=s';have e:o'=s.os:=ho;subst e;exact I.call (g':=g') (t':=t') (d':=d') u hok hg hch
end
abbrev XK:=Value->Option Addr->Hp->Prop
abbrev St:=List (Option V)
abbrev VK:=V->Hp->Prop
abbrev TE:=St->Hp->VK->Prop
abbrev TT:=St->Hp->(Bool->Hp->Prop)->Prop
abbrev TA:=St->Hp->(List V->Hp->Prop)->Prop
structure Ends where
 nx:St->Hp->Prop
 rt:VK
 bk:St->Hp->Prop:=fun _ _=>False
 ct:St->Hp->Prop:=fun _ _=>False
abbrev TS:=Ends->St->Hp->Prop
def EP (X:Cx) (pins:List (Addr × Obj)) (σ:St) (Q:VK) (u:Value) (s':Shared):Prop:=∃ v H',Inv X pins σ H' s'/\RelV v u/\Q v H'
def TP (X:Cx) (pins:List (Addr × Obj)) (σ:St) (Q:Bool->Hp->Prop) (b:Bool) (s':Shared):Prop:=∃ H',Inv X pins σ H' s'/\Q b H'
def AP (X:Cx) (pins:List (Addr × Obj)) (σ:St) (Q:List V->Hp->Prop) (us:List Value) (s':Shared):Prop:=∃ vs H',Inv X pins σ H' s'/\Vals vs us/\Q vs H'
def SP (X:Cx) (pins:List (Addr × Obj)) (D:Ends) (f:Flow) (s':Shared):Prop :=
 match f with
 | .next=>∃ σ' H',Inv X pins σ' H' s'/\D.nx σ' H'
 | .brk=>∃ σ' H',Inv X pins σ' H' s'/\D.bk σ' H'
 | .cont=>∃ σ' H',Inv X pins σ' H' s'/\D.ct σ' H'
 | .ret u=>∃ v σ' H',Inv X pins σ' H' s'/\RelV v u/\D.rt v H'
def PE (X:Cx) (e:Expr) (t:TE):Prop :=
 ∀ (pins:List (Addr × Obj)) (s:Shared) (σ:St) (H:Hp) (Q:VK),Inv X pins σ H s->t σ H Q->wpAny (model X.prog X.w) X.A (eval e X.env) (EP X pins σ Q) X.xe s
def PT (X:Cx) (e:Expr) (t:TT):Prop :=
 ∀ (pins:List (Addr × Obj)) (s:Shared) (σ:St) (H:Hp) (Q:Bool->Hp->Prop),Inv X pins σ H s->t σ H Q->wpAny (model X.prog X.w) X.A (isTrue e X.env (eval e X.env)) (TP X pins σ Q) X.xe s
def PW (X:Cx) (e:Expr) (t:TT):Prop :=
 ∀ (whole:Sem Value) (pins:List (Addr × Obj)) (s:Shared) (σ:St) (H:Hp) (Q:Bool->Hp->Prop),Inv X pins σ H s->t σ H Q->wpAny (model X.prog X.w) X.A (isTrue e X.env whole) (TP X pins σ Q) X.xe s
theorem PW.pt {X:Cx} {e:Expr} {t:TT} (h:PW X e t):PT X e t:=h _
def PA (X:Cx) (es:List Expr) (t:TA):Prop :=
 ∀ (pos:Pos) (pins:List (Addr × Obj)) (s:Shared) (σ:St) (H:Hp) (Q:List V->Hp->Prop),Inv X pins σ H s->t σ H Q->wpAny (model X.prog X.w) X.A (spliced (backTo pos (starEach es X.env))) (AP X pins σ Q) X.xe s
def PS (X:Cx) (st:Stmt) (t:TS):Prop :=
 ∀ (pins:List (Addr × Obj)) (s:Shared) (σ:St) (H:Hp) (D:Ends),Inv X pins σ H s->t D σ H->wpAny (model X.prog X.w) X.A (exec st X.env) (SP X pins D) X.xe s
def PSs (X:Cx) (st:List Stmt) (t:TS):Prop :=
 ∀ (pins:List (Addr × Obj)) (s:Shared) (σ:St) (H:Hp) (D:Ends),Inv X pins σ H s->t D σ H->wpAny (model X.prog X.w) X.A (execs st X.env) (SP X pins D) X.xe s
theorem thn {α:Type} {t:Sem α} {Q Q':α->Shared->Prop} {M:Model} {A:Around} {E:Value->Shared->Prop} {s:Shared} (h:wpAny M A t Q E s) (hQ:∀ a s,Q a s->Q' a s):wpAny M A t Q' E s:=wpAny_mono h hQ fun _ _ x=>x
end L2
namespace L2
open PySem PySem.Spec PyProof.Rows
section
variable {X:Cx}
def tVar (i:Nat):TE:=fun σ H Q=>∃ v,σ[i]?=some (some v)/\Q v H
def tC (v:V):TE:=fun _ H Q=>Q v H
theorem pe_var {i:Nat} {x:Str} {pos:Pos} (hN:X.N[i]?=some x) (hv:Vis X.env.scope x) (hd:(x == ("__debug__":Str))=false:=by decide) (hcd:(x == ("__classdict__":Str))=false:=by decide):PE X (.Name x pos) (tVar i):=by
 intro pins s σ H Q I h;obtain ⟨v,e,h⟩:=h;obtain ⟨m,hn,hl⟩:=I.loc;obtain ⟨u,r,l⟩:=hl i x v hN e hv;have fin:EP X pins σ Q u s:=⟨v,H,I,r,h⟩;rcases l with ⟨hk,hm⟩ | ⟨hk,c,hc,hcell⟩
 ·exact wpAny_Name (wpAny_loadName_local I.ok.kind hk hn hm fin) hd
 ·rcases hk with hk | hk
  ·exact wpAny_Name (wpAny_loadName_cell I.ok.kind hk hc hcell fin) hd
  ·exact wpAny_Name (wpAny_loadName_free I.ok.kind hk hc hcell fin hcd) hd
theorem Je {i j pos}:PE X (.Constant (.int i) j pos) (tC (.int i)):=fun _ _ _ H _ I h=>wpAny_Constant_int ⟨.int i,H,I.tok _,⟨_,rfl⟩,h⟩
theorem pe_bl {b j pos}:PE X (.Constant (.bool b) j pos) (tC (.bl b)):=fun _ _ _ H _ I h=>Constant_bool ⟨.bl b,H,I,rfl,h⟩
theorem pe_non {j pos}:PE X (.Constant .none j pos) (tC .non):=fun _ _ _ H _ I h=>Constant_none ⟨.non,H,I,rfl,h⟩
theorem J4l {x j pos}:PE X (.Constant (.str x) j pos) (tC (.str x)):=fun _ _ _ H _ I h=>Calls.Constant_str ⟨.str x,H,I.tok _,⟨_,rfl⟩,h⟩
def Gl (X:Cx) (x:Str):Prop:=X.env.kindOf x=some .globalImplicit
theorem J5h {E:Value->Shared->Prop} {pins:List (Addr × Obj)} {s:Shared} {σ:St} {H:Hp} {x:Str} {u:Value} {pos:Pos} {Q:Value->Shared->Prop} (I:Inv X pins σ H s) (hg:Gl X x) (hm:X.mg x=some u) (h:Q u s)
  (hd:(x == ("__debug__":Str))=false:=by decide):wpAny (model X.prog X.w) X.A (eval (.Name x pos) X.env) Q E s :=
 Calls.Name_function_global I.ok.kind hg (Calls.loadGlobal_global (by rw [I.ok.glob];exact I.mod.glob.keeps I.bk) hm h) hd
theorem J5i {E:Value->Shared->Prop} {pins:List (Addr × Obj)} {s:Shared} {σ:St} {H:Hp} {x:Str} {u:Value} {pos:Pos} {Q:Value->Shared->Prop} (I:Inv X pins σ H s) (hg:Gl X x) (hm:X.mg x=none) (hv:bootBuiltins x=some u) (h:Q u s)
  (hn:x≠"__name__":=by decide) (hd:(x == ("__debug__":Str))=false:=by decide):wpAny (model X.prog X.w) X.A (eval (.Name x pos) X.env) Q E s:=by
 obtain ⟨mb,h1,h2⟩:=I.mod.blt;exact Calls.Name_function_global I.ok.kind hg (Calls.loadGlobal_builtin (by rw [I.ok.glob];exact I.mod.glob.keeps I.bk) hm (by rw [I.ok.blt];exact h1.keeps I.bk) ((h2 x hn).trans hv) h) hd
theorem pe_glob {x:Str} {v:V} {u:Value} {pos:Pos} (hg:Gl X x) (hm:X.mg x=some u) (r:RelV v u) (hd:(x == ("__debug__":Str))=false:=by decide):PE X (.Name x pos) (tC v) :=
 fun _ _ _ H _ I h=>J5h I hg hm ⟨v,H,I,r,h⟩ hd
variable {a b:Expr} {ta tb:TE} {pos:Pos}
def PC (X:Cx) (op:CmpOp) (a b:Expr) (t:TE):Prop :=
 ∀ (pins:List (Addr × Obj)) (s:Shared) (σ:St) (H:Hp) (Q:VK),Inv X pins σ H s->t σ H Q->
  wpAny (model X.prog X.w) X.A (eval a X.env) (fun v s₁=>wpAny (model X.prog X.w) X.A (eval b X.env) (fun u s₂=>wpAny (model X.prog X.w) X.A (compareOp op v u) (EP X pins σ Q) X.xe s₂) X.xe s₁) X.xe s
theorem nobehind (b:Expr) {op:CmpOp} (h:op≠.In) (h2:op≠.NotIn):behindInMarks op b=false:=by
 have e1:(op == CmpOp.In)=false:=by cases op <;> first | rfl | exact absurd rfl h
 have e2:(op == CmpOp.NotIn)=false:=by cases op <;> first | rfl | exact absurd rfl h2
 cases b <;> simp [behindInMarks,e1,e2]
def tIsN (ta:TE):TE:=fun σ H Q=>ta σ H fun x H1=>Q (.bl (decide (x=.non))) H1
theorem RelV.none_iff {x:V} {v:Value} (r:RelV x v):(v == Value.none)=decide (x=.non):=by
 cases x with
 | non=>cases r;rfl
 | bl _=>cases r;rfl
 | int _=>obtain ⟨t,rfl⟩:=r;rfl
 | str _=>obtain ⟨t,rfl⟩:=r;rfl
 | byt _=>obtain ⟨t,rfl⟩:=r;rfl
 | flt _=>obtain ⟨t,rfl⟩:=r;rfl
 | ref _=>cases r;rfl
 | ty _=>cases r;rfl
theorem pc_isN {j pos'} (ha:PE X a ta):PC X .Is a (.Constant .none j pos') (tIsN ta):=by
 intro pins s σ H Q I h;refine thn (ha pins s σ H _ I h) fun v s1 h9=>?_;obtain ⟨x,H1,I1,r1,q1⟩:=h9;exact Constant_none (is_none_gen ⟨.bl _,H1,I1,by rw [r1.none_iff];rfl,q1⟩)
def tB (t:TE):TT:=fun σ H Q=>t σ H fun x H1=>∃ c,x=.bl c/\Q c H1
theorem pt_cmp {op:CmpOp} {t:TE} (h:PC X op a b t) (h1:behindInMarks op b=false:=by first | exact nobehind _ (by decide) (by decide) | rfl):PT X (.Compare a [op] [b] pos) (tB t):=by
 intro pins s σ H Q I hw;refine wpAny_isTrue_Compare1 (thn (h pins s σ H _ I hw) fun v s1 h1=>thn h1 fun u s2 h2=>thn h2 fun c s3 h9=>?_) h1;obtain ⟨x,H1,I1,r1,q1⟩:=h9;obtain ⟨d,rfl,q⟩:=q1;cases r1;exact wpAny_truthy_bool ⟨H1,I1,q⟩
theorem pt_val {e:Expr} {t:TE} (h:PE X e t) (he:∀ whole,isTrue e X.env whole=(do let v <- whole;standAt e.pos;holding [v] (truthy v)):=by intro _;rfl):PT X e (tB t):=by
 intro pins s σ H Q I hw;refine isTrue_plain (thn (h pins s σ H _ I hw) fun v s1 h9=>?_) (he _);obtain ⟨x,H1,I1,r1,q1⟩:=h9;obtain ⟨d,rfl,q⟩:=q1;cases r1;exact wpAny_truthy_bool ⟨H1,I1,q⟩
variable {tA tB':TT} {rest:List Expr}
def tAnd (t u:TT):TT:=fun σ H Q=>t σ H fun c H1=>if c=true then u σ H1 Q else Q false H1
def tOr (t u:TT):TT:=fun σ H Q=>t σ H fun c H1=>if c=true then Q true H1 else u σ H1 Q
theorem pw_and1 (ha:PT X a tA):PW X (.BoolOp .And [a] pos) tA:=by
 intro wh pins s σ H Q I h;refine isTrue_and (thn (ha pins s σ H Q I h) fun c s1 e=>?_)
 cases c with
 | true=>exact isTrue_and_nil e
 | false=>exact e
theorem pw_or1 (ha:PT X a tA):PW X (.BoolOp .Or [a] pos) tA:=by
 intro wh pins s σ H Q I h;refine isTrue_or (thn (ha pins s σ H Q I h) fun c s1 e=>?_)
 cases c with
 | false=>exact isTrue_or_nil e
 | true=>exact e
theorem pw_and (ha:PT X a tA) (hb:PW X (.BoolOp .And (b :: rest) pos) tB'):PW X (.BoolOp .And (a :: b :: rest) pos) (tAnd tA tB'):=by
 intro wh pins s σ H Q I h;refine isTrue_and (thn (ha pins s σ H _ I h) fun c s1 h9=>?_);obtain ⟨H1,I1,q1⟩:=h9
 cases c with
 | true=>exact hb wh pins s1 σ H1 Q I1 q1
 | false=>exact ⟨H1,I1,q1⟩
theorem pw_or (ha:PT X a tA) (hb:PW X (.BoolOp .Or (b :: rest) pos) tB'):PW X (.BoolOp .Or (a :: b :: rest) pos) (tOr tA tB'):=by
 intro wh pins s σ H Q I h;refine isTrue_or (thn (ha pins s σ H _ I h) fun c s1 h9=>?_);obtain ⟨H1,I1,q1⟩:=h9
 cases c with
 | true=>exact ⟨H1,I1,q1⟩
 | false=>exact hb wh pins s1 σ H1 Q I1 q1
def tIf (t:TT) (ta tb:TE):TE:=fun σ H Q=>t σ H fun c H1=>if c=true then ta σ H1 Q else tb σ H1 Q
theorem J4n {c:Expr} (hc:PT X c tA) (ha:PE X a ta) (hb:PE X b tb):PE X (.IfExp c a b pos) (tIf tA ta tb):=by
 intro pins s σ H Q I h;refine wpAny_IfExp (thn (hc pins s σ H _ I h) fun d s1 h9=>?_);obtain ⟨H1,I1,q1⟩:=h9
 cases d with
 | true=>exact ha pins s1 σ H1 Q I1 q1
 | false=>exact hb pins s1 σ H1 Q I1 q1
end
end L2
namespace L2
open PySem PySem.Spec PyProof.Rows
def SqL (K:Frag) (H:Hp) (a:Addr) (xs:List V):Prop :=
 Rd H a (.lst xs)\/
  ∃ (o:Obj) (its:Array Value) (n:Nat),K.lookup a=some o/\o.cls=.type "list"/\o.dict=none/\o.data=.seq its n/\its.size<=sizeLine/\Vals xs its.toList
def SqT (K:Frag) (H:Hp) (a:Addr) (xs:List V):Prop :=
 Rd H a (.tup xs)\/
  ∃ (o:Obj) (its:Array Value) (n:Nat),K.lookup a=some o/\o.cls=.type "tuple"/\o.data=.seq its n/\its.size<=sizeLine/\Vals xs its.toList
def absV:Value->Option V
 | .none=>some .non
 | .bool b=>some (.bl b)
 | .int i _=>some (.int i)
 | .str x _=>some (.str x)
 | .bytes b _=>some (.byt b)
 | .float b _=>some (.flt b)
 | .ref a=>some (.ref a)
 | .type n=>some (.ty n)
 | _=>none
theorem RelV.abs {x:V} {u:Value} (r:RelV x u):absV u=some x:=by
 cases x with
 | non=>cases r;rfl
 | bl _=>cases r;rfl
 | int _=>obtain ⟨t,rfl⟩:=r;rfl
 | str _=>obtain ⟨t,rfl⟩:=r;rfl
 | byt _=>obtain ⟨t,rfl⟩:=r;rfl
 | flt _=>obtain ⟨t,rfl⟩:=r;rfl
 | ref _=>cases r;rfl
 | ty _=>cases r;rfl
theorem RelV.inj {x y:V} {u:Value} (r:RelV x u) (q:RelV y u):x=y:=Option.some.inj (r.abs.symm.trans q.abs)
theorem Vals.inj:∀ {xs ys:List V} {us:List Value},Vals xs us->Vals ys us->xs=ys
 | _,_,_,.nil,.nil=>rfl
 | _,_,_,.cons r t,.cons r' t'=>by rw [r.inj r',Vals.inj t t']
section
variable {X:Cx} {pins:List (Addr × Obj)} {σ:St} {H:Hp} {s:Shared} {a:Addr} {xs ys:List V}
theorem SqL.of {K:Frag} (h:H a=some (.lst xs)):SqL K H a xs:=.inl (.inl h)
theorem SqT.of {K:Frag} (h:H a=some (.tup xs)):SqT K H a xs:=.inl (.inl h)
theorem Inv.list (I:Inv X pins σ H s) (h:SqL X.K H a xs):∃ its:List Value,Vals xs its/\PlainL s.heap a its.toArray/\xs.length<=sizeLine:=by
 rcases h with h | ⟨o,its,n,hk,hc,hd,hs,hz,r⟩
 ·obtain ⟨z,its,n,r,e⟩:=h.ok I.hok;exact ⟨its,r,⟨_,n,e,rfl,rfl,rfl⟩,z⟩
 ·refine ⟨its.toList,r,⟨o,n,I.kIn a o hk,hc,hd,by simpa using hs⟩,?_⟩;have e:=r.length;simp only [length_toList] at e;omega
theorem Inv.tuple (I:Inv X pins σ H s) (h:SqT X.K H a xs):∃ its:List Value,Vals xs its/\IsTup s.heap a its.toArray/\xs.length<=sizeLine:=by
 rcases h with h | ⟨o,its,n,hk,hc,hs,hz,r⟩
 ·obtain ⟨z,its,r,p⟩:=h.ok I.hok;exact ⟨its,r,p.tup,z⟩
 ·refine ⟨its.toList,r,⟨o,I.kIn a o hk,hc,n,by simpa using hs⟩,?_⟩;have e:=r.length;simp only [length_toList] at e;omega
theorem Inv.list_inj (I:Inv X pins σ H s) (h:SqL X.K H a xs) (h':SqL X.K H a ys):xs=ys:=by
 obtain ⟨its,r,⟨o,n,e,_,_,d⟩,_⟩:=I.list h;obtain ⟨its',r',⟨o',n',e',_,_,d'⟩,_⟩:=I.list h';rw [e] at e';cases e';rw [d] at d';injection d' with d1 _
 have:its=its':=by simpa using congrArg Array.toList d1
 subst this;exact r.inj r'
theorem Inv.tuple_inj (I:Inv X pins σ H s) (h:SqT X.K H a xs) (h':SqT X.K H a ys):xs=ys:=by
 obtain ⟨its,r,⟨o,e,_,n,d⟩,_⟩:=I.tuple h;obtain ⟨its',r',⟨o',e',_,n',d'⟩,_⟩:=I.tuple h';rw [e] at e';cases e';rw [d] at d';injection d' with d1 _
 have:its=its':=by simpa using congrArg Array.toList d1
 subst this;exact r.inj r'
end
abbrev Cx.wish (X:Cx) (E:Value->Shared->Prop):Cx:={ X with xe:=E }
abbrev Cx.nox (X:Cx):Cx:=X.wish fun _ _=>False
theorem Cx.Ok.wish {X:Cx} (ok:X.Ok) (E:Value->Shared->Prop):(X.wish E).Ok :=
 ⟨ok.mod,ok.kind,ok.glob,ok.blt,ok.above,ok.inj,ok.has,ok.cab,ok.hd,ok.frames,ok.stk,ok.exf,ok.bs,ok.bsz,ok.noex,ok.exfs,ok.funs,ok.frf⟩
theorem Cx.Ok.unwish {X:Cx} {E:Value->Shared->Prop} (ok:(X.wish E).Ok):X.Ok :=
 ⟨ok.mod,ok.kind,ok.glob,ok.blt,ok.above,ok.inj,ok.has,ok.cab,ok.hd,ok.frames,ok.stk,ok.exf,ok.bs,ok.bsz,ok.noex,ok.exfs,ok.funs,ok.frf⟩
section
variable {X:Cx} {pins:List (Addr × Obj)} {σ:St} {H:Hp} {s:Shared} {E:Value->Shared->Prop}
theorem Inv.wish (I:Inv X pins σ H s) (E:Value->Shared->Prop):Inv (X.wish E) pins σ H s:=⟨I.ok.wish E,I.os,I.bare,I.base,I.loc,I.cell,I.free,I.freeC,I.pin,I.hok,I.len⟩
theorem Inv.unwish (I:Inv (X.wish E) pins σ H s):Inv X pins σ H s:=⟨I.ok.unwish,I.os,I.bare,I.base,I.loc,I.cell,I.free,I.freeC,I.pin,I.hok,I.len⟩
theorem SP.unwish {D:Ends} {f:Flow} {s':Shared} (h:SP (X.wish E) pins D f s'):SP X pins D f s':=by
 cases f with
 | next=>obtain ⟨σ',H',I,q⟩:=h;exact ⟨σ',H',I.unwish,q⟩
 | brk=>obtain ⟨σ',H',I,q⟩:=h;exact ⟨σ',H',I.unwish,q⟩
 | cont=>obtain ⟨σ',H',I,q⟩:=h;exact ⟨σ',H',I.unwish,q⟩
 | ret u=>obtain ⟨v,σ',H',I,r,q⟩:=h;exact ⟨v,σ',H',I.unwish,r,q⟩
theorem PSs.nox {st:List Stmt} {t:TS} (h:PSs X.nox st t):PSs X st t:=fun pins s σ H D I hw =>
 wpAny_mono (h pins s σ H D (I.wish _) hw) (fun _ _ q=>q.unwish) fun _ _ z=>False.elim z
end
section
variable {X:Cx} {st:Stmt} {rest:List Stmt} {t u:TS} {e:Expr} {te:TE} {pos:Pos}
def tNext:TS:=fun D σ H=>D.nx σ H
def tSeq (t u:TS):TS:=fun D σ H=>t { D with nx:=u D } σ H
theorem J16:PSs X [] tNext:=fun _ _ σ H _ I h=>wpAny_execs_nil ⟨σ,H,I,h⟩
theorem J1 (h1:PS X st t) (h2:PSs X rest u):PSs X (st :: rest) (tSeq t u):=by
 intro pins s σ H D I h;refine wpAny_execs_cons (thn (h1 pins s σ H { D with nx:=u D } I h) fun f s1 q=>?_)
 cases f with
 | next =>
  obtain ⟨σ',H',I',q⟩:=q;exact h2 pins s1 σ' H' D I' q
 | ret v=>exact q
 | brk=>exact q
 | cont=>exact q
theorem J8 (h1:PS X st t):PSs X [st] t:=by
 intro pins s σ H D I h;refine wpAny_execs_cons (thn (h1 pins s σ H D I h) fun f s1 q=>?_)
 cases f with
 | next=>exact wpAny_execs_nil q
 | ret v=>exact q
 | brk=>exact q
 | cont=>exact q
theorem Inv.quiet {pins:List (Addr × Obj)} {σ:St} {H:Hp} {s:Shared} (I:Inv X pins σ H s):interactive X.env=false:=by simp [interactive,I.ok.kind]
def tDrop (te:TE):TS:=fun D σ H=>te σ H fun _ H1=>D.nx σ H1
theorem Jv (he:PE X e te) (hs:swapsWith e none pos.line X.env=pure false:=by rfl):PS X (.Expr e pos) (tDrop te):=by
 intro pins s σ H D I h;exact wpAny_Expr_any (thn (he pins s σ H _ I h) fun v s1 h9=>by obtain ⟨x,H1,I1,r1,q1⟩:=h9;exact ⟨σ,H1,I1,q1⟩) I.quiet hs
def tRet (te:TE):TS:=fun D σ H=>te σ H D.rt
theorem Ji (he:PE X e te):PS X (.Return (some e) pos) (tRet te):=by
 intro pins s σ H D I h;exact wpAny_Return_some (thn (he pins s σ H _ I h) fun v s1 h9=>by obtain ⟨x,H1,I1,r1,q1⟩:=h9;exact ⟨x,σ,H1,I1,r1,q1⟩)
def tIfS (c:TT) (t u:TS):TS:=fun D σ H=>c σ H fun b H1=>if b=true then t D σ H1 else u D σ H1
theorem ps_if {c:Expr} {a b:List Stmt} {tc:TT} (hc:PT X c tc) (ha:PSs X a t) (hb:PSs X b u):PS X (.If c a b pos) (tIfS tc t u):=by
 intro pins s σ H D I h;refine wpAny_If (thn (hc pins s σ H _ I h) fun d s1 h9=>?_);obtain ⟨H1,I1,q1⟩:=h9
 cases d with
 | true=>exact ha pins s1 σ H1 D I1 q1
 | false=>exact hb pins s1 σ H1 D I1 q1
def tNever:TS:=fun _ _ _=>False
theorem J2n:PS X st tNever:=fun _ _ _ _ _ _ h=>h.elim
end
abbrev TG:=V->St->Hp->(St->Hp->Prop)->Prop
abbrev TGs:=List V->St->Hp->(St->Hp->Prop)->Prop
def PG (X:Cx) (target:Expr) (t:TG):Prop :=
 ∀ (pins:List (Addr × Obj)) (s:Shared) (σ:St) (H:Hp) (v:V) (u:Value) (Q:St->Hp->Prop),Inv X pins σ H s->RelV v u->t v σ H Q->
  wpAny (model X.prog X.w) X.A (assign target X.env u) (fun _ s'=>∃ σ' H',Inv X pins σ' H' s'/\Q σ' H') X.xe s
def PGs (X:Cx) (ts:List Expr) (t:TGs):Prop :=
 ∀ (pins:List (Addr × Obj)) (s:Shared) (σ:St) (H:Hp) (vs:List V) (us:List Value) (Q:St->Hp->Prop),Inv X pins σ H s->Vals vs us->t vs σ H Q->
  wpAny (model X.prog X.w) X.A (assignInOrder ((assignEach ts X.env).map (·.2)) us) (fun _ s'=>∃ σ' H',Inv X pins σ' H' s'/\Q σ' H') X.xe s
abbrev TSet:=V->V->V->Hp->(Hp->Prop)->Prop
def PSet (X:Cx) (t:TSet):Prop :=
 ∀ (pins:List (Addr × Obj)) (s:Shared) (σ:St) (H:Hp) (o i v:V) (ov iv u:Value) (Q:Hp->Prop),Inv X pins σ H s->RelV o ov->RelV i iv->RelV v u->t o i v H Q->
  wpAny (model X.prog X.w) X.A (setItem ov iv u) (fun _ s'=>∃ H',Inv X pins σ H' s'/\Q H') X.xe s
section
variable {X:Cx} {pos:Pos}
def gName (i:Nat):TG:=fun v σ H Q=>Q (σ.set i (some v)) H
theorem J1w {i:Nat} {x:Str} (hN:X.N.Nodup) (hi:X.N[i]?=some x) (hx:Loc X.env.scope x) (hf:X.fn x=true\/X.env.scope.names.lookup x=some .local:=by first | exact .inl rfl | exact .inr rfl | assumption):PG X (.Name x pos) (gName i):=by
 intro pins s σ H v u Q I r h;exact wpAny_assign_Name (store_ok I hN hi hx r (fun s' I'=>⟨_,H,I',h⟩) hf)
def gNil:TGs:=fun vs σ H Q=>vs=[]/\Q σ H
def gCons (t:TG) (u:TGs):TGs:=fun vs σ H Q=>∃ v r,vs=v :: r/\t v σ H fun σ' H'=>u r σ' H' Q
theorem pgs_nil:PGs X [] gNil:=by
 intro pins s σ H vs us Q I r h;obtain ⟨e,h⟩:=h;subst e;cases r;exact assignInOrder_nil ⟨σ,H,I,h⟩
theorem J2o {e:Expr} {es:List Expr} {t:TG} {u:TGs} (h1:PG X e t) (h2:PGs X es u)
  (hs:(assignEach (e :: es) X.env).map (·.2)=assign e X.env :: (assignEach es X.env).map (·.2):=by rfl):PGs X (e :: es) (gCons t u):=by
 intro pins s σ H vs us Q I r h;obtain ⟨v,vr,e1,h⟩:=h;subst e1
 cases r with
 | cons r rr =>
  rw [hs];refine assignInOrder_cons (thn (h1 pins s σ H _ _ _ I r h) fun _ s1 h9=>?_);obtain ⟨σ1,H1,I1,q1⟩:=h9;exact h2 pins s1 σ1 H1 _ _ Q I1 rr q1
def gTup (K:Frag) (n:Nat) (t:TGs):TG:=fun v σ H Q=>∃ a xs,v=.ref a/\SqT K H a xs/\xs.length=n/\t xs σ H Q
theorem pg_tup {es:List Expr} {k:Nat} {t:TGs} {n:Nat} (hc:X.calm=true) (h:PGs X es t)
  (hn:(assignEach es X.env).length=n:=by rfl) (hst:(assignEach es X.env).findIdx? (·.1)=none:=by rfl):PG X (.Tuple es k pos) (gTup X.K n t):=by
 intro pins s σ H v u Q I r hw;obtain ⟨a,xs,e1,hq,hl,hw⟩:=hw;subst e1;cases r;obtain ⟨its,rv,ht,hz⟩:=I.tuple hq;refine assign_Tuple_tuple (I.ok.hd hc) ht (by simp [hn,<- hl,rv.length]) hst fun h' hx=>?_;have I1:Inv X pins σ H { s with heap:=h' }:=I.kept (t':=s.toks) fun b o e=>hx b o (Nat.ne_of_lt (lt_size e)) e;exact h pins _ σ H xs _ Q I1 (by simpa using rv) hw
def gSub (to ti:TE) (t:TSet):TG:=fun v σ H Q=>to σ H fun o H1=>ti σ H1 fun i H2=>t o i v H2 fun H3=>Q σ H3
theorem pg_sub {o i:Expr} {to ti:TE} {t:TSet} (ho:PE X o to) (hi:PE X i ti) (hs:PSet X t)
  (ha:∀ v,assign (.Subscript o i pos) X.env v=(do
   let ov <- holding [v] (eval o X.env);let iv <- holding [v,ov] (eval i X.env)
   standAt pos
   holding [v,ov,iv] (setItem ov iv v)
   release [v,ov,iv] []):=by intro _;rfl):PG X (.Subscript o i pos) (gSub to ti t):=by
 intro pins s σ H v u Q I r h;rw [ha];refine wpAny_bind (wpAny_holding (thn (ho pins s σ H _ I h) fun ov s1 h9=>?_));obtain ⟨x,H1,I1,r1,q1⟩:=h9;refine wpAny_bind (wpAny_holding (thn (hi pins s1 σ H1 _ I1 q1) fun iv s2 h9=>?_));obtain ⟨y,H2,I2,r2,q2⟩:=h9;refine wpAny_bind (wpAny_standAt (wpAny_bind (wpAny_holding (thn (hs pins s2 σ H2 x y v ov iv u _ I2 r1 r2 r q2) fun _ s3 h9=>?_))));obtain ⟨H3,I3,q3⟩:=h9;exact wpAny_release ⟨σ,H3,I3,q3⟩
def tAsg (te:TE) (g:TG):TS:=fun D σ H=>te σ H fun x H1=>g x σ H1 D.nx
theorem ps_asg {tg e:Expr} {te:TE} {g:TG} (he:PE X e te) (hg:PG X tg g) (hs:swapsWithSole [tg] e pos.line X.env=pure false:=by rfl) (hw:swappedStores [tg] e X.env=pure none:=by rfl)
  (h1:(assignEach [tg] X.env).map (·.2)=[assign tg X.env]:=by rfl):PS X (.Assign [tg] e pos) (tAsg te g):=by
 intro pins s σ H D I h;refine wpAny_Assign_stores (thn (he pins s σ H _ I h) fun v s1 h9=>?_) hs hw;obtain ⟨x,H1,I1,r1,q1⟩:=h9;rw [h1];exact thn (hg pins s1 σ H1 x v _ I1 r1 q1) fun _ s2 q=>q
theorem Jj {i:Nat} {x:Str} {e:Expr} {te:TE} {pos':Pos} (hN:X.N.Nodup) (hi:X.N[i]?=some x) (hx:Loc X.env.scope x) (he:PE X e te) (hs:swapsWith e (some (.Name x pos')) pos.line X.env=pure false:=by rfl) (hf:X.fn x=true\/X.env.scope.names.lookup x=some .local:=by first | exact .inl rfl | exact .inr rfl | assumption) :
  PS X (.Assign [.Name x pos'] e pos) (tAsg te (gName i)):=by
 intro pins s σ H D I h;refine wpAny_Assign_Name (thn (he pins s σ H _ I h) fun v s1 h9=>?_) hs;obtain ⟨y,H1,I1,r1,q1⟩:=h9;exact store_ok I1 hN hi hx r1 (fun s2 I2=>⟨_,H1,I2,q1⟩) hf
end
section
variable {X:Cx} {pos:Pos}
def tWhile (c:TT) (tb:TS):TS:=fun D σ H=>∃ W:Nat->St->Hp->Prop,(∃ m,W m σ H)/\∀ m σ H,W m σ H->
 c σ H fun b H1=>if b=true then ∃ N:St->Hp->Prop,(∀ σ' H',N σ' H'->∃ m',m' < m/\W m' σ' H')/\tb { D with nx:=N,ct:=N,bk:=D.nx } σ H1 else D.nx σ H1
theorem ps_while {c:Expr} {body:List Stmt} {tc:TT} {tb:TS} (hp:PassesOwn (model X.prog X.w) X.A X.env X.xe) (hc:PT X c tc) (hb:PSs X body tb):PS X (.While c body [] pos) (tWhile tc tb):=by
 intro pins s σ H D I h;obtain ⟨W,⟨m0,w0⟩,turn⟩:=h;refine wpAny_While (codeAny_whileLoop (fun n s'=>∃ σ' H',Inv X pins σ' H' s'/\W n σ' H') ?_ m0 ⟨σ,H,I,w0⟩);rintro n s1 ⟨σ1,H1,I1,w1⟩;refine wpAny_passesOwn hp (thn (hc pins s1 σ1 H1 _ I1 (turn n σ1 H1 w1)) fun b s2 h9=>?_);obtain ⟨H2,I2,q2⟩:=h9
 cases b with
 | true =>
  obtain ⟨N,hN,q2⟩:=q2;rw [if_pos rfl];refine wpAny_passesOwn hp (thn (hb pins s2 σ1 H2 _ I2 q2) fun f s3 q3=>?_)
  cases f with
  | next =>
   obtain ⟨σ3,H3,I3,n3⟩:=q3;obtain ⟨m',hm,w3⟩:=hN σ3 H3 n3;exact ⟨m',hm,σ3,H3,I3,w3⟩
  | cont =>
   obtain ⟨σ3,H3,I3,n3⟩:=q3;obtain ⟨m',hm,w3⟩:=hN σ3 H3 n3;exact ⟨m',hm,σ3,H3,I3,w3⟩
  | brk=>exact q3
  | ret v=>exact q3
 | false =>
  rw [if_neg Bool.false_ne_true];exact wpAny_execs_nil ⟨σ1,H2,I2,q2⟩
end
structure It where
 go:Nat->Hp->Prop
 yld:Nat->Hp->V->Hp->Prop
 stop:Nat->Hp->Prop
def FpOk (X:Cx) (pins:List (Addr × Obj)) (H:Hp) (b:Addr):Prop :=
 H b=none/\b≠X.env.locals/\b ∉ X.fs/\(b∈X.ex\/X.s₀.heap.objs.size<=b)/\(∀ x c,X.env.cells.lookup x=some c->c≠b)/\∀ p∈X.pn ++ pins,p.1≠b
theorem Inv.fpOk {X:Cx} {pins:List (Addr × Obj)} {σ:St} {H H':Hp} {s:Shared} {b:Addr} (I:Inv X pins σ H s) (hb:s.heap.objs.size<=b) (hn:H' b=none):FpOk X pins H' b:=by
 refine ⟨hn,Nat.ne_of_gt (Nat.lt_of_lt_of_le I.lt hb),I.nofs hb,.inr (Nat.le_trans I.sz hb),fun x c e z=>?_,fun p hp z=>?_⟩
 ·obtain ⟨v,q⟩:=I.cell x c e;exact absurd (Nat.lt_of_lt_of_le q.lt (by rw [z];exact hb)) (Nat.lt_irrefl _)
 ·exact absurd (Nat.lt_of_lt_of_le (lt_size (I.pin p hp).1) (by rw [z];exact hb)) (Nat.lt_irrefl _)
structure Turn (P:Program) (w:World) (K:Frag) (tg:Expr) (J:It) (fp:List Addr) (it:Addr) (tn:Nat->Heap->Prop):Prop where
 mem:it∈fp
 obj:∀ i h,tn i h->∀ b∈fp,∃ o,h.get? b=some o/\∀ v,o.data≠.cell v
 keep:∀ i h h',tn i h->(∀ b∈fp,∀ o,h.get? b=some o->h'.get? b=some o)->tn i h'
 item:∀ (X:Cx),X.prog=P->X.w=w->X.K=K->X.calm=true->∀ (i:Nat) (pins:List (Addr × Obj)) (s:Shared) (σ:St) (H:Hp) (E:Value->Shared->Prop),Inv X pins σ H s->(∀ b∈fp,FpOk X pins H b)->tn i s.heap->J.go i H->
  wpAny (model P w) X.A (pyNext (.ref it)) (fun r s1=>∃ u,r=some u/\
   wpAny (model P w) X.A (letOwnedTupleGo tg (.ref it) u) (fun _ s2=>∃ x H',Inv X pins σ H' s2/\RelV x u/\J.yld i H x H'/\tn (i + 1) s2.heap/\∀ b∈fp,H' b=none) E s1) E s
 done:∀ (X:Cx),X.prog=P->X.w=w->X.K=K->X.calm=true->∀ (i:Nat) (pins:List (Addr × Obj)) (s:Shared) (σ:St) (H:Hp) (E:Value->Shared->Prop),Inv X pins σ H s->(∀ b∈fp,FpOk X pins H b)->tn i s.heap->J.stop i H->
  wpAny (model P w) X.A (pyNext (.ref it)) (fun r s1=>r=none/\Inv X pins σ H s1) E s
 self:∀ (A:Around) (i:Nat) (s:Shared) (Q:Value->Shared->Prop) (E:Value->Shared->Prop),tn i s.heap->Q (.ref it) s->wpAny (model P w) A (pyIter (.ref it)) Q E s
abbrev TI:=St->Hp->(It->Hp->Prop)->Prop
def PIE (X:Cx) (pins:List (Addr × Obj)) (σ:St) (tg:Expr) (R:It->Hp->Prop) (itv:Value) (s2:Shared):Prop :=
 ∃ (it:Addr) (fp:List Addr) (tn:Nat->Heap->Prop) (J:It) (H':Hp),itv=.ref it/\Inv X pins σ H' s2/\Turn X.prog X.w X.K tg J fp it tn/\tn 0 s2.heap/\(∀ b∈fp,FpOk X pins H' b)/\R J H'
def PI (X:Cx) (tg iter:Expr) (wi:TI):Prop :=
 ∀ (pins:List (Addr × Obj)) (s:Shared) (σ:St) (H:Hp) (R:It->Hp->Prop),Inv X pins σ H s->wi σ H R->
  wpAny (model X.prog X.w) X.A (eval iter X.env) (fun v s1=>wpAny (model X.prog X.w) X.A (pyIter v) (PIE X pins σ tg R) X.xe s1) X.xe s
theorem go_of {M : Model} {A : Around} {E : Value -> Shared -> Prop} {s : Shared} {tg : Expr} {it : Addr} {u : Value} {o : Obj} {n : String} {vs : Array Value} {Q : Unit -> Shared -> Prop} (ho : s.heap.get? it = some o) (hc : o.cls = .type n) (hd : o.data = .fields vs)
    (hn : ["enumerate", "zip", "dict_itemiterator", "dict_reverseitemiterator", "odict_iterator", "itertools.zip_longest", "itertools.pairwise"].contains n = false) (hQ : Q () s) : wpAny M A (letOwnedTupleGo tg (.ref it) u) Q E s := by
  unfold letOwnedTupleGo;cases tg <;> first
    | exact wpAny_pure hQ
    | (cases u <;> first
        | exact wpAny_pure hQ
        | (refine wpAny_bind (wpAny_load ho ?_)
           rw [hc, hd];show wpAny M A (if (["enumerate", "zip", "dict_itemiterator", "dict_reverseitemiterator", "odict_iterator", "itertools.zip_longest", "itertools.pairwise"].contains n && vs[0]? == some (rawInt _)) = true then _ else _) Q E s;rw [if_neg (by intro h; rw [hn, Bool.false_and] at h; cases h)];exact wpAny_pure hQ))
def Itl (K:Frag) (a:Addr):It :=
 ⟨fun i H=>∃ xs x,SqL K H a xs/\xs[i]?=some x,fun i H x H'=>H'=H/\∀ xs,SqL K H a xs->xs[i]?=some x,fun i H=>∃ xs,SqL K H a xs/\xs.length<=i⟩
def Itt (K:Frag) (a:Addr):It :=
 ⟨fun i H=>∃ xs x,SqT K H a xs/\xs[i]?=some x,fun i H x H'=>H'=H/\∀ xs,SqT K H a xs->xs[i]?=some x,fun i H=>∃ xs,SqT K H a xs/\xs.length<=i⟩
def Itr (lo:Int) (n:Nat):It:=⟨fun i _=>i < n,fun i H x H'=>H'=H/\x=.int (lo + i),fun i _=>n<=i⟩
theorem turn_list {P:Program} {w:World} {K:Frag} {tg:Expr} (a it:Addr):Turn P w K tg (Itl K a) [it] it (fun i h=>h.IsListIter it a i) where
 mem:=by simp
 obj:=fun i h st b hb=>by
  have e:b=it:=by simpa using hb
  subst e;obtain ⟨o,e,c,d⟩:=st;exact ⟨o,e,fun v z=>by rw [d] at z;cases z⟩
 keep:=fun i h h' st k=>st.at fun o e=>k it (by simp) o e
 item:=by
  intro X hP hw hK hc i pins s σ H E I hf st hg;subst hP hw hK;obtain ⟨xs,x,hq,hx⟩:=hg;obtain ⟨its,rv,p,hz⟩:=I.list hq;obtain ⟨u,hu,ru⟩:=rv.get hx;obtain ⟨f0,f1,f2,f3,f4,f5⟩:=hf it (by simp);refine wpAny_pyNext_list_item st p.isList (x:=u) (by simpa using hu) fun h' st' sb=>?_;have I1:Inv X pins σ H { s with heap:=h' }:=I.turned (t':=s.toks) (fun b o hb e=>(sb.2 b hb).trans e) f0 f1 f3 f4 f5;obtain ⟨o,e,c,d⟩:=id st';exact ⟨u,rfl,go_of (s:={ s with heap:=h' }) e c d (by decide) ⟨x,H,I1,ru,⟨rfl,fun ys hy=>by rw [I.list_inj hy hq];exact hx⟩,st',fun b hb=>(hf b hb).1⟩⟩
 done:=by
  intro X hP hw hK hc i pins s σ H E I hf st hg;subst hP hw hK;obtain ⟨xs,hq,hx⟩:=hg;obtain ⟨its,rv,p,hz⟩:=I.list hq;obtain ⟨f0,f1,f2,f3,f4,f5⟩:=hf it (by simp);have hl:=rv.length;exact wpAny_pyNext_list_end (I.ok.hd hc) st p.isList (by simp;omega) fun h' eb=>⟨rfl,I.turned (t':=s.toks) (fun b o hb e=>eb b o hb e) f0 f1 f3 f4 f5⟩
 self:=fun _ _ _ _ _ st h=>wpAny_pyIter_listiter st h
theorem turn_tuple {P:Program} {w:World} {K:Frag} {tg:Expr} (a it:Addr):Turn P w K tg (Itt K a) [it] it (fun i h=>h.IsTupleIter it a i) where
 mem:=by simp
 obj:=fun i h st b hb=>by
  have e:b=it:=by simpa using hb
  subst e;obtain ⟨o,e,c,d⟩:=st;exact ⟨o,e,fun v z=>by rw [d] at z;cases z⟩
 keep:=fun i h h' st k=>st.at fun o e=>k it (by simp) o e
 item:=by
  intro X hP hw hK hc i pins s σ H E I hf st hg;subst hP hw hK;obtain ⟨xs,x,hq,hx⟩:=hg;obtain ⟨its,rv,p,hz⟩:=I.tuple hq;obtain ⟨u,hu,ru⟩:=rv.get hx;obtain ⟨f0,f1,f2,f3,f4,f5⟩:=hf it (by simp);refine wpAny_pyNext_tuple_item st (show s.heap.IsTuple a its.toArray from p) (x:=u) (by simpa using hu) fun h' st' sb=>?_;have I1:Inv X pins σ H { s with heap:=h' }:=I.turned (t':=s.toks) (fun b o hb e=>(sb.2 b hb).trans e) f0 f1 f3 f4 f5;obtain ⟨o,e,c,d⟩:=id st';exact ⟨u,rfl,go_of (s:={ s with heap:=h' }) e c d (by decide) ⟨x,H,I1,ru,⟨rfl,fun ys hy=>by rw [I.tuple_inj hy hq];exact hx⟩,st',fun b hb=>(hf b hb).1⟩⟩
 done:=by
  intro X hP hw hK hc i pins s σ H E I hf st hg;subst hP hw hK;obtain ⟨xs,hq,hx⟩:=hg;obtain ⟨its,rv,p,hz⟩:=I.tuple hq;obtain ⟨f0,f1,f2,f3,f4,f5⟩:=hf it (by simp);have hl:=rv.length;exact wpAny_pyNext_tuple_end (I.ok.hd hc) st (show s.heap.IsTuple a its.toArray from p) (by simp;omega) fun h' eb=>⟨rfl,I.turned (t':=s.toks) (fun b o hb e=>eb b o hb e) f0 f1 f3 f4 f5⟩
 self:=fun _ _ _ _ _ st h=>wpAny_pyIter_tupleiter st h
theorem turn_range {P:Program} {w:World} {K:Frag} {tg:Expr} (it:Addr) (lo:Int) (n:Nat):Turn P w K tg (Itr lo n) [it] it (fun i h=>IsRangeIter h it (lo + (i:Nat) * 1) ((n:Int) - (i:Nat)) 1) where
 mem:=by simp
 obj:=fun i h st b hb=>by
  have e:b=it:=by simpa using hb
  subst e;exact ⟨_,st,fun v z=>by
   have z':Data.fields _=Data.cell v:=z;cases z'⟩
 keep:=fun i h h' st k=>k it (by simp) _ st
 item:=by
  intro X hP hw hK hc i pins s σ H E I hf st hg;subst hP hw hK;obtain ⟨f0,f1,f2,f3,f4,f5⟩:=hf it (by simp);have W:=Walks.range (prog:=X.prog) (w:=X.w) (I.ok.hd hc) it lo 1 n;refine W.item i s _ _ hg st fun v h' tk hv st' kk=>?_;obtain ⟨t,rfl⟩:=hv;have I1:Inv X pins σ H { s with heap:=h',toks:=tk }:=I.turned (fun b o hb e=>kk b o (by simpa using hb) e) f0 f1 f3 f4 f5;refine ⟨_,rfl,go_of (s:={ s with heap:=h',toks:=tk }) (n:="range_iterator") st' rfl rfl (by decide) ⟨.int (lo + i),H,I1,⟨t,?_⟩,⟨rfl,rfl⟩,st',fun b hb=>(hf b hb).1⟩⟩;rw [Int.mul_one]
 done:=by
  intro X hP hw hK hc i pins s σ H E I hf st hg;subst hP hw hK;obtain ⟨f0,f1,f2,f3,f4,f5⟩:=hf it (by simp);exact wpAny_pyNext_range_end (I.ok.hd hc) st (by have:n<=i:=hg;omega) fun h' eb=>⟨rfl,I.turned (t':=s.toks) (fun b o hb e=>eb b o hb e) f0 f1 f3 f4 f5⟩
 self:=fun _ _ _ _ _ st h=>wpAny_pyIter_rangeiter st h
end L2
namespace L2
open PySem PySem.Spec PyProof.Rows
section
variable {X:Cx} {tg:Expr}
def iList (K:Frag) (tl:TE):TI:=fun σ H R=>tl σ H fun x H1=>∃ a,x=.ref a/\(∃ xs,SqL K H1 a xs)/\R (Itl K a) H1
def iTup (K:Frag) (tl:TE):TI:=fun σ H R=>tl σ H fun x H1=>∃ a,x=.ref a/\(∃ xs,SqT K H1 a xs)/\R (Itt K a) H1
theorem J5c {l:Expr} {tl:TE} (hl:PE X l tl):PI X tg l (iList X.K tl):=by
 intro pins s σ H R I h;refine thn (hl pins s σ H _ I h) fun v s1 h9=>?_;obtain ⟨x,H1,I1,r1,q1⟩:=h9;obtain ⟨a,e,⟨xs,hq⟩,q⟩:=q1;subst e;cases r1;obtain ⟨its,rv,p,hz⟩:=I1.list hq;refine wpAny_pyIter_list p.isList ?_;refine ⟨s1.heap.objs.size,[s1.heap.objs.size],_,_,H1,rfl,I1.kept (t':=s1.toks) fun b o e=>get?_push_of_some _ e,turn_list a _,⟨_,get?_push_size _ rfl,rfl,rfl⟩,fun b hb=>?_,q⟩;have e:b=s1.heap.objs.size:=by simpa using hb
 subst e;exact I1.fpOk (Nat.le_refl _) (I1.hok.fresh (Nat.le_refl _))
theorem pi_tup {l:Expr} {tl:TE} (hl:PE X l tl):PI X tg l (iTup X.K tl):=by
 intro pins s σ H R I h;refine thn (hl pins s σ H _ I h) fun v s1 h9=>?_;obtain ⟨x,H1,I1,r1,q1⟩:=h9;obtain ⟨a,e,⟨xs,hq⟩,q⟩:=q1;subst e;cases r1;obtain ⟨its,rv,p,hz⟩:=I1.tuple hq;refine wpAny_pyIter_tuple (show s1.heap.IsTuple a its.toArray from p) ?_;refine ⟨s1.heap.objs.size,[s1.heap.objs.size],_,_,H1,rfl,I1.kept (t':=s1.toks) fun b o e=>get?_push_of_some _ e,turn_tuple a _,⟨_,get?_push_size _ rfl,rfl,rfl⟩,fun b hb=>?_,q⟩;have e:b=s1.heap.objs.size:=by simpa using hb
 subst e;exact I1.fpOk (Nat.le_refl _) (I1.hok.fresh (Nat.le_refl _))
theorem range_it {pins:List (Addr × Obj)} {σ:St} {H:Hp} {s:Shared} {R:It->Hp->Prop} {E:Value->Shared->Prop} {lo hi:Int} {t u v:Tok} {tk:Nat} (I:Inv X pins σ H s) (h1:-(2 ^ 62)<=lo) (h2:lo < 2 ^ 62) (h3:-(2 ^ 62)<=hi) (h4:hi < 2 ^ 62)
  (q:R (Itr lo (hi - lo).toNat) H):wpAny (model X.prog X.w) X.A (pyIter (.ref s.heap.objs.size)) (PIE X pins σ tg R) E { s with heap:=s.heap.push { cls:=.type "range",data:=.fields #[.int lo t,.int hi u,.int 1 v] },toks:=tk }:=by
 refine wpAny_pyIter_range (IsRange.new ..) (small_one h1 h2 h3 h4) ?_;have I1:Inv X pins σ H { s with heap:=s.heap.push { cls:=.type "range",data:=.fields #[.int lo t,.int hi u,.int 1 v] },toks:=tk }:=I.kept fun b o e=>get?_push_of_some _ e;refine ⟨(s.heap.push { cls:=.type "range",data:=.fields #[.int lo t,.int hi u,.int 1 v] }).objs.size,[(s.heap.push { cls:=.type "range",data:=.fields #[.int lo t,.int hi u,.int 1 v] }).objs.size],_,_,H,rfl,
  I1.kept (t':=tk) fun b o e=>get?_push_of_some _ e,turn_range _ lo (hi - lo).toNat,?_,fun b hb=>?_,q⟩
 ·have e1:lo + ((0:Nat):Int) * 1=lo:=by simp
  have e2:(((hi - lo).toNat:Nat):Int) - ((0:Nat):Int)=Builtin.Range.rangeSize lo hi 1:=by rw [rangeSize_one];split <;> omega
  show IsRangeIter _ _ (lo + ((0:Nat):Int) * 1) ((((hi - lo).toNat:Nat):Int) - ((0:Nat):Int)) 1;rw [e1,e2];exact get?_push_size _ rfl
 ·have e:b=(s.heap.push { cls:=.type "range",data:=.fields #[.int lo t,.int hi u,.int 1 v] }).objs.size:=by simpa using hb
  subst e;exact I1.fpOk (Nat.le_refl _) (I1.hok.fresh (Nat.le_refl _))
def iRng1 (ta:TA):TI:=fun σ H R=>ta σ H fun vs H1=>∃ j:Int,vs=[.int j]/\-(2 ^ 62)<=j/\j < 2 ^ 62/\R (Itr 0 j.toNat) H1
def iRng2 (ta:TA):TI:=fun σ H R=>ta σ H fun vs H1=>∃ i j:Int,vs=[.int i,.int j]/\(-(2 ^ 62)<=i/\i < 2 ^ 62/\-(2 ^ 62)<=j/\j < 2 ^ 62)/\R (Itr i (j - i).toNat) H1
theorem pi_range1 {a:Expr} {ta:TA} {p pos:Pos} (hg:Gl X "range") (hm:X.mg "range"=none) (ha:PA X [a] ta) (hs:starEach [a] X.env=[(false,eval a X.env)]:=by rfl):PI X tg (.Call (.Name "range" p) [a] [] pos) (iRng1 ta):=by
 intro pins s σ H R I h;refine Call_ (J5i I hg hm boot_range (callWith_type1 (thn (ha pos pins s σ H _ I h) fun us s1 h9=>?_) hs rfl));obtain ⟨vs,H1,I1,r1,q1⟩:=h9;obtain ⟨j,e,q1,q2,q⟩:=q1;subst e
 cases r1 with
 | cons r rr =>
  cases rr;obtain ⟨t,rfl⟩:=r;exact call_range_1 (range_it I1 (by omega) (by omega) q1 q2 (by simpa using q))
theorem pi_range2 {a b:Expr} {ta:TA} {p pos:Pos} (hg:Gl X "range") (hm:X.mg "range"=none) (ha:PA X [a,b] ta) (hs:starEach [a,b] X.env=[(false,eval a X.env),(false,eval b X.env)]:=by rfl) (hs2:starEach [b] X.env=[(false,eval b X.env)]:=by rfl) :
  PI X tg (.Call (.Name "range" p) [a,b] [] pos) (iRng2 ta):=by
 intro pins s σ H R I h;refine Call_ (J5i I hg hm boot_range (callWith_type1 (thn (ha pos pins s σ H _ I h) fun us s1 h9=>?_) (by rw [hs,hs2]) (by rw [hs2];rfl)));obtain ⟨vs,H1,I1,r1,q1⟩:=h9;obtain ⟨i,j,e,⟨q1,q2,q3,q4⟩,q⟩:=q1;subst e
 cases r1 with
 | cons r rr =>
  cases rr with
  | cons r' rr =>
   cases rr;obtain ⟨t,rfl⟩:=r;obtain ⟨t',rfl⟩:=r';exact call_range_2 (range_it I1 q1 q2 q3 q4 q)
def tFor (wi:TI) (g:TG) (tb:TS):TS:=fun D σ H=>wi σ H fun J H1=>∃ W:Nat->Nat->St->Hp->Prop,(∃ m,W 0 m σ H1)/\∀ i m σ H,W i m σ H->
 (J.stop i H/\D.nx σ H)\/(J.go i H/\∃ N:St->Hp->Prop,(∀ σ' H',N σ' H'->∃ m',m' < m/\W (i + 1) m' σ' H')/\∀ x H',J.yld i H x H'->g x σ H' fun σ2 H2=>tb { D with nx:=N,ct:=N,bk:=D.nx } σ2 H2)
def pinsAt (fp:List Addr) (h:Heap):List (Addr × Obj):=fp.filterMap fun b=>(h.get? b).map fun o=>(b,o)
theorem J1m {fp:List Addr} {h:Heap} {b:Addr} {o:Obj} (hb:b∈fp) (e:h.get? b=some o):(b,o)∈pinsAt fp h:=List.mem_filterMap.mpr ⟨b,hb,by rw [e];rfl⟩
theorem of_pinsAt {fp:List Addr} {h:Heap} {p:Addr × Obj} (hp:p∈pinsAt fp h):p.1∈fp/\h.get? p.1=some p.2:=by
 obtain ⟨b,hb,e⟩:=List.mem_filterMap.mp hp
 cases q:h.get? b with
 | none=>rw [q] at e;cases e
 | some o =>
  rw [q] at e;have e':(b,o)=p:=Option.some.inj e;subst e';exact ⟨hb,q⟩
theorem Inv.pinned {pins:List (Addr × Obj)} {σ:St} {H:Hp} {s:Shared} {fp:List Addr} (I:Inv X pins σ H s) (hf:∀ b∈fp,FpOk X pins H b) (ho:∀ b∈fp,∃ o,s.heap.get? b=some o/\∀ v,o.data≠.cell v):Inv X (pins ++ pinsAt fp s.heap) σ H s :=
 I.pins_of fun p hp=>(mem_append.mp hp).elim (fun z=>I.pin p (mem_append_right _ z)) fun z=>by
  obtain ⟨hb,e⟩:=of_pinsAt z;obtain ⟨f0,f1,f2,_⟩:=hf p.1 hb;obtain ⟨o,e',d⟩:=ho p.1 hb;rw [e] at e';cases e';exact ⟨e,f0,f1,f2,d⟩
theorem Inv.unpinned {pins pl:List (Addr × Obj)} {σ:St} {H:Hp} {s:Shared} (I:Inv X (pins ++ pl) σ H s):Inv X pins σ H s:=I.pins_of fun p hp=>I.pin p (mem_append_right _ (mem_append_left _ hp))
theorem ps_for {iter:Expr} {body:List Stmt} {wi:TI} {g:TG} {tb:TS} {pos:Pos} (hp:PassesOwn (model X.prog X.w) X.A X.env X.xe) (hc:X.calm=true) (hi:PI X tg iter wi) (hg:PG X tg g) (hb:PSs X body tb)
  (hs:∀ x,foldedSetIterable iter X.env x=pure x:=by intro _;rfl):PS X (.For tg iter body [] pos) (tFor wi g tb):=by
 intro pins s σ H D I h;refine wpAny_For (thn (hi pins s σ H _ I h) fun v s1 h1=>thn h1 fun itv s2 h2=>?_) hs;obtain ⟨it,fp,tn,J,H2,e,I2,T,st2,f2,W,⟨m0,w0⟩,turn⟩:=h2;subst e;have stat:∀ {H':Hp},(∀ b∈fp,H' b=none)->∀ b∈fp,FpOk X pins H' b:=fun hn b hb=>⟨hn b hb,(f2 b hb).2⟩;refine codeAny_forLoop_any (fun n s'=>∃ i σ' H',Inv X pins σ' H' s'/\tn i s'.heap/\(∀ b∈fp,H' b=none)/\W i n σ' H') ?_ m0 ⟨0,σ,H2,I2,st2,fun b hb=>(f2 b hb).1,w0⟩;rintro n s3 ⟨i,σ3,H3,I3,st3,fr3,w3⟩;rcases turn i n σ3 H3 w3 with ⟨stop,qn⟩ | ⟨go,N,hN,step⟩
 ·refine wpAny_passesOwn hp (thn (T.done X rfl rfl rfl hc i pins s3 σ3 H3 X.xe I3 (stat fr3) st3 stop) fun r s4 h9=>?_);obtain ⟨hr,I4⟩:=h9;subst hr;exact wpAny_execs_nil ⟨σ3,H3,I4,qn⟩
 ·refine wpAny_passesOwn hp (thn (T.item X rfl rfl rfl hc i pins s3 σ3 H3 X.xe I3 (stat fr3) st3 go) fun r s4 h9=>?_);obtain ⟨u,hr,h4⟩:=h9;subst hr;refine wpAny_passesOwn hp (thn h4 fun _ s5 h9=>?_);obtain ⟨x,H5,I5,r5,y5,st5,fr5⟩:=h9;have I5':=I5.pinned (stat fr5) (T.obj _ _ st5);refine wpAny_passesOwn hp (thn (hg _ s5 σ3 H5 x u _ I5' r5 (step x H5 y5)) fun _ s6 h9=>?_);obtain ⟨σ6,H6,I6,q6⟩:=h9;refine wpAny_passesOwn hp (thn (hb _ s6 σ6 H6 _ I6 q6) fun f s7 q7=>?_);have again:∀ {σ7:St} {H7:Hp},Inv X (pins ++ pinsAt fp s5.heap) σ7 H7 s7->N σ7 H7->∃ m,m < n/\∃ i σ' H',Inv X pins σ' H' s7/\tn i s7.heap/\(∀ b∈fp,H' b=none)/\W i m σ' H':=fun {σ7 H7} I7 n7=>by
   obtain ⟨m',hm,w7⟩:=hN σ7 H7 n7;refine ⟨m',hm,i + 1,σ7,H7,I7.unpinned,T.keep _ _ _ st5 fun b hb o e=>(I7.pin (b,o) (mem_append_right _ (mem_append_right _ (J1m hb e)))).1,fun b hb=>?_,w7⟩;obtain ⟨o,e,d⟩:=T.obj _ _ st5 b hb;exact (I7.pin (b,o) (mem_append_right _ (mem_append_right _ (J1m hb e)))).2.1
  cases f with
  | next=>obtain ⟨σ7,H7,I7,n7⟩:=q7;exact again I7 n7
  | cont=>obtain ⟨σ7,H7,I7,n7⟩:=q7;exact again I7 n7
  | brk=>obtain ⟨σ7,H7,I7,q7⟩:=q7;exact ⟨σ7,H7,I7.unpinned,q7⟩
  | ret v=>obtain ⟨x7,σ7,H7,I7,r7,q7⟩:=q7;exact ⟨x7,σ7,H7,I7.unpinned,r7,q7⟩
end
theorem for_list {K:Frag} {a:Addr} {xs:List V} {g:TG} {tb:TS} {D:Ends} {σ:St} {H:Hp} (Pv:Nat->St->Hp->Prop) (h0:Pv 0 σ H) (hl:∀ i σ H,i<=xs.length->Pv i σ H->SqL K H a xs)
  (hs:∀ i x σ H,xs[i]?=some x->Pv i σ H->g x σ H fun σ2 H2=>tb { D with nx:=Pv (i + 1),ct:=Pv (i + 1),bk:=D.nx } σ2 H2) (hd:∀ σ H,Pv xs.length σ H->D.nx σ H) :
  ∃ W:Nat->Nat->St->Hp->Prop,(∃ m,W 0 m σ H)/\∀ i m σ H,W i m σ H->
   ((Itl K a).stop i H/\D.nx σ H)\/((Itl K a).go i H/\∃ N:St->Hp->Prop,(∀ σ' H',N σ' H'->∃ m',m' < m/\W (i + 1) m' σ' H')/\∀ x H',(Itl K a).yld i H x H'->g x σ H' fun σ2 H2=>tb { D with nx:=N,ct:=N,bk:=D.nx } σ2 H2):=by
 refine ⟨fun i m σ H=>m=xs.length - i/\i<=xs.length/\Pv i σ H,⟨xs.length,by simp,Nat.zero_le _,h0⟩,?_⟩;rintro i m σ H ⟨rfl,hi,p⟩;have q:=hl i σ H hi p;by_cases hlt:i < xs.length
 ·refine .inr ⟨⟨xs,xs[i],q,by simp [hlt]⟩,Pv (i + 1),fun σ' H' p'=>⟨xs.length - (i + 1),by omega,rfl,hlt,p'⟩,fun x H' y=>?_⟩;obtain ⟨e,y⟩:=y;subst e;exact hs i x σ _ (y xs q) p
 ·have e:i=xs.length:=by omega
  subst e;exact .inl ⟨⟨xs,q,Nat.le_refl _⟩,hd σ H p⟩
theorem for_tup {K:Frag} {a:Addr} {xs:List V} {g:TG} {tb:TS} {D:Ends} {σ:St} {H:Hp} (Pv:Nat->St->Hp->Prop) (h0:Pv 0 σ H) (hl:∀ i σ H,i<=xs.length->Pv i σ H->SqT K H a xs)
  (hs:∀ i x σ H,xs[i]?=some x->Pv i σ H->g x σ H fun σ2 H2=>tb { D with nx:=Pv (i + 1),ct:=Pv (i + 1),bk:=D.nx } σ2 H2) (hd:∀ σ H,Pv xs.length σ H->D.nx σ H) :
  ∃ W:Nat->Nat->St->Hp->Prop,(∃ m,W 0 m σ H)/\∀ i m σ H,W i m σ H->
   ((Itt K a).stop i H/\D.nx σ H)\/((Itt K a).go i H/\∃ N:St->Hp->Prop,(∀ σ' H',N σ' H'->∃ m',m' < m/\W (i + 1) m' σ' H')/\∀ x H',(Itt K a).yld i H x H'->g x σ H' fun σ2 H2=>tb { D with nx:=N,ct:=N,bk:=D.nx } σ2 H2):=by
 refine ⟨fun i m σ H=>m=xs.length - i/\i<=xs.length/\Pv i σ H,⟨xs.length,by simp,Nat.zero_le _,h0⟩,?_⟩;rintro i m σ H ⟨rfl,hi,p⟩;have q:=hl i σ H hi p;by_cases hlt:i < xs.length
 ·refine .inr ⟨⟨xs,xs[i],q,by simp [hlt]⟩,Pv (i + 1),fun σ' H' p'=>⟨xs.length - (i + 1),by omega,rfl,hlt,p'⟩,fun x H' y=>?_⟩;obtain ⟨e,y⟩:=y;subst e;exact hs i x σ _ (y xs q) p
 ·have e:i=xs.length:=by omega
  subst e;exact .inl ⟨⟨xs,q,Nat.le_refl _⟩,hd σ H p⟩
theorem for_range {lo:Int} {n:Nat} {g:TG} {tb:TS} {D:Ends} {σ:St} {H:Hp} (Pv:Nat->St->Hp->Prop) (h0:Pv 0 σ H)
  (hs:∀ i σ H,i < n->Pv i σ H->g (.int (lo + i)) σ H fun σ2 H2=>tb { D with nx:=Pv (i + 1),ct:=Pv (i + 1),bk:=D.nx } σ2 H2) (hd:∀ σ H,Pv n σ H->D.nx σ H) :
  ∃ W:Nat->Nat->St->Hp->Prop,(∃ m,W 0 m σ H)/\∀ i m σ H,W i m σ H->
   ((Itr lo n).stop i H/\D.nx σ H)\/((Itr lo n).go i H/\∃ N:St->Hp->Prop,(∀ σ' H',N σ' H'->∃ m',m' < m/\W (i + 1) m' σ' H')/\∀ x H',(Itr lo n).yld i H x H'->g x σ H' fun σ2 H2=>tb { D with nx:=N,ct:=N,bk:=D.nx } σ2 H2):=by
 refine ⟨fun i m σ H=>m=n - i/\i<=n/\Pv i σ H,⟨n,by simp,Nat.zero_le _,h0⟩,?_⟩;rintro i m σ H ⟨rfl,hi,p⟩;by_cases hlt:i < n
 ·refine .inr ⟨hlt,Pv (i + 1),fun σ' H' p'=>⟨n - (i + 1),by omega,rfl,hlt,p'⟩,fun x H' y=>?_⟩;obtain ⟨e,y⟩:=y;subst e y;exact hs i σ _ hlt p
 ·have e:i=n:=by omega
  subst e;exact .inl ⟨Nat.le_refl _,hd σ H p⟩
end L2
namespace L2
open PySem PySem.Spec PyProof.Rows
abbrev R2:=V->V->Hp->VK->Prop
def OpR (X:Cx) (f:Value->Value->Sem Value) (r:R2):Prop :=
 ∀ (pins:List (Addr × Obj)) (s:Shared) (σ:St) (H:Hp) (x y:V) (v u:Value) (Q:VK),Inv X pins σ H s->RelV x v->RelV y u->r x y H Q->
  wpAny (model X.prog X.w) X.A (f v u) (EP X pins σ Q) X.xe s
def UnR (X:Cx) (f:Value->Sem Value) (r:V->Hp->VK->Prop):Prop :=
 ∀ (pins:List (Addr × Obj)) (s:Shared) (σ:St) (H:Hp) (x:V) (v:Value) (Q:VK),Inv X pins σ H s->RelV x v->r x H Q->
  wpAny (model X.prog X.w) X.A (f v) (EP X pins σ Q) X.xe s
def CallR (X:Cx) (f:Value) (r:List V->Hp->VK->Prop):Prop :=
 ∀ (pins:List (Addr × Obj)) (s:Shared) (σ:St) (H:Hp) (xs:List V) (us:List Value) (Q:VK),Inv X pins σ H s->Vals xs us->r xs H Q->
  wpAny (model X.prog X.w) X.A (call f us) (EP X pins σ Q) X.xe s
def tOp (r:R2) (ta tb:TE):TE:=fun σ H Q=>ta σ H fun x H1=>tb σ H1 fun y H2=>r x y H2 Q
def tUn (r:V->Hp->VK->Prop) (ta:TE):TE:=fun σ H Q=>ta σ H fun x H1=>r x H1 Q
def rI (C:Int->Int->Prop) (g:Int->Int->V):R2:=fun x y H Q=>∃ i j,x=.int i/\y=.int j/\C i j/\Q (g i j) H
def rI0 (g:Int->Int->V):R2:=fun x y H Q=>∃ i j,x=.int i/\y=.int j/\Q (g i j) H
def rU (g:Int->V):V->Hp->VK->Prop:=fun x H Q=>∃ i,x=.int i/\Q (g i) H
section
variable {X:Cx} {a b c:Expr} {ta tb tc:TE} {pos:Pos}
theorem binT (ha:PE X a ta) (hb:PE X b tb) {pins:List (Addr × Obj)} {s:Shared} {σ:St} {H:Hp} {R:V->V->Hp->Prop} (I:Inv X pins σ H s)
  (h:ta σ H fun x H1=>tb σ H1 fun y H2=>R x y H2) {Q:Value->Shared->Prop} {f:Value->Value->Sem Value}
  (hf:∀ v u s2 x y H2,Inv X pins σ H2 s2->RelV x v->RelV y u->R x y H2->wpAny (model X.prog X.w) X.A (f v u) Q X.xe s2) :
  wpAny (model X.prog X.w) X.A (eval a X.env) (fun v s₁=>wpAny (model X.prog X.w) X.A (eval b X.env) (fun u s₂=>wpAny (model X.prog X.w) X.A (f v u) Q X.xe s₂) X.xe s₁) X.xe s:=by
 refine thn (ha pins s σ H _ I h) fun v s1 h9=>?_;obtain ⟨x,H1,I1,r1,q1⟩:=h9;refine thn (hb pins s1 σ H1 _ I1 q1) fun u s2 h9=>?_;obtain ⟨y,H2,I2,r2,q2⟩:=h9;exact hf v u s2 x y H2 I2 r1 r2 q2
theorem pe_op {op:Operator} {r:R2} (ho:OpR X (binaryOp op) r) (ha:PE X a ta) (hb:PE X b tb):PE X (.BinOp a op b pos) (tOp r ta tb):=by
 intro pins s σ H Q I h;exact wpAny_BinOp (binT ha hb I h fun v u s2 x y H2 I2 rx ry q=>ho pins s2 σ H2 x y v u Q I2 rx ry q)
theorem pe_un {op:UnaryOp} {r:V->Hp->VK->Prop} (ho:UnR X (unaryOp op) r) (ha:PE X a ta):PE X (.UnaryOp op a pos) (tUn r ta):=by
 intro pins s σ H Q I h;exact UnaryOp_ (thn (ha pins s σ H _ I h) fun v s1 h9=>by obtain ⟨x,H1,I1,r1,q1⟩:=h9;exact ho pins s1 σ H1 x v Q I1 r1 q1)
theorem opI {f:Value->Value->Sem Value} {C:Int->Int->Prop} {g:Int->Int->Int}
  (rule:∀ (i j:Int) (t u:Tok) (s:Shared) (Q:Value->Shared->Prop) (E:Value->Shared->Prop),C i j->Q (.int (g i j) s.toks) { s with toks:=s.toks + 1 }->wpAny (model X.prog X.w) X.A (f (.int i t) (.int j u)) Q E s) :
  OpR X f (rI C fun i j=>.int (g i j)):=by
 intro pins s σ H x y v u Q I rx ry h;obtain ⟨i,j,rfl,rfl,hc,q⟩:=h;obtain ⟨t,rfl⟩:=rx;obtain ⟨t',rfl⟩:=ry;exact rule i j t t' s _ _ hc ⟨.int (g i j),H,I.tok _,⟨_,rfl⟩,q⟩
theorem opI0 {f:Value->Value->Sem Value} {g:Int->Int->Int}
  (rule:∀ (i j:Int) (t u:Tok) (s:Shared) (Q:Value->Shared->Prop) (E:Value->Shared->Prop),Q (.int (g i j) s.toks) { s with toks:=s.toks + 1 }->wpAny (model X.prog X.w) X.A (f (.int i t) (.int j u)) Q E s) :
  OpR X f (rI0 fun i j=>.int (g i j)):=by
 intro pins s σ H x y v u Q I rx ry h;obtain ⟨i,j,rfl,rfl,q⟩:=h;obtain ⟨t,rfl⟩:=rx;obtain ⟨t',rfl⟩:=ry;exact rule i j t t' s _ _ ⟨.int (g i j),H,I.tok _,⟨_,rfl⟩,q⟩
theorem opB0 {f:Value->Value->Sem Value} {g:Int->Int->Bool}
  (rule:∀ (i j:Int) (t u:Tok) (s:Shared) (Q:Value->Shared->Prop) (E:Value->Shared->Prop),Q (.bool (g i j)) s->wpAny (model X.prog X.w) X.A (f (.int i t) (.int j u)) Q E s) :
  OpR X f (rI0 fun i j=>.bl (g i j)):=by
 intro pins s σ H x y v u Q I rx ry h;obtain ⟨i,j,rfl,rfl,q⟩:=h;obtain ⟨t,rfl⟩:=rx;obtain ⟨t',rfl⟩:=ry;exact rule i j t t' s _ _ ⟨.bl (g i j),H,I,rfl,q⟩
def CDiv (i j:Int):Prop:=0 < j/\j < 1073741824
def CPow (i j:Int):Prop:=0<=j/\j<=1000000/\i.natAbs < 2 ^ 64
def CMul (i j:Int):Prop:=(-(2 ^ 64) < i/\i < 2 ^ 64)\/(-(2 ^ 64) < j/\j < 2 ^ 64)
theorem CMul.ok {i j:Int} (h:CMul i j):IntMulOk i j:=by
 rcases h with ⟨h1,h2⟩ | ⟨h1,h2⟩
 ·exact .of_left (intBits_le_64 h1 h2)
 ·exact .of_right (intBits_le_64 h1 h2)
theorem J2g:OpR X (binaryOp .Add) (rI0 fun i j=>.int (i + j)):=opI0 fun _ _ _ _ _ _ _ q=>add_int q
theorem J64:OpR X (binaryOp .Sub) (rI0 fun i j=>.int (i - j)):=opI0 fun _ _ _ _ _ _ _ q=>sub_int q
theorem op_mul:OpR X (binaryOp .Mult) (rI CMul fun i j=>.int (i * j)):=opI fun _ _ _ _ _ _ _ hc q=>mul_int q hc.ok
theorem op_fdiv:OpR X (binaryOp .FloorDiv) (rI CDiv fun i j=>.int (i / j)):=opI fun i j _ _ _ _ _ hc q=>by
 have h1:(0:Int) < j:=hc.1;have h2:j < 1073741824:=hc.2;exact floordiv_int (by omega) (by rw [Int.fdiv_eq_ediv_of_nonneg i (by omega)];exact q) (.inl (PyProof.noPylong_small (by omega)))
theorem op_mod:OpR X (binaryOp .Mod) (rI (fun _ j=>0 < j) fun i j=>.int (i % j)):=opI fun i j _ _ _ _ _ hc q=>by
 have h1:(0:Int) < j:=hc;exact mod_int' (by omega) (by rw [Int.fmod_eq_emod_of_nonneg i (by omega)];exact q)
theorem op_pow:OpR X (binaryOp .Pow) (rI CPow fun i j=>.int (i ^ j.toNat)):=opI fun _ _ _ _ _ _ _ hc q=>pow_int_small hc.1 hc.2.1 hc.2.2 q
theorem unI {f:Value->Sem Value} {g:Int->Int}
  (rule:∀ (i:Int) (t:Tok) (s:Shared) (Q:Value->Shared->Prop) (E:Value->Shared->Prop),Q (.int (g i) s.toks) { s with toks:=s.toks + 1 }->wpAny (model X.prog X.w) X.A (f (.int i t)) Q E s) :
  UnR X f (rU fun i=>.int (g i)):=by
 intro pins s σ H x v Q I rx h;obtain ⟨i,rfl,q⟩:=h;obtain ⟨t,rfl⟩:=rx;exact rule i t s _ _ ⟨.int (g i),H,I.tok _,⟨_,rfl⟩,q⟩
theorem un_neg:UnR X (unaryOp .USub) (rU fun i=>.int (-i)):=unI fun _ _ _ _ _ q=>neg_int q
end
def scal:V->V->Bool
 | .non,.non=>true | .non,.int _=>true | .int _,.non=>true | .non,.bl _=>true | .bl _,.non=>true | .non,.str _=>true | .str _,.non=>true
 | .int _,.int _=>true | .bl _,.bl _=>true | .str _,.str _=>true | .byt _,.byt _=>true
 | .int _,.str _=>true | .str _,.int _=>true | .bl _,.str _=>true | .str _,.bl _=>true
 | _,_=>false
def rEq:R2:=fun x y H Q=>scal x y=true/\Q (.bl (decide (x=y))) H
def rNe:R2:=fun x y H Q=>scal x y=true/\Q (.bl (!decide (x=y))) H
theorem dec_int {i j:Int}:decide (V.int i=V.int j)=(i == j):=by
 rw [Bool.eq_iff_iff];simp
theorem dec_bl {i j:Bool}:decide (V.bl i=V.bl j)=(i == j):=by
 rw [Bool.eq_iff_iff];simp
theorem dec_str {i j:Str}:decide (V.str i=V.str j)=(i == j):=by
 rw [Bool.eq_iff_iff];simp
theorem dec_byt {i j:Array UInt8}:decide (V.byt i=V.byt j)=(i.toList == j.toList):=by
 rw [Bool.eq_iff_iff];cases i;cases j;simp
section
variable {X:Cx} {a b c:Expr} {ta tb tc:TE} {pos:Pos}
theorem Jx {pins:List (Addr × Obj)} {σ:St} {H:Hp} {s:Shared} {Q:VK} {k k':Bool} (I:Inv X pins σ H s) (q:Q (.bl k) H) (e:k=k'):EP X pins σ Q (.bool k') s:=by
 subst e;exact ⟨.bl k,H,I,rfl,q⟩
theorem op_eq:OpR X (compareOp .Eq) rEq:=by
 intro pins s σ H x y v u Q I rx ry h;obtain ⟨hs,q⟩:=h
 cases x with
 | non =>
  cases rx
  cases y with
  | non=>cases ry;exact PySem.EqNone.eq_none_none (Jx I q (by simp))
  | bl j=>cases ry;exact PySem.EqNone.eq_none_bool (Jx I q (by simp))
  | int j=>obtain ⟨t',rfl⟩:=ry;exact PySem.EqNone.eq_none_int (Jx I q (by simp))
  | str j=>obtain ⟨t',rfl⟩:=ry;exact PySem.EqNone.eq_none_str (Jx I q (by simp))
  | _=>exact absurd (show false=true from hs) Bool.false_ne_true
 | bl i =>
  cases rx
  cases y with
  | non=>cases ry;exact PySem.EqNone.eq_bool_none (Jx I q (by simp))
  | bl j=>cases ry;exact eq_bool (Jx I q dec_bl)
  | str j=>obtain ⟨t',rfl⟩:=ry;exact PySem.EqMixed.eq_bool_str (Jx I q (by simp))
  | _=>exact absurd (show false=true from hs) Bool.false_ne_true
 | int i =>
  obtain ⟨t,rfl⟩:=rx
  cases y with
  | non=>cases ry;exact PySem.EqNone.eq_int_none (Jx I q (by simp))
  | int j=>obtain ⟨t',rfl⟩:=ry;exact eq_int (Jx I q dec_int)
  | str j=>obtain ⟨t',rfl⟩:=ry;exact PySem.EqMixed.eq_int_str (Jx I q (by simp))
  | _=>exact absurd (show false=true from hs) Bool.false_ne_true
 | str i =>
  obtain ⟨t,rfl⟩:=rx
  cases y with
  | non=>cases ry;exact PySem.EqNone.eq_str_none (Jx I q (by simp))
  | bl j=>cases ry;exact PySem.EqMixed.eq_str_bool (Jx I q (by simp))
  | int j=>obtain ⟨t',rfl⟩:=ry;exact PySem.EqMixed.eq_str_int (Jx I q (by simp))
  | str j=>obtain ⟨t',rfl⟩:=ry;exact eq_str (Jx I q dec_str)
  | _=>exact absurd (show false=true from hs) Bool.false_ne_true
 | byt i =>
  obtain ⟨t,rfl⟩:=rx
  cases y with
  | byt j=>obtain ⟨t',rfl⟩:=ry;exact PySem.W.eq_bytes (Jx I q dec_byt)
  | _=>exact absurd (show false=true from hs) Bool.false_ne_true
 | _=>cases y <;> exact absurd (show false=true from hs) Bool.false_ne_true
theorem op_ne:OpR X (compareOp .NotEq) rNe:=by
 intro pins s σ H x y v u Q I rx ry h;obtain ⟨hs,q⟩:=h
 cases x with
 | non =>
  cases rx
  cases y with
  | non=>cases ry;exact PySem.EqNone.ne_none_none (Jx I q (by simp))
  | bl j=>cases ry;exact PySem.EqNone.ne_none_bool (Jx I q (by simp))
  | int j=>obtain ⟨t',rfl⟩:=ry;exact PySem.EqNone.ne_none_int (Jx I q (by simp))
  | str j=>obtain ⟨t',rfl⟩:=ry;exact PySem.EqNone.ne_none_str (Jx I q (by simp))
  | _=>exact absurd (show false=true from hs) Bool.false_ne_true
 | bl i =>
  cases rx
  cases y with
  | non=>cases ry;exact PySem.EqNone.ne_bool_none (Jx I q (by simp))
  | bl j=>cases ry;exact ne_bool (Jx I q (congrArg not dec_bl))
  | str j=>obtain ⟨t',rfl⟩:=ry;exact PySem.EqMixed.ne_bool_str (Jx I q (by simp))
  | _=>exact absurd (show false=true from hs) Bool.false_ne_true
 | int i =>
  obtain ⟨t,rfl⟩:=rx
  cases y with
  | non=>cases ry;exact PySem.EqNone.ne_int_none (Jx I q (by simp))
  | int j=>obtain ⟨t',rfl⟩:=ry;exact ne_int (Jx I q (congrArg not dec_int))
  | str j=>obtain ⟨t',rfl⟩:=ry;exact PySem.EqMixed.ne_int_str (Jx I q (by simp))
  | _=>exact absurd (show false=true from hs) Bool.false_ne_true
 | str i =>
  obtain ⟨t,rfl⟩:=rx
  cases y with
  | non=>cases ry;exact PySem.EqNone.ne_str_none (Jx I q (by simp))
  | bl j=>cases ry;exact PySem.EqMixed.ne_str_bool (Jx I q (by simp))
  | int j=>obtain ⟨t',rfl⟩:=ry;exact PySem.EqMixed.ne_str_int (Jx I q (by simp))
  | str j=>obtain ⟨t',rfl⟩:=ry;exact ne_str (Jx I q (congrArg not dec_str))
  | _=>exact absurd (show false=true from hs) Bool.false_ne_true
 | byt i =>
  obtain ⟨t,rfl⟩:=rx
  cases y with
  | byt j=>obtain ⟨t',rfl⟩:=ry;exact PySem.W.ne_bytes (Jx I q (congrArg not dec_byt))
  | _=>exact absurd (show false=true from hs) Bool.false_ne_true
 | _=>cases y <;> exact absurd (show false=true from hs) Bool.false_ne_true
theorem op_lt:OpR X (compareOp .Lt) (rI0 fun i j=>.bl (decide (i < j))):=opB0 fun _ _ _ _ _ _ _ q=>lt_int q
theorem op_gt:OpR X (compareOp .Gt) (rI0 fun i j=>.bl (decide (j < i))):=opB0 fun _ _ _ _ _ _ _ q=>gt_int q
theorem J14 (b:Expr) {op:CmpOp} (h:op≠.In:=by decide) (h2:op≠.NotIn:=by decide):behindInMarks op b=false:=by
 have e1:(op == CmpOp.In)=false:=by cases op <;> first | rfl | exact absurd rfl h
 have e2:(op == CmpOp.NotIn)=false:=by cases op <;> first | rfl | exact absurd rfl h2
 cases b <;> simp [behindInMarks,e1,e2]
theorem pe_cmpR {op:CmpOp} {r:R2} (ho:OpR X (compareOp op) r) (ha:PE X a ta) (hb:PE X b tb) (hm:behindInMarks op b=false):PE X (.Compare a [op] [b] pos) (tOp r ta tb):=by
 intro pins s σ H Q I h;exact wpAny_Compare1 (binT ha hb I h fun v u s2 x y H2 I2 rx ry q=>ho pins s2 σ H2 x y v u Q I2 rx ry q) hm
def tTest (t:TE):TT:=fun σ H Q=>t σ H fun x H'=>∃ k,x=.bl k/\Q k H'
theorem Jm {op:CmpOp} {r:R2} (ho:OpR X (compareOp op) r) (ha:PE X a ta) (hb:PE X b tb) (hm:behindInMarks op b=false):PT X (.Compare a [op] [b] pos) (tTest (tOp r ta tb)):=by
 intro pins s σ H Q I h;refine wpAny_isTrue_Compare1 (thn (ha pins s σ H _ I h) fun v s1 h9=>?_) hm;obtain ⟨x,H1,I1,r1,q1⟩:=h9;refine thn (hb pins s1 σ H1 _ I1 q1) fun u s2 h9=>?_;obtain ⟨y,H2,I2,r2,q2⟩:=h9;refine thn (ho pins s2 σ H2 x y v u _ I2 r1 r2 q2) fun c s3 h9=>?_;obtain ⟨z,H3,I3,r3,k,e,q3⟩:=h9;subst e;cases r3;exact wpAny_truthy_bool ⟨H3,I3,q3⟩
theorem J6a:(sizeLine:Nat) < 2 ^ 63:=by rw [sizeLine_eq];decide
theorem vals1 {x:V} {us:List Value} (r:Vals [x] us):∃ u,us=[u]/\RelV x u:=by
 cases r with
 | cons r1 r2=>cases r2;exact ⟨_,rfl,r1⟩
theorem vals2 {x y:V} {us:List Value} (r:Vals [x,y] us):∃ u w',us=[u,w']/\RelV x u/\RelV y w':=by
 cases r with
 | cons r1 r2 =>
  cases r2 with
  | cons r3 r4=>cases r4;exact ⟨_,_,rfl,r1,r3⟩
theorem call_max2 (hc:X.calm=true):CallR X (.builtin "max") (fun xs H Q=>∃ i j,xs=[.int i,.int j]/\Q (.int (if j > i then j else i)) H):=by
 intro pins s σ H xs us Q I r h;obtain ⟨i,j,rfl,q⟩:=h;obtain ⟨u,w',rfl,⟨t,rfl⟩,⟨t',rfl⟩⟩:=vals2 r;refine max_two_ints (I.ok.hd hc) fun h' tk k=>⟨_,H,I.kept k,?_,q⟩;by_cases hj:j > i
 ·rw [if_pos hj,if_pos hj];exact ⟨_,rfl⟩
 ·rw [if_neg hj,if_neg hj];exact ⟨_,rfl⟩
theorem call_min2 (hc:X.calm=true):CallR X (.builtin "min") (fun xs H Q=>∃ i j,xs=[.int i,.int j]/\Q (.int (if j < i then j else i)) H):=by
 intro pins s σ H xs us Q I r h;obtain ⟨i,j,rfl,q⟩:=h;obtain ⟨u,w',rfl,⟨t,rfl⟩,⟨t',rfl⟩⟩:=vals2 r;refine min_two_ints (I.ok.hd hc) fun h' tk k=>⟨_,H,I.kept k,?_,q⟩;by_cases hj:j < i
 ·rw [if_pos hj,if_pos hj];exact ⟨_,rfl⟩
 ·rw [if_neg hj,if_neg hj];exact ⟨_,rfl⟩
end
end L2
namespace L2
open PySem PySem.Spec PyProof.Rows
structure ObjM (h:Heap) (x dx C:Addr) (mA:Str->Option Value):Prop where
 obj:h.get? x=some (instObj C dx)
 ns:h.Ns1 dx mA
 ne:dx≠x
theorem lookIn_ns {h:Heap} {dx:Addr} {mA:Str->Option Value} (n:h.Ns1 dx mA):∃ od,h.get? dx=some od/\∀ name,lookIn name od=some (mA name):=by
 obtain ⟨o,es,ep,ho,hd,hk,_,hm⟩:=n;refine ⟨o,ho,fun name=>?_⟩;have e:=hm name;unfold nsFind findBy at e;rw [<- Array.find?_toList] at e;unfold lookIn;rw [hd];dsimp only;split
 ·rename_i y q;rw [q] at e;exact congrArg some e
 ·rename_i q;rw [q] at e;have a:es.toList.any (·.refKey)=false:=by
   rw [List.any_eq_false];intro y hy;obtain ⟨z,t,hkey⟩:=hk y (Array.mem_toList_iff.mp hy);simp [DictEntry.refKey,hkey]
  have a':¬ es.toList.any (·.refKey)=true:=by rw [a];exact Bool.false_ne_true
  rw [if_neg a'];exact congrArg some e
theorem ObjM.look {h:Heap} {x dx C:Addr} {mA:Str->Option Value} (I:ObjM h x dx C mA):∃ od,PySem.W.InstAt h x (instObj C dx) C (some od)/\∀ name,lookIn name od=some (mA name) :=
 let ⟨od,ho,hl⟩:=lookIn_ns I.ns
 ⟨od,⟨I.obj,rfl,rfl,ho⟩,hl⟩
section
variable {prog:Program} {w:World} {A:Around} {E:Value->Shared->Prop} {s:Shared} {K:Frag} {x dx C f:Addr} {mA:Str->Option Value} {name:Str} {v:Value}
theorem get_map {expr:Bool} {Q:Value->Shared->Prop} (X:K.In s.heap) (I:ObjM s.heap x dx C mA) (hg:plainGet K C name=true) (hh:hasDictIn K C=true)
  (ha:findIn K (.ref C) name=some none) (hv:mA name=some v) (hv':handedIn v=true) (h:Q v { s with toks:=s.toks + 1 }) :
  wpAny (model prog w) A (getAttr (.ref x) name expr) Q E s:=by
 obtain ⟨od,J,hl⟩:=I.look;exact PySem.W.get_value X J (plainGet_of hg).1 (PySem.W.findObj_own hh ha rfl (by rw [hl,hv])) hv' h
theorem get_meth {pl:Sem Bool} {Q:Value × List Value->Shared->Prop} (X:K.In s.heap) (I:ObjM s.heap x dx C mA) (hg:plainGet K C name=true)
  (hf:findIn K (.ref C) name=some (some (.ref f))) (ht:isFn K (.ref f)=true) (hv:mA name=none) (h:Q (.ref f,[.ref x]) s) :
  wpAny (model prog w) A (getMethod (.ref x) name pl) Q E s:=by
 obtain ⟨od,J,hl⟩:=I.look;exact PySem.W.method_fn X J (plainGet_of hg).1 (plainGet_of hg).2 hf (beq_iff_eq.mp ht) (by show (lookIn name od).map (·.isSome)=some false;rw [hl,hv];rfl) h
theorem set_map {ns:List Str} {Q:Unit->Shared->Prop} (X:K.In s.heap) (I:ObjM s.heap x dx C mA)
  (hs:findIn K (.ref C) "__setattr__"=some (some (.builtin "object.__setattr__"))) (hp:plainOver K C=true) (ht:takerIn K C name=some none) (hh:hasDictIn K C=true)
  (hw:PySem.Within mA ns) (hsz:ns.length<=sizeLine)
  (h:∀ h',ObjM h' x dx C (fun y=>if y=name then some v else mA y)->Heap.SameBut dx s.heap h'->Q () { s with heap:=h',toks:=s.toks + 2 }) :
  wpAny (model prog w) A (setAttr (.ref x) name v) Q E s:=by
 obtain ⟨od,J,hl⟩:=I.look;refine PySem.W.set_plain X J hs (PySem.W.osa_open (s:={ s with toks:=s.toks + 1 }) (r:=none) X J hp ht fun b=>?_);obtain ⟨cd,hc,hd'⟩:=PySem.W.any_some hh;have hx:s.heap.get? x=some ⟨.ref C,some dx,.plain,#[]⟩:=I.obj;refine wpAny_bind (wpAny_pure (wpAny_bind (wpAny_bind (wpAny_loadPart hx (wpAny_bind (PySem.W.Looks.here (s:={ s with toks:=s.toks + 1 }) (PySem.W.looks_clsIn X hc) ?_))))));rw [hd'];refine wpAny_pure (a:=some dx) (wpAny_bind (wpAny_pure (wpAny_bind ?_)));refine wpAny_nsSet1 (s:={ s with toks:=s.toks + 1 }) I.ns fun h' hn2 hs2=>?_;obtain ⟨oD,esD,epD,hoD,hdD,hcD⟩:=hn2.count (PySem.Within.cons name v hw);refine wpAny_bind (wpAny_lookBehind hoD (by rw [hdD];exact pastItsLine_dict (Nat.le_trans hcD (by rw [length_cons];omega))) ?_);exact wpAny_pure (h _ ⟨(hs2.2 _ (Ne.symm I.ne)).trans I.obj,hn2,I.ne⟩ hs2)
theorem make_map {R:Result->Shared->Prop} {vs:List Value} {kw:List (Str × Value)} (X:K.In s.heap) (hm:makesIn K C=true)
  (hi:findIn K (.ref C) "__init__"=some (some (.ref f))) (hf:PySem.W.typeIn K (.ref f)=some (.type "function"))
  (h:codeAny (model prog w) (A.under (.builtin "type.__call__" ⟨.ref C :: vs,kw⟩)) (.call (.ref f) ⟨.ref (s.heap.objs.size + 1) :: vs,kw⟩) (PySem.W.InitBack (s.heap.objs.size + 1) R)
   { s with heap:=(s.heap.push emptyDict).push (instObj C s.heap.objs.size) }) :
  codeAny (model prog w) A (.call (.ref C) ⟨vs,kw⟩) R s:=by
 obtain ⟨hh,g,d,t,os⟩:=s;exact PySem.W.make_core (PySem.W.makes_of X hm) (PySem.W.looks_findIn X hi) (fun self=>PySem.W.bind_fn X self hf) (.inl rfl) h
end
def putF (f:Str) (v:V):List (Str × V)->List (Str × V)
 | []=>[(f,v)]
 | (g,x) :: r=>if g=f then (g,v) :: r else (g,x) :: putF f v r
theorem J27 (f g:Str) (v:V):∀ fs:List (Str × V),(putF f v fs).lookup g=if g=f then some v else fs.lookup g
 | []=>by
  show List.lookup g [(f,v)]=_;by_cases h:g=f
  ·have hb:(g == f)=true:=beq_iff_eq.mpr h;simp only [List.lookup,hb,if_pos h]
  ·have hb:(g == f)=false:=beq_eq_false_iff_ne.mpr h;simp only [List.lookup,hb,if_neg h]
 | (k,x) :: r=>by
  have ih:=J27 f g v r;rw [show putF f v ((k,x) :: r)=(if k=f then (k,v) :: r else (k,x) :: putF f v r) from rfl];by_cases hk:k=f
  ·rw [if_pos hk];by_cases h:g=k
   ·have hb:(g == k)=true:=beq_iff_eq.mpr h;simp only [List.lookup,hb,if_pos (h.trans hk)]
   ·have hb:(g == k)=false:=beq_eq_false_iff_ne.mpr h;simp only [List.lookup,hb,if_neg (fun e:g=f=>h (e.trans hk.symm))]
  ·rw [if_neg hk];by_cases h:g=k
   ·have hb:(g == k)=true:=beq_iff_eq.mpr h;simp only [List.lookup,hb,if_neg (fun e:g=f=>hk (h.symm.trans e))]
   ·have hb:(g == k)=false:=beq_eq_false_iff_ne.mpr h;simp only [List.lookup,hb];exact ih
theorem J4s (f:Str) (v:V):∀ fs:List (Str × V),f∈(putF f v fs).map (·.1)/\∀ g,g∈fs.map (·.1)->g∈(putF f v fs).map (·.1)
 | []=>⟨by simp [putF],fun g h=>by simp at h⟩
 | (k,x) :: r=>by
  obtain ⟨i1,i2⟩:=J4s f v r;rw [show putF f v ((k,x) :: r)=(if k=f then (k,v) :: r else (k,x) :: putF f v r) from rfl];by_cases hk:k=f
  ·rw [if_pos hk];subst hk;exact ⟨by simp,fun g h=>by simpa using h⟩
  ·rw [if_neg hk];refine ⟨?_,fun g h=>?_⟩
   ·rw [map_cons];exact mem_cons_of_mem _ i1
   ·rw [map_cons] at h ⊢;rcases mem_cons.mp h with e | e
    ·exact mem_cons.mpr (.inl e)
    ·exact mem_cons_of_mem _ (i2 g e)
theorem Jf (f:Str) (v:V):∀ fs:List (Str × V),(putF f v fs).length<=fs.length + 1
 | []=>by simp [putF]
 | (k,x) :: r=>by
  have ih:=Jf f v r;rw [show putF f v ((k,x) :: r)=(if k=f then (k,v) :: r else (k,x) :: putF f v r) from rfl];by_cases hk:k=f
  ·rw [if_pos hk,length_cons,length_cons];omega
  ·rw [if_neg hk,length_cons,length_cons];omega
theorem RelO.some_of {v:V} {o:Option Value} (r:RelO (some v) o):∃ u,o=some u/\RelV v u:=by
 cases o with
 | none=>exact (show False from r).elim
 | some u=>exact ⟨u,rfl,r⟩
theorem RelO.none_of {o:Option Value} (r:RelO none o):o=none:=by
 cases o with
 | none=>rfl
 | some u=>exact (show False from r).elim
theorem handed_of {v:V} {u:Value} (r:RelV v u):handedIn u=true:=by
 cases v with
 | non=>cases (show u=Value.none from r);rfl
 | bl b=>cases (show u=Value.bool b from r);rfl
 | int i=>obtain ⟨t,e⟩:=(show ∃ t,u=Value.int i t from r);cases e;rfl
 | str x=>obtain ⟨t,e⟩:=(show ∃ t,u=Value.str x t from r);cases e;rfl
 | byt b=>obtain ⟨t,e⟩:=(show ∃ t,u=Value.bytes b t from r);cases e;rfl
 | flt b=>obtain ⟨t,e⟩:=(show ∃ t,u=Value.float b t from r);cases e;rfl
 | ref a=>cases (show u=Value.ref a from r);rfl
 | ty n=>cases (show u=Value.type n from r);rfl
section
variable {P:Program} {w:World} {H H':Hp} {h h':Heap} {a C dx:Addr} {fs fs':List (Str × V)}
theorem ins_get (hok:HOk P w H h) (e:H a=some (.ins C dx fs)):∃ mA,ObjM h a dx C mA/\(∀ f,RelO (fs.lookup f) (mA f))/\PySem.Within mA (fs.map (·.1))/\fs.length<=1000/\H dx=some (.own a):=by
 obtain ⟨d,z,ne,ob,mA,n,r,q⟩:=(show ObjOk P w H h a (.ins C dx fs) from hok a _ e);exact ⟨mA,⟨ob,n,ne⟩,r,q,z,d⟩
end
structure Cls (K:Frag) (C:Addr):Prop where
 pg:plainGet K C Str.empty=true
 hd:hasDictIn K C=true
 po:plainOver K C=true
 sa:findIn K (.ref C) "__setattr__"=some (some (.builtin "object.__setattr__"))
theorem Cls.get {K:Frag} {C:Addr} (c:Cls K C) (f:Str):plainGet K C f=true:=c.pg
def NoAttr (K:Frag) (C:Addr) (f:Str):Prop:=findIn K (.ref C) f=some none
theorem NoAttr.taker {K:Frag} {C:Addr} {f:Str} (n:NoAttr K C f):takerIn K C f=some none:=by
 unfold takerIn;rw [show findIn K (.ref C) f=some none from n];rfl
structure Meth (K:Frag) (C:Addr) (m:Str) (f:Addr):Prop where
 at_:findIn K (.ref C) m=some (some (.ref f))
 fn:isFn K (.ref f)=true
 kp:keepIn K (.ref f)=true
section
variable {X:Cx} {pins:List (Addr × Obj)} {σ:St} {H:Hp} {s:Shared} {a C dx:Addr} {fs:List (Str × V)} {f:Str} {v:V} {A:Around} {E:Value->Shared->Prop}
theorem getattr_ok {b:Bool} {Q:Value->Shared->Prop} (I:Inv X pins σ H s) (e:H a=some (.ins C dx fs)) (c:Cls X.K C) (n:NoAttr X.K C f) (l:fs.lookup f=some v)
  (h:∀ u s',Inv X pins σ H s'->RelV v u->Q u s'):wpAny (model X.prog X.w) A (getAttr (.ref a) f b) Q E s:=by
 obtain ⟨mA,O,r,_,_,_⟩:=ins_get I.hok e;obtain ⟨u,hu,ru⟩:=RelO.some_of (v:=v) (o:=mA f) (by rw [<- l];exact r f);exact get_map I.kIn O (c.get f) c.hd n hu (handed_of ru) (h u _ (I.tok _) ru)
theorem J5m {m:Str} {g:Addr} {pl:Sem Bool} {Q:Value × List Value->Shared->Prop} (I:Inv X pins σ H s) (e:H a=some (.ins C dx fs)) (c:Cls X.K C) (k:Meth X.K C m g) (l:fs.lookup m=none)
  (h:Q (.ref g,[.ref a]) s):wpAny (model X.prog X.w) A (getMethod (.ref a) m pl) Q E s:=by
 obtain ⟨mA,O,r,_,_,_⟩:=ins_get I.hok e;have hn:mA m=none:=RelO.none_of (by rw [<- l];exact r m);exact get_meth I.kIn O (c.get m) k.at_ k.fn hn h
theorem setattr_ok {y:V} {u:Value} {Q:Unit->Shared->Prop} (I:Inv X pins σ H s) (e:H a=some (.ins C dx fs)) (c:Cls X.K C) (n:NoAttr X.K C f) (hl:fs.length < 1000) (ry:RelV y u)
  (h:∀ s',Inv X pins σ (upd H a (.ins C dx (putF f y fs))) s'->Q () s'):wpAny (model X.prog X.w) A (setAttr (.ref a) f u) Q E s:=by
 obtain ⟨mA,O,r,wi,_,ho⟩:=ins_get I.hok e;have hz:(fs.map (·.1)).length<=sizeLine:=by rw [length_map,sizeLine_eq];omega
 refine set_map I.kIn O c.sa c.po n.taker c.hd wi hz fun h' O' sb=>h _ ?_;have hd:∃ o,h'.get? dx=some o:=by obtain ⟨o,_,_,e',_⟩:=O'.ns;exact ⟨o,e'⟩
 refine I.write (x:=a) (e:=dx) (by rw [e];exact True.intro) (.inr ho) (fun b q hb z=>(sb.2 b hb).trans z) hd ?_;refine ⟨by rw [J9 O.ne];exact ho,?_,O.ne,O'.obj,_,O'.ns,fun g=>?_,fun g hg=>?_⟩
 ·have:=Jf f y fs;omega
 ·show RelO ((putF f y fs).lookup g) (if g=f then some u else mA g);rw [J27];by_cases q:g=f
  ·rw [if_pos q,if_pos q];exact ry
  ·rw [if_neg q,if_neg q];exact r g
 ·by_cases q:g=f
  ·rw [q];exact (J4s f y fs).1
  ·refine (J4s f y fs).2 g (wi g fun z=>hg ?_);show (if g=f then some u else mA g)=none;rw [if_neg q];exact z
theorem Inv.made (I:Inv X pins σ H s):Inv X pins σ (upd (upd H s.heap.objs.size (.own (s.heap.objs.size + 1))) (s.heap.objs.size + 1) (.ins C s.heap.objs.size []))
  { s with heap:=(s.heap.push emptyDict).push (instObj C s.heap.objs.size) }:=by
 have e1:(s.heap.push emptyDict).get? s.heap.objs.size=some emptyDict:=get?_push_size s.heap rfl;have e2:((s.heap.push emptyDict).push (instObj C s.heap.objs.size)).get? (s.heap.objs.size + 1)=some (instObj C s.heap.objs.size):=by
  have:=get?_push_size (s.heap.push emptyDict) (o:=instObj C s.heap.objs.size) rfl;rwa [size_push] at this
 have e3:(s.heap.push emptyDict).Ns s.heap.objs.size (fun _=>none):=⟨emptyDict,#[],_,e1,rfl,(fun e he=>absurd he (by simp)),fun _=>rfl⟩;have I1:=I.laid (a:=s.heap.objs.size) (o:=.own (s.heap.objs.size + 1)) (h':=s.heap.push emptyDict) (t':=s.toks) (fun b u q=>get?_push_of_some _ q) (Nat.le_refl _) ⟨_,e1⟩;refine I1.laid (a:=s.heap.objs.size + 1) (o:=.ins C s.heap.objs.size []) (t':=s.toks) (fun b u q=>get?_push_of_some _ q) (Nat.le_of_eq (size_push _ _)) ?_;have ne:s.heap.objs.size≠s.heap.objs.size + 1:=Nat.ne_of_lt (Nat.lt_succ_self _);refine ⟨by rw [J9 ne,J0],Nat.zero_le _,ne,e2,fun _=>none,(Heap.Ns1.of_empty e3).at fun o q=>get?_push_of_some _ q,fun _=>True.intro,fun y hy=>absurd rfl hy⟩
theorem attr_of {prog:Program} {w:World} {env:Env} {e:Expr} {f:Str} {pos:Pos} {s:Shared} {Q:Value->Shared->Prop} (hb:attributeBase e f env (eval e env)=eval e env)
  (h:wpAny (model prog w) A (eval e env) (fun o s₁=>wpAny (model prog w) A (getAttr o f true) Q E s₁) E s):wpAny (model prog w) A (eval (.Attribute e f pos) env) Q E s :=
 Attribute_any_ h (by rw [arm_eval_Attribute,hb])
end
def tFld (K:Frag) (ta:TE) (f:Str):TE:=fun σ H Q=>ta σ H fun x H1=>∃ a C dx fs v,x=.ref a/\H1 a=some (.ins C dx fs)/\Cls K C/\NoAttr K C f/\fs.lookup f=some v/\Q v H1
def sFld (K:Frag) (ta tv:TE) (f:Str):TS:=fun D σ H=>tv σ H fun y H1=>ta σ H1 fun x H2=>∃ a C dx fs,x=.ref a/\H2 a=some (.ins C dx fs)/\Cls K C/\NoAttr K C f/\fs.length < 1000/\
 D.nx σ (upd H2 a (.ins C dx (putF f y fs)))
section
variable {X:Cx} {o e value:Expr} {f:Str} {pos pos' tpos:Pos} {ta tv:TE}
theorem Ja (he:PE X e ta) (hb:attributeBase e f X.env (eval e X.env)=eval e X.env):PE X (.Attribute e f pos) (tFld X.K ta f):=by
 intro pins s σ H Q I h;refine attr_of hb (thn (he pins s σ H _ I h) fun u s1 h9=>?_);obtain ⟨x,H1,I1,rx,a,C,dx,fs,v,ex,ea,c,n,l,q⟩:=h9;subst ex;obtain rfl:u=Value.ref a:=rx;exact getattr_ok I1 ea c n l fun u' s2 I2 ru=>⟨v,H1,I2,ru,q⟩
theorem J1q (ha:PE X o ta) (hv:PE X value tv) (hs:swapsWith value (some (.Attribute o f pos')) pos.line X.env=pure false):PS X (.Assign [.Attribute o f pos'] value pos) (sFld X.K ta tv f):=by
 intro pins s σ H D I h;refine plainObj_wpAny_Assign_Attribute (thn (hv pins s σ H _ I h) fun u s1 h9=>?_) hs;obtain ⟨y,H1,I1,ry,q⟩:=h9;refine thn (ha pins s1 σ H1 _ I1 q) fun ov s2 h9=>?_;obtain ⟨x,H2,I2,rx,a,C,dx,fs,ex,ea,c,n,l,q2⟩:=h9;subst ex;obtain rfl:ov=Value.ref a:=rx;exact setattr_ok I2 ea c n l ry fun s3 I3=>⟨σ,_,I3,q2⟩
end
end L2
namespace L2
open PySem PySem.Spec PyProof.Rows
structure Room (k:Nat) (A:Around):Prop where
 hd:A.handled=none
 dp:A.depth + 3 * k + 5 < recursionLimit
 un:A.units + 16 * k + 200 < cLine
theorem Room.mono {j k:Nat} {A:Around} (r:Room k A) (h:j<=k):Room j A:=⟨r.hd,by have:=r.dp;omega,by have:=r.un;omega⟩
theorem rm {j k:Nat} {A:Around} (r:Room k A) (h:j<=k:=by decide) : Room j A:=r.mono h
theorem Room.deeper {k:Nat} {A:Around} (r:Room (k + 1) A) (env:Env):Room k (A.deeper env) :=
 ⟨r.hd,by have:=r.dp;show A.depth + 1 + 3 * k + 5 < _;omega,by have:=r.un;show A.units + 3 + 16 * k + 200 < _;omega⟩
theorem Room.in1 {k:Nat} {A:Around} (r:Room (k + 1) A):Room k A.in1 :=
 ⟨r.hd,by have:=r.dp;show A.depth + 3 * k + 5 < _;omega,by have:=r.un;show A.units + 1 + 16 * k + 200 < _;omega⟩
theorem make_depth {A:Around} {C:Addr} {us:List Value} {kw:List (Str × Value)}:(A.under (.builtin "type.__call__" ⟨.ref C :: us,kw⟩)).depth=A.depth + 1:=by
 first | rfl | simp [Around.under,Code.weight,Code.isCreation,Code.isGuard,Code.isCaller,Code.frames,Code.isFrame,guardIds]
theorem make_units {A:Around} {C:Addr} {us:List Value} {kw:List (Str × Value)}:(A.under (.builtin "type.__call__" ⟨.ref C :: us,kw⟩)).units=A.units + 1:=by
 first | rfl | simp [Around.under,Code.cUnits,Code.frames,Code.isFrame]
theorem Room.make {k:Nat} {A:Around} (r:Room (k + 1) A) (C:Addr) (us:List Value) (kw:List (Str × Value)):Room k (A.under (.builtin "type.__call__" ⟨.ref C :: us,kw⟩)) :=
 ⟨r.hd,by have:=r.dp;rw [make_depth];omega,by have:=r.un;rw [make_units];omega⟩
theorem Room.depth {k:Nat} {A:Around} (r:Room k A):A.depth < recursionLimit:=by have:=r.dp;omega
theorem Room.units0 {k:Nat} {A:Around} (r:Room k A):A.units < cLine:=by have:=r.un;omega
def tNil:TA:=fun _ H Q=>Q [] H
def tCons (ta:TE) (tr:TA):TA:=fun σ H Q=>ta σ H fun x H1=>tr σ H1 fun xs H2=>Q (x :: xs) H2
section
variable {X:Cx} {e:Expr} {es:List Expr} {te:TE} {t:TA} {pos:Pos}
theorem J2:PA X [] tNil:=fun _ _ _ _ H Q I h=>Calls.spliced_nil ⟨[],H,I,.nil,h⟩
theorem pa_cons (ha:PE X e te) (hr:PA X es t) (hs:starEach (e :: es) X.env=(false,eval e X.env) :: starEach es X.env:=by rfl):PA X (e :: es) (tCons te t):=by
 intro pos pins s σ H Q I h;rw [hs];show wpAny _ _ (spliced ((false,eval e X.env) :: backTo pos (starEach es X.env))) _ _ s;refine Calls.spliced_cons (thn (ha pins s σ H _ I h) fun u s1 h9=>?_);obtain ⟨x,H1,I1,r1,q1⟩:=h9;exact thn (hr pos pins s1 σ H1 _ I1 q1) fun us s2 h9=>by obtain ⟨xs,H2,I2,r2,q2⟩:=h9;exact ⟨x :: xs,H2,I2,.cons r1 r2,q2⟩
def tTup (t:TA):TE:=fun σ H Q=>t σ H fun xs H1=>xs.length<=sizeLine/\∀ p,H1 p=none->Q (.ref p) (upd H1 p (.tup xs))
def tLst (t:TA):TE:=fun σ H Q=>t σ H fun xs H1=>xs.length<=sizeLine/\∀ p,H1 p=none->Q (.ref p) (upd H1 p (.lst xs))
theorem J4k {x1} (h:PA X es t):PE X (.Tuple es x1 pos) (tTup t):=by
 intro pins s σ H Q I hq;refine wpAny_Tuple_spliced (thn (h pos pins s σ H _ I hq) fun us s1 h9=>?_);obtain ⟨xs,H1,I1,r,z,q⟩:=h9;refine ⟨by rw [<- r.length];exact z,?_⟩;have hf:H1 s1.heap.objs.size=none:=I1.hok.fresh (Nat.le_refl _);refine ⟨.ref s1.heap.objs.size,upd H1 s1.heap.objs.size (.tup xs),I1.laid (t':=s1.toks) (fun b u e=>get?_push_of_some _ e) (Nat.le_refl _) ?_,rfl,q _ hf⟩;exact ⟨z,us,r,⟨_,get?_push_size _ rfl,⟨rfl,rfl⟩,_,rfl⟩⟩
theorem J2p (h:PA X es t):PE X (.List es pos) (tLst t):=by
 intro pins s σ H Q I hq;refine wpAny_List_spliced (thn (h pos pins s σ H _ I hq) fun us s1 h9=>?_);obtain ⟨xs,H1,I1,r,z,q⟩:=h9;refine ⟨by rw [<- r.length];exact z,?_⟩;have hf:H1 s1.heap.objs.size=none:=I1.hok.fresh (Nat.le_refl _);refine ⟨.ref s1.heap.objs.size,upd H1 s1.heap.objs.size (.lst xs),I1.laid (t':=s1.toks) (fun b u e=>get?_push_of_some _ e) (Nat.le_refl _) ?_,rfl,q _ hf⟩;exact ⟨z,us,0,r,get?_push_size _ rfl⟩
end
abbrev Sp:=List V->Hp->VK->XK->Prop
abbrev CXT:=List Env->Hp->Shared->XK->Value->Shared->Prop
structure Env0 (P:Program) (w:World) (K:Frag) (mg:Str->Option Value) (base:Heap) (A:Around) (outer:List Env) (s:Shared) (H:Hp):Prop where
 frames:A.frames=some outer
 mod:Mod K mg base
 bs:∀ b o,base.get? b=some o->s.heap.get? b=some o/\H b=none
 bsz:base.objs.size<=s.heap.objs.size
 funs:s.heap.FunFrames base outer
 frf:∀ b∈frs outer,H b=none
 hok:HOk P w H s.heap
 bare:AllBare s.gens
def CE (outer:List Env) (P:Program) (w:World) (H:Hp) (s:Shared) (Q:VK) (u:Value) (s':Shared):Prop :=
 ∃ v H',s'.os=s.os/\AllBare s'.gens/\Un (frs outer) [] H H' s.heap s'.heap/\HOk P w H' s'.heap/\RelV v u/\Q v H'
def CR (CX:CXT) (outer:List Env) (P:Program) (w:World) (H:Hp) (s:Shared) (Q:VK) (E:XK) (r:Result) (s':Shared):Prop :=
 match r with
 | .ok (.ret u)=>CE outer P w H s Q u s'
 | .ok _=>False
 | .error e=>CX outer H s E e s'
structure FnOk (P:Program) (w:World) (K:Frag) (mg:Str->Option Value) (base:Heap) (CX:CXT) (k:Nat) (f:Addr) (fd:FuncData) (ps:List Str) (sp:Sp):Prop where
 len:∀ vs H Q E,sp vs H Q E->vs.length=ps.length
 run:∀ (A:Around) (outer:List Env) (s:Shared) (H:Hp) (args:Args) (us:List Value) (vs:List V) (Q:VK) (E:XK),Room k A->Env0 P w K mg base A outer s H->BindsTo s fd args (ps.zip us)->Vals vs us->sp vs H Q E->
  codeAny (model P w) A (.call (.ref f) args) (CR CX outer P w H s Q E) s
theorem Env0.make {P:Program} {w:World} {K:Frag} {mg:Str->Option Value} {base:Heap} {A:Around} {outer:List Env} {s:Shared} {H:Hp} (e:Env0 P w K mg base A outer s H) (C:Addr) (us:List Value) (kw:List (Str × Value)) :
  Env0 P w K mg base (A.under (.builtin "type.__call__" ⟨.ref C :: us,kw⟩)) outer s H:=⟨by first | exact e.frames | (simpa [Around.under,Code.envs,Code.isFrame,pushEnvs] using e.frames),e.mod,e.bs,e.bsz,e.funs,e.frf,e.hok,e.bare⟩
theorem Env0.in1 {P:Program} {w:World} {K:Frag} {mg:Str->Option Value} {base:Heap} {A:Around} {outer:List Env} {s:Shared} {H:Hp} (e:Env0 P w K mg base A outer s H) :
  Env0 P w K mg base A.in1 outer s H:=⟨e.frames,e.mod,e.bs,e.bsz,e.funs,e.frf,e.hok,e.bare⟩
section
variable {X:Cx} {pins:List (Addr × Obj)} {σ:St} {H:Hp} {s s':Shared}
theorem Inv.env0 (I:Inv X pins σ H s):Env0 X.prog X.w X.K X.mg X.base X.A X.stack s H :=
 ⟨I.ok.frames,I.ok.mod,I.bs,Nat.le_trans I.ok.bsz I.sz,I.stack,I.stkFree,I.hok,I.bare⟩
theorem Inv.after {Q:VK} {u:Value} (I:Inv X pins σ H s) (h:CE X.stack X.prog X.w H s Q u s'):EP X pins σ Q u s':=by
 obtain ⟨v,H',os,bare,un,hok,r,q⟩:=h;obtain ⟨hh,g,d,t,os'⟩:=s';obtain rfl:os'=s.os:=os;exact ⟨v,H',I.call (h':=hh) (g':=g) (d':=d) (t':=t) (ch:=[]) un hok bare (fun b z=>absurd z (by simp)),r,q⟩
end
def tCall (sp:Sp) (dvs:List V) (E:XK) (t:TA):TE:=fun σ H Q=>t σ H fun vs H1=>sp (vs ++ dvs) H1 Q E
def tMake (C:Addr) (sp:Sp) (dvs:List V) (E:XK) (t:TA):TE:=fun σ H Q=>t σ H fun vs H1=>∀ x dx,H1 x=none->H1 dx=none->dx≠x->
 sp (.ref x :: (vs ++ dvs)) (upd (upd H1 dx (.own x)) x (.ins C dx [])) (fun v H2=>v=.non/\Q (.ref x) H2) E
def Binds (K:Frag) (fd:FuncData) (ps:List Str) (ds:List Value):Prop :=
 ∀ (s:Shared) (us:List Value),K.In s.heap->(us ++ ds).length=ps.length->BindsTo s fd ⟨us,[]⟩ (ps.zip (us ++ ds))
theorem Binds.all {K:Frag} {fd:FuncData} {ps:List Str} (h:∀ us:List Value,us.length=ps.length->bindArgs fd ⟨us,[]⟩=pure (ps.zip us)):Binds K fd ps []:=fun s us _ hl=>by
 rw [append_nil] at hl ⊢;exact .of_eq (h us hl)
def J3r (CX:CXT) (X:Cx) (E:XK):Prop:=∀ (pins:List (Addr × Obj)) (σ:St) (H:Hp) (s:Shared) (e:Value) (s':Shared),Inv X pins σ H s->CX X.stack H s E e s'->X.xe e s'
section
variable {X:Cx} {CX:CXT} {k:Nat} {f C:Addr} {fd:FuncData} {ps:List Str} {sp:Sp} {dvs:List V} {ds:List Value} {E:XK} {x m:Str} {p pos apos:Pos} {e o:Expr} {es:List Expr} {ta:TE} {t:TA}
theorem run_fn {pins:List (Addr × Obj)} {σ:St} {H:Hp} {s:Shared} {Q:VK} {us:List Value} {vs:List V} (F:FnOk X.prog X.w X.K X.mg X.base CX k f fd ps sp) (hr:Room k X.A) (hb:Binds X.K fd ps ds) (hd:Vals dvs ds) (hx:J3r CX X E)
  (I:Inv X pins σ H s) (r:Vals vs us) (h:sp (vs ++ dvs) H Q E):wpAny (model X.prog X.w) X.A (call (.ref f) us) (EP X pins σ Q) X.xe s:=by
 have r2:Vals (vs ++ dvs) (us ++ ds):=r.append hd;have hl:(us ++ ds).length=ps.length:=by rw [<- r2.length];exact F.len _ _ _ _ h
 refine wpAny_call (codeAny_mono (F.run X.A X.stack s H ⟨us,[]⟩ (us ++ ds) (vs ++ dvs) Q E hr I.env0 (hb s us I.kIn hl) r2 h) fun r s' hq=>?_)
 cases r with
 | error e=>exact hx pins σ H s e s' I hq
 | ok fl =>
  cases fl with
  | ret u=>exact I.after hq
  | next=>exact False.elim hq
  | brk=>exact False.elim hq
  | cont=>exact False.elim hq
theorem Jb (F:FnOk X.prog X.w X.K X.mg X.base CX k f fd ps sp) (hr:Room k X.A) (hg:Gl X x) (hm:X.mg x=some (.ref f)) (hk:keepIn X.K (.ref f)=true) (hb:Binds X.K fd ps ds) (hd:Vals dvs ds) (hx:J3r CX X E)
  (ha:PA X (e :: es) t) (hdb:(x == ("__debug__":Str))=false:=by decide) (he:starEach (e :: es) X.env=(false,eval e X.env) :: starEach es X.env:=by rfl) (hpl:(backTo pos (starEach es X.env)).any (·.1)=false:=by rfl) :
  PE X (.Call (.Name x p) (e :: es) [] pos) (tCall sp dvs E t):=by
 intro pins s σ H Q I h;refine wpAny_Call_Name_kw (J5h I hg hm ?_ hdb);refine callWith_K (h₀:=X.base) I.ok.mod.kin hk (thn (ha pos pins s σ H _ I h) fun us s1 h9=>?_) he hpl;obtain ⟨vs,H1,I1,r,q⟩:=h9;refine ⟨I1.kIn,?_⟩;exact run_fn F hr hb hd hx I1 r q
structure Mk (K:Frag) (C f:Addr):Prop where
 makes:makesIn K C=true
 init:findIn K (.ref C) "__init__"=some (some (.ref f))
 fn:isFn K (.ref f)=true
 kp:keepIn K (.ref C)=true
theorem run_make {pins:List (Addr × Obj)} {σ:St} {H:Hp} {s:Shared} {Q:VK} {us:List Value} {vs:List V} (M:Mk X.K C f) (F:FnOk X.prog X.w X.K X.mg X.base CX k f fd ps sp) (hr:Room (k + 1) X.A) (hb:Binds X.K fd ps ds) (hd:Vals dvs ds)
  (hx:J3r CX X E) (I:Inv X pins σ H s) (r:Vals vs us)
  (h:∀ x dx,H x=none->H dx=none->dx≠x->sp (.ref x :: (vs ++ dvs)) (upd (upd H dx (.own x)) x (.ins C dx [])) (fun v H2=>v=.non/\Q (.ref x) H2) E) :
  wpAny (model X.prog X.w) X.A (call (.ref C) us) (EP X pins σ Q) X.xe s:=by
 have hq:=h (s.heap.objs.size + 1) s.heap.objs.size (I.hok.fresh (Nat.le_succ _)) (I.hok.fresh (Nat.le_refl _)) (Nat.ne_of_lt (Nat.lt_succ_self _));have I2:=Inv.made (C:=C) I;have r2:Vals (V.ref (s.heap.objs.size + 1) :: (vs ++ dvs)) (Value.ref (s.heap.objs.size + 1) :: (us ++ ds)):=.cons rfl (r.append hd);have hl:(Value.ref (s.heap.objs.size + 1) :: us ++ ds).length=ps.length:=by
  have e:=r2.length;rw [F.len _ _ _ _ hq] at e;exact e.symm
 refine wpAny_call (make_map (f:=f) I.kIn M.makes M.init (beq_iff_eq.mp M.fn) (codeAny_mono (F.run _ X.stack _ _ ⟨Value.ref (s.heap.objs.size + 1) :: us,[]⟩ (Value.ref (s.heap.objs.size + 1) :: (us ++ ds)) _ _ E (hr.make C us [])
  (I2.env0.make C us []) (hb _ (Value.ref (s.heap.objs.size + 1) :: us) I2.kIn hl) r2 hq) fun r s' hq'=>?_))
 cases r with
 | error e=>exact hx pins σ _ _ e s' I2 hq'
 | ok fl =>
  cases fl with
  | ret u =>
   obtain ⟨v,H',I3,rv,ev,q3⟩:=I2.after hq';subst ev;exact ⟨rv,⟨V.ref (s.heap.objs.size + 1),H',I3,rfl,q3⟩⟩
  | next=>exact False.elim hq'
  | brk=>exact False.elim hq'
  | cont=>exact False.elim hq'
theorem J1b (M:Mk X.K C f) (F:FnOk X.prog X.w X.K X.mg X.base CX k f fd ps sp) (hr:Room (k + 1) X.A) (hg:Gl X x) (hm:X.mg x=some (.ref C)) (hb:Binds X.K fd ps ds) (hd:Vals dvs ds) (hx:J3r CX X E)
  (ha:PA X (e :: es) t) (hdb:(x == ("__debug__":Str))=false:=by decide) (he:starEach (e :: es) X.env=(false,eval e X.env) :: starEach es X.env:=by rfl) (hpl:(backTo pos (starEach es X.env)).any (·.1)=false:=by rfl) :
  PE X (.Call (.Name x p) (e :: es) [] pos) (tMake C sp dvs E t):=by
 intro pins s σ H Q I h;refine wpAny_Call_Name_kw (J5h I hg hm ?_ hdb);refine callWith_K (h₀:=X.base) I.ok.mod.kin M.kp (thn (ha pos pins s σ H _ I h) fun us s1 h9=>?_) he hpl;obtain ⟨vs,H1,I1,r,q⟩:=h9;refine ⟨I1.kIn,?_⟩;exact run_make M F hr hb hd hx I1 r q
end
structure FnScope (N P:List Str) (sc:Scope):Prop where
 kind:sc.kind=.function
 co:sc.isCoroutine=false
 gen:sc.isGenerator=false
 nd:N.Nodup
 pre:N.take P.length=P
 par:∀ x∈P,sc.names.lookup x=some .local\/sc.names.lookup x=some .cell
 nofree:∀ y∈sc.names,y.2≠.free
theorem fS {N P:List Str} {sc:Scope} (a:sc.kind=.function:=by rfl) (b:sc.isCoroutine=false:=by rfl) (c:sc.isGenerator=false:=by rfl) (d:N.Nodup:=by decide +kernel) (e:N.take P.length=P:=by rfl) (f:∀ x∈P,sc.names.lookup x=some .local\/sc.names.lookup x=some .cell:=by decide +kernel) (g:∀ y∈sc.names,y.2≠.free:=by decide +kernel) : FnScope N P sc:=⟨a,b,c,d,e,f,g⟩
theorem bindL_out {kindOf:Str->Option NameKind} {x:Str}:∀ {binds:List (Str × Value)} {m:Str->Option Value},(∀ v,(x,v) ∉ binds)->bindL kindOf binds m x=m x
 | [],_,_=>rfl
 | (n,v) :: r,m,h=>by
  unfold bindL;rw [bindL_out fun w hw=>h w (mem_cons_of_mem _ hw)];split
  ·have:x≠n:=by rintro rfl;exact h v mem_cons_self
   simp [this]
  ·rfl
theorem bindC_out {kindOf:Str->Option NameKind} {x:Str}:∀ {binds:List (Str × Value)} {m:Str->Option Value},(∀ v,(x,v) ∉ binds)->bindC kindOf binds m x=m x
 | [],_,_=>rfl
 | (n,v) :: r,m,h=>by
  unfold bindC;rw [bindC_out fun w hw=>h w (mem_cons_of_mem _ hw)];split
  ·rfl
  ·have:x≠n:=by rintro rfl;exact h v mem_cons_self
   simp [this]
theorem bindL_get {kindOf:Str->Option NameKind} {x:Str} {v:Value}:∀ {P:List Str} {vs:List Value} {i:Nat} {m:Str->Option Value},P.Nodup->P[i]?=some x->vs[i]?=some v->kindOf x=some .local->
  bindL kindOf (P.zip vs) m x=some v
 | [],_,_,_,_,h,_,_=>by simp at h
 | _ :: _,[],_,_,_,_,h,_=>by simp at h
 | p :: P,w :: vs,0,m,nd,h1,h2,hk=>by
  simp at h1 h2;subst h1;subst h2;show bindL kindOf ((p,w) :: P.zip vs) m p=_;unfold bindL;rw [bindL_out fun v hv=>(nodup_cons.mp nd).1 (of_mem_zip hv).1,if_pos hk];simp
 | p :: P,w :: vs,i + 1,m,nd,h1,h2,hk=>by
  show bindL kindOf ((p,w) :: P.zip vs) m x=_;unfold bindL;exact bindL_get (i:=i) (nodup_cons.mp nd).2 (by simpa using h1) (by simpa using h2) hk
theorem bindC_get {kindOf:Str->Option NameKind} {x:Str} {v:Value}:∀ {P:List Str} {vs:List Value} {i:Nat} {m:Str->Option Value},P.Nodup->P[i]?=some x->vs[i]?=some v->kindOf x≠some .local->
  bindC kindOf (P.zip vs) m x=some v
 | [],_,_,_,_,h,_,_=>by simp at h
 | _ :: _,[],_,_,_,_,h,_=>by simp at h
 | p :: P,w :: vs,0,m,nd,h1,h2,hk=>by
  simp at h1 h2;subst h1;subst h2;show bindC kindOf ((p,w) :: P.zip vs) m p=_;unfold bindC;rw [bindC_out fun v hv=>(nodup_cons.mp nd).1 (of_mem_zip hv).1,if_neg hk];simp
 | p :: P,w :: vs,i + 1,m,nd,h1,h2,hk=>by
  show bindC kindOf ((p,w) :: P.zip vs) m x=_;unfold bindC;exact bindC_get (i:=i) (nodup_cons.mp nd).2 (by simpa using h1) (by simpa using h2) hk
def start (N:List Str) (vs:List V):St:=vs.map some ++ List.replicate (N.length - vs.length) none
def cxOf (CX:CXT) (P:Program) (w:World) (K:Frag) (mg:Str->Option Value) (base:Heap) (N:List Str) (qual:Str) (scope:Scope) (f:Addr) (cd:Value) (A:Around) (outer:List Env) (s:Shared) (H:Hp) (E:XK):Cx where
 prog:=P
 w:=w
 K:=K
 mg:=mg
 base:=base
 A:=A.deeper (envOfC qual scope s.heap.objs.size f cd)
 N:=N
 s₀:=s
 H₀:=H
 env:=envOfC qual scope s.heap.objs.size f cd
 outer:=outer
 stack:=envOfC qual scope s.heap.objs.size f cd :: outer
 ex:=[]
 calm:=true
 fn:=fun _=>true
 pn:=[]
 xe:=fun e s'=>wpAny (model P w) (A.deeper (envOfC qual scope s.heap.objs.size f cd)) (leaving (envOfC qual scope s.heap.objs.size f cd) e) (fun _ s''=>CX outer H s E e s'') (fun e' s''=>CX outer H s E e' s'') s'
theorem cell_has {sc:Scope} {n:Nat} {x:Str} (h:sc.names.lookup x=some .cell):∃ c,(cellsFrom n sc.names []).lookup x=some c:=by
 have q:=PySem.W.cellsFrom_some sc.names n [] (.inl h);exact Option.isSome_iff_exists.mp q
theorem inv_start {CX:CXT} {P:Program} {w:World} {K:Frag} {mg:Str->Option Value} {base:Heap} {N ps:List Str} {qual:Str} {scope:Scope} {f:Addr} {cd:Value} {A:Around} {outer:List Env} {s s1:Shared} {H:Hp} {E:XK} {us:List Value} {vs:List V}
  (S:FnScope N ps scope) (hd:A.handled=none) (e0:Env0 P w K mg base A outer s H) (hl:vs.length=ps.length) (r:Vals vs us)
  (x:InCallC s s.heap.objs.size (bindL (envOfC qual scope s.heap.objs.size f cd).kindOf (ps.zip us) fun _=>none) (cellsFrom (s.heap.objs.size + 1) scope.names []) (bindC (envOfC qual scope s.heap.objs.size f cd).kindOf (ps.zip us) fun _=>none) s1) :
  Inv (cxOf CX P w K mg base N qual scope f cd A outer s H E) [] (start N vs) H s1:=by
 have hpl:ps.length<=N.length:=by have:=congrArg List.length S.pre;rw [length_take] at this;omega
 obtain ⟨h1,tk,rfl,hk⟩:=x.done;have noA:∀ b:Addr,b ∉ (cxOf CX P w K mg base N qual scope f cd A outer s H E).ex:=fun b z=>absurd (show b∈([]:List Addr) from z) (by simp);refine ⟨⟨e0.mod,S.kind,rfl,rfl,Nat.le_refl _,fun y z c h1 h2=>?_,fun y hy=>?_,fun y c _ h=>?_,fun _=>hd,Around.frames_deeper e0.frames,.inr ⟨rfl,rfl⟩,fun b z=>absurd z (noA b),e0.bs,e0.bsz,fun b _ _=>noA b,fun b z=>absurd z (noA b),e0.funs,e0.frf⟩,
  rfl,e0.bare,Un.kept hk,⟨_,x.toInCall.ns,fun i y v h1 h2 h3=>?_⟩,fun y c h=>⟨_,x.cell y c h⟩,e0.hok.fresh (Nat.le_refl _),fun y c h=>?_,fun p hp=>absurd (show p∈([]:List (Addr × Obj)) from hp) (by simp),e0.hok.kept hk,?_⟩
 ·exact name_of_addr x.apart (mem_of_lookup h1) (mem_of_lookup h2)
 ·have hy:scope.names.lookup y=some .cell\/scope.names.lookup y=some .free:=hy;rcases hy with hy | hy
  ·exact cell_has hy
  ·exact absurd rfl (S.nofree _ (mem_of_lookup hy))
 ·exact Nat.le_of_lt (x.above y c (mem_of_lookup h))
 ·have hi:i < vs.length:=by
   unfold start at h2;by_cases hi:i < vs.length
   ·exact hi
   ·rw [getElem?_append_right (by simpa using hi)] at h2;rw [List.getElem?_replicate] at h2;split at h2 <;> cases h2
  have ha:vs[i]?=some v:=by
   unfold start at h2;rw [getElem?_append_left (by simpa using hi),getElem?_map] at h2
   cases e:vs[i]? with
   | none=>rw [e] at h2;cases h2
   | some a=>rw [e] at h2;cases h2;rfl
  obtain ⟨u,hu,rv⟩:=r.get ha;have hp:ps[i]?=some y:=by
   rw [<- S.pre,List.getElem?_take_of_lt (by omega)];exact h1
  have ndP:ps.Nodup:=by rw [<- S.pre];exact S.nd.sublist (List.take_sublist _ _)
  refine ⟨u,rv,?_⟩;rcases S.par y (mem_of_getElem? hp) with k | k
  ·exact .inl ⟨k,bindL_get ndP hp hu k⟩
  ·obtain ⟨c,e⟩:=cell_has (n:=s.heap.objs.size + 1) k;refine .inr ⟨.inl k,c,e,?_⟩;have q:=x.cell y c e;rw [bindC_get ndP hp hu (by show scope.names.lookup y≠_;rw [k];decide)] at q;exact q
 ·exact e0.hok.fresh (Nat.le_of_lt (x.above y c (mem_of_lookup h)))
 ·unfold start;show _=N.length;rw [length_append,length_map,List.length_replicate];omega
theorem fn_of {CX:CXT} {P:Program} {w:World} {K:Frag} {mg:Str->Option Value} {base:Heap} {k:Nat} {f:Addr} {name qual:Str} {params:Arguments} {body:List Stmt} {scope:Scope} {dV kV doc pm cdv ct oc:Value} {an od:Option Addr}
  {osl:Array (Option Value)} {N ps:List Str} {sp:Sp} (lk:K.lookup f=some ⟨oc,od,.func (fnOf name qual params body scope dV kV doc pm an cdv ct),osl⟩) (hcd:codeIn K cdv qual=true) (S:FnScope N ps scope)
  (len:∀ vs H Q E,sp vs H Q E->vs.length=ps.length)
  (hbody:∀ (A:Around) (outer:List Env) (s:Shared) (H:Hp) (vs:List V) (Q:VK) (E:XK),Room k (A.deeper (envOfC qual scope s.heap.objs.size f cdv))->sp vs H Q E->
   ∃ t,PSs (cxOf CX P w K mg base N qual scope f cdv A outer s H E) body t/\t { nx:=fun _ H'=>Q .non H',rt:=Q } (start N vs) H) :
  FnOk P w K mg base CX (k + 1) f (fnOf name qual params body scope dV kV doc pm an cdv ct) ps sp:=by
 refine ⟨len,fun A outer s H args us vs Q E hr e0 hb r hsp=>?_⟩;have hl:=len _ _ _ _ hsp;have KX:K.In s.heap:=e0.mod.kin.keeps fun b o e=>(e0.bs b o e).1;have lim:s.heap.NoLimit:=e0.mod.nolimit.keeps fun b o e=>(e0.bs b o e).1;have hkind:∀ y∈ps.zip us,scope.names.lookup y.1=some .local\/(scope.names.lookup y.1=some .cell/\((cellsFrom (s.heap.objs.size + 1) scope.names []).lookup y.1).isSome=true):=fun h9 hy=>by
  obtain ⟨n,v⟩:=h9;rcases S.par n (of_mem_zip hy).1 with q | q
  ·exact .inl q
  ·exact .inr ⟨q,PySem.W.cellsFrom_some _ _ _ (.inl q)⟩
 refine codeAny_call_function hr.depth (KX _ _ lk) rfl S.co S.gen rfl (PySem.W.codeRec_of KX hcd) (hb _ _ _ _ ?_);refine wpAny_newFunctionEnv_cells S.kind hkind fun env he s1 x=>?_;subst he;refine ⟨lim.keeps x.toInCall.keep,codeAny_func ?_⟩;obtain ⟨t,ht,hq⟩:=hbody A outer s H vs Q E (hr.deeper _) hsp;have I:Inv (cxOf CX P w K mg base N qual scope f cdv A outer s H E) [] (start N vs) H s1:=inv_start S hr.hd e0 hl r x;refine wpAny_mono (ht [] s1 (start N vs) H _ I hq) (fun fl s' hs=>?_) fun e s' hs=>hs;have fin:∀ {σ':St} {H':Hp} {v:V} {u:Value},Inv (cxOf CX P w K mg base N qual scope f cdv A outer s H E) [] σ' H' s'->RelV v u->Q v H'->CE outer P w H s Q u s' :=
  fun {σ' H' v u} J rv q=>⟨v,H',J.os,J.bare,J.base,J.hok,rv,q⟩
 cases fl with
 | ret u =>
  obtain ⟨v,σ',H',J,rv,q⟩:=hs;exact fin J rv q
 | next =>
  obtain ⟨σ',H',J,q⟩:=hs;exact fin (v:=V.non) (u:=Value.none) J rfl q
 | brk =>
  obtain ⟨_,_,_,q⟩:=hs;exact False.elim q
 | cont =>
  obtain ⟨_,_,_,q⟩:=hs;exact False.elim q
end L2
namespace L2
open PySem PySem.Spec PyProof.Rows
section
variable {X:Cx} {x:Str} {p pos:Pos} {e:Expr} {es:List Expr} {t:TA} {id T:String} {r:List V->Hp->VK->Prop}
def tCB (r:List V->Hp->VK->Prop) (t:TA):TE:=fun σ H Q=>t σ H fun vs H1=>r vs H1 Q
theorem Jh (hc:CallR X (.builtin id) r) (hg:Gl X x) (hm:X.mg x=none) (hv:bootBuiltins x=some (.builtin id)) (ha:PA X (e :: es) t) (hn:x≠"__name__":=by decide) (hdb:(x == ("__debug__":Str))=false:=by decide)
  (he:starEach (e :: es) X.env=(false,eval e X.env) :: starEach es X.env:=by rfl) (hpl:(backTo pos (starEach es X.env)).any (·.1)=false:=by rfl):PE X (.Call (.Name x p) (e :: es) [] pos) (tCB r t):=by
 intro pins s σ H Q I h;refine wpAny_Call_Name_kw (J5i I hg hm hv ?_ hn hdb);exact callWith_builtin1 (thn (ha pos pins s σ H _ I h) fun us s1 h9=>by obtain ⟨vs,H1,I1,r1,q1⟩:=h9;exact hc pins s1 σ H1 vs us Q I1 r1 q1) he hpl
theorem Jd (hc:CallR X (.type T) r) (hg:Gl X x) (hm:X.mg x=none) (hv:bootBuiltins x=some (.type T)) (ha:PA X (e :: es) t) (hn:x≠"__name__":=by decide) (hdb:(x == ("__debug__":Str))=false:=by decide)
  (he:starEach (e :: es) X.env=(false,eval e X.env) :: starEach es X.env:=by rfl) (hpl:(backTo pos (starEach es X.env)).any (·.1)=false:=by rfl):PE X (.Call (.Name x p) (e :: es) [] pos) (tCB r t):=by
 intro pins s σ H Q I h;refine wpAny_Call_Name_kw (J5i I hg hm hv ?_ hn hdb);exact callWith_type1 (thn (ha pos pins s σ H _ I h) fun us s1 h9=>by obtain ⟨vs,H1,I1,r1,q1⟩:=h9;exact hc pins s1 σ H1 vs us Q I1 r1 q1) he hpl
end
end L2
namespace HT
open PySem PyProof.Rows
section
variable {prog:Program} {w:World} {A:Around} {E:Value->Shared->Prop} {s:Shared}
def sIx (n d:Nat):Option Int->Nat
 | none=>d
 | some v=>if v < 0 then (v + (n:Int)).toNat else min v.toNat n
theorem sIx_none (n d:Nat):sIx n d none=d:=rfl
theorem sIx_nat (n d k:Nat):sIx n d (some (k:Int))=min k n:=by
 show (if (k:Int) < 0 then ((k:Int) + (n:Int)).toNat else min (k:Int).toNat n)=min k n;rw [if_neg (by omega),Int.toNat_natCast]
theorem sIx_le (n d:Nat) (hd:d<=n) (o:Option Int):sIx n d o<=n:=by
 cases o with
 | none=>exact hd
 | some v =>
  show (if v < 0 then (v + (n:Int)).toNat else min v.toNat n)<=n;by_cases hv:v < 0
  ·rw [if_pos hv];omega
  ·rw [if_neg hv];exact Nat.min_le_right _ _
theorem clip_eq (v:Int) (n d:Nat):(if v < 0 then max (v + (n:Int)) 0 else min v (n:Int))=((sIx n d (some v):Nat):Int):=by
 show (if v < 0 then max (v + (n:Int)) 0 else min v (n:Int))=(((if v < 0 then (v + (n:Int)).toNat else min v.toNat n):Nat):Int);by_cases hv:v < 0
 ·simp only [if_pos hv];omega
 ·simp only [if_neg hv];omega
theorem adjust_gen (lo hi:Option Int) (n:Nat):Builtin.Slice.sliceAdjust lo hi 1 (n:Int)=(((sIx n 0 lo:Nat):Int),((sIx n n hi:Nat):Int)):=by
 have h1:¬ ((1:Int) < 0):=by omega
 unfold Builtin.Slice.sliceAdjust;simp only [h1,if_false];refine Prod.ext ?_ ?_
 ·cases lo with
  | none=>rfl
  | some v=>exact clip_eq v n 0
 ·cases hi with
  | none=>rfl
  | some v=>exact clip_eq v n n
theorem places_gen (i j:Nat):Builtin.Slice.slicePlaces (i:Int) (j:Int) 1=j - i:=by
 unfold Builtin.Slice.slicePlaces;have h1:(1:Int) > 0:=by omega
 simp only [h1,if_true,Int.ediv_one];split <;> omega
theorem J58 {v:Value} {o:Option Int} {Q:Option Int->Shared->Prop} (p:IsPart v o) (h:Q o s):wpAny (model prog w) A (Builtin.Slice.slicePartIndex v) Q E s:=by
 cases p with
 | none=>exact slicePart_none h
 | int i t=>exact slicePart_int h
theorem J3c {sl:Addr} {vl vu:Value} {lo hi:Option Int} {n:Nat} {Q:Int × Int × Nat->Shared->Prop} (hs:s.heap.IsSliceOf sl vl vu .none) (pl:IsPart vl lo) (pu:IsPart vu hi)
  (h:Q (((sIx n 0 lo:Nat):Int),1,sIx n n hi - sIx n 0 lo) s):wpAny (model prog w) A (Builtin.Slice.sliceApplied (.ref sl) (pure (n:Int))) Q E s:=by
 obtain ⟨os,hos,hcs,hds⟩:=id hs;unfold Builtin.Slice.sliceApplied Builtin.Slice.sliceFields;refine wpAny_bind (wpAny_bind (wpAny_field hos hds (x:=vl) rfl (wpAny_bind (wpAny_field hos hds (x:=vu) rfl (wpAny_bind (wpAny_field hos hds (x:=.none) rfl (wpAny_pure ?_)))))));refine wpAny_bind (slicePart_none ?_);show wpAny _ _ (if ((1:Int) == 0)=true then _ else _) _ _ s;rw [if_neg (by decide)];refine wpAny_bind (J58 pl (wpAny_bind (J58 pu (wpAny_bind (wpAny_pure ?_)))));show wpAny _ _ (match Builtin.Slice.sliceAdjust lo hi 1 (n:Int) with | (lo,hi)=>pure (lo,(1:Int),Builtin.Slice.slicePlaces lo hi 1)) _ _ s;rw [adjust_gen lo hi n];show wpAny _ _ (pure (((sIx n 0 lo:Nat):Int),(1:Int),Builtin.Slice.slicePlaces ((sIx n 0 lo:Nat):Int) ((sIx n n hi:Nat):Int) 1)) _ _ s;rw [places_gen];exact wpAny_pure h
theorem pick_gen (xs:Array Value) (i k:Nat):((List.range k).filterMap fun (m:Nat)=>xs[((i:Int) + (m:Int) * 1).toNat]?).toArray=((xs.toList.drop i).take k).toArray:=by
 have e:(fun (m:Nat)=>xs[((i:Int) + (m:Int) * 1).toNat]?)=fun m=>xs[i + m]?:=by
  funext m
  have:((i:Int) + (m:Int) * 1).toNat=i + m:=by omega
  rw [this]
 rw [e];have:=pick_run xs i k;rw [List.filterMap_map] at this;have e2:((fun x=>xs[x]?) ∘ fun x=>i + x)=fun m=>xs[i + m]?:=rfl;rw [e2] at this;rw [this]
theorem getItem_tuple_cut {t sl:Addr} {items:Array Value} {vl vu:Value} {lo hi:Option Int} {Q:Value->Shared->Prop} (ht:IsTup s.heap t items) (hs:s.heap.IsSliceOf sl vl vu .none) (pl:IsPart vl lo) (pu:IsPart vu hi)
  (hw:¬ (sIx items.size 0 lo=0/\sIx items.size items.size hi=items.size))
  (h:Q (.ref s.heap.objs.size) { s with heap:=s.heap.push { cls:=.type "tuple",data:=.seq ((items.toList.drop (sIx items.size 0 lo)).take (sIx items.size items.size hi - sIx items.size 0 lo)).toArray } })
  (hsz:items.size<=sizeLine):wpAny (model prog w) A (getItem (.ref t) (.ref sl)) Q E s:=by
 have htake:sizeOk (.seq ((items.toList.drop (sIx items.size 0 lo)).take (sIx items.size items.size hi - sIx items.size 0 lo)).toArray):=by
  show ((items.toList.drop (sIx items.size 0 lo)).take (sIx items.size items.size hi - sIx items.size 0 lo)).toArray.size<=sizeLine;rw [size_toArray,length_take,length_drop,length_toList];omega
 have hj:sIx items.size items.size hi<=items.size:=sIx_le _ _ (Nat.le_refl _) hi;obtain ⟨os,hos,hcs,hds⟩:=id hs;have hTs:s.TypeIs (.ref sl) "slice":=⟨os,hos,hcs⟩;unfold getItem
 try with_reducible refine wpAny_holding ?_
 first | refine wpAny_bind (wpAny_pure ?_) | skip
 refine wpAny_bind (wpAny_sequenceKey ht.typeIs (by decide) ?_);refine wpAny_bind (wpAny_callSpecial?_slot (name:=Str.ofString "__getitem__") ht.typeIs PyProof.Rows.slot_tuple_getitem
  (wpAny_call_entry PyProof.Rows.slot_tuple_getitem ht.typeIs entry_tuple_getitem ?_ (args_tuple_getitem _ _)))
 show wpAny _ _ (Builtin.Tuple.tupleItemsOf (.ref t) >>= _) _ _ s;refine wpAny_bind (tupleItemsOf_ ht ?_);refine wpAny_bind (wpAny_typeOf hTs ?_);rw [if_pos (by decide)];refine wpAny_bind (J3c hs pl pu ?_);have hno:¬ ((((sIx items.size 0 lo:Nat):Int) == 0 && (1:Int) == 1 && (sIx items.size items.size hi - sIx items.size 0 lo) == items.size)=true):=by
  intro q;rw [Bool.and_eq_true,Bool.and_eq_true] at q;have q1:((sIx items.size 0 lo:Nat):Int)=0:=eq_of_beq q.1.1;have q2:sIx items.size items.size hi - sIx items.size 0 lo=items.size:=eq_of_beq q.2;exact hw ⟨by omega,by omega⟩
 show wpAny _ _ (if (((sIx items.size 0 lo:Nat):Int) == 0 && (1:Int) == 1 && (sIx items.size items.size hi - sIx items.size 0 lo) == items.size)=true then _ else _) _ _ s;rw [if_neg hno,pick_gen]
 first
  | exact wpAny_bind (m:=Builtin.Tuple.tupleExact _) (wpAny_newObj_type (wpAny_pure ⟨_,rfl,wpAny_pure h⟩) htake)
  | exact wpAny_bind (m:=Builtin.Tuple.tupleExact _) (wpAny_newObj_type (wpAny_bind (wpAny_pure (wpAny_pure ⟨_,rfl,wpAny_pure h⟩))) htake)
  | exact wpAny_bind (wpAny_bind (m:=Builtin.Tuple.tupleExact _) (wpAny_newObj_type (wpAny_pure (wpAny_pure ⟨_,rfl,wpAny_pure h⟩)) htake))
  | exact wpAny_bind (wpAny_bind (m:=Builtin.Tuple.tupleExact _) (wpAny_newObj_type (wpAny_pure ⟨_,rfl,wpAny_pure h⟩) htake))
end
end HT
namespace L2
open PySem PySem.Spec PyProof.Rows
abbrev TO:=St->Hp->(Option Int->Hp->Prop)->Prop
def PO (X:Cx) (e:Option Expr) (t:TO):Prop :=
 ∀ (pins:List (Addr × Obj)) (s:Shared) (σ:St) (H:Hp) (Q:Option Int->Hp->Prop),Inv X pins σ H s->t σ H Q->
  wpAny (model X.prog X.w) X.A (evalPart e X.env) (fun u s'=>∃ o H',Inv X pins σ H' s'/\IsPart u o/\Q o H') X.xe s
def tNoPart:TO:=fun _ H Q=>Q none H
def tPart (t:TE):TO:=fun σ H Q=>t σ H fun x H1=>∃ i,x=.int i/\Q (some i) H1
theorem Js {ns:List Int}:∀ {us:List Value},Vals (ns.map V.int) us->IntsAre us ns:=by
 induction ns with
 | nil=>intro us r;rw [List.map_nil] at r;cases r;exact .nil
 | cons n ns ih =>
  intro us r;rw [map_cons] at r
  cases r with
  | cons r1 r2 =>
   obtain ⟨t,e⟩:=r1;subst e;exact .cons n t (ih r2)
section
variable {X:Cx} {e:Expr} {te:TE} {lo hi:Option Expr} {tl th:TO} {pos p2:Pos}
theorem J5b:PO X none tNoPart:=by
 intro pins s σ H Q I h;rw [evalPart_none];exact wpAny_pure ⟨none,H,I,.none,h⟩
theorem J5a (h:PE X e te):PO X (some e) (tPart te):=by
 intro pins s σ H Q I hw;rw [evalPart_some];refine thn (h pins s σ H _ I hw) fun u s1 h9=>?_;obtain ⟨x,H1,I1,r1,q1⟩:=h9;obtain ⟨i,rfl,q⟩:=q1;obtain ⟨t,rfl⟩:=r1;exact ⟨some i,H1,I1,.int i t,q⟩
def SlR (X:Cx) (r:V->Option Int->Option Int->Hp->VK->Prop):Prop :=
 ∀ (pins:List (Addr × Obj)) (s:Shared) (σ:St) (H:Hp) (x:V) (v vl vu:Value) (lo hi:Option Int) (sl:Addr) (Q:VK),Inv X pins σ H s->RelV x v->s.heap.IsSliceOf sl vl vu .none->IsPart vl lo->IsPart vu hi->r x lo hi H Q->
  ∃ T id,typeLookup (.type T) "__getitem__"=pure (some (.builtin id))/\s.TypeIs v T/\wpAny (model X.prog X.w) X.A (getItem v (.ref sl)) (EP X pins σ Q) X.xe s
theorem SlR.or {r r':V->Option Int->Option Int->Hp->VK->Prop} (h:SlR X r) (h':SlR X r'):SlR X (fun x lo hi H Q=>r x lo hi H Q\/r' x lo hi H Q):=by
 intro pins s σ H x v vl vu lo hi sl Q I rx hs pl pu q;rcases q with q | q
 ·exact h pins s σ H x v vl vu lo hi sl Q I rx hs pl pu q
 ·exact h' pins s σ H x v vl vu lo hi sl Q I rx hs pl pu q
def tSl (r:V->Option Int->Option Int->Hp->VK->Prop) (te:TE) (tl th:TO):TE:=fun σ H Q=>te σ H fun x H1=>tl σ H1 fun l H2=>th σ H2 fun u H3=>r x l u H3 Q
theorem J3d {r:V->Option Int->Option Int->Hp->VK->Prop} (hr:SlR X r) (he:PE X e te) (hl:PO X lo tl) (hu:PO X hi th):PE X (.Subscript e (.Slice lo hi none p2) pos) (tSl r te tl th):=by
 intro pins s σ H Q I h;refine Subscript_ (thn (he pins s σ H _ I h) fun v s1 h9=>?_);obtain ⟨x,H1,I1,r1,q1⟩:=h9;refine wpAny_Slice (thn (hl pins s1 σ H1 _ I1 q1) fun vl s2 h9=>?_);obtain ⟨l,H2,I2,pl,q2⟩:=h9;refine thn (hu pins s2 σ H2 _ I2 q2) fun vu s3 h9=>?_;obtain ⟨u,H3,I3,pu,q3⟩:=h9;rw [evalPart_none];refine wpAny_pure ?_;have I4:Inv X pins σ H3 { s3 with heap:=s3.heap.push { cls:=.type "slice",data:=.fields #[vl,vu,.none] } }:=I3.kept (t':=s3.toks) fun b ob q=>get?_push_of_some _ q;obtain ⟨T,id,hT,ht,hg⟩:=hr pins { s3 with heap:=s3.heap.push { cls:=.type "slice",data:=.fields #[vl,vu,.none] } } σ H3 x v vl vu l u s3.heap.objs.size Q I4 r1 (Heap.IsSliceOf.new ..) pl pu q3;show wpAny (model X.prog X.w) X.A (subscriptTail e (.Slice lo hi none p2) v (.ref s3.heap.objs.size)) (EP X pins σ Q) X.xe { s3 with heap:=s3.heap.push { cls:=.type "slice",data:=.fields #[vl,vu,.none] } };exact tail_any (ops:=[.ref s3.heap.objs.size,v]) ht hT hg (by with_unfolding_all rfl)
def cutV (xs:List V) (lo hi:Option Int):List V:=(xs.drop (HT.sIx xs.length 0 lo)).take (HT.sIx xs.length xs.length hi - HT.sIx xs.length 0 lo)
theorem J3z (xs:List V) (lo hi:Option Int):(cutV xs lo hi).length<=xs.length:=by
 unfold cutV;rw [length_take,length_drop];omega
def rSlT (K:Frag):V->Option Int->Option Int->Hp->VK->Prop:=fun x lo hi H Q=>∃ a xs,x=.ref a/\SqT K H a xs/\
 ¬ (HT.sIx xs.length 0 lo=0/\HT.sIx xs.length xs.length hi=xs.length)/\∀ p,H p=none->Q (.ref p) (upd H p (.tup (cutV xs lo hi)))
theorem sl_tup:SlR X (rSlT X.K):=by
 intro pins s σ H x v vl vu lo hi sl Q I rx hs pl pu h;obtain ⟨a,xs,rfl,hx,hw,q⟩:=h;cases rx;obtain ⟨its,r,ht,hz⟩:=I.tuple hx;have hlen:its.toArray.size=xs.length:=by rw [size_toArray];exact r.length.symm
 refine ⟨"tuple",_,PyProof.Rows.slot_tuple_getitem.lookup,ht.typeIs,?_⟩;refine HT.getItem_tuple_cut ht hs pl pu (by rw [hlen];exact hw) ?_ (by rw [hlen];exact hz);rw [hlen];refine ⟨.ref s.heap.objs.size,_,I.laid (t':=s.toks) (o:=.tup (cutV xs lo hi)) (fun b ob q=>get?_push_of_some _ q) (Nat.le_refl _) ?_,rfl,q _ (I.hok.fresh (Nat.le_refl _))⟩;exact ⟨Nat.le_trans (J3z xs lo hi) hz,_,(r.drop (HT.sIx xs.length 0 lo)).take (HT.sIx xs.length xs.length hi - HT.sIx xs.length 0 lo),TupX.new _ _⟩
end
end L2
namespace L2
open PySem PySem.Spec PyProof.Rows
def ixN (n:Nat) (i:Int):Option Nat:=if 0<=i then (if i < n then some i.toNat else none) else if -(n:Int)<=i then some (i + n).toNat else none
def atI {α:Type} (xs:List α) (i:Int):Option α:=(ixN xs.length i).bind fun j=>xs[j]?
theorem ixN_seq {n:Nat} {i:Int} {j:Nat} (h:ixN n i=some j):seqIndex? i n=some j/\j < n/\-(n:Int)<=i/\i < n:=by
 unfold ixN at h;by_cases h0:0<=i
 ·rw [if_pos h0] at h;by_cases h1:i < n
  ·rw [if_pos h1] at h;have e:i.toNat=j:=Option.some.inj h;exact ⟨by rw [seqIndex_of h0 h1,e],by omega,by omega,h1⟩
  ·rw [if_neg h1] at h;cases h
 ·rw [if_neg h0] at h;by_cases h1:-(n:Int)<=i
  ·rw [if_pos h1] at h;have e:(i + n).toNat=j:=Option.some.inj h;exact ⟨by rw [seqIndex_neg (by omega) h1,e],by omega,h1,by omega⟩
  ·rw [if_neg h1] at h;cases h
theorem atI_get {α:Type} {xs:List α} {i:Int} {v:α} (h:atI xs i=some v):∃ j,seqIndex? i xs.length=some j/\xs[j]?=some v/\j < xs.length/\-(xs.length:Int)<=i/\i < xs.length:=by
 unfold atI at h
 cases e:ixN xs.length i with
 | none=>rw [e] at h;cases h
 | some j =>
  rw [e] at h;obtain ⟨h1,h2,h3,h4⟩:=ixN_seq e;exact ⟨j,h1,h,h2,h3,h4⟩
theorem Jl {α:Type} {xs:List α} {j:Nat} {v:α} (h:xs[j]?=some v):atI xs (j:Int)=some v:=by
 have hj:j < xs.length:=(List.getElem?_eq_some_iff.mp h).1;have e:ixN xs.length (j:Int)=some j:=by
  unfold ixN;rw [if_pos (by omega),if_pos (by omega)];simp
 unfold atI;rw [e];exact h
def PlainIx (b:Expr):Prop:=∀ o i,subscripted b false o i=operate [o,i] (getItem o i)
def IxR (X:Cx) (r:R2):Prop :=
 ∀ (value slice:Expr) (pins:List (Addr × Obj)) (s:Shared) (σ:St) (H:Hp) (x y:V) (v u:Value) (Q:VK),Inv X pins σ H s->RelV x v->RelV y u->r x y H Q->
  subscripted slice false v u=operate [v,u] (getItem v u)->wpAny (model X.prog X.w) X.A (subscriptTail value slice v u) (EP X pins σ Q) X.xe s
def MtR (X:Cx) (id:String) (r:V->List V->Hp->VK->Prop):Prop :=
 ∀ (pins:List (Addr × Obj)) (s:Shared) (σ:St) (H:Hp) (x:V) (xs:List V) (v:Value) (us:List Value) (Q:VK),Inv X pins σ H s->RelV x v->Vals xs us->r x xs H Q->
  wpAny (model X.prog X.w) X.A (call (.builtin id) (v :: us)) (EP X pins σ Q) X.xe s
section
variable {X:Cx} {a b:Expr} {ta tb:TE} {pos:Pos}
theorem IxR.or {r r':R2} (h:IxR X r) (h':IxR X r'):IxR X (fun x y H Q=>r x y H Q\/r' x y H Q):=by
 intro value slice pins s σ H x y v u Q I rx ry q hs;rcases q with q | q
 ·exact h value slice pins s σ H x y v u Q I rx ry q hs
 ·exact h' value slice pins s σ H x y v u Q I rx ry q hs
theorem pe_ix {r:R2} (hr:IxR X r) (ha:PE X a ta) (hb:PE X b tb) (hs:PlainIx b):PE X (.Subscript a b pos) (tOp r ta tb):=by
 intro pins s σ H Q I h;exact Subscript_ (binT ha hb I h fun v u s2 x y H2 I2 rx ry q=>hr a b pins s2 σ H2 x y v u Q I2 rx ry q (hs _ _))
def rIxL (K:Frag):R2:=fun x y H Q=>∃ p xs i v,x=.ref p/\y=.int i/\SqL K H p xs/\atI xs i=some v/\Q v H
def rIxT (K:Frag):R2:=fun x y H Q=>∃ p xs i v,x=.ref p/\y=.int i/\SqT K H p xs/\atI xs i=some v/\Q v H
def rIxS:R2:=fun x y H Q=>∃ z i c,x=.str z/\y=.int i/\z.length<=sizeLine/\atI z.cps.toList i=some c/\Q (.str ⟨#[c]⟩) H
theorem ix_list:IxR X (rIxL X.K):=by
 intro value slice pins s σ H x y v u Q I rx ry h hs;obtain ⟨p,xs,i,z,rfl,rfl,hq,he,q⟩:=h;cases rx;obtain ⟨t,rfl⟩:=ry;obtain ⟨its,r,pl,hz⟩:=I.list hq;obtain ⟨j,h1,h2,h3,h4,h5⟩:=atI_get he;obtain ⟨w,ew,rw'⟩:=r.get h2;have hl:=r.length;have hn:=J6a;have fin:EP X pins σ Q w s:=⟨z,H,I,rw',q⟩;by_cases h0:0<=i
 ·have hj:i.toNat=j:=by
   rw [seqIndex_of h0 h5] at h1;exact Option.some.inj h1
  exact item_listR pl.isList h0 (by omega) (by rw [hj];simpa using ew) fin hs
 ·have hj:(i + (its.toArray.size:Int)).toNat=j:=by
   rw [seqIndex_neg (by omega) h4] at h1;rw [size_toArray,<- hl];exact Option.some.inj h1
  exact subscriptTail_builtinR (x:=w) pl.isList.typeIs slot_list_getitem.lookup
   (wpAny_getItem_list_neg (Q:=fun r s'=>r=w/\EP X pins σ Q r s') pl.isList (by omega) (by rw [size_toArray] <;> omega) (by omega) (by rw [hj];simpa using ew) ⟨rfl,fin⟩) hs
theorem ix_tup:IxR X (rIxT X.K):=by
 intro value slice pins s σ H x y v u Q I rx ry h hs;obtain ⟨p,xs,i,z,rfl,rfl,hq,he,q⟩:=h;cases rx;obtain ⟨t,rfl⟩:=ry;obtain ⟨its,r,pl,hz⟩:=I.tuple hq;obtain ⟨j,h1,h2,h3,h4,h5⟩:=atI_get he;obtain ⟨w,ew,rw'⟩:=r.get h2;have hl:=r.length;have hn:=J6a;have fin:EP X pins σ Q w s:=⟨z,H,I,rw',q⟩;exact subscriptTail_builtinR (x:=w) pl.typeIs slot_tuple_getitem.lookup
  (getItem_tuple (j:=j) (Q:=fun r s'=>r=w/\EP X pins σ Q r s') pl (by omega) (by omega) (by rw [size_toArray,<- hl];exact h1) (by simpa using ew) ⟨rfl,fin⟩) hs
theorem ix_str:IxR X rIxS:=by
 intro value slice pins s σ H x y v u Q I rx ry h hs;obtain ⟨z,i,c,rfl,rfl,hz,he,q⟩:=h;obtain ⟨t,rfl⟩:=rx;obtain ⟨t',rfl⟩:=ry;obtain ⟨j,h1,h2,h3,h4,h5⟩:=atI_get he;have hl:z.cps.toList.length=z.length:=by simp [Str.length]
 rw [hl] at h1 h4 h5;have hn:=J6a;exact tail_any (typeIs_str s z t) slot_str_getitem.lookup (getItem_str (c:=c) (by
  have e1:decide (i < -(2 ^ 63:Int))=false:=decide_eq_false (by omega);have e2:decide (i>=2 ^ 63)=false:=decide_eq_false (by omega);rw [e1,e2,Bool.or_false]) (by rw [h1];simpa using h2) ⟨.str ⟨#[c]⟩,H,I.tok _,⟨_,rfl⟩,q⟩) hs
def rIx (K:Frag):R2:=fun x y H Q=>rIxL K x y H Q\/rIxT K x y H Q\/rIxS x y H Q
theorem ix_seq:IxR X (rIx X.K):=ix_list.or (ix_tup.or ix_str)
theorem mapSeq_set (its:List Value) (n j:Nat) (u:Value):Obj.mapSeq (·.setIfInBounds j u) { cls:=.type "list",data:=.seq its.toArray n }={ cls:=.type "list",data:=.seq (its.set j u).toArray n }:=by
 simp [Obj.mapSeq]
theorem Inv.lst {pins:List (Addr × Obj)} {σ:St} {H:Hp} {s:Shared} {p:Addr} {xs:List V} (I:Inv X pins σ H s) (h:H p=some (.lst xs)) :
  ∃ (its:List Value) (n:Nat),Vals xs its/\s.heap.get? p=some { cls:=.type "list",data:=.seq its.toArray n }/\xs.length<=sizeLine:=by
 obtain ⟨z,its,n,r,e⟩:=I.hok p _ h;exact ⟨its,n,r,e,z⟩
theorem Inv.lstUpd {pins:List (Addr × Obj)} {σ:St} {H:Hp} {s:Shared} {p:Addr} {xs ys:List V} {its its':List Value} {n n':Nat} {f:Obj->Obj} (I:Inv X pins σ H s) (h:H p=some (.lst xs))
  (ho:s.heap.get? p=some { cls:=.type "list",data:=.seq its.toArray n }) (hf:f { cls:=.type "list",data:=.seq its.toArray n }={ cls:=.type "list",data:=.seq its'.toArray n' }) (r:Vals ys its') (hz:ys.length<=sizeLine) (t:Nat) :
  Inv X pins σ (upd H p (.lst ys)) { s with heap:=s.heap.update p f,toks:=t }:=by
 have e:(s.heap.update p f).get? p=some { cls:=.type "list",data:=.seq its'.toArray n' }:=by
  rw [get?_update_self f ho (by rw [hf] <;> rfl),hf]
 refine I.write (x:=p) (e:=p) (by rw [h];trivial) (.inl rfl) (fun b u hb q=>(get?_update_other _ _ (Ne.symm hb)).trans q) ⟨_,e⟩ ?_;exact ⟨hz,its',n',r,e⟩
def rSetL:V->V->V->Hp->(Hp->Prop)->Prop:=fun o i v H Q=>∃ p xs k j,o=.ref p/\i=.int k/\H p=some (.lst xs)/\ixN xs.length k=some j/\Q (upd H p (.lst (xs.set j v)))
theorem J5w:PSet X rSetL:=by
 intro pins s σ H o i v ov iv u Q I ro ri rv h;obtain ⟨p,xs,k,j,rfl,rfl,hp,hj,q⟩:=h;cases ro;obtain ⟨t,rfl⟩:=ri;obtain ⟨its,n,r,ho,hz⟩:=I.lst hp;obtain ⟨h1,h2,h3,h4⟩:=ixN_seq hj;have hl:=r.length;have hn:=J6a;have I':Inv X pins σ (upd H p (.lst (xs.set j v))) { s with heap:=s.heap.update p (Obj.mapSeq (·.setIfInBounds j u)) } :=
  I.lstUpd hp ho (mapSeq_set its n j u) (r.set rv j) (by rw [length_set];exact hz) s.toks
 by_cases h0:0<=k
 ·have hk:k.toNat=j:=by
   rw [seqIndex_of h0 h4] at h1;exact Option.some.inj h1
  exact PySem.W.ki_setAt ho h0 (by omega) (by rw [size_toArray,<- hl];exact h4) (by rw [hk];exact ⟨_,I',q⟩)
 ·have hk:(k + (its.toArray.size:Int)).toNat=j:=by
   rw [seqIndex_neg (by omega) h3] at h1;rw [size_toArray,<- hl];exact Option.some.inj h1
  exact PySem.W.ki_setBack ho (by omega) (by rw [size_toArray,<- hl];exact h3) (by omega) (by rw [hk];exact ⟨_,I',q⟩)
theorem J5v (lo hi:Option Int) (n:Nat):(sliceBounds lo hi none n).1=((HT.sIx n 0 lo:Nat):Int)/\(sliceBounds lo hi none n).2.1=((HT.sIx n n hi:Nat):Int)/\(sliceBounds lo hi none n).2.2=1:=by
 refine ⟨?_,?_,rfl⟩
 ·cases lo with
  | none=>simp [sliceBounds,HT.sIx]
  | some i =>
   simp only [sliceBounds,HT.sIx,Option.getD_none,show (1:Int) > 0 by decide,if_true];by_cases h:i < 0
   ·simp only [h,if_true] <;> omega
   ·simp only [h,if_false] <;> omega
 ·cases hi with
  | none=>simp [sliceBounds,HT.sIx]
  | some i =>
   simp only [sliceBounds,HT.sIx,Option.getD_none,show (1:Int) > 0 by decide,if_true];by_cases h:i < 0
   ·simp only [h,if_true] <;> omega
   ·simp only [h,if_false] <;> omega
theorem J57 (its:List Value) (lo hi:Option Int):slicePick its.toArray lo hi none=((its.drop (HT.sIx its.length 0 lo)).take (HT.sIx its.length its.length hi - HT.sIx its.length 0 lo)).toArray:=by
 obtain ⟨h1,h2,h3⟩:=J5v lo hi its.toArray.size;unfold slicePick;rw [h1,h2,h3];simp only [sliceRange_one,pick_run,size_toArray] <;> rfl
def rSlL (K:Frag):V->Option Int->Option Int->Hp->VK->Prop:=fun x lo hi H Q=>∃ a xs,x=.ref a/\SqL K H a xs/\∀ p,H p=none->Q (.ref p) (upd H p (.lst (cutV xs lo hi)))
theorem sl_list:SlR X (rSlL X.K):=by
 intro pins s σ H x v vl vu lo hi sl Q I rx hs pl pu h;obtain ⟨a,xs,rfl,hx,q⟩:=h;cases rx;obtain ⟨its,r,ht,hz⟩:=I.list hx;have hlen:=r.length;refine ⟨"list",_,slot_list_getitem.lookup,ht.isList.typeIs,?_⟩;refine wpAny_getItem_list_slice ht.isList hs pl pu .none (by simp) ?_ (by rw [size_toArray] <;> omega);rw [J57,<- hlen];refine ⟨.ref s.heap.objs.size,_,I.laid (t':=s.toks) (o:=.lst (cutV xs lo hi)) (fun b ob q=>get?_push_of_some _ q) (Nat.le_refl _) ?_,rfl,q _ (I.hok.fresh (Nat.le_refl _))⟩;exact ⟨Nat.le_trans (J3z xs lo hi) hz,_,0,(r.drop (HT.sIx xs.length 0 lo)).take (HT.sIx xs.length xs.length hi - HT.sIx xs.length 0 lo),get?_push_size _ rfl⟩
def flatV:V->Bool
 | .non=>true
 | .bl _=>true
 | .int _=>true
 | .str _=>true
 | _=>false
def eqV:V->V->Bool
 | .non,.non=>true
 | .bl a,.bl b=>a == b
 | .bl a,.int b=>(if a then 1 else 0) == b
 | .int a,.bl b=>a == (if b then 1 else 0)
 | .int a,.int b=>a == b
 | .str a,.str b=>a == b
 | _,_=>false
theorem eqAt_V {A:Around} {s:Shared} {y x:V} {u v:Value} (ry:RelV y u) (rx:RelV x v) (fy:flatV y=true) (fx:flatV x=true):SeqAt.EqAt A s u v (eqV y x):=by
 cases y with
 | non =>
  cases ry
  cases x with
  | non=>cases rx;exact SeqAt.EqAt.same _
  | bl b=>cases rx;exact SeqAt.EqAt.none_bool b
  | int b=>obtain ⟨t,rfl⟩:=rx;exact SeqAt.EqAt.none_int b t
  | str b=>obtain ⟨t,rfl⟩:=rx;exact SeqAt.EqAt.none_str b t
  | _=>exact absurd (show false=true from fx) Bool.false_ne_true
 | bl a =>
  cases ry
  cases x with
  | non=>cases rx;exact SeqAt.EqAt.bool_none a
  | bl b=>cases rx;exact SeqAt.EqAt.bool_bool a b
  | int b=>obtain ⟨t,rfl⟩:=rx;exact SeqAt.EqAt.bool_int a b t
  | str b=>obtain ⟨t,rfl⟩:=rx;exact SeqAt.EqAt.bool_str a b t
  | _=>exact absurd (show false=true from fx) Bool.false_ne_true
 | int a =>
  obtain ⟨t',rfl⟩:=ry
  cases x with
  | non=>cases rx;exact SeqAt.EqAt.int_none a t'
  | bl b=>cases rx;exact SeqAt.EqAt.int_bool a t' b
  | int b=>obtain ⟨t,rfl⟩:=rx;exact SeqAt.EqAt.int_int a t' b t
  | str b=>obtain ⟨t,rfl⟩:=rx;exact SeqAt.EqAt.int_str a t' b t
  | _=>exact absurd (show false=true from fx) Bool.false_ne_true
 | str a =>
  obtain ⟨t',rfl⟩:=ry
  cases x with
  | non=>cases rx;exact SeqAt.EqAt.str_none a t'
  | bl b=>cases rx;exact SeqAt.EqAt.str_bool a t' b
  | int b=>obtain ⟨t,rfl⟩:=rx;exact SeqAt.EqAt.str_int a t' b t
  | str b=>obtain ⟨t,rfl⟩:=rx;exact SeqAt.EqAt.str_str a t' b t
  | _=>exact absurd (show false=true from fx) Bool.false_ne_true
 | _=>exact absurd (show false=true from fy) Bool.false_ne_true
def eqU (x:V) (u:Value):Bool:=match u with
 | .none=>eqV .non x
 | .bool b=>eqV (.bl b) x
 | .int i _=>eqV (.int i) x
 | .str z _=>eqV (.str z) x
 | _=>false
theorem eqU_of {x y:V} {u:Value} (r:RelV y u) (f:flatV y=true):eqU x u=eqV y x:=by
 cases y with
 | non=>cases r;rfl
 | bl b=>cases r;rfl
 | int i=>obtain ⟨t,rfl⟩:=r;rfl
 | str z=>obtain ⟨t,rfl⟩:=r;rfl
 | _=>exact absurd (show false=true from f) Bool.false_ne_true
theorem J5s {x:V}:∀ {xs:List V} {us:List Value},Vals xs us->xs.all flatV=true->us.any (eqU x)=xs.any fun y=>eqV y x
 | _,_,.nil,_=>rfl
 | y :: xs,u :: us,.cons r t,f=>by
  rw [List.all_cons,Bool.and_eq_true] at f;rw [List.any_cons,List.any_cons,eqU_of r f.1,J5s t f.2]
theorem J3f {A:Around} {s:Shared} {x:V} {v:Value} (rx:RelV x v) (fx:flatV x=true):∀ {xs:List V} {us:List Value},Vals xs us->xs.all flatV=true->∀ u∈us,SeqAt.EqAt A s u v (eqU x u)
 | _,_,.nil,_=>fun u hu=>by cases hu
 | y :: xs,u :: us,.cons r t,f=>fun u' hu=>by
  rw [List.all_cons,Bool.and_eq_true] at f;rcases mem_cons.mp hu with rfl | hu
  ·rw [eqU_of r f.1];exact eqAt_V r rx f.1 fx
  ·exact J3f rx fx t f.2 u' hu
def inV (x:V) (xs:List V):Bool:=xs.any fun y=>eqV y x
def rIn (K:Frag) (neg:Bool):R2:=fun x y H Q=>∃ p xs,y=.ref p/\(SqL K H p xs\/SqT K H p xs)/\flatV x=true/\xs.all flatV=true/\Q (.bl (if neg then !inV x xs else inV x xs)) H
theorem op_in_seq:OpR X (compareOp .In) (rIn X.K false):=by
 intro pins s σ H x y v u Q I rx ry h;obtain ⟨p,xs,rfl,hq,fx,fs,q⟩:=h;cases ry;rcases hq with hq | hq
 ·obtain ⟨its,r,pl,hz⟩:=I.list hq;refine SeqAt.in_listAt (eqU x) pl.isList (fun w hw=>J3f rx fx r fs w (by simpa using hw)) ⟨.bl _,H,I,rfl,?_⟩;rw [show its.toArray.any (eqU x)=its.any (eqU x) by simp,J5s r fs];exact q
 ·obtain ⟨its,r,pl,hz⟩:=I.tuple hq;refine SeqAt.in_tupleAt (eqU x) pl (fun w hw=>J3f rx fx r fs w (by simpa using hw)) ⟨.bl _,H,I,rfl,?_⟩;rw [show its.toArray.any (eqU x)=its.any (eqU x) by simp,J5s r fs];exact q
theorem J65:OpR X (compareOp .NotIn) (rIn X.K true):=by
 intro pins s σ H x y v u Q I rx ry h;obtain ⟨p,xs,rfl,hq,fx,fs,q⟩:=h;cases ry;rcases hq with hq | hq
 ·obtain ⟨its,r,pl,hz⟩:=I.list hq;refine SeqAt.notIn_listAt (eqU x) pl.isList (fun w hw=>J3f rx fx r fs w (by simpa using hw)) ⟨.bl _,H,I,rfl,?_⟩;rw [show its.toArray.any (eqU x)=its.any (eqU x) by simp,J5s r fs];exact q
 ·obtain ⟨its,r,pl,hz⟩:=I.tuple hq;refine SeqAt.notIn_tupleAt (eqU x) pl (fun w hw=>J3f rx fx r fs w (by simpa using hw)) ⟨.bl _,H,I,rfl,?_⟩;rw [show its.toArray.any (eqU x)=its.any (eqU x) by simp,J5s r fs];exact q
theorem Jc:CallR X (.builtin "len") (fun xs H Q=>∃ p ys,xs=[.ref p]/\(SqL X.K H p ys\/SqT X.K H p ys)/\Q (.int ys.length) H):=by
 intro pins s σ H xs us Q I r h;obtain ⟨p,ys,rfl,hq,q⟩:=h;obtain ⟨u,rfl,rx⟩:=vals1 r;cases rx;have hn:=J6a;rcases hq with hq | hq
 ·obtain ⟨its,r',pl,hz⟩:=I.list hq;have hlen:=r'.length;exact Calls.call_len_list pl.isList (by simp only [size_toArray] <;> omega) ⟨.int ys.length,H,I.tok _,⟨s.toks + 1,by rw [size_toArray,hlen]⟩,q⟩
 ·obtain ⟨its,r',pl,hz⟩:=I.tuple hq;have hlen:=r'.length;exact len_tuple pl (by simp only [size_toArray] <;> omega) ⟨.int ys.length,H,I.tok _,⟨s.toks + 1,by rw [size_toArray,hlen]⟩,q⟩
theorem J6g:CallR X (.type "list") (fun xs H Q=>∃ p ys,xs=[.ref p]/\(SqL X.K H p ys\/SqT X.K H p ys)/\∀ l,H l=none->Q (.ref l) (upd H l (.lst ys))):=by
 intro pins s σ H xs us Q I r h;obtain ⟨p,ys,rfl,hq,q⟩:=h;obtain ⟨u,rfl,rx⟩:=vals1 r;cases rx;have fin:∀ (its:List Value),Vals ys its->ys.length<=sizeLine->∀ (h':Heap) (c':Nat),(∀ b o',s.heap.get? b=some o'->h'.get? b=some o')->
   h'.get? s.heap.objs.size=some { cls:=.type "list",dict:=none,data:=.seq its.toArray c',slots:=#[] }->EP X pins σ Q (.ref s.heap.objs.size) { s with heap:=h' }:=fun its r' hz h' c' kp e =>
  ⟨.ref s.heap.objs.size,_,I.laid (t':=s.toks) kp (Nat.le_refl _) (show ObjOk X.prog X.w _ h' _ (.lst ys) from ⟨hz,its,c',r',e⟩),rfl,q _ (I.hok.fresh (Nat.le_refl _))⟩
 rcases hq with hq | hq
 ·obtain ⟨its,r',pl,hz⟩:=I.list hq;have hlen:=r'.length;obtain ⟨o,ho,hc,n,hd⟩:=pl.isList;exact call_list_seq p (.inl rfl) ho hc hd (fun h' c' kp e=>fin its r' hz h' c' kp e) (by simp only [size_toArray] <;> omega)
 ·obtain ⟨its,r',pl,hz⟩:=I.tuple hq;have hlen:=r'.length;obtain ⟨o,ho,hc,n,hd⟩:=pl;exact call_list_seq p (.inr rfl) ho hc hd (fun h' c' kp e=>fin its r' hz h' c' kp e) (by simp only [size_toArray] <;> omega)
theorem J5q:CallR X (.type "tuple") (fun xs H Q=>∃ p ys,xs=[.ref p]/\((SqL X.K H p ys/\∀ l,H l=none->Q (.ref l) (upd H l (.tup ys)))\/(SqT X.K H p ys/\Q (.ref p) H))):=by
 intro pins s σ H xs us Q I r h;obtain ⟨p,ys,rfl,h⟩:=h;obtain ⟨u,rfl,rx⟩:=vals1 r;cases rx;rcases h with ⟨hq,q⟩ | ⟨hq,q⟩
 ·obtain ⟨its,r',pl,hz⟩:=I.list hq;have hlen:=r'.length;refine call_tuple_list pl.isList (fun h' kp=>?_) (by simp only [size_toArray] <;> omega);have I1:Inv X pins σ H { s with heap:=h' }:=I.kept (t':=s.toks) kp;have I2:Inv X pins σ (upd H h'.objs.size (.tup ys)) { s with heap:=h'.push { cls:=.type "tuple",data:=.seq its.toArray } } :=
   I1.laid (t':=s.toks) (fun b o e=>get?_push_of_some _ e) (Nat.le_refl _) (show ObjOk X.prog X.w _ _ _ (.tup ys) from ⟨hz,its,r',TupX.new _ _⟩)
  exact ⟨.ref h'.objs.size,_,I2,rfl,q _ (I1.hok.fresh (Nat.le_refl _))⟩
 ·obtain ⟨its,r',pl,hz⟩:=I.tuple hq;exact call_tuple_same pl ⟨.ref p,H,I,rfl,q⟩
def tyV (K:Frag) (T:String) (x:V) (H:Hp):Prop:=match x with
 | .str _=>T="str"
 | .int _=>T="int"
 | .ref p=>(T="list"/\∃ xs,SqL K H p xs)\/(T="tuple"/\∃ o,K.lookup p=some o/\o.cls=.type "tuple"/\o.dict=none)\/
   (T="dict"/\((∃ kvs,H p=some (.dK kvs))\/∃ kvs,H p=some (.dT kvs)))\/(T="set"/\∃ S n,H p=some (.set S n))
 | _=>False
theorem tyV_is {pins:List (Addr × Obj)} {σ:St} {H:Hp} {s:Shared} {T:String} {x:V} {v:Value} (I:Inv X pins σ H s) (r:RelV x v) (ty:tyV X.K T x H) :
  s.TypeIs v T/\∀ a,v=.ref a->∃ ob,s.heap.get? a=some ob/\ob.dict=none:=by
 cases x with
 | str z =>
  obtain ⟨t,rfl⟩:=r;cases (show T="str" from ty);exact ⟨typeIs_str s z t,fun _ e=>nomatch e⟩
 | int i =>
  obtain ⟨t,rfl⟩:=r;cases (show T="int" from ty);exact ⟨typeIs_int s i t,fun _ e=>nomatch e⟩
 | ref p =>
  cases r;rcases ty with ⟨rfl,xs,hq⟩ | ⟨rfl,o,hk,hc,hd⟩ | ⟨rfl,hk⟩ | ⟨rfl,S,n,hk⟩
  ·obtain ⟨its,_,pl,_⟩:=I.list hq;refine ⟨pl.isList.typeIs,fun a e=>?_⟩;cases e;obtain ⟨o,n,e,c,hd,_⟩:=pl;exact ⟨o,e,hd⟩
  ·refine ⟨⟨o,I.kIn p o hk,hc⟩,fun a e=>?_⟩;cases e;exact ⟨o,I.kIn _ o hk,hd⟩
  ·have z:∃ o,s.heap.get? p=some o/\o.ExactDict:=by
    rcases hk with ⟨kvs,hk⟩ | ⟨kvs,hk⟩
    ·obtain ⟨_,_,_,_,o,_,_,e,ex,_⟩:=I.hok p _ hk;exact ⟨o,e,ex⟩
    ·obtain ⟨_,_,_,_,o,_,_,e,ex,_⟩:=I.hok p _ hk;exact ⟨o,e,ex⟩
   obtain ⟨o,e,ex⟩:=z;refine ⟨⟨o,e,ex.1⟩,fun a e2=>?_⟩;cases e2;exact ⟨o,e,ex.2.1⟩
  ·obtain ⟨o,_,_,_,e,ex,_⟩:=I.hok p _ hk;refine ⟨⟨o,e,ex.1⟩,fun a e2=>?_⟩;cases e2;exact ⟨o,e,ex.2.1⟩
 | _=>exact False.elim ty
def tBM (K:Frag) (T:String) (r:V->List V->Hp->VK->Prop) (to:TE) (t:TA):TE:=fun σ H Q=>to σ H fun x H1=>tyV K T x H1/\t σ H1 fun xs H2=>r x xs H2 Q
variable {o e:Expr} {es:List Expr} {to:TE} {t:TA} {name:Str} {apos cpos:Pos} {T id:String} {r:V->List V->Hp->VK->Prop}
theorem pe_bm (pa:PlainAttrs T) (slot:Slot T name id) (hty:typeOf (.builtin id)=pure (.type "method_descriptor")) (hm:MtR X id r) (ho:PE X o to) (ha:PA X (e :: es) t)
  (hbase:attributeBase o name X.env (eval o X.env)=eval o X.env:=by rfl)
  (hfew:((backTo cpos (starEach (e :: es) X.env)).all (fun x=>!x.1) && (backToKw cpos (keywordEach [] X.env)).all (fun x=>x.1.isSome)
   && decide ((e :: es).length + ([]:List Keyword).length + (if ([]:List Keyword).isEmpty then 0 else 1) < 30))=true:=by rfl)
  (hline:(apos.endLine == cpos.line)=true:=by rfl) (hs:starEach (e :: es) X.env=(false,eval e X.env) :: starEach es X.env:=by rfl) (hplain:(backTo cpos (starEach es X.env)).any (·.1)=false:=by rfl) :
  PE X (.Call (.Attribute o name apos) (e :: es) [] cpos) (tBM X.K T r to t):=by
 intro pins s σ H Q I h;refine wpAny_Call_method_late hbase hfew hline rfl (thn (ho pins s σ H _ I h) fun v s1 h9=>?_);obtain ⟨x,H1,I1,r1,ty,q1⟩:=h9;obtain ⟨h1,h2⟩:=tyV_is I1 r1 ty;refine ⟨T,id,pa,slot,hty,h1,h2,?_⟩;have hA:=ha cpos pins s1 σ H1 _ I1 q1;rw [hs] at hA ⊢;refine Calls.callWith_builtin (by show (false || (backTo cpos (starEach es X.env)).any (·.1))=false;rw [hplain] <;> rfl) (Calls.evalArgs_plain ?_);exact thn hA fun us s2 h9=>by obtain ⟨vs,H2,I2,r2,q2⟩:=h9;exact hm pins s2 σ H2 x vs v us Q I2 r1 r2 q2
end
end L2
namespace L2
open PySem PySem.Spec PyProof.Rows
def MtM (X:Cx) (id:String) (r:V->List V->Hp->VK->Prop):Prop :=
 ∀ (pins:List (Addr × Obj)) (s:Shared) (σ:St) (H:Hp) (x:V) (xs:List V) (v:Value) (us:List Value) (Q:VK),Inv X pins σ H s->RelV x v->Vals xs us->r x xs H Q->
  wpAny (model X.prog X.w) X.A (call (.builtin id) (v :: us)) (EP X pins σ Q) X.xe s
theorem Vals.one:∀ {x:V} {us:List Value},Vals [x] us->∃ u,us=[u]/\RelV x u:=fun r=>vals1 r
theorem Vals.two:∀ {x y:V} {us:List Value},Vals [x,y] us->∃ u v,us=[u,v]/\RelV x u/\RelV y v:=fun r=>vals2 r
theorem Vals.rep {xs:List V} {us:List Value} (h:Vals xs us):∀ k:Nat,Vals (List.replicate k xs).flatten (List.replicate k us).flatten
 | 0=>.nil
 | k + 1=>by
  rw [replicate_succ,replicate_succ,flatten_cons,flatten_cons];exact Vals.append h (Vals.rep h k)
theorem J4w (its:List Value):∀ (k:Nat) (acc:List Value),
  foldl (fun x1 x2=>x1 ++ x2) acc.toArray (List.replicate k its.toArray)=(acc ++ (List.replicate k its).flatten).toArray
 | 0,acc=>by simp
 | k + 1,acc=>by
  have e:acc.toArray ++ its.toArray=(acc ++ its).toArray:=by simp
  have e2:(acc ++ its) ++ (List.replicate k its).flatten=acc ++ (List.replicate (k + 1) its).flatten:=by
   rw [replicate_succ,flatten_cons,List.append_assoc]
  rw [<- e2,<- J4w its k (acc ++ its),<- e,replicate_succ,List.foldl_cons]
section
variable {X:Cx} {pins:List (Addr × Obj)} {σ:St} {H:Hp} {s:Shared} {l b:Addr} {xs ys zs:List V}
theorem Inv.lset {its its':List Value} {n:Nat} {f:Array Value->Array Value} {t':Nat} (I:Inv X pins σ H s) (hH:H l=some (.lst xs))
  (e:s.heap.get? l=some { cls:=.type "list",data:=.seq its.toArray n }) (hf:f its.toArray=its'.toArray) (hv:Vals ys its') (hz:ys.length<=sizeLine) :
  Inv X pins σ (upd H l (.lst ys)) { s with heap:=s.heap.update l (Obj.mapSeq f),toks:=t' }:=by
 have q:=PySem.IsL.update e f;rw [hf] at q;refine I.write (x:=l) (e:=l) (by rw [hH];exact trivial) (.inl rfl) (fun b' u hb hu=>(get?_update_other s.heap (Obj.mapSeq f) (Ne.symm hb)).trans hu) ⟨_,q⟩ ?_;exact ⟨hz,its',_,hv,q⟩
theorem Inv.lnew {its:List Value} {t':Nat} (I:Inv X pins σ H s) (hv:Vals ys its) (hz:ys.length<=sizeLine) :
  Inv X pins σ (upd H s.heap.objs.size (.lst ys)) { s with heap:=s.heap.push { cls:=.type "list",data:=.seq its.toArray },toks:=t' } :=
 I.laid (fun _ _ q=>get?_push_of_some _ q) (Nat.le_refl _) ⟨hz,its,0,hv,get?_push_size _ rfl⟩
theorem Inv.fresh (I:Inv X pins σ H s):H s.heap.objs.size=none:=I.hok.fresh (Nat.le_refl _)
theorem Inv.lstM (I:Inv X pins σ H s) (hH:H l=some (.lst xs)):xs.length<=sizeLine/\∃ (its:List Value) (n:Nat),Vals xs its/\xs.length=its.length/\s.heap.get? l=some { cls:=.type "list",data:=.seq its.toArray n }:=by
 obtain ⟨z,its,n,r,e⟩:=I.hok l _ hH;exact ⟨z,its,n,r,r.length,e⟩
theorem notLongL {n:Nat} (h:n<=sizeLine):Builtin.List.listTooLong n=false:=by
 unfold Builtin.List.listTooLong;exact decide_eq_false (by omega)
end
section
variable {X:Cx}
def rAppend:V->List V->Hp->VK->Prop:=fun x vs H Q=>∃ l xs y,x=.ref l/\vs=[y]/\H l=some (.lst xs)/\xs.length < sizeLine/\Q .non (upd H l (.lst (xs ++ [y])))
theorem J1f:MtM X "list.append" rAppend:=by
 intro pins s σ H x vs v us Q I rx rv h;obtain ⟨l,xs,y,rfl,rfl,hH,hz,q⟩:=h;cases rx;obtain ⟨u,rfl,ru⟩:=rv.one;obtain ⟨z,its,n,r,hl,e⟩:=I.lstM hH;refine call_meets F.slot_list_append ⟨_,e,rfl⟩ F.entry_list_append (F.args_list_append_2 _ _) (PySem.list_append l its.toArray n u (by rw [size_toArray];omega)) ⟨e,?_⟩;refine ⟨.non,_,I.lset (its':=its ++ [u]) hH e (by simp) (r.append (.cons ru .nil)) ?_,rfl,q⟩;rw [length_append,List.length_singleton];omega
def rExtend:V->List V->Hp->VK->Prop:=fun x vs H Q=>∃ l b xs zs,x=.ref l/\vs=[.ref b]/\H l=some (.lst xs)/\H b=some (.lst zs)/\xs.length + zs.length<=sizeLine/\Q .non (upd H l (.lst (xs ++ zs)))
theorem mt_extend:MtM X "list.extend" rExtend:=by
 intro pins s σ H x vs v us Q I rx rv h;obtain ⟨l,b,xs,zs,rfl,rfl,hH,hB,hz,q⟩:=h;cases rx;obtain ⟨u,rfl,ru⟩:=rv.one;cases ru;obtain ⟨z,its,n,r,hl,e⟩:=I.lstM hH;obtain ⟨z2,its2,n2,r2,hl2,e2⟩:=I.lstM hB;have hsz:its.toArray.size + its2.toArray.size<=sizeLine:=by rw [size_toArray,size_toArray];omega
 have hlong:¬ (!its.toArray.isEmpty && Builtin.List.listTooLong (its.toArray.size + its2.toArray.size))=true:=by
  rw [notLongL hsz,Bool.and_false];exact Bool.false_ne_true
 refine call_meets F.slot_list_extend ⟨_,e,rfl⟩ F.entry_list_extend (F.args_list_extend_2 _ _)
  (AutoSeq1.list_extend_list_list_0 l its.toArray n b its2.toArray n2 hlong (by rw [size_toArray];omega) (by omega)) ⟨e,e2,?_⟩
 refine ⟨.non,_,I.lset (its':=its ++ its2) hH e (by simp) (r.append r2) ?_,rfl,q⟩;rw [length_append];omega
def rCat:R2:=fun x y H Q=>∃ l b xs zs,x=.ref l/\y=.ref b/\H l=some (.lst xs)/\H b=some (.lst zs)/\xs.length + zs.length<=sizeLine/\∀ p,H p=none->Q (.ref p) (upd H p (.lst (xs ++ zs)))
theorem op_cat:OpR X (binaryOp .Add) rCat:=by
 intro pins s σ H x y v u Q I rx ry h;obtain ⟨l,b,xs,zs,rfl,rfl,hH,hB,hz,q⟩:=h;cases rx;cases ry;obtain ⟨z,its,n,r,hl,e⟩:=I.lstM hH;obtain ⟨z2,its2,n2,r2,hl2,e2⟩:=I.lstM hB;refine PySem.P.add_list e e2 ?_ (by rw [size_toArray,size_toArray];omega);have ea:its.toArray ++ its2.toArray=(its ++ its2).toArray:=by simp
 rw [ea];exact ⟨.ref _,_,I.lnew (t':=s.toks) (r.append r2) (by rw [length_append];omega),rfl,q _ I.fresh⟩
def rRep:R2:=fun x y H Q=>∃ l k xs,x=.ref l/\y=.int k/\H l=some (.lst xs)/\-(2 ^ 63)<=k/\k < 2 ^ 63/\xs.length * k.toNat<=sizeLine/\
 ∀ p,H p=none->Q (.ref p) (upd H p (.lst (List.replicate k.toNat xs).flatten))
theorem len_rep {α:Type} (xs:List α) (k:Nat):(List.replicate k xs).flatten.length=k * xs.length:=by
 induction k with
 | zero=>simp
 | succ k ih=>rw [replicate_succ,flatten_cons,length_append,ih,Nat.succ_mul,Nat.add_comm]
theorem op_rep:OpR X (binaryOp .Mult) rRep:=by
 intro pins s σ H x y v u Q I rx ry h;obtain ⟨l,k,xs,rfl,rfl,hH,h1,h2,hz,q⟩:=h;cases rx;obtain ⟨t,rfl⟩:=ry;obtain ⟨z,its,n,r,hl,e⟩:=I.lstM hH;have hlen:its.toArray.size * k.toNat<=sizeLine:=by rw [size_toArray,<- hl];exact hz
 have hcap:¬ its.toArray.size * k.toNat > (2 ^ 63 - 1) / 8:=by
  have:(sizeLine:Nat)<=(2 ^ 63 - 1) / 8:=by decide
  omega
 have hfit:¬ (!Builtin.List.listFitsIndex k)=true:=by
  rw [fitsIndex_both h1 h2];exact Bool.false_ne_true
 have hlong:¬ Builtin.List.listTooLong (its.toArray.size * k.toNat)=true:=by
  rw [notLongL hlen];exact Bool.false_ne_true
 have hnew:foldl (fun x1 x2=>x1 ++ x2) #[] (List.replicate (if its.toArray.isEmpty=true then 0 else k.toNat) its.toArray)=(List.replicate k.toNat its).flatten.toArray:=by
  have f0:∀ m:Nat,foldl (fun x1 x2=>x1 ++ x2) #[] (List.replicate m its.toArray)=(List.replicate m its).flatten.toArray:=fun m=>by
   have:=J4w its m [];rw [nil_append] at this;exact this
  rw [f0]
  cases its with
  | nil=>simp
  | cons a r'=>rw [if_neg (by simp)]
 refine wpAny_binaryOp_repeat_ref (T:="list") (U:="int") (by decide) ⟨_,e,rfl⟩ (fun s'=>typeIs_int s' k t) noFill_list_mul F.fills_int_mul F.slot_int_rmul repeat_list F.slot_int_index.lookup
  (call_meets F.slot_int_rmul (typeIs_int s k t) F.entry_int_rmul (F.args_int_rmul_2 _ _) (int___rmul___int_list k t l its.toArray n)
   ⟨e,rfl,⟨_,e,rfl⟩,call_meets F.slot_list_mul ⟨_,e,rfl⟩ F.entry_list_mul (F.args_list_mul_2 _ _) (AutoListH.list___mul___list_int_3 l its.toArray n k t hfit hcap hlong) ⟨e,?_⟩⟩)
 rw [hnew];exact ⟨.ref _,_,I.lnew (t':=s.toks) (r.rep k.toNat) (by rw [len_rep,Nat.mul_comm];exact hz),rfl,q _ I.fresh⟩
end
section
variable {prog:Program} {w:World} {A:Around} {E:Value->Shared->Prop} {s:Shared}
set_option maxRecDepth 100000 in
end
end L2
namespace Att
open PySem PySem.W PySem.Calls PyProof.Rows
theorem J3q {P:Params} {h:Heap}:∀ (ns:List Int) (vs:List Value),WellAll P h vs (ns.map WData.int)->IntsAre vs ns:=by
 intro ns
 induction ns with
 | nil =>
  intro vs w;rw [List.map_nil] at w;cases w;exact .nil
 | cons n ns ih =>
  intro vs w;rw [map_cons] at w
  cases w with
  | cons a b =>
   cases a;exact .cons _ _ (ih _ b)
theorem script_of {l:OpenLaw} {n:Nat} (hn:l.most=some n) {P:Params} {h:Heap} {args:List WData} {vals:List Value}
  (hpre:l.row.toRowW.claim.pre args=true) (hwl:WellAll P h vals args) :
  ∃ a vs ns,vals=[Value.ref a]/\args=[WData.list (ns.map WData.int)]/\h.get? a=some { cls:=.type "list",data:=.seq vs.toArray }/\IntsAre vs ns/\ns.length<=n:=by
 have hsh:WShape.hasAll [] args [.list .int]=true:=(pre_splitW hpre).1;have hc:l.pre.holds [] { args:=args }=true:=(pre_splitW hpre).2;obtain ⟨d,r,rfl,h1,h2⟩:=hasAllW_cons hsh;obtain rfl:=hasAllW_nil h2;obtain ⟨xs,rfl,h3⟩:=hasW_list h1;obtain ⟨ns,rfl⟩:=items_int h3;have hlen:ns.length<=n:=by
  unfold OpenLaw.pre at hc;have h4:(WTm.not (.lt (.lit (.int (n:Int))) (.len (.arg 0)))).holds [] { args:=[.list (ns.map .int)] }=true:=by
   have h4:=(holds_andW hc).1;rw [hn] at h4;exact h4
  have h5:=condW_of h4 (w_not (w_lt w_lit (w_len_list (w_arg rfl))));rw [length_map] at h5;refine Nat.le_of_not_lt fun q=>?_;have q':(n:Int) < ((ns.length:Nat):Int):=by omega
  first
   | (rw [decide_eq_true q'] at h5;exact absurd h5 (by decide))
   | (simp at h5;omega)
 cases hwl with
 | cons w1 w2 =>
  cases w2
  cases w1 with
  | list ho hall=>exact ⟨_,_,ns,rfl,rfl,ho,J3q ns _ hall,hlen⟩
theorem post_true (l:OpenLaw) (args:List WData):l.row.toRowW.claim.post args (.bool true) args=true :=
 postW_of (r:=l.row.toRowW) (X:=(true == true))
  (show WShape.has [] (.bool true) .bool=true by first | rfl | decide | simp [WShape.has,WShape.arms,WShape.armsAll])
  (show (WTm.eq .res (.lit (.bool true))).value [] { args:=args,res:=some (.bool true),after:=args }=some (.bool (true == true)) from w_eq_bool (w_res rfl) w_lit) rfl
theorem attach_call {l:OpenLaw} {n:Nat} {q:Program} {loose:List Str} {XP:(Str->Option Value)->Heap->Prop} {YP:World->Heap->Prop} {d:DefRec}
  (hn:l.most=some n) (hdf:d.params.defaults=[])
  (call:∀ (w:World) (s₀ s₁:Shared) (mg mb:Str->Option Value) (fa:Addr) (o:Obj) (pm cd doc:Value) (a:Addr) (vs:List Value) (ns:List Int),
   Ground q loose [] XP w s₀ mg mb s₁.heap->YP w s₁.heap->
   s₁.heap.get? fa=some o->o.data=.func (docDef d.name d.params d.body d.scope pm cd doc)->s₁.heap.CodeRec cd d.name->mg d.name=some (.ref fa)->
   s₁.heap.get? a=some { cls:=.type "list",data:=.seq vs.toArray }->IntsAre vs ns->ns.length<=n->s₁.gens=#[]->
   codeAny (model l.prog w) callerA (.call (.ref fa) ⟨[.ref a],[]⟩) (fun r s'=>r=.ok (.ret (.bool true))/\OldK s₁.heap s'.heap/\s'.os=s₁.os/\AllBare s'.gens) s₁) :
  WalkO q loose XP YP l.row.toRowW d [] (fun f vs=>PySem.call f vs):=by
 intro w s₀ s₁ mg mb G Y fa o pm cd doc dV kV ho hd hcd hD hmg hg args vals as hpre hlay hrd hwl hlo;obtain rfl:dV=.none:=Dflts.none hD hdf;obtain rfl:kV=.none:=Dflts.noKw hD;obtain ⟨a,vs,ns,rfl,rfl,hobj,hints,hlen⟩:=script_of hn hpre hwl;refine enter_call (codeAny_mono (call w s₀ s₁ mg mb fa o pm cd doc a vs ns G Y ho (fd_plain hd) hcd hmg hobj hints hlen hg) fun r s' hq=>?_);obtain ⟨rfl,h2,h3,h4⟩:=hq;exact ⟨.inl ⟨.bool true,.bool true,[],rfl,fun _=>rfl,.bool true,post_true l _,fun _=>⟨List.Pairwise.nil,fun _ hm=>(nomatch hm)⟩⟩,h2,h3,h4⟩
end Att
namespace L2
open PySem PySem.Spec PyProof.Rows
theorem J2z:∀ {vs:List Value} {ns:List Int},IntsAre vs ns->Vals (ns.map V.int) vs
 | _,_,.nil=>.nil
 | _,_,.cons n t h=>.cons ⟨t,rfl⟩ (J2z h)
def Only (H:Hp):Prop:=∀ b,H b=none\/∃ o xs,H b=some (.frz o (.lst xs))
theorem law_call {P:Program} {w:World} {K:Frag} {mg mb:Str->Option Value} {CX:CXT} {k:Nat} {fa a:Addr} {fd:FuncData} {x:Str} {sp:Sp} {s₁:Shared} {vs:List Value} {ns:List Int}
  (KX:K.In s₁.heap) (hns:s₁.heap.Ns mainGlobals mg) (hb:s₁.heap.Ns builtinsNs mb) (hbb:∀ x:Str,x≠"__name__"->mb x=bootBuiltins x) (hlim:s₁.heap.NoLimit) (hg:s₁.gens=#[])
  (ha:s₁.heap.get? a=some { cls:=.type "list",data:=.seq vs.toArray }) (hi:IntsAre vs ns) (hl:ns.length<=sizeLine) (hr:Room k callerA)
  (F:∀ base:Heap,K.In base->base.Ns mainGlobals mg->FnOk P w K mg base CX k fa fd [x] sp) (hbind:∀ (s:Shared) (u:Value),BindsTo s fd ⟨[u],[]⟩ [(x,u)])
  (hsp:∀ H:Hp,Only H->SqL K H a (ns.map V.int)->sp [.ref a] H (fun v _=>v=.bl true) fun _ _ _=>False)
  (hCX:∀ H e s',CX [] H s₁ (fun _ _ _=>False) e s'->False) :
  codeAny (model P w) callerA (.call (.ref fa) ⟨[.ref a],[]⟩) (fun r s'=>r=.ok (.ret (.bool true))/\OldK s₁.heap s'.heap/\s'.os=s₁.os/\AllBare s'.gens) s₁:=by
 have rv:=J2z hi;have lenV:=hi.length;have core:∀ H:Hp,Only H->SqL K H a (ns.map V.int)->HOk P w H s₁.heap->(∀ b,H b≠none->b=a)->(H a≠none->K.lookup a=none)->
   codeAny (model P w) callerA (.call (.ref fa) ⟨[.ref a],[]⟩) (fun r s'=>r=.ok (.ret (.bool true))/\OldK s₁.heap s'.heap/\s'.os=s₁.os/\AllBare s'.gens) s₁:=by
  intro H hO hS hok hA hK;have base_of:∀ {b:Addr} {o:Obj},s₁.heap.get? b=some o->H b=none->(hidT s₁.heap H).get? b=some o:=fun e n=>hidT_get e n;have noA:∀ {b:Addr} {o:Obj} {es:Array DictEntry} {ep:Nat},s₁.heap.get? b=some o->o.data=.dict es ep->H b=none:=fun {b o es ep} e d=>by
   cases q:H b with
   | none=>rfl
   | some u =>
    have e':b=a:=hA b (by rw [q];simp);subst e';rw [ha] at e;cases e;have d':Data.seq vs.toArray _=Data.dict es ep:=d;cases d'
  have nsK:∀ {b:Addr} {m:Str->Option Value},s₁.heap.Ns b m->(hidT s₁.heap H).Ns b m:=fun {b m} h9=>by obtain ⟨o,es,ep,e,d,r⟩:=h9;exact ⟨o,es,ep,base_of e (noA e d),d,r⟩
  have hKb:K.In (hidT s₁.heap H):=fun b o e=>base_of (KX b o e) (by
   cases q:H b with
   | none=>rfl
   | some u =>
    have e':b=a:=hA b (by rw [q];simp);subst e';rw [hK (by rw [q];simp)] at e;cases e)
  have hM:Mod K mg (hidT s₁.heap H):=⟨hKb,nsK hns,⟨mb,nsK hb,hbb⟩,by obtain ⟨mc,h1,h2⟩:=hlim;exact ⟨mc,nsK h1,h2⟩⟩;have e0:Env0 P w K mg (hidT s₁.heap H) callerA [] s₁ H:=⟨rfl,hM,fun b o e=>of_hidT e,Nat.le_of_eq (hidT_size _ _),trivial,fun b hb=>absurd (show b∈([]:List Addr) from hb) (by simp),hok,.of_eq hg⟩;refine codeAny_mono ((F _ hKb (nsK hns)).run callerA [] s₁ H ⟨[.ref a],[]⟩ [.ref a] [.ref a] _ _ hr e0 (hbind s₁ (.ref a)) (.cons rfl .nil) (hsp H hO hS)) fun r s' h=>?_
  cases r with
  | error e=>exact (hCX H e s' h).elim
  | ok fl =>
   cases fl with
   | next=>exact False.elim h
   | brk=>exact False.elim h
   | cont=>exact False.elim h
   | ret u =>
    obtain ⟨v,H',os,bare,un,hok',r',q⟩:=h;have q':v=.bl true:=q;subst q';obtain rfl:u=Value.bool true:=r';refine ⟨rfl,OldK.of_keep fun b o e=>?_,os,bare⟩
    cases q:H b with
    | none=>exact un.keep b o e q (by intro z;exact absurd (show b∈([]:List Addr) from z) (by simp)) (by simp)
    | some u =>
     rcases hO b with z | ⟨ob,xs,z⟩
     ·rw [q] at z;cases z
     ·have z2:=un.frzs b ob _ z;obtain ⟨e1,_⟩:=hok b _ z;obtain ⟨e2,_⟩:=hok' b _ z2;rw [e] at e1;cases e1;exact e2
 cases hk:K.lookup a with
 | some o =>
  have e:=KX a o hk;rw [ha] at e;cases e;refine core (fun _=>none) (fun _=>.inl rfl) (.inr ⟨_,vs.toArray,_,hk,rfl,rfl,rfl,by rw [size_toArray,lenV];exact hl,by simpa using rv⟩) (fun b u z=>by have z':(none:Option HO)=some u:=z;cases z') (fun b z=>absurd rfl z) fun z=>absurd rfl z
 | none =>
  refine core (fun b=>if b=a then some (.frz { cls:=.type "list",data:=.seq vs.toArray } (.lst (ns.map V.int))) else none) (fun b=>?_) (.inl (.inr ⟨{ cls:=.type "list",data:=.seq vs.toArray },if_pos rfl⟩)) (fun b u z=>?_) (fun b z=>?_) fun _=>hk
  ·by_cases hb:b=a
   ·exact .inr ⟨_,_,if_pos hb⟩
   ·exact .inl (if_neg hb)
  ·by_cases hb:b=a
   ·have z':=(if_pos hb).symm.trans z;cases z';subst hb;exact ⟨ha,by rw [length_map];exact hl,vs,_,rv,ha⟩
   ·have z':=(if_neg hb).symm.trans z;cases z'
  ·by_cases hb:b=a
   ·exact hb
   ·exact absurd (if_neg hb) z
end L2
namespace L2
open PySem PySem.Spec PyProof.Rows
theorem walk_of {l:PySem.W.OpenLaw} {n k:Nat} {q:Program} {loose:List Str} {XP:(Str->Option Value)->Heap->Prop} {YP:World->Heap->Prop} {d:DefRec} {K:Params->Frag} {CX:World->CXT} {sp:World->Sp} {x:Str}
  (hn:l.most=some n) (hn2:n<=sizeLine) (hdf:d.params.defaults=[]) (hr:Room k callerA)
  (hY:∀ (w:World) (h:Heap),YP w h->(K w.params).In h)
  (F:∀ (w:World) (mg:Str->Option Value) (fa:Addr) (h:Heap),(K w.params).In h->h.Ns mainGlobals mg->mg d.name=some (.ref fa)->
   ∃ fd:FuncData,(∀ (s:Shared) (u:Value),BindsTo s fd ⟨[u],[]⟩ [(x,u)])/\
    ∀ base:Heap,(K w.params).In base->base.Ns mainGlobals mg->FnOk l.prog w (K w.params) mg base (CX w) k fa fd [x] (sp w))
  (hsp:∀ (w:World) (H:Hp) (a:Addr) (ns:List Int),ns.length<=n->Only H->SqL (K w.params) H a (ns.map V.int)->sp w [.ref a] H (fun v _=>v=.bl true) fun _ _ _=>False)
  (hCX:∀ (w:World) (H:Hp) (s:Shared) (e:Value) (s':Shared),CX w [] H s (fun _ _ _=>False) e s'->False) :
  PySem.W.WalkO q loose XP YP l.row.toRowW d [] (fun f vs=>PySem.call f vs):=by
 refine Att.attach_call hn hdf fun w s₀ s₁ mg mb fa o pm cd doc a vs ns G Y ho hd hcd hmg hobj hints hlen hg=>?_;have KX:=hY w _ Y;obtain ⟨fd,hb,hF⟩:=F w mg fa _ KX G.T.g hmg;exact law_call KX G.T.g G.T.b G.T.builtins G.T.nolimit hg hobj hints (Nat.le_trans hlen hn2) hr hF hb (fun H hO hS=>hsp w H a ns hlen hO hS) fun H e s'=>hCX w H s₁ e s'
end L2
namespace L2
open PySem PySem.Spec PyProof.Rows
def Jo (s:Stmt) (j:Nat):Stmt:=match s with
 | .ClassDef _ _ _ body _ _ _ _ _ _ _=>body.getD j (.Pass ⟨0,0,0,0⟩)
 | _=>.Pass ⟨0,0,0,0⟩
def J23 (s:Stmt):Arguments:=match s with
 | .FunctionDef _ a _ _ _ _ _ _ _ _=>a
 | _=>{ posonlyargs:=[],args:=[],vararg:=none,kwonlyargs:=[],kw_defaults:=[],kwarg:=none,defaults:=[] }
def J1i (s:Stmt):List Stmt:=match s with
 | .FunctionDef _ _ b _ _ _ _ _ _ _=>b
 | _=>[]
def J6 (s:Stmt):Scope:=match s with
 | .FunctionDef _ _ _ _ _ _ sc _ _ _=>sc
 | _=>{ kind:=.function,names:=[],isGenerator:=false,isCoroutine:=false }
abbrev CX0:CXT:=fun _ _ _ _ _ _=>False
abbrev E0:XK:=fun _ _ _=>False
theorem pass0 {X:Cx}:J3r CX0 X E0:=fun _ _ _ _ _ _ _ h=>h.elim
structure Fun (K:Frag) (x qual:Str) (st:Stmt) (f:Addr) (fd:FuncData):Prop where
 ex:∃ (oc:Value) (od:Option Addr) (kV doc pm:Value) (an:Option Addr) (cdv ct:Value) (osl:Array (Option Value)),
  fd=fnOf x qual (J23 st) (J1i st) (J6 st) .none kV doc pm an cdv ct/\K.lookup f=some ⟨oc,od,.func fd,osl⟩/\codeIn K cdv qual=true
 kp:keepIn K (.ref f)=true
section
variable {P:Program} {w:World} {K:Frag} {mg:Str->Option Value} {base:Heap}
theorem Fun.ok {x qual:Str} {st:Stmt} {f:Addr} {fd:FuncData} {N ps:List Str} {k:Nat} {sp:Sp} (F:Fun K x qual st f fd) (S:FnScope N ps (J6 st)) (len:∀ vs H Q E,sp vs H Q E->vs.length=ps.length)
  (hbody:∀ (cdv:Value) (A:Around) (outer:List Env) (s:Shared) (H:Hp) (vs:List V) (Q:VK) (E:XK),Room k (A.deeper (envOfC qual (J6 st) s.heap.objs.size f cdv))->sp vs H Q E->
   ∃ t,PSs (cxOf CX0 P w K mg base N qual (J6 st) f cdv A outer s H E).nox (J1i st) t/\t { nx:=fun _ H'=>Q .non H',rt:=Q } (start N vs) H):FnOk P w K mg base CX0 (k + 1) f fd ps sp:=by
 obtain ⟨oc,od,kV,doc,pm,an,cdv,ct,osl,rfl,lk,hcd⟩:=F.ex;refine fn_of lk hcd S len fun A outer s H vs Q E hr hsp=>?_;obtain ⟨t,h,q⟩:=hbody cdv A outer s H vs Q E hr hsp;exact ⟨t,h.nox,q⟩
theorem Fun.binds {x qual:Str} {st:Stmt} {f:Addr} {fd:FuncData} {ps:List Str} (F:Fun K x qual st f fd)
  (h:∀ (kV doc pm:Value) (an:Option Addr) (cdv ct:Value) (us:List Value),us.length=ps.length->bindArgs (fnOf x qual (J23 st) (J1i st) (J6 st) .none kV doc pm an cdv ct) ⟨us,[]⟩=pure (ps.zip us)):Binds K fd ps []:=by
 obtain ⟨oc,od,kV,doc,pm,an,cdv,ct,osl,rfl,lk,hcd⟩:=F.ex;exact .all (h kV doc pm an cdv ct)
theorem J18 {x qual:Str} {st:Stmt} {f:Addr} {oc:Value} {od an:Option Addr} {osl:Array (Option Value)} {kV doc pm cdv ct:Value} (l:K.lookup f=some ⟨oc,od,.func (fnOf x qual (J23 st) (J1i st) (J6 st) .none kV doc pm an cdv ct),osl⟩)
  (c:codeIn K cdv qual=true) (k:keepIn K (.ref f)=true):Fun K x qual st f (fnOf x qual (J23 st) (J1i st) (J6 st) .none kV doc pm an cdv ct):=⟨⟨oc,od,kV,doc,pm,an,cdv,ct,osl,rfl,l,c⟩,k⟩
end
theorem Jp {n:Nat} (h:n<=1000):n < sizeLine:=Nat.lt_of_le_of_lt h (by decide)
section
variable {X:Cx}
theorem pv (i:Nat) {x:Str} {pos:Pos} (hN:X.N[i]?=some x:=by rfl) (hv:Vis X.env.scope x:=by first | exact Or.inl rfl | exact Or.inr (Or.inl rfl) | exact Or.inr (Or.inr rfl)) (hd:(x == ("__debug__":Str))=false:=by decide)
  (hcd:(x == ("__classdict__":Str))=false:=by decide):PE X (.Name x pos) (tVar i):=pe_var hN hv hd hcd
end
theorem iteF {A B:Prop} (h:B):if false=true then A else B:=by
 rw [if_neg Bool.false_ne_true];exact h
theorem iteT {A B:Prop} (h:A):if true=true then A else B:=by
 rw [if_pos rfl];exact h
theorem iteNS {c A B:Prop} [Decidable c] (hc:c) (h:B):if (!decide c)=true then A else B:=by
 rw [decide_eq_true hc];exact iteF h
def Same (H H':Hp):Prop:=∀ b o,H b=some o->H' b=some o
theorem Same.refl (H:Hp):Same H H:=fun _ _ h=>h
theorem Same.trans {H H1 H2:Hp} (a:Same H H1) (b:Same H1 H2):Same H H2:=fun c o h=>b c o (a c o h)
theorem Same.free {H H':Hp} (e:Same H H') {l:Addr} (h:H' l=Option.none):H l=Option.none:=by
 cases q:H l with
 | none=>rfl
 | some o =>
  rw [e l o q] at h;cases h
theorem Same.seq {K:Frag} {H H':Hp} {a:Addr} {xs:List V} (e:Same H H') (h:SqL K H a xs):SqL K H' a xs:=by
 rcases h with (h | ⟨o,h⟩) | h
 ·exact .inl (.inl (e _ _ h))
 ·exact .inl (.inr ⟨o,e _ _ h⟩)
 ·exact .inr h
end L2
namespace L2
open PySem PySem.Spec PyProof.Rows
abbrev Cx.block (X:Cx) (N:List Str) (scope:Scope) (cl:List (Str × Addr)) (C:Addr) (fp:List Addr) (s:Shared) (H:Hp):Cx :=
 { X with N:=N,s₀:=s,H₀:=H,env:=compEnvC scope cl C X.env,outer:=X.stack,stack:=X.stack,ex:=fp,fn:=fun _=>false,pn:=[],xe:=fun _ _=>False }
theorem J3t {env:Env}:∀ {names:List (Str × NameKind)} {x:Str} {k:NameKind},(names.map fun (n,k)=>if (k == NameKind.free && env.scope.kind == .function && env.kindOf n == some .cell) then (n,NameKind.cell) else (n,k)).lookup x=some k->
  k=.cell\/k=.free->(∀ p∈names,p.2≠.cell)->∃ p∈names,p.1=x/\p.2=.free
 | [],_,_,h,_,_=>by simp at h
 | (n,q) :: r,x,k,h,hk,hc=>by
  have ih:=@J3t env r x k;have hq:q≠.cell:=hc (n,q) mem_cons_self;rw [map_cons] at h;by_cases hx:x=n
  ·subst hx;by_cases e:(q == NameKind.free && env.scope.kind == .function && env.kindOf x == some .cell)=true
   ·simp only [Bool.and_eq_true] at e;exact ⟨(x,q),mem_cons_self,rfl,by simpa using e.1.1⟩
   ·have e2:List.lookup x ((x,q) :: List.map (fun (n,k)=>if (k == NameKind.free && env.scope.kind == .function && env.kindOf n == some .cell) then (n,NameKind.cell) else (n,k)) r)=some k:=by
     simpa only [e,if_false,Bool.false_eq_true] using h
    rw [List.lookup_cons_self] at e2;cases e2;rcases hk with hk | hk
    ·exact absurd hk hq
    ·exact ⟨(x,q),mem_cons_self,rfl,hk⟩
  ·have hb:(x == n)=false:=by simpa using hx
   have h':(List.map (fun (n,k)=>if (k == NameKind.free && env.scope.kind == .function && env.kindOf n == some .cell) then (n,NameKind.cell) else (n,k)) r).lookup x=some k:=by
    by_cases e:(q == NameKind.free && env.scope.kind == .function && env.kindOf n == some .cell)=true
    ·simp only [e,if_true,List.lookup_cons,hb] at h;exact h
    ·simp only [e,if_false,Bool.false_eq_true,List.lookup_cons,hb] at h;exact h
   obtain ⟨p,hp,e1,e2⟩:=ih h' hk fun p hp=>hc p (mem_cons_of_mem _ hp);exact ⟨p,mem_cons_of_mem _ hp,e1,e2⟩
def capv (σ:St) (js:List Nat):St:=js.map fun j=>(σ[j]?).join
theorem capv_get {σ:St} {js:List Nat} {k:Nat} {v:V} (h:(capv σ js)[k]?=some (some v)):∃ j,js[k]?=some j/\σ[j]?=some (some v):=by
 unfold capv at h;rw [getElem?_map] at h
 cases e:js[k]? with
 | none=>rw [e] at h;cases h
 | some j =>
  rw [e] at h;refine ⟨j,rfl,?_⟩
  cases e2:σ[j]? with
  | none=>rw [Option.map_some,e2] at h;cases h
  | some o=>rw [Option.map_some,e2] at h;exact congrArg some (Option.some.inj h)
section
variable {X:Cx} {elt iter:Expr} {x y:Str} {px py:Pos} {scope:Scope} {cl:List (Str × Addr)} {pos spos:Pos} {wi:TI} {te:TE} {caps:List Str} {js:List Nat} {i:Nat}
theorem J50 {pins:List (Addr × Obj)} {σ:St} {H:Hp} {s:Shared} {C:Addr} {fp:List Addr} (I:Inv X pins σ H s) (hC:s.heap.objs.size<=C) (f2:∀ b∈fp,FpOk X pins H b) (fl:∀ b∈fp,b < s.heap.objs.size)
  (hkind:scope.kind=.function) (hcell:∀ p∈scope.names,p.2≠.cell) (hsub:∀ p∈cl,X.env.cells.lookup p.1=some p.2) (hhas:∀ p∈scope.names,p.2=.free->∃ c,cl.lookup p.1=some c) :
  (X.block (x :: caps) scope cl C fp s H).Ok where
 mod:=I.ok.mod
 kind:=hkind
 glob:=I.ok.glob
 blt:=I.ok.blt
 above:=hC
 inj:=fun a b c h1 h2=>I.ok.inj a b c (hsub _ (mem_of_lookup h1)) (hsub _ (mem_of_lookup h2))
 has:=fun a h=>by
  have h':(∃ k,(relabel scope X.env).names.lookup a=some k/\(k=.cell\/k=.free)):=by
   rcases h with h | h
   ·exact ⟨_,h,.inl rfl⟩
   ·exact ⟨_,h,.inr rfl⟩
  obtain ⟨k,h1,hk⟩:=h';obtain ⟨p,hp,e1,e2⟩:=J3t h1 hk hcell;rw [<- e1];exact hhas p hp e2
 cab:=fun _ _ h=>nomatch h
 hd:=I.ok.hd
 frames:=I.ok.frames
 stk:=.inl rfl
 exf:=fun b hb=>⟨Nat.ne_of_lt (Nat.lt_of_lt_of_le (fl b hb) hC),fun a c e=>(f2 b hb).2.2.2.2.1 a c (hsub _ (mem_of_lookup e))⟩
 bs:=I.bs
 bsz:=Nat.le_trans I.ok.bsz I.sz
 noex:=fun b o e hb=>by
  rcases (f2 b hb).2.2.2.1 with z | z
  ·exact I.ok.noex b o e z
  ·exact absurd (Nat.lt_of_lt_of_le (lt_size e) (Nat.le_trans I.ok.bsz z)) (Nat.lt_irrefl _)
 exfs:=fun b hb z=>by
  rcases mem_cons.mp (I.stkSub b z) with e | e
  ·exact (f2 b hb).2.1 e
  ·exact (f2 b hb).2.2.1 e
 funs:=I.stack
 frf:=I.stkFree
end
section
variable {X:Cx}
def rInsert:V->List V->Hp->VK->Prop:=fun x vs H Q=>∃ (l:Addr) (xs:List V) (k:Nat) (y:V),x=.ref l/\vs=[.int k,y]/\H l=some (.lst xs)/\k<=xs.length/\xs.length < sizeLine/\Q .non (upd H l (.lst (xs.take k ++ y :: xs.drop k)))
theorem mt_insert:MtM X "list.insert" rInsert:=by
 intro pins s σ H x vs v us Q I rx rv h;obtain ⟨l,xs,k,y,rfl,rfl,hH,hk,hz,q⟩:=h;cases rx;obtain ⟨u1,u2,rfl,⟨t,rfl⟩,r2⟩:=rv.two;obtain ⟨z,its,n,r,hl,e⟩:=I.lstM hH;have hn:=J6a;obtain ⟨x,hx⟩:∃ x:Int,x=(k:Int):=⟨_,rfl⟩;rw [<- hx];have hfit:¬ (!Builtin.List.listFitsIndex x)=true:=by
  rw [fitsIndex_both (by omega) (by omega)];exact Bool.false_ne_true
 have hsz:its.toArray.size<=sizeLine:=by rw [size_toArray,<- hl];exact z
 refine call_meets F.slot_list_insert ⟨_,e,rfl⟩ F.entry_list_insert (F.args_list_insert_3 _ _ _) (PySem.AutoSeq1.list_insert_list_int_val_1 l its.toArray n x t u2 hfit hsz) ⟨e,?_⟩;refine ⟨.non,_,I.lset (its':=its.take k ++ u2 :: its.drop k) hH e ?_ ((r.take k).append (.cons r2 (r.drop k))) ?_,rfl,q⟩
 ·have e1:(if x < 0 then (x + (its.toArray.size:Int)).toNat else min x.toNat its.toArray.size)=k:=by
   rw [if_neg (by omega),size_toArray];omega
  dsimp only;rw [e1];apply Array.ext';simp;rw [take_of_length_le (by rw [length_drop];exact Nat.le_refl _)]
 ·rw [length_append,length_cons,length_take,length_drop];omega
end
section
variable {X:Cx}
abbrev SqI (K:Frag) (H:Hp) (p:Addr) (xs:List V):Prop:=SqL K H p xs\/SqT K H p xs
theorem J2u {its:List Value} {ns:List Int} (hi:IntsAre its ns):∃ xs:Array (Int × Tok),its.toArray=intItems xs/\preSum (numAt xs) xs.size=ns.sum/\ns=xs.toList.map (·.1):=by
 obtain ⟨xs,hx⟩:=hi.allInts.items;have e1:ns=xs.toList.map (·.1):=by
  rw [<- nums_intItems,<- hx];exact (show numsOf its.toArray.toList=ns from hi.numsOf).symm
 refine ⟨xs,hx,?_,e1⟩;rw [preSum_eq,take_of_length_le (by simp),e1]
theorem J6f (hc:X.calm=true):CallR X (.builtin "sum") (fun xs H Q=>∃ (p:Addr) (ns:List Int),xs=[.ref p]/\SqI X.K H p (ns.map V.int)/\Q (.int ns.sum) H):=by
 intro pins s σ H xs us Q I r h;obtain ⟨p,ns,rfl,hq,q⟩:=h;obtain ⟨u,rfl,rx⟩:=vals1 r;cases rx;have hh:=I.ok.hd hc;rcases hq with hq | hq
 ·obtain ⟨its,r',pl,hz⟩:=I.list hq;obtain ⟨xs,hx,e2,_⟩:=J2u (Js r');refine sum_intListG hh (hx ▸ pl.isList) fun h' tk t' hk=>?_;rw [e2];exact ⟨.int ns.sum,H,I.kept hk,⟨t',rfl⟩,q⟩
 ·obtain ⟨its,r',pl,hz⟩:=I.tuple hq;obtain ⟨xs,hx,e2,_⟩:=J2u (Js r');refine PySem.W.ktm_sumG hh (hx ▸ (show s.heap.IsTuple p its.toArray from pl)) fun h' tk t' hk=>?_;rw [e2];exact ⟨.int ns.sum,H,I.kept hk,⟨t',rfl⟩,q⟩
theorem J67 {prog:Program} {w:World} {A:Around} {E:Value->Shared->Prop} {s:Shared} {l:Addr} {xs:Array (Int × Tok)} {Q:Value->Shared->Prop} (hh:A.handled=none) (ht:s.heap.IsTuple l (intItems xs)) (hne:0 < xs.size)
  (h:∀ v h' tk,(intItems xs)[argBest (fun i j=>decide (numAt xs i < numAt xs j)) (xs.size - 1)]?=some v->(∀ b o,s.heap.get? b=some o->h'.get? b=some o)->Q v { s with heap:=h',toks:=tk }) :
  wpAny (model prog w) A (call (.builtin "min") [.ref l]) Q E s:=by
 obtain ⟨o,ho,hc,n,hd⟩:=id ht;have hne':l≠s.heap.objs.size:=Nat.ne_of_lt (lt_size ho);refine call_min_walk (wpAny_pyIter_tuple ht ?_);refine ⟨s.heap.objs.size,_,_,_,_,_,_,rfl,Walks.tuple (A:=A.in1) hh _ l hne' (intItems xs),⟨⟨_,get?_push_size _ rfl,rfl,rfl⟩,ht.at fun o e=>get?_push_of_some _ e⟩,fun b hb=>?_,by simpa [intItems] using hne,CmpOf.ints_lt (numAt xs) (fun _ _=>intItems_at),fun v h' tk hP hk=>?_⟩
 ·rcases mem_cons.mp hb with rfl | hb
  ·exact lt_size (get?_push_size _ rfl)
  ·obtain rfl:=mem_singleton.mp hb;exact lt_size (get?_push_of_some _ ho)
 ·refine h v h' tk (by simpa [intItems] using hP) fun b o e=>hk b o (fun hb=>absurd (lt_size e) ((mem_singleton.mp hb) ▸ Nat.lt_irrefl _)) (get?_push_of_some _ e)
theorem best_min {ns:List Int} {xs:Array (Int × Tok)} (hns:ns=xs.toList.map (·.1)) (hsz:0 < xs.size) :
  numAt xs (argBest (fun i j=>decide (numAt xs i < numAt xs j)) (xs.size - 1))∈ns/\∀ a∈ns,numAt xs (argBest (fun i j=>decide (numAt xs i < numAt xs j)) (xs.size - 1))<=a:=by
 obtain ⟨h1,h2⟩:=argBest_lt (numAt xs) (xs.size - 1);refine ⟨?_,fun a ha=>?_⟩
 ·rw [hns,numAt_eq];exact getD_mem (by rw [length_map,length_toList];omega)
 ·rw [hns] at ha;obtain ⟨j,hj,rfl⟩:=mem_getD ha;rw [length_map,length_toList] at hj;rw [<- numAt_eq];exact h2 j (by omega)
theorem call_min (hc:X.calm=true):CallR X (.builtin "min") (fun xs H Q=>∃ (p:Addr) (ns:List Int),xs=[.ref p]/\SqI X.K H p (ns.map V.int)/\0 < ns.length/\∀ M,M∈ns->(∀ a∈ns,M<=a)->Q (.int M) H):=by
 intro pins s σ H xs us Q I r h;obtain ⟨p,ns,rfl,hq,hne,q⟩:=h;obtain ⟨u,rfl,rx⟩:=vals1 r;cases rx;have hh:=I.ok.hd hc;rcases hq with hq | hq
 ·obtain ⟨its,r',pl,hz⟩:=I.list hq;obtain ⟨xs,hx,_,e1⟩:=J2u (Js r');have hsz:0 < xs.size:=by rw [e1,length_map,length_toList] at hne;exact hne
  refine min_intList hh (hx ▸ pl.isList) hsz fun v h' tk hv hk=>?_;obtain ⟨t,rfl⟩:=intItems_at hv;obtain ⟨b1,b2⟩:=best_min e1 hsz;exact ⟨.int _,H,I.kept hk,⟨t,rfl⟩,q _ b1 b2⟩
 ·obtain ⟨its,r',pl,hz⟩:=I.tuple hq;obtain ⟨xs,hx,_,e1⟩:=J2u (Js r');have hsz:0 < xs.size:=by rw [e1,length_map,length_toList] at hne;exact hne
  refine J67 hh (hx ▸ (show s.heap.IsTuple p its.toArray from pl)) hsz fun v h' tk hv hk=>?_;obtain ⟨t,rfl⟩:=intItems_at hv;obtain ⟨b1,b2⟩:=best_min e1 hsz;exact ⟨.int _,H,I.kept hk,⟨t,rfl⟩,q _ b1 b2⟩
end
end L2
namespace L2
open PySem PySem.Spec PyProof.Rows
section
variable {prog:Program} {w:World} {A:Around} {E:Value->Shared->Prop} {s:Shared}
theorem J5p {l:Addr} {vs:List Value} {Q:List Value->Shared->Prop} (hl:s.heap.IsTuple l vs.toArray)
  (h:Q vs { s with heap:=(s.heap.push (seqObj "list" #[] 0)).update s.heap.objs.size (Obj.mapSeq (· ++ vs.toArray)) }) (hsz:vs.length<=sizeLine) :
  wpAny (model prog w) A (collect (.ref l)) Q E s:=by
 obtain ⟨o,ho,hc,n,hd⟩:=id hl;unfold collect;refine wpAny_bind (wpAny_runValue (codeAny_builtin entry_proto_collect' ?_));show wpAny _ _ (do again (.builtin "list.__iadd__" ⟨[<- newList [],.ref l],[]⟩)) _ _ s;refine wpAny_bind (wpAny_newList (wpAny_pure ⟨Code.quiet_builtin _ (by decide +kernel),codeAny_builtin entry_list_iadd' ?_⟩));show wpAny _ _ (Builtin.List.listExtendWith (.ref s.heap.objs.size) (.ref l) (.ref s.heap.objs.size)) _ _ { s with heap:=s.heap.push (seqObj "list" #[] 0) };unfold Builtin.List.listExtendWith;have ho':(s.heap.push (seqObj "list" #[] 0)).get? l=some o:=get?_push_of_some _ ho;refine wpAny_bind (wpAny_typeOf (T:="tuple") ⟨o,ho',hc⟩ ?_);have ht:(Value.type "tuple" == Value.type "tuple")=true:=by rfl
 rw [if_pos (by rw [ht];simp)];refine wpAny_bind (listItems_at ho' hd ?_);refine wpAny_bind (listItems_at (xs:=#[]) (n:=0) (get?_push_size _ rfl) rfl ?_);rw [if_neg (by simp)];refine wpAny_bind (listUpdate_at (xs:=#[]) (n:=0) (get?_push_size _ rfl) rfl ?_ (Nat.zero_le _) (by show (#[] ++ vs.toArray).size<=sizeLine + 1;simp only [Array.size_append,size_toArray,List.length_nil];omega));refine wpAny_pure ?_;show wpAny (model prog w) A (do
   let o <- load s.heap.objs.size
   match o.data with
   | .seq xs _=>pure xs.toList
   | _=>unsupported "internal:collect") Q E { s with heap:=(s.heap.push (seqObj "list" #[] 0)).update s.heap.objs.size (Obj.mapSeq (· ++ vs.toArray)) }
 refine wpAny_bind (wpAny_load (get?_update_seq (get?_push_size _ rfl) _) ?_);show wpAny _ _ (pure ((#[]:Array Value) ++ vs.toArray).toList) Q E _;rw [show ((#[]:Array Value) ++ vs.toArray).toList=vs by simp];exact wpAny_pure h
theorem J5u {l:Addr} {vs:List Value} {ns:List Int} {Q:Value->Shared->Prop} (hl:s.heap.IsTuple l vs.toArray) (hI:IntsAre vs ns) (h64:vs.length < 64)
  (h:∀ (out:Array Value) (ns':List Int),IntsAre out.toList ns'->ns'.Perm ns->ns'.Pairwise (·<=·)->Q (.ref (s.heap.objs.size + 1)) { s with heap:=sortedAll s.heap vs out }) :
  wpAny (model prog w) A (call (.builtin "sorted") [.ref l]) Q E s:=by
 refine Calls.call_function_entry kind_sorted plain_sorted entry_sorted (args_sorted1 _) ?_;unfold Builtin.«sorted»;refine wpAny_bind (m:=checkCount "sorted" 1 1 _) (wpAny_pure ?_);refine wpAny_bind (J5p hl ?_ (Nat.le_of_lt (Nat.lt_of_lt_of_le h64 (by rw [sizeLine_eq];decide))));refine wpAny_bind (wpAny_newList ?_);have hsz:((s.heap.push (seqObj "list" #[] 0)).update s.heap.objs.size (Obj.mapSeq (· ++ vs.toArray))).objs.size=s.heap.objs.size + 1:=by
  rw [Heap.size_update,size_push']
 have hoL:(((s.heap.push (seqObj "list" #[] 0)).update s.heap.objs.size (Obj.mapSeq (· ++ vs.toArray))).push (seqObj "list" vs.toArray 0)).get? (s.heap.objs.size + 1)=some (seqObj "list" vs.toArray 0):=by
  rw [<- hsz];exact get?_push_size _ rfl
 show wpAny _ _ _ _ _ { s with heap:=((s.heap.push (seqObj "list" #[] 0)).update s.heap.objs.size (Obj.mapSeq (· ++ vs.toArray))).push (seqObj "list" vs.toArray 0) };rw [hsz];refine wpAny_bind (wpAny_holding (wpAny_call_entry slot_list_sort ⟨_,hoL,rfl⟩ entry_list_sort (list_sort_tree hoL hI h64 fun out ns' a1 a2 a3=>⟨_,rfl,?_⟩) (args_list_sort _)));exact wpAny_pure ⟨_,rfl,h out ns' a1 a2 a3⟩
end
section
variable {X:Cx}
theorem J41:CallR X (.builtin "sorted") (fun xs H Q=>∃ (p:Addr) (ns:List Int),xs=[.ref p]/\SqI X.K H p (ns.map V.int)/\ns.length < 64/\∀ l (ns':List Int),H l=none->ns'.Perm ns->ns'.Pairwise (·<=·)->Q (.ref l) (upd H l (.lst (ns'.map V.int)))):=by
 intro pins s σ H xs us Q I r h;obtain ⟨p,ns,rfl,hq,h64,q⟩:=h;obtain ⟨u,rfl,rx⟩:=vals1 r;cases rx;have fin:∀ (its:List Value) (out:Array Value) (ns':List Int),IntsAre out.toList ns'->ns'.Perm ns->ns'.Pairwise (·<=·)->EP X pins σ Q (.ref (s.heap.objs.size + 1)) { s with heap:=sortedAll s.heap its out }:=fun its out ns' a1 a2 a3=>by
  obtain ⟨e,he⟩:=sortedAll_at s.heap its out;have hz:(ns'.map V.int).length<=sizeLine:=by
   rw [length_map,a2.length_eq];exact Nat.le_of_lt (Jp (by omega))
  refine ⟨.ref _,_,I.laid (t':=s.toks) (a:=s.heap.objs.size + 1) (o:=.lst (ns'.map V.int)) (fun b o e=>sortedAll_old e) (Nat.le_succ _) ⟨hz,out.toList,e,J2z a1,he⟩,rfl,q _ ns' (I.hok.fresh (Nat.le_succ _)) a2 a3⟩
 rcases hq with hq | hq
 ·obtain ⟨its,r',pl,hz⟩:=I.list hq;have hl:=r'.length;rw [length_map] at hl;exact sorted_ints pl.isList (Js r') (by omega) (fin its)
 ·obtain ⟨its,r',pl,hz⟩:=I.tuple hq;have hl:=r'.length;rw [length_map] at hl;exact J5u (show s.heap.IsTuple p its.toArray from pl) (Js r') (by omega) (fin its)
theorem J2x:CallR X (.type "range") (fun xs H Q=>∃ j:Int,xs=[.int j]/\∀ r,H r=none->Q (.ref r) (upd H r (.rng 0 j))):=by
 intro pins s σ H xs us Q I r h;obtain ⟨j,rfl,q⟩:=h;obtain ⟨u,rfl,t,rfl⟩:=vals1 r;refine call_range_1 ?_;exact ⟨.ref s.heap.objs.size,_,I.laid (o:=.rng 0 j) (fun b o e=>get?_push_of_some _ e) (Nat.le_refl _) ⟨_,_,_,get?_push_size _ rfl⟩,rfl,q _ (I.hok.fresh (Nat.le_refl _))⟩
theorem J52 {f:Nat->Int}:∀ {n:Nat} {us:List Value},us.length=n->(∀ (i:Nat) (v:Value),us[i]?=some v->∃ t,v=Value.int (f i) t)->Vals ((List.range n).map fun i=>V.int (f i)) us:=by
 intro n us hl h
 induction n generalizing f us with
 | zero=>cases us with
  | nil=>exact .nil
  | cons a r=>simp at hl
 | succ n ih=>cases us with
  | nil=>simp at hl
  | cons a r =>
   obtain ⟨t,e⟩:=h 0 a rfl;subst e;rw [List.range_succ_eq_map,map_cons,map_map];exact .cons ⟨t,rfl⟩ (ih (f:=fun i=>f (i + 1)) (by simpa using hl) fun i v e=>h (i + 1) v (by simpa using e))
theorem Jw (hc:X.calm=true):CallR X (.type "list") (fun xs H Q=>∃ (r:Addr) (n:Nat),xs=[.ref r]/\H r=some (.rng 0 (n:Int))/\n<=1000/\∀ l,H l=none->Q (.ref l) (upd H l (.lst (((List.range n).map fun (i:Nat)=>(i:Int)).map V.int)))):=by
 intro pins s σ H xs us Q I r h;obtain ⟨p,n,rfl,hq,hn,q⟩:=h;simp only [map_map,Function.comp_def] at q;obtain ⟨u,rfl,rx⟩:=vals1 r;cases rx;obtain ⟨t,u,v,e⟩:=I.hok p _ hq;refine call_list_range (I.ok.hd hc) (show IsRange s.heap p 0 (n:Int) 1 t u v from e) (small_one (by omega) (by omega) (by omega) (by omega)) (by rw [rangeSize_one];split <;> omega) (n:=n) (by omega) fun h' tk acc' c' hk hS' hacc=>?_;have hv:Vals ((List.range n).map fun (i:Nat)=>V.int (i:Int)) acc'.toList:=J52 (by rw [length_toList];exact hacc.1) fun i v e=>by
  obtain ⟨t,rfl⟩:=hacc.2 i v (by simpa using e);exact ⟨t,by simp⟩
 refine ⟨.ref s.heap.objs.size,_,I.laid (o:=.lst ((List.range n).map fun (i:Nat)=>V.int (i:Int))) hk (Nat.le_refl _) ⟨?_,acc'.toList,c',hv,by simpa using hS'⟩,rfl,q _ (I.hok.fresh (Nat.le_refl _))⟩;rw [length_map,length_range];exact Nat.le_of_lt (Jp hn)
def Kin (xs ys:List V):Prop:=∀ a∈xs,∀ b∈ys,flatV a=true/\flatV b=true/\eqV a b=decide (a=b)
theorem Kin.ints (ns ms:List Int):Kin (ns.map V.int) (ms.map V.int):=fun a ha b hb=>by
 obtain ⟨i,_,rfl⟩:=mem_map.mp ha;obtain ⟨j,_,rfl⟩:=mem_map.mp hb;refine ⟨rfl,rfl,?_⟩;show (i == j)=decide (V.int i=V.int j);by_cases e:i=j
 ·subst e;simp
 ·rw [decide_eq_false (fun h=>e (V.int.inj h))];simpa using e
def eAt (xs ys:List V) (j:Nat):Bool:=match xs[j]?,ys[j]? with
 | some a,some b=>eqV a b
 | _,_=>true
theorem all_eAt {xs ys:List V} (hl:xs.length=ys.length) (hk:Kin xs ys):((List.range xs.length).all (eAt xs ys))=decide (xs=ys):=by
 rw [Bool.eq_iff_iff,all_eq_true,decide_eq_true_iff];constructor
 ·intro h;apply List.ext_getElem?;intro j;by_cases hj:j < xs.length
  ·have h1:xs[j]?=some xs[j]:=List.getElem?_eq_getElem hj;have h2:ys[j]?=some (ys[j]'(hl ▸ hj)):=List.getElem?_eq_getElem (hl ▸ hj);have:=h j (mem_range.mpr hj);unfold eAt at this;rw [h1,h2] at this;have k:=(hk _ (List.getElem_mem hj) _ (List.getElem_mem (hl ▸ hj))).2.2;have this:eqV xs[j] (ys[j]'(hl ▸ hj))=true:=this;rw [k,decide_eq_true_iff] at this;rw [h1,h2,this]
  ·rw [getElem?_eq_none (by omega),getElem?_eq_none (by omega)]
 ·rintro rfl j hj;have hj':=mem_range.mp hj;unfold eAt;rw [List.getElem?_eq_getElem hj'];have k:=(hk _ (List.getElem_mem hj') _ (List.getElem_mem hj')).2.2;show eqV _ _=true;rw [k];simp
theorem eAt_at {A:Around} {s:Shared} {xs ys:List V} {its its2:List Value} (r:Vals xs its) (r2:Vals ys its2) (hk:Kin xs ys) (j:Nat) (h1:j < its.toArray.size) (h2:j < its2.toArray.size):SeqAt.EqAt A s its.toArray[j] its2.toArray[j] (eAt xs ys j):=by
 have l1:=r.length;have l2:=r2.length;rw [size_toArray] at h1 h2;have g1:xs[j]?=some (xs[j]'(by omega)):=List.getElem?_eq_getElem (by omega);have g2:ys[j]?=some (ys[j]'(by omega)):=List.getElem?_eq_getElem (by omega);obtain ⟨u,e1,ru⟩:=r.get g1;obtain ⟨v,e2,rv⟩:=r2.get g2;have e1':its.toArray[j]=u:=by
  have:=List.getElem?_eq_getElem h1;rw [e1] at this;simpa using (Option.some.inj this).symm
 have e2':its2.toArray[j]=v:=by
  have:=List.getElem?_eq_getElem h2;rw [e2] at this;simpa using (Option.some.inj this).symm
 obtain ⟨f1,f2,_⟩:=hk _ (List.getElem_mem (by omega:j < xs.length)) _ (List.getElem_mem (by omega:j < ys.length));unfold eAt;rw [g1,g2,e1',e2'];exact eqAt_V ru rv f1 f2
def rNeL (K:Frag):R2:=fun x y H Q=>∃ p q xs ys,x=.ref p/\y=.ref q/\SqL K H p xs/\SqL K H q ys/\Kin xs ys/\Q (.bl (!decide (xs=ys))) H
theorem op_neL (hu:X.A.units < cLine):OpR X (compareOp .NotEq) (rNeL X.K):=by
 intro pins s σ H x y v u Q I rx ry h;obtain ⟨p,q,xs,ys,rfl,rfl,hp,hq,hk,hQ⟩:=h;cases rx;cases ry;obtain ⟨its,r,pl,_⟩:=I.list hp;obtain ⟨its2,r2,pl2,_⟩:=I.list hq;have l1:=r.length;have l2:=r2.length;by_cases hl:xs.length=ys.length
 ·refine SeqAt.RcNeAt.lists pl.isList pl2.isList (by rw [size_toArray,size_toArray];omega) hu (fun j h1 h2=>eAt_at r r2 hk j h1 h2) _ _ _ _ ?_;rw [size_toArray,<- l1,all_eAt hl hk];exact ⟨.bl _,H,I,rfl,hQ⟩
 ·refine SeqAt.RcNeAt.lists_lengths pl.isList pl2.isList (by rw [size_toArray,size_toArray];simp;omega) hu _ _ _ _ ?_;rw [decide_eq_false (fun e=>hl (congrArg List.length e))] at hQ;exact ⟨.bl true,H,I,rfl,hQ⟩
end
end L2
namespace L2
open PySem PySem.Spec PyProof.Rows
theorem J3e:fillsNumberSlot (.type "tuple") "mul"=pure false :=
 PySem.fillsNumberSlot_seq (id:="tuple.__mul__") (r:=some (.builtin "tuple.__rmul__")) F.slot_tuple_mul.lookup (by decide +kernel) F.slot_tuple_rmul.lookup (by decide +kernel)
theorem J61:seqRepeat? (.type "tuple")=pure (some (.builtin "tuple.__mul__")):=by
 unfold seqRepeat?;rw [PySem.seqSlot_of (T:="tuple") (name:="__mul__") (id:="tuple.__mul__") F.slot_tuple_mul.lookup (by decide +kernel),PySem.seqSlot_of (T:="tuple") (name:="__rmul__") (id:="tuple.__rmul__") F.slot_tuple_rmul.lookup (by decide +kernel)];rfl
theorem J4t (a:Int) (t:Tok) (l:Addr) (items:Array Value) (n:Nat) (dd:Option Addr) (sl:Array (Option Value)) :
  Meets (Builtin.«int.__rmul__» ⟨[.int a t,.ref l],[]⟩) (fun _ R s=>s.heap.get? l=some { cls:=.type "tuple",dict:=dd,data:=.seq items n,slots:=sl }/\R (.ok (.ret Value.notImplemented)) s) :=
 .of_wp fun prog w A R s h=>by obtain ⟨hp,g,d,tk,os⟩:=s;obtain ⟨hl,h⟩:=h;wp_walk;exact ⟨_,rfl,h⟩
theorem tuple_mulW1 (l:Addr) (items:Array Value) (n:Nat) (dd:Option Addr) (sl:Array (Option Value)) (t:Tok) :
  Meets (Builtin.«tuple.__mul__» ⟨[.ref l,.int 1 t],[]⟩) (fun _ R s=>s.heap.get? l=some { cls:=.type "tuple",dict:=dd,data:=.seq items n,slots:=sl }/\R (.ok (.ret (.ref l))) { s with heap:=s.heap,toks:=s.toks }) :=
 .of_wp fun prog w A R s h=>by
  obtain ⟨hp,g,d,tk,os⟩:=s;obtain ⟨hl,h⟩:=h;have f1:=AutoSeq1.idx_int;have f2:=AutoSeq1.sub_tuple_tuple
  wp_walk using AutoSeq1.wpAny_loadPart' hl;exact ⟨_,rfl,h⟩
theorem tuple_mulWn (l:Addr) (items:Array Value) (n:Nat) (dd:Option Addr) (sl:Array (Option Value)) (k:Int) (t:Tok) (h1:1 < k) (h2:k < 2 ^ 63) (hne:items.isEmpty=false) (hsz:items.size * k.toNat<=sizeLine) :
  Meets (Builtin.«tuple.__mul__» ⟨[.ref l,.int k t],[]⟩) (fun _ R s=>s.heap.get? l=some { cls:=.type "tuple",dict:=dd,data:=.seq items n,slots:=sl }/\
   R (.ok (.ret (.ref s.heap.objs.size))) { s with heap:=s.heap.push { cls:=.type "tuple",data:=.seq ((List.replicate k.toNat items).foldl (· ++ ·) #[]) },toks:=s.toks }) :=
 .of_wp fun prog w A R s h=>by
  obtain ⟨hp,g,d,tk,os⟩:=s;obtain ⟨hl,h⟩:=h;have f1:=AutoSeq1.idx_int;have f2:=AutoSeq1.sub_tuple_tuple;have c1:¬ (decide (k < -(2 ^ 63)) || decide (k>=2 ^ 63))=true:=by simp;omega
  have c2:¬ (items.isEmpty || k == 1)=true:=by rw [hne];simp;omega
  have c3:¬ (decide (k<=0) || items.isEmpty)=true:=by rw [hne];simp;omega
  have ek:(items.size:Int) * k=((items.size * k.toNat:Nat):Int):=by
   rw [Int.natCast_mul,Int.toNat_of_nonneg (by omega)]
  have hs0:(sizeLine:Nat)<=(2 ^ 63 - 1) / 8:=by decide
  have c4:¬ ((items.size:Int) * k > (2 ^ 63 - 1) / 8):=by rw [ek];omega
  have c5:¬ Builtin.Tuple.tupleTooMany ((items.size:Int) * k)=true:=by
   unfold Builtin.Tuple.tupleTooMany;rw [ek,decide_eq_true_iff];omega
  have hsz2:((List.replicate k.toNat items).foldl (· ++ ·) #[]).size<=sizeLine:=by
   rw [AutoSeq1.size_joined];simp;rw [Nat.mul_comm];exact hsz
  wp_walk using AutoSeq1.wpAny_loadPart' hl
  refine wpAny_ite_false (decide_eq_false c1) ?_
  wp_walk using AutoSeq1.wpAny_loadPart' hl
  refine wpAny_ite_false (decide_eq_false c2) ?_;refine wpAny_ite_false (decide_eq_false c3) ?_;refine wpAny_ite_false (decide_eq_false c4) ?_;refine wpAny_ite_false (decide_eq_false c5) ?_
  wp_walk using AutoSeq1.wpAny_loadPart' hl
  exact ⟨_,rfl,h⟩
section
variable {X:Cx}
def rRepT:R2:=fun x y H Q=>∃ (l:Addr) (k:Int) (xs:List V),x=.ref l/\y=.int k/\H l=some (.tup xs)/\xs≠[]/\1<=k/\k < 2 ^ 63/\xs.length * k.toNat<=sizeLine/\(k=1->Q (.ref l) H)/\(1 < k->∀ p,H p=none->Q (.ref p) (upd H p (.tup (List.replicate k.toNat xs).flatten)))
theorem op_repT:OpR X (binaryOp .Mult) rRepT:=by
 intro pins s σ H x y v u Q I rx ry h;obtain ⟨l,k,xs,rfl,rfl,hH,hne,h1,h2,hz,q1,q2⟩:=h;cases rx;obtain ⟨t,rfl⟩:=ry;obtain ⟨its,r,pl,hz'⟩:=I.tuple (SqT.of hH);obtain ⟨⟨cls,dd,data,sl⟩,ho,hc,n,hd⟩:=id pl;simp only at hc hd;subst hc hd;have hl:=r.length;refine wpAny_binaryOp_repeat_ref (T:="tuple") (U:="int") (by decide) ⟨_,ho,rfl⟩ (fun s'=>typeIs_int s' k t) J3e F.fills_int_mul F.slot_int_rmul J61 F.slot_int_index.lookup
  (call_meets F.slot_int_rmul (typeIs_int s k t) F.entry_int_rmul (F.args_int_rmul_2 _ _) (J4t k t l its.toArray n dd sl) ⟨ho,rfl,⟨_,ho,rfl⟩,?_⟩)
 by_cases e:k=1
 ·subst e;exact call_meets F.slot_tuple_mul ⟨_,ho,rfl⟩ F.entry_tuple_mul (F.args_tuple_mul_2 _ _) (tuple_mulW1 l its.toArray n dd sl t) ⟨ho,⟨.ref l,H,I,rfl,q1 rfl⟩⟩
 ·have hni:its.toArray.isEmpty=false:=by
   cases its with
   | nil=>exact absurd (length_eq_zero_iff.mp (by simpa using hl)) hne
   | cons a r'=>rfl
  refine call_meets F.slot_tuple_mul ⟨_,ho,rfl⟩ F.entry_tuple_mul (F.args_tuple_mul_2 _ _) (tuple_mulWn l its.toArray n dd sl k t (by omega) h2 hni (by rw [size_toArray,<- hl];exact hz)) ⟨ho,?_⟩;have hnew:foldl (fun x1 x2=>x1 ++ x2) #[] (List.replicate k.toNat its.toArray)=(List.replicate k.toNat its).flatten.toArray:=by
   have:=J4w its k.toNat [];rw [nil_append] at this;exact this
  rw [hnew];refine ⟨.ref _,_,I.laid (t':=s.toks) (o:=.tup (List.replicate k.toNat xs).flatten) (fun b ob q=>get?_push_of_some _ q) (Nat.le_refl _) ⟨?_,_,r.rep k.toNat,⟨_,get?_push_size _ rfl,⟨rfl,rfl⟩,_,rfl⟩⟩,rfl,q2 (by omega) _ (I.hok.fresh (Nat.le_refl _))⟩;rw [len_rep,Nat.mul_comm];exact hz
end
section
variable {X:Cx}
@[irreducible] def rTup (K:Frag):List V->Hp->VK->Prop:=fun xs H Q=>∃ p ys,xs=[.ref p]/\((SqL K H p ys/\∀ l,H l=none->Q (.ref l) (upd H l (.tup ys)))\/(SqT K H p ys/\Q (.ref p) H))
theorem J10:CallR X (.type "tuple") (rTup X.K):=by
 unfold rTup;exact J5q
end
end L2
namespace L2
open PySem PySem.Spec PyProof.Rows
section
variable {prog:Program} {w:World} {A:Around} {E:Value->Shared->Prop} {z:Shared}
theorem J2c {nu tu:Addr} {j:Nat} {xs:Array Value} {y:Value} {Q:Value->Shared->Prop} (hn:z.heap.IsTupleIter nu tu j) (ht:z.heap.IsTuple tu xs) (hy:xs[j]?=some y)
  (hQ:∀ g,g.IsTupleIter nu tu (j + 1)->Heap.SameBut nu z.heap g->Q y { z with heap:=g }):wpAny (model prog w) A (Builtin.SmallTypes.nextOf (.ref nu)) Q E z:=by
 obtain ⟨on,hon,cn,dn⟩:=id hn;obtain ⟨ot,hot,_,nt,dt⟩:=ht;unfold Builtin.SmallTypes.nextOf;refine wpAny_bind (wpAny_callSpecial?_slot (name:=Str.ofString "__next__") hn.typeIs F.slot_tuple_iterator_next (wpAny_call_entry F.slot_tuple_iterator_next hn.typeIs F.entry_tuple_iterator_next ?_ (F.args_tuple_iterator_next_1 _)));show wpAny _ _ (field (.ref nu) 0 >>= _) _ _ z;refine wpAny_bind (wpAny_field hon dn (x:=.ref tu) rfl ?_);show wpAny _ _ (if (Value.ref tu == Value.none)=true then _ else _) _ _ z;rw [if_neg (show ¬ ((Value.ref tu == Value.none)=true) from Bool.false_ne_true)];show wpAny _ _ (field (.ref nu) 1 >>= _) _ _ z;refine wpAny_bind (wpAny_field hon dn (x:=.int j 0) rfl ?_);show wpAny _ _ (seqItems? (.ref tu) >>= _) _ _ z;refine wpAny_bind (wpAny_seqItems hot dt ?_);simp only [Int.toNat_natCast,hy];refine wpAny_bind (wpAny_setField hon dn (by simp) (wpAny_pure ⟨y,rfl,wpAny_pure (hQ _ ?_ (Heap.SameBut.update ..))⟩));exact ⟨_,get?_update_self _ hon (Obj.isFreed_of_fields (Obj.data_mapFields dn _)),(Obj.cls_mapFields ..).trans cn,by rw [Obj.data_mapFields dn];simp [rawInt]⟩
theorem J2l {nu tu:Addr} {j:Nat} {xs:Array Value} {Q:Value->Shared->Prop} (hh:A.handled=none) (hn:z.heap.IsTupleIter nu tu j) (ht:z.heap.IsTuple tu xs) (hy:xs[j]?=none)
  (hE:∀ g e,Heap.ExtBut nu z.heap g->(∃ o,g.get? e=some o/\o.cls=.type "StopIteration")->E (.ref e) { z with heap:=g }):wpAny (model prog w) A (Builtin.SmallTypes.nextOf (.ref nu)) Q E z:=by
 obtain ⟨on,hon,cn,dn⟩:=id hn;obtain ⟨ot,hot,_,nt,dt⟩:=ht;unfold Builtin.SmallTypes.nextOf;refine wpAny_bind (wpAny_callSpecial?_slot (name:=Str.ofString "__next__") hn.typeIs F.slot_tuple_iterator_next (wpAny_call_entry F.slot_tuple_iterator_next hn.typeIs F.entry_tuple_iterator_next ?_ (F.args_tuple_iterator_next_1 _)));show wpAny _ _ (field (.ref nu) 0 >>= _) _ _ z;refine wpAny_bind (wpAny_field hon dn (x:=.ref tu) rfl ?_);show wpAny _ _ (if (Value.ref tu == Value.none)=true then _ else _) _ _ z;rw [if_neg (show ¬ ((Value.ref tu == Value.none)=true) from Bool.false_ne_true)];show wpAny _ _ (field (.ref nu) 1 >>= _) _ _ z;refine wpAny_bind (wpAny_field hon dn (x:=.int j 0) rfl ?_);show wpAny _ _ (seqItems? (.ref tu) >>= _) _ _ z;refine wpAny_bind (wpAny_seqItems hot dt ?_);simp only [Int.toNat_natCast,hy];refine wpAny_bind (wpAny_rule (wpAny_bind (wpAny_setField hon dn (by simp) ?_)));show wpAny _ _ (newExc (.type "StopIteration") [] >>= _) _ _ _;refine wpAny_bind ?_;simp only [newExc,newTuple];refine wpAny_bind (wpAny_newObj_type ?_ (by size_fits));refine wpAny_bind (m:=firstArgMember _ _) (wpAny_of_eq (a:=Value.none) (by first | rfl | (simp only [firstArgMember];rfl)) ?_);refine wpAny_newObj_type ?_ (by size_fits);simp only [raiseNew];refine wpAny_bind (wpAny_handled ?_)
 first | rw [show A.in1.handled=none from hh] | rw [hh]
 refine wpAny_bind (wpAny_pure (wpAny_throw ?_));exact hE _ _ (((Heap.SameBut.update ..).extBut.push _).push _) ⟨_,get?_push_size _ rfl,rfl⟩
theorem enum_turn {en nu:Addr} {j:Nat} {y old:Value} {St:Heap->Prop} {Q:Value->Shared->Prop} (he:IsEnum z.heap en nu j old) (hne:en≠nu) (keepSt:∀ g g':Heap,St g->(∀ o,g.get? nu=some o->g'.get? nu=some o)->St g')
  (NX:∀ (A':Around) (E':Value->Shared->Prop) (Q':Value->Shared->Prop),(∀ g,St g->Heap.SameBut nu z.heap g->Q' y { z with heap:=g })->wpAny (model prog w) A' (Builtin.SmallTypes.nextOf (.ref nu)) Q' E' z)
  (hQ:∀ g,IsEnumOut g en nu ((j:Int) + 1) y z.heap.objs.size->St g->g.get? z.heap.objs.size=some { cls:=.type "tuple",data:=.seq #[.int j z.toks,y] }->g.objs.size=z.heap.objs.size + 1->
   (∀ b o,b≠en->b≠nu->z.heap.get? b=some o->g.get? b=some o)->Q (.ref z.heap.objs.size) { z with heap:=g,toks:=z.toks + 1 }) :
  wpAny (model prog w) A (Builtin.«enumerate.__next__» ⟨[.ref en],[]⟩) (fun fin s'=>∃ v,fin=.done (.ret v)/\Q v s') E z:=by
 obtain ⟨hp,gg,d,tk,os⟩:=z;show wpAny _ _ (field (.ref en) 2 >>= _) _ _ _;refine wpAny_bind (wpAny_field he rfl (x:=.ref nu) rfl (wpAny_bind (NX _ _ _ fun g₁ st₁ sb₁=>?_)));have sb₁:Heap.SameBut nu hp g₁:=sb₁;have e₁:IsEnum g₁ en nu j old:=(sb₁.2 en hne).trans he;show wpAny _ _ (field (.ref en) 3 >>= _) _ _ ⟨g₁,gg,d,tk,os⟩;refine wpAny_bind (wpAny_field e₁ rfl (x:=rawInt j) rfl ?_);show wpAny _ _ (field (.ref en) 4 >>= _) _ _ ⟨g₁,gg,d,tk,os⟩;refine wpAny_bind (wpAny_field e₁ rfl (x:=.none) rfl ?_);show wpAny _ _ (mkInt j >>= _) _ _ ⟨g₁,gg,d,tk,os⟩;refine wpAny_bind (wpAny_mkInt ?_);show wpAny _ _ (setField (.ref en) 3 (rawInt ((j:Int) + 1)) >>= _) _ _ ⟨g₁,gg,d,tk + 1,os⟩;refine wpAny_bind (wpAny_setField_rec e₁ (by simp) fun g₂ e₂ sb₂=>?_);have sb₂:Heap.SameBut en g₁ g₂:=sb₂;have e₂:IsEnum g₂ en nu ((j:Int) + 1) old:=e₂;show wpAny _ _ (setField (.ref en) 4 .none >>= _) _ _ ⟨g₂,gg,d,tk + 1,os⟩;refine wpAny_bind (wpAny_setField_rec e₂ (by simp) fun g₃ e₃ sb₃=>?_);have sb₃:Heap.SameBut en g₂ g₃:=sb₃;have e₃:IsEnum g₃ en nu ((j:Int) + 1) old:=e₃;show wpAny _ _ (newTuple [.int j tk,y] >>= _) _ _ ⟨g₃,gg,d,tk + 1,os⟩;refine wpAny_bind (wpAny_newTuple ?_);have st₃:St g₃:=keepSt _ _ st₁ fun o e=>sb₃.extBut _ _ (Ne.symm hne) (sb₂.extBut _ _ (Ne.symm hne) e);have e₄:IsEnum (g₃.push { cls:=.type "tuple",data:=.seq #[.int j tk,y] }) en nu ((j:Int) + 1) old:=get?_push_of_some _ e₃;have st₄:St (g₃.push { cls:=.type "tuple",data:=.seq #[.int j tk,y] }):=keepSt _ _ st₃ fun o e=>get?_push_of_some _ e;have hz:g₃.objs.size=hp.objs.size:=by rw [sb₃.1,sb₂.1,sb₁.1]
 have hel:en < hp.objs.size:=lt_size he;have t₄:(g₃.push { cls:=.type "tuple",data:=.seq #[.int j tk,y] }).get? hp.objs.size=some { cls:=.type "tuple",data:=.seq #[.int j tk,y] }:=by rw [<- hz];exact get?_push_size _ rfl
 have z₄:(g₃.push { cls:=.type "tuple",data:=.seq #[.int j tk,y] }).objs.size=hp.objs.size + 1:=by rw [size_push,hz]
 have k₄:∀ b o,b≠en->b≠nu->hp.get? b=some o->(g₃.push { cls:=.type "tuple",data:=.seq #[.int j tk,y] }).get? b=some o:=fun b o h1 h2 e =>
  get?_push_of_some _ (sb₃.extBut b o h1 (sb₂.extBut b o h1 (sb₁.extBut b o h2 e)))
 generalize g₃.push { cls:=.type "tuple",data:=.seq #[.int j tk,y] }=g₄ at e₄ st₄ t₄ z₄ k₄;show wpAny _ _ (Builtin.SmallTypes.ownedTupleIsFree (.ref en) >>= _) _ _ ⟨g₄,gg,d,tk + 1,os⟩;rw [hz];refine wpAny_bind ?_
 ·unfold Builtin.SmallTypes.ownedTupleIsFree;refine wpAny_bind (wpAny_field e₄ rfl (x:=.none) rfl (wpAny_pure ?_));simp only [if_true];refine wpAny_bind (wpAny_rule (wpAny_bind (wpAny_field e₄ rfl (x:=old) rfl (wpAny_bind (wpAny_setField_rec e₄ (by simp) fun g₅ e₅ sb₅=>?_)))));have sb₅:Heap.SameBut en g₄ g₅:=sb₅;have e₅:IsEnum g₅ en nu ((j:Int) + 1) y:=e₅;show wpAny _ _ (Builtin.SmallTypes.ownedTupleHandOut (.ref en) (.ref hp.objs.size) >>= _) _ _ ⟨g₅,gg,d,tk + 1,os⟩;refine wpAny_bind ?_
  ·unfold Builtin.SmallTypes.ownedTupleHandOut;refine wpAny_bind (wpAny_setField_rec e₅ (by simp) fun g₆ e₆ sb₆=>?_);have sb₆:Heap.SameBut en g₅ g₆:=sb₆;have e₆:IsEnumOut g₆ en nu ((j:Int) + 1) y hp.objs.size:=e₆;refine wpAny_setField_rec e₆ (by simp) fun g₇ e₇ sb₇=>?_;have sb₇:Heap.SameBut en g₆ g₇:=sb₇;have e₇:IsEnumOut g₇ en nu ((j:Int) + 1) y hp.objs.size:=e₇;have up:∀ b o,b≠en->g₄.get? b=some o->g₇.get? b=some o:=fun b o h1 e=>sb₇.extBut b o h1 (sb₆.extBut b o h1 (sb₅.extBut b o h1 e));exact wpAny_bind (wpAny_letGo (wpAny_pure ⟨_,rfl,hQ g₇ e₇ (keepSt _ _ st₄ fun o e=>up _ _ (Ne.symm hne) e) (up _ _ (Nat.ne_of_gt hel) t₄) (by rw [sb₇.1,sb₆.1,sb₅.1,z₄]) fun b o h1 h2 e=>up b o h1 (k₄ b o h1 h2 e)⟩))
theorem enumT_item {en nu tu:Addr} {j:Nat} {xs:Array Value} {y old:Value} {Q:Option Value->Shared->Prop} (he:IsEnum z.heap en nu j old) (hn:z.heap.IsTupleIter nu tu j) (ht:z.heap.IsTuple tu xs) (hy:xs[j]?=some y) (hne:en≠nu)
  (hQ:∀ g,IsEnumOut g en nu ((j:Int) + 1) y z.heap.objs.size->g.IsTupleIter nu tu (j + 1)->g.get? z.heap.objs.size=some { cls:=.type "tuple",data:=.seq #[.int j z.toks,y] }->g.objs.size=z.heap.objs.size + 1->
   (∀ b o,b≠en->b≠nu->z.heap.get? b=some o->g.get? b=some o)->Q (some (.ref z.heap.objs.size)) { z with heap:=g,toks:=z.toks + 1 }) :
  wpAny (model prog w) A (pyNext (.ref en)) Q E z:=by
 have hT:z.TypeIs (.ref en) "enumerate":=⟨_,he,rfl⟩;unfold pyNext;exact wpAny_bind (wpAny_attempt (wpAny_callSpecial?_slot (name:=Str.ofString "__next__") hT F.slot_enumerate_next (wpAny_call_entry F.slot_enumerate_next hT F.entry_enumerate_next
   (enum_turn (St:=fun g=>g.IsTupleIter nu tu (j + 1)) he hne (fun g g' st k=>let ⟨o,ho,r⟩:=st;⟨o,k o ho,r⟩) (fun A' E' Q' h=>J2c hn ht hy h) fun g a b c d k=>wpAny_pure (hQ g a b c d k)) (F.args_enumerate_next_1 _))))
theorem enumT_end {en nu tu:Addr} {j:Nat} {xs:Array Value} {old:Value} {Q:Option Value->Shared->Prop} (hh:A.handled=none) (he:IsEnum z.heap en nu j old) (hn:z.heap.IsTupleIter nu tu j) (ht:z.heap.IsTuple tu xs) (hy:xs[j]?=none)
  (hQ:∀ g,Heap.ExtBut nu z.heap g->Q none { z with heap:=g }):wpAny (model prog w) A (pyNext (.ref en)) Q E z:=by
 have hT:z.TypeIs (.ref en) "enumerate":=⟨_,he,rfl⟩;unfold pyNext;refine wpAny_bind (wpAny_attempt (wpAny_callSpecial?_slot (name:=Str.ofString "__next__") hT F.slot_enumerate_next (wpAny_call_entry F.slot_enumerate_next hT F.entry_enumerate_next ?_ (F.args_enumerate_next_1 _))));show wpAny _ _ (field (.ref en) 2 >>= _) _ _ _;refine wpAny_bind (wpAny_field he rfl (x:=.ref nu) rfl (wpAny_bind (J2l hh hn ht hy fun g x he' hx'=>?_)));obtain ⟨o,ho,hc⟩:=hx';exact wpAny_bind (wpAny_isInstance (T:="StopIteration") (b:=true) ⟨o,ho,hc⟩ isSubtype_stop (wpAny_pure (hQ _ he')))
theorem enum_newT (l:Addr) (xs:Array Value) (n:Nat) (dct:Option Addr) (sl:Array (Option Value)) :
  Meets (Builtin.«enumerate.__new__» ⟨[.type "enumerate",.ref l],[]⟩) (fun _ R s=>s.heap.get? l=some { cls:=.type "tuple",dict:=dct,data:=.seq xs n,slots:=sl }/\
   R (.ok (.ret (.ref (s.heap.push { cls:=.type "tuple_iterator",data:=.fields #[.ref l,.int 0 0] }).objs.size)))
    { s with heap:=(s.heap.push { cls:=.type "tuple_iterator",data:=.fields #[.ref l,.int 0 0] }).push { cls:=.type "enumerate",data:=.fields #[.none,.bool false,.ref s.heap.objs.size,rawInt 0,.none,.none] } }) :=
 .of_wp fun prog w A R s h=>by
  obtain ⟨hp,g,d,tk,os⟩:=s;obtain ⟨hl,h⟩:=h;have hsub:=sub_enumerate;have hTT:Heap.IsTuple (Shared.heap ⟨hp,g,d,tk,os⟩) l xs:=⟨_,hl,rfl,n,rfl⟩
  wp_walk using AutoSeq1.wpAny_loadPart' hl
  refine wpAny_stack_any fun st=>wpAny_pure ?_;split
  ·rename_i c _ _ _ _ _;cases (c == Value.type "enumerate") <;> (wp_walk using AutoSeq1.wpAny_loadPart' hl,wpAny_pyIter_tuple hTT;exact ⟨_,rfl,h⟩)
  ·(wp_walk using AutoSeq1.wpAny_loadPart' hl,wpAny_pyIter_tuple hTT;exact ⟨_,rfl,h⟩)
theorem call_enumT {l:Addr} {xs:Array Value} {Q:Value->Shared->Prop} (hL:z.heap.IsTuple l xs)
  (h:∀ g,IsEnum g (z.heap.objs.size + 1) z.heap.objs.size 0 .none->g.IsTupleIter z.heap.objs.size l 0->g.objs.size=z.heap.objs.size + 2->(∀ b o,z.heap.get? b=some o->g.get? b=some o)->Q (.ref (z.heap.objs.size + 1)) { z with heap:=g }) :
  wpAny (model prog w) A (call (.type "enumerate") [.ref l]) Q E z:=by
 obtain ⟨⟨c,dct,dt,sl⟩,hl,hc,n,hd⟩:=hL;have hc:c=.type "tuple":=hc;have hd:dt=.seq xs n:=hd;subst hc hd;refine callType_new F.called_enumerate (by decide) (F.typeCall_enumerate_1 _) (F.newCall_enumerate_1 _) (fun obj=>F.args_object_init_2 obj _) F.entry_enumerate_new (enum_newT l xs n dct sl) ⟨hl,?_⟩;have hz:(z.heap.push { cls:=.type "tuple_iterator",data:=.fields #[.ref l,.int 0 0] }).objs.size=z.heap.objs.size + 1:=size_push ..;show _/\_;rw [hz];have he:IsEnum ((z.heap.push { cls:=.type "tuple_iterator",data:=.fields #[.ref l,.int 0 0] }).push { cls:=.type "enumerate",data:=.fields #[.none,.bool false,.ref z.heap.objs.size,rawInt 0,.none,.none] }) (z.heap.objs.size + 1) z.heap.objs.size 0 .none:=by
  have q:=get?_push_size (z.heap.push { cls:=.type "tuple_iterator",data:=.fields #[.ref l,.int 0 0] }) (o:={ cls:=.type "enumerate",data:=.fields #[.none,.bool false,.ref z.heap.objs.size,rawInt 0,.none,.none] }) rfl;rw [hz] at q;exact q
 exact ⟨⟨_,he,rfl⟩,h _ he ⟨_,get?_push_of_some _ (get?_push_size _ rfl),rfl,rfl⟩ (by rw [size_push,hz]) fun b o q=>get?_push_of_some _ (get?_push_of_some _ q)⟩
end
section
variable {X:Cx} {pins:List (Addr × Obj)} {σ:St} {H:Hp} {s:Shared} {h':Heap}
theorem Inv.turned2 {t':Nat} {en nu p:Addr} {o:HO} (I:Inv X pins σ H s) (k:∀ b u,b≠en->b≠nu->s.heap.get? b=some u->h'.get? b=some u) (f1:FpOk X pins H en) (f2:FpOk X pins H nu) (hp:s.heap.objs.size<=p)
  (he:∃ u,h'.get? en=some u) (hu:∃ u,h'.get? nu=some u) (new:ObjOk X.prog X.w (upd H p o) h' p o):Inv X pins σ (upd H p o) { s with heap:=h',toks:=t' }:=by
 have hn:H p=none:=I.hok.fresh hp;have lt:∀ b u,s.heap.get? b=some u->b≠p:=fun b u e=>Nat.ne_of_lt (Nat.lt_of_lt_of_le (lt_size e) hp);have ne1:∀ b u,H b=some u->b≠en:=fun b u e z=>by rw [z,f1.1] at e;cases e
 have ne2:∀ b u,H b=some u->b≠nu:=fun b u e z=>by rw [z,f2.1] at e;cases e
 have nc:∀ b,b ∉ [en,nu]->b≠en/\b≠nu:=fun b hb=>⟨fun z=>hb (by simp [z]),fun z=>hb (by simp [z])⟩;refine I.step (g':=s.gens) (d':=s.drawn) (ch:=[en,nu]) (fun b hb=>?_) (fun b u _ _ hc e _=>k b u (nc b hc).1 (nc b hc).2 e) (fun b u _ _ hc e _=>⟨u.slots,k b u (nc b hc).1 (nc b hc).2 e⟩) (fun b u hc e n=>by rw [J9 (lt b u e)];exact n)
  (fun b u hc e=>⟨u,k b u (nc b hc).1 (nc b hc).2 e⟩) (fun b xs e=>by rw [J9 (J7 e hn)];exact e) (fun b u v e=>by rw [J9 (J7 e hn)];exact e) (fun b ps e=>⟨#[],by rw [J9 (J7 e hn),e];simp⟩) (fun m hm=>?_) (fun b u e=>?_) I.bare
 ·have hb:b=en\/b=nu:=by simpa using hb
  rcases hb with rfl | rfl
  ·exact ⟨f1.2.2.2.1,f1.2.1,f1.2.2.2.2.1,f1.2.2.2.2.2⟩
  ·exact ⟨f2.2.2.2.1,f2.2.1,f2.2.2.2.2.1,f2.2.2.2.2.2⟩
 ·obtain ⟨ob,es,ep,ho,r⟩:=hm;exact ⟨ob,es,ep,k _ ob (Ne.symm f1.2.1) (Ne.symm f2.2.1) ho,r⟩
 ·by_cases hb:b=p
  ·subst hb;rw [J0] at e;cases e;exact new
  ·rw [J9 hb] at e;refine (I.hok b u e).stay (fun c v hc q=>k c v ?_ ?_ q) (fun c q=>by rw [J9 (J7 q hn)];exact q) fun c xs q=>by rw [J9 (J7 q hn)];exact q
   ·rcases hc with q | q
    ·rw [q];exact ne1 b u e
    ·exact ne1 c _ q
   ·rcases hc with q | q
    ·rw [q];exact ne2 b u e
    ·exact ne2 c _ q
end
def Ite (K:Frag) (a:Addr):It :=
 ⟨fun i H=>∃ xs x,SqT K H a xs/\xs[i]?=some x,fun i H v H'=>∃ p x,v=.ref p/\H p=none/\H'=upd H p (.tup [.int (i:Int),x])/\∀ xs,SqT K H a xs->xs[i]?=some x,fun i H=>∃ xs,SqT K H a xs/\xs.length<=i⟩
theorem turn_enum {P:Program} {w:World} {K:Frag} {elts:List Expr} {kk:Nat} {tp:Pos} (a en nu:Addr) (hne:en≠nu):Turn P w K (.Tuple elts kk tp) (Ite K a) [en,nu] en (fun i h=>(∃ old,IsEnum h en nu (i:Int) old)/\h.IsTupleIter nu a i) where
 mem:=by simp
 obj:=fun i h st b hb=>by
  obtain ⟨⟨old,e1⟩,o,e2,_,d2⟩:=st;have hb:b=en\/b=nu:=by simpa using hb
  rcases hb with rfl | rfl
  ·exact ⟨_,e1,fun v z=>by
    have z':Data.fields _=Data.cell v:=z;cases z'⟩
  ·exact ⟨_,e2,fun v z=>by rw [d2] at z;cases z⟩
 keep:=fun i h h' st k=>by
  obtain ⟨⟨old,e1⟩,o,e2,r⟩:=st;exact ⟨⟨old,k en (by simp) _ e1⟩,o,k nu (by simp) _ e2,r⟩
 item:=by
  intro X hP hw hK hc i pins s σ H E I hf st hg;subst hP hw hK;obtain ⟨⟨old,e1⟩,e2⟩:=st;obtain ⟨xs,x,hq,hx⟩:=hg;obtain ⟨its,r,pl,hz⟩:=I.tuple hq;obtain ⟨u,hu,ru⟩:=r.get hx;have f1:=hf en (by simp);have f2:=hf nu (by simp);refine enumT_item e1 e2 (show s.heap.IsTuple a its.toArray from pl) (y:=u) (by simpa using hu) hne fun g o1 n1 t1 z1 k1=>?_;refine ⟨_,rfl,?_⟩;have he:en < s.heap.objs.size:=lt_size e1;refine wpAny_letOwnedTupleGo_enum o1 fun g2 e3 sb=>?_;have sb:Heap.SameBut en g g2:=sb;have n2:g2.IsTupleIter nu a (i + 1):=n1.extBut sb.extBut (Ne.symm hne);have kk2:∀ b o,b≠en->b≠nu->s.heap.get? b=some o->g2.get? b=some o:=fun b o h1 h2 e=>(sb.2 b h1).trans (k1 b o h1 h2 e);have t2:g2.get? s.heap.objs.size=some { cls:=.type "tuple",data:=.seq #[.int i s.toks,u] }:=(sb.2 _ (Nat.ne_of_gt he)).trans t1;obtain ⟨on,hon,_⟩:=id n2;have J:=I.turned2 (t':=s.toks + 1) (o:=.tup [.int (i:Int),x]) (p:=s.heap.objs.size) kk2 f1 f2 (Nat.le_refl _) ⟨_,e3⟩ ⟨_,hon⟩
   ⟨(by show 2<=sizeLine;decide),[.int i s.toks,u],.cons ⟨_,rfl⟩ (.cons ru .nil),⟨_,t2,⟨rfl,rfl⟩,_,rfl⟩⟩
  have hfr:H s.heap.objs.size=none:=I.hok.fresh (Nat.le_refl _);have cast:((i + 1:Nat):Int)=(i:Int) + 1:=by omega
  refine ⟨.ref s.heap.objs.size,_,J,rfl,⟨_,x,rfl,hfr,rfl,fun ys hy=>?_⟩,⟨⟨u,by rw [cast];exact e3⟩,n2⟩,fun b hb=>?_⟩
  ·rw [<- I.tuple_inj hq hy];exact hx
  ·have hbl:b < s.heap.objs.size:=by
    have hb:b=en\/b=nu:=by simpa using hb
    rcases hb with rfl | rfl
    ·exact he
    ·obtain ⟨o,ho,_⟩:=e2;exact lt_size ho
   rw [J9 (Nat.ne_of_lt hbl)];exact (hf b hb).1
 done:=by
  intro X hP hw hK hc i pins s σ H E I hf st hg;subst hP hw hK;obtain ⟨⟨old,e1⟩,e2⟩:=st;obtain ⟨xs,hq,hl⟩:=hg;obtain ⟨its,r,pl,hz⟩:=I.tuple hq;obtain ⟨f0,f1,f2,f3,f4,f5⟩:=hf nu (by simp);refine enumT_end (I.ok.hd hc) e1 e2 (show s.heap.IsTuple a its.toArray from pl) (by have:=r.length;simp;omega) fun g eb=>⟨rfl,I.turned (t':=s.toks) (fun b o hb e=>eb b o hb e) f0 f1 f3 f4 f5⟩
 self:=fun A i s Q E st h=>by
  obtain ⟨⟨old,e1⟩,_⟩:=st;exact wpAny_pyIter_enum e1 h
section
variable {X:Cx}
def iEnum (K:Frag) (ta:TA):TI:=fun σ H R=>ta σ H fun vs H1=>∃ a,vs=[.ref a]/\(∃ xs,SqT K H1 a xs)/\R (Ite K a) H1
theorem pi_enum {elts:List Expr} {kk:Nat} {tp:Pos} {a:Expr} {ta:TA} {p pos:Pos} (hg:Gl X "enumerate") (hm:X.mg "enumerate"=none) (ha:PA X [a] ta) (hs:starEach [a] X.env=[(false,eval a X.env)]:=by rfl):PI X (.Tuple elts kk tp) (.Call (.Name "enumerate" p) [a] [] pos) (iEnum X.K ta):=by
 intro pins s σ H R I h;refine Call_ (J5i I hg hm boot_enumerate (callWith_type1 (thn (ha pos pins s σ H _ I h) fun us s1 h9=>?_) hs rfl));obtain ⟨vs,H1,I1,r1,q1⟩:=h9;obtain ⟨a,e,⟨xs,hq⟩,q⟩:=q1;subst e;obtain ⟨u,rfl,ru⟩:=vals1 r1;cases ru;obtain ⟨its,r,pl,hz⟩:=I1.tuple hq;refine call_enumT (show s1.heap.IsTuple a its.toArray from pl) fun g e1 e2 z1 k1=>?_;have I2:Inv X pins σ H1 { s1 with heap:=g }:=I1.kept (t':=s1.toks) k1;refine wpAny_pyIter_enum e1 ?_;refine ⟨_,_,_,_,H1,rfl,I2,turn_enum a _ _ (Nat.succ_ne_self _),⟨⟨.none,e1⟩,e2⟩,fun b hb=>?_,q⟩;have hb:b=s1.heap.objs.size + 1\/b=s1.heap.objs.size:=by simpa using hb
 have hbs:s1.heap.objs.size<=b:=by
  rcases hb with e | e
  ·rw [e];exact Nat.le_succ _
  ·rw [e];exact Nat.le_refl _
 exact I1.fpOk hbs (I1.hok.fresh hbs)
theorem for_enum {K:Frag} {a:Addr} {xs:List V} {g:TG} {tb:TS} {D:Ends} {σ:St} {H:Hp} (Pv:Nat->St->Hp->Prop) (h0:Pv 0 σ H) (hl:∀ i σ H,i<=xs.length->Pv i σ H->SqT K H a xs)
  (hs:∀ i x σ H p,xs[i]?=some x->Pv i σ H->H p=none->g (.ref p) σ (upd H p (.tup [.int (i:Int),x])) fun σ2 H2=>tb { D with nx:=Pv (i + 1),ct:=Pv (i + 1),bk:=D.nx } σ2 H2) (hd:∀ σ H,Pv xs.length σ H->D.nx σ H) :
  ∃ W:Nat->Nat->St->Hp->Prop,(∃ m,W 0 m σ H)/\∀ i m σ H,W i m σ H->
   ((Ite K a).stop i H/\D.nx σ H)\/((Ite K a).go i H/\∃ N:St->Hp->Prop,(∀ σ' H',N σ' H'->∃ m',m' < m/\W (i + 1) m' σ' H')/\∀ x H',(Ite K a).yld i H x H'->g x σ H' fun σ2 H2=>tb { D with nx:=N,ct:=N,bk:=D.nx } σ2 H2):=by
 refine ⟨fun i m σ H=>m=xs.length - i/\i<=xs.length/\Pv i σ H,⟨xs.length,by simp,Nat.zero_le _,h0⟩,?_⟩;rintro i m σ H ⟨rfl,hi,p⟩;have q:=hl i σ H hi p;by_cases hlt:i < xs.length
 ·refine .inr ⟨⟨xs,xs[i],q,by simp [hlt]⟩,Pv (i + 1),fun σ' H' p'=>⟨xs.length - (i + 1),by omega,rfl,hlt,p'⟩,fun v H' y=>?_⟩;obtain ⟨pp,x,rfl,hn,rfl,y⟩:=y;exact hs i x σ H pp (y xs q) p hn
 ·have e:i=xs.length:=by omega
  subst e;exact .inl ⟨⟨xs,q,Nat.le_refl _⟩,hd σ H p⟩
end
end L2
namespace L2
open PySem PySem.Spec PyProof.Rows
end L2
namespace L2
open PySem PySem.Spec PyProof.Rows
def bmV:List Value:=[.type "ValueError",.type "Exception",.type "BaseException",.type "object"]
theorem ObjOk.has {P:Program} {w:World} {H:Hp} {h:Heap} {a:Addr} {o:HO} (x:ObjOk P w H h a o):∃ u,h.get? a=some u:=by
 cases o with
 | lst xs=>obtain ⟨_,_,_,_,e⟩:=x;exact ⟨_,e⟩
 | tup xs=>obtain ⟨_,_,_,ob,e,_⟩:=x;exact ⟨_,e⟩
 | dK kvs=>obtain ⟨_,_,_,_,o,_,_,e,_⟩:=x;exact ⟨_,e⟩
 | dT kvs=>obtain ⟨_,_,_,_,o,_,_,e,_⟩:=x;exact ⟨_,e⟩
 | set S n=>obtain ⟨o,_,_,_,e,_⟩:=x;exact ⟨_,e⟩
 | ins C dx fs=>obtain ⟨_,_,_,e,_⟩:=x;exact ⟨_,e⟩
 | own y=>exact x
 | xd fs=>obtain ⟨_,⟨_,_,_,e,_⟩,_⟩:=x;exact ⟨_,e⟩
 | rng lo hi=>obtain ⟨_,_,_,e⟩:=x;exact ⟨_,e⟩
 | frz ob u=>obtain ⟨e,_⟩:=x;exact ⟨_,e⟩
 | tbl ps=>exact ⟨_,(show h.get? a=some _ from x)⟩
 | met f y=>exact ⟨_,(show h.get? a=some _ from x)⟩
 | ext φ=>obtain ⟨_,e,_⟩:=x;exact e
theorem HOk.over {P:Program} {w:World} {H:Hp} {h h' B:Heap} (ok:HOk P w H h) (t:∀ b o,H b=some o->∃ u,B.get? b=some u) (k:B.StaysIn h) (k':B.StaysIn h'):HOk P w H h':=fun b u e=>by
 refine (ok b u e).stay (fun c v hc q=>?_) (fun _ q=>q) fun _ _ q=>q;have hc':∃ x,B.get? c=some x:=by
  rcases hc with z | z
  ·rw [z];exact t b u e
  ·exact t c _ z
 obtain ⟨x,hx⟩:=hc';have:=k c x hx;rw [q] at this;cases this;exact k' c _ hx
def Exc1 (P:Program) (w:World):CXT:=fun outer H s E e s'=>∃ (ea:Addr) (cls:Value) (H':Hp) (B:Heap) (a0:Value),e=.ref ea/\s'.os=s.os/\AllBare s'.gens/\Heap.FlyingW B outer ea cls a0 s'.heap/\
 Un (frs outer) [] H H' s.heap s'.heap/\HOk P w H' s'.heap/\H' ea=none/\s.heap.get? ea=none/\(∀ b o,H' b=some o->∃ u,B.get? b=some u)/\(∀ b u,s.heap.get? b=some u->b ∉ frs outer->∃ v,B.get? b=some v)/\E cls none H'
section
variable {P:Program} {w:World} {K:Frag} {mg:Str->Option Value} {base:Heap} {N:List Str} {qual:Str} {scope:Scope} {f:Addr} {cd:Value} {A:Around} {outer:List Env} {s0:Shared} {H0:Hp} {E:XK} {pins:List (Addr × Obj)} {σ:St} {H:Hp} {s:Shared}
theorem noFlds {h B:Heap} {l:List Env} (x:h.FunFrames B l) {b:Addr} (hb:b∈frs l):∃ o,h.get? b=some o/\∀ vs,o.data≠.fields vs:=(x.mem hb).2
theorem frs_cons {b:Addr} {env:Env} {L:Addr} (hf:env.frame=some L) {l:List Env}:b∈frs (env :: l)↔b=L\/b∈frs l:=by
 unfold frs;rw [List.filterMap_cons,hf];simp
theorem xe_made {ea:Addr} {cls:Value} {args:List Value} {h':Heap} (I:Inv (cxOf (Exc1 P w) P w K mg base N qual scope f cd A outer s0 H0 E) pins σ H s) (hx:Heap.MadeExcOf s.heap h' ea cls args) (q:E cls none H) :
  (cxOf (Exc1 P w) P w K mg base N qual scope f cd A outer s0 H0 E).xe (.ref ea) { s with heap:=h' }:=by
 have fr:s.heap.FunFrames base (envOfC qual scope s0.heap.objs.size f cd :: outer):=I.stack;have hin:∀ env∈(envOfC qual scope s0.heap.objs.size f cd :: outer),∀ b,env.frame=some b->b∈frs (envOfC qual scope s0.heap.objs.size f cd :: outer):=fun env he b hb=>List.mem_filterMap.mpr ⟨env,he,hb⟩;have fl:∀ {b:Addr},b∈frs (envOfC qual scope s0.heap.objs.size f cd :: outer)↔b=s0.heap.objs.size\/b∈frs outer:=frs_cons rfl;have inB:∀ b u,s.heap.get? b=some u->b ∉ frs (envOfC qual scope s0.heap.objs.size f cd :: outer)->(hideAll s.heap (frs (envOfC qual scope s0.heap.objs.size f cd :: outer))).get? b=some u:=fun b u e n=>PySem.W.hideAll_get _ e n;have nL:∀ b u,s0.heap.get? b=some u->b≠s0.heap.objs.size:=fun b u e=>Nat.ne_of_lt (lt_size e);have nf:∀ b u,s0.heap.get? b=some u->b ∉ frs outer->b ∉ frs (envOfC qual scope s0.heap.objs.size f cd :: outer):=fun b u e n z=>(fl.mp z).elim (nL b u e) n;refine wpAny_leaves_madeW (base:=hideAll s.heap (frs (envOfC qual scope s0.heap.objs.size f cd :: outer))) (h:=s.heap) (L:=s0.heap.objs.size) I.ok.frames rfl (fun b o z=>of_hideAll _ z) (PySem.W.funFrames_hide fr hin) hx fun h'' t fly tup nt ups=>?_;have up:∀ b o,s.heap.get? b=some o->b∈frs (envOfC qual scope s0.heap.objs.size f cd :: outer)->∃ sl,h''.get? b=some { o with slots:=sl }:=fun b o e hb=>by
  obtain ⟨o',e',nd⟩:=noFlds fr hb;rw [e] at e';cases e';exact ups b o (hx.keeps b o e) nd
 have there:∀ b o,s.heap.get? b=some o->∃ o',h''.get? b=some o':=fun b o e=>by
  by_cases hb:b∈frs (envOfC qual scope s0.heap.objs.size f cd :: outer)
  ·obtain ⟨sl,z⟩:=up b o e hb;exact ⟨_,z⟩
  ·exact ⟨o,fly.1 b o (inB b o e hb)⟩
 have trk:∀ b o,H b=some o->∃ u,(hideAll s.heap (frs (envOfC qual scope s0.heap.objs.size f cd :: outer))).get? b=some u:=fun b o e=>by
  obtain ⟨u,hu⟩:=(I.hok b o e).has;refine ⟨u,inB b u hu fun z=>?_⟩;have:=I.stkFree b z;rw [e] at this;cases this
 refine ⟨ea,cls,H,_,_,rfl,I.os,I.bare,fly,⟨fun b o e n hb _=>?_,fun b o e n hb _=>?_,fun b o e n hb=>I.base.free b o e n hb,fun b o e _=>?_,I.base.tups,I.base.frzs,I.base.tbls⟩,I.hok.over trk (fun b o z=>of_hideAll _ z) fly.1,?_,?_,trk,fun b u e n=>?_,q⟩
 ·exact fly.1 b o (inB b o (I.base.keep b o e n hb (by simp [cxOf])) (nf b o e hb))
 ·obtain ⟨sl,e1⟩:=I.base.slot b o e n hb (by simp [cxOf]);obtain ⟨sl',e2⟩:=up b _ e1 (fl.mpr (.inr hb));exact ⟨sl',e2⟩
 ·obtain ⟨o',e1⟩:=I.base.there b o e (by simp [cxOf]);exact there b o' e1
 ·cases z:H ea with
  | none=>rfl
  | some o =>
   obtain ⟨u,hu⟩:=(I.hok ea o z).has;have hnew:=hx.new;rw [hu] at hnew;cases hnew
 ·cases z:s0.heap.get? ea with
  | none=>rfl
  | some o =>
   obtain ⟨o',e1⟩:=I.base.there ea o z (by simp [cxOf]);have hnew:=hx.new;rw [e1] at hnew;cases hnew
 ·obtain ⟨o',e1⟩:=I.base.there b u e (by simp [cxOf]);exact ⟨o',inB b o' e1 (nf b u e n)⟩
theorem pass1:J3r (Exc1 P w) (cxOf (Exc1 P w) P w K mg base N qual scope f cd A outer s0 H0 E) E:=by
 rintro pins σ H s e s' I ⟨ea,cls,H',B,a0,rfl,os,bare,fly,un,hok,hea,new,trk,inB,q⟩;have fl:∀ {b:Addr},b∈frs (envOfC qual scope s0.heap.objs.size f cd :: outer)↔b=s0.heap.objs.size\/b∈frs outer:=frs_cons rfl;have nf:∀ b u,s0.heap.get? b=some u->b ∉ frs outer->b ∉ frs (envOfC qual scope s0.heap.objs.size f cd :: outer):=fun b u e n z=>(fl.mp z).elim (Nat.ne_of_lt (lt_size e)) n;have fly0:Heap.FlyingW B (envOfC qual scope s0.heap.objs.size f cd :: outer) ea cls a0 s'.heap:=fly;have un:Un (frs (envOfC qual scope s0.heap.objs.size f cd :: outer)) [] H H' s.heap s'.heap:=un;have inB:∀ b u,s.heap.get? b=some u->b ∉ frs (envOfC qual scope s0.heap.objs.size f cd :: outer)->∃ v,B.get? b=some v:=inB;refine wpAny_leaves_onW (L:=s0.heap.objs.size) I.ok.frames rfl fly0 fun h'' fly2 ups=>?_;have stay:∀ b o,s.heap.get? b=some o->b ∉ frs (envOfC qual scope s0.heap.objs.size f cd :: outer)->∀ o',s'.heap.get? b=some o'->h''.get? b=some o':=fun b o e n o' e'=>by
  obtain ⟨v,hv⟩:=inB b o e n;have:=fly0.1 b v hv;rw [e'] at this;cases this;exact fly2.1 b _ hv
 refine ⟨ea,cls,H',B,a0,rfl,os.trans I.os,bare,fly2,⟨fun b o e n hb _=>?_,fun b o e n hb _=>?_,fun b o e n _=>?_,fun b o e _=>?_,fun b xs e=>un.tups b xs (I.base.tups b xs e),fun b o u e=>un.frzs b o u (I.base.frzs b o u e),fun b ps e=>?_⟩,hok.over trk fly0.1 fly2.1,hea,?_,trk,fun b u e n=>?_,q⟩
 ·have e1:=I.base.keep b o e n hb (by simp [cxOf]);have n1:=I.base.free b o e n (by simp [cxOf]);exact stay b o e1 (nf b o e hb) o (un.keep b o e1 n1 (nf b o e hb) (by simp))
 ·obtain ⟨sl,e1⟩:=I.base.slot b o e n hb (by simp [cxOf]);have n1:=I.base.free b o e n (by simp [cxOf]);obtain ⟨sl',e2⟩:=un.slot b _ e1 n1 (fl.mpr (.inr hb)) (by simp);obtain ⟨o',e3,nd⟩:=noFlds fly0.2.2.1 (fl.mpr (.inr hb));rw [e2] at e3;cases e3;obtain ⟨sl'',e4⟩:=ups b _ e2 nd;exact ⟨sl'',e4⟩
 ·obtain ⟨o',e1⟩:=I.base.there b o e (by simp [cxOf]);exact un.free b o' e1 (I.base.free b o e n (by simp [cxOf])) (by simp)
 ·obtain ⟨o',e1⟩:=I.base.there b o e (by simp [cxOf]);obtain ⟨o2,e2⟩:=un.there b o' e1 (by simp);by_cases hb:b∈frs outer
  ·obtain ⟨o3,e3,nd⟩:=noFlds fly0.2.2.1 (fl.mpr (.inr hb));obtain ⟨sl,e4⟩:=ups b o3 e3 nd;exact ⟨_,e4⟩
  ·exact ⟨o2,stay b o' e1 (nf b o e hb) o2 e2⟩
 ·obtain ⟨m1,e1⟩:=I.base.tbls b ps e;obtain ⟨m2,e2⟩:=un.tbls b _ e1;exact ⟨m1 ++ m2,by rw [e2,Array.append_assoc]⟩
 ·cases z:s0.heap.get? ea with
  | none=>rfl
  | some o =>
   obtain ⟨o',e1⟩:=I.base.there ea o z (by simp [cxOf]);rw [e1] at new;cases new
 ·obtain ⟨o',e1⟩:=I.base.there b u e (by simp [cxOf]);exact inB b o' e1 (nf b u e n)
theorem passF {X:Cx}:J3r (Exc1 P w) X E0:=by
 rintro pins σ H s e s' I ⟨_,_,_,_,_,_,_,_,_,_,_,_,_,_,_,q⟩;exact False.elim q
theorem exc_obj {h:Heap} {C:Addr} {bmB:List Value} {nid:String} (X:K.In h) (q:excIn K C bmB nid=true) :
  ∃ bm N nm qn bs hdct sn sub ab col dd k0 k1 k2 k3 k5 mN,h.get? C=some (excClassObj nm qn C N bs bm hdct sn sub ab col dd k0 k1 k2 k3 k5 nid)/\h.Ns N mN/\mN "__init__"=none/\OwnTail h bmB bm:=by
 unfold excIn at q;split at q
 ·rename_i dd cdd sl ho;split at q
  ·rename_i C' bm k0 k1 k2 k3 n k5 hm hs;simp only [Bool.and_eq_true,beq_iff_eq,Bool.not_eq_true'] at q;obtain ⟨⟨⟨⟨⟨rfl,rfl⟩,q1⟩,q2⟩,q3⟩,q4⟩:=q;obtain ⟨nm,bs,mro,ns,qn,hd,sn,sub,ab,col,del⟩:=cdd;dsimp only at hm q1 q3 q4;subst hm q1;obtain ⟨l⟩:=sl;simp only at hs;subst hs;exact ⟨bm,ns,nm,qn,bs,hd,sn,sub,ab,col,dd,k0,k1,k2,k3,k5,_,X _ _ ho,.of_isNs (PySem.W.isNs_of_in X q3),PySem.W.nsMap_none_of_in X q3 q4,PySem.W.tail_of_in X q2⟩
  ·cases q
 ·cases q
theorem ps_raise {x:Str} {C:Addr} {msg:Str} {j:Nat} {p1 np cpos pos:Pos} (hg:Gl (cxOf (Exc1 P w) P w K mg base N qual scope f cd A outer s0 H0 E) x) (hm:mg x=some (.ref C)) (q:excIn K C bmV "ValueError.__new__"=true) (hdb:(x == ("__debug__":Str))=false:=by decide) :
  PS (cxOf (Exc1 P w) P w K mg base N qual scope f cd A outer s0 H0 E) (.Raise (some (.Call (.Name x np) [.Constant (.str msg) j p1] [] cpos)) none pos) (fun D σ H=>E (.ref C) none H):=by
 intro pins s σ H D I h;obtain ⟨bm,NN,nm,qn,bs,hdct,sn,sub,ab,col,dd,k0,k1,k2,k3,k5,mN,hC,hN,hni,T⟩:=exc_obj (I.ok.mod.kin) q;refine wpAny_Raise_call_subT (C:=C) (nm:=nm) (q:=qn) (N:=NN) (bs:=bs) (bm:=bm) (hdct:=hdct) (sn:=sn) (sub:=sub) (ab:=ab) (col:=col) (dd:=dd) (k0:=k0) (k1:=k1) (k2:=k2) (k3:=k3) (k5:=k5)
  PySem.F.excBase_ValueError (mN:=mN) (T.hasType PySem.F.excBase_ValueError.hasBase) (I.ok.hd rfl) rfl hni (J5h I hg hm ⟨rfl,?_⟩ hdb)
 refine Calls.evalArgs_plain (thn ((pa_cons (J4l (X:=cxOf (Exc1 P w) P w K mg base N qual scope f cd A outer s0 H0 E)) J2) cpos pins s σ H (fun vs H'=>H'=H/\vs.length=1) I ⟨rfl,rfl⟩) fun us s2 h9=>?_);obtain ⟨vs,H2,I2,r,e2,e3⟩:=h9;subst e2;have hl:us.length<=sizeLine:=by rw [<- r.length,e3];decide
 exact ⟨rfl,hl,I2.bk _ _ hC,hN.keeps I2.bk,T.keeps I2.bk,fun h' e hm=>xe_made I2 hm h⟩
end
end L2
namespace L2
open PySem PySem.Spec PyProof.Rows
theorem Fun.okX {P:Program} {w:World} {K:Frag} {mg:Str->Option Value} {base:Heap} {x qual:Str} {st:Stmt} {f:Addr} {fd:FuncData} {N ps:List Str} {k:Nat} {sp:Sp} (F:Fun K x qual st f fd) (S:FnScope N ps (J6 st)) (len:∀ vs H Q E,sp vs H Q E->vs.length=ps.length)
  (hbody:∀ (cdv:Value) (A:Around) (outer:List Env) (s:Shared) (H:Hp) (vs:List V) (Q:VK) (E:XK),Room k (A.deeper (envOfC qual (J6 st) s.heap.objs.size f cdv))->sp vs H Q E->
   ∃ t,PSs (cxOf (Exc1 P w) P w K mg base N qual (J6 st) f cdv A outer s H E) (J1i st) t/\t { nx:=fun _ H'=>Q .non H',rt:=Q } (start N vs) H):FnOk P w K mg base (Exc1 P w) (k + 1) f fd ps sp:=by
 obtain ⟨oc,od,kV,doc,pm,an,cdv,ct,osl,rfl,lk,hcd⟩:=F.ex;exact fn_of lk hcd S len fun A outer s H vs Q E hr hsp=>hbody cdv A outer s H vs Q E hr hsp
end L2
namespace L2
open PySem PySem.Spec PyProof.Rows
end L2
namespace L2
open PySem PySem.Spec PyProof.Rows
end L2
namespace L2
open PySem PySem.Spec PyProof.Rows
def PTs (X:Cx) (ifs:List Expr) (t:TT):Prop :=
 ∀ (pins:List (Addr × Obj)) (s:Shared) (σ:St) (H:Hp) (Q:Bool->Hp->Prop),Inv X pins σ H s->t σ H Q->
  wpAny (model X.prog X.w) X.A (forIn ifs true fun c r=>if r=true then do let ok <- isTrue c X.env (eval c X.env);pure (ForInStep.yield ok) else pure (ForInStep.yield r)) (TP X pins σ Q) X.xe s
def tYes:TT:=fun _ H Q=>Q true H
theorem J3u {X:Cx}:PTs X [] tYes:=fun _ s σ H Q I h=>wpAny_tests_nil ⟨H,I,h⟩
theorem pts_one {X:Cx} {c:Expr} {t:TT} (h:PT X c t):PTs X [c] t:=fun pins s σ H Q I q=>wpAny_tests_one (h pins s σ H Q I q)
theorem J1d {prog:Program} {w:World} {A:Around} {R:Result->Shared->Prop} {s:Shared} {elt target iter:Expr} {ifs:List Expr} {scope:Scope} {pos:Pos} {it acc:Value} {env:Env} (J:Nat->Shared->Prop)
  (turn:∀ n s,J n s->wpAny (model prog w) A (pyNext it) (fun r s₁=>match r with
   | none=>R (.ok .next) s₁
   | some v=>wpAny (model prog w) A (letOwnedTupleGo target it v) (fun _ s₁'=>wpAny (model prog w) A (assign target env v) (fun _ s₂ =>
     wpAny (model prog w) A (forIn ifs true fun c r=>if r=true then do let ok <- isTrue c env (eval c env);pure (ForInStep.yield ok) else pure (ForInStep.yield r)) (fun ok s₃ =>
      if ok=true then wpAny (model prog w) A (eval elt env) (fun x s₄ =>
       wpAny (model prog w) A (call (.builtin "list.append") [acc,x]) (fun _ s₅=>∃ m,m < n/\J m s₅) (fun _ _=>False) s₄) (fun _ _=>False) s₃
      else ∃ m,m < n/\J m s₃) (fun _ _=>False) s₂) (fun _ _=>False) s₁') (fun _ _=>False) s₁) (fun _ _=>False) s)
  (n:Nat) (h:J n s):codeAny (model prog w) A (.compLoop (.ListComp elt [⟨target,iter,ifs,0⟩] scope pos) 0 it acc env) R s:=by
 refine codeAny_loop rfl J (fun n s hI=>?_) n h;show wpAny _ _ ((compTurn (.ListComp elt [⟨target,iter,ifs,0⟩] scope pos) 0 it acc env).onRaise (fun x=>do noteFrame x env;theTreesLotGoes x)) _ _ s;refine wpAny_noted ?_;rw [compTurn_list];refine wpAny_bind (wpAny_standAt (wpAny_bind (wpAny_mono (turn n s hI) (fun r s₁ h₁=>?_) fun _ _ h'=>False.elim h')))
 cases r with
 | none=>exact wpAny_pure h₁
 | some v =>
  refine wpAny_bind (wpAny_mono h₁ (fun _ s₁' h₁'=>?_) fun _ _ h'=>False.elim h');refine wpAny_bind (wpAny_mono h₁' (fun _ s₂ h₂=>wpAny_bind (wpAny_mono h₂ (fun ok s₃ h₃=>?_) fun _ _ h'=>False.elim h')) fun _ _ h'=>False.elim h')
  cases ok with
  | false=>exact wpAny_pure ⟨rfl,h₃⟩
  | true =>
   exact wpAny_bind (wpAny_bind (wpAny_mono h₃ (fun x s₄ h₄=>wpAny_bind (wpAny_mono h₄ (fun _ s₅ h₅=>wpAny_pure (wpAny_pure ⟨rfl,h₅⟩)) fun _ _ h'=>False.elim h')) fun _ _ h'=>False.elim h'))
def LCW (J:It) (tc:TT) (te:TE) (σ:St) (js:List Nat) (Q:VK) (H1:Hp) (d:Addr):Prop:=∃ W:Nat->Nat->List V->Hp->Prop,(∃ m,W 0 m [] (upd H1 d (.lst [])))/\
 ∀ i m ys H2,W i m ys H2->H2 d=some (.lst ys)/\((J.stop i H2/\Q (.ref d) H2)\/(J.go i H2/\ys.length < sizeLine/\∀ v H3,J.yld i H2 v H3->
  tc (some v :: capv σ js) H3 fun b H4=>if b=true then te (some v :: capv σ js) H4 fun y H5=>H5 d=some (.lst ys)/\∃ m',m' < m/\W (i + 1) m' (ys ++ [y]) (upd H5 d (.lst (ys ++ [y])))
   else ∃ m',m' < m/\W (i + 1) m' ys H4))
def tLC (wi:TI) (tc:TT) (te:TE) (js:List Nat):TE:=fun σ H Q=>wi σ H fun J H1=>∀ d,H1 d=none->LCW J tc te σ js Q H1 d
section
variable {X:Cx} {elt iter:Expr} {ifs:List Expr} {x y:Str} {px py:Pos} {scope:Scope} {cl:List (Str × Addr)} {pos spos:Pos} {wi:TI} {tc:TT} {te:TE} {caps:List Str} {js:List Nat} {i:Nat}
theorem comp_core {p0:Pos} {use:Option (Value->Sem Unit)} {QV:Value->Shared->Prop} {Q:VK} {pins:List (Addr × Obj)} {s:Shared} {σ:St} {H:Hp} (hc:X.calm=true) (hp:PI X (.Name x px) iter wi)
  (he:∀ (C:Addr) (fp:List Addr) (s:Shared) (H:Hp),PE (X.block (x :: caps) scope cl C fp s H) elt te)
  (ht:∀ (C:Addr) (fp:List Addr) (s:Shared) (H:Hp),PTs (X.block (x :: caps) scope cl C fp s H) ifs tc)
  (hcell:∀ p∈scope.names,p.2≠.cell) (hnames:∀ p∈scope.names,p.2=.local->scope.names.lookup p.1=some .local) (hnd:(x :: caps).Nodup)
  (hsub:∀ p∈cl,X.env.cells.lookup p.1=some p.2) (hhas:∀ p∈scope.names,p.2=.free->∃ c,cl.lookup p.1=some c) (hlen:caps.length=js.length)
  (hcaps:∀ (k:Nat) (c:Str),caps[k]?=some c->∃ (j:Nat) (a:Addr),js[k]?=some j/\X.N[j]?=some c/\X.env.scope.names.lookup c=some .cell/\cl.lookup c=some a/\(relabel scope X.env).names.lookup c=some .cell)
  (hclos:closureFor scope X.env=pure cl) (hkind:scope.kind=.function) (hx:scope.names.lookup x=some .local) (hs:∀ v,foldedSetIterable iter X.env v=pure v)
  (I:Inv X pins σ H s) (h:tLC wi tc te js σ H Q)
  (fin:∀ (d:Addr) (H':Hp) (s5:Shared) (C:Addr),Inv X pins σ H' s5->Q (.ref d) H'->(∃ m,s5.heap.Ns C m)->FpOk X pins H' C->compPost (model X.prog X.w) X.A X.xe use QV (.ref d) C (.ok .next) s5) :
  wpAny (model X.prog X.w) X.A (comprehension (.ListComp elt [⟨.Name x px,iter,ifs,0⟩] scope pos) scope X.env p0 (newList []) false (eval iter X.env) use) QV X.xe s:=by
 refine wpAny_comprehension_free (cl:=cl) (use:=use) (Q:=QV) rfl hs hclos hkind hnames (thn (hp pins s σ H _ I h) fun v s1 h1=>thn h1 fun itv s2 h2=>?_);obtain ⟨it,fp,tn,J,H2,e,I2,T,st2,f2,h3⟩:=h2;subst e;have hfr:H2 s2.heap.objs.size=none:=I2.hok.fresh (Nat.le_refl _);obtain ⟨W,⟨m0,w0⟩,hW⟩:=h3 s2.heap.objs.size hfr;refine wpAny_newObj_type (wpAny_newFunctionEnv hcell (by intro y hy;simp at hy) (fun h₁ hns₁ hsb₁=>?_) hkind);dsimp only at hns₁ hsb₁ ⊢;generalize hH2:s2.heap.push { cls:=.type "list",dict:=none,data:=.seq ([]:List Value).toArray }=G at hns₁ hsb₁ ⊢;have hC:G.objs.size=s2.heap.objs.size + 1:=by rw [<- hH2,size_push]
 have hDC:s2.heap.objs.size≠G.objs.size:=by rw [hC];exact Nat.ne_of_lt (Nat.lt_succ_self _)
 have hCle:s2.heap.objs.size<=G.objs.size:=by rw [hC];exact Nat.le_succ _
 have old:∀ b o,s2.heap.get? b=some o->h₁.get? b=some o:=fun b o e=>hsb₁.extBut b o (by rw [hC];exact Nat.ne_of_lt (Nat.lt_succ_of_lt (lt_size e))) (get?_push_of_some _ (hH2 ▸ get?_push_of_some _ e));have hacc:h₁.get? s2.heap.objs.size=some { cls:=.type "list",dict:=none,data:=.seq ([]:List Value).toArray }:=hsb₁.extBut _ _ hDC (get?_push_of_some _ (hH2 ▸ get?_push_size _ rfl));have fl:∀ b∈fp,b < s2.heap.objs.size:=fun b hb=>by
  obtain ⟨o,e,_⟩:=T.obj _ _ st2 b hb;exact lt_size e
 have hDf:s2.heap.objs.size ∉ fp:=fun hm=>Nat.lt_irrefl _ (fl _ hm);have hok1:HOk X.prog X.w (upd H2 s2.heap.objs.size (.lst [])) h₁:=I2.hok.laid old (Nat.le_refl _) ⟨Nat.zero_le _,[],0,.nil,hacc⟩;have IY0:∀ tk,Inv (X.block (x :: caps) scope cl G.objs.size fp s2 H2) [] (none :: capv σ js) (upd H2 s2.heap.objs.size (.lst [])) { s2 with heap:=h₁,toks:=tk }:=fun tk=>by
  refine ⟨J50 I2 hCle f2 fl hkind hcell hsub hhas,rfl,I2.bare,Un.laid old (Nat.le_refl _) hfr,⟨_,hns₁,fun k z v e1 e2 e3=>?_⟩,fun z c e=>?_,?_,fun z c e=>?_,fun p hp=>absurd hp (by simp),hok1,?_⟩
  ·cases k with
   | zero=>simp at e2
   | succ k =>
    have e1':caps[k]?=some z:=by simpa using e1
    have e2':(capv σ js)[k]?=some (some v):=by simpa using e2
    obtain ⟨j,a,q1,q2,q3,q4,q5⟩:=hcaps k z e1';obtain ⟨j',r1,r2⟩:=capv_get e2';rw [q1] at r1;cases r1;obtain ⟨m,hm,hl⟩:=I2.loc;obtain ⟨u,ru,lu⟩:=hl j z v q2 r2 (.inr (.inl q3));refine ⟨u,ru,.inr ⟨.inl q5,a,q4,?_⟩⟩;rcases lu with ⟨k1,_⟩ | ⟨_,c,ec,o,ho,hd⟩
    ·have k1':X.env.scope.names.lookup z=some .local:=k1;rw [q3] at k1';cases k1'
    ·have:=hsub _ (mem_of_lookup q4);rw [ec] at this;cases this;exact ⟨o,old _ _ ho,hd⟩
  ·obtain ⟨v,o,ho,hd⟩:=I2.cell z c (hsub _ (mem_of_lookup e));exact ⟨v,o,old _ _ ho,hd⟩
  ·show upd H2 s2.heap.objs.size (.lst []) G.objs.size=none;rw [J9 hDC.symm];exact I2.hok.fresh hCle
  ·have ec:=hsub _ (mem_of_lookup e);obtain ⟨v,o,ho,hd⟩:=I2.cell z c ec;rw [J9 (Nat.ne_of_lt (lt_size ho))];exact I2.freeC z c ec
  ·show (none :: capv σ js).length=(x :: caps).length;unfold capv;simp [hlen]
 have stat:∀ {H':Hp},(∀ b∈fp,H' b=none)->∀ b∈fp,FpOk (X.block (x :: caps) scope cl G.objs.size fp s2 H2) [] H' b:=fun hn b hb =>
  ⟨hn b hb,Nat.ne_of_lt (Nat.lt_of_lt_of_le (fl b hb) hCle),(J50 (x:=x) (caps:=caps) I2 hCle f2 fl hkind hcell hsub hhas).exfs b hb,.inl hb,fun z c e=>(f2 b hb).2.2.2.2.1 z c (hsub _ (mem_of_lookup e)),fun p hp=>absurd hp (by simp)⟩
 have hxl:(relabel scope X.env).names.lookup x=some .local:=lookup_relabel_local hx;have loop:∀ tk,codeAny (model X.prog X.w) X.A (.compLoop (.ListComp elt [⟨.Name x px,iter,ifs,0⟩] scope pos) 0 (.ref it) (.ref s2.heap.objs.size) (compEnvC scope cl G.objs.size X.env))
   (compPost (model X.prog X.w) X.A X.xe use QV (.ref s2.heap.objs.size) G.objs.size) { s2 with heap:=h₁,toks:=tk }:=fun tk=>by
  refine J1d (fun m s'=>∃ (k:Nat) (o:Option V) (ys:List V) (H':Hp),Inv (X.block (x :: caps) scope cl G.objs.size fp s2 H2) [] (o :: capv σ js) H' s'/\tn k s'.heap/\(∀ b∈fp,H' b=none)/\W k m ys H') ?_ m0
   ⟨0,none,[],_,IY0 tk,T.keep _ _ _ st2 fun b hb o e=>old b o e,fun b hb=>by
    rw [J9 (show b≠s2.heap.objs.size from fun e=>hDf (by rw [<- e];exact hb))];exact (f2 b hb).1,w0⟩
  rintro m s3 ⟨k,o,ys,H',I3,st3,fr3,w3⟩;obtain ⟨hd,hW3⟩:=hW k m ys H' w3;rcases hW3 with ⟨stop,q⟩ | ⟨go,hz,step⟩
  ·refine thn (T.done (X.block (x :: caps) scope cl G.objs.size fp s2 H2) rfl rfl rfl hc k [] s3 _ _ (fun _ _=>False) I3 (stat fr3) st3 stop) fun r s4 h9=>?_;obtain ⟨hr,I4⟩:=h9;subst hr;have J5:Inv X pins σ H' s4:=I2.call' (ch:=fp) I4.os I4.base I4.hok I4.bare fun b hb=>⟨(f2 b hb).2.2.2.1,(f2 b hb).2.1,(f2 b hb).2.2.2.2.1,(f2 b hb).2.2.2.2.2⟩;exact fin _ H' s4 _ J5 q (by obtain ⟨m,q,_⟩:=I4.loc;exact ⟨m,q⟩) (I2.fpOk hCle I4.free)
  ·refine thn (T.item (X.block (x :: caps) scope cl G.objs.size fp s2 H2) rfl rfl rfl hc k [] s3 _ _ (fun _ _=>False) I3 (stat fr3) st3 go) fun r s4 h9=>?_;obtain ⟨u,hr,h4⟩:=h9;subst hr;refine thn h4 fun _ s5 h9=>?_;obtain ⟨v,H5,I5,r5,y5,st5,fr5⟩:=h9;have I5':=I5.pinned (stat fr5) (T.obj _ _ st5);have stp:=step v H5 y5;refine thn (J1w (X:=X.block (x :: caps) scope cl G.objs.size fp s2 H2) (i:=0) (pos:=px) hnd rfl (.inl hxl) (.inr hxl) _ s5 _ _ _ u
    (fun σ' H'=>σ'=some v :: capv σ js/\H'=H5) I5' r5 ⟨rfl,rfl⟩) fun _ s6 h9=>?_
   obtain ⟨σ6,H6,I6,q6⟩:=h9;obtain ⟨rfl,rfl⟩:=q6;refine thn (ht _ _ _ _ _ s6 _ _ _ I6 stp) fun ok s7 h9=>?_;obtain ⟨H7,I7,q7⟩:=h9;have back:∀ {s8:Shared} {H8:Hp} {o8:Option V} {ys8:List V} {m':Nat},Inv (X.block (x :: caps) scope cl G.objs.size fp s2 H2) ([] ++ pinsAt fp s5.heap) (o8 :: capv σ js) H8 s8->m' < m->W (k + 1) m' ys8 H8->
     ∃ m',m' < m/\∃ (k:Nat) (o:Option V) (ys:List V) (H':Hp),Inv (X.block (x :: caps) scope cl G.objs.size fp s2 H2) [] (o :: capv σ js) H' s8/\tn k s8.heap/\(∀ b∈fp,H' b=none)/\W k m' ys H':=fun {s8 H8 o8 ys8 m'} I8 hm w8=>by
    refine ⟨m',hm,k + 1,o8,ys8,H8,I8.unpinned,T.keep _ _ _ st5 fun b hb o e=>(I8.pin (b,o) (mem_append_right _ (mem_append_right _ (J1m hb e)))).1,fun b hb=>?_,w8⟩;obtain ⟨o,e,d⟩:=T.obj _ _ st5 b hb;exact (I8.pin (b,o) (mem_append_right _ (mem_append_right _ (J1m hb e)))).2.1
   cases ok with
   | false =>
    have q7':∃ m',m' < m/\W (k + 1) m' ys H7:=by
     have:=q7;rwa [if_neg (by decide)] at this
    obtain ⟨m',hm,w8⟩:=q7';exact back I7 hm w8
   | true =>
    have q7':te (some v :: capv σ js) H7 fun y H5=>H5 s2.heap.objs.size=some (.lst ys)/\∃ m',m' < m/\W (k + 1) m' (ys ++ [y]) (upd H5 s2.heap.objs.size (.lst (ys ++ [y]))):=by
     have:=q7;rwa [if_pos rfl] at this
    refine (show wpAny _ _ _ _ _ _ from thn (he _ _ _ _ _ s7 _ _ _ I7 q7') fun u8 s8 h9=>?_);obtain ⟨v8,H8,I8,r8,hd8,m',hm,w8⟩:=h9;refine thn (J1f (X:=X.block (x :: caps) scope cl G.objs.size fp s2 H2) _ s8 _ _ (.ref s2.heap.objs.size) [v8] (.ref s2.heap.objs.size) [u8]
     (fun _ H'=>H'=upd H8 s2.heap.objs.size (.lst (ys ++ [v8]))) I8 rfl (.cons r8 .nil) ⟨s2.heap.objs.size,_,v8,rfl,rfl,hd8,hz,rfl⟩) fun _ s9 h9=>?_
    obtain ⟨_,H9,I9,_,q9⟩:=h9;subst q9;exact back I9 hm w8
 have st1:tn 0 h₁:=T.keep _ _ _ st2 fun b hb o e=>old b o e;exact codeAny_compStart_list (loop _) (T.self X.A 0 _ _ _ st1 (loop _))
def capsOk (X:Cx) (scope:Scope) (cl:List (Str × Addr)) (caps:List Str) (js:List Nat):Bool :=
 (caps.zip js).all fun q=>X.N[q.2]? == some q.1 && X.env.scope.names.lookup q.1 == some .cell && (cl.lookup q.1).isSome && (relabel scope X.env).names.lookup q.1 == some .cell
theorem capsOk.get (hlen:caps.length=js.length) (h:capsOk X scope cl caps js=true):∀ (k:Nat) (c:Str),caps[k]?=some c->∃ (j:Nat) (a:Addr),js[k]?=some j/\X.N[j]?=some c/\X.env.scope.names.lookup c=some .cell/\cl.lookup c=some a/\(relabel scope X.env).names.lookup c=some .cell:=fun k c hk=>by
 have hkl:k < caps.length:=(List.getElem?_eq_some_iff.mp hk).1;have hj:js[k]?=some (js[k]'(hlen ▸ hkl)):=List.getElem?_eq_getElem (hlen ▸ hkl);have hm:(c,js[k]'(hlen ▸ hkl))∈caps.zip js:=by
  refine List.mem_iff_getElem?.mpr ⟨k,?_⟩;rw [List.getElem?_zip_eq_some];exact ⟨hk,hj⟩
 have:=all_eq_true.mp h _ hm;simp only [Bool.and_eq_true,beq_iff_eq] at this;obtain ⟨⟨⟨q1,q2⟩,q3⟩,q4⟩:=this;obtain ⟨a,ha⟩:=Option.isSome_iff_exists.mp q3;exact ⟨_,a,hj,q1,q2,ha,q4⟩
def freeOk (scope:Scope) (cl:List (Str × Addr)):Bool:=scope.names.all fun p=>p.2 != .free || (cl.lookup p.1).isSome
theorem freeOk.get (h:freeOk scope cl=true):∀ p∈scope.names,p.2=.free->∃ c,cl.lookup p.1=some c:=fun p hp' e=>by
 have:=all_eq_true.mp h p hp';rw [e] at this;exact Option.isSome_iff_exists.mp (by simpa using this)
theorem pe_lc (hc:X.calm=true) (hp:PI X (.Name x px) iter wi) (hclos:closureFor scope X.env=pure cl)
  (ht:∀ (C:Addr) (fp:List Addr) (s:Shared) (H:Hp),PTs (X.block (x :: caps) scope cl C fp s H) ifs tc)
  (he:∀ (C:Addr) (fp:List Addr) (s:Shared) (H:Hp),PE (X.block (x :: caps) scope cl C fp s H) elt te)
  (hcell:∀ p∈scope.names,p.2≠.cell) (hnames:∀ p∈scope.names,p.2=.local->scope.names.lookup p.1=some .local) (hnd:(x :: caps).Nodup)
  (hsub:∀ p∈cl,X.env.cells.lookup p.1=some p.2)
  (hhas:freeOk scope cl=true:=by rfl) (hlen:caps.length=js.length:=by rfl) (hcaps:capsOk X scope cl caps js=true:=by rfl)
  (hkind:scope.kind=.function:=by rfl) (hx:scope.names.lookup x=some .local:=by rfl) (hs:∀ v,foldedSetIterable iter X.env v=pure v:=by intro _;rfl) :
  PE X (.ListComp elt [⟨.Name x px,iter,ifs,0⟩] scope pos) (tLC wi tc te js):=by
 intro pins s σ H Q I h;rw [eval_ListComp];refine comp_core (use:=none) hc hp he ht hcell hnames hnd hsub (freeOk.get hhas) hlen (capsOk.get hlen hcaps) hclos hkind hx hs I h fun d H' s5 C J5 q hC fp=>?_;obtain ⟨m,nsC⟩:=hC;exact ⟨m,nsC,fun h' hs'=>⟨.ref d,H',J5.turned (h':=h') (t':=s5.toks) (it:=C) (fun b o hb e=>(hs'.2 b hb).trans e) fp.1 fp.2.1 fp.2.2.2.1 fp.2.2.2.2.1 fp.2.2.2.2.2,rfl,q⟩⟩
def tSetLC (t:TE) (i:Nat):TS:=fun D σ H=>t σ H fun v H'=>D.nx (σ.set i (some v)) H'
theorem ps_lc (hN:X.N.Nodup) (hi:X.N[i]?=some y) (hy:Loc X.env.scope y) (hc:X.calm=true) (hp:PI X (.Name x px) iter wi) (hclos:closureFor scope X.env=pure cl)
  (ht:∀ (C:Addr) (fp:List Addr) (s:Shared) (H:Hp),PTs (X.block (x :: caps) scope cl C fp s H) ifs tc)
  (he:∀ (C:Addr) (fp:List Addr) (s:Shared) (H:Hp),PE (X.block (x :: caps) scope cl C fp s H) elt te)
  (hcell:∀ p∈scope.names,p.2≠.cell) (hnames:∀ p∈scope.names,p.2=.local->scope.names.lookup p.1=some .local) (hnd:(x :: caps).Nodup)
  (hsub:∀ p∈cl,X.env.cells.lookup p.1=some p.2)
  (hhas:freeOk scope cl=true:=by rfl) (hlen:caps.length=js.length:=by rfl) (hcaps:capsOk X scope cl caps js=true:=by rfl)
  (hf:X.fn y=true\/X.env.scope.names.lookup y=some .local:=by first | exact .inl rfl | exact .inr rfl | assumption)
  (hsw:swapsWith (.ListComp elt [⟨.Name x px,iter,ifs,0⟩] scope pos) (some (.Name y py)) spos.line X.env=pure true:=by rfl)
  (hkind:scope.kind=.function:=by rfl) (hx:scope.names.lookup x=some .local:=by rfl) (hs:∀ v,foldedSetIterable iter X.env v=pure v:=by intro _;rfl) :
  PS X (.Assign [.Name y py] (.ListComp elt [⟨.Name x px,iter,ifs,0⟩] scope pos) spos) (tSetLC (tLC wi tc te js) i):=by
 intro pins s σ H D I h;rw [exec_Assign_Name_used _ _ _ _ hsw];refine wpAny_bind (wpAny_standAt (wpAny_bind ?_));show wpAny _ X.A (do let _ <- comprehension (.ListComp elt [⟨.Name x px,iter,ifs,0⟩] scope pos) scope X.env _ (newList []) false (eval iter X.env) (some (assign (.Name y py) X.env))) _ _ s;refine wpAny_bind (wpAny_mono (comp_core (use:=some (assign (.Name y py) X.env)) (QV:=fun _ s'=>SP X pins D .next s') hc hp he ht hcell hnames hnd hsub (freeOk.get hhas) hlen (capsOk.get hlen hcaps) hclos hkind hx hs I h fun d H' s5 C J5 q hC fp=>?_)
  (fun _ s' hq=>wpAny_pure (wpAny_pure hq)) fun _ _ e=>e)
 obtain ⟨mC,nsC⟩:=hC;show wpAny _ X.A (assign (.Name y py) X.env (.ref d)) _ _ s5;refine wpAny_assign_Name ?_;refine store_ok2 J5 hN hi hy (v:=.ref d) rfl (fun s6 I6 keep6=>?_) hf;obtain ⟨a,sa,ha⟩:=keep6;have aC:a≠C:=by
  rcases ha with e | e
  ·rw [e];exact Ne.symm fp.2.1
  ·exact fp.2.2.2.2.1 y a e
 exact ⟨mC,nsC.sameBut sa (Ne.symm aC),fun h' hs'=>⟨_,H',I6.turned (h':=h') (t':=s6.toks) (it:=C) (fun b o hb e=>(hs'.2 b hb).trans e) fp.1 fp.2.1 fp.2.2.2.1 fp.2.2.2.2.1 fp.2.2.2.2.2,q⟩⟩
end
theorem lc_over {J:It} {H1:Hp} {tc:TT} {te:TE} {σ:St} {js:List Nat} {Q:VK} {d:Addr} (n:Nat) (g:Nat->Bool) (f:Nat->V) (hd:H1 d=none) (hn:n<=1000)
  (hgo:∀ i H,i < n->Same H1 H->J.go i H) (hst:∀ H,Same H1 H->J.stop n H) (vv:Nat->V) (hy:∀ i H v H',i < n->Same H1 H->J.yld i H v H'->H'=H/\v=vv i)
  (hs:∀ i H Qt,i < n->Same H1 H->(∀ H',Same H H'->Qt (g i) H')->tc (some (vv i) :: capv σ js) H Qt)
  (he:∀ i H Qe,i < n->g i=true->Same H1 H->(∀ H',Same H H'->Qe (f i) H')->te (some (vv i) :: capv σ js) H Qe)
  (hq:∀ H',Same H1 H'->H' d=some (.lst (((List.range n).filter g).map f))->Q (.ref d) H') :
  ∃ W:Nat->Nat->List V->Hp->Prop,(∃ m,W 0 m [] (upd H1 d (.lst [])))/\
   ∀ i m ys H2,W i m ys H2->H2 d=some (.lst ys)/\((J.stop i H2/\Q (.ref d) H2)\/(J.go i H2/\ys.length < sizeLine/\∀ v H3,J.yld i H2 v H3->
    tc (some v :: capv σ js) H3 fun b H4=>if b=true then te (some v :: capv σ js) H4 fun y H5=>H5 d=some (.lst ys)/\∃ m',m' < m/\W (i + 1) m' (ys ++ [y]) (upd H5 d (.lst (ys ++ [y])))
     else ∃ m',m' < m/\W (i + 1) m' ys H4)):=by
 have s0:∀ o,Same H1 (upd H1 d o):=fun o b u e=>by rw [J9 (J7 e hd)];exact e
 refine ⟨fun i m ys H=>m=n - i/\i<=n/\ys=((List.range i).filter g).map f/\Same H1 H/\H d=some (.lst ys),⟨n,rfl,Nat.zero_le _,rfl,s0 _,J0⟩,?_⟩;rintro i m ys H2 ⟨rfl,hi,rfl,sm,h2⟩;refine ⟨h2,?_⟩;by_cases hlt:i < n
 ·refine .inr ⟨hgo i H2 hlt sm,?_,fun v H3 y3=>?_⟩
  ·have h1:(((List.range i).filter g).map f).length<=i:=by
    rw [length_map];exact Nat.le_trans (List.length_filter_le _ _) (by rw [length_range];exact Nat.le_refl _)
   exact Jp (by omega)
  ·obtain ⟨rfl,rfl⟩:=hy i H2 v H3 hlt sm y3;refine hs i H3 _ hlt sm fun H4 s4=>?_
   cases hg:g i with
   | false =>
    rw [if_neg (by decide)];refine ⟨n - (i + 1),by omega,rfl,hlt,?_,sm.trans s4,s4 _ _ h2⟩;rw [range_succ,List.filter_append,map_append];simp [hg]
   | true =>
    rw [if_pos rfl];refine he i H4 _ hlt hg (sm.trans s4) fun H5 s5=>⟨s5 _ _ (s4 _ _ h2),n - (i + 1),by omega,rfl,hlt,?_,?_,J0⟩
    ·rw [range_succ,List.filter_append,map_append];simp [hg]
    ·intro b u e;rw [J9 (J7 e hd)];exact s5 _ _ (s4 _ _ (sm _ _ e))
 ·have e:i=n:=by omega
  subst e;exact .inl ⟨hst H2 sm,hq H2 sm h2⟩
theorem Same.tup {K:Frag} {H H':Hp} {a:Addr} {xs:List V} (e:Same H H') (h:SqT K H a xs):SqT K H' a xs:=by
 rcases h with (h | ⟨o,h⟩) | h
 ·exact .inl (.inl (e _ _ h))
 ·exact .inl (.inr ⟨o,e _ _ h⟩)
 ·exact .inr h
theorem pick_all {α:Type} (G:α->Bool) (F:α->V):∀ xs:List α,
  ((List.range xs.length).filter fun i=>match xs[i]? with | some v=>G v | none=>false).map (fun i=>match xs[i]? with | some v=>F v | none=>V.non)=(xs.filter G).map F
 | []=>rfl
 | a :: r=>by
  have ih:=pick_all G F r;rw [length_cons,List.range_succ_eq_map,filter_cons,List.filter_map,filter_cons];have e:(fun i=>match (a :: r)[i]? with | some v=>G v | none=>false) ∘ Nat.succ=fun i=>match r[i]? with | some v=>G v | none=>false:=by
   funext i;simp
  have e2:(fun i=>match (a :: r)[i]? with | some v=>F v | none=>V.non) ∘ Nat.succ=fun i=>match r[i]? with | some v=>F v | none=>V.non:=by
   funext i;simp
  rw [e]
  cases hg:G a with
  | true =>
   simp only [List.getElem?_cons_zero,hg,if_true,map_cons,map_map];rw [e2,ih]
  | false =>
   simp only [List.getElem?_cons_zero,hg,Bool.false_eq_true,if_false,map_map];rw [e2,ih]
section
variable {α:Type} {K:Frag} {a:Addr} {H1:Hp} {tc:TT} {te:TE} {σ:St} {js:List Nat} {Q:VK} {d:Addr}
theorem lc_seq {J:It} (e:α->V) (xs:List α) (G:α->Bool) (F:α->V) (hn:xs.length<=1000) (hd:H1 d=none)
  (hgo:∀ i H,i < xs.length->Same H1 H->J.go i H) (hst:∀ H,Same H1 H->J.stop xs.length H) (hy:∀ i H v H',i < xs.length->Same H1 H->J.yld i H v H'->H'=H/\(xs.map e)[i]?=some v)
  (hs:∀ v∈xs,∀ H Qt,Same H1 H->(∀ H',Same H H'->Qt (G v) H')->tc (some (e v) :: capv σ js) H Qt)
  (he:∀ v∈xs,∀ H Qe,G v=true->Same H1 H->(∀ H',Same H H'->Qe (F v) H')->te (some (e v) :: capv σ js) H Qe)
  (hq:∀ H',Same H1 H'->H' d=some (.lst ((xs.filter G).map F))->Q (.ref d) H'):LCW J tc te σ js Q H1 d:=by
 have at_:∀ i,i < xs.length->∃ v,xs[i]?=some v/\v∈xs:=fun i hi=>⟨_,List.getElem?_eq_getElem hi,List.getElem_mem hi⟩
 refine lc_over xs.length (fun i=>match xs[i]? with | some v=>G v | none=>false) (fun i=>match xs[i]? with | some v=>F v | none=>V.non) hd hn hgo hst (fun i=>((xs.map e)[i]?).getD .non)
  (fun i H v H' hi s y=>?_) (fun i H Qt hi s k=>?_) (fun i H Qe hi hg s k=>?_) (fun H' s h=>?_)
 ·obtain ⟨e1,e2⟩:=hy i H v H' hi s y;exact ⟨e1,by rw [e2];rfl⟩
 ·obtain ⟨v,e1,hv⟩:=at_ i hi
  rw [getElem?_map,e1];refine hs v hv H Qt s fun H' s'=>?_;have:=k H' s';rw [e1] at this;exact this
 ·obtain ⟨v,e1,hv⟩:=at_ i hi
  rw [e1] at hg;rw [getElem?_map,e1];refine he v hv H Qe hg s fun H' s'=>?_;have:=k H' s';rw [e1] at this;exact this
 ·rw [pick_all] at h;exact hq H' s h
theorem lc_tup (e:α->V) (xs:List α) (G:α->Bool) (F:α->V) (hx:SqT K H1 a (xs.map e)) (hn:xs.length<=1000) (hd:H1 d=none)
  (hs:∀ v∈xs,∀ H Qt,Same H1 H->(∀ H',Same H H'->Qt (G v) H')->tc (some (e v) :: capv σ js) H Qt)
  (he:∀ v∈xs,∀ H Qe,G v=true->Same H1 H->(∀ H',Same H H'->Qe (F v) H')->te (some (e v) :: capv σ js) H Qe)
  (hq:∀ H',Same H1 H'->H' d=some (.lst ((xs.filter G).map F))->Q (.ref d) H'):LCW (Itt K a) tc te σ js Q H1 d :=
 lc_seq e xs G F hn hd (fun i H hi s=>⟨_,_,s.tup hx,by rw [getElem?_map,List.getElem?_eq_getElem hi];rfl⟩) (fun H s=>⟨_,s.tup hx,by rw [length_map];exact Nat.le_refl _⟩)
  (fun i H v H' hi s y=>⟨y.1,y.2 _ (s.tup hx)⟩) hs he hq
theorem lc_lst (e:α->V) (xs:List α) (G:α->Bool) (F:α->V) (hx:SqL K H1 a (xs.map e)) (hn:xs.length<=1000) (hd:H1 d=none)
  (hs:∀ v∈xs,∀ H Qt,Same H1 H->(∀ H',Same H H'->Qt (G v) H')->tc (some (e v) :: capv σ js) H Qt)
  (he:∀ v∈xs,∀ H Qe,G v=true->Same H1 H->(∀ H',Same H H'->Qe (F v) H')->te (some (e v) :: capv σ js) H Qe)
  (hq:∀ H',Same H1 H'->H' d=some (.lst ((xs.filter G).map F))->Q (.ref d) H'):LCW (Itl K a) tc te σ js Q H1 d :=
 lc_seq e xs G F hn hd (fun i H hi s=>⟨_,_,s.seq hx,by rw [getElem?_map,List.getElem?_eq_getElem hi];rfl⟩) (fun H s=>⟨_,s.seq hx,by rw [length_map];exact Nat.le_refl _⟩)
  (fun i H v H' hi s y=>⟨y.1,y.2 _ (s.seq hx)⟩) hs he hq
theorem lc_rng (lo:Int) (n:Nat) (G:Nat->Bool) (F:Nat->V) (hn:n<=1000) (hd:H1 d=none)
  (hs:∀ i,i < n->∀ H Qt,Same H1 H->(∀ H',Same H H'->Qt (G i) H')->tc (some (.int (lo + i)) :: capv σ js) H Qt)
  (he:∀ i,i < n->∀ H Qe,G i=true->Same H1 H->(∀ H',Same H H'->Qe (F i) H')->te (some (.int (lo + i)) :: capv σ js) H Qe)
  (hq:∀ H',Same H1 H'->H' d=some (.lst (((List.range n).filter G).map F))->Q (.ref d) H'):LCW (Itr lo n) tc te σ js Q H1 d :=
 lc_over n G F hd hn (fun i H hi _=>hi) (fun H _=>Nat.le_refl _) (fun i=>.int (lo + i)) (fun i H v H' hi _ y=>y) (fun i H Qt hi s k=>hs i hi H Qt s k) (fun i H Qe hi hg s k=>he i hi H Qe hg s k) hq
end
theorem J21 {α:Type} (xs:List α):xs.filter (fun _=>true)=xs:=List.filter_eq_self.mpr fun _ _=>rfl
theorem pe_ixr {X:Cx} {a b:Expr} {pos:Pos} {ta tb:TE} {r:R2} (hr:IxR X r) (ha:PE X a ta) (hb:PE X b tb) (hs:PlainIx b:=by intro _ _;rfl):PE X (.Subscript a b pos) (tOp r ta tb):=pe_ix hr ha hb hs
end L2
namespace L2
open PySem PySem.Spec PyProof.Rows
section
variable {X:Cx}
def CBig (i j:Int):Prop:=i.natAbs < 2 ^ 4000/\j.natAbs < 2 ^ 4000
theorem bits_big {k:Int} (h:k.natAbs < 2 ^ 4000):Builtin.Int.intBits k<=2 ^ 20:=by
 unfold Builtin.Int.intBits;split
 ·exact Nat.zero_le _
 ·have:k.natAbs.log2 < 4000:=by
   rcases Nat.eq_zero_or_pos k.natAbs with h0 | hp
   ·rw [h0];decide
   ·exact (Nat.log2_lt (Nat.ne_of_gt hp)).mpr h
  have h2:(4001:Nat)<=2 ^ 20:=by decide
  omega
theorem op_mulB:OpR X (binaryOp .Mult) (rI CBig fun i j=>.int (i * j)):=opI fun _ _ _ _ _ _ _ hc q=>mul_int q (.of_bits (bits_big hc.1) (bits_big hc.2))
def CDivB (i j:Int):Prop:=0 < j/\j.natAbs < 2 ^ 4000
theorem op_fdivB:OpR X (binaryOp .FloorDiv) (rI CDivB fun i j=>.int (i / j)):=opI fun i j _ _ _ _ _ hc q=>by
 have h1:(0:Int) < j:=hc.1;have h2:=hc.2;refine floordiv_int (by omega) (by rw [Int.fdiv_eq_ediv_of_nonneg i (by omega)];exact q) (.inl (PyProof.noPylong_of_log2 ?_));have h0:j.natAbs≠0:=by omega
 have:=(Nat.log2_lt h0).mpr h2;omega
def rIndexL (K:Frag):V->List V->Hp->VK->Prop:=fun x vs H Q=>∃ (l:Addr) (ns:List Int) (k:Int),x=.ref l/\vs=[.int k]/\SqL K H l (ns.map V.int)/\k∈ns/\Q (.int (ns.idxOf k:Nat)) H
theorem J4p:MtM X "list.index" (rIndexL X.K):=by
 intro pins s σ H x vs v us Q I rx rv h;obtain ⟨l,ns,k,rfl,rfl,hH,hk,q⟩:=h;cases rx;obtain ⟨u1,rfl,⟨t,rfl⟩⟩:=rv.one;obtain ⟨its,r',pl,hz⟩:=I.list hH;have hi:=Js r';have hlen:=hi.length;obtain ⟨⟨cls,dd,data,sl⟩,ho,hc,n,hd⟩:=id pl.isList;simp only at hc hd;subst hc hd;have hj:ns.idxOf k < ns.length:=idxOf_lt_length_iff.mpr hk;have h63:=J6a;rw [length_map] at hz;refine call_meets PySem.F.slot_list_index ⟨_,ho,rfl⟩ PySem.F.entry_list_index (PySem.F.args_list_index_2 _ _)
  (SeqAt.list_indexAt l its.toArray n dd sl (.int k t) (isInt k) (ns.idxOf k) (by simpa [hlen] using hj) (by omega) ?_ ?_) ⟨ho,fun y hy=>(eq_isInt k t hi y (by simpa using hy)).at _ _,⟨.int _,H,I.tok _,⟨_,rfl⟩,q⟩⟩
 ·show isInt k its[ns.idxOf k]=true;rw [isInt_at k hi _ (by omega) hj];simpa using getElem_idxOf hj
 ·intro j hjs hlt;show isInt k its[j]=false;rw [isInt_at k hi j (by simpa using hjs) (by omega)];exact ne_of_lt_idxOf hlt _
end
def HasM (P:Program) (w:World) (K:Frag) (mg:Str->Option Value) (base:Heap) (CX:CXT) (k:Nat) (m:Str) (ps:List Str) (sp:Sp) (C:Addr):Prop :=
 ∃ f fd,Cls K C/\Meth K C m f/\FnOk P w K mg base CX k f fd ps sp/\Binds K fd ps []
def tMethD {ι:Type} (m:Str) (cls:ι->Addr) (sp:ι->Sp) (E:XK) (ta:TE) (t:TA):TE:=fun σ H Q=>ta σ H fun x H1=>∃ a k dx fs,x=.ref a/\H1 a=some (.ins (cls k) dx fs)/\fs.lookup m=none/\
 t σ H1 fun vs H2=>sp k (x :: vs) H2 Q E
section
variable {X:Cx} {CX:CXT} {k:Nat} {f:Addr} {fd:FuncData} {ps:List Str} {ι:Type} {cls:ι->Addr} {sp:ι->Sp} {spB:Sp} {dvs:List V} {ds:List Value} {E:XK} {x m b:Str} {p pos apos:Pos} {e o:Expr} {es:List Expr} {ta:TE} {t:TA} {B:Addr} {mc:Value}
theorem J4m {pl:Sem Bool} (he:PE X o ta) (hM:∀ i,HasM X.prog X.w X.K X.mg X.base CX k m ps (sp i) (cls i)) (hr:Room k X.A) (hx:J3r CX X E) (ha:PA X (e :: es) t)
  (hst:starEach (e :: es) X.env=(false,eval e X.env) :: starEach es X.env:=by rfl) (hpl:(backTo pos (starEach es X.env)).any (·.1)=false:=by rfl)
  (ht:eval (.Call (.Attribute o m apos) (e :: es) [] pos) X.env=(do
   let ov <- eval o X.env
   standAt apos.atName
   let (f,first) <- holding [ov] (getMethod ov m pl)
   callWith pos f first (backTo pos (starEach (e :: es) X.env)) (backToKw pos (keywordEach [] X.env))):=by rfl) :
  PE X (.Call (.Attribute o m apos) (e :: es) [] pos) (tMethD m cls sp E ta t):=by
 intro pins s σ H Q I h;refine methodCall_KW (pl:=pl) (thn (he pins s σ H _ I h) fun u s1 h9=>?_) ht;obtain ⟨x,H1,I1,rx,a,i,dx,fs,ex,ea,l,q⟩:=h9;subst ex;obtain rfl:u=Value.ref a:=rx;obtain ⟨f,fd,c,hm,F,hb⟩:=hM i;refine J5m I1 ea c hm l ?_;refine callWith_K (first:=[.ref a]) (h₀:=X.base) I.ok.mod.kin hm.kp (thn (ha pos pins s1 σ H1 _ I1 q) fun us s2 h9=>?_) hst hpl;obtain ⟨vs,H2,I2,r,q2⟩:=h9;refine ⟨I2.kIn,?_⟩;exact run_fn (us:=.ref a :: us) (vs:=.ref a :: vs) (dvs:=[]) F hr hb .nil hx I2 (.cons rfl r) (by rw [append_nil];exact q2)
theorem pe_methD0 {pl:Sem Bool} (he:PE X o ta) (hM:∀ i,HasM X.prog X.w X.K X.mg X.base CX k m ps (sp i) (cls i)) (hr:Room k X.A) (hx:J3r CX X E)
  (ht:eval (.Call (.Attribute o m apos) [] [] pos) X.env=(do
   let ov <- eval o X.env
   standAt apos.atName
   let (f,first) <- holding [ov] (getMethod ov m pl)
   callWith pos f first (backTo pos (starEach [] X.env)) (backToKw pos (keywordEach [] X.env))):=by rfl) :
  PE X (.Call (.Attribute o m apos) [] [] pos) (tMethD m cls sp E ta tNil):=by
 intro pins s σ H Q I h;refine methodCall_KW (pl:=pl) (thn (he pins s σ H _ I h) fun u s1 h9=>?_) ht;obtain ⟨x,H1,I1,rx,a,i,dx,fs,ex,ea,l,q⟩:=h9;subst ex;obtain rfl:u=Value.ref a:=rx;obtain ⟨f,fd,c,hm,F,hb⟩:=hM i;refine J5m I1 ea c hm l ?_;exact PySem.W.callWith_K0 (first:=[.ref a]) I1.kIn hm.kp (run_fn (us:=[.ref a]) (vs:=[.ref a]) (dvs:=[]) F hr hb .nil hx I1 (.cons rfl .nil) q)
structure BaseM (K:Frag) (B:Addr) (m:Str) (f:Addr):Prop where
 sp:PySem.W.specialIn K (.ref B) "__getattribute__"=some (some (.builtin "type.__getattribute__"))
 rd:readsIn K B (.type "type")=true
 fd:findCls K (.ref B) (.type "type") m=some (.val (.ref f))
 kp:keepIn K (.ref f)=true
theorem J3v {pl:Sem Bool} (M:BaseM X.K B m f) (hgB:Gl X b) (hmB:X.mg b=some (.ref B)) (F:FnOk X.prog X.w X.K X.mg X.base CX k f fd ps spB) (hr:Room k X.A) (hb:Binds X.K fd ps ds) (hd:Vals dvs ds) (hx:J3r CX X E) (ha:PA X (e :: es) t)
  (hdb:(b == ("__debug__":Str))=false:=by decide)
  (hst:starEach (e :: es) X.env=(false,eval e X.env) :: starEach es X.env:=by rfl) (hpl:(backTo pos (starEach es X.env)).any (·.1)=false:=by rfl)
  (ht:eval (.Call (.Attribute (.Name b p) m apos) (e :: es) [] pos) X.env=(do
   let ov <- eval (.Name b p) X.env
   standAt apos.atName
   let (f,first) <- holding [ov] (getMethod ov m pl)
   callWith pos f first (backTo pos (starEach (e :: es) X.env)) (backToKw pos (keywordEach [] X.env))):=by rfl) :
  PE X (.Call (.Attribute (.Name b p) m apos) (e :: es) [] pos) (tCall spB dvs E t):=by
 intro pins s σ H Q I h;refine methodCall_KW (pl:=pl) (J5h I hgB hmB ?_ hdb) ht;refine PySem.W.method_cls I.kIn M.sp (PySem.W.cls_value I.kIn M.rd M.fd rfl ?_);have I1:=I.tok (s.toks + 1);refine callWith_K (first:=[]) (h₀:=X.base) I.ok.mod.kin M.kp (thn (ha pos pins _ σ H _ I1 h) fun us s2 h9=>?_) hst hpl;obtain ⟨vs,H2,I2,r,q2⟩:=h9;refine ⟨I2.kIn,?_⟩;exact run_fn (us:=us) (vs:=vs) F hr hb hd hx I2 r q2
end
end L2
namespace L2
open PySem PySem.Spec PyProof.Rows
theorem J3p {M:Model} {A:Around} {E:Value->Shared->Prop} {s:Shared} {β:Type} (k:Nat) (f:Nat->β->Sem (ForInStep β)) (I:Nat->β->Shared->Prop) (Q:β->Shared->Prop)
  (turn:∀ i b s,i < k->I i b s->wpAny M A (f i b) (fun r s'=>match r with | .yield b'=>I (i + 1) b' s' | .done b'=>Q b' s') E s)
  (fin:∀ b s,I k b s->Q b s) (b:β) (h:I 0 b s):wpAny M A (forIn ([0:k]:Std.Legacy.Range) b f) Q E s:=by
 rw [Std.Legacy.Range.forIn_eq_forIn_range'];simp only [Std.Legacy.Range.size,Nat.sub_zero,Nat.add_sub_cancel,Nat.div_one];refine wpAny_forIn_list _ (fun rest b s'=>∃ i,rest=List.range' i (k - i)/\i<=k/\I i b s') _ ?_ ?_ _ _ ⟨0,by simp,Nat.zero_le _,h⟩
 ·rintro x rest b s' ⟨i,hr,hi,hI⟩;have hlt:i < k:=by
   rcases Nat.lt_or_ge i k with q | q
   ·exact q
   ·rw [Nat.sub_eq_zero_of_le q] at hr;simp at hr
  obtain ⟨rfl,hrest⟩:x=i/\rest=List.range' (i + 1) (k - (i + 1)):=by
   have e:k - i=(k - (i + 1)) + 1:=by omega
   rw [e,List.range'_succ] at hr;injection hr with h1 h2
   exact ⟨h1,h2⟩
  refine wpAny_mono (turn x b s' hlt hI) (fun r s2 hr2=>?_) fun _ _ z=>z
  cases r with
  | done b'=>exact hr2
  | yield b'=>exact ⟨x + 1,hrest,hlt,hr2⟩
 ·rintro b s' ⟨i,hr,hi,hI⟩;have:i=k:=by
   have:=congrArg List.length hr;simp at this;omega
  subst this;exact fin b s' hI
theorem J53 (l:Addr) (items:Array Value) (n:Nat) (dd:Option Addr) (sl:Array (Option Value)) (x:Value) (e:Value->Bool) (j:Nat) (hj:j < items.size)
  (hit:e items[j]=true) (hno:∀ m (hm:m < items.size),m < j->e items[m]=false) :
  Meets (Builtin.«tuple.index» ⟨[.ref l,x],[]⟩)
   (fun A R s=>s.heap.get? l=some { cls:=.type "tuple",dict:=dd,data:=.seq items n,slots:=sl }/\(∀ y,y∈items->SeqAt.EqAt A.in1 s y x (e y))/\R (.ok (.ret (.int j s.toks))) { s with toks:=s.toks + 1 }) :=
 .of_wp fun prog w A R s h=>by
  obtain ⟨hp,g,d,tk,os⟩:=s;obtain ⟨hl,he,h⟩:=h
  wp_walk using AutoSeq1.wpAny_loadPart' hl,J3p _ _ (fun i b s'=>b=(none,())/\s'=⟨hp,g,d,tk,os⟩/\i<=j) _
  case turn =>
   rintro i b s' hi ⟨rfl,rfl,hij⟩;have hi':i < items.size:=by simpa using hi
   dsimp only;rw [Array.getElem?_eq_getElem hi'];refine wpAny_bind (he _ (Array.getElem_mem hi') prog w _ _ ?_);rcases Nat.lt_or_ge i j with q | q
   ·rw [hno i hi' q]
    wp_walk
    exact ⟨rfl,rfl,q⟩
   ·have:i=j:=by omega
    subst this;rw [hit]
    wp_walk
    exact ⟨_,rfl,h⟩
  case fin =>
   rintro b s' ⟨rfl,rfl,hij⟩;exfalso;simp at hij;omega
  case h=>exact ⟨rfl,rfl,Nat.zero_le _⟩
def rIndexT:V->List V->Hp->VK->Prop:=fun x vs H Q=>∃ (l:Addr) (ns:List Int) (k:Int),x=.ref l/\vs=[.int k]/\H l=some (.tup (ns.map V.int))/\k∈ns/\Q (.int (ns.idxOf k:Nat)) H
theorem mt_indexT {X:Cx}:MtM X "tuple.index" rIndexT:=by
 intro pins s σ H x vs v us Q I rx rv h;obtain ⟨l,ns,k,rfl,rfl,hH,hk,q⟩:=h;cases rx;obtain ⟨u1,rfl,⟨t,rfl⟩⟩:=rv.one;obtain ⟨its,r',pl,hz⟩:=I.tuple (SqT.of hH);have hi:=Js r';have hlen:=hi.length;obtain ⟨⟨cls,dd,data,sl⟩,ho,hc,n,hd⟩:=id pl;simp only at hc hd;subst hc hd;have hj:ns.idxOf k < ns.length:=idxOf_lt_length_iff.mpr hk;refine call_meets PySem.F.slot_tuple_index ⟨_,ho,rfl⟩ PySem.F.entry_tuple_index (PySem.F.args_tuple_index_2 _ _)
  (J53 l its.toArray n dd sl (.int k t) (isInt k) (ns.idxOf k) (by simpa [hlen] using hj) ?_ ?_) ⟨ho,fun y hy=>(eq_isInt k t hi y (by simpa using hy)).at _ _,⟨.int _,H,I.tok _,⟨_,rfl⟩,q⟩⟩
 ·show isInt k its[ns.idxOf k]=true;rw [isInt_at k hi _ (by omega) hj];simpa using getElem_idxOf hj
 ·intro j hjs hlt;show isInt k its[j]=false;rw [isInt_at k hi j (by simpa using hjs) (by omega)];exact ne_of_lt_idxOf hlt _
def tBMT (r:V->List V->Hp->VK->Prop) (to:TE) (t:TA):TE:=fun σ H Q=>to σ H fun x H1=>(∃ p xs,x=.ref p/\H1 p=some (.tup xs))/\t σ H1 fun xs H2=>r x xs H2 Q
theorem pe_bmT {X:Cx} {o e:Expr} {es:List Expr} {to:TE} {t:TA} {name:Str} {apos cpos:Pos} {id:String} {r:V->List V->Hp->VK->Prop} (slot:Slot "tuple" name id) (hty:typeOf (.builtin id)=pure (.type "method_descriptor")) (hm:MtR X id r) (ho:PE X o to) (ha:PA X (e :: es) t)
  (hbase:attributeBase o name X.env (eval o X.env)=eval o X.env:=by rfl)
  (hfew:((backTo cpos (starEach (e :: es) X.env)).all (fun x=>!x.1) && (backToKw cpos (keywordEach [] X.env)).all (fun x=>x.1.isSome)
   && decide ((e :: es).length + ([]:List Keyword).length + (if ([]:List Keyword).isEmpty then 0 else 1) < 30))=true:=by rfl)
  (hline:(apos.endLine == cpos.line)=true:=by rfl) (hs:starEach (e :: es) X.env=(false,eval e X.env) :: starEach es X.env:=by rfl) (hplain:(backTo cpos (starEach es X.env)).any (·.1)=false:=by rfl) :
  PE X (.Call (.Attribute o name apos) (e :: es) [] cpos) (tBMT r to t):=by
 intro pins s σ H Q I h;refine wpAny_Call_method_late hbase hfew hline rfl (thn (ho pins s σ H _ I h) fun v s1 h9=>?_);obtain ⟨x,H1,I1,r1,ty,q1⟩:=h9;obtain ⟨p,xs,rfl,hp⟩:=ty;obtain rfl:v=Value.ref p:=r1;obtain ⟨_,its,_,o,e1,⟨c1,c2⟩,_⟩:=(show ObjOk X.prog X.w H1 s1.heap p (.tup xs) from I1.hok p _ hp);refine ⟨"tuple",id,PySem.F.plainAttrs_tuple,slot,hty,⟨o,e1,c1⟩,fun a e2=>by cases e2;exact ⟨o,e1,c2⟩,?_⟩;have hA:=ha cpos pins s1 σ H1 _ I1 q1;rw [hs] at hA ⊢;refine Calls.callWith_builtin (by show (false || (backTo cpos (starEach es X.env)).any (·.1))=false;rw [hplain] <;> rfl) (Calls.evalArgs_plain ?_);exact thn hA fun us s2 h9=>by obtain ⟨vs,H2,I2,r2,q2⟩:=h9;exact hm pins s2 σ H2 (.ref p) vs (.ref p) us Q I2 rfl r2 q2
section
variable {X:Cx}
theorem ix_tupK (K:Frag) (h:X.K=K:=by rfl):IxR X (rIxT K):=by subst h;exact ix_tup
theorem pe_flK {e:Expr} {f:Str} {pos:Pos} {ta:TE} (K:Frag) (he:PE X e ta) (h:X.K=K:=by rfl) (hb:attributeBase e f X.env (eval e X.env)=eval e X.env:=by rfl):PE X (.Attribute e f pos) (tFld K ta f):=by subst h;exact Ja he hb
end
end L2
namespace L2
open PySem PySem.Spec PyProof.Rows
end L2
namespace L2
open PySem PySem.Spec PyProof.Rows
structure Refs (Pr:Addr->Nat->Prop) (xs:List V) (n:Nat):Prop where
 len:xs.length=n
 at_:∀ i,i < n->∃ q,xs[i]?=some (.ref q)/\Pr q i
theorem Refs.nil {Pr:Addr->Nat->Prop}:Refs Pr [] 0:=⟨rfl,fun i h=>absurd h (Nat.not_lt_zero _)⟩
theorem Refs.snoc {Pr:Addr->Nat->Prop} {xs:List V} {n:Nat} {q:Addr} (h:Refs Pr xs n) (hq:Pr q n):Refs Pr (xs ++ [.ref q]) (n + 1):=by
 refine ⟨by rw [length_append,h.len];rfl,fun i hi=>?_⟩;by_cases c:i < n
 ·obtain ⟨p,e,hp⟩:=h.at_ i c;exact ⟨p,by rw [getElem?_append_left (by rw [h.len];exact c)];exact e,hp⟩
 ·have e:i=n:=by omega
  subst e;refine ⟨q,?_,hq⟩;rw [getElem?_append_right (by rw [h.len];exact Nat.le_refl _),h.len,Nat.sub_self];rfl
theorem Refs.mono {Pr Pr':Addr->Nat->Prop} {xs:List V} {n:Nat} (h:Refs Pr xs n) (m:∀ q i,i < n->Pr q i->Pr' q i):Refs Pr' xs n :=
 ⟨h.len,fun i hi=>by obtain ⟨q,e,p⟩:=h.at_ i hi;exact ⟨q,e,m q i hi p⟩⟩
def KeepD (d:Addr) (H H':Hp):Prop:=∀ b o,H b=some o->b≠d->H' b=some o
theorem pe_bmK {X:Cx} {T:String} {name:Str} {id:String} {r:V->List V->Hp->VK->Prop} {o e:Expr} {es:List Expr} {to:TE} {t:TA} {apos cpos:Pos} (K:Frag) (pa:PlainAttrs T) (slot:Slot T name id) (hty:typeOf (.builtin id)=pure (.type "method_descriptor")) (hm:MtR X id r) (ho:PE X o to) (ha:PA X (e :: es) t)
  (h:X.K=K:=by rfl) (hbase:attributeBase o name X.env (eval o X.env)=eval o X.env:=by rfl)
  (hfew:((backTo cpos (starEach (e :: es) X.env)).all (fun x=>!x.1) && (backToKw cpos (keywordEach [] X.env)).all (fun x=>x.1.isSome)
   && decide ((e :: es).length + ([]:List Keyword).length + (if ([]:List Keyword).isEmpty then 0 else 1) < 30))=true:=by rfl)
  (hline:(apos.endLine == cpos.line)=true:=by rfl) (hs:starEach (e :: es) X.env=(false,eval e X.env) :: starEach es X.env:=by rfl) (hplain:(backTo cpos (starEach es X.env)).any (·.1)=false:=by rfl) :
  PE X (.Call (.Attribute o name apos) (e :: es) [] cpos) (tBM K T r to t):=by
 subst h;exact pe_bm pa slot hty hm ho ha hbase hfew hline hs hplain
theorem mt_indexLK {X:Cx} (K:Frag) (h:X.K=K:=by rfl):MtM X "list.index" (rIndexL K):=by subst h;exact J4p
end L2
namespace L2
open PySem PyProof.Rows
end L2
namespace L2
open PySem PyProof.Rows
end L2
namespace L2
open PySem PySem.Spec PyProof.Rows
def LCW2 (K:Frag) (J:It) (tc:TT) (te:TE) (σ:St) (js:List Nat) (Q:VK) (H1:Hp) (d:Addr):Prop:=∃ W:Nat->Nat->List V->Hp->Prop,(∃ m,W 0 m [] (upd H1 d (.lst [])))/\
 ∀ i m ys H2,W i m ys H2->H2 d=some (.lst ys)/\((J.stop i H2/\Q (.ref d) H2)\/(J.go i H2/\ys.length < sizeLine/\∀ v H3,J.yld i H2 v H3->
  ∃ p a b,v=.ref p/\SqT K H3 p [a,b]/\tc (some a :: some b :: capv σ js) H3 fun bb H4=>if bb=true then te (some a :: some b :: capv σ js) H4 fun y H5=>H5 d=some (.lst ys)/\∃ m',m' < m/\W (i + 1) m' (ys ++ [y]) (upd H5 d (.lst (ys ++ [y])))
   else ∃ m',m' < m/\W (i + 1) m' ys H4))
def tLC2 (K:Frag) (wi:TI) (tc:TT) (te:TE) (js:List Nat):TE:=fun σ H Q=>wi σ H fun J H1=>∀ d,H1 d=none->LCW2 K J tc te σ js Q H1 d
section
variable {X:Cx} {elt iter:Expr} {ifs:List Expr} {x y z:Str} {px py pz tp:Pos} {kk:Nat} {scope:Scope} {cl:List (Str × Addr)} {pos spos:Pos} {wi:TI} {tc:TT} {te:TE} {caps:List Str} {js:List Nat} {i:Nat}
theorem comp_core2 {p0:Pos} {use:Option (Value->Sem Unit)} {QV:Value->Shared->Prop} {Q:VK} {pins:List (Addr × Obj)} {s:Shared} {σ:St} {H:Hp} (hc:X.calm=true) (hp:PI X (.Tuple [.Name x px,.Name z pz] kk tp) iter wi)
  (he:∀ (C:Addr) (fp:List Addr) (s:Shared) (H:Hp),PE (X.block (x :: z :: caps) scope cl C fp s H) elt te)
  (ht:∀ (C:Addr) (fp:List Addr) (s:Shared) (H:Hp),PTs (X.block (x :: z :: caps) scope cl C fp s H) ifs tc)
  (hcell:∀ p∈scope.names,p.2≠.cell) (hnames:∀ p∈scope.names,p.2=.local->scope.names.lookup p.1=some .local) (hnd:(x :: z :: caps).Nodup)
  (hsub:∀ p∈cl,X.env.cells.lookup p.1=some p.2) (hhas:∀ p∈scope.names,p.2=.free->∃ c,cl.lookup p.1=some c) (hlen:caps.length=js.length)
  (hcaps:∀ (k:Nat) (c:Str),caps[k]?=some c->∃ (j:Nat) (a:Addr),js[k]?=some j/\X.N[j]?=some c/\X.env.scope.names.lookup c=some .cell/\cl.lookup c=some a/\(relabel scope X.env).names.lookup c=some .cell)
  (hclos:closureFor scope X.env=pure cl) (hkind:scope.kind=.function) (hx:scope.names.lookup x=some .local) (hz':scope.names.lookup z=some .local) (hs:∀ v,foldedSetIterable iter X.env v=pure v)
  (I:Inv X pins σ H s) (h:tLC2 X.K wi tc te js σ H Q)
  (fin:∀ (d:Addr) (H':Hp) (s5:Shared) (C:Addr),Inv X pins σ H' s5->Q (.ref d) H'->(∃ m,s5.heap.Ns C m)->FpOk X pins H' C->compPost (model X.prog X.w) X.A X.xe use QV (.ref d) C (.ok .next) s5) :
  wpAny (model X.prog X.w) X.A (comprehension (.ListComp elt [⟨.Tuple [.Name x px,.Name z pz] kk tp,iter,ifs,0⟩] scope pos) scope X.env p0 (newList []) false (eval iter X.env) use) QV X.xe s:=by
 refine wpAny_comprehension_free (cl:=cl) (use:=use) (Q:=QV) rfl hs hclos hkind hnames (thn (hp pins s σ H _ I h) fun v s1 h1=>thn h1 fun itv s2 h2=>?_);obtain ⟨it,fp,tn,J,H2,e,I2,T,st2,f2,h3⟩:=h2;subst e;have hfr:H2 s2.heap.objs.size=none:=I2.hok.fresh (Nat.le_refl _);obtain ⟨W,⟨m0,w0⟩,hW⟩:=h3 s2.heap.objs.size hfr;refine wpAny_newObj_type (wpAny_newFunctionEnv hcell (by intro y hy;simp at hy) (fun h₁ hns₁ hsb₁=>?_) hkind);dsimp only at hns₁ hsb₁ ⊢;generalize hH2:s2.heap.push { cls:=.type "list",dict:=none,data:=.seq ([]:List Value).toArray }=G at hns₁ hsb₁ ⊢;have hC:G.objs.size=s2.heap.objs.size + 1:=by rw [<- hH2,size_push]
 have hDC:s2.heap.objs.size≠G.objs.size:=by rw [hC];exact Nat.ne_of_lt (Nat.lt_succ_self _)
 have hCle:s2.heap.objs.size<=G.objs.size:=by rw [hC];exact Nat.le_succ _
 have old:∀ b o,s2.heap.get? b=some o->h₁.get? b=some o:=fun b o e=>hsb₁.extBut b o (by rw [hC];exact Nat.ne_of_lt (Nat.lt_succ_of_lt (lt_size e))) (get?_push_of_some _ (hH2 ▸ get?_push_of_some _ e));have hacc:h₁.get? s2.heap.objs.size=some { cls:=.type "list",dict:=none,data:=.seq ([]:List Value).toArray }:=hsb₁.extBut _ _ hDC (get?_push_of_some _ (hH2 ▸ get?_push_size _ rfl));have fl:∀ b∈fp,b < s2.heap.objs.size:=fun b hb=>by
  obtain ⟨o,e,_⟩:=T.obj _ _ st2 b hb;exact lt_size e
 have hDf:s2.heap.objs.size ∉ fp:=fun hm=>Nat.lt_irrefl _ (fl _ hm);have hok1:HOk X.prog X.w (upd H2 s2.heap.objs.size (.lst [])) h₁:=I2.hok.laid old (Nat.le_refl _) ⟨Nat.zero_le _,[],0,.nil,hacc⟩;have IY0:∀ tk,Inv (X.block (x :: z :: caps) scope cl G.objs.size fp s2 H2) [] (none :: none :: capv σ js) (upd H2 s2.heap.objs.size (.lst [])) { s2 with heap:=h₁,toks:=tk }:=fun tk=>by
  refine ⟨J50 I2 hCle f2 fl hkind hcell hsub hhas,rfl,I2.bare,Un.laid old (Nat.le_refl _) hfr,⟨_,hns₁,fun k q v e1 e2 e3=>?_⟩,fun q c e=>?_,?_,fun q c e=>?_,fun p hp=>absurd hp (by simp),hok1,?_⟩
  ·rcases k with _ | _ | k
   ·simp at e2
   ·simp at e2
   ·have e1':caps[k]?=some q:=by simpa using e1
    have e2':(capv σ js)[k]?=some (some v):=by simpa using e2
    obtain ⟨j,a,q1,q2,q3,q4,q5⟩:=hcaps k q e1';obtain ⟨j',r1,r2⟩:=capv_get e2';rw [q1] at r1;cases r1;obtain ⟨m,hm,hl⟩:=I2.loc;obtain ⟨u,ru,lu⟩:=hl j q v q2 r2 (.inr (.inl q3));refine ⟨u,ru,.inr ⟨.inl q5,a,q4,?_⟩⟩;rcases lu with ⟨k1,_⟩ | ⟨_,c,ec,o,ho,hd⟩
    ·have k1':X.env.scope.names.lookup q=some .local:=k1;rw [q3] at k1';cases k1'
    ·have:=hsub _ (mem_of_lookup q4);rw [ec] at this;cases this;exact ⟨o,old _ _ ho,hd⟩
  ·obtain ⟨v,o,ho,hd⟩:=I2.cell q c (hsub _ (mem_of_lookup e));exact ⟨v,o,old _ _ ho,hd⟩
  ·show upd H2 s2.heap.objs.size (.lst []) G.objs.size=none;rw [J9 hDC.symm];exact I2.hok.fresh hCle
  ·have ec:=hsub _ (mem_of_lookup e);obtain ⟨v,o,ho,hd⟩:=I2.cell q c ec;rw [J9 (Nat.ne_of_lt (lt_size ho))];exact I2.freeC q c ec
  ·show (none :: none :: capv σ js).length=(x :: z :: caps).length;unfold capv;simp [hlen]
 have stat:∀ {H':Hp},(∀ b∈fp,H' b=none)->∀ b∈fp,FpOk (X.block (x :: z :: caps) scope cl G.objs.size fp s2 H2) [] H' b:=fun hn b hb =>
  ⟨hn b hb,Nat.ne_of_lt (Nat.lt_of_lt_of_le (fl b hb) hCle),(J50 (x:=x) (caps:=z :: caps) I2 hCle f2 fl hkind hcell hsub hhas).exfs b hb,.inl hb,fun q c e=>(f2 b hb).2.2.2.2.1 q c (hsub _ (mem_of_lookup e)),fun p hp=>absurd hp (by simp)⟩
 have hxl:(relabel scope X.env).names.lookup x=some .local:=lookup_relabel_local hx;have hzl:(relabel scope X.env).names.lookup z=some .local:=lookup_relabel_local hz';have loop:∀ tk,codeAny (model X.prog X.w) X.A (.compLoop (.ListComp elt [⟨.Tuple [.Name x px,.Name z pz] kk tp,iter,ifs,0⟩] scope pos) 0 (.ref it) (.ref s2.heap.objs.size) (compEnvC scope cl G.objs.size X.env))
   (compPost (model X.prog X.w) X.A X.xe use QV (.ref s2.heap.objs.size) G.objs.size) { s2 with heap:=h₁,toks:=tk }:=fun tk=>by
  refine J1d (fun m s'=>∃ (k:Nat) (o o2:Option V) (ys:List V) (H':Hp),Inv (X.block (x :: z :: caps) scope cl G.objs.size fp s2 H2) [] (o :: o2 :: capv σ js) H' s'/\tn k s'.heap/\(∀ b∈fp,H' b=none)/\W k m ys H') ?_ m0
   ⟨0,none,none,[],_,IY0 tk,T.keep _ _ _ st2 fun b hb o e=>old b o e,fun b hb=>by
    rw [J9 (show b≠s2.heap.objs.size from fun e=>hDf (by rw [<- e];exact hb))];exact (f2 b hb).1,w0⟩
  rintro m s3 ⟨k,o,o2,ys,H',I3,st3,fr3,w3⟩;obtain ⟨hd,hW3⟩:=hW k m ys H' w3;rcases hW3 with ⟨stop,q⟩ | ⟨go,hz,step⟩
  ·refine thn (T.done (X.block (x :: z :: caps) scope cl G.objs.size fp s2 H2) rfl rfl rfl hc k [] s3 _ _ (fun _ _=>False) I3 (stat fr3) st3 stop) fun r s4 h9=>?_;obtain ⟨hr,I4⟩:=h9;subst hr;have J5:Inv X pins σ H' s4:=I2.call' (ch:=fp) I4.os I4.base I4.hok I4.bare fun b hb=>⟨(f2 b hb).2.2.2.1,(f2 b hb).2.1,(f2 b hb).2.2.2.2.1,(f2 b hb).2.2.2.2.2⟩;exact fin _ H' s4 _ J5 q (by obtain ⟨m,q,_⟩:=I4.loc;exact ⟨m,q⟩) (I2.fpOk hCle I4.free)
  ·refine thn (T.item (X.block (x :: z :: caps) scope cl G.objs.size fp s2 H2) rfl rfl rfl hc k [] s3 _ _ (fun _ _=>False) I3 (stat fr3) st3 go) fun r s4 h9=>?_;obtain ⟨u,hr,h4⟩:=h9;subst hr;refine thn h4 fun _ s5 h9=>?_;obtain ⟨v,H5,I5,r5,y5,st5,fr5⟩:=h9;have I5':=I5.pinned (stat fr5) (T.obj _ _ st5);obtain ⟨pq,va,vb,rfl,sq5,stp⟩:=step v H5 y5;refine thn (pg_tup (X:=X.block (x :: z :: caps) scope cl G.objs.size fp s2 H2) (pos:=tp) (k:=kk) (n:=2) hc
     (J2o (J1w (X:=X.block (x :: z :: caps) scope cl G.objs.size fp s2 H2) (i:=0) (pos:=px) hnd rfl (.inl hxl) (.inr hxl))
      (J2o (J1w (X:=X.block (x :: z :: caps) scope cl G.objs.size fp s2 H2) (i:=1) (pos:=pz) hnd rfl (.inl hzl) (.inr hzl)) pgs_nil)) rfl rfl _ s5 _ _ _ u
    (fun σ' H'=>σ'=some va :: some vb :: capv σ js/\H'=H5) I5' r5 ⟨pq,[va,vb],rfl,sq5,rfl,va,[vb],rfl,vb,[],rfl,rfl,rfl,rfl⟩) fun _ s6 h9=>?_
   obtain ⟨σ6,H6,I6,q6⟩:=h9;obtain ⟨rfl,rfl⟩:=q6;refine thn (ht _ _ _ _ _ s6 _ _ _ I6 stp) fun ok s7 h9=>?_;obtain ⟨H7,I7,q7⟩:=h9;have back:∀ {s8:Shared} {H8:Hp} {o8 o9:Option V} {ys8:List V} {m':Nat},Inv (X.block (x :: z :: caps) scope cl G.objs.size fp s2 H2) ([] ++ pinsAt fp s5.heap) (o8 :: o9 :: capv σ js) H8 s8->m' < m->W (k + 1) m' ys8 H8->
     ∃ m',m' < m/\∃ (k:Nat) (o o2:Option V) (ys:List V) (H':Hp),Inv (X.block (x :: z :: caps) scope cl G.objs.size fp s2 H2) [] (o :: o2 :: capv σ js) H' s8/\tn k s8.heap/\(∀ b∈fp,H' b=none)/\W k m' ys H':=fun {s8 H8 o8 o9 ys8 m'} I8 hm w8=>by
    refine ⟨m',hm,k + 1,o8,o9,ys8,H8,I8.unpinned,T.keep _ _ _ st5 fun b hb o e=>(I8.pin (b,o) (mem_append_right _ (mem_append_right _ (J1m hb e)))).1,fun b hb=>?_,w8⟩;obtain ⟨o,e,d⟩:=T.obj _ _ st5 b hb;exact (I8.pin (b,o) (mem_append_right _ (mem_append_right _ (J1m hb e)))).2.1
   cases ok with
   | false =>
    have q7':∃ m',m' < m/\W (k + 1) m' ys H7:=by
     have:=q7;rwa [if_neg (by decide)] at this
    obtain ⟨m',hm,w8⟩:=q7';exact back I7 hm w8
   | true =>
    have q7':te (some va :: some vb :: capv σ js) H7 fun y H5=>H5 s2.heap.objs.size=some (.lst ys)/\∃ m',m' < m/\W (k + 1) m' (ys ++ [y]) (upd H5 s2.heap.objs.size (.lst (ys ++ [y]))):=by
     have:=q7;rwa [if_pos rfl] at this
    refine (show wpAny _ _ _ _ _ _ from thn (he _ _ _ _ _ s7 _ _ _ I7 q7') fun u8 s8 h9=>?_);obtain ⟨v8,H8,I8,r8,hd8,m',hm,w8⟩:=h9;refine thn (J1f (X:=X.block (x :: z :: caps) scope cl G.objs.size fp s2 H2) _ s8 _ _ (.ref s2.heap.objs.size) [v8] (.ref s2.heap.objs.size) [u8]
     (fun _ H'=>H'=upd H8 s2.heap.objs.size (.lst (ys ++ [v8]))) I8 rfl (.cons r8 .nil) ⟨s2.heap.objs.size,_,v8,rfl,rfl,hd8,hz,rfl⟩) fun _ s9 h9=>?_
    obtain ⟨_,H9,I9,_,q9⟩:=h9;subst q9;exact back I9 hm w8
 have st1:tn 0 h₁:=T.keep _ _ _ st2 fun b hb o e=>old b o e;exact codeAny_compStart_list (loop _) (T.self X.A 0 _ _ _ st1 (loop _))
theorem pe_lc2 (hc:X.calm=true) (hp:PI X (.Tuple [.Name x px,.Name z pz] kk tp) iter wi) (hclos:closureFor scope X.env=pure cl)
  (ht:∀ (C:Addr) (fp:List Addr) (s:Shared) (H:Hp),PTs (X.block (x :: z :: caps) scope cl C fp s H) ifs tc)
  (he:∀ (C:Addr) (fp:List Addr) (s:Shared) (H:Hp),PE (X.block (x :: z :: caps) scope cl C fp s H) elt te)
  (hcell:∀ p∈scope.names,p.2≠.cell) (hnames:∀ p∈scope.names,p.2=.local->scope.names.lookup p.1=some .local) (hnd:(x :: z :: caps).Nodup)
  (hsub:∀ p∈cl,X.env.cells.lookup p.1=some p.2)
  (hhas:freeOk scope cl=true:=by rfl) (hlen:caps.length=js.length:=by rfl) (hcaps:capsOk X scope cl caps js=true:=by rfl)
  (hkind:scope.kind=.function:=by rfl) (hx:scope.names.lookup x=some .local:=by rfl) (hz':scope.names.lookup z=some .local:=by rfl) (hs:∀ v,foldedSetIterable iter X.env v=pure v:=by intro _;rfl) :
  PE X (.ListComp elt [⟨.Tuple [.Name x px,.Name z pz] kk tp,iter,ifs,0⟩] scope pos) (tLC2 X.K wi tc te js):=by
 intro pins s σ H Q I h;rw [eval_ListComp];refine comp_core2 (use:=none) hc hp he ht hcell hnames hnd hsub (freeOk.get hhas) hlen (capsOk.get hlen hcaps) hclos hkind hx hz' hs I h fun d H' s5 C J5 q hC fp=>?_;obtain ⟨m,nsC⟩:=hC;exact ⟨m,nsC,fun h' hs'=>⟨.ref d,H',J5.turned (h':=h') (t':=s5.toks) (it:=C) (fun b o hb e=>(hs'.2 b hb).trans e) fp.1 fp.2.1 fp.2.2.2.1 fp.2.2.2.2.1 fp.2.2.2.2.2,rfl,q⟩⟩
end
end L2
namespace L2
open PySem PySem.Spec PyProof.Rows
structure Goer (prog:Program) (w:World) (i l:Addr) (it:Nat->Option Value) (St:Nat->Heap->Prop):Prop where
 keep:∀ k g g',St k g->(∀ b,b=i\/b=l->∀ o,g.get? b=some o->g'.get? b=some o)->St k g'
 there:∀ k g,St k g->i < g.objs.size/\l < g.objs.size
 next:∀ (A:Around) (E:Value->Shared->Prop) (s:Shared) (Q:Value->Shared->Prop) k y,St k s.heap->it k=some y->(∀ g,St (k + 1) g->Heap.SameBut i s.heap g->Q y { s with heap:=g })->wpAny (model prog w) A (Builtin.SmallTypes.nextOf (.ref i)) Q E s
 stop:∀ (A:Around) (E:Value->Shared->Prop) (s:Shared) (Q:Value->Shared->Prop) k,A.handled=none->St k s.heap->it k=none->(∀ g e,Heap.ExtBut i s.heap g->(∃ o,g.get? e=some o/\o.cls=.type "StopIteration")->E (.ref e) { s with heap:=g })->wpAny (model prog w) A (Builtin.SmallTypes.nextOf (.ref i)) Q E s
section
variable {prog:Program} {w:World} {A:Around} {E:Value->Shared->Prop} {s:Shared}
theorem J6c {i l:Addr} (ne:l≠i) (xs:Array Value):Goer prog w i l (fun k=>xs[k]?) (fun k h=>h.IsTupleIter i l k/\h.IsTuple l xs) where
 keep:=fun k g g' st kp=>by
  obtain ⟨⟨o,ho,r⟩,o2,ho2,r2⟩:=st;exact ⟨⟨o,kp i (.inl rfl) _ ho,r⟩,o2,kp l (.inr rfl) _ ho2,r2⟩
 there:=fun k g st=>by
  obtain ⟨⟨o,ho,r⟩,o2,ho2,r2⟩:=st;exact ⟨lt_size ho,lt_size ho2⟩
 next:=fun A E s Q k y st hy h=>J2c st.1 st.2 hy fun g hg sb=>h g ⟨hg,by
  obtain ⟨o2,ho2,r2⟩:=st.2;exact ⟨o2,sb.extBut l o2 ne ho2,r2⟩⟩ sb
 stop:=fun A E s Q k hh st hy h=>J2l hh st.1 st.2 hy h
theorem J6d {i l:Addr} (ne:l≠i) (xs:Array Value):Goer prog w i l (fun k=>xs[k]?) (fun k h=>h.IsListIter i l k/\h.IsList l xs) where
 keep:=fun k g g' st kp=>by
  obtain ⟨⟨o,ho,r⟩,o2,ho2,r2⟩:=st;exact ⟨⟨o,kp i (.inl rfl) _ ho,r⟩,o2,kp l (.inr rfl) _ ho2,r2⟩
 there:=fun k g st=>by
  obtain ⟨⟨o,ho,r⟩,o2,ho2,r2⟩:=st;exact ⟨lt_size ho,lt_size ho2⟩
 next:=fun A E s Q k y st hy h=>wpAny_nextOf_list_item st.1 st.2 hy fun g hg sb=>h g ⟨hg,by
  obtain ⟨o2,ho2,r2⟩:=st.2;exact ⟨o2,sb.extBut l o2 ne ho2,r2⟩⟩ sb
 stop:=fun A E s Q k hh st hy h=>wpAny_nextOf_list_end hh st.1 st.2 hy h
theorem zip_turn {z TI TO i1 i2 l1 l2:Addr} {it1 it2:Nat->Option Value} {St1 St2:Nat->Heap->Prop} {k:Nat} {x y a b:Value} {Q:Value->Shared->Prop} (D:ZipApart z TI TO i1 i2 l1 l2)
  (G1:Goer prog w i1 l1 it1 St1) (G2:Goer prog w i2 l2 it2 St2) (hz:IsZip s.heap z TI TO .none) (hTI:IsPair s.heap TI (.ref i1) (.ref i2)) (hTO:IsPair s.heap TO a b) (s1:St1 k s.heap) (s2:St2 k s.heap) (hx:it1 k=some x) (hy:it2 k=some y)
  (hQ:∀ g,IsZip g z TI TO (rawInt s.heap.objs.size)->IsPair g TO x y->St1 (k + 1) g->St2 (k + 1) g->IsPair g s.heap.objs.size x y->g.objs.size=s.heap.objs.size + 1->(∀ c o,c≠z->c≠TO->c≠i1->c≠i2->s.heap.get? c=some o->g.get? c=some o)->Q (.ref s.heap.objs.size) { s with heap:=g }) :
  wpAny (model prog w) A (Builtin.«zip.__next__» ⟨[.ref z],[]⟩) (fun fin s'=>∃ v,fin=.done (.ret v)/\Q v s') E s:=by
 refine wpAny_bind (wpAny_pure (wpAny_bind (wpAny_field hz rfl (x:=.bool false) rfl ?_)));refine wpAny_bind (wpAny_field hz rfl (x:=.ref TI) rfl ?_);refine wpAny_bind (wpAny_seqItems hTI rfl (wpAny_bind ?_));unfold Builtin.SmallTypes.ownedTupleIsFree;refine wpAny_bind (wpAny_field hz rfl (x:=.none) rfl (wpAny_pure ?_));simp only [if_true];refine wpAny_bind (wpAny_rule (wpAny_bind (wpAny_field hz rfl (x:=.ref TO) rfl (wpAny_bind (wpAny_setField_rec hz (by simp) fun g1 z1 b1=>?_)))));replace z1:IsZip g1 z TI TO .ellipsis:=z1;have t1:St1 k g1:=G1.keep _ _ _ s1 fun b hb o e=>b1.extBut b o (by rcases hb with rfl | rfl;exact D.i1z;exact D.l1z) e;have u1:St2 k g1:=G2.keep _ _ _ s2 fun b hb o e=>b1.extBut b o (by rcases hb with rfl | rfl;exact D.i2z;exact D.l2z) e;refine wpAny_bind ?_;simp only [List.zipIdx_cons,List.zipIdx_nil,List.forIn_cons,List.forIn_nil];refine wpAny_bind (wpAny_bind (wpAny_onRaise (wpAny_bind ?_)));refine G1.next _ _ _ _ k x t1 hx fun g2 t2 b2=>wpAny_pure ?_;have u2:St2 k g2:=G2.keep _ _ _ u1 fun b hb o e=>b2.extBut b o (by rcases hb with rfl | rfl;exact D.i12.symm;exact D.l2i1) e;have o2:IsPair g2 TO a b:=b2.extBut _ _ D.TOi1 (b1.extBut _ _ D.TOz hTO);refine wpAny_bind (wpAny_seqItems o2 rfl (wpAny_bind (wpAny_updateSeq_pair o2 fun g3 o3 b3=>wpAny_bind (wpAny_letGo (wpAny_pure ?_)))));replace o3:IsPair g3 TO x b:=o3;have t3:St1 (k + 1) g3:=G1.keep _ _ _ t2 fun b hb o e=>b3.extBut b o (by rcases hb with rfl | rfl;exact D.TOi1.symm;exact D.l1TO) e;have u3:St2 k g3:=G2.keep _ _ _ u2 fun b hb o e=>b3.extBut b o (by rcases hb with rfl | rfl;exact D.TOi2.symm;exact D.l2TO) e;refine wpAny_bind (wpAny_bind (wpAny_onRaise (wpAny_bind ?_)));refine G2.next _ _ _ _ k y u3 hy fun g4 u4 b4=>wpAny_pure ?_;have t4:St1 (k + 1) g4:=G1.keep _ _ _ t3 fun b hb o e=>b4.extBut b o (by rcases hb with rfl | rfl;exact D.i12;exact D.l1i2) e;have o4:IsPair g4 TO x b:=b4.extBut _ _ D.TOi2 o3;refine wpAny_bind (wpAny_seqItems o4 rfl (wpAny_bind (wpAny_updateSeq_pair o4 fun g5 o5 b5=>wpAny_bind (wpAny_letGo (wpAny_pure (wpAny_pure ?_))))));replace o5:IsPair g5 TO x y:=o5;have t5:St1 (k + 1) g5:=G1.keep _ _ _ t4 fun b hb o e=>b5.extBut b o (by rcases hb with rfl | rfl;exact D.TOi1.symm;exact D.l1TO) e;have u5:St2 (k + 1) g5:=G2.keep _ _ _ u4 fun b hb o e=>b5.extBut b o (by rcases hb with rfl | rfl;exact D.TOi2.symm;exact D.l2TO) e;have z5:IsZip g5 z TI TO .ellipsis:=b5.extBut _ _ D.TOz.symm (b4.extBut _ _ D.i2z.symm (b3.extBut _ _ D.TOz.symm (b2.extBut _ _ D.i1z.symm z1)));have sz:g5.objs.size=s.heap.objs.size:=by rw [b5.1,b4.1,b3.1,b2.1,b1.1]
 have k5:∀ c o,c≠z->c≠TO->c≠i1->c≠i2->s.heap.get? c=some o->g5.get? c=some o:=fun c o c1 c2 c3 c4 e=>b5.extBut _ _ c2 (b4.extBut _ _ c4 (b3.extBut _ _ c2 (b2.extBut _ _ c3 (b1.extBut _ _ c1 e))));refine wpAny_bind (wpAny_seqItems o5 rfl (wpAny_bind (wpAny_newTuple ?_)));refine wpAny_bind ?_;unfold Builtin.SmallTypes.ownedTupleHandOut;have z6:IsZip (g5.push { cls:=.type "tuple",data:=.seq #[x,y] }) z TI TO .ellipsis:=get?_push_of_some _ z5;refine wpAny_bind (wpAny_setField_rec z6 (by simp) fun g7 z7 b7=>?_);replace z7:IsZip g7 z TI TO (rawInt g5.objs.size):=z7;refine wpAny_setField_rec z7 (by simp) fun g8 z8 b8=>?_;replace z8:IsZip g8 z TI TO (rawInt g5.objs.size):=z8;have up:∀ c o,c≠z->g5.get? c=some o->g8.get? c=some o:=fun c o c1 e=>b8.extBut _ _ c1 (b7.extBut _ _ c1 (get?_push_of_some _ e));have zl:z < g5.objs.size:=lt_size z5;have p8:IsPair g8 g5.objs.size x y:=b8.extBut _ _ (Nat.ne_of_gt zl) (b7.extBut _ _ (Nat.ne_of_gt zl) (get?_push_size _ rfl));have n8:g8.objs.size=g5.objs.size + 1:=by rw [b8.1,b7.1,size_push]
 have t8:St1 (k + 1) g8:=G1.keep _ _ _ t5 fun b hb o e=>up b o (by rcases hb with rfl | rfl;exact D.i1z;exact D.l1z) e;have u8:St2 (k + 1) g8:=G2.keep _ _ _ u5 fun b hb o e=>up b o (by rcases hb with rfl | rfl;exact D.i2z;exact D.l2z) e;rw [sz] at z8 p8 n8;refine wpAny_pure ⟨_,rfl,?_⟩;show Q (.ref g5.objs.size) _;rw [sz];exact hQ g8 z8 (up _ _ D.TOz o5) t8 u8 p8 n8 fun c o c1 c2 c3 c4 e=>up c o c1 (k5 c o c1 c2 c3 c4 e)
theorem zip_halt {z TI TO i1 i2 l1 l2:Addr} {it1:Nat->Option Value} {St1:Nat->Heap->Prop} {k:Nat} {a b:Value} {Q:PySem.Fin->Shared->Prop} (hh:A.handled=none) (D:ZipApart z TI TO i1 i2 l1 l2)
  (G1:Goer prog w i1 l1 it1 St1) (hz:IsZip s.heap z TI TO .none) (hTI:IsPair s.heap TI (.ref i1) (.ref i2)) (s1:St1 k s.heap) (hx:it1 k=none)
  (hE:∀ g e,(∀ c o,c≠z->c≠i1->s.heap.get? c=some o->g.get? c=some o)->(∃ o,g.get? e=some o/\o.cls=.type "StopIteration")->E (.ref e) { s with heap:=g }) :
  wpAny (model prog w) A (Builtin.«zip.__next__» ⟨[.ref z],[]⟩) Q E s:=by
 refine wpAny_bind (wpAny_pure (wpAny_bind (wpAny_field hz rfl (x:=.bool false) rfl ?_)));refine wpAny_bind (wpAny_field hz rfl (x:=.ref TI) rfl ?_);refine wpAny_bind (wpAny_seqItems hTI rfl (wpAny_bind ?_));unfold Builtin.SmallTypes.ownedTupleIsFree;refine wpAny_bind (wpAny_field hz rfl (x:=.none) rfl (wpAny_pure ?_));simp only [if_true];refine wpAny_bind (wpAny_rule (wpAny_bind (wpAny_field hz rfl (x:=.ref TO) rfl (wpAny_bind (wpAny_setField_rec hz (by simp) fun g1 z1 b1=>?_)))));replace z1:IsZip g1 z TI TO .ellipsis:=z1;have t1:St1 k g1:=G1.keep _ _ _ s1 fun b hb o e=>b1.extBut b o (by rcases hb with rfl | rfl;exact D.i1z;exact D.l1z) e;refine wpAny_bind ?_;simp only [List.zipIdx_cons,List.zipIdx_nil,List.forIn_cons,List.forIn_nil];refine wpAny_bind (wpAny_bind (wpAny_onRaise (wpAny_bind ?_)));refine G1.stop _ _ _ _ k hh t1 hx fun g2 e b2 h9=>?_;obtain ⟨oe,hoe,hce⟩:=h9;have z2:IsZip g2 z TI TO .ellipsis:=b2 _ _ D.i1z.symm z1;have ez:e≠z:=fun q=>by subst q;rw [z2] at hoe;cases hoe;simp at hce
 refine wpAny_setField_rec z2 (by simp) fun g3 _ b3=>hE g3 e (fun c o c1 c3 q=>b3.extBut _ _ c1 (b2 _ _ c3 (b1.extBut _ _ c1 q))) ⟨oe,b3.extBut _ _ ez hoe,hce⟩
end
theorem zip_newT (l1 l2:Addr) (xs ys:Array Value):Meets (Builtin.«zip.__new__» ⟨[.type "zip",.ref l1,.ref l2],[]⟩) (fun _ R s=>s.heap.IsTuple l1 xs/\s.heap.IsTuple l2 ys/\
   R (.ok (.ret (.ref (s.heap.objs.size + 4)))) { s with heap:=((((s.heap.push { cls:=.type "tuple_iterator",data:=.fields #[.ref l1,.int 0 0] }).push { cls:=.type "tuple_iterator",data:=.fields #[.ref l2,.int 0 0] }).push { cls:=.type "tuple",data:=.seq #[.ref s.heap.objs.size,.ref (s.heap.objs.size + 1)] }).push { cls:=.type "tuple",data:=.seq #[.none,.none] }).push { cls:=.type "zip",data:=.fields #[.none,.bool false,.bool false,.ref (s.heap.objs.size + 2),.ref (s.heap.objs.size + 3)] } }) :=
 .of_wp fun prog w A R s h=>by
  obtain ⟨hp,g,d,tk,os⟩:=s;obtain ⟨hl1,hl2,h⟩:=h;have hsub:=sub_zip;have hL1:Heap.IsTuple (Shared.heap ⟨hp,g,d,tk,os⟩) l1 xs:=hl1;have hL2:Heap.IsTuple (Shared.heap ⟨hp.push { cls:=.type "tuple_iterator",data:=.fields #[.ref l1,.int 0 0] },g,d,tk,os⟩) l2 ys:=by
   obtain ⟨o,ho,r⟩:=hl2;exact ⟨o,get?_push_of_some _ ho,r⟩
  wp_walk using wpAny_pyIter_tuple hL1,wpAny_pyIter_tuple hL2
  refine ⟨_,rfl,?_⟩;simp only [size_push] at h ⊢;exact h
end L2
namespace L2
open PySem PySem.Spec PyProof.Rows
section
variable {X:Cx} {pins:List (Addr × Obj)} {σ:St} {H:Hp} {s:Shared} {h':Heap}
theorem Inv.turnedL {t':Nat} {fp:List Addr} {p:Addr} {o:HO} (I:Inv X pins σ H s) (k:∀ b u,b ∉ fp->s.heap.get? b=some u->h'.get? b=some u) (f:∀ b∈fp,FpOk X pins H b) (hp:s.heap.objs.size<=p)
  (new:ObjOk X.prog X.w (upd H p o) h' p o):Inv X pins σ (upd H p o) { s with heap:=h',toks:=t' }:=by
 have hn:H p=none:=I.hok.fresh hp;have lt:∀ b u,s.heap.get? b=some u->b≠p:=fun b u e=>Nat.ne_of_lt (Nat.lt_of_lt_of_le (lt_size e) hp);have ne1:∀ b u,H b=some u->b ∉ fp:=fun b u e z=>by rw [(f b z).1] at e;cases e
 refine I.step (g':=s.gens) (d':=s.drawn) (ch:=fp) (fun b hb=>⟨(f b hb).2.2.2.1,(f b hb).2.1,(f b hb).2.2.2.2.1,(f b hb).2.2.2.2.2⟩) (fun b u _ _ hc e _=>k b u hc e) (fun b u _ _ hc e _=>⟨u.slots,k b u hc e⟩) (fun b u hc e n=>by rw [J9 (lt b u e)];exact n)
  (fun b u hc e=>⟨u,k b u hc e⟩) (fun b xs e=>by rw [J9 (J7 e hn)];exact e) (fun b u v e=>by rw [J9 (J7 e hn)];exact e) (fun b ps e=>⟨#[],by rw [J9 (J7 e hn),e];simp⟩) (fun m hm=>?_) (fun b u e=>?_) I.bare
 ·obtain ⟨ob,es,ep,ho,r⟩:=hm;exact ⟨ob,es,ep,k _ ob (fun z=>(f _ z).2.1 rfl) ho,r⟩
 ·by_cases hb:b=p
  ·subst hb;rw [J0] at e;cases e;exact new
  ·rw [J9 hb] at e;refine (I.hok b u e).stay (fun c v hc q=>k c v ?_ q) (fun c q=>by rw [J9 (J7 q hn)];exact q) fun c xs q=>by rw [J9 (J7 q hn)];exact q
   rcases hc with q | q
   ·rw [q];exact ne1 b u e
   ·exact ne1 c _ q
theorem Inv.turned0 {t':Nat} {fp:List Addr} (I:Inv X pins σ H s) (k:∀ b u,b ∉ fp->s.heap.get? b=some u->h'.get? b=some u) (f:∀ b∈fp,FpOk X pins H b):Inv X pins σ H { s with heap:=h',toks:=t' }:=by
 have ne1:∀ b u,H b=some u->b ∉ fp:=fun b u e z=>by rw [(f b z).1] at e;cases e
 refine I.step (g':=s.gens) (d':=s.drawn) (ch:=fp) (fun b hb=>⟨(f b hb).2.2.2.1,(f b hb).2.1,(f b hb).2.2.2.2.1,(f b hb).2.2.2.2.2⟩) (fun b u _ _ hc e _=>k b u hc e) (fun b u _ _ hc e _=>⟨u.slots,k b u hc e⟩) (fun b u hc e n=>n)
  (fun b u hc e=>⟨u,k b u hc e⟩) (fun b xs e=>e) (fun b u v e=>e) (fun b ps e=>⟨#[],by rw [e];simp⟩) (fun m hm=>?_) (fun b u e=>?_) I.bare
 ·obtain ⟨ob,es,ep,ho,r⟩:=hm;exact ⟨ob,es,ep,k _ ob (fun z=>(f _ z).2.1 rfl) ho,r⟩
 ·refine (I.hok b u e).stay (fun c v hc q=>k c v ?_ q) (fun c q=>q) fun c xs q=>q;rcases hc with q | q
  ·rw [q];exact ne1 b u e
  ·exact ne1 c _ q
end
theorem nn4 (n j:Nat) (h:j < 4):n + j≠n + 4:=by omega
theorem lt5 {n m c:Nat} (h:n + 4 < m) (hc:c=n + 4\/c=n + 2\/c=n + 3\/c=n\/c=n + 1):c < m:=by omega
theorem ne_ad {n j k:Nat} (h:j≠k):n + j≠n + k:=by omega
theorem ne_lt {n a k:Nat} (h:a < n):a≠n + k:=by omega
theorem apart_of {n a b:Nat} (ha:a < n) (hb:b < n):ZipApart (n + 4) (n + 2) (n + 3) n (n + 1) a b :=
 ⟨ne_ad (by decide),ne_ad (by decide),ne_ad (j:=0) (by decide),ne_ad (by decide),ne_ad (by decide),ne_ad (k:=0) (by decide),ne_ad (by decide),ne_ad (k:=0) (by decide),ne_ad (by decide),ne_ad (j:=0) (by decide),ne_lt ha,ne_lt ha,ne_lt (k:=0) ha,ne_lt ha,ne_lt hb,ne_lt hb,ne_lt (k:=0) hb,ne_lt hb⟩
section
variable {prog:Program} {w:World} {A:Around} {E:Value->Shared->Prop} {s:Shared}
def ZipAt (n:Addr) (h:Heap):Prop:=IsZip h (n + 4) (n + 2) (n + 3) .none/\IsPair h (n + 2) (.ref n) (.ref (n + 1))/\∃ c d,IsPair h (n + 3) c d
theorem zipN_item {n a b:Addr} {it1 it2:Nat->Option Value} {St1 St2:Nat->Heap->Prop} {k:Nat} {x y:Value} {Q:Option Value->Shared->Prop} (ha:a < n) (hb:b < n) (G1:Goer prog w n a it1 St1) (G2:Goer prog w (n + 1) b it2 St2)
  (hz:ZipAt n s.heap) (s1:St1 k s.heap) (s2:St2 k s.heap) (hx:it1 k=some x) (hy:it2 k=some y)
  (hQ:∀ g,IsZip g (n + 4) (n + 2) (n + 3) (rawInt s.heap.objs.size)->IsPair g (n + 2) (.ref n) (.ref (n + 1))->IsPair g (n + 3) x y->St1 (k + 1) g->St2 (k + 1) g->IsPair g s.heap.objs.size x y->(∀ c o,c ∉ [n + 4,n + 2,n + 3,n,n + 1]->s.heap.get? c=some o->g.get? c=some o)->Q (some (.ref s.heap.objs.size)) { s with heap:=g }) :
  wpAny (model prog w) A (pyNext (.ref (n + 4))) Q E s:=by
 obtain ⟨z1,z2,c,d,z3⟩:=hz;have hT:s.TypeIs (.ref (n + 4)) "zip":=⟨_,z1,rfl⟩;have D:=apart_of ha hb;unfold pyNext;refine wpAny_bind (wpAny_attempt (wpAny_callSpecial?_slot (name:=Str.ofString "__next__") hT PySem.F.slot_zip_next (wpAny_call_entry PySem.F.slot_zip_next hT PySem.F.entry_zip_next
  (zip_turn D G1 G2 z1 z2 z3 s1 s2 hx hy fun g a1 a2 a3 a4 a5 a6 a7=>wpAny_pure (hQ g a1 (a7 _ _ D.TIz D.TITO D.TIi1 D.TIi2 z2) a2 a3 a4 a5 fun c o hc e=>a7 c o (fun q=>hc (by simp [q])) (fun q=>hc (by simp [q])) (fun q=>hc (by simp [q])) (fun q=>hc (by simp [q])) e)) (PySem.F.args_zip_next_1 _))))
theorem zipN_end {n a b:Addr} {it1:Nat->Option Value} {St1:Nat->Heap->Prop} {k:Nat} {Q:Option Value->Shared->Prop} (hh:A.handled=none) (ha:a < n) (hb:b < n) (G1:Goer prog w n a it1 St1) (hz:ZipAt n s.heap) (s1:St1 k s.heap) (hx:it1 k=none)
  (hQ:∀ g,(∀ c o,c ∉ [n + 4,n + 2,n + 3,n,n + 1]->s.heap.get? c=some o->g.get? c=some o)->Q none { s with heap:=g }):wpAny (model prog w) A (pyNext (.ref (n + 4))) Q E s:=by
 obtain ⟨z1,z2,c,d,z3⟩:=hz;have hT:s.TypeIs (.ref (n + 4)) "zip":=⟨_,z1,rfl⟩;unfold pyNext;refine wpAny_bind (wpAny_attempt (wpAny_callSpecial?_slot (name:=Str.ofString "__next__") hT PySem.F.slot_zip_next (wpAny_call_entry PySem.F.slot_zip_next hT PySem.F.entry_zip_next
  (zip_halt (a:=c) (b:=d) hh (apart_of ha hb) G1 z1 z2 s1 hx fun g e kp ⟨o,ho,hc⟩=>?_) (PySem.F.args_zip_next_1 _))))
 refine wpAny_bind (wpAny_isInstance (T:="StopIteration") (b:=true) ⟨o,ho,hc⟩ isSubtype_stop ?_);exact wpAny_pure (hQ g fun c o hc e=>kp c o (fun q=>hc (by simp [q])) (fun q=>hc (by simp [q])) e)
end
def Itz (K:Frag) (a b:Addr):It :=
 ⟨fun i H=>∃ xs ys x y,SqT K H a xs/\SqT K H b ys/\xs[i]?=some x/\ys[i]?=some y,fun i H v H'=>∃ p x y,v=.ref p/\H p=none/\H'=upd H p (.tup [x,y])/\∀ xs ys,SqT K H a xs->SqT K H b ys->xs[i]?=some x/\ys[i]?=some y,fun i H=>∃ xs,SqT K H a xs/\xs.length<=i⟩
theorem turn_zip {P:Program} {w:World} {K:Frag} {elts:List Expr} {kk:Nat} {tp:Pos} (a b n:Addr) (ha:a < n) (hb:b < n):Turn P w K (.Tuple elts kk tp) (Itz K a b) [n + 4,n + 2,n + 3,n,n + 1] (n + 4) (fun i h=>ZipAt n h/\h.IsTupleIter n a i/\h.IsTupleIter (n + 1) b i) where
 mem:=by simp
 obj:=fun i h st c hc=>by
  obtain ⟨⟨z1,z2,x,y,z3⟩,⟨o1,e1,_,d1⟩,o2,e2,_,d2⟩:=st;simp only [mem_cons,not_mem_nil,or_false] at hc;rcases hc with rfl | rfl | rfl | rfl | rfl
  ·exact ⟨_,z1,fun v z=>by
    have z':Data.fields _=Data.cell v:=z;cases z'⟩
  ·exact ⟨_,z2,fun v z=>by
    have z':Data.seq _ _=Data.cell v:=z;cases z'⟩
  ·exact ⟨_,z3,fun v z=>by
    have z':Data.seq _ _=Data.cell v:=z;cases z'⟩
  ·exact ⟨_,e1,fun v z=>by rw [d1] at z;cases z⟩
  ·exact ⟨_,e2,fun v z=>by rw [d2] at z;cases z⟩
 keep:=fun i h h' st k=>by
  obtain ⟨⟨z1,z2,x,y,z3⟩,⟨o1,e1,r1⟩,o2,e2,r2⟩:=st;exact ⟨⟨k _ (by simp) _ z1,k _ (by simp) _ z2,x,y,k _ (by simp) _ z3⟩,⟨o1,k _ (by simp) _ e1,r1⟩,o2,k _ (by simp) _ e2,r2⟩
 item:=by
  intro X hP hw hK hc i pins s σ H E I hf st hg;subst hP hw hK;obtain ⟨Z,t1,t2⟩:=st;obtain ⟨xs,ys,x,y,q1,q2,hx,hy⟩:=hg;obtain ⟨its1,r1,pl1,_⟩:=I.tuple q1;obtain ⟨its2,r2,pl2,_⟩:=I.tuple q2;obtain ⟨u,hu,ru⟩:=r1.get hx;obtain ⟨v,hv,rv⟩:=r2.get hy;have G1:=J6c (prog:=X.prog) (w:=X.w) (i:=n) (l:=a) (Nat.ne_of_lt ha) its1.toArray;have G2:=J6c (prog:=X.prog) (w:=X.w) (i:=n + 1) (l:=b) (Nat.ne_of_lt (Nat.lt_succ_of_lt hb)) its2.toArray;have zl:n + 4 < s.heap.objs.size:=lt_size Z.1;refine zipN_item ha hb G1 G2 Z ⟨t1,pl1⟩ ⟨t2,pl2⟩ (x:=u) (y:=v) (by simpa using hu) (by simpa using hv) fun g a1 a2 a3 a4 a5 a6 a7=>⟨_,rfl,?_⟩;refine wpAny_letOwnedTupleGo_zip a1 fun g2 z2 sb=>?_;have sb:Heap.SameBut (n + 4) g g2:=sb;have k2:∀ c o,c ∉ [n + 4,n + 2,n + 3,n,n + 1]->s.heap.get? c=some o->g2.get? c=some o:=fun c o h1 e=>(sb.2 c (fun q=>h1 (by simp [q]))).trans (a7 c o h1 e);have p2:g2.get? s.heap.objs.size=some { cls:=.type "tuple",data:=.seq #[u,v] }:=(sb.2 _ (Nat.ne_of_gt zl)).trans a6;have J:=I.turnedL (t':=s.toks) (o:=.tup [x,y]) (p:=s.heap.objs.size) k2 hf (Nat.le_refl _) ⟨(by show 2<=sizeLine;decide),[u,v],.cons ru (.cons rv .nil),⟨_,p2,⟨rfl,rfl⟩,_,rfl⟩⟩;have hfr:H s.heap.objs.size=none:=I.hok.fresh (Nat.le_refl _);have nn:∀ j:Nat,j < 4->(n:Nat) + j≠n + 4:=nn4 n;refine ⟨.ref s.heap.objs.size,_,J,rfl,⟨_,x,y,rfl,hfr,rfl,fun ys2 zs2 h1 h2=>?_⟩,⟨⟨z2,(sb.2 _ (nn 2 (by decide))).trans a2,_,_,(sb.2 _ (nn 3 (by decide))).trans a3⟩,a4.1.extBut sb.extBut (nn 0 (by decide)),a5.1.extBut sb.extBut (nn 1 (by decide))⟩,fun c hc=>?_⟩
  ·rw [<- I.tuple_inj q1 h1,<- I.tuple_inj q2 h2];exact ⟨hx,hy⟩
  ·have cl:c < s.heap.objs.size:=by
    simp only [mem_cons,not_mem_nil,or_false] at hc;exact lt5 zl hc
   rw [J9 (Nat.ne_of_lt cl)];exact (hf c hc).1
 done:=by
  intro X hP hw hK hc i pins s σ H E I hf st hg;subst hP hw hK;obtain ⟨Z,t1,t2⟩:=st;obtain ⟨xs,q1,hl⟩:=hg;obtain ⟨its1,r1,pl1,_⟩:=I.tuple q1;have G1:=J6c (prog:=X.prog) (w:=X.w) (i:=n) (l:=a) (Nat.ne_of_lt ha) its1.toArray;refine zipN_end (b:=b) (I.ok.hd hc) ha hb G1 Z ⟨t1,pl1⟩ (by have:=r1.length;simp;omega) fun g k=>⟨rfl,I.turned0 (t':=s.toks) k hf⟩
 self:=fun A i s Q E st h=>wpAny_pyIter_zip st.1.1 h
end L2
namespace L2
open PySem PySem.Spec PyProof.Rows
def Itzl (K:Frag) (a b:Addr):It :=
 ⟨fun i H=>∃ xs ys x y,SqL K H a xs/\SqL K H b ys/\xs[i]?=some x/\ys[i]?=some y,fun i H v H'=>∃ p x y,v=.ref p/\H p=none/\H'=upd H p (.tup [x,y])/\∀ xs ys,SqL K H a xs->SqL K H b ys->xs[i]?=some x/\ys[i]?=some y,fun i H=>∃ xs,SqL K H a xs/\xs.length<=i⟩
theorem turn_zipL {P:Program} {w:World} {K:Frag} {elts:List Expr} {kk:Nat} {tp:Pos} (a b n:Addr) (ha:a < n) (hb:b < n):Turn P w K (.Tuple elts kk tp) (Itzl K a b) [n + 4,n + 2,n + 3,n,n + 1] (n + 4) (fun i h=>ZipAt n h/\h.IsListIter n a i/\h.IsListIter (n + 1) b i) where
 mem:=by simp
 obj:=fun i h st c hc=>by
  obtain ⟨⟨z1,z2,x,y,z3⟩,⟨o1,e1,_,d1⟩,o2,e2,_,d2⟩:=st;simp only [mem_cons,not_mem_nil,or_false] at hc;rcases hc with rfl | rfl | rfl | rfl | rfl
  ·exact ⟨_,z1,fun v z=>by
    have z':Data.fields _=Data.cell v:=z;cases z'⟩
  ·exact ⟨_,z2,fun v z=>by
    have z':Data.seq _ _=Data.cell v:=z;cases z'⟩
  ·exact ⟨_,z3,fun v z=>by
    have z':Data.seq _ _=Data.cell v:=z;cases z'⟩
  ·exact ⟨_,e1,fun v z=>by rw [d1] at z;cases z⟩
  ·exact ⟨_,e2,fun v z=>by rw [d2] at z;cases z⟩
 keep:=fun i h h' st k=>by
  obtain ⟨⟨z1,z2,x,y,z3⟩,⟨o1,e1,r1⟩,o2,e2,r2⟩:=st;exact ⟨⟨k _ (by simp) _ z1,k _ (by simp) _ z2,x,y,k _ (by simp) _ z3⟩,⟨o1,k _ (by simp) _ e1,r1⟩,o2,k _ (by simp) _ e2,r2⟩
 item:=by
  intro X hP hw hK hc i pins s σ H E I hf st hg;subst hP hw hK;obtain ⟨Z,t1,t2⟩:=st;obtain ⟨xs,ys,x,y,q1,q2,hx,hy⟩:=hg;obtain ⟨its1,r1,pl1,_⟩:=I.list q1;obtain ⟨its2,r2,pl2,_⟩:=I.list q2;obtain ⟨u,hu,ru⟩:=r1.get hx;obtain ⟨v,hv,rv⟩:=r2.get hy;have G1:=J6d (prog:=X.prog) (w:=X.w) (i:=n) (l:=a) (Nat.ne_of_lt ha) its1.toArray;have G2:=J6d (prog:=X.prog) (w:=X.w) (i:=n + 1) (l:=b) (Nat.ne_of_lt (Nat.lt_succ_of_lt hb)) its2.toArray;have zl:n + 4 < s.heap.objs.size:=lt_size Z.1;refine zipN_item ha hb G1 G2 Z ⟨t1,pl1.isList⟩ ⟨t2,pl2.isList⟩ (x:=u) (y:=v) (by simpa using hu) (by simpa using hv) fun g a1 a2 a3 a4 a5 a6 a7=>⟨_,rfl,?_⟩;refine wpAny_letOwnedTupleGo_zip a1 fun g2 z2 sb=>?_;have sb:Heap.SameBut (n + 4) g g2:=sb;have k2:∀ c o,c ∉ [n + 4,n + 2,n + 3,n,n + 1]->s.heap.get? c=some o->g2.get? c=some o:=fun c o h1 e=>(sb.2 c (fun q=>h1 (by simp [q]))).trans (a7 c o h1 e);have p2:g2.get? s.heap.objs.size=some { cls:=.type "tuple",data:=.seq #[u,v] }:=(sb.2 _ (Nat.ne_of_gt zl)).trans a6;have J:=I.turnedL (t':=s.toks) (o:=.tup [x,y]) (p:=s.heap.objs.size) k2 hf (Nat.le_refl _) ⟨(by show 2<=sizeLine;decide),[u,v],.cons ru (.cons rv .nil),⟨_,p2,⟨rfl,rfl⟩,_,rfl⟩⟩;have hfr:H s.heap.objs.size=none:=I.hok.fresh (Nat.le_refl _);have nn:∀ j:Nat,j < 4->(n:Nat) + j≠n + 4:=nn4 n;refine ⟨.ref s.heap.objs.size,_,J,rfl,⟨_,x,y,rfl,hfr,rfl,fun ys2 zs2 h1 h2=>?_⟩,⟨⟨z2,(sb.2 _ (nn 2 (by decide))).trans a2,_,_,(sb.2 _ (nn 3 (by decide))).trans a3⟩,a4.1.extBut sb.extBut (nn 0 (by decide)),a5.1.extBut sb.extBut (nn 1 (by decide))⟩,fun c hc=>?_⟩
  ·rw [<- I.list_inj q1 h1,<- I.list_inj q2 h2];exact ⟨hx,hy⟩
  ·have cl:c < s.heap.objs.size:=by
    simp only [mem_cons,not_mem_nil,or_false] at hc;exact lt5 zl hc
   rw [J9 (Nat.ne_of_lt cl)];exact (hf c hc).1
 done:=by
  intro X hP hw hK hc i pins s σ H E I hf st hg;subst hP hw hK;obtain ⟨Z,t1,t2⟩:=st;obtain ⟨xs,q1,hl⟩:=hg;obtain ⟨its1,r1,pl1,_⟩:=I.list q1;have G1:=J6d (prog:=X.prog) (w:=X.w) (i:=n) (l:=a) (Nat.ne_of_lt ha) its1.toArray;refine zipN_end (b:=b) (I.ok.hd hc) ha hb G1 Z ⟨t1,pl1.isList⟩ (by have:=r1.length;simp;omega) fun g k=>⟨rfl,I.turned0 (t':=s.toks) k hf⟩
 self:=fun A i s Q E st h=>wpAny_pyIter_zip st.1.1 h
section
variable {prog:Program} {w:World} {A:Around} {E:Value->Shared->Prop} {s:Shared}
theorem call_zipT {l1 l2:Addr} {xs ys:Array Value} {Q:Value->Shared->Prop} (h1:s.heap.IsTuple l1 xs) (h2:s.heap.IsTuple l2 ys)
  (h:∀ g,ZipAt s.heap.objs.size g->g.IsTupleIter s.heap.objs.size l1 0->g.IsTupleIter (s.heap.objs.size + 1) l2 0->(∀ c o,s.heap.get? c=some o->g.get? c=some o)->Q (.ref (s.heap.objs.size + 4)) { s with heap:=g }) :
  wpAny (model prog w) A (call (.type "zip") [.ref l1,.ref l2]) Q E s:=by
 refine callType_new PySem.F.called_zip (by decide) (PySem.F.typeCall_zip_2 _ _) (PySem.F.newCall_zip_2 _ _) (fun obj=>PySem.F.args_object_init_3 obj _ _) PySem.F.entry_zip_new (zip_newT l1 l2 xs ys) ⟨h1,h2,?_⟩;obtain ⟨A1,e1⟩:∃ A1,A1=s.heap.push { cls:=.type "tuple_iterator",data:=.fields #[.ref l1,.int 0 0] }:=⟨_,rfl⟩;obtain ⟨A2,e2⟩:∃ A2,A2=A1.push { cls:=.type "tuple_iterator",data:=.fields #[.ref l2,.int 0 0] }:=⟨_,rfl⟩;obtain ⟨A3,e3⟩:∃ A3,A3=A2.push { cls:=.type "tuple",data:=.seq #[.ref s.heap.objs.size,.ref (s.heap.objs.size + 1)] }:=⟨_,rfl⟩;obtain ⟨A4,e4⟩:∃ A4,A4=A3.push { cls:=.type "tuple",data:=.seq #[.none,.none] }:=⟨_,rfl⟩;obtain ⟨A5,e5⟩:∃ A5,A5=A4.push { cls:=.type "zip",data:=.fields #[.none,.bool false,.bool false,.ref (s.heap.objs.size + 2),.ref (s.heap.objs.size + 3)] }:=⟨_,rfl⟩;have n1:A1.objs.size=s.heap.objs.size + 1:=by rw [e1];exact size_push _ _
 have n2:A2.objs.size=s.heap.objs.size + 2:=by rw [e2,size_push,n1]
 have n3:A3.objs.size=s.heap.objs.size + 3:=by rw [e3,size_push,n2]
 have n4:A4.objs.size=s.heap.objs.size + 4:=by rw [e4,size_push,n3]
 have g5:IsZip A5 (s.heap.objs.size + 4) (s.heap.objs.size + 2) (s.heap.objs.size + 3) .none:=by
  have q:=get?_push_size A4 (o:={ cls:=.type "zip",data:=.fields #[.none,.bool false,.bool false,.ref (s.heap.objs.size + 2),.ref (s.heap.objs.size + 3)] }) rfl;rw [<- e5,n4] at q;exact q
 have g4:IsPair A5 (s.heap.objs.size + 3) .none .none:=by
  have q:=get?_push_size A3 (o:={ cls:=.type "tuple",data:=.seq #[.none,.none] }) rfl;rw [<- e4,n3] at q;rw [IsPair,e5];exact get?_push_of_some _ q
 have g3:IsPair A5 (s.heap.objs.size + 2) (.ref s.heap.objs.size) (.ref (s.heap.objs.size + 1)):=by
  have q:=get?_push_size A2 (o:={ cls:=.type "tuple",data:=.seq #[.ref s.heap.objs.size,.ref (s.heap.objs.size + 1)] }) rfl;rw [<- e3,n2] at q;rw [IsPair,e5,e4];exact get?_push_of_some _ (get?_push_of_some _ q)
 have g2:A5.get? (s.heap.objs.size + 1)=some { cls:=.type "tuple_iterator",data:=.fields #[.ref l2,.int 0 0] }:=by
  have q:=get?_push_size A1 (o:={ cls:=.type "tuple_iterator",data:=.fields #[.ref l2,.int 0 0] }) rfl;rw [<- e2,n1] at q;rw [e5,e4,e3];exact get?_push_of_some _ (get?_push_of_some _ (get?_push_of_some _ q))
 have g1:A5.get? s.heap.objs.size=some { cls:=.type "tuple_iterator",data:=.fields #[.ref l1,.int 0 0] }:=by rw [e5,e4,e3,e2,e1];exact get?_push_of_some _ (get?_push_of_some _ (get?_push_of_some _ (get?_push_of_some _ (get?_push_size _ rfl))))
 have kp:∀ c o,s.heap.get? c=some o->A5.get? c=some o:=fun c o e=>by
  rw [e5,e4,e3,e2,e1];exact get?_push_of_some _ (get?_push_of_some _ (get?_push_of_some _ (get?_push_of_some _ (get?_push_of_some _ e))))
 show _/\_;rw [<- e1,<- e2,<- e3,<- e4,<- e5];exact ⟨⟨_,g5,rfl⟩,h A5 ⟨g5,g3,_,_,g4⟩ ⟨_,g1,rfl,rfl⟩ ⟨_,g2,rfl,rfl⟩ kp⟩
end
section
variable {X:Cx}
def iZip (K:Frag) (ta:TA):TI:=fun σ H R=>ta σ H fun vs H1=>∃ a b,vs=[.ref a,.ref b]/\(((∃ xs,SqT K H1 a xs)/\(∃ ys,SqT K H1 b ys)/\R (Itz K a b) H1)\/((∃ xs,SqL K H1 a xs)/\(∃ ys,SqL K H1 b ys)/\R (Itzl K a b) H1))
theorem pi_zip {elts:List Expr} {kk:Nat} {tp:Pos} {a b:Expr} {ta:TA} {p pos:Pos} (hg:Gl X "zip") (hm:X.mg "zip"=none) (ha:PA X [a,b] ta) (hs:starEach [a,b] X.env=(false,eval a X.env) :: starEach [b] X.env:=by rfl) (hpl:(backTo pos (starEach [b] X.env)).any (·.1)=false:=by rfl):PI X (.Tuple elts kk tp) (.Call (.Name "zip" p) [a,b] [] pos) (iZip X.K ta):=by
 intro pins s σ H R I h;refine Call_ (J5i I hg hm PyProof.Rows.boot_zip (callWith_type1 (thn (ha pos pins s σ H _ I h) fun us s1 h9=>?_) hs hpl));obtain ⟨vs,H1,I1,r1,q1⟩:=h9;obtain ⟨a,b,e,q1⟩:=q1;subst e;obtain ⟨u,v,rfl,ru,rv⟩:=r1.two;cases ru;cases rv;have fp:∀ c∈[s1.heap.objs.size + 4,s1.heap.objs.size + 2,s1.heap.objs.size + 3,s1.heap.objs.size,s1.heap.objs.size + 1],FpOk X pins H1 c:=fun c hc=>by
  have hbs:s1.heap.objs.size<=c:=by
   simp only [mem_cons,not_mem_nil,or_false] at hc;rcases hc with rfl | rfl | rfl | rfl | rfl
   ·exact Nat.le_add_right ..
   ·exact Nat.le_add_right ..
   ·exact Nat.le_add_right ..
   ·exact Nat.le_refl _
   ·exact Nat.le_add_right ..
  exact I1.fpOk hbs (I1.hok.fresh hbs)
 rcases q1 with ⟨⟨xs,hx⟩,⟨ys,hy⟩,q⟩ | ⟨⟨xs,hx⟩,⟨ys,hy⟩,q⟩
 ·obtain ⟨its,r,pl,_⟩:=I1.tuple hx;obtain ⟨its2,r2,pl2,_⟩:=I1.tuple hy;have la:a < s1.heap.objs.size:=by obtain ⟨o,ho,_⟩:=pl;exact lt_size ho
  have lb:b < s1.heap.objs.size:=by obtain ⟨o,ho,_⟩:=pl2;exact lt_size ho
  refine call_zipT (show s1.heap.IsTuple a its.toArray from pl) (show s1.heap.IsTuple b its2.toArray from pl2) fun g Z t1 t2 kp=>?_;have I2:Inv X pins σ H1 { s1 with heap:=g }:=I1.kept (t':=s1.toks) kp;refine wpAny_pyIter_zip Z.1 ?_;exact ⟨_,_,_,_,H1,rfl,I2,turn_zip a b _ la lb,⟨Z,t1,t2⟩,fp,q⟩
 ·obtain ⟨its,r,pl,_⟩:=I1.list hx;obtain ⟨its2,r2,pl2,_⟩:=I1.list hy;have la:a < s1.heap.objs.size:=by obtain ⟨o,ho,_⟩:=pl.isList;exact lt_size ho
  have lb:b < s1.heap.objs.size:=by obtain ⟨o,ho,_⟩:=pl2.isList;exact lt_size ho
  refine call_zip_2 pl.isList pl2.isList fun g z1 z2 z3 t1 t2 _ kp=>?_;have I2:Inv X pins σ H1 { s1 with heap:=g }:=I1.kept (t':=s1.toks) kp;refine wpAny_pyIter_zip z1 ?_;exact ⟨_,_,_,_,H1,rfl,I2,turn_zipL a b _ la lb,⟨⟨z1,z2,_,_,z3⟩,t1,t2⟩,fp,q⟩
end
end L2
namespace L2
open PySem PySem.Spec PyProof.Rows
section
variable {K:Frag} {a:Addr} {H1:Hp} {te:TE} {σ:St} {js:List Nat} {Q:VK} {d:Addr}
theorem lc_zipT {b:Addr} (xs zs:List V) (Pr:Hp->Addr->Nat->Prop) (hx:SqT K H1 a xs) (hz:SqT K H1 b zs) (hlz:zs.length=xs.length) (hn:xs.length<=sizeLine) (hd:H1 d=none)
  (mono:∀ H H' q i,KeepD d H H'->q≠d->Pr H q i->Pr H' q i)
  (he:∀ (i:Nat) (v z:V),xs[i]?=some v->zs[i]?=some z->∀ H Qe,Same H1 H->(∃ ys,H d=some (.lst ys))->(∀ q H',Same H H'->q≠d->Pr H' q i->Qe (.ref q) H')->te (some v :: some z :: capv σ js) H Qe)
  (hq:∀ ys H',Same H1 H'->H' d=some (.lst ys)->Refs (fun q i=>Pr H' q i) ys xs.length->Q (.ref d) H'):LCW2 K (Itz K a b) tYes te σ js Q H1 d:=by
 have s0:∀ o,Same H1 (upd H1 d o):=fun o b u e=>by rw [J9 (J7 e hd)];exact e
 refine ⟨fun i m ys H=>m=xs.length - i/\i<=xs.length/\Same H1 H/\H d=some (.lst ys)/\Refs (fun q i=>q≠d/\Pr H q i) ys i,⟨_,rfl,Nat.zero_le _,s0 _,J0,Refs.nil⟩,?_⟩;rintro i m ys H2 ⟨rfl,hi,sm,h2,rf⟩;refine ⟨h2,?_⟩;by_cases hlt:i < xs.length
 ·refine .inr ⟨⟨_,_,_,_,sm.tup hx,sm.tup hz,List.getElem?_eq_getElem hlt,List.getElem?_eq_getElem (show i < zs.length by omega)⟩,by rw [rf.len];omega,fun v H3 y3=>?_⟩;obtain ⟨p,x,z,rfl,hp,rfl,hv⟩:=y3;obtain ⟨hv,hw⟩:=hv _ _ (sm.tup hx) (sm.tup hz);have s3:Same H2 (upd H2 p (.tup [x,z])):=fun b u e=>by rw [J9 (J7 e hp)];exact e
  refine ⟨p,_,_,rfl,SqT.of J0,?_⟩;unfold tYes;dsimp only;rw [if_pos rfl];refine he i x z hv hw _ _ (sm.trans s3) ⟨_,s3 _ _ h2⟩ fun q H5 s5 hqd hpq=>⟨s5 _ _ (s3 _ _ h2),xs.length - (i + 1),by omega,rfl,hlt,?_,J0,?_⟩
  ·intro b u e;rw [J9 (J7 e hd)];exact s5 _ _ (s3 _ _ (sm _ _ e))
  ·have kd:∀ H,KeepD d H (upd H d (.lst (ys ++ [.ref q]))):=fun H b o e n=>by rw [J9 n];exact e
   refine (rf.mono fun a j _ x=>⟨x.1,?_⟩).snoc ⟨hqd,mono _ _ _ _ (kd _) hqd hpq⟩;exact mono _ _ _ _ (fun b o e n=>kd _ _ _ (s5 _ _ (s3 _ _ e)) n) x.1 x.2
 ·have e:i=xs.length:=by omega
  subst e;exact .inl ⟨⟨_,sm.tup hx,Nat.le_refl _⟩,hq ys H2 sm h2 (rf.mono fun _ _ _ x=>x.2)⟩
theorem lc_zipL {b:Addr} (xs zs:List V) (Pr:Hp->Addr->Nat->Prop) (hx:SqL K H1 a xs) (hz:SqL K H1 b zs) (hlz:zs.length=xs.length) (hn:xs.length<=sizeLine) (hd:H1 d=none)
  (mono:∀ H H' q i,KeepD d H H'->q≠d->Pr H q i->Pr H' q i)
  (he:∀ (i:Nat) (v z:V),xs[i]?=some v->zs[i]?=some z->∀ H Qe,Same H1 H->(∃ ys,H d=some (.lst ys))->(∀ q H',Same H H'->q≠d->Pr H' q i->Qe (.ref q) H')->te (some v :: some z :: capv σ js) H Qe)
  (hq:∀ ys H',Same H1 H'->H' d=some (.lst ys)->Refs (fun q i=>Pr H' q i) ys xs.length->Q (.ref d) H'):LCW2 K (Itzl K a b) tYes te σ js Q H1 d:=by
 have s0:∀ o,Same H1 (upd H1 d o):=fun o b u e=>by rw [J9 (J7 e hd)];exact e
 refine ⟨fun i m ys H=>m=xs.length - i/\i<=xs.length/\Same H1 H/\H d=some (.lst ys)/\Refs (fun q i=>q≠d/\Pr H q i) ys i,⟨_,rfl,Nat.zero_le _,s0 _,J0,Refs.nil⟩,?_⟩;rintro i m ys H2 ⟨rfl,hi,sm,h2,rf⟩;refine ⟨h2,?_⟩;by_cases hlt:i < xs.length
 ·refine .inr ⟨⟨_,_,_,_,sm.seq hx,sm.seq hz,List.getElem?_eq_getElem hlt,List.getElem?_eq_getElem (show i < zs.length by omega)⟩,by rw [rf.len];omega,fun v H3 y3=>?_⟩;obtain ⟨p,x,z,rfl,hp,rfl,hv⟩:=y3;obtain ⟨hv,hw⟩:=hv _ _ (sm.seq hx) (sm.seq hz);have s3:Same H2 (upd H2 p (.tup [x,z])):=fun b u e=>by rw [J9 (J7 e hp)];exact e
  refine ⟨p,_,_,rfl,SqT.of J0,?_⟩;unfold tYes;dsimp only;rw [if_pos rfl];refine he i x z hv hw _ _ (sm.trans s3) ⟨_,s3 _ _ h2⟩ fun q H5 s5 hqd hpq=>⟨s5 _ _ (s3 _ _ h2),xs.length - (i + 1),by omega,rfl,hlt,?_,J0,?_⟩
  ·intro b u e;rw [J9 (J7 e hd)];exact s5 _ _ (s3 _ _ (sm _ _ e))
  ·have kd:∀ H,KeepD d H (upd H d (.lst (ys ++ [.ref q]))):=fun H b o e n=>by rw [J9 n];exact e
   refine (rf.mono fun a j _ x=>⟨x.1,?_⟩).snoc ⟨hqd,mono _ _ _ _ (kd _) hqd hpq⟩;exact mono _ _ _ _ (fun b o e n=>kd _ _ _ (s5 _ _ (s3 _ _ e)) n) x.1 x.2
 ·have e:i=xs.length:=by omega
  subst e;exact .inl ⟨⟨_,sm.seq hx,Nat.le_refl _⟩,hq ys H2 sm h2 (rf.mono fun _ _ _ x=>x.2)⟩
end
end L2
namespace L2
open PySem PySem.Spec PyProof.Rows
end L2
namespace L2
open PySem PySem.Spec PyProof.Rows
end L2
namespace L2
open PySem PySem.Spec PyProof.Rows
end L2
namespace L2
open PySem PySem.Spec PyProof.Rows
section
variable {X:Cx}
theorem J69 {prog:Program} {w:World} {A:Around} {E:Value->Shared->Prop} {s:Shared} {l:Addr} {xs:Array (Int × Tok)} {Q:Value->Shared->Prop} (hh:A.handled=none) (ht:s.heap.IsTuple l (intItems xs)) (hne:0 < xs.size)
  (h:∀ v h' tk,(intItems xs)[argBest (fun i j=>decide (numAt xs i > numAt xs j)) (xs.size - 1)]?=some v->(∀ b o,s.heap.get? b=some o->h'.get? b=some o)->Q v { s with heap:=h',toks:=tk }) :
  wpAny (model prog w) A (call (.builtin "max") [.ref l]) Q E s:=by
 obtain ⟨o,ho,hc,n,hd⟩:=id ht;have hne':l≠s.heap.objs.size:=Nat.ne_of_lt (lt_size ho);refine call_max_walk (wpAny_pyIter_tuple ht ?_);refine ⟨s.heap.objs.size,_,_,_,_,_,_,rfl,Walks.tuple (A:=A.in1) hh _ l hne' (intItems xs),⟨⟨_,get?_push_size _ rfl,rfl,rfl⟩,ht.at fun o e=>get?_push_of_some _ e⟩,fun b hb=>?_,by simpa [intItems] using hne,CmpOf.ints_gt (numAt xs) (fun _ _=>intItems_at),fun v h' tk hP hk=>?_⟩
 ·rcases mem_cons.mp hb with rfl | hb
  ·exact lt_size (get?_push_size _ rfl)
  ·obtain rfl:=mem_singleton.mp hb;exact lt_size (get?_push_of_some _ ho)
 ·refine h v h' tk (by simpa [intItems] using hP) fun b o e=>hk b o (fun hb=>absurd (lt_size e) ((mem_singleton.mp hb) ▸ Nat.lt_irrefl _)) (get?_push_of_some _ e)
theorem best_max {ns:List Int} {xs:Array (Int × Tok)} (hns:ns=xs.toList.map (·.1)) (hsz:0 < xs.size) :
  numAt xs (argBest (fun i j=>decide (numAt xs i > numAt xs j)) (xs.size - 1))∈ns/\∀ a∈ns,a<=numAt xs (argBest (fun i j=>decide (numAt xs i > numAt xs j)) (xs.size - 1)):=by
 obtain ⟨h1,h2⟩:=argBest_gt (numAt xs) (xs.size - 1);refine ⟨?_,fun a ha=>?_⟩
 ·rw [hns,numAt_eq];exact getD_mem (by rw [length_map,length_toList];omega)
 ·rw [hns] at ha;obtain ⟨j,hj,rfl⟩:=mem_getD ha;rw [length_map,length_toList] at hj;rw [<- numAt_eq];exact h2 j (by omega)
theorem call_max (hc:X.calm=true):CallR X (.builtin "max") (fun xs H Q=>∃ (p:Addr) (ns:List Int),xs=[.ref p]/\SqI X.K H p (ns.map V.int)/\0 < ns.length/\∀ M,M∈ns->(∀ a∈ns,a<=M)->Q (.int M) H):=by
 intro pins s σ H xs us Q I r h;obtain ⟨p,ns,rfl,hq,hne,q⟩:=h;obtain ⟨u,rfl,rx⟩:=vals1 r;cases rx;have hh:=I.ok.hd hc;rcases hq with hq | hq
 ·obtain ⟨its,r',pl,hz⟩:=I.list hq;obtain ⟨xs,hx,_,e1⟩:=J2u (Js r');have hsz:0 < xs.size:=by rw [e1,length_map,length_toList] at hne;exact hne
  refine max_intList hh (hx ▸ pl.isList) hsz fun v h' tk hv hk=>?_;obtain ⟨t,rfl⟩:=intItems_at hv;obtain ⟨b1,b2⟩:=best_max e1 hsz;exact ⟨.int _,H,I.kept hk,⟨t,rfl⟩,q _ b1 b2⟩
 ·obtain ⟨its,r',pl,hz⟩:=I.tuple hq;obtain ⟨xs,hx,_,e1⟩:=J2u (Js r');have hsz:0 < xs.size:=by rw [e1,length_map,length_toList] at hne;exact hne
  refine J69 hh (hx ▸ (show s.heap.IsTuple p its.toArray from pl)) hsz fun v h' tk hv hk=>?_;obtain ⟨t,rfl⟩:=intItems_at hv;obtain ⟨b1,b2⟩:=best_max e1 hsz;exact ⟨.int _,H,I.kept hk,⟨t,rfl⟩,q _ b1 b2⟩
def rSlS (K:Frag):V->Option Int->Option Int->Hp->VK->Prop:=fun x lo hi H Q=>rSlL K x lo hi H Q\/rSlT K x lo hi H Q
theorem sl_seq:SlR X (rSlS X.K):=sl_list.or sl_tup
end
end L2
namespace PySem
namespace F
end F
end PySem
namespace L2
open PySem PyProof.Rows
end L2
namespace L2
open PySem PySem.Spec PyProof.Rows
end L2
namespace L2
open PySem PySem.Spec PyProof.Rows
end L2
namespace L2
open PySem PySem.Spec PyProof.Rows
end L2
namespace HT
open PySem PySem.Spec PyProof.Rows L2
end HT
namespace L2
open PySem PySem.Spec PyProof.Rows
end L2
namespace Rl
open PySem
def Ris (xs:Array Nat):Prop:=xs.toList.Pairwise (· < ·)
theorem Ris.lt {xs:Array Nat} (h:Ris xs) {i k a b:Nat} (hik:i < k) (ha:xs[i]?=some a) (hb:xs[k]?=some b):a < b:=by
 obtain ⟨hi,rfl⟩:=Array.getElem?_eq_some_iff.mp ha;obtain ⟨hk,rfl⟩:=Array.getElem?_eq_some_iff.mp hb;have:=List.pairwise_iff_getElem.mp h i k (by rw [length_toList];exact hi) (by rw [length_toList];exact hk) hik;rwa [Array.getElem_toList,Array.getElem_toList] at this
structure BelowAt (xs:Array Nat) (j i:Nat):Prop where
 le:i<=xs.size
 lo:∀ k a,k < i->xs[k]?=some a->a < j
 hi:∀ k a,i<=k->xs[k]?=some a->j<=a
theorem belowGo {xs:Array Nat} {j:Nat} (r:Ris xs):∀ (f lo hi:Nat),lo<=hi->hi<=xs.size->hi - lo<=f->(∀ k a,k < lo->xs[k]?=some a->a < j)->(∀ k a,hi<=k->xs[k]?=some a->j<=a)->BelowAt xs j (SetTable.below.go xs j f lo hi)
 | 0,lo,hi,h1,h2,h3,h4,h5=>⟨by show lo<=_;omega,h4,fun k a hk ha=>h5 k a (by have:lo<=k:=hk;omega) ha⟩
 | f + 1,lo,hi,h1,h2,h3,h4,h5=>by
  rw [SetTable.below.go];split
  ·rename_i c;have hm:(lo + hi) / 2 < xs.size:=by omega
   have e:xs[(lo + hi) / 2]?=some (xs.getD ((lo + hi) / 2) j):=by
    rw [Array.getD_eq_getD_getElem?,Array.getElem?_eq_getElem hm];rfl
   show BelowAt xs j (if xs.getD ((lo + hi) / 2) j < j then SetTable.below.go xs j f ((lo + hi) / 2 + 1) hi else SetTable.below.go xs j f lo ((lo + hi) / 2));by_cases q:xs.getD ((lo + hi) / 2) j < j
   ·rw [if_pos q];refine belowGo r f ((lo + hi) / 2 + 1) hi (by omega) h2 (by omega) (fun k a hk ha=>?_) h5;by_cases z:k=(lo + hi) / 2
    ·subst z;rw [e] at ha;cases ha;exact q
    ·exact Nat.lt_trans (r.lt (show k < (lo + hi) / 2 by omega) ha e) q
   ·rw [if_neg q];refine belowGo r f lo ((lo + hi) / 2) (by omega) (by omega) (by omega) h4 (fun k a hk ha=>?_);by_cases z:k=(lo + hi) / 2
    ·subst z;rw [e] at ha;cases ha;omega
    ·have:=r.lt (show (lo + hi) / 2 < k by omega) e ha;omega
  ·rename_i c;exact ⟨by omega,h4,fun k a hk ha=>h5 k a (by omega) ha⟩
theorem J6h {xs:Array Nat} (r:Ris xs) (j:Nat):BelowAt xs j (SetTable.below xs j) :=
 belowGo r xs.size 0 xs.size (Nat.zero_le _) (Nat.le_refl _) (by omega) (fun k a hk=>absurd hk (Nat.not_lt_zero _)) (fun k a hk ha=>by
  have:=(Array.getElem?_eq_some_iff.mp ha).1;omega)
theorem below_uni {xs:Array Nat} {j i i':Nat} (a:BelowAt xs j i) (b:BelowAt xs j i'):i=i':=by
 have key:∀ {p q:Nat},BelowAt xs j p->BelowAt xs j q->¬ p < q:=fun {p q} x y h=>by
  have hp:p < xs.size:=Nat.lt_of_lt_of_le h y.le;have e:=Array.getElem?_eq_getElem hp;have h1:=x.hi p _ (Nat.le_refl _) e;have h2:=y.lo p _ h e;omega
 have k1:=key a b;have k2:=key b a;omega
theorem below_next {xs:Array Nat} (r:Ris xs) {i a:Nat} (h:xs[i]?=some a):SetTable.below xs (a + 1)=i + 1 :=
 below_uni (J6h r _) ⟨(Array.getElem?_eq_some_iff.mp h).1,fun k b hk hb=>by
  by_cases c:k=i
  ·subst c;rw [h] at hb;cases hb;omega
  ·have:=r.lt (show k < i by omega) hb h;omega,fun k b hk hb=>r.lt (show i < k by omega) h hb⟩
theorem below_zero {xs:Array Nat} (r:Ris xs):SetTable.below xs 0=0 :=
 below_uni (J6h r _) ⟨Nat.zero_le _,fun k b hk=>absurd hk (Nat.not_lt_zero _),fun k b _ _=>Nat.zero_le _⟩
theorem J5k {α:Type} (xs:Array α) (p:Nat) (x:α) (h:p<=xs.size):(SetTable.insertAt xs p x).toList=xs.toList.take p ++ x :: xs.toList.drop p:=by
 unfold SetTable.insertAt;rw [Array.toList_append,Array.toList_push,Array.toList_extract,Array.toList_extract];simp only [List.extract_eq_take_drop,List.drop_zero,Nat.sub_zero,List.append_assoc,List.singleton_append];rw [take_of_length_le (i:=xs.size - p) (by rw [length_drop,length_toList];omega)]
theorem Ris.put {xs:Array Nat} (r:Ris xs) {j:Nat} (hj:xs[SetTable.below xs j]?≠some j):Ris (SetTable.insertAt xs (SetTable.below xs j) j):=by
 have b:=J6h r j;unfold Ris;rw [J5k _ _ _ b.le,List.pairwise_append,List.pairwise_cons];have hlo:∀ a∈xs.toList.take (SetTable.below xs j),a < j:=fun a ha=>by
  obtain ⟨k,hk⟩:=List.getElem?_of_mem ha;have hk2:k < SetTable.below xs j:=by
   have:=(List.getElem?_eq_some_iff.mp hk).1;rw [length_take] at this;omega
  rw [List.getElem?_take_of_lt hk2,getElem?_toList] at hk;exact b.lo k a hk2 hk
 have hhi:∀ a∈xs.toList.drop (SetTable.below xs j),j < a:=fun a ha=>by
  obtain ⟨k,hk⟩:=List.getElem?_of_mem ha;rw [List.getElem?_drop,getElem?_toList] at hk;have h1:=b.hi _ a (Nat.le_add_right ..) hk;by_cases c:a=j
  ·subst c;by_cases z:k=0
   ·subst z;exact absurd hk hj
   ·have hp:SetTable.below xs a < xs.size:=by
     have:=(Array.getElem?_eq_some_iff.mp hk).1;omega
    have e:=Array.getElem?_eq_getElem hp;have h2:=b.hi _ _ (Nat.le_refl _) e;have h3:=r.lt (show SetTable.below xs a < SetTable.below xs a + k by omega) e hk;omega
  ·omega
 exact ⟨List.Pairwise.sublist (List.take_sublist ..) r,⟨hhi,List.Pairwise.sublist (List.drop_sublist ..) r⟩,fun a ha c hc=>by
  rcases mem_cons.mp hc with rfl | hc
  ·exact hlo a ha
  ·exact Nat.lt_trans (hlo a ha) (hhi c hc)⟩
def TabOk (t:SetTable):Prop:=t.dummies=#[]/\(t.plain=true->Ris t.place)
theorem has_nil (j:Nat):SetTable.has #[] j=false:=rfl
theorem J59 {t:SetTable} (hd:t.dummies=#[]) (f:Nat->Int) (h:Int):∀ (n:Nat) (p:SetTable.Probe) (j:Nat) (d:Option Nat),p.dummy=none->SetTable.probe.go t f h n p=some (.empty j d)->d=none/\t.place[SetTable.below t.place j]?≠some j
 | 0,p,j,d,_,e=>by cases e
 | n + 1,p,j,d,hp,e=>by
  rw [SetTable.probe.go] at e;unfold SetTable.slot at e;rw [hd,has_nil] at e;have ha:∀ q:SetTable.Probe,(t.advance q).dummy=q.dummy:=fun q=>by unfold SetTable.advance;split <;> rfl
  dsimp only at e;by_cases c:(t.place[SetTable.below t.place p.j]? == some p.j)=true
  ·rw [if_pos c] at e;dsimp only at e;split at e
   ·cases e
   ·exact J59 hd f h n _ j d (by rw [ha,hp]) e
  ·rw [if_neg c] at e;simp only [Bool.false_eq_true,if_false] at e;cases e;exact ⟨hp,fun z=>c (by rw [z];exact beq_self_eq_true _)⟩
theorem J1t (t:SetTable) (n:Nat):TabOk (t.standIn n)/\(t.standIn n).led=t.led:=⟨⟨rfl,fun h=>by cases h⟩,rfl⟩
theorem layNew_ok {t:SetTable} (ok:TabOk t) (es:Array (Int × Value)) (h:Int) (x:Value):TabOk (layNew t es h x).2.1/\(layNew t es h x).2.1.led=t.led:=by
 unfold layNew;split
 ·rename_i slot wd e;have hs:t.place[SetTable.below t.place slot]?≠some slot:=by
   unfold SetTable.freeSlot at e;split at e
   ·rename_i j d q;have z:=J59 ok.1 _ h _ _ j d rfl q;rw [z.1] at e;cases e;exact z.2
   ·cases e
  have ok':TabOk (t.put slot).1:=by
   unfold SetTable.put;refine ⟨?_,fun pl=>(ok.2 pl).put hs⟩;show (if SetTable.has t.dummies slot=true then _ else t.dummies)=#[];rw [ok.1,has_nil];rfl
  dsimp only;unfold SetTable.orStandIn;split
  ·exact ⟨ok',rfl⟩
  ·exact ⟨(J1t _ _).1,(J1t _ _).2⟩
 ·exact J1t t _
theorem relayAll_ok (t:SetTable) (es:Array (Int × Value)) (n:Nat):TabOk (relayAll t es n).2.1/\(relayAll t es n).2.1.led=t.led:=by
 unfold relayAll;split
 ·rename_i t' order e;dsimp only;split
  ·unfold SetTable.relaid SetTable.laid at e
   cases q:SetTable.layClean (SetTable.sizeAbove n - 1) (es.map (·.1)) with
   | none=>rw [q] at e;cases e
   | some owner =>
    rw [q] at e;cases e;refine ⟨⟨rfl,fun _=>?_⟩,rfl⟩;unfold Ris;show (List.map _ _).Pairwise (· < ·);rw [pairwise_map,List.pairwise_filterMap];refine List.Pairwise.imp ?_ List.pairwise_lt_range;intro a b hab c hc d hd
    cases ha:owner.getD a none with
    | none=>rw [ha] at hc;cases hc
    | some u =>
     cases hb:owner.getD b none with
     | none=>rw [hb] at hd;cases hd
     | some v =>
      rw [ha] at hc;rw [hb] at hd;cases hc;cases hd;exact hab
  ·exact J1t t _
 ·exact J1t t _
end Rl
namespace L2
open PySem PySem.Spec PyProof.Rows Rl
def numE (e:Int × Value):Int:=match e.2 with
 | .int k _=>k
 | _=>0
section
variable {prog:Program} {w:World} {A:Around} {E:Value->Shared->Prop} {s:Shared}
def SetT (prog:Program) (w:World) (h:Heap) (a:Addr) (D:List Int) (L:Bool):Prop :=
 ∃ o es ep t,h.get? a=some o/\o.ExactSet/\o.data=.set es ep t/\ElemsOf (intKind prog w) es.toList/\(es.toList.map numE).Perm D/\es.size < scanBound/\t.fits es.size=true/\TabOk t/\t.led=L
theorem isInt_num {k:Int} {e:Int × Value} (h:(intKind prog w).is k e.2=true):numE e=k:=by
 obtain ⟨t,q⟩:=Value.isInt_shape h;unfold numE;rw [q]
theorem found_mem {es:List (Int × Value)} (hel:ElemsOf (intKind prog w) es) {v:Int}:(∃ e∈es,(intKind prog w).is v e.2=true)↔v∈es.map numE:=by
 rw [mem_map];constructor
 ·rintro ⟨e,he,q⟩;exact ⟨e,he,isInt_num q⟩
 ·rintro ⟨e,he,rfl⟩;obtain ⟨⟨k,hk,_⟩,_⟩:=hel e he;refine ⟨e,he,?_⟩;rw [isInt_num hk];exact hk
theorem put_at {h:Heap} {a:Addr} {o:Obj} {es es':Array (Int × Value)} {ep:Nat} {t t':SetTable} (ho:h.get? a=some o) (hx:o.ExactSet) (hd:o.data=.set es ep t) {D:List Int} {L:Bool}
  (hel:ElemsOf (intKind prog w) es'.toList) (hp:(es'.toList.map numE).Perm D) (hb:es'.size < scanBound) (hf:t'.fits es'.size=true) (ok:TabOk t') (hl:t'.led=L) :
  ∃ o',(h.update a (Obj.putSet es' t')).get? a=some o'/\o'.ExactSet/\o'.data=.set es' (ep + 1) t'/\SetT prog w (h.update a (Obj.putSet es' t')) a D L:=by
 have g:=get?_update_self (Obj.putSet es' t') ho (by rw [putSet_of es' t' hd];rfl);rw [putSet_of es' t' hd] at g;exact ⟨_,g,hx,rfl,_,es',ep + 1,t',g,hx,rfl,hel,hp,hb,hf,ok,hl⟩
theorem add_t {a:Addr} {D:List Int} {L:Bool} {v:Int} {tk:Tok} {Q:Bool->Shared->Prop} (hS:SetT prog w s.heap a D L) (hr:D.length + 1 < scanBound)
  (h:∀ h' b,Heap.SameBut a s.heap h'->SetT prog w h' a (step_dedup D v) L->Q b { s with heap:=h' }) :
  wpAny (model prog w) A (setAddHashed a (.int v tk) ((intKind prog w).hash v)) Q E s:=by
 obtain ⟨o,es,ep,t,ho,hx,hd,hel,hp,hb,hf,ok,hl⟩:=id hS;have hn:es.size=D.length:=by rw [<- hp.length_eq,length_map,length_toList]
 have ik:=intKind_is prog w v tk;have gw:∀ (b:Bool) {s₁:Shared} {R:Unit->Shared->Prop},R () s₁->wpAny (model prog w) A (match b with | true=>rule "set.scan.the-table-gave-way" | false=>pure ()) R E s₁:=fun b s₁ R q=>by
  cases b
  ·exact wpAny_pure q
  ·exact wpAny_rule q
 unfold setAddHashed setAddHashedIn;refine wpAny_holding (wpAny_bind (wpAny_setState_of ho hd hf ?_));dsimp only;rw [byScan_of (show (Value.int v tk).scannable=true from rfl) hb hel,if_pos rfl];unfold setAddByScan;refine wpAny_bind (wpAny_bind (wpAny_rule (wpAny_bind (wpAny_setScan_of ik ho hd hf hel ?_))))
 cases c:List.findIdx? (fun e=>(intKind prog w).is v e.2) es.toList with
 | some j =>
  obtain ⟨hj,pj,_⟩:=List.findIdx?_eq_some_iff_getElem.mp c;have hv:v∈D:=hp.mem_iff.mp ((found_mem hel).mp ⟨_,List.getElem_mem hj,pj⟩);have e:step_dedup D v=D:=by
   unfold step_dedup;have z:(D.any fun x=>x == v)=true:=by rw [any_eq_true];exact ⟨v,hv,by simp⟩
   exact if_pos z
  refine wpAny_pure (wpAny_pure ?_);have q:=h s.heap false (Heap.SameBut.refl a s.heap) (by rw [e];exact hS);exact q
 | none =>
  have hv:¬ v∈D:=fun m=>by
   obtain ⟨e,he,q⟩:=(found_mem hel).mpr (hp.mem_iff.mpr m);have:=List.findIdx?_eq_none_iff.mp c e he;rw [q] at this;cases this
  have e:step_dedup D v=D ++ [v]:=by
   unfold step_dedup;rw [if_neg (fun z=>by obtain ⟨x,m,q⟩:=any_eq_true.mp z;exact hv (beq_iff_eq.mp q ▸ m))]
  rw [e] at h;have p1:=layNew_perm t es ((intKind prog w).hash v) (.int v tk);have f1:=layNew_fits t es ((intKind prog w).hash v) (.int v tk);have k1:=layNew_ok ok es ((intKind prog w).hash v) (.int v tk);dsimp only;generalize layNew t es ((intKind prog w).hash v) (.int v tk)=Z at p1 f1 k1 ⊢;obtain ⟨es1,t1,wd,gv⟩:=Z;dsimp only at p1 f1 k1 ⊢;rw [Array.toList_push] at p1;have hel1:=(hel.push ik (show (Value.int v tk).scannable=true from rfl)).perm p1;have hp1:(es1.toList.map numE).Perm (D ++ [v]):=(p1.map numE).trans (by rw [map_append];exact hp.append_right _);have n1:es1.size=D.length + 1:=by rw [<- length_toList,p1.length_eq,length_append,length_toList,hn];rfl
  have b1:es1.size < scanBound:=by omega
  refine wpAny_bind (gw _ ?_);have eb:hashByValue 8 (.int v tk)=(pure true:Sem Bool):=by rw [hashByValue_scannable 8 (show (Value.int v tk).scannable=true from rfl)];rfl
  rw [eb,ite_self];refine wpAny_bind (wpAny_pure ?_);simp only [↓reduceIte];obtain ⟨o1,g1,x1,d1,S1⟩:=put_at (prog:=prog) (w:=w) ho hx hd hel1 hp1 b1 f1 k1.1 (k1.2.trans hl);have sb:=Heap.SameBut.update s.heap a (Obj.putSet es1 t1);refine wpAny_bind (wpAny_storeSet_of ho hd ?_ (fits_of_scanBound b1));split
  ·have p2:=relayAll_perm t1 es1 (SetTable.grown es1.size);have f2:=relayAll_fits t1 es1 (SetTable.grown es1.size);have k2:=relayAll_ok t1 es1 (SetTable.grown es1.size);generalize relayAll t1 es1 (SetTable.grown es1.size)=Z at p2 f2 k2 ⊢;obtain ⟨es2,t2,gv2⟩:=Z;dsimp only at p2 f2 k2 ⊢;have b2:es2.size < scanBound:=by rw [<- length_toList,p2.length_eq,length_toList];exact b1
   obtain ⟨o2,g2,x2,d2,S2⟩:=put_at (prog:=prog) (w:=w) g1 x1 d1 (hel1.perm p2) ((p2.map numE).trans hp1) b2 f2 k2.1 (k2.2.trans (k1.2.trans hl));refine wpAny_bind (gw _ ?_);refine wpAny_bind (wpAny_storeSet_of g1 d1 ?_ (fits_of_scanBound b2));exact wpAny_pure (wpAny_pure (h _ true (sb.trans (Heap.SameBut.update _ a _)) S2))
  ·exact wpAny_pure (wpAny_pure (h _ true sb S1))
end
section
variable {prog:Program} {w:World} {A:Around} {E:Value->Shared->Prop} {s:Shared} {R:Result->Shared->Prop} {I:Addr} {fp wr:List Addr} {G:Array GenState->Array GenState->Prop} {n:Nat} {P:Nat->Value->Prop} {St:Nat->Shared->Prop}
theorem SetT.at {h h':Heap} {a:Addr} {D:List Int} {L:Bool} (x:SetT prog w h a D L) (k:∀ o,h.get? a=some o->h'.get? a=some o):SetT prog w h' a D L:=by
 obtain ⟨o,es,ep,t,ho,r⟩:=x;exact ⟨o,es,ep,t,k o ho,r⟩
theorem loop_t (W:WalksS prog w A.in1 I fp wr G n P St) (S:Addr) (nS:S ∉ fp) (val:Nat->Int) (hv:∀ i v,P i v->∃ t,v=.int (val i) t) (hb:n + 1 < scanBound) (L:Bool) :
  ∀ (k i:Nat) (s:Shared),n - i=k->i<=n->St i s->SetT prog w s.heap S (firstMet val i) L->
   (∀ s',Moved (S :: wr) G s s'->SetT prog w s'.heap S (firstMet val n) L->R (.ok (.ret .none)) s')->
   codeAny (model prog w) A (.builtin "set.update.loop" ⟨[.ref S,.ref I],[]⟩) R s:=by
 have nW:S ∉ wr:=fun z=>nS (W.sub _ z);have up:∀ b∈wr,b∈S :: wr:=fun b z=>mem_cons_of_mem _ z;intro k
 induction k with
 | zero =>
  intro i s hk hi st hS hR;obtain rfl:i=n:=by omega
  refine codeAny_builtin PyProof.Rows.F.entry_set_update_loop ?_;rw [Around.under_plainId PyProof.Rows.F.plain_set_update_loop _];refine wpAny_bind (W.done s _ _ st fun s' m=>wpAny_pure (hR s' (m.mono up) (hS.at fun o e=>m.heap S o nW e)))
 | succ k ih =>
  intro i s hk hi st hS hR;have lt:i < n:=by omega
  refine codeAny_builtin PyProof.Rows.F.entry_set_update_loop ?_;rw [Around.under_plainId PyProof.Rows.F.plain_set_update_loop _];refine wpAny_bind (W.item i s _ _ lt st fun v s' hP st' m=>?_);obtain ⟨t,rfl⟩:=hv i v hP;refine wpAny_bind (wpAny_holding ?_);unfold setAdd;refine wpAny_holding (wpAny_bind ((intKind prog w).pyHash (k:=val i) (intKind_is _ _ _ _) ?_));have room:(firstMet val i).length + 1 < scanBound:=by have:=firstMet_length_le val i;omega
  refine add_t (s:={ s' with toks:=s'.toks + 1 }) (hS.at fun o e=>m.heap S o nW e) room fun h' b sb S2=>?_;rw [<- firstMet_succ] at S2;refine wpAny_pure ⟨plainId_quiet PyProof.Rows.F.plain_set_update_loop _,ih (i + 1) _ (by omega) lt (W.frame _ s' _ _ st' (Nat.le_succ _) fun b hb o e=>?_) S2 fun s2 m2 S3=>?_⟩
  ·rw [sb.2 b (fun z=>nS (z ▸ hb))];exact e
  ·refine hR s2 (Moved.trans W.gtrans ((m.mono up).then_heap (Nat.le_succ _) fun b o hb e=>?_) m2) S3;rw [sb.2 b (fun z=>hb (by rw [z];exact mem_cons_self))];exact e
theorem new_t (a:Value) {Q:Value->Shared->Prop}
  (h:Q (.ref s.heap.objs.size) { s with heap:=s.heap.push { cls:=.type "set",dict:=none,data:=.set #[] 0 (.fresh 0 0 (!(w.params.followText "set-order"))) } }) :
  codeAny (model prog w) A (.call (.builtin "set.__new__") ⟨[.type "set",a],[]⟩) (wants Q E) s:=by
 refine codeAny_of_tree ?_;refine wpAny_bind (wpAny_of_eq (PySem.F.newCall_set_1 a) (wpAny_pure ⟨plainId_quiet PySem.F.plain_set_new _,codeAny_builtin PySem.F.entry_set_new ?_⟩));rw [Around.under_plainId PySem.F.plain_set_new _];unfold Builtin.«set.__new__» Builtin.Frozenset.newClass;have hsub:=sub_set_self;obtain ⟨hp,g,d,tk,os⟩:=s;dsimp only
 wp_walk
 refine wpAny_askSetting (wpAny_pure ?_);dsimp only;simp only [newObj];refine wpAny_bind (wpAny_alloc (wpAny_pure ?_));exact wpAny_pure h
theorem call_set_t {l:Addr} {vs:List Value} {ns:List Int} {Q:Value->Shared->Prop} (hh:A.handled=none) (hl:s.heap.IsList l vs.toArray) (hi:IntsAre vs ns) (hb:ns.length + 1 < scanBound)
  (h:∀ (h':Heap) (tk:Nat),SetT prog w h' s.heap.objs.size (firstMet (fun i=>ns.getD i 0) ns.length) (!(w.params.followText "set-order"))->
   (∀ b o,b < s.heap.objs.size->s.heap.get? b=some o->h'.get? b=some o)->Q (.ref s.heap.objs.size) { s with heap:=h',toks:=tk }) :
  wpAny (model prog w) A (call (.type "set") [.ref l]) Q E s:=by
 have hvn:vs.length=ns.length:=IntsAre.length hi;obtain ⟨L,hL⟩:∃ L,L=!(w.params.followText "set-order"):=⟨_,rfl⟩;rw [<- hL] at h;obtain ⟨oS,hoS⟩:∃ oS:Obj,oS={ cls:=.type "set",dict:=none,data:=.set #[] 0 (.fresh 0 0 L) }:=⟨_,rfl⟩;have gS:(s.heap.push oS).get? s.heap.objs.size=some oS:=get?_push_size _ (by rw [hoS];rfl);have T0:SetT prog w (s.heap.push oS) s.heap.objs.size [] L:=⟨oS,#[],0,.fresh 0 0 L,gS,by rw [hoS];exact ⟨rfl,rfl,rfl⟩,(by rw [hoS]),(fun e he=>by cases he),List.Perm.refl _,(by decide),(by rfl),⟨rfl,fun _=>List.Pairwise.nil⟩,rfl⟩;have c1:=PySem.F.called_set.mro;have c2:=PySem.F.called_set.made;have c3:=PySem.F.called_set.sub;have c4:=PySem.F.called_set.notType;have c5:=PySem.F.called_set.canCreate;have c6:=PySem.F.typeCall_set_1 (.ref l);obtain ⟨c,tl,c1⟩:=c1;refine wpAny_call (codeAny_of_tree (wpAny_pure ⟨Code.quiet_builtin _ (by decide +kernel),codeAny_builtin PySem.F.entry_type_call ?_⟩));refine (Around.under_plain (weight_type_call_type "set" [Value.ref l] []) rfl).symm ▸ ?_
 repeat (any_goals (first | assumption | wp_step))
 refine codeAny_mono (new_t (.ref l) (E:=E) (Q:=fun obj s₁=>obj=.ref s.heap.objs.size/\s₁={ s with heap:=s.heap.push oS }) (by rw [<- hL,<- hoS];exact ⟨rfl,rfl⟩)) fun r s₁ hr=>?_
 cases r with
 | error e=>exact hr
 | ok fl =>
 cases fl with
 | ret obj =>
 obtain ⟨rfl,rfl⟩:=hr;have hT:Shared.TypeIs { s with heap:=s.heap.push oS } (.ref s.heap.objs.size) "set":=⟨_,gS,by rw [hoS]⟩;have d1:=PySem.F.called_set.init.lookup;have d2:=PySem.F.called_set.init.bind (.ref s.heap.objs.size)
 repeat (any_goals (first | assumption | wp_step))
 refine codeAny_mono (codeAny_call_builtin (R:=wants (fun r s₂=>r=.none/\∃ h' tk,s₂={ s with heap:=h',toks:=tk }/\SetT prog w h' s.heap.objs.size (firstMet (fun i=>ns.getD i 0) ns.length) L/\
  (∀ b o,b < s.heap.objs.size->s.heap.get? b=some o->h'.get? b=some o)) E) PySem.F.called_set.init.plain PySem.F.entry_set_init (check_set_init_1 hT ?_)) fun r₂ s₂ hr₂=>?_
 rotate_left
 ·cases r₂ with
  | error e=>exact hr₂
  | ok fl₂ =>
   cases fl₂ with
   | ret r =>
    obtain ⟨rfl,h',tk,rfl,q1,q2⟩:=hr₂
    repeat (any_goals (first | assumption | wp_step))
    exact h _ _ q1 q2
   | _=>exact hr₂.elim
 have hl1:(s.heap.push oS).IsList l vs.toArray:=by
  obtain ⟨o,ho,r⟩:=hl;exact ⟨o,get?_push_of_some _ ho,r⟩
 have lt:l < s.heap.objs.size:=by
  obtain ⟨o,ho,_⟩:=hl;exact lt_size ho
 obtain ⟨ol,hol,hcl,nl,hdl⟩:=hl1;obtain ⟨oc,od,odt,osl⟩:=ol;simp only at hcl hdl;subst hcl;subst hdl;have k1:=PySem.F.sub_list_set;have k2:=PySem.F.sub_list_frozenset;have k3:(Value.type "list" == Value.type "dict")=false:=by decide
 subst hoS;unfold Builtin.«set.__init__» noKeywords Builtin.Frozenset.updateFrom;generalize hPI:pyIter=PI
 wp_walk
 subst hPI;refine wpAny_pyIter_list ⟨_,hol,rfl,nl,rfl⟩ (wpAny_bind (wpAny_runValue ?_));have h3:A.in1.in1.in1.handled=none:=by simp [hh]
 have z:(s.heap.push { cls:=.type "set",dict:=none,data:=.set #[] 0 (.fresh 0 0 L) }).objs.size=s.heap.objs.size + 1:=size_push _ _;refine loop_t ((Walks.list h3 _ l (by rw [z];exact Nat.ne_of_lt (Nat.lt_succ_of_lt lt)) vs.toArray).toS) s.heap.objs.size (fun q=>by
  rw [z] at q;rcases mem_cons.mp q with e | e
  ·exact absurd e (Nat.ne_of_lt (Nat.lt_succ_self _))
  ·exact absurd (mem_singleton.mp e) (Nat.ne_of_gt lt)) (fun i=>ns.getD i 0) (fun i v q=>IntsAre.int_at hi i v (by rw [<- getElem?_toList] at q;exact q)) (by rw [size_toArray];omega) L
  (vs.toArray.size - 0) 0 _ (by omega) (Nat.zero_le _) ⟨⟨_,get?_push_size _ rfl,rfl,rfl⟩,⟨_,get?_push_of_some _ hol,rfl,nl,rfl⟩⟩ (T0.at fun o e=>get?_push_of_some _ e) fun s' m S'=>?_
 have eq:=Moved.eq_with m;refine wpAny_pure (wpAny_pure ⟨rfl,s'.heap,s'.toks,eq,by rw [<- hvn,<- size_toArray];exact S',fun b o hb e=>m.heap b o (fun q=>?_) (get?_push_of_some _ (get?_push_of_some _ e))⟩);rw [z] at q;rcases mem_cons.mp q with e | e
 ·exact absurd e (Nat.ne_of_lt hb)
 ·exact absurd (mem_singleton.mp e) (Nat.ne_of_lt (Nat.lt_succ_of_lt hb))
 | _=>exact hr.elim
end
end L2
namespace L2
open PySem PySem.Spec PyProof.Rows Rl
theorem sit_slot:Slot "set_iterator" "__next__" "set_iterator.__next__" :=
 .of (owner:="set_iterator") (n:="__next__") (by rw [typeLookup_type,builtinLookup_eq_fast];kernel_rfl) (by decide +kernel) (by decide +kernel) (by decide +kernel)
  (by first | exact .inl (by decide +kernel) | exact .inr (by decide +kernel)) (by rw [isSubtype_type];kernel_rfl)
theorem J32:entryFor table "set_iterator.__next__"=some Builtin.«set_iterator.__next__»:=entryFor_of_tree (by kernel_rfl)
theorem sit_owner:Manifest.owners.lookup (String.ofList ['r','o','t','a','r','e','t','i','_','t','e','s'].reverse)=some Manifest.sig_set_iterator:=by kernel_rfl
theorem J44 (a:Value):argsOk "set_iterator.__next__" ⟨[a],[]⟩:=by
 unfold argsOk;rw [signature?_of (id:="set_iterator.__next__") (n:=['_','_','t','x','e','n','_','_']) (o:=['r','o','t','a','r','e','t','i','_','t','e','s']) (by kernel_rfl) sit_owner];kernel_rfl
theorem J45:entryFor table "set.__iter__"=some Builtin.«frozenset.__iter__»:=entryFor_alias (id':="frozenset.__iter__") (by kernel_rfl) (by decide +kernel) (by decide +kernel) (by kernel_rfl)
section
variable {prog:Program} {w:World} {A:Around} {E:Value->Shared->Prop} {s:Shared}
def sitObj (first:Value) (i:Nat) (S:Addr) (n ep:Nat):Data:=.fields #[first,.int i 0,.ref S,.int n 0,.int ep 0]
structure SitAt (h:Heap) (it S:Addr) (es:Array (Int × Value)) (ep:Nat) (t:SetTable) (first:Value) (i:Nat):Prop where
 its:∃ o,h.get? it=some o/\o.cls=.type "set_iterator"/\o.data=sitObj first i S es.size ep
 set:∃ o,h.get? S=some o/\o.ExactSet/\o.data=.set es ep t/\t.fits es.size=true
theorem SitAt.put {h:Heap} {it S:Addr} {es:Array (Int × Value)} {ep:Nat} {t:SetTable} {first:Value} {i:Nat} (x:SitAt h it S es ep t first i) (ne:S≠it) {f:Obj->Obj} {first':Value} {i':Nat}
  (hf:∀ o,o.data=sitObj first i S es.size ep->(f o).cls=o.cls/\(f o).data=sitObj first' i' S es.size ep):SitAt (h.update it f) it S es ep t first' i':=by
 obtain ⟨⟨o,ho,hc,hd⟩,oS,hoS,r⟩:=x;obtain ⟨f1,f2⟩:=hf o hd;exact ⟨⟨_,get?_update_self _ ho (Obj.isFreed_of_fields f2),f1.trans hc,f2⟩,oS,(get?_update_other _ _ (Ne.symm ne)).trans hoS,r⟩
theorem sit_int {it S:Addr} {es:Array (Int × Value)} {ep:Nat} {t:SetTable} {slot next i:Nat} {v:Value} {Q:Option Value->Shared->Prop} (ne:S≠it) (x:SitAt s.heap it S es ep t (.int slot 0) i)
  (hn:∀ (A:Around) (E:Value->Shared->Prop) (Q:Option (Value × Nat)->Shared->Prop),Q (some (v,next)) s->wpAny (model prog w) A (setNext S slot i ep) Q E s)
  (hQ:∀ h',SitAt h' it S es ep t (.int next 0) (i + 1)->Heap.SameBut it s.heap h'->Q (some v) { s with heap:=h' }):wpAny (model prog w) A (pyNext (.ref it)) Q E s:=by
 obtain ⟨⟨o,ho,hc,hd⟩,oS,hoS,hx,hdS,hf⟩:=id x;unfold pyNext;refine wpAny_bind (wpAny_attempt (wpAny_callSpecial?_slot (name:=Str.ofString "__next__") ⟨o,ho,hc⟩ sit_slot (wpAny_call_entry sit_slot ⟨o,ho,hc⟩ J32 ?_ (J44 _))));unfold Builtin.«set_iterator.__next__»;refine wpAny_bind (wpAny_pure (wpAny_bind (wpAny_fieldsOf ho hd ?_)));refine wpAny_bind (wpAny_setEntries_of hoS hdS hf ?_);dsimp only;rw [if_neg (by simp)];refine wpAny_bind ?_;rw [Int.toNat_natCast,Int.toNat_natCast,Int.toNat_natCast];refine hn _ _ _ ?_;dsimp only;have x1:SitAt (s.heap.update it (Obj.mapFields fun a=>a.set! 0 (rawInt next))) it S es ep t (.int next 0) i:=x.put ne fun o q=>⟨Obj.cls_mapFields ..,by rw [Obj.data_mapFields q];rfl⟩;obtain ⟨o1,ho1,hc1,hd1⟩:=x1.its;have x2:SitAt ((s.heap.update it (Obj.mapFields fun a=>a.set! 0 (rawInt next))).update it (Obj.mapFields fun a=>a.set! 1 (rawInt (i + 1)))) it S es ep t (.int next 0) (i + 1):=x1.put ne fun o q=>⟨Obj.cls_mapFields ..,by rw [Obj.data_mapFields q];rfl⟩;refine wpAny_bind (wpAny_setField ho hd (by simp) (wpAny_bind (wpAny_setField ho1 hd1 (by simp) (wpAny_pure ⟨v,rfl,wpAny_pure (hQ _ x2 ?_)⟩))));exact (Heap.SameBut.update ..).trans (Heap.SameBut.update ..)
theorem stop_at {it:Addr} {s0:Shared} {Q:Option Value->Shared->Prop} (hh:A.handled=none) (k:Heap.ExtBut it s0.heap s.heap) (hQ:∀ h',Heap.ExtBut it s0.heap h'->Q none { s with heap:=h' }) :
  wpAny (model prog w) A.in1 (newExc (.type "StopIteration") [] >>= fun e=>(raiseNew e:Sem PySem.Fin)) (fun fin s'=>False) (fun e s'=>wpAny (model prog w) A (do
    let b <- isInstance e (.type "StopIteration")
    if b=true then pure none else throw e) Q E s') s:=by
 refine wpAny_bind ?_;simp only [newExc,newTuple];refine wpAny_bind (wpAny_newObj_type ?_ (by size_fits));refine wpAny_bind (m:=firstArgMember _ _) (wpAny_of_eq (a:=Value.none) (by first | rfl | (simp only [firstArgMember];rfl)) (wpAny_newObj_type ?_ (by size_fits)));simp only [raiseNew];refine wpAny_bind (wpAny_handled ?_);rw [show A.in1.handled=none from hh];refine wpAny_bind (wpAny_pure (wpAny_throw ?_));refine wpAny_bind (wpAny_isInstance (T:="StopIteration") (b:=true) ⟨_,get?_push_size _ rfl,rfl⟩ isSubtype_stop ?_);exact wpAny_pure (hQ _ ((k.push _).push _))
theorem sit_end {it S:Addr} {es:Array (Int × Value)} {ep:Nat} {t:SetTable} {slot i:Nat} {Q:Option Value->Shared->Prop} (hh:A.handled=none) (x:SitAt s.heap it S es ep t (.int slot 0) i)
  (hn:∀ (A:Around) (E:Value->Shared->Prop) (Q:Option (Value × Nat)->Shared->Prop),Q none s->wpAny (model prog w) A (setNext S slot i ep) Q E s)
  (hQ:∀ h',Heap.ExtBut it s.heap h'->Q none { s with heap:=h' }):wpAny (model prog w) A (pyNext (.ref it)) Q E s:=by
 obtain ⟨⟨o,ho,hc,hd⟩,oS,hoS,hx,hdS,hf⟩:=id x;unfold pyNext;refine wpAny_bind (wpAny_attempt (wpAny_callSpecial?_slot (name:=Str.ofString "__next__") ⟨o,ho,hc⟩ sit_slot (wpAny_call_entry sit_slot ⟨o,ho,hc⟩ J32 ?_ (J44 _))));unfold Builtin.«set_iterator.__next__»;refine wpAny_bind (wpAny_pure (wpAny_bind (wpAny_fieldsOf ho hd ?_)));refine wpAny_bind (wpAny_setEntries_of hoS hdS hf ?_);dsimp only;rw [if_neg (by simp)];refine wpAny_bind ?_;rw [Int.toNat_natCast,Int.toNat_natCast,Int.toNat_natCast];refine hn _ _ _ ?_;dsimp only;refine wpAny_bind (wpAny_setField ho hd (by simp) ?_);refine wpAny_mono (stop_at (it:=it) (s0:=s) hh (Heap.SameBut.update ..).extBut hQ) (fun _ _ z=>z.elim) (fun _ _ z=>z)
theorem by_text {Q:Bool->Shared->Prop} (h:Q (w.params.followText "set-order") s):wpAny (model prog w) A setsByText Q E s:=wpAny_bind (wpAny_askSetting (wpAny_pure h))
theorem next_led {S:Addr} {oS:Obj} {es:Array (Int × Value)} {ep:Nat} {t:SetTable} {slot g ep':Nat} {Q:Option (Value × Nat)->Shared->Prop} (hoS:s.heap.get? S=some oS) (hdS:oS.data=.set es ep t) (hf:t.fits es.size=true)
  (bt:w.params.followText "set-order"=false) (nd:(!t.plain && decide (es.size > 1))=false) (led:t.led=true)
  (h:Q (match es[SetTable.below t.place slot]?,t.place[SetTable.below t.place slot]? with | some (_,x),some j=>some (x,j + 1) | _,_=>none) s):wpAny (model prog w) A (setNext S slot g ep') Q E s:=by
 unfold setNext;refine wpAny_bind (wpAny_setState_of hoS hdS hf (wpAny_bind (by_text ?_)));rw [bt,if_neg Bool.false_ne_true];dsimp only;refine wpAny_ite_split (fun q=>absurd (show (!t.plain && decide (es.size > 1))=true from q) (by rw [nd];decide)) (fun _=>?_);refine wpAny_bind (m:=if (!t.led && !es.isEmpty)=true then unsupported _ else pure ()) ?_;rw [led,if_neg (by simp)];exact wpAny_pure (wpAny_pure h)
theorem next_text {S:Addr} {oS:Obj} {es:Array (Int × Value)} {ep:Nat} {t:SetTable} {slot g:Nat} {Q:Option (Value × Nat)->Shared->Prop} (hoS:s.heap.get? S=some oS) (hdS:oS.data=.set es ep t) (hf:t.fits es.size=true)
  (bt:w.params.followText "set-order"=true) (h:Q (((pickOrder (w.params.setOrder S ep) es)[g]?).map fun e=>(e.2,slot)) s):wpAny (model prog w) A (setNext S slot g ep) Q E s:=by
 unfold setNext;refine wpAny_bind (wpAny_setState_of hoS hdS hf (wpAny_bind (by_text ?_)));rw [bt,if_pos rfl];rw [if_neg (by simp)];refine wpAny_bind ?_;unfold setWalk;refine wpAny_bind (wpAny_setState_of hoS hdS hf (wpAny_bind (by_text ?_)));rw [bt,if_pos rfl];refine wpAny_bind (wpAny_askSetting (wpAny_pure (wpAny_pure h)))
end
end L2
namespace Rl
theorem J3l {α:Type}:∀ {l:List α} {i:Nat} {x:α},l[i]?=some x->(x :: l.eraseIdx i).Perm l
 | a :: l,0,x,h=>by cases h;exact List.Perm.refl _
 | a :: l,i + 1,x,h=>((List.Perm.swap a x _).trans ((J3l (l:=l) h).cons a))
theorem pick_perm {α:Type} (next:Nat->Nat):∀ (f k:Nat) (l:List α) (out:Array α),l.length<=f->(PySem.pickOrder.go next f k l out).toList.Perm (out.toList ++ l)
 | 0,k,l,out,h=>by
  have:l=[]:=length_eq_zero_iff.mp (Nat.le_zero.mp h);subst this;rw [append_nil];exact List.Perm.refl _
 | f + 1,k,l,out,h=>by
  rw [PySem.pickOrder.go];split
  ·rename_i x e;have p:=J3l e;have hl:(l.eraseIdx (next k % l.length)).length<=f:=by have:=p.length_eq;rw [length_cons] at this;omega
   refine (pick_perm next f (k + 1) _ (out.push x) hl).trans ?_;rw [Array.toList_push,List.append_assoc];exact List.Perm.append_left _ p
  ·rename_i e;have:l=[]:=by
    cases l with
    | nil=>rfl
    | cons a r =>
     rw [List.getElem?_eq_getElem (Nat.mod_lt _ (by rw [length_cons];omega))] at e;cases e
   subst this;rw [append_nil]
theorem J4j {α:Type} (next:Nat->Nat) (xs:Array α):(PySem.pickOrder next xs).toList.Perm xs.toList:=pick_perm next xs.size 0 xs.toList #[] (by rw [length_toList];exact Nat.le_refl _)
end Rl
namespace L2
open PySem PySem.Spec PyProof.Rows Rl
section
variable {prog:Program} {w:World} {A:Around} {E:Value->Shared->Prop} {s:Shared}
theorem choose_any {M:Model} {src:Source} {n:Nat} {Q:Nat->Shared->Prop} (hn:n≠0) (h:∀ i,i < n->∀ d,Q i { s with drawn:=d }):wpAny M A (choose src n) Q E s:=fun Γ p _=>by
 show n≠0/\_;exact ⟨hn,h _ (Nat.mod_lt _ (Nat.pos_of_ne_zero hn)) _⟩
theorem draw_any {α:Type}:∀ (n:Nat) (xs:List α) {s:Shared} {Q:List α->Shared->Prop},xs.length<=n->(∀ ys d,ys.Perm xs->Q ys { s with drawn:=d })->wpAny (model prog w) A (drawOrder n xs) Q E s
 | 0,xs,s,Q,hl,h=>by
  have:xs=[]:=length_eq_zero_iff.mp (Nat.le_zero.mp hl);subst this;exact wpAny_pure (h [] s.drawn (List.Perm.refl _))
 | n + 1,[],s,Q,hl,h=>wpAny_pure (h [] s.drawn (List.Perm.refl _))
 | n + 1,a :: r,s,Q,hl,h=>by
  unfold drawOrder;refine wpAny_bind (choose_any (by simp) fun i hi d=>?_);rw [List.getElem?_eq_getElem hi];dsimp only;have p:=J3l (List.getElem?_eq_getElem hi);refine wpAny_bind (draw_any n _ (by have:=p.length_eq;rw [length_cons,length_cons] at this;rw [length_cons] at hl;omega) fun ys d2 hy=>wpAny_pure ?_);exact h _ _ ((hy.cons _).trans p)
theorem sit_tup {it S tu:Addr} {es:Array (Int × Value)} {ep:Nat} {t:SetTable} {i p:Nat} {v:Value} {k:Int} {ps:Array Value} {Q:Option Value->Shared->Prop} (ne:S≠it) (x:SitAt s.heap it S es ep t (.ref tu) i)
  (ht:∃ o n,s.heap.get? tu=some o/\o.data=.seq ps n) (hp:ps[i]?=some (.int p 0)) (he:es[p]?=some (k,v))
  (hQ:∀ h',SitAt h' it S es ep t (.ref tu) (i + 1)->Heap.SameBut it s.heap h'->Q (some v) { s with heap:=h' }):wpAny (model prog w) A (pyNext (.ref it)) Q E s:=by
 obtain ⟨⟨o,ho,hc,hd⟩,oS,hoS,hx,hdS,hf⟩:=id x;obtain ⟨ot,nt,hot,hdt⟩:=ht;unfold pyNext;refine wpAny_bind (wpAny_attempt (wpAny_callSpecial?_slot (name:=Str.ofString "__next__") ⟨o,ho,hc⟩ sit_slot (wpAny_call_entry sit_slot ⟨o,ho,hc⟩ J32 ?_ (J44 _))));unfold Builtin.«set_iterator.__next__»;refine wpAny_bind (wpAny_pure (wpAny_bind (wpAny_fieldsOf ho hd ?_)));refine wpAny_bind (wpAny_setEntries_of hoS hdS hf ?_);dsimp only;rw [if_neg (by simp)];refine wpAny_bind (wpAny_seqItems hot hdt ?_);dsimp only;rw [Int.toNat_natCast,hp];dsimp only;refine wpAny_bind ?_;unfold setNextDrawn;refine wpAny_bind (wpAny_setState_of hoS hdS hf ?_);dsimp only;rw [if_neg (by simp),Int.toNat_natCast,he];refine wpAny_pure ?_;have x2:SitAt (s.heap.update it (Obj.mapFields fun a=>a.set! 1 (rawInt (i + 1)))) it S es ep t (.ref tu) (i + 1):=x.put ne fun o q=>⟨Obj.cls_mapFields ..,by rw [Obj.data_mapFields q];rfl⟩;exact wpAny_bind (wpAny_setField ho hd (by simp) (wpAny_pure ⟨v,rfl,wpAny_pure (hQ _ x2 (Heap.SameBut.update ..))⟩))
theorem sit_tend {it S tu:Addr} {es:Array (Int × Value)} {ep:Nat} {t:SetTable} {i:Nat} {ps:Array Value} {Q:Option Value->Shared->Prop} (hh:A.handled=none) (ne:S≠it) (x:SitAt s.heap it S es ep t (.ref tu) i)
  (ht:∃ o n,s.heap.get? tu=some o/\o.data=.seq ps n) (hp:ps[i]?=none)
  (hQ:∀ h',Heap.ExtBut it s.heap h'->Q none { s with heap:=h' }):wpAny (model prog w) A (pyNext (.ref it)) Q E s:=by
 obtain ⟨⟨o,ho,hc,hd⟩,oS,hoS,hx,hdS,hf⟩:=id x;obtain ⟨ot,nt,hot,hdt⟩:=ht;unfold pyNext;refine wpAny_bind (wpAny_attempt (wpAny_callSpecial?_slot (name:=Str.ofString "__next__") ⟨o,ho,hc⟩ sit_slot (wpAny_call_entry sit_slot ⟨o,ho,hc⟩ J32 ?_ (J44 _))));unfold Builtin.«set_iterator.__next__»;refine wpAny_bind (wpAny_pure (wpAny_bind (wpAny_fieldsOf ho hd ?_)));refine wpAny_bind (wpAny_setEntries_of hoS hdS hf ?_);dsimp only;rw [if_neg (by simp)];refine wpAny_bind (wpAny_seqItems hot hdt ?_);dsimp only;rw [Int.toNat_natCast,hp];dsimp only;have x1:SitAt (s.heap.update it (Obj.mapFields fun a=>a.set! 0 (rawInt 0))) it S es ep t (.int 0 0) i:=x.put ne fun o q=>⟨Obj.cls_mapFields ..,by rw [Obj.data_mapFields q];rfl⟩;obtain ⟨o1,ho1,hc1,hd1⟩:=x1.its;refine wpAny_bind (wpAny_setField ho hd (by simp) (wpAny_bind (wpAny_setField ho1 hd1 (by simp) ?_)));exact wpAny_mono (stop_at (it:=it) (s0:=s) hh ((Heap.SameBut.update ..).trans (Heap.SameBut.update ..)).extBut hQ) (fun _ _ z=>z.elim) (fun _ _ z=>z)
end
end L2
namespace L2
open PySem PySem.Spec PyProof.Rows Rl
theorem sit_slotI:Slot "set_iterator" "__iter__" "set_iterator.__iter__" :=
 .of (owner:="set_iterator") (n:="__iter__") (by rw [typeLookup_type,builtinLookup_eq_fast];kernel_rfl) (by decide +kernel) (by decide +kernel) (by decide +kernel)
  (by first | exact .inl (by decide +kernel) | exact .inr (by decide +kernel)) (by rw [isSubtype_type];kernel_rfl)
theorem sit_entryI:entryFor table "set_iterator.__iter__"=some Builtin.«dict_keyiterator.__iter__» :=
 entryFor_alias (id':="dict_keyiterator.__iter__") (by kernel_rfl) (by decide +kernel) (by decide +kernel) (by kernel_rfl)
theorem sit_argsI (a:Value):argsOk "set_iterator.__iter__" ⟨[a],[]⟩:=by
 unfold argsOk;rw [signature?_of (id:="set_iterator.__iter__") (n:=['_','_','r','e','t','i','_','_']) (o:=['r','o','t','a','r','e','t','i','_','t','e','s']) (by kernel_rfl) sit_owner];kernel_rfl
section
variable {prog:Program} {w:World} {A:Around} {E:Value->Shared->Prop} {s:Shared}
def SitM (w:World) (it S tu:Addr) (es:Array (Int × Value)) (ep:Nat) (t:SetTable) (its:List Value) (i:Nat) (h:Heap):Prop :=
 (w.params.followText "set-order"=true/\(∃ slot:Nat,SitAt h it S es ep t (.int slot 0) i)/\its=(pickOrder (w.params.setOrder S ep) es).toList.map (·.2))\/
 (w.params.followText "set-order"=false/\(!t.plain && decide (es.size > 1))=false/\t.led=true/\Ris t.place/\(∃ slot:Nat,SitAt h it S es ep t (.int slot 0) i/\SetTable.below t.place slot=i)/\its=es.toList.map (·.2))\/
 (∃ ps:List Nat,SitAt h it S es ep t (.ref tu) i/\(∃ o n,h.get? tu=some o/\o.data=.seq (ps.map fun p:Nat=>Value.int p 0).toArray n)/\(∀ p∈ps,p < es.size)/\its=ps.map fun p=>(es.getD p default).2)
theorem SitAt.at {h h':Heap} {it S:Addr} {es:Array (Int × Value)} {ep:Nat} {t:SetTable} {first:Value} {i:Nat} (x:SitAt h it S es ep t first i) (k1:∀ o,h.get? it=some o->h'.get? it=some o) (k2:∀ o,h.get? S=some o->h'.get? S=some o):SitAt h' it S es ep t first i:=by
 obtain ⟨⟨o,ho,r⟩,oS,hoS,r2⟩:=x;exact ⟨⟨o,k1 _ ho,r⟩,oS,k2 _ hoS,r2⟩
theorem SitM.at {h h':Heap} {it S tu:Addr} {es:Array (Int × Value)} {ep:Nat} {t:SetTable} {its:List Value} {i:Nat} (x:SitM w it S tu es ep t its i h) (k:∀ b∈[it,S,tu],∀ o,h.get? b=some o->h'.get? b=some o):SitM w it S tu es ep t its i h':=by
 have k1:=k it (by simp);have k2:=k S (by simp);rcases x with ⟨a,⟨sl,b⟩,c⟩ | ⟨a,b,c,d,⟨sl,e,f⟩,g⟩ | ⟨ps,a,⟨o,n,ho,hd⟩,r⟩
 ·exact .inl ⟨a,⟨sl,b.at k1 k2⟩,c⟩
 ·exact .inr (.inl ⟨a,b,c,d,⟨sl,e.at k1 k2,f⟩,g⟩)
 ·exact .inr (.inr ⟨ps,a.at k1 k2,⟨o,n,k tu (by simp) _ ho,hd⟩,r⟩)
theorem walk_set (hh:A.handled=none) (it S tu:Addr) (ne:S≠it) (nt:tu≠it) (es:Array (Int × Value)) (ep:Nat) (t:SetTable) (its:List Value) :
  Walks prog w A it [it,S,tu] [it] its.length (fun i v=>its[i]?=some v) (fun i h=>SitM w it S tu es ep t its i h) where
 sub:=fun b hb=>by simp at hb;simp [hb]
 frame:=fun _ _ _ st hk=>st.at hk
 item:=fun i s Q E hi st hQ=>by
  have fin:∀ v h',its[i]?=some v->SitM w it S tu es ep t its (i + 1) h'->Heap.SameBut it s.heap h'->Q (some v) { s with heap:=h' }:=fun v h' e1 e2 e3 =>
   hQ v h' s.toks e1 e2 fun b o hb e=>e3.extBut b o (fun z=>hb (by simp [z])) e
  rcases st with ⟨a,⟨sl,b⟩,c⟩ | ⟨a,b,c,d,⟨sl,e,f⟩,g⟩ | ⟨ps,a,ht,hp,c⟩
  ·obtain ⟨v,hv⟩:∃ v,its[i]?=some v:=⟨_,List.getElem?_eq_getElem hi⟩;obtain ⟨oS,hoS,hx,hdS,hf⟩:=b.set;refine sit_int (next:=sl) ne b (fun A E Q q=>next_text hoS hdS hf a ?_) fun h' x' k=>fin _ h' hv (.inl ⟨a,⟨sl,x'⟩,c⟩) k;have hv2:=hv;rw [c,getElem?_map,getElem?_toList] at hv2
   cases z:(pickOrder (w.params.setOrder S ep) es)[i]? with
   | none=>rw [z] at hv2;cases hv2
   | some e =>
    rw [z] at hv2;injection hv2 with hv2
    subst hv2;exact q
  ·obtain ⟨v,hv⟩:∃ v,its[i]?=some v:=⟨_,List.getElem?_eq_getElem hi⟩;obtain ⟨oS,hoS,hx,hdS,hf⟩:=e.set;have hs:i < es.size:=by rw [g,length_map,length_toList] at hi;exact hi
   have hps:t.place.size=es.size:=by
    unfold SetTable.fits at hf;rw [Bool.and_eq_true,beq_iff_eq] at hf;exact hf.1
   have hpl:t.place[i]?=some (t.place[i]'(by omega)):=Array.getElem?_eq_getElem _;refine sit_int (next:=t.place[i]'(by omega) + 1) ne e (fun A E Q q=>next_led hoS hdS hf a b c ?_) fun h' x' k=>fin _ h' hv (.inr (.inl ⟨a,b,c,d,⟨_,x',below_next d hpl⟩,g⟩)) k;rw [f,hpl];have hv2:=hv;rw [g,getElem?_map,getElem?_toList] at hv2
   cases z:es[i]? with
   | none=>rw [z] at hv2;cases hv2
   | some e =>
    rw [z] at hv2;injection hv2 with hv2
    subst hv2;exact q
  ·have hi2:i < ps.length:=by rw [c,length_map] at hi;exact hi
   have hpi:ps[i]?=some (ps[i]'hi2):=List.getElem?_eq_getElem hi2;have hlt:=hp _ (List.getElem_mem hi2);have he:es[ps[i]'hi2]?=some (es.getD (ps[i]'hi2) default):=by rw [Array.getD_eq_getD_getElem?,Array.getElem?_eq_getElem hlt];rfl
   refine sit_tup (p:=ps[i]'hi2) ne a ht (by rw [<- getElem?_toList,getElem?_map,hpi];rfl) he fun h' x' k=>fin _ h' (by rw [c,getElem?_map,hpi];rfl) (.inr (.inr ⟨ps,x',?_,hp,c⟩)) k;obtain ⟨o,n,ho,hd⟩:=ht;exact ⟨o,n,k.extBut tu o nt ho,hd⟩
 done:=fun s Q E st hQ=>by
  have fin:∀ h',Heap.ExtBut it s.heap h'->Q none { s with heap:=h' }:=fun h' e=>hQ h' s.toks fun b o hb q=>e b o (fun z=>hb (by simp [z])) q;rcases st with ⟨a,⟨sl,b⟩,c⟩ | ⟨a,b,c,d,⟨sl,e,f⟩,g⟩ | ⟨ps,a,ht,hp,c⟩
  ·obtain ⟨oS,hoS,hx,hdS,hf⟩:=b.set;refine sit_end hh b (fun A E Q q=>next_text hoS hdS hf a ?_) fin;have z:(pickOrder (w.params.setOrder S ep) es)[its.length]?=none:=by
    rw [<- getElem?_toList,List.getElem?_eq_none_iff,c,length_map];exact Nat.le_refl _
   rw [z];exact q
  ·obtain ⟨oS,hoS,hx,hdS,hf⟩:=e.set;refine sit_end hh e (fun A E Q q=>next_led hoS hdS hf a b c ?_) fin;have z:es[its.length]?=none:=by
    rw [<- getElem?_toList,List.getElem?_eq_none_iff,g,length_map];exact Nat.le_refl _
   rw [f,z];exact q
  ·exact sit_tend hh ne a ht (by rw [<- getElem?_toList,List.getElem?_eq_none_iff,c,length_map,length_map];exact Nat.le_refl _) fin
 self:=fun i s Q E st hQ=>by
  have hT:s.TypeIs (.ref it) "set_iterator":=by
   rcases st with ⟨a,⟨sl,b⟩,c⟩ | ⟨a,b,c,d,⟨sl,e,f⟩,g⟩ | ⟨ps,a,ht,hp,c⟩
   ·obtain ⟨o,ho,hc,_⟩:=b.its;exact ⟨o,ho,hc⟩
   ·obtain ⟨o,ho,hc,_⟩:=e.its;exact ⟨o,ho,hc⟩
   ·obtain ⟨o,ho,hc,_⟩:=a.its;exact ⟨o,ho,hc⟩
  refine wpAny_pyIter_slot hT sit_slotI (wpAny_call_entry sit_slotI hT sit_entryI ?_ (sit_argsI _));exact wpAny_pure ⟨_,rfl,"set_iterator",_,hT,sit_slot.lookup,hQ⟩
theorem iter_set {S:Addr} {oS:Obj} {es:Array (Int × Value)} {ep:Nat} {t:SetTable} {Q:Value->Shared->Prop} (hoS:s.heap.get? S=some oS) (hx:oS.ExactSet) (hdS:oS.data=.set es ep t) (hf:t.fits es.size=true) (ok:TabOk t)
  (hl:t.led=!(w.params.followText "set-order")) (hz:es.size<=sizeLine)
  (hQ:∀ it tu its h' d,its.Perm (es.toList.map (·.2))->SitM w it S tu es ep t its 0 h'->(∀ b o,s.heap.get? b=some o->h'.get? b=some o)->s.heap.objs.size<=it->tu≠it->S≠it->(tu=S\/s.heap.objs.size<=tu)->Q (.ref it) { s with heap:=h',drawn:=d }) :
  wpAny (model prog w) A (pyIter (.ref S)) Q E s:=by
 have hT:s.TypeIs (.ref S) "set":=⟨oS,hoS,hx.1⟩;have lt:S < s.heap.objs.size:=lt_size hoS;have hp:t.place.size=es.size:=by
  have q:=hf;unfold SetTable.fits at q;rw [Bool.and_eq_true,beq_iff_eq] at q;exact q.1
 refine wpAny_pyIter_slot hT PySem.F.slot_set_iter (wpAny_call_entry PySem.F.slot_set_iter hT J45 ?_ (PySem.F.args_set_iter_1 _));unfold Builtin.«frozenset.__iter__» Builtin.Frozenset.slot0 Builtin.Frozenset.sizeOf;refine wpAny_bind (wpAny_bind (wpAny_pure (wpAny_pure (wpAny_bind (wpAny_bind (wpAny_setEntries_of hoS hdS hf (wpAny_pure ?_)))))));refine wpAny_bind ?_;unfold setDrawn;refine wpAny_bind (wpAny_setState_of hoS hdS hf (wpAny_bind (by_text (wpAny_pure ?_))));have tail:∀ (first:Value) (s1:Shared),s1.heap.get? S=some oS->(∀ h' it,h'=s1.heap.push { cls:=.type "set_iterator",data:=sitObj first 0 S es.size ep }->it=s1.heap.objs.size->SitAt h' it S es ep t first 0->Q (.ref it) { s1 with heap:=h' })->
   wpAny (model prog w) A.in1 (setEpoch S >>= fun e=>newFields "set_iterator" [first,rawInt 0,.ref S,rawInt es.size,rawInt e] >>= fun v=>(ret v:Sem PySem.Fin)) (fun fin s'=>∃ v,fin=Fin.done (Flow.ret v)/\∃ T' r,s'.TypeIs v T'/\typeLookup (Value.type T') (Str.ofString "__next__")=pure (some r)/\Q v s') E s1:=fun first s1 h1 k=>by
  refine wpAny_bind (wpAny_bind (wpAny_setState_of h1 hdS hf (wpAny_pure ?_)));unfold newFields;refine wpAny_bind (wpAny_newObj_type ?_ (by size_fits));have g:(s1.heap.push { cls:=.type "set_iterator",data:=sitObj first 0 S es.size ep }).get? s1.heap.objs.size=some { cls:=.type "set_iterator",data:=sitObj first 0 S es.size ep }:=get?_push_size _ rfl;exact wpAny_pure ⟨_,rfl,"set_iterator",_,⟨_,g,rfl⟩,sit_slot.lookup,k _ _ rfl rfl ⟨⟨_,g,rfl,rfl⟩,oS,get?_push_of_some _ h1,hx,hdS,hf⟩⟩
 cases bt:w.params.followText "set-order" with
 | true =>
  dsimp only;rw [if_neg (by simp)];refine wpAny_bind (wpAny_pure (tail _ s hoS fun h' it e1 e2 x=>?_));subst e1;subst e2;exact hQ _ S _ _ s.drawn ((J4j _ es).map _) (.inl ⟨bt,⟨0,x⟩,rfl⟩) (fun b o e=>get?_push_of_some _ e) (Nat.le_refl _) (Nat.ne_of_lt lt) (Nat.ne_of_lt lt) (.inl rfl)
 | false =>
  dsimp only;by_cases c:(!t.plain && decide (es.size > 1))=true
  ·refine wpAny_ite_split (fun _=>?_) (fun q=>absurd (show (!false && (!t.plain && decide (es.size > 1)))=true by rw [c];rfl) q);refine wpAny_bind (draw_any es.size (List.range es.size) (by rw [length_range];exact Nat.le_refl _) fun ps d hps=>?_);have lps:ps.length=es.size:=by rw [hps.length_eq,length_range]
   refine wpAny_bind (wpAny_newTuple ?_ (by rw [length_map,lps];exact hz));obtain ⟨oT,hoT⟩:∃ oT:Obj,oT={ cls:=.type "tuple",data:=.seq (ps.map fun i:Nat=>rawInt i).toArray }:=⟨_,rfl⟩;have gT:(s.heap.push oT).get? s.heap.objs.size=some oT:=get?_push_size _ (by rw [hoT];rfl);rw [<- hoT];refine tail _ { s with heap:=s.heap.push oT,drawn:=d } (get?_push_of_some _ hoS) fun h' it e1 e2 x=>?_;subst e1;subst e2;have z:(s.heap.push oT).objs.size=s.heap.objs.size + 1:=size_push _ _;refine hQ _ s.heap.objs.size _ _ d ?_ (.inr (.inr ⟨ps,x,⟨oT,0,get?_push_of_some _ gT,by rw [hoT];rfl⟩,fun p q=>mem_range.mp (hps.mem_iff.mp q),rfl⟩)) (fun b o e=>get?_push_of_some _ (get?_push_of_some _ e)) (by show _<=(s.heap.push oT).objs.size;rw [z];exact Nat.le_succ _) (by show _≠(s.heap.push oT).objs.size;rw [z];exact Nat.ne_of_lt (Nat.lt_succ_self _)) (by show _≠(s.heap.push oT).objs.size;rw [z];exact Nat.ne_of_lt (Nat.lt_succ_of_lt lt)) (.inr (Nat.le_refl _));have e3:es.toList.map (·.2)=(List.range es.size).map fun p=>(es.getD p default).2:=by
    refine List.ext_getElem (by rw [length_map,length_map,length_range,length_toList]) fun i h1 h2=>?_;rw [List.getElem_map,List.getElem_map,List.getElem_range,Array.getElem_toList,Array.getD_eq_getD_getElem?,Array.getElem?_eq_getElem];rfl
   rw [e3];exact hps.map _
  ·refine wpAny_ite_split (fun q=>absurd (show (!t.plain && decide (es.size > 1))=true by have q2:(!false && (!t.plain && decide (es.size > 1)))=true:=q;simpa using q2) c) (fun _=>?_);have c2:(!t.plain && decide (es.size > 1))=false:=by rw [<- Bool.not_eq_true];exact c
   have ris:Ris t.place:=by
    cases pl:t.plain with
    | true=>exact ok.2 pl
    | false =>
     rw [pl] at c2;have h1:¬ es.size > 1:=fun q=>by rw [decide_eq_true q] at c2;cases c2
     unfold Ris;have h2:t.place.toList.length<=1:=by rw [length_toList];omega
     match t.place.toList,h2 with
     | [],_=>exact List.Pairwise.nil
     | [a],_=>exact List.pairwise_singleton ..
   refine wpAny_bind (wpAny_pure (tail _ s hoS fun h' it e1 e2 x=>?_));subst e1;subst e2;exact hQ _ S _ _ s.drawn (List.Perm.refl _) (.inr (.inl ⟨bt,c2,by rw [hl,bt];rfl,ris,⟨0,x,below_zero ris⟩,rfl⟩)) (fun b o e=>get?_push_of_some _ e) (Nat.le_refl _) (Nat.ne_of_lt lt) (Nat.ne_of_lt lt) (.inl rfl)
end
end L2
namespace L2
open PySem PySem.Spec PyProof.Rows Rl
section
variable {prog:Program} {w:World} {A:Around} {E:Value->Shared->Prop} {s:Shared}
theorem hint_set {r:Addr} {Q:Bool->Shared->Prop} (hT:s.TypeIs (.ref r) "set") (h:Q false s):wpAny (model prog w) A (Builtin.List.listLengthHint (.ref r)) Q E s:=by
 unfold Builtin.List.listLengthHint;refine wpAny_bind (wpAny_specialOf hT PySem.F.slot_set_len.lookup ?_);generalize hid:("set.__len__":String)=id0
 wp_delta
 rw [show splitId id0=some ("set","__len__") from by subst hid;decide +kernel];subst hid;refine wpAny_bind (wpAny_isInstance (T:="set") (b:=true) hT sub_set_self (wpAny_ite_split (fun z=>absurd z (by decide)) (fun _=>wpAny_ite_split (fun _=>?_) (fun z=>absurd (by decide +kernel) z))));exact wpAny_bind (wpAny_typeOf hT (wpAny_pure h))
def numV:Value->Int
 | .int k _=>k
 | _=>0
theorem ints_num:∀ {vs:List Value},(∀ v∈vs,∃ k t,v=.int k t)->IntsAre vs (vs.map numV)
 | [],_=>.nil
 | v :: vs,h=>by
  obtain ⟨k,t,rfl⟩:=h v (mem_cons_self ..);exact .cons k t (ints_num fun u hu=>h u (mem_cons_of_mem _ hu))
theorem collect_set {S:Addr} {D:List Int} {Q:List Value->Shared->Prop} (hh:A.handled=none) (x:SetT prog w s.heap S D (!(w.params.followText "set-order")))
  (h:∀ vs ns h' d tk,IntsAre vs ns->ns.Perm D->(∀ b o,s.heap.get? b=some o->h'.get? b=some o)->s.heap.objs.size<=h'.objs.size->Q vs { s with heap:=h',drawn:=d,toks:=tk }) :
  wpAny (model prog w) A (collect (.ref S)) Q E s:=by
 obtain ⟨o,es,ep,t,ho,hx,hd,hel,hp,hb,hf,ok,hl⟩:=x;have hT:s.TypeIs (.ref S) "set":=⟨o,ho,hx.1⟩;have lt:S < s.heap.objs.size:=lt_size ho;unfold collect;refine wpAny_bind (wpAny_runValue (codeAny_builtin entry_proto_collect' ?_));show wpAny _ _ (do again (.builtin "list.__iadd__" ⟨[<- newList [],.ref S],[]⟩)) _ _ s;refine wpAny_bind (wpAny_newList (wpAny_pure ⟨Code.quiet_builtin _ (by decide +kernel),codeAny_builtin entry_list_iadd' ?_⟩));show wpAny _ _ (Builtin.List.listExtendWith (.ref s.heap.objs.size) (.ref S) (.ref s.heap.objs.size)) _ _ { s with heap:=s.heap.push (seqObj "list" #[] 0) };unfold Builtin.List.listExtendWith;have ho':(s.heap.push (seqObj "list" #[] 0)).get? S=some o:=get?_push_of_some _ ho;have gL:(s.heap.push (seqObj "list" #[] 0)).get? s.heap.objs.size=some (seqObj "list" #[] 0):=get?_push_size _ rfl;refine wpAny_bind (wpAny_typeOf (T:="set") ⟨o,ho',hx.1⟩ ?_);have hs:Builtin.List.listSameRef (.ref s.heap.objs.size) (.ref S)=false:=by
  show (s.heap.objs.size == S)=false;rw [beq_eq_false_iff_ne];exact Nat.ne_of_gt lt
 rw [if_neg (by rw [hs];decide)];refine wpAny_bind (iter_set ho' hx hd hf ok hl (fits_of_scanBound hb) fun it tu its h1 d hi M kp i1 nt ni tt=>?_);have z:(s.heap.push (seqObj "list" #[] 0)).objs.size=s.heap.objs.size + 1:=size_push _ _;have o1:=kp _ _ ho';have l1:=kp _ _ gL;refine wpAny_bind (wpAny_holding (hint_set ⟨o,o1,hx.1⟩ ?_));have iT:∀ v∈its,∃ k t,v=.int k t:=fun v hv=>by
  obtain ⟨e,he,rfl⟩:=mem_map.mp (hi.mem_iff.mp hv);obtain ⟨⟨k,hk,_⟩,_⟩:=hel e he;obtain ⟨t,q⟩:=Value.isInt_shape hk;exact ⟨k,t,q⟩
 have pD:(its.map numV).Perm D:=by
  refine (hi.map numV).trans ?_;rw [map_map];refine (List.Perm.of_eq (map_congr_left fun e he=>?_)).trans hp;obtain ⟨⟨k,hk,_⟩,_⟩:=hel e he;obtain ⟨t,q⟩:=Value.isInt_shape hk;show numV e.2=numE e;unfold numE;rw [q];rfl
 have nI:s.heap.objs.size≠it:=fun e=>by
  rw [z] at i1;rw [<- e] at i1;exact absurd i1 (Nat.not_le.mpr (Nat.lt_succ_self _))
 have nT:s.heap.objs.size≠tu:=fun e=>by
  rcases tt with q | q
  ·exact absurd (e.trans q) (Nat.ne_of_gt lt)
  ·rw [z,<- e] at q;exact absurd q (Nat.not_le.mpr (Nat.lt_succ_self _))
 have nF:s.heap.objs.size ∉ [it,S,tu]:=fun q=>by
  rcases mem_cons.mp q with e | q
  ·exact nI e
  rcases mem_cons.mp q with e | q
  ·exact absurd e (Nat.ne_of_gt lt)
  ·exact nT (mem_singleton.mp q)
 have hn:its.length<=sizeLine:=by rw [hi.length_eq,length_map,length_toList];exact fits_of_scanBound hb
 have key:∀ (h2:Heap) (c:Nat),(∀ b o,b≠s.heap.objs.size->h1.get? b=some o->h2.get? b=some o)->h2.get? s.heap.objs.size=some { cls:=.type "list",dict:=none,data:=.seq #[] c,slots:=#[] }->
   codeAny (model prog w) A (.builtin "list.extend.loop" ⟨[.ref s.heap.objs.size,.ref it,.ref s.heap.objs.size],[]⟩) (fun r s'=>match r with
    | .ok (.ret v)=>wpAny (model prog w) A (match v with
     | .ref a=>do match (<- load a).data with
      | .seq xs _=>pure xs.toList
      | _=>unsupported "internal:collect"
     | _=>unsupported "internal:collect") Q E s'
    | .ok _=>False
    | .error e=>E e s') { s with heap:=h2,drawn:=d }:=fun h2 c k2 g2=>by
  have W:=walk_set (prog:=prog) (w:=w) (A:=A.in1) hh it S tu ni nt es ep t its;refine codeAny_extend_loopS W.toS hn s.heap.objs.size nF _ its.length 0 _ #[] c rfl (Nat.zero_le _) (M.at fun b hb o e=>k2 b o (fun q=>nF (q ▸ hb)) e) g2 (ItemsOf.nil _) fun s' acc c' m gA hA=>?_;have eq:=Moved.eq_with m;have eA:acc.toList=its:=by
   refine List.ext_getElem? fun i=>?_;rw [getElem?_toList]
   cases q:acc[i]? with
   | some v=>exact (hA.2 i v q).symm
   | none =>
    have:=Array.getElem?_eq_none_iff.mp q;rw [hA.1] at this;exact (List.getElem?_eq_none_iff.mpr this).symm
  refine wpAny_bind (wpAny_load gA (wpAny_pure ?_));rw [eA,eq];refine h its _ s'.heap d s'.toks (ints_num iT) pD (fun b o e=>m.heap b o (fun q=>?_) (k2 b o (Nat.ne_of_lt (lt_size e)) (kp b o (get?_push_of_some _ e)))) (Nat.le_of_lt (lt_size gA));rcases mem_cons.mp q with e2 | q
  ·exact absurd e2 (Nat.ne_of_lt (lt_size e))
  ·have e2:=mem_singleton.mp q;rw [z,<- e2] at i1;exact absurd (lt_size e) (Nat.not_lt.mpr (Nat.le_of_lt i1))
 dsimp only;refine wpAny_ite_split (fun _=>?_) (fun _=>wpAny_pure ⟨plainId_quiet PySem.F.plain_extend_loop _,key _ 0 (fun b o _ e=>e) l1⟩);refine wpAny_bind (wpAny_rule (wpAny_bind ?_));unfold Builtin.List.listTouch;refine wpAny_bind (listUpdate_at l1 rfl ?_);have l2:=get?_update_self (Obj.mapSeq (·.push Value.none)) l1 rfl;refine listUpdate_at l2 rfl ?_ (by seq_fits);have l3:=get?_update_self (Obj.mapSeq (·.pop)) l2 rfl;refine wpAny_pure ⟨plainId_quiet PySem.F.plain_extend_loop _,key _ _ (fun b o hb e=>?_) l3⟩;exact (get?_update_other _ _ (Ne.symm hb)).trans ((get?_update_other _ _ (Ne.symm hb)).trans e)
theorem sHeap_old {h:Heap} {a b:Addr} {vs:List Value} {out:Array Value} {o:Obj} (ne:b≠a) (e:h.get? b=some o):(sortedHeap h a vs out).get? b=some o:=by
 unfold sortedHeap;rw [get?_update_other _ _ (Ne.symm ne)];exact get?_push_of_some _ (get?_push_of_some _ ((get?_update_other _ _ (Ne.symm ne)).trans e))
theorem sHeap_at {h:Heap} {a:Addr} {vs:List Value} {out:Array Value} {xs:Array Value} {n:Nat} (e:h.get? a=some (seqObj "list" xs n)):∃ k,(sortedHeap h a vs out).get? a=some (seqObj "list" out k) :=
 ⟨_,get?_update_seq (get?_push_of_some _ (get?_push_of_some _ (get?_update_seq e (fun _=>#[])))) (fun _=>out)⟩
theorem sorted_set {S:Addr} {D:List Int} {Q:Value->Shared->Prop} (hh:A.handled=none) (x:SetT prog w s.heap S D (!(w.params.followText "set-order"))) (h64:D.length < 64)
  (h:∀ (a:Addr) (out:Array Value) (ns':List Int) (k:Nat) h' d tk,IntsAre out.toList ns'->ns'.Perm D->ns'.Pairwise (·<=·)->(∀ b o,s.heap.get? b=some o->h'.get? b=some o)->s.heap.objs.size<=a->h'.get? a=some (seqObj "list" out k)->Q (.ref a) { s with heap:=h',drawn:=d,toks:=tk }) :
  wpAny (model prog w) A (call (.builtin "sorted") [.ref S]) Q E s:=by
 refine Calls.call_function_entry kind_sorted plain_sorted entry_sorted (args_sorted1 _) ?_;unfold Builtin.«sorted»;refine wpAny_bind (m:=checkCount "sorted" 1 1 _) (wpAny_pure (wpAny_bind (collect_set hh x fun vs ns h1 d tk iv pn kp le=>?_)));have lv:vs.length < 64:=by rw [IntsAre.length iv,pn.length_eq];exact h64
 refine wpAny_bind (wpAny_newList ?_ (Nat.le_of_lt (Nat.lt_of_lt_of_le lv (by rw [sizeLine_eq];decide))));have gL:(h1.push (seqObj "list" vs.toArray 0)).get? h1.objs.size=some (seqObj "list" vs.toArray 0):=get?_push_size _ rfl;refine wpAny_bind (wpAny_holding (wpAny_call_entry slot_list_sort ⟨_,gL,rfl⟩ entry_list_sort (list_sort_tree gL iv lv fun out ns' a1 a2 a3=>⟨_,rfl,?_⟩) (args_list_sort _)));obtain ⟨k,gk⟩:=sHeap_at (vs:=vs) (out:=out) gL;exact wpAny_pure ⟨_,rfl,h _ out ns' k _ d tk a1 (a2.trans pn) a3 (fun b o e=>sHeap_old (Nat.ne_of_lt (Nat.lt_of_lt_of_le (lt_size e) le)) (get?_push_of_some _ (kp b o e))) le gk⟩
end
theorem met_mem (val:Nat->Int):∀ n,(firstMet val n).Nodup/\∀ x,x∈firstMet val n↔∃ i,i < n/\val i=x
 | 0=>⟨by rw [firstMet_zero];exact List.nodup_nil,fun x=>by rw [firstMet_zero];exact ⟨fun h=>(nomatch h),fun ⟨i,h,_⟩=>absurd h (Nat.not_lt_zero _)⟩⟩
 | n + 1=>by
  obtain ⟨h1,h2⟩:=met_mem val n;have up:∀ x,(∃ i,i < n + 1/\val i=x)↔(∃ i,i < n/\val i=x)\/val n=x:=fun x=>by
   constructor
   ·rintro ⟨i,hi,e⟩;by_cases c:i=n
    ·subst c;exact .inr e
    ·exact .inl ⟨i,by omega,e⟩
   ·rintro (⟨i,hi,e⟩ | e)
    ·exact ⟨i,by omega,e⟩
    ·exact ⟨n,by omega,e⟩
  rw [firstMet_succ];unfold step_dedup;by_cases c:val n∈firstMet val n
  ·have z:((firstMet val n).any fun x=>x == val n)=true:=by rw [any_eq_true];exact ⟨_,c,by simp⟩
   rw [if_pos z];refine ⟨h1,fun x=>?_⟩;rw [up,<- h2];exact ⟨.inl,fun q=>q.elim id fun e=>e ▸ c⟩
  ·have z:¬ ((firstMet val n).any fun x=>x == val n)=true:=fun q=>by
    rw [any_eq_true] at q;obtain ⟨x,m,e⟩:=q;rw [beq_iff_eq] at e;exact c (e ▸ m)
   rw [if_neg z];refine ⟨nodup_append.mpr ⟨h1,nodup_cons.mpr ⟨fun h=>(nomatch h),List.nodup_nil⟩,fun a ha b hb e=>c (by rw [<- mem_singleton.mp hb,<- e];exact ha)⟩,fun x=>?_⟩;rw [up,<- h2,mem_append,mem_singleton];exact ⟨fun q=>q.elim .inl fun e=>.inr e.symm,fun q=>q.elim .inl fun e=>.inr e.symm⟩
theorem met_list (ns:List Int) (x:Int):x∈firstMet (fun i=>ns.getD i 0) ns.length↔x∈ns:=by
 rw [(met_mem _ _).2];constructor
 ·rintro ⟨i,hi,rfl⟩;show ns.getD i 0∈ns;rw [getD_eq_getElem?_getD,List.getElem?_eq_getElem hi];exact List.getElem_mem hi
 ·intro h;obtain ⟨i,hi,e⟩:=List.mem_iff_getElem.mp h;refine ⟨i,hi,?_⟩;show ns.getD i 0=x;rw [getD_eq_getElem?_getD,List.getElem?_eq_getElem hi];exact e
theorem lt_of_nd:∀ {l:List Int},l.Pairwise (·<=·)->l.Nodup->l.Pairwise (· < ·):=fun {l} h1 h2=>(h1.and h2).imp fun ⟨a,b⟩=>by omega
section
variable {X:Cx} {e:Expr} {t:TA} {p p2 pos pos2:Pos}
theorem Inv.drawn {pins:List (Addr × Obj)} {σ:St} {H:Hp} {s:Shared} (I:Inv X pins σ H s) (d:Drawn):Inv X pins σ H { s with drawn:=d } :=
 I.step (g':=s.gens) (d':=d) (t':=s.toks) (ch:=[]) (h':=s.heap) (fun _ z=>nomatch z) (fun b o _ _ _ e _=>e) (fun b o _ _ _ e _=>⟨o.slots,e⟩) (fun _ _ _ _ n=>n) (fun b o _ e=>⟨o,e⟩) (fun _ _ h=>h) (fun _ _ _ h=>h) (fun b ps h=>⟨#[],by rw [Array.append_empty];exact h⟩) (fun _ h=>h) I.hok I.bare
def tSSet (t:TA):TE:=fun σ H Q=>t σ H fun vs H1=>∃ (q:Addr) (ns:List Int),vs=[.ref q]/\SqL X.K H1 q (ns.map V.int)/\ns.length < 64/\∀ l (ns':List Int),H1 l=none->ns'.Pairwise (· < ·)->(∀ x,x∈ns'↔x∈ns)->Q (.ref l) (upd H1 l (.lst (ns'.map V.int)))
theorem pe_sset (hc:X.calm=true) (hg:Gl X "sorted") (hm:X.mg "sorted"=none) (hg2:Gl X "set") (hm2:X.mg "set"=none) (ha:PA X [e] t)
  (he:starEach [e] X.env=[(false,eval e X.env)]:=by rfl)
  (he':starEach [Expr.Call (.Name "set" p2) [e] [] pos2] X.env=[(false,eval (Expr.Call (.Name "set" p2) [e] [] pos2) X.env)]:=by rfl) :
  PE X (.Call (.Name "sorted" p) [.Call (.Name "set" p2) [e] [] pos2] [] pos) (tSSet (X:=X) t):=by
 intro pins s σ H Q I h;refine wpAny_Call_Name_kw (J5i I hg hm boot_sorted ?_ (by decide) (by decide));refine callWith_builtin1 (rest:=[]) ?_ (by rw [he'];rfl) rfl;rw [he'];show wpAny _ _ (spliced [(false,eval (Expr.Call (.Name "set" p2) [e] [] pos2) X.env)]) _ _ s;refine Calls.spliced_cons ?_;refine wpAny_Call_Name_kw (J5i I hg2 hm2 PyProof.Rows.boot_set ?_ (by decide) (by decide));refine callWith_type1 (thn (ha pos2 pins s σ H _ I h) fun us s1 h9=>?_) (by rw [he];rfl) rfl;obtain ⟨vs,H1,I1,r1,q,ns,e1,hq,h64,kc⟩:=h9;subst e1;obtain ⟨u,rfl,rx⟩:=vals1 r1;cases rx;obtain ⟨its,r',pl,hz⟩:=I1.list hq;have iv:IntsAre its ns:=Js r';have lD:=firstMet_length_le (fun i=>ns.getD i 0) ns.length;refine call_set_t (I1.ok.hd hc) pl.isList iv (by unfold scanBound;omega) fun h' tk S1 kp=>?_;have le1:s1.heap.objs.size < h'.objs.size:=by
  obtain ⟨o,_,_,_,ho,_⟩:=S1;exact lt_size ho
 refine Calls.spliced_nil ?_;refine sorted_set (s:={ s1 with heap:=h',toks:=tk }) (I1.ok.hd hc) S1 (by omega) fun a out ns' k h2 d tk2 a1 a2 a3 k2 la ga=>?_;have kk:∀ b o,s1.heap.get? b=some o->h2.get? b=some o:=fun b o e=>k2 b o (kp b o (lt_size e) e);have le2:s1.heap.objs.size<=a:=Nat.le_trans (Nat.le_of_lt le1) la;have hz':(ns'.map V.int).length<=sizeLine:=by
  rw [length_map,a2.length_eq];exact Nat.le_of_lt (Jp (by omega))
 refine ⟨.ref a,_,(I1.drawn d).laid (t':=tk2) (a:=a) (o:=.lst (ns'.map V.int)) kk le2 ⟨hz',out.toList,k,J2z a1,ga⟩,rfl,kc _ ns' (I1.hok.fresh le2) (lt_of_nd a3 (a2.nodup_iff.mpr (met_mem _ _).1)) fun x=>?_⟩;rw [a2.mem_iff];exact met_list ns x
end
end L2
namespace Rl
def cellN (ns:List Int) (k:Nat):Int:=ns.getD k 0
def drawL (ns:List Int) (many:Nat) (top:Int):List Int:=(List.range many).map fun k=>1 + cellN ns (2 + k) % top
def insAt (xs:List Nat) (i y:Nat):List Nat:=xs.take i ++ y :: xs.drop i
def spotO (ns:List Int) (many k:Nat):Nat:=(cellN ns (2 + many + k) % ((k:Int) + 1)).toNat
def drawO (ns:List Int) (many:Nat):Nat->List Nat
 | 0=>[]
 | k + 1=>insAt (drawO ns many k) (spotO ns many k) k
theorem spotO_le (ns:List Int) (many k:Nat):spotO ns many k<=k/\((spotO ns many k:Nat):Int)=cellN ns (2 + many + k) % ((k:Int) + 1):=by
 unfold spotO;have h1:0<=cellN ns (2 + many + k) % ((k:Int) + 1):=Int.emod_nonneg _ (by omega);have h2:cellN ns (2 + many + k) % ((k:Int) + 1) < (k:Int) + 1:=Int.emod_lt_of_pos _ (by omega);omega
theorem insAt_perm (xs:List Nat) (i y:Nat):(insAt xs i y).Perm (y :: xs):=by
 unfold insAt;have h:(xs.take i ++ y :: xs.drop i).Perm (y :: (xs.take i ++ xs.drop i)):=perm_middle;rwa [take_append_drop] at h
theorem J3m (ns:List Int) (many:Nat):∀ k,(drawO ns many k).Perm (List.range k)
 | 0=>List.Perm.refl _
 | k + 1=>by
  have h1:=insAt_perm (drawO ns many k) (spotO ns many k) k;have h2:(k :: drawO ns many k).Perm (k :: List.range k):=(J3m ns many k).cons k;have h3:(k :: List.range k).Perm (List.range (k + 1)):=by
   rw [range_succ];exact (perm_append_singleton k (List.range k)).symm
  exact h1.trans (h2.trans h3)
theorem drawO_len (ns:List Int) (many k:Nat):(drawO ns many k).length=k:=by
 rw [(J3m ns many k).length_eq,length_range]
theorem drawL_len (ns:List Int) (many:Nat) (top:Int):(drawL ns many top).length=many:=by simp [drawL]
theorem drawL_mem {ns:List Int} {many:Nat} {top:Int} (ht:0 < top):∀ a∈drawL ns many top,1<=a/\a<=top:=fun a h=>by
 obtain ⟨k,_,rfl⟩:=mem_map.mp h;have h1:=Int.emod_nonneg (cellN ns (2 + k)) (Int.ne_of_gt ht);have h2:=Int.emod_lt_of_pos (cellN ns (2 + k)) ht;omega
theorem sum_le {b:Int}:∀ (xs:List Int),(∀ a∈xs,a<=b)->xs.sum<=(xs.length:Int) * b
 | [],_=>by simp
 | x :: xs,h=>by
  have h1:=h x mem_cons_self;have h2:=sum_le xs fun a ha=>h a (mem_cons_of_mem _ ha);rw [sum_cons,length_cons];have e:(((xs.length + 1:Nat):Int)) * b=(xs.length:Int) * b + b:=by
   rw [Int.natCast_add,Int.add_mul];simp
  omega
theorem mul_top {n:Nat} {b:Int} (hn:n<=24) (hb:0<=b):(n:Int) * b<=24 * b:=Int.mul_le_mul_of_nonneg_right (by omega) hb
def sumsF (ls:List Int) (os:List Nat):Nat->List Int × Int
 | 0=>(List.replicate ls.length 0,0)
 | i + 1=>((sumsF ls os i).1.set (os.getD i 0) (sumsF ls os i).2,(sumsF ls os i).2 + ls.getD (os.getD i 0) 0)
theorem sumsF_len (ls:List Int) (os:List Nat):∀ i,(sumsF ls os i).1.length=ls.length
 | 0=>by simp [sumsF]
 | i + 1=>by
  show ((sumsF ls os i).1.set _ _).length=_;rw [length_set];exact sumsF_len ls os i
def firsts (ls:List Int) (os:List Nat):List Int:=(sumsF ls os os.length).1
theorem J3s:∀ {xs ys:List Int},xs.Perm ys->xs.Pairwise (·<=·)->ys.Pairwise (·<=·)->xs=ys
 | [],ys,h,_,_=>(List.Perm.nil_eq h)
 | x :: xs,[],h,_,_=>absurd h.length_eq (by simp)
 | x :: xs,y :: ys,h,hx,hy=>by
  have hx':=List.pairwise_cons.mp hx;have hy':=List.pairwise_cons.mp hy;have m1:x∈y :: ys:=h.mem_iff.mp mem_cons_self;have m2:y∈x :: xs:=h.mem_iff.mpr mem_cons_self;have e:x=y:=by
   rcases mem_cons.mp m1 with e | m1
   ·exact e
   ·rcases mem_cons.mp m2 with e | m2
    ·exact e.symm
    ·have a:=hx'.1 y m2;have b:=hy'.1 x m1;omega
  subst e;rw [J3s h.cons_inv hx'.2 hy'.2]
def natI (os:List Nat):List Int:=os.map fun (n:Nat)=>(n:Int)
theorem J62 (n:Nat):(natI (List.range n)).Pairwise (·<=·):=by
 unfold natI;rw [pairwise_map];exact List.pairwise_lt_range.imp fun h=>by omega
theorem J3b {os:List Nat} {n:Nat} {ns':List Int} (hp:os.Perm (List.range n)) (h1:ns'.Perm (natI os)) (h2:ns'.Pairwise (·<=·)):ns'=natI (List.range n) :=
 J3s (h1.trans (hp.map _)) h2 (J62 n)
end Rl
namespace Rl
theorem getD_memN {os:List Nat} {i:Nat} (h:i < os.length):os.getD i 0∈os:=by
 rw [getD_eq_getElem?_getD,List.getElem?_eq_getElem h];exact List.getElem_mem h
theorem getD_memI {ls:List Int} {i:Nat} (h:i < ls.length):ls.getD i 0∈ls:=by
 rw [getD_eq_getElem?_getD,List.getElem?_eq_getElem h];exact List.getElem_mem h
theorem set_get (f:List Int) (p q:Nat) (v:Int) (hp:p < f.length):(f.set p v).getD q 0=if q=p then v else f.getD q 0:=by
 rw [getD_eq_getElem?_getD,getD_eq_getElem?_getD];by_cases e:q=p
 ·subst e;rw [List.getElem?_set_self hp,if_pos rfl];rfl
 ·rw [getElem?_set_ne (Ne.symm e),if_neg e]
theorem J4q (ls:List Int):(List.range ls.length).map (fun j=>ls.getD j 0)=ls:=by
 apply List.ext_getElem?;intro k;rw [getElem?_map];by_cases hk:k < ls.length
 ·rw [getElem?_range hk,List.getElem?_eq_getElem hk];show some (ls.getD k 0)=_;rw [getD_eq_getElem?_getD,List.getElem?_eq_getElem hk];rfl
 ·rw [getElem?_eq_none (by simpa using hk),getElem?_eq_none (by lia)];rfl
theorem perm_sum {xs ys:List Int} (h:xs.Perm ys):xs.sum=ys.sum:=by
 induction h with
 | nil=>rfl
 | cons x _ ih=>rw [sum_cons,sum_cons,ih]
 | swap x y l=>rw [sum_cons,sum_cons,sum_cons,sum_cons];lia
 | trans _ _ a b=>exact a.trans b
end Rl
namespace Rl
def lenOf (ls:List Int) (row:List Nat):Int:=(row.map fun j=>ls.getD j 0).sum
theorem J1h (ls:List Int):lenOf ls []=0:=rfl
theorem Jg (ls:List Int) (j:Nat) (os:List Nat):lenOf ls (j :: os)=ls.getD j 0 + lenOf ls os:=by
 unfold lenOf;rw [map_cons,sum_cons]
theorem J1r (ls:List Int) (xs ys:List Nat):lenOf ls (xs ++ ys)=lenOf ls xs + lenOf ls ys:=by
 unfold lenOf;rw [map_append,List.sum_append]
theorem J1c {ls:List Int} {xs ys:List Nat} (h:xs.Perm ys):lenOf ls xs=lenOf ls ys:=perm_sum (h.map _)
theorem Ju {ls:List Int} {os:List Nat} (h:∀ j∈os,0<=ls.getD j 0):0<=lenOf ls os:=by
 induction os with
 | nil=>exact Int.le_refl _
 | cons a r ih =>
  rw [Jg];have:=h a mem_cons_self;have:=ih fun j hj=>h j (mem_cons_of_mem _ hj);lia
theorem J4r {ls:List Int} {os:List Nat} (h:∀ j∈os,1<=ls.getD j 0) (hn:os≠[]):1<=lenOf ls os:=by
 cases os with
 | nil=>exact absurd rfl hn
 | cons a r =>
  rw [Jg];have:=h a mem_cons_self;have:=Ju (ls:=ls) (os:=r) fun j hj=>by have:=h j (mem_cons_of_mem _ hj);lia
  lia
theorem lenOf_mem {ls:List Int} {os:List Nat} (h:∀ j∈os,0<=ls.getD j 0) {j:Nat} (hj:j∈os):ls.getD j 0<=lenOf ls os:=by
 induction os with
 | nil=>cases hj
 | cons a r ih =>
  rw [Jg];have h1:=h a mem_cons_self;have h2:=Ju (ls:=ls) (os:=r) fun j hj=>h j (mem_cons_of_mem _ hj);rcases mem_cons.mp hj with rfl | hj
  ·lia
  ·have:=ih (fun j hj=>h j (mem_cons_of_mem _ hj)) hj;lia
structure Row (ls:List Int) (os:List Nat):Prop where
 nd:os.Nodup
 lt:∀ j∈os,j < ls.length
 pos:∀ j∈os,1<=ls.getD j 0
structure Rst where
 top:List Nat
 bot:List Nat
 ls:List Int
 ts:List Bool
structure Rst.Ok (r:Rst):Prop where
 row:Row r.ls r.top
 perm:r.bot.Perm r.top
 zl:∀ j,j ∉ r.top->r.ls.getD j 0=0
 zt:∀ j,j ∉ r.top->r.ts.getD j false=false
 len:r.ts.length=r.ls.length
 few:r.ls.length<=24
def Rst.size (r:Rst):Int:=lenOf r.ls r.top
theorem Rst.Ok.rowB {r:Rst} (h:r.Ok):Row r.ls r.bot:=⟨h.perm.nodup_iff.mpr h.row.nd,fun j hj=>h.row.lt j (h.perm.mem_iff.mp hj),fun j hj=>h.row.pos j (h.perm.mem_iff.mp hj)⟩
theorem Rst.Ok.sizeB {r:Rst} (h:r.Ok):lenOf r.ls r.bot=r.size:=J1c h.perm
theorem whole_ok {ls:List Int} {os:List Nat} {ts:List Bool} (hp:os.Perm (List.range ls.length)) (pos:∀ a∈ls,1<=a) (hts:ts.length=ls.length) (few:ls.length<=24):(Rst.mk (List.range ls.length) os ls ts).Ok where
 row:=⟨nodup_range,fun j hj=>mem_range.mp hj,fun j hj=>pos _ (getD_memI (mem_range.mp hj))⟩
 perm:=hp
 zl:=fun j hj=>by
  have hj:¬ j < ls.length:=fun q=>hj (mem_range.mpr q);show ls.getD j 0=0;rw [getD_eq_getElem?_getD,getElem?_eq_none (by lia)];rfl
 zt:=fun j hj=>by
  have hj:¬ j < ls.length:=fun q=>hj (mem_range.mpr q);show ts.getD j false=false;rw [getD_eq_getElem?_getD,getElem?_eq_none (by lia)];rfl
 len:=hts
 few:=few
end Rl
namespace Rl
end Rl
namespace Rl
def J3 (row:List Nat) (a:Nat):List Nat:=row.drop (row.idxOf a + 1)
def withoutR (row:List Nat) (x:Nat):List Nat:=row.filter fun j=>decide (j≠x)
def putR (row:List Nat) (w l:Nat) (ahead:Bool):List Nat :=
 (withoutR row l).take (if ahead=true then (withoutR row l).idxOf w else (withoutR row l).idxOf w + 1) ++ [l] ++ (withoutR row l).drop (if ahead=true then (withoutR row l).idxOf w else (withoutR row l).idxOf w + 1)
theorem mem_without {row:List Nat} {x j:Nat}:j∈withoutR row x↔j∈row/\j≠x:=by
 unfold withoutR;rw [mem_filter,decide_eq_true_iff]
theorem J1x {row:List Nat} (h:row.Nodup) (x:Nat):(withoutR row x).Nodup:=h.filter _
theorem J25 {row:List Nat} (h:row.Nodup) {x:Nat} (hx:x∈row):(withoutR row x).length + 1=row.length:=by
 induction row with
 | nil=>cases hx
 | cons a r ih =>
  obtain ⟨h1,h2⟩:=nodup_cons.mp h;unfold withoutR;rw [filter_cons];by_cases e:a=x
  ·subst e;have:r.filter (fun j=>decide (j≠a))=r:=List.filter_eq_self.mpr fun j hj=>decide_eq_true (fun q=>h1 (q ▸ hj));rw [if_neg (by simp),this];rfl
  ·rw [if_pos (by simpa using e)];have hx':x∈r:=(mem_cons.mp hx).resolve_left (fun q=>e q.symm);have:=ih h2 hx';unfold withoutR at this;simp only [length_cons];omega
theorem J1o {row:List Nat} (h:row.Nodup) {x:Nat} (hx:x∈row):(x :: withoutR row x).Perm row:=by
 refine (perm_ext_iff_of_nodup (nodup_cons.mpr ⟨fun q=>(mem_without.mp q).2 rfl,J1x h x⟩) h).mpr fun j=>?_;rw [mem_cons,mem_without];constructor
 ·rintro (rfl | q)
  ·exact hx
  ·exact q.1
 ·intro q;by_cases e:j=x
  ·exact .inl e
  ·exact .inr ⟨q,e⟩
theorem J1v {row:List Nat} (h:row.Nodup) {w l:Nat} (hl:l∈row) (ahead:Bool):(putR row w l ahead).Perm row:=by
 unfold putR;generalize (if ahead=true then (withoutR row l).idxOf w else (withoutR row l).idxOf w + 1)=n;refine List.Perm.trans ?_ (J1o h hl);have e:l :: withoutR row l=[l] ++ ((withoutR row l).take n ++ (withoutR row l).drop n):=by rw [take_append_drop];rfl
 rw [e,<- List.append_assoc];exact List.Perm.append_right _ List.perm_append_comm
theorem J2f {xs ys:List Nat} (h:xs.Perm ys) (x:Nat):(withoutR xs x).Perm (withoutR ys x):=h.filter _
theorem J12 (f:List Int) (p q:Nat) (v:Int) (hp:p < f.length):(f.set p v).getD q 0=if q=p then v else f.getD q 0:=set_get f p q v hp
theorem J2e (f:List Bool) (p q:Nat) (v:Bool) (hp:p < f.length):(f.set p v).getD q false=if q=p then v else f.getD q false:=by
 rw [getD_eq_getElem?_getD,getD_eq_getElem?_getD];by_cases e:q=p
 ·subst e;rw [List.getElem?_set_self hp,if_pos rfl];rfl
 ·rw [getElem?_set_ne (Ne.symm e),if_neg e]
inductive Stp where
 | home (a:Nat) | even (a b:Nat) | over (a b:Nat) | under (a b:Nat) | overs (a:Nat) (t:Int) | unders (a:Nat) (t:Int)
def Stp.winner:Stp->Nat
 | .home a=>a | .even a _=>a | .over a _=>a | .under a _=>a | .overs a _=>a | .unders a _=>a
def Stp.times:Stp->Int
 | .overs _ t=>t | .unders _ t=>t | _=>1
def Stp.losers (r:Rst):Stp->List Nat
 | .home _=>[] | .even _ b=>[b] | .over _ b=>[b] | .under _ b=>[b] | .overs a _=>J3 r.bot a | .unders a _=>J3 r.top a
def J1s (r:Rst) (w l:Nat):List Bool:=r.ts.set l (r.ts.getD w false != r.ts.getD l false)
def Stp.behind (r:Rst):Stp->Rst
 | .home a=>⟨withoutR r.top a,withoutR r.bot a,r.ls.set a 0,r.ts.set a false⟩
 | .even a b=>⟨withoutR r.top a,withoutR (putR r.bot a b false) a,r.ls.set a 0,(J1s r a b).set a false⟩
 | .over a b=>⟨r.top,putR r.bot a b (r.ts.getD a false),r.ls.set a (r.ls.getD a 0 - r.ls.getD b 0),J1s r a b⟩
 | .under a b=>⟨putR r.top a b (r.ts.getD a false),r.bot,r.ls.set a (r.ls.getD a 0 - r.ls.getD b 0),J1s r a b⟩
 | .overs a t=>⟨r.top,r.bot,r.ls.set a (r.ls.getD a 0 - t * lenOf r.ls (J3 r.bot a)),r.ts⟩
 | .unders a t=>⟨r.top,r.bot,r.ls.set a (r.ls.getD a 0 - t * lenOf r.ls (J3 r.top a)),r.ts⟩
def J11 (r:Rst) (a:Nat) (row:List Nat):Int:=if r.ts.getD a false=true then 0 else (r.ls.getD a 0 - 1) / lenOf r.ls (J3 row a)
abbrev lastT (r:Rst):Nat:=r.top.getD (r.top.length - 1) 0
abbrev lastB (r:Rst):Nat:=r.bot.getD (r.bot.length - 1) 0
def nextN (r:Rst):Stp :=
 if lastT r=lastB r then .home (lastT r)
 else if r.ls.getD (lastT r) 0=r.ls.getD (lastB r) 0 then .even (lastT r) (lastB r)
 else if r.ls.getD (lastB r) 0 < r.ls.getD (lastT r) 0 then
  (if 0 < J11 r (lastT r) r.bot then .overs (lastT r) (J11 r (lastT r) r.bot) else .over (lastT r) (lastB r))
 else (if 0 < J11 r (lastB r) r.top then .unders (lastB r) (J11 r (lastB r) r.top) else .under (lastB r) (lastT r))
theorem Rst.Ok.lens {r:Rst} (h:r.Ok):r.bot.length=r.top.length:=h.perm.length_eq
theorem Rst.Ok.mT {r:Rst} (h:r.Ok) (ne:r.top≠[]):lastT r∈r.top:=getD_memN (by have:=length_pos_iff.mpr ne;omega)
theorem Rst.Ok.mB {r:Rst} (h:r.Ok) (ne:r.top≠[]):lastB r∈r.top:=h.perm.mem_iff.mp (getD_memN (by have:=length_pos_iff.mpr ne;have:=h.lens;omega))
theorem Jn {row:List Nat} {n j:Nat} (h:j∈row.drop n):j∈row:=List.mem_of_mem_drop h
theorem behind_ne {row:List Nat} {a:Nat} (ha:a∈row) (h:row.getD (row.length - 1) 0≠a):J3 row a≠[]:=by
 unfold J3;have h1:row.idxOf a < row.length:=idxOf_lt_length_iff.mpr ha;intro e;have h2:=List.drop_eq_nil_iff.mp e;have h3:row.idxOf a=row.length - 1:=by omega
 apply h;rw [<- h3,getD_eq_getElem?_getD,List.getElem?_eq_getElem h1];exact getElem_idxOf h1
theorem Rst.Ok.of_rows {r:Rst} (h:r.Ok) {top bot:List Nat} {ls:List Int} {ts:List Bool} (ht:top.Perm r.top) (hb:bot.Perm r.top) (hl:ls.length=r.ls.length) (htl:ts.length=r.ts.length)
  (pos:∀ j∈r.top,1<=ls.getD j 0) (zl:∀ j,j ∉ r.top->ls.getD j 0=0) (zt:∀ j,j ∉ r.top->ts.getD j false=false):(Rst.mk top bot ls ts).Ok where
 row:=⟨ht.nodup_iff.mpr h.row.nd,fun j hj=>by rw [hl];exact h.row.lt j (ht.mem_iff.mp hj),fun j hj=>pos j (ht.mem_iff.mp hj)⟩
 perm:=hb.trans ht.symm
 zl:=fun j hj=>zl j fun q=>hj (ht.mem_iff.mpr q)
 zt:=fun j hj=>zt j fun q=>hj (ht.mem_iff.mpr q)
 len:=by show ts.length=ls.length;rw [hl,htl];exact h.len
 few:=by show ls.length<=24;rw [hl];exact h.few
theorem J38 {r:Rst} (h:r.Ok) {w l:Nat} (hl:l∈r.top):∀ j,j ∉ r.top->(J1s r w l).getD j false=false:=fun j hj=>by
 unfold J1s;rw [J2e _ _ _ _ (by rw [h.len];exact h.row.lt l hl),if_neg (show ¬ j=l from fun e=>hj (by rw [e];exact hl))];exact h.zt j hj
theorem set_out {r:Rst} (h:r.Ok) {a:Nat} {v:Int} (ha:a∈r.top):∀ j,j ∉ r.top->(r.ls.set a v).getD j 0=0:=fun j hj=>by
 rw [J12 _ _ _ _ (h.row.lt a ha),if_neg (show ¬ j=a from fun e=>hj (by rw [e];exact ha))];exact h.zl j hj
theorem set_pos {r:Rst} (h:r.Ok) {a:Nat} {v:Int} (ha:a∈r.top) (hv:1<=v):∀ j∈r.top,1<=(r.ls.set a v).getD j 0:=fun j hj=>by
 rw [J12 _ _ _ _ (h.row.lt a ha)];split
 ·exact hv
 ·exact h.row.pos j hj
theorem J1l (r:Rst) (w l:Nat):(J1s r w l).length=r.ts.length:=by unfold J1s;rw [length_set]
theorem Rst.Ok.less {r:Rst} (h:r.Ok) {a:Nat} (ha:a∈r.top) {bot:List Nat} {ts:List Bool} (hb:bot.Perm (withoutR r.top a)) (htl:ts.length=r.ts.length) (zt:∀ j,j ∉ r.top->ts.getD j false=false) (za:ts.getD a false=false):(Rst.mk (withoutR r.top a) bot (r.ls.set a 0) ts).Ok where
 row:=⟨J1x h.row.nd a,fun j hj=>by rw [length_set];exact h.row.lt j (mem_without.mp hj).1,fun j hj=>by
  rw [J12 _ _ _ _ (h.row.lt a ha),if_neg (mem_without.mp hj).2];exact h.row.pos j (mem_without.mp hj).1⟩
 perm:=hb
 zl:=fun j hj=>by
  show (r.ls.set a 0).getD j 0=0;rw [J12 _ _ _ _ (h.row.lt a ha)];split
  ·rfl
  ·rename_i e;exact h.zl j fun q=>hj (mem_without.mpr ⟨q,e⟩)
 zt:=fun j hj=>by
  by_cases e:j=a
  ·subst e;exact za
  ·exact zt j fun q=>hj (mem_without.mpr ⟨q,e⟩)
 len:=by show ts.length=(r.ls.set a 0).length;rw [length_set,htl];exact h.len
 few:=by show (r.ls.set a 0).length<=24;rw [length_set];exact h.few
theorem times_fit {la s:Int} (hs:1<=s):(la - 1) / s * s<=la - 1:=Int.ediv_mul_le _ (by omega)
theorem J17 {r:Rst} (h:r.Ok) (ne:r.top≠[]) {p:Stp->Prop}
  (hh:lastT r=lastB r->p (.home (lastT r)))
  (he:lastT r≠lastB r->r.ls.getD (lastT r) 0=r.ls.getD (lastB r) 0->p (.even (lastT r) (lastB r)))
  (hov:lastT r≠lastB r->r.ls.getD (lastB r) 0 < r.ls.getD (lastT r) 0->(r.ts.getD (lastT r) false=true\/r.ls.getD (lastT r) 0<=lenOf r.ls (J3 r.bot (lastT r)))->p (.over (lastT r) (lastB r)))
  (hun:lastT r≠lastB r->r.ls.getD (lastT r) 0 < r.ls.getD (lastB r) 0->(r.ts.getD (lastB r) false=true\/r.ls.getD (lastB r) 0<=lenOf r.ls (J3 r.top (lastB r)))->p (.under (lastB r) (lastT r)))
  (hos:∀ t,lastT r≠lastB r->r.ls.getD (lastB r) 0 < r.ls.getD (lastT r) 0->r.ts.getD (lastT r) false=false->1<=t->1<=lenOf r.ls (J3 r.bot (lastT r))->lenOf r.ls (J3 r.bot (lastT r)) < r.ls.getD (lastT r) 0->t=(r.ls.getD (lastT r) 0 - 1) / lenOf r.ls (J3 r.bot (lastT r))->t * lenOf r.ls (J3 r.bot (lastT r)) < r.ls.getD (lastT r) 0->p (.overs (lastT r) t))
  (hus:∀ t,lastT r≠lastB r->r.ls.getD (lastT r) 0 < r.ls.getD (lastB r) 0->r.ts.getD (lastB r) false=false->1<=t->1<=lenOf r.ls (J3 r.top (lastB r))->lenOf r.ls (J3 r.top (lastB r)) < r.ls.getD (lastB r) 0->t=(r.ls.getD (lastB r) 0 - 1) / lenOf r.ls (J3 r.top (lastB r))->t * lenOf r.ls (J3 r.top (lastB r)) < r.ls.getD (lastB r) 0->p (.unders (lastB r) t)):p (nextN r):=by
 unfold nextN;have mT:=h.mT ne;have mB:=h.mB ne;by_cases c1:lastT r=lastB r
 ·rw [if_pos c1];exact hh c1
 rw [if_neg c1];by_cases c2:r.ls.getD (lastT r) 0=r.ls.getD (lastB r) 0
 ·rw [if_pos c2];exact he c1 c2
 rw [if_neg c2];have key:∀ (row:List Nat) (a:Nat),a∈row->(∀ j∈row,1<=r.ls.getD j 0)->row.getD (row.length - 1) 0≠a->
   1<=lenOf r.ls (J3 row a)/\(0 < J11 r a row->r.ts.getD a false=false/\1<=J11 r a row/\lenOf r.ls (J3 row a) < r.ls.getD a 0/\J11 r a row=(r.ls.getD a 0 - 1) / lenOf r.ls (J3 row a)/\J11 r a row * lenOf r.ls (J3 row a) < r.ls.getD a 0)/\
   (¬ 0 < J11 r a row->r.ts.getD a false=true\/r.ls.getD a 0<=lenOf r.ls (J3 row a)):=fun row a ha hp hl=>by
  have hs:1<=lenOf r.ls (J3 row a):=J4r (fun j hj=>hp j (Jn hj)) (behind_ne ha hl);refine ⟨hs,fun hw=>?_,fun hw=>?_⟩
  ·by_cases ct:r.ts.getD a false=true
   ·unfold J11 at hw;rw [if_pos ct] at hw;omega
   ·have e:J11 r a row=(r.ls.getD a 0 - 1) / lenOf r.ls (J3 row a):=by unfold J11;rw [if_neg ct]
    have h1:=times_fit (la:=r.ls.getD a 0) hs;rw [e] at hw ⊢;refine ⟨by simpa using ct,by omega,?_,rfl,by omega⟩;have h2:lenOf r.ls (J3 row a) * 1<=lenOf r.ls (J3 row a) * ((r.ls.getD a 0 - 1) / lenOf r.ls (J3 row a)):=Int.mul_le_mul_of_nonneg_left (by omega) (by omega);rw [Int.mul_comm (lenOf r.ls (J3 row a)) ((r.ls.getD a 0 - 1) / lenOf r.ls (J3 row a))] at h2;omega
  ·by_cases ct:r.ts.getD a false=true
   ·exact .inl ct
   ·right;have e:J11 r a row=(r.ls.getD a 0 - 1) / lenOf r.ls (J3 row a):=by unfold J11;rw [if_neg ct]
    rw [e] at hw;by_cases q:r.ls.getD a 0<=lenOf r.ls (J3 row a)
    ·exact q
    ·have:=(Int.le_ediv_iff_mul_le (a:=1) (b:=r.ls.getD a 0 - 1) (c:=lenOf r.ls (J3 row a)) (by omega)).mpr (by omega);omega
 by_cases c3:r.ls.getD (lastB r) 0 < r.ls.getD (lastT r) 0
 ·rw [if_pos c3];obtain ⟨hs,k1,k2⟩:=key r.bot (lastT r) (h.perm.mem_iff.mpr mT) (fun j hj=>h.rowB.pos j hj) (fun e=>c1 e.symm);by_cases c4:0 < J11 r (lastT r) r.bot
  ·rw [if_pos c4];obtain ⟨q1,q2,q3,q4,q5⟩:=k1 c4;exact hos _ c1 c3 q1 q2 hs q3 q4 q5
  ·rw [if_neg c4];exact hov c1 c3 (k2 c4)
 ·rw [if_neg c3];have c3':r.ls.getD (lastT r) 0 < r.ls.getD (lastB r) 0:=by omega
  obtain ⟨hs,k1,k2⟩:=key r.top (lastB r) mB (fun j hj=>h.row.pos j hj) c1;by_cases c4:0 < J11 r (lastB r) r.top
  ·rw [if_pos c4];obtain ⟨q1,q2,q3,q4,q5⟩:=k1 c4;exact hus _ c1 c3' q1 q2 hs q3 q4 q5
  ·rw [if_neg c4];exact hun c1 c3' (k2 c4)
theorem Rst.Ok.next {r:Rst} (h:r.Ok) (ne:r.top≠[]):((nextN r).behind r).Ok:=by
 have mT:=h.mT ne;have mB:=h.mB ne;have mTb:=h.perm.mem_iff.mpr mT;have mBb:=h.perm.mem_iff.mpr mB;have ndB:=h.rowB.nd;refine J17 h ne (p:=fun s=>(s.behind r).Ok) (fun _=>?_) (fun c1 c2=>?_) (fun c1 c2 _=>?_) (fun c1 c2 _=>?_) (fun t c1 c2 c3 c4 c5 _ c6 c7=>?_) (fun t c1 c2 c3 c4 c5 _ c6 c7=>?_)
 ·refine h.less mT (J2f h.perm _) (by rw [length_set]) (fun j hj=>?_) ?_
  ·rw [J2e _ _ _ _ (by rw [h.len];exact h.row.lt _ mT)];split
   ·rfl
   ·exact h.zt j hj
  ·rw [J2e _ _ _ _ (by rw [h.len];exact h.row.lt _ mT),if_pos rfl]
 ·refine h.less mT ((J2f (J1v ndB mBb false) _).trans (J2f h.perm _)) (by rw [length_set,J1l]) (fun j hj=>?_) ?_
  ·rw [J2e _ _ _ _ (by rw [J1l,h.len];exact h.row.lt _ mT)];split
   ·rfl
   ·exact J38 h mB j hj
  ·rw [J2e _ _ _ _ (by rw [J1l,h.len];exact h.row.lt _ mT),if_pos rfl]
 ·exact h.of_rows (List.Perm.refl _) ((J1v ndB mBb _).trans h.perm) (by rw [length_set]) (J1l _ _ _) (set_pos h mT (by omega)) (set_out h mT) (J38 h mB)
 ·exact h.of_rows (J1v h.row.nd mT _) h.perm (by rw [length_set]) (J1l _ _ _) (set_pos h mB (by omega)) (set_out h mB) (J38 h mT)
 ·exact h.of_rows (List.Perm.refl _) h.perm (by rw [length_set]) rfl (set_pos h mT (by omega)) (set_out h mT) h.zt
 ·exact h.of_rows (List.Perm.refl _) h.perm (by rw [length_set]) rfl (set_pos h mB (by omega)) (set_out h mB) h.zt
theorem J66:∀ (n:Nat) (row:List Nat),row.Nodup->(∀ j∈row,j < n)->row.length<=n
 | 0,row,_,h=>by
  cases row with
  | nil=>exact Nat.le_refl _
  | cons a r=>exact absurd (h a mem_cons_self) (Nat.not_lt_zero _)
 | n + 1,row,nd,h=>by
  by_cases c:n∈row
  ·have h1:=J25 nd c;have h2:=J66 n (withoutR row n) (J1x nd n) fun j hj=>by
    have:=h j (mem_without.mp hj).1;have:=(mem_without.mp hj).2;omega
   omega
  ·have:=J66 n row nd fun j hj=>by
    have h1:=h j hj;have h2:j≠n:=fun e=>c (e ▸ hj);omega
   omega
theorem Row.len_le {ls:List Int} {row:List Nat} (h:Row ls row):row.length<=ls.length:=J66 _ _ h.nd h.lt
end Rl
namespace Rl
theorem J2i {row:List Nat} (h:row≠[]):row=row.dropLast ++ [row.getD (row.length - 1) 0]:=by
 have hl:=length_pos_iff.mpr h;have e:row.getD (row.length - 1) 0=row.getLast h:=by
  rw [getD_eq_getElem?_getD,List.getElem?_eq_getElem (by omega),List.getLast_eq_getElem];rfl
 rw [e];exact (List.dropLast_concat_getLast h).symm
theorem J1k (xs ys:List Nat) (x:Nat):withoutR (xs ++ ys) x=withoutR xs x ++ withoutR ys x:=by unfold withoutR;rw [List.filter_append]
theorem J1j {xs:List Nat} {x:Nat} (h:x ∉ xs):withoutR xs x=xs:=List.filter_eq_self.mpr fun j hj=>decide_eq_true (fun e=>h (e ▸ hj))
theorem J1n (x:Nat):withoutR [x] x=[]:=by unfold withoutR;simp
theorem J2d {row:List Nat} (nd:row.Nodup) (h:row≠[]):withoutR row (row.getD (row.length - 1) 0)=row.dropLast:=by
 have e:=J2i h;generalize row.getD (row.length - 1) 0=z at *;generalize row.dropLast=d at *;subst e;have hn:z ∉ d:=fun q=>(nodup_append.mp nd).2.2 z q z (by simp) rfl;rw [J1k,J1j hn,J1n,append_nil]
theorem idx_app {s:List Nat} {a:Nat} (t:List Nat) (h:a ∉ s):(s ++ a :: t).idxOf a=s.length:=by
 induction s with
 | nil=>simp
 | cons x s ih =>
  have hx:(x == a)=false:=by
   have:x≠a:=fun e=>h (by rw [e];exact mem_cons_self);simpa using this
  rw [cons_append,idxOf_cons,hx,ih fun q=>h (mem_cons_of_mem _ q)];rfl
theorem J3g (ls:List Int) (p:Nat->Bool):∀ os:List Nat,(∀ j∈os,p j=false->ls.getD j 0=0)->lenOf ls (os.filter p)=lenOf ls os
 | [],_=>rfl
 | a :: r,h=>by
  have ih:=J3g ls p r fun j hj=>h j (mem_cons_of_mem _ hj);rw [filter_cons,Jg]
  cases c:p a with
  | true=>rw [if_pos rfl,Jg,ih]
  | false=>rw [if_neg (by decide),ih,h a mem_cons_self c,Int.zero_add]
theorem Rst.Ok.size_sum {r:Rst} (h:r.Ok):r.size=r.ls.sum:=by
 have h1:lenOf r.ls (List.range r.ls.length)=r.ls.sum:=by unfold lenOf;rw [J4q]
 rw [<- h1,<- J3g r.ls (fun j=>decide (j∈r.top)) (List.range r.ls.length) fun j _ hj=>h.zl j (of_decide_eq_false hj)];refine J1c ?_;refine (perm_ext_iff_of_nodup h.row.nd (nodup_range.filter _)).mpr fun j=>?_;rw [mem_filter,mem_range,decide_eq_true_iff];exact ⟨fun q=>⟨h.row.lt j q,q⟩,fun q=>q.2⟩
def NextP (r:Rst):Stp->Prop
 | .home a=>a=lastT r/\a=lastB r
 | .even a b=>a=lastT r/\b=lastB r/\a≠b/\r.ls.getD a 0=r.ls.getD b 0
 | .over a b=>a=lastT r/\b=lastB r/\a≠b/\r.ls.getD b 0 < r.ls.getD a 0
 | .under a b=>a=lastB r/\b=lastT r/\a≠b/\r.ls.getD b 0 < r.ls.getD a 0
 | .overs a t=>a=lastT r/\a≠lastB r/\r.ts.getD a false=false/\1<=t/\1<=lenOf r.ls (J3 r.bot a)/\t * lenOf r.ls (J3 r.bot a) < r.ls.getD a 0
 | .unders a t=>a=lastB r/\a≠lastT r/\r.ts.getD a false=false/\1<=t/\1<=lenOf r.ls (J3 r.top a)/\t * lenOf r.ls (J3 r.top a) < r.ls.getD a 0
theorem nextP {r:Rst} (h:r.Ok) (ne:r.top≠[]):NextP r (nextN r) :=
 J17 h ne (p:=NextP r) (fun c=>⟨rfl,c⟩) (fun c1 c2=>⟨rfl,rfl,c1,c2⟩) (fun c1 c2 _=>⟨rfl,rfl,c1,c2⟩) (fun c1 c2 _=>⟨rfl,rfl,fun e=>c1 e.symm,c2⟩)
  (fun t c1 c2 c3 c4 c5 _ _ c6=>⟨rfl,c1,c3,c4,c5,c6⟩) (fun t c1 c2 c3 c4 c5 _ _ c6=>⟨rfl,fun e=>c1 e.symm,c3,c4,c5,c6⟩)
theorem NextP.win {r:Rst} (h:r.Ok) (ne:r.top≠[]) {s:Stp} (n:NextP r s):s.winner∈r.top:=by
 have mT:=h.mT ne;have mB:=h.mB ne
 cases s with
 | home a=>rw [show (Stp.home a).winner=a from rfl,n.1];exact mT
 | even a b=>rw [show (Stp.even a b).winner=a from rfl,n.1];exact mT
 | over a b=>rw [show (Stp.over a b).winner=a from rfl,n.1];exact mT
 | under a b=>rw [show (Stp.under a b).winner=a from rfl,n.1];exact mB
 | overs a t=>rw [show (Stp.overs a t).winner=a from rfl,n.1];exact mT
 | unders a t=>rw [show (Stp.unders a t).winner=a from rfl,n.1];exact mB
theorem Rst.Ok.le_size {r:Rst} (h:r.Ok) {j:Nat} (hj:j∈r.top):r.ls.getD j 0<=r.size:=lenOf_mem (fun j hj=>by have:=h.row.pos j hj;omega) hj
theorem NextP.times {r:Rst} (h:r.Ok) (ne:r.top≠[]) {s:Stp} (n:NextP r s) (hz:r.size<=10 ^ 30):s.times.natAbs<=10 ^ 30:=by
 have hw:=h.le_size (n.win h ne);have key:∀ {t l s:Int},1<=t->1<=s->t * s < l->t<=l:=fun {t l s} h1 h2 h3=>by
  have:t * 1<=t * s:=Int.mul_le_mul_of_nonneg_left h2 (by omega);omega
 cases s with
 | overs a t =>
  obtain ⟨_,_,_,h4,h5,h6⟩:=n;have:=key h4 h5 h6;show t.natAbs<=10 ^ 30;have hw:r.ls.getD a 0<=r.size:=hw;omega
 | unders a t =>
  obtain ⟨_,_,_,h4,h5,h6⟩:=n;have:=key h4 h5 h6;show t.natAbs<=10 ^ 30;have hw:r.ls.getD a 0<=r.size:=hw;omega
 | home a=>show (1:Int).natAbs<=10 ^ 30;decide
 | even a b=>show (1:Int).natAbs<=10 ^ 30;decide
 | over a b=>show (1:Int).natAbs<=10 ^ 30;decide
 | under a b=>show (1:Int).natAbs<=10 ^ 30;decide
theorem NextP.losers_nd {r:Rst} (h:r.Ok) {s:Stp}:(s.losers r).Nodup:=by
 cases s with
 | home a=>exact List.nodup_nil
 | even a b=>exact (by simp:[b].Nodup)
 | over a b=>exact (by simp:[b].Nodup)
 | under a b=>exact (by simp:[b].Nodup)
 | overs a t=>exact List.Sublist.nodup (List.drop_sublist _ _) h.rowB.nd
 | unders a t=>exact List.Sublist.nodup (List.drop_sublist _ _) h.row.nd
end Rl
namespace Rl
theorem Jk (ls:List Int) {a:Nat} (v:Int):∀ {row:List Nat},a ∉ row->lenOf (ls.set a v) row=lenOf ls row
 | [],_=>rfl
 | b :: row,h=>by
  have h1:a≠b:=fun e=>h (e ▸ mem_cons_self ..);rw [Jg,Jg,Jk ls v (row:=row) fun q=>h (mem_cons_of_mem _ q)];rw [getD_eq_getElem?_getD,getD_eq_getElem?_getD,getElem?_set_ne h1]
theorem J2m (ls:List Int) {a:Nat} (v:Int) (ha:a < ls.length):∀ {row:List Nat},row.Nodup->a∈row->lenOf (ls.set a v) row=lenOf ls row - ls.getD a 0 + v
 | b :: row,nd,h=>by
  rw [nodup_cons] at nd;rw [Jg,Jg];by_cases e:a=b
  ·subst e;rw [Jk ls v nd.1,J12 _ _ _ _ ha,if_pos rfl];lia
  ·have h2:a∈row:=(mem_cons.mp h).resolve_left e;rw [J2m ls v ha nd.2 h2,J12 _ _ _ _ ha,if_neg (fun q=>e q.symm)];lia
theorem J2y {ls:List Int} {row:List Nat} (nd:row.Nodup) {a:Nat} (ha:a∈row):lenOf ls (withoutR row a) + ls.getD a 0=lenOf ls row:=by
 rw [<- J1c (J1o nd ha),Jg];lia
theorem J3w (row:List Nat) (a:Nat):a ∉ withoutR row a:=fun h=>(mem_without.mp h).2 rfl
def madeS (ls:List Int) (los:List Nat) (t:Int) (row:List Nat):Int:=(row.map fun j=>if j∈los then ls.getD j 0 * (1 + t) else ls.getD j 0).sum
theorem madeS_cons (ls:List Int) (los:List Nat) (t:Int) (j:Nat) (row:List Nat):madeS ls los t (j :: row)=(if j∈los then ls.getD j 0 * (1 + t) else ls.getD j 0) + madeS ls los t row:=by
 unfold madeS;rw [map_cons,sum_cons]
theorem madeS_eq (ls:List Int) (los:List Nat) (t:Int):∀ row:List Nat,madeS ls los t row=lenOf ls row + t * lenOf ls (row.filter fun j=>decide (j∈los))
 | []=>by unfold madeS;simp [J1h]
 | j :: row=>by
  rw [madeS_cons,Jg,madeS_eq ls los t row,filter_cons];by_cases c:j∈los
  ·rw [if_pos c,if_pos (decide_eq_true c),Jg,Int.mul_add,Int.mul_add,Int.mul_one,Int.mul_comm (ls.getD j 0) t];lia
  ·rw [if_neg c,if_neg (by simpa using c)];lia
theorem J3y {row los:List Nat} (nd:row.Nodup) (nl:los.Nodup) (hs:∀ j∈los,j∈row):(row.filter fun j=>decide (j∈los)).Perm los:=by
 refine (perm_ext_iff_of_nodup (nd.filter _) nl).mpr fun j=>?_;rw [mem_filter,decide_eq_true_iff];exact ⟨fun q=>q.2,fun q=>⟨hs j q,q⟩⟩
def Stp.isHome:Stp->Bool
 | .home _=>true | _=>false
def Stp.drops:Stp->Bool
 | .home _=>true | .even _ _=>true | _=>false
theorem Jq {row:List Nat} (nd:row.Nodup) {a:Nat} (ha:a∈row):a ∉ J3 row a:=fun h=>by
 unfold J3 at h;obtain ⟨i,hi,e⟩:=List.getElem_of_mem h;rw [List.getElem_drop] at e;have h1:row.idxOf a < row.length:=idxOf_lt_length_iff.mpr ha;have h2:row[row.idxOf a]=a:=getElem_idxOf h1;have h3:=(getElem_inj nd).mp (e.trans h2.symm);lia
structure Down (r:Rst) (s:Stp):Prop where
 size:(s.behind r).size + s.times * lenOf r.ls (s.losers r) + (if s.isHome=true then r.ls.getD s.winner 0 else 0)=r.size
 less:(s.behind r).size < r.size
 made:madeS (s.behind r).ls (s.losers r) s.times (s.behind r).top=(s.behind r).size + s.times * lenOf r.ls (s.losers r)
 sub:∀ j∈(s.behind r).top,j∈r.top
 len:(s.behind r).top.length + (if s.drops=true then 1 else 0)=r.top.length
theorem J29 {r l:Rst} {los:List Nat} {t:Int} {a:Nat} {v:Int} (nd:l.top.Nodup) (nl:los.Nodup) (hs:∀ j∈los,j∈l.top) (hl:l.ls=r.ls.set a v) (ha:a ∉ los) :
  madeS l.ls los t l.top=l.size + t * lenOf r.ls los:=by
 rw [madeS_eq,J1c (J3y nd nl hs)];rw [hl,Jk _ _ ha,<- hl];rfl
theorem Rst.Ok.down {r:Rst} (h:r.Ok) (ne:r.top≠[]):Down r (nextN r):=by
 have n:=nextP h ne;have ok:=h.next ne;have w:=n.win h ne;have mT:=h.mT ne;have mB:=h.mB ne;have nd:=h.row.nd;have ndB:=h.rowB.nd;have nl:=NextP.losers_nd h (s:=nextN r);have hlt:=h.row.lt;have pos:=h.row.pos;generalize nextN r=s at *
 cases s with
 | home a =>
  have wa:a∈r.top:=w;have sz:((Stp.home a).behind r).size=lenOf r.ls (withoutR r.top a):=Jk _ _ (J3w _ _);have e:=J2y (ls:=r.ls) nd wa;have p:=pos a wa;have e2:r.size=lenOf r.ls r.top:=rfl;refine ⟨?_,by lia,?_,fun j hj=>(mem_without.mp hj).1,J25 nd wa⟩
  ·show ((Stp.home a).behind r).size + 1 * lenOf r.ls [] + (if true=true then r.ls.getD a 0 else 0)=r.size;rw [if_pos rfl,J1h];lia
  ·exact J29 (a:=a) (v:=0) ok.row.nd nl (fun j hj=>nomatch hj) rfl (fun q=>nomatch q)
 | even a b =>
  obtain ⟨n1,n2,n3,n4⟩:=n;have wa:a∈r.top:=w;have wb:b∈r.top:=by rw [n2];exact mB
  have sz:((Stp.even a b).behind r).size=lenOf r.ls (withoutR r.top a):=Jk _ _ (J3w _ _);have e:=J2y (ls:=r.ls) nd wa;have p:=pos a wa;have e2:r.size=lenOf r.ls r.top:=rfl;have eb:lenOf r.ls [b]=r.ls.getD b 0:=by rw [Jg,J1h,Int.add_zero]
  refine ⟨?_,by lia,?_,fun j hj=>(mem_without.mp hj).1,J25 nd wa⟩
  ·show ((Stp.even a b).behind r).size + 1 * lenOf r.ls [b] + (if false=true then r.ls.getD a 0 else 0)=r.size;rw [if_neg (by decide),eb];lia
  ·refine J29 (a:=a) (v:=0) ok.row.nd nl (fun j hj=>?_) rfl (fun q=>?_)
   ·cases mem_singleton.mp hj;exact mem_without.mpr ⟨wb,fun e=>n3 e.symm⟩
   ·exact n3 (mem_singleton.mp q)
 | over a b =>
  obtain ⟨n1,n2,n3,n4⟩:=n;have wa:a∈r.top:=w;have wb:b∈r.top:=by rw [n2];exact mB
  have sz:((Stp.over a b).behind r).size=lenOf r.ls r.top - r.ls.getD a 0 + (r.ls.getD a 0 - r.ls.getD b 0):=J2m _ _ (hlt a wa) nd wa;have p:=pos b wb;have e2:r.size=lenOf r.ls r.top:=rfl;have eb:lenOf r.ls [b]=r.ls.getD b 0:=by rw [Jg,J1h,Int.add_zero]
  refine ⟨?_,by lia,?_,fun j hj=>hj,rfl⟩
  ·show ((Stp.over a b).behind r).size + 1 * lenOf r.ls [b] + (if false=true then r.ls.getD a 0 else 0)=r.size;rw [if_neg (by decide),eb];lia
  ·refine J29 (a:=a) (v:=r.ls.getD a 0 - r.ls.getD b 0) ok.row.nd nl (fun j hj=>?_) rfl (fun q=>?_)
   ·cases mem_singleton.mp hj;exact wb
   ·exact n3 (mem_singleton.mp q)
 | under a b =>
  obtain ⟨n1,n2,n3,n4⟩:=n;have wa:a∈r.top:=w;have wb:b∈r.top:=by rw [n2];exact mT
  have pp:=J1v nd (w:=a) wb (r.ts.getD a false);have sz:((Stp.under a b).behind r).size=lenOf r.ls r.top - r.ls.getD a 0 + (r.ls.getD a 0 - r.ls.getD b 0):=(J1c pp).trans (J2m _ _ (hlt a wa) nd wa);have p:=pos b wb;have e2:r.size=lenOf r.ls r.top:=rfl;have eb:lenOf r.ls [b]=r.ls.getD b 0:=by rw [Jg,J1h,Int.add_zero]
  refine ⟨?_,by lia,?_,fun j hj=>pp.mem_iff.mp hj,pp.length_eq⟩
  ·show ((Stp.under a b).behind r).size + 1 * lenOf r.ls [b] + (if false=true then r.ls.getD a 0 else 0)=r.size;rw [if_neg (by decide),eb];lia
  ·refine J29 (a:=a) (v:=r.ls.getD a 0 - r.ls.getD b 0) ok.row.nd nl (fun j hj=>?_) rfl (fun q=>?_)
   ·cases mem_singleton.mp hj;exact pp.mem_iff.mpr wb
   ·exact n3 (mem_singleton.mp q)
 | overs a t =>
  obtain ⟨n1,n2,n3,n4,n5,n6⟩:=n;have wa:a∈r.top:=w;have wab:a∈r.bot:=h.perm.mem_iff.mpr wa;have sz:((Stp.overs a t).behind r).size=lenOf r.ls r.top - r.ls.getD a 0 + (r.ls.getD a 0 - t * lenOf r.ls (J3 r.bot a)):=J2m _ _ (hlt a wa) nd wa;have e2:r.size=lenOf r.ls r.top:=rfl;have p:1<=t * lenOf r.ls (J3 r.bot a):=by
   have:=Int.mul_le_mul n4 n5 (by decide) (by lia);lia
  refine ⟨?_,by lia,?_,fun j hj=>hj,rfl⟩
  ·show ((Stp.overs a t).behind r).size + t * lenOf r.ls (J3 r.bot a) + (if false=true then r.ls.getD a 0 else 0)=r.size;rw [if_neg (by decide)];lia
  ·exact J29 (a:=a) ok.row.nd nl (fun j hj=>h.perm.mem_iff.mp (Jn hj)) rfl (Jq ndB wab)
 | unders a t =>
  obtain ⟨n1,n2,n3,n4,n5,n6⟩:=n;have wa:a∈r.top:=w;have sz:((Stp.unders a t).behind r).size=lenOf r.ls r.top - r.ls.getD a 0 + (r.ls.getD a 0 - t * lenOf r.ls (J3 r.top a)):=J2m _ _ (hlt a wa) nd wa;have e2:r.size=lenOf r.ls r.top:=rfl;have p:1<=t * lenOf r.ls (J3 r.top a):=by
   have:=Int.mul_le_mul n4 n5 (by decide) (by lia);lia
  refine ⟨?_,by lia,?_,fun j hj=>hj,rfl⟩
  ·show ((Stp.unders a t).behind r).size + t * lenOf r.ls (J3 r.top a) + (if false=true then r.ls.getD a 0 else 0)=r.size;rw [if_neg (by decide)];lia
  ·exact J29 (a:=a) ok.row.nd nl (fun j hj=>Jn hj) rfl (Jq nd wa)
end Rl
namespace Rl
def fS (f:Nat->Int) (row:List Nat):Int:=(row.map f).sum
theorem fS_nil (f:Nat->Int):fS f []=0:=rfl
theorem J22 (f:Nat->Int) (j:Nat) (row:List Nat):fS f (j :: row)=f j + fS f row:=by unfold fS;rw [map_cons,sum_cons]
theorem fS_perm {f:Nat->Int} {xs ys:List Nat} (h:xs.Perm ys):fS f xs=fS f ys:=perm_sum (h.map _)
theorem J4y {f g:Nat->Int}:∀ {row:List Nat},(∀ j∈row,f j=g j)->fS f row=fS g row
 | [],_=>rfl
 | j :: row,h=>by
  rw [J22,J22,h j mem_cons_self,J4y fun i hi=>h i (mem_cons_of_mem _ hi)]
theorem fS_add (f g:Nat->Int):∀ row:List Nat,fS (fun j=>f j + g j) row=fS f row + fS g row
 | []=>rfl
 | j :: row=>by
  rw [J22,J22,J22,fS_add f g row];lia
theorem J5o {f:Nat->Int} {row:List Nat} (nd:row.Nodup) {a:Nat} (ha:a∈row):fS f (withoutR row a) + f a=fS f row:=by
 rw [<- fS_perm (J1o nd ha),J22];lia
theorem fS_if (c:Int) (f:Nat->Int) (los:List Nat):∀ row:List Nat,fS (fun j=>if j∈los then c * f j else 0) row=c * fS f (row.filter fun j=>decide (j∈los))
 | []=>by simp [fS_nil]
 | j :: row=>by
  rw [J22,fS_if c f los row,filter_cons];by_cases q:j∈los
  ·rw [if_pos q,if_pos (decide_eq_true q),J22,Int.mul_add]
  ·rw [if_neg q,if_neg (by simpa using q)];lia
theorem fS_nonneg {f:Nat->Int}:∀ {row:List Nat},(∀ j∈row,0<=f j)->0<=fS f row
 | [],_=>Int.le_refl _
 | j :: row,h=>by
  rw [J22];have:=h j mem_cons_self;have:=fS_nonneg fun i hi=>h i (mem_cons_of_mem _ hi);lia
theorem fS_mem {f:Nat->Int}:∀ {row:List Nat},(∀ j∈row,0<=f j)->∀ {j:Nat},j∈row->f j<=fS f row
 | a :: row,h,j,hj=>by
  rw [J22];have h1:=h a mem_cons_self;have h2:=fS_nonneg fun i hi=>h i (mem_cons_of_mem _ hi);rcases mem_cons.mp hj with rfl | hj
  ·lia
  ·have:=fS_mem (fun i hi=>h i (mem_cons_of_mem _ hi)) hj;lia
def towB (s:Stp) (r:Rst) (T:List Int):List Int:=(List.range T.length).map fun j=>if j∈(s.behind r).top then (if j∈s.losers r then T.getD j 0 + T.getD s.winner 0 * s.times else T.getD j 0) else 0
theorem towB_len (s:Stp) (r:Rst) (T:List Int):(towB s r T).length=T.length:=by unfold towB;rw [length_map,length_range]
theorem towB_get (s:Stp) (r:Rst) (T:List Int) {j:Nat} (h:j < T.length):(towB s r T).getD j 0=if j∈(s.behind r).top then (if j∈s.losers r then T.getD j 0 + T.getD s.winner 0 * s.times else T.getD j 0) else 0:=by
 unfold towB;rw [getD_eq_getElem?_getD,getElem?_map,getElem?_range h];rfl
def wS (ls T:List Int) (row:List Nat):Int:=fS (fun j=>ls.getD j 0 * T.getD j 0) row
theorem stays_aux {r l:Rst} {los:List Nat} {t v:Int} {a:Nat} {T T':List Int} (nd:r.top.Nodup) (wa:a∈r.top) (ha:a < r.ls.length) (nl:los.Nodup) (hs:∀ j∈los,j∈l.top) (al:a ∉ los) (hl:l.ls=r.ls.set a v) (ndl:l.top.Nodup)
  (hT:∀ j∈l.top,T'.getD j 0=T.getD j 0 + (if j∈los then T.getD a 0 * t else 0)) (htop:l.top.Perm r.top\/(l.top.Perm (withoutR r.top a)/\v=0)) :
  wS l.ls T' l.top=wS r.ls T r.top - r.ls.getD a 0 * T.getD a 0 + v * T.getD a 0 + T.getD a 0 * t * lenOf r.ls los:=by
 have e1:wS l.ls T' l.top=wS l.ls T l.top + T.getD a 0 * t * lenOf r.ls los:=by
  have c:wS l.ls T' l.top=fS (fun j=>l.ls.getD j 0 * T.getD j 0 + (if j∈los then (T.getD a 0 * t) * l.ls.getD j 0 else 0)) l.top:=J4y fun j hj=>by
   rw [hT j hj,Int.mul_add];by_cases q:j∈los
   ·rw [if_pos q,if_pos q,Int.mul_comm (l.ls.getD j 0) (T.getD a 0 * t)]
   ·rw [if_neg q,if_neg q,Int.mul_zero]
  rw [c,fS_add,fS_if];have e:fS (fun j=>l.ls.getD j 0) (l.top.filter fun j=>decide (j∈los))=lenOf r.ls los:=by
   rw [fS_perm (J3y ndl nl hs)];show lenOf l.ls los=_;rw [hl,Jk _ _ al]
  rw [e];rfl
 have ca:l.ls.getD a 0=v:=by rw [hl,J12 _ _ _ _ ha,if_pos rfl]
 have cw:fS (fun j=>l.ls.getD j 0 * T.getD j 0) (withoutR r.top a)=fS (fun j=>r.ls.getD j 0 * T.getD j 0) (withoutR r.top a):=J4y fun j hj=>by
  have q:=(mem_without.mp hj).2;show l.ls.getD j 0 * _=_;rw [hl,J12 _ _ _ _ ha,if_neg q]
 have full:=J5o (f:=fun j=>r.ls.getD j 0 * T.getD j 0) nd wa;have e2:wS l.ls T l.top=wS r.ls T r.top - r.ls.getD a 0 * T.getD a 0 + v * T.getD a 0:=by
  rcases htop with p | ⟨p,rfl⟩
  ·have e:=J5o (f:=fun j=>l.ls.getD j 0 * T.getD j 0) nd wa;unfold wS;rw [fS_perm p,<- e,cw];simp only [ca] at *;lia
  ·unfold wS;rw [fS_perm p,cw];simp only [Int.zero_mul] at *;lia
 rw [e1,e2]
theorem J4o {r:Rst} (h:r.Ok) (ne:r.top≠[]):if (nextN r).drops=true then ((nextN r).behind r).top=withoutR r.top (nextN r).winner else ((nextN r).behind r).top.Perm r.top:=by
 refine J17 h ne (p:=fun s=>if s.drops=true then (s.behind r).top=withoutR r.top s.winner else (s.behind r).top.Perm r.top) (fun _=>?_) (fun _ _=>?_) (fun _ _ _=>?_) (fun _ _ _=>?_) (fun t _ _ _ _ _ _ _ _=>?_) (fun t _ _ _ _ _ _ _ _=>?_)
 ·show withoutR r.top (lastT r)=withoutR r.top (lastT r);rfl
 ·show withoutR r.top (lastT r)=withoutR r.top (lastT r);rfl
 ·show List.Perm r.top r.top;exact List.Perm.refl _
 ·show List.Perm (putR r.top (lastB r) (lastT r) (r.ts.getD (lastB r) false)) r.top;exact J1v h.row.nd (h.mT ne) _
 ·show List.Perm r.top r.top;exact List.Perm.refl _
 ·show List.Perm r.top r.top;exact List.Perm.refl _
structure LosP (r:Rst) (s:Stp):Prop where
 sub:∀ j∈s.losers r,j∈(s.behind r).top
 no:s.winner ∉ s.losers r
 one:1<=s.times
 tl:s.isHome=false->r.ls.getD s.winner 0 - s.times * lenOf r.ls (s.losers r)=(s.behind r).ls.getD s.winner 0
 ls:(s.behind r).ls=r.ls.set s.winner ((s.behind r).ls.getD s.winner 0)
 zero:s.drops=true->(s.behind r).ls.getD s.winner 0=0
theorem nextL {r:Rst} (h:r.Ok) (ne:r.top≠[]):LosP r (nextN r):=by
 have n:=nextP h ne;have w:=n.win h ne;have mT:=h.mT ne;have mB:=h.mB ne;have nd:=h.row.nd;have ndB:=h.rowB.nd;have hlt:=h.row.lt;generalize nextN r=s at *;have sg:∀ (v:Int),(r.ls.set s.winner v).getD s.winner 0=v:=fun v=>by rw [J12 _ _ _ _ (hlt _ w),if_pos rfl]
 have one1:∀ b,lenOf r.ls [b]=r.ls.getD b 0:=fun b=>by rw [Jg,J1h,Int.add_zero]
 cases s with
 | home a =>
  have sg:∀ (v:Int),(r.ls.set a v).getD a 0=v:=sg;refine ⟨fun j hj=>(nomatch hj),fun q=>(nomatch q),Int.le_refl _,fun q=>(nomatch q),?_,fun _=>sg 0⟩;show r.ls.set a 0=r.ls.set a ((r.ls.set a 0).getD a 0);rw [sg]
 | even a b =>
  obtain ⟨n1,n2,n3,n4⟩:=n;have sg:∀ (v:Int),(r.ls.set a v).getD a 0=v:=sg;have wb:b∈r.top:=by rw [n2];exact mB
  refine ⟨fun j hj=>?_,fun q=>n3 (mem_singleton.mp q),Int.le_refl _,fun _=>?_,?_,fun _=>sg 0⟩
  ·cases mem_singleton.mp hj;exact mem_without.mpr ⟨wb,fun e=>n3 e.symm⟩
  ·show r.ls.getD a 0 - 1 * lenOf r.ls [b]=(r.ls.set a 0).getD a 0;rw [sg,one1];lia
  ·show r.ls.set a 0=r.ls.set a ((r.ls.set a 0).getD a 0);rw [sg]
 | over a b =>
  obtain ⟨n1,n2,n3,n4⟩:=n;have sg:∀ (v:Int),(r.ls.set a v).getD a 0=v:=sg;have wb:b∈r.top:=by rw [n2];exact mB
  refine ⟨fun j hj=>?_,fun q=>n3 (mem_singleton.mp q),Int.le_refl _,fun _=>?_,?_,fun q=>nomatch q⟩
  ·cases mem_singleton.mp hj;exact wb
  ·show r.ls.getD a 0 - 1 * lenOf r.ls [b]=(r.ls.set a (r.ls.getD a 0 - r.ls.getD b 0)).getD a 0;rw [sg,one1];lia
  ·show r.ls.set a _=r.ls.set a ((r.ls.set a (r.ls.getD a 0 - r.ls.getD b 0)).getD a 0);rw [sg]
 | under a b =>
  obtain ⟨n1,n2,n3,n4⟩:=n;have sg:∀ (v:Int),(r.ls.set a v).getD a 0=v:=sg;have wb:b∈r.top:=by rw [n2];exact mT
  have pp:=J1v nd (w:=a) wb (r.ts.getD a false);refine ⟨fun j hj=>?_,fun q=>n3 (mem_singleton.mp q),Int.le_refl _,fun _=>?_,?_,fun q=>nomatch q⟩
  ·cases mem_singleton.mp hj;exact pp.mem_iff.mpr wb
  ·show r.ls.getD a 0 - 1 * lenOf r.ls [b]=(r.ls.set a (r.ls.getD a 0 - r.ls.getD b 0)).getD a 0;rw [sg,one1];lia
  ·show r.ls.set a _=r.ls.set a ((r.ls.set a (r.ls.getD a 0 - r.ls.getD b 0)).getD a 0);rw [sg]
 | overs a t =>
  obtain ⟨n1,n2,n3,n4,n5,n6⟩:=n;have sg:∀ (v:Int),(r.ls.set a v).getD a 0=v:=sg;have wab:a∈r.bot:=h.perm.mem_iff.mpr w;refine ⟨fun j hj=>h.perm.mem_iff.mp (Jn hj),Jq ndB wab,n4,fun _=>?_,?_,fun q=>nomatch q⟩
  ·show r.ls.getD a 0 - t * lenOf r.ls (J3 r.bot a)=(r.ls.set a (r.ls.getD a 0 - t * lenOf r.ls (J3 r.bot a))).getD a 0;rw [sg]
  ·show r.ls.set a _=r.ls.set a ((r.ls.set a (r.ls.getD a 0 - t * lenOf r.ls (J3 r.bot a))).getD a 0);rw [sg]
 | unders a t =>
  obtain ⟨n1,n2,n3,n4,n5,n6⟩:=n;have sg:∀ (v:Int),(r.ls.set a v).getD a 0=v:=sg;refine ⟨fun j hj=>Jn hj,Jq nd w,n4,fun _=>?_,?_,fun q=>nomatch q⟩
  ·show r.ls.getD a 0 - t * lenOf r.ls (J3 r.top a)=(r.ls.set a (r.ls.getD a 0 - t * lenOf r.ls (J3 r.top a))).getD a 0;rw [sg]
  ·show r.ls.set a _=r.ls.set a ((r.ls.set a (r.ls.getD a 0 - t * lenOf r.ls (J3 r.top a))).getD a 0);rw [sg]
structure Tow (r:Rst) (T:List Int):Prop where
 len:T.length=r.ls.length
 pos:∀ j∈r.top,1<=T.getD j 0
 sum:wS r.ls T r.top<=10 ^ 30
theorem Tow.le {r:Rst} {T:List Int} (h:r.Ok) (t:Tow r T) {j:Nat} (hj:j∈r.top):T.getD j 0<=10 ^ 30:=by
 have h1:r.ls.getD j 0 * T.getD j 0<=wS r.ls T r.top:=fS_mem (f:=fun j=>r.ls.getD j 0 * T.getD j 0) (fun i hi=>Int.mul_nonneg (by have:=h.row.pos i hi;lia) (by have:=t.pos i hi;lia)) hj;have h2:1 * T.getD j 0<=r.ls.getD j 0 * T.getD j 0:=Int.mul_le_mul_of_nonneg_right (h.row.pos j hj) (by have:=t.pos j hj;lia);have:=t.sum;lia
theorem tow_in {r:Rst} (h:r.Ok) (ne:r.top≠[]) {T:List Int} (hT:T.length=r.ls.length) {j:Nat} (hj:j∈((nextN r).behind r).top) :
  (towB (nextN r) r T).getD j 0=T.getD j 0 + (if j∈(nextN r).losers r then T.getD (nextN r).winner 0 * (nextN r).times else 0):=by
 rw [towB_get _ _ _ (by rw [hT];exact h.row.lt j ((h.down ne).sub j hj)),if_pos hj];split <;> lia
theorem Rst.Ok.stay {r:Rst} (h:r.Ok) (ne:r.top≠[]) {T:List Int} (hT:T.length=r.ls.length) :
  wS ((nextN r).behind r).ls (towB (nextN r) r T) ((nextN r).behind r).top + (if (nextN r).isHome=true then r.ls.getD (nextN r).winner 0 * T.getD (nextN r).winner 0 else 0)=wS r.ls T r.top:=by
 have n:=nextP h ne;have w:=n.win h ne;have L:=nextL h ne;have okl:=h.next ne;have nl:=NextP.losers_nd h (s:=nextN r);have tp:=J4o h ne;have tin:=fun j=>@tow_in r h ne T hT j;have e:=stays_aux (T:=T) (T':=towB (nextN r) r T) (t:=(nextN r).times) h.row.nd w (h.row.lt _ w) nl L.sub L.no L.ls okl.row.nd (fun j hj=>tin j hj) (by
  by_cases c:(nextN r).drops=true
  ·rw [if_pos c] at tp;exact .inr ⟨by rw [tp],L.zero c⟩
  ·rw [if_neg c] at tp;exact .inl tp)
 rw [e];by_cases c:(nextN r).isHome=true
 ·have d:(nextN r).drops=true:=by
   generalize nextN r=s at *;cases s <;> first | rfl | exact absurd c Bool.false_ne_true
  have l0:lenOf r.ls ((nextN r).losers r)=0:=by
   generalize nextN r=s at *;cases s <;> first | rfl | exact absurd c Bool.false_ne_true
  rw [if_pos c,L.zero d,l0];lia
 ·rw [if_neg c];have t:=L.tl (by simpa using c);rw [<- t,Int.sub_mul,Int.mul_comm (T.getD (nextN r).winner 0) (nextN r).times,Int.mul_assoc,Int.mul_assoc,Int.mul_comm (T.getD (nextN r).winner 0) (lenOf r.ls ((nextN r).losers r))];lia
theorem Tow.next {r:Rst} {T:List Int} (h:r.Ok) (ne:r.top≠[]) (t:Tow r T):Tow ((nextN r).behind r) (towB (nextN r) r T):=by
 have L:=nextL h ne;have w:=(nextP h ne).win h ne;have pw:=t.pos _ w;have st:=h.stay ne t.len;refine ⟨?_,fun j hj=>?_,?_⟩
 ·rw [towB_len,t.len,L.ls,length_set]
 ·rw [tow_in h ne t.len hj];have:=t.pos j ((h.down ne).sub j hj);have m:1 * 1<=T.getD (nextN r).winner 0 * (nextN r).times:=Int.mul_le_mul pw L.one (by decide) (by lia);split <;> lia
 ·have:=t.sum;have z:0<=r.ls.getD (nextN r).winner 0 * T.getD (nextN r).winner 0:=Int.mul_nonneg (by have:=h.row.pos _ w;lia) (by lia);by_cases c:(nextN r).isHome=true
  ·rw [if_pos c] at st;lia
  ·rw [if_neg c] at st;lia
def lg (x:Int):Nat:=Nat.log2 x.toNat
theorem lg_le {x y:Int} (h1:1<=x) (h:x<=y):lg x<=lg y:=by
 unfold lg;have hx:x.toNat≠0:=by lia
 have hy:y.toNat≠0:=by lia
 have a:=(Nat.le_log2 hx (k:=x.toNat.log2)).mp (Nat.le_refl _);exact (Nat.le_log2 hy).mpr (by lia)
theorem lg_dbl {x y z:Int} (h1:1<=x) (h2:1<=y) (h:lg x<=lg y) (hz:x + y<=z):lg x + 1<=lg z:=by
 unfold lg at *;have hx:x.toNat≠0:=by lia
 have hy:y.toNat≠0:=by lia
 have hz':z.toNat≠0:=by lia
 have a:=(Nat.le_log2 hx (k:=x.toNat.log2)).mp (Nat.le_refl _);have b:=(Nat.le_log2 hy (k:=x.toNat.log2)).mp h;refine (Nat.le_log2 hz').mpr ?_;rw [Nat.pow_succ];lia
theorem lg_small {x:Int} (h1:1<=x) (h:x<=10 ^ 30):lg x<=99:=by
 unfold lg;have hx:x.toNat≠0:=by lia
 have:=(Nat.log2_lt hx (k:=100)).mpr (by lia);lia
def nS (f:Nat->Nat) (row:List Nat):Nat:=(row.map f).sum
theorem J3x (f:Nat->Nat) (j:Nat) (row:List Nat):nS f (j :: row)=f j + nS f row:=by unfold nS;rw [map_cons,sum_cons]
theorem nS_perm {f:Nat->Nat} {xs ys:List Nat} (h:xs.Perm ys):nS f xs=nS f ys:=by
 unfold nS
 induction h with
 | nil=>rfl
 | cons x _ ih=>rw [map_cons,map_cons,sum_cons,sum_cons,ih]
 | swap x y l=>simp only [map_cons,sum_cons];lia
 | trans _ _ ih1 ih2=>exact ih1.trans ih2
theorem nS_le {f g:Nat->Nat}:∀ {row:List Nat},(∀ j∈row,f j<=g j)->nS f row<=nS g row
 | [],_=>Nat.le_refl _
 | j :: row,h=>by
  rw [J3x,J3x];have:=h j mem_cons_self;have:=nS_le fun i hi=>h i (mem_cons_of_mem _ hi);lia
theorem nS_lt {f g:Nat->Nat}:∀ {row:List Nat},(∀ j∈row,f j<=g j)->∀ {b:Nat},b∈row->f b < g b->nS f row < nS g row
 | j :: row,h,b,hb,hlt=>by
  rw [J3x,J3x];have h1:=h j mem_cons_self;have h2:=nS_le fun i hi=>h i (mem_cons_of_mem _ hi);rcases mem_cons.mp hb with rfl | hb
  ·lia
  ·have:=nS_lt (fun i hi=>h i (mem_cons_of_mem _ hi)) hb hlt;lia
theorem J5e {f:Nat->Nat} {row:List Nat} (nd:row.Nodup) {a:Nat} (ha:a∈row):nS f (withoutR row a) + f a=nS f row:=by
 rw [<- nS_perm (J1o nd ha),J3x];lia
theorem nS_max {f:Nat->Nat} {c:Nat}:∀ {row:List Nat},(∀ j∈row,f j<=c)->nS f row<=row.length * c
 | [],_=>Nat.zero_le _
 | j :: row,h=>by
  rw [J3x,length_cons,Nat.succ_mul];have:=h j mem_cons_self;have:=nS_max fun i hi=>h i (mem_cons_of_mem _ hi);lia
abbrev fE (T:List Int) (row:List Nat):Nat:=nS (fun j=>100 - lg (T.getD j 0)) row
def need (ls:List Int):Int->List Nat->Nat
 | _,[]=>0
 | x,b :: bs=>if x<=ls.getD b 0 then 1 else 1 + need ls (x - ls.getD b 0) bs
theorem need_len (ls:List Int):∀ (x:Int) (bs:List Nat),need ls x bs<=bs.length
 | _,[]=>Nat.le_refl _
 | x,b :: bs=>by
  unfold need;have:=need_len ls (x - ls.getD b 0) bs;rw [length_cons];split <;> lia
theorem need_app (ls:List Int) (ys:List Nat):∀ (x:Int) (bs:List Nat),1<=x->x<=lenOf ls bs->need ls x (bs ++ ys)=need ls x bs
 | x,[],h1,h2=>by rw [J1h] at h2;lia
 | x,b :: bs,h1,h2=>by
  rw [Jg] at h2;rw [cons_append];unfold need;by_cases c:x<=ls.getD b 0
  ·rw [if_pos c,if_pos c]
  ·rw [if_neg c,if_neg c,need_app ls ys (x - ls.getD b 0) bs (by lia) (by lia)]
theorem J5d {ls ls':List Int}:∀ (x:Int) {bs:List Nat},(∀ j∈bs,ls.getD j 0=ls'.getD j 0)->need ls x bs=need ls' x bs
 | _,[],_=>rfl
 | x,b :: bs,h=>by
  unfold need;rw [h b mem_cons_self,J5d (x - ls'.getD b 0) fun j hj=>h j (mem_cons_of_mem _ hj)]
def mu (r:Rst):Stp->Nat
 | .over a _=>if r.ts.getD a false=true then (J3 r.bot a).length else need r.ls (r.ls.getD a 0) (J3 r.bot a).reverse
 | .under a _=>if r.ts.getD a false=true then (J3 r.top a).length else need r.ls (r.ls.getD a 0) (J3 r.top a).reverse
 | .overs _ _=>25
 | .unders _ _=>25
 | _=>0
theorem behind_len (row:List Nat) (a:Nat):(J3 row a).length<=row.length:=by unfold J3;rw [length_drop];lia
theorem J33 {ls:List Int} {ts:List Bool} {row:List Nat} {a:Nat} (h:row.length<=24):(if ts.getD a false=true then (J3 row a).length else need ls (ls.getD a 0) (J3 row a).reverse)<=24:=by
 have h1:=behind_len row a;have h2:=need_len ls (ls.getD a 0) (J3 row a).reverse;rw [List.length_reverse] at h2;split <;> lia
theorem Rst.Ok.len24 {r:Rst} (h:r.Ok):r.top.length<=24/\r.bot.length<=24:=⟨Nat.le_trans h.row.len_le h.few,Nat.le_trans h.rowB.len_le h.few⟩
theorem mu_le {r:Rst} (h:r.Ok) (s:Stp):mu r s<=25:=by
 obtain ⟨h1,h2⟩:=h.len24
 cases s with
 | over a b=>exact Nat.le_succ_of_le (J33 h2)
 | under a b=>exact Nat.le_succ_of_le (J33 h1)
 | _=>first | exact Nat.le_refl _ | exact Nat.zero_le _
theorem J3n {s:List Nat} {a:Nat} (t:List Nat) (h:a ∉ s):J3 (s ++ a :: t) a=t:=by
 unfold J3;rw [idx_app t h,show s ++ a :: t=(s ++ [a]) ++ t by simp,show s.length + 1=(s ++ [a]).length by simp,drop_left]
theorem behind_put {row:List Nat} (nd:row.Nodup) {a b:Nat} (ha:a∈row) (hb:row.getD (row.length - 1) 0=b) (hab:a≠b) :
  ∃ q,J3 row a=q ++ [b]/\J3 (putR row a b false) a=b :: q/\J3 (putR row a b true) a=q/\a ∉ q:=by
 have hne:row≠[]:=fun e=>by rw [e] at ha;cases ha
 have e:=J2i hne;rw [hb] at e;generalize row.dropLast=d at e;subst e;have had:a∈d:=(mem_append.mp ha).resolve_right fun q=>hab (mem_singleton.mp q);obtain ⟨s,t,rfl⟩:=List.append_of_mem had;have n1:=nodup_append.mp nd;have n2:=nodup_append.mp n1.1;have n3:=nodup_cons.mp n2.2.1;have as:a ∉ s:=fun q=>n2.2.2 a q a mem_cons_self rfl;have bd:b ∉ s ++ a :: t:=fun q=>n1.2.2 b q b (by simp) rfl;have at_:a ∉ t:=n3.1
 have w1:withoutR (s ++ a :: t ++ [b]) b=s ++ a :: t:=by
  rw [J1k,J1n,append_nil];exact J1j bd
 have t1:(s ++ a :: t).take (s.length + 1)=s ++ [a]:=by
  rw [show s ++ a :: t=(s ++ [a]) ++ t by simp,show s.length + 1=(s ++ [a]).length by simp,List.take_left]
 have t2:(s ++ a :: t).drop (s.length + 1)=t:=by
  rw [show s ++ a :: t=(s ++ [a]) ++ t by simp,show s.length + 1=(s ++ [a]).length by simp,drop_left]
 refine ⟨t,?_,?_,?_,at_⟩
 ·rw [show s ++ a :: t ++ [b]=s ++ a :: (t ++ [b]) by simp];exact J3n _ as
 ·unfold putR;rw [w1,idx_app t as,if_neg (by decide),t1,t2];rw [show s ++ [a] ++ [b] ++ t=s ++ a :: (b :: t) by simp];exact J3n _ as
 ·unfold putR;rw [w1,idx_app t as,if_pos rfl,List.take_left,drop_left];rw [show s ++ [b] ++ a :: t=(s ++ [b]) ++ a :: t by simp];refine J3n _ fun q=>?_;rcases mem_append.mp q with q | q
  ·exact as q
  ·exact hab (mem_singleton.mp q)
theorem J28 {row:List Nat} {a:Nat} (ha:a∈row) (h:row.getD (row.length - 1) 0≠a):row.getD (row.length - 1) 0∈J3 row a:=by
 have hne:row≠[]:=fun e=>by rw [e] at ha;cases ha
 have h1:row.idxOf a < row.length:=idxOf_lt_length_iff.mpr ha;have h2:row[row.idxOf a]=a:=getElem_idxOf h1;have hl:row.length - 1 < row.length:=by lia
 have e:row.getD (row.length - 1) 0=row[row.length - 1]:=by rw [getD_eq_getElem?_getD,List.getElem?_eq_getElem hl];rfl
 rw [e] at h ⊢;have h3:row.idxOf a≠row.length - 1:=fun q=>h (by simp only [<- q];exact h2);unfold J3;refine List.mem_iff_getElem.mpr ⟨row.length - 1 - (row.idxOf a + 1),by rw [length_drop];lia,?_⟩;rw [List.getElem_drop]
 congr 1
 lia
end Rl
namespace Rl
theorem J5g (ls:List Int) (row:List Nat):lenOf ls row.reverse=lenOf ls row:=J1c (List.reverse_perm row)
theorem mu_down {ls:List Int} {ts ts':List Bool} {row:List Nat} {a b:Nat} (nd:row.Nodup) (ha:a∈row) (hb:row.getD (row.length - 1) 0=b) (hab:a≠b) (hal:a < ls.length) (hb0:1<=ls.getD b 0)
  (hgt:ls.getD b 0 < ls.getD a 0) (hc:ts.getD a false=true\/ls.getD a 0<=lenOf ls (J3 row a)) (ht:ts'.getD a false=ts.getD a false) :
  ((if ts'.getD a false=true then (J3 (putR row a b (ts.getD a false)) a).length else need (ls.set a (ls.getD a 0 - ls.getD b 0)) ((ls.set a (ls.getD a 0 - ls.getD b 0)).getD a 0) (J3 (putR row a b (ts.getD a false)) a).reverse) <
  (if ts.getD a false=true then (J3 row a).length else need ls (ls.getD a 0) (J3 row a).reverse))/\
  (ts'.getD a false=false->¬ lenOf (ls.set a (ls.getD a 0 - ls.getD b 0)) (J3 (putR row a b (ts.getD a false)) a) < (ls.set a (ls.getD a 0 - ls.getD b 0)).getD a 0):=by
 obtain ⟨q,q1,q2,q3,q4⟩:=behind_put nd ha hb hab;have sg:(ls.set a (ls.getD a 0 - ls.getD b 0)).getD a 0=ls.getD a 0 - ls.getD b 0:=by rw [J12 _ _ _ _ hal,if_pos rfl]
 rw [ht,sg];by_cases c:ts.getD a false=true
 ·rw [c,if_pos rfl,if_pos rfl,q3,q1];exact ⟨by simp,fun e=>nomatch e⟩
 ·have c':ts.getD a false=false:=by simpa using c
  have hS:=hc.resolve_left c;rw [c',if_neg (by decide),if_neg (by decide),q2,q1];rw [q1,J1r,Jg,J1h] at hS;constructor
  ·rw [List.reverse_cons,List.reverse_append,List.reverse_cons,List.reverse_nil,nil_append,cons_append,nil_append];have e1:need ls (ls.getD a 0) (b :: q.reverse)=1 + need ls (ls.getD a 0 - ls.getD b 0) q.reverse:=by
    rw [need,if_neg (by lia)]
   have e2:need (ls.set a (ls.getD a 0 - ls.getD b 0)) (ls.getD a 0 - ls.getD b 0) (q.reverse ++ [b])=need ls (ls.getD a 0 - ls.getD b 0) (q.reverse ++ [b]):=J5d _ fun j hj=>by
    have:j≠a:=fun e=>by
     subst e;rcases mem_append.mp hj with x | x
     ·exact q4 (List.mem_reverse.mp x)
     ·exact hab (mem_singleton.mp x)
    rw [J12 _ _ _ _ hal,if_neg this]
   rw [e1,e2,need_app _ _ _ _ (by lia) (by rw [J5g];lia)];lia
  ·intro _;rw [Jk _ _ (fun x=>by
    rcases mem_cons.mp x with x | x
    ·exact hab x
    ·exact q4 x),Jg]
   lia
theorem J54 {x S t:Int} (hS:1<=S) (ht:t=(x - 1) / S):x - t * S<=S:=by
 subst ht;have h1:=Int.emod_lt_of_pos (x - 1) (show 0 < S by lia);have h2:=Int.mul_ediv_add_emod (x - 1) S;rw [Int.mul_comm] at h2;lia
theorem run_down {r:Rst} (h:r.Ok) (ne:r.top≠[]):(nextN r).drops=false->(nextN ((nextN r).behind r)).drops=false->
  ((nextN ((nextN r).behind r)).winner=(nextN r).winner/\mu ((nextN r).behind r) (nextN ((nextN r).behind r)) < mu r (nextN r))\/(nextN r).winner∈(nextN ((nextN r).behind r)).losers ((nextN r).behind r):=by
 have okl:=h.next ne;have tp:=J4o h ne;have mT:=h.mT ne;have mB:=h.mB ne;have mTb:=h.perm.mem_iff.mpr mT;have mBb:=h.perm.mem_iff.mpr mB;have nd:=h.row.nd;have ndB:=h.rowB.nd;have hlt:=h.row.lt
 revert okl tp
 refine J17 h ne (p:=fun s=>(s.behind r).Ok->(if s.drops=true then (s.behind r).top=withoutR r.top s.winner else (s.behind r).top.Perm r.top)->s.drops=false->(nextN (s.behind r)).drops=false->
  ((nextN (s.behind r)).winner=s.winner/\mu (s.behind r) (nextN (s.behind r)) < mu r s)\/s.winner∈(nextN (s.behind r)).losers (s.behind r))
  (fun _ _ _ e=>nomatch e) (fun _ _ _ _ e=>nomatch e) ?_ ?_ ?_ ?_
 ·intro c1 c2 c3 okl tp _;have tp:List.Perm ((Stp.over (lastT r) (lastB r)).behind r).top r.top:=tp;have nel:((Stp.over (lastT r) (lastB r)).behind r).top≠[]:=fun e=>ne (by rw [e] at tp;exact tp.symm.eq_nil);have et:(J1s r (lastT r) (lastB r)).getD (lastT r) false=r.ts.getD (lastT r) false:=by
   unfold J1s;rw [J2e _ _ _ _ (by rw [h.len];exact hlt _ mB),if_neg c1]
  have md:=mu_down (ts':=J1s r (lastT r) (lastB r)) ndB mTb rfl c1 (hlt _ mT) (h.row.pos _ mB) c2 c3 et;refine J17 okl nel (p:=fun s'=>s'.drops=false->(s'.winner=lastT r/\mu ((Stp.over (lastT r) (lastB r)).behind r) s' < mu r (.over (lastT r) (lastB r)))\/lastT r∈s'.losers ((Stp.over (lastT r) (lastB r)).behind r))
   (fun _ e=>nomatch e) (fun _ _ e=>nomatch e) ?_ ?_ ?_ ?_
  ·intro d1 d2 d3 _;exact .inl ⟨rfl,md.1⟩
  ·intro d1 d2 d3 _;exact .inr (mem_singleton.mpr rfl)
  ·intro t d1 d2 d3 d4 d5 d6 _ _ _;exact absurd d6 (md.2 d3)
  ·intro t d1 d2 d3 d4 d5 d6 _ _ _;exact .inr (J28 (okl.mB nel) d1)
 ·intro c1 c2 c3 okl tp _;have tp:List.Perm ((Stp.under (lastB r) (lastT r)).behind r).top r.top:=tp;have nel:((Stp.under (lastB r) (lastT r)).behind r).top≠[]:=fun e=>ne (by rw [e] at tp;exact tp.symm.eq_nil);have et:(J1s r (lastB r) (lastT r)).getD (lastB r) false=r.ts.getD (lastB r) false:=by
   unfold J1s;rw [J2e _ _ _ _ (by rw [h.len];exact hlt _ mT),if_neg (fun e=>c1 e.symm)]
  have md:=mu_down (ts':=J1s r (lastB r) (lastT r)) nd mB rfl (fun e=>c1 e.symm) (hlt _ mB) (h.row.pos _ mT) c2 c3 et;refine J17 okl nel (p:=fun s'=>s'.drops=false->(s'.winner=lastB r/\mu ((Stp.under (lastB r) (lastT r)).behind r) s' < mu r (.under (lastB r) (lastT r)))\/lastB r∈s'.losers ((Stp.under (lastB r) (lastT r)).behind r))
   (fun _ e=>nomatch e) (fun _ _ e=>nomatch e) ?_ ?_ ?_ ?_
  ·intro d1 d2 d3 _;exact .inr (mem_singleton.mpr rfl)
  ·intro d1 d2 d3 _;exact .inl ⟨rfl,md.1⟩
  ·intro t d1 d2 d3 d4 d5 d6 _ _ _;exact .inr (J28 (okl.perm.mem_iff.mpr (okl.mT nel)) (fun e=>d1 e.symm))
  ·intro t d1 d2 d3 d4 d5 d6 _ _ _;exact absurd d6 (md.2 d3)
 ·intro t c1 c2 c3 c4 c5 c6 c7 c8 okl tp _;have tp:List.Perm ((Stp.overs (lastT r) t).behind r).top r.top:=tp;have nel:((Stp.overs (lastT r) t).behind r).top≠[]:=fun e=>ne (by rw [e] at tp;exact tp.symm.eq_nil);have hx:=J54 c5 c7;have sg:((Stp.overs (lastT r) t).behind r).ls.getD (lastT r) 0=r.ls.getD (lastT r) 0 - t * lenOf r.ls (J3 r.bot (lastT r)):=by
   show (r.ls.set (lastT r) _).getD (lastT r) 0=_;rw [J12 _ _ _ _ (hlt _ mT),if_pos rfl]
  have so:lenOf ((Stp.overs (lastT r) t).behind r).ls (J3 r.bot (lastT r))=lenOf r.ls (J3 r.bot (lastT r)):=Jk _ _ (Jq ndB mTb);refine J17 okl nel (p:=fun s'=>s'.drops=false->(s'.winner=lastT r/\mu ((Stp.overs (lastT r) t).behind r) s' < mu r (.overs (lastT r) t))\/lastT r∈s'.losers ((Stp.overs (lastT r) t).behind r))
   (fun _ e=>nomatch e) (fun _ _ e=>nomatch e) ?_ ?_ ?_ ?_
  ·intro d1 d2 d3 _;refine .inl ⟨rfl,Nat.lt_succ_of_le ?_⟩;exact J33 (ls:=((Stp.overs (lastT r) t).behind r).ls) (ts:=r.ts) (a:=lastT r) h.len24.2
  ·intro d1 d2 d3 _;exact .inr (mem_singleton.mpr rfl)
  ·intro t' d1 d2 d3 d4 d5 d6 _ _ _;have d6:lenOf ((Stp.overs (lastT r) t).behind r).ls (J3 r.bot (lastT r)) < ((Stp.overs (lastT r) t).behind r).ls.getD (lastT r) 0:=d6;rw [so,sg] at d6;lia
  ·intro t' d1 d2 d3 d4 d5 d6 _ _ _;exact .inr (J28 (okl.mB nel) d1)
 ·intro t c1 c2 c3 c4 c5 c6 c7 c8 okl tp _;have tp:List.Perm ((Stp.unders (lastB r) t).behind r).top r.top:=tp;have nel:((Stp.unders (lastB r) t).behind r).top≠[]:=fun e=>ne (by rw [e] at tp;exact tp.symm.eq_nil);have hx:=J54 c5 c7;have sg:((Stp.unders (lastB r) t).behind r).ls.getD (lastB r) 0=r.ls.getD (lastB r) 0 - t * lenOf r.ls (J3 r.top (lastB r)):=by
   show (r.ls.set (lastB r) _).getD (lastB r) 0=_;rw [J12 _ _ _ _ (hlt _ mB),if_pos rfl]
  have so:lenOf ((Stp.unders (lastB r) t).behind r).ls (J3 r.top (lastB r))=lenOf r.ls (J3 r.top (lastB r)):=Jk _ _ (Jq nd mB);refine J17 okl nel (p:=fun s'=>s'.drops=false->(s'.winner=lastB r/\mu ((Stp.unders (lastB r) t).behind r) s' < mu r (.unders (lastB r) t))\/lastB r∈s'.losers ((Stp.unders (lastB r) t).behind r))
   (fun _ e=>nomatch e) (fun _ _ e=>nomatch e) ?_ ?_ ?_ ?_
  ·intro d1 d2 d3 _;exact .inr (mem_singleton.mpr rfl)
  ·intro d1 d2 d3 _;refine .inl ⟨rfl,Nat.lt_succ_of_le ?_⟩;exact J33 (ls:=((Stp.unders (lastB r) t).behind r).ls) (ts:=r.ts) (a:=lastB r) h.len24.1
  ·intro t' d1 d2 d3 d4 d5 d6 _ _ _;exact .inr (J28 (okl.perm.mem_iff.mpr (okl.mT nel)) (fun e=>d1 e.symm))
  ·intro t' d1 d2 d3 d4 d5 d6 _ _ _;have d6:lenOf ((Stp.unders (lastB r) t).behind r).ls (J3 r.top (lastB r)) < ((Stp.unders (lastB r) t).behind r).ls.getD (lastB r) 0:=d6;rw [so,sg] at d6;lia
def Up (r:Rst) (T:List Int) (s:Stp):Prop:=s.drops=true\/∃ b∈s.losers r,lg (T.getD b 0)<=lg (T.getD s.winner 0)
open Classical in
noncomputable def pot (r:Rst) (T:List Int):Nat :=
 if r.top=[] then 0 else (fE T r.top * 102 + (if Up r T (nextN r) then 0 else lg (T.getD (nextN r).winner 0) + 1)) * 26 + (if Up r T (nextN r) then 0 else mu r (nextN r))
theorem Tow.lg99 {r:Rst} {T:List Int} (h:r.Ok) (t:Tow r T) {j:Nat} (hj:j∈r.top):lg (T.getD j 0)<=99:=lg_small (t.pos j hj) (t.le h hj)
theorem pot_le {r:Rst} {T:List Int} (h:r.Ok) (t:Tow r T):pot r T<=6367451:=by
 unfold pot;by_cases c:r.top=[]
 ·rw [if_pos c];lia
 rw [if_neg c];have h1:fE T r.top<=r.top.length * 100:=nS_max fun j _=>by lia
 have h2:=h.len24.1;have h3:=t.lg99 h ((nextP h c).win h c);have h4:=mu_le h (nextN r);split <;> lia
theorem up_lt {r:Rst} {T:List Int} (h:r.Ok) (ne:r.top≠[]) (t:Tow r T):fE (towB (nextN r) r T) ((nextN r).behind r).top<=fE T r.top/\(Up r T (nextN r)->fE (towB (nextN r) r T) ((nextN r).behind r).top < fE T r.top):=by
 have L:=nextL h ne;have w:=(nextP h ne).win h ne;have pw:=t.pos _ w;have tp:=J4o h ne;have okl:=h.next ne;have tl:=t.next h ne;have sub:=(h.down ne).sub;have one:T.getD (nextN r).winner 0<=T.getD (nextN r).winner 0 * (nextN r).times:=by
  have:T.getD (nextN r).winner 0 * 1<=T.getD (nextN r).winner 0 * (nextN r).times:=Int.mul_le_mul_of_nonneg_left L.one (by lia);lia
 have le:∀ j∈((nextN r).behind r).top,T.getD j 0<=(towB (nextN r) r T).getD j 0:=fun j hj=>by
  rw [tow_in h ne t.len hj];split <;> lia
 have mono:∀ j∈((nextN r).behind r).top,100 - lg ((towB (nextN r) r T).getD j 0)<=100 - lg (T.getD j 0):=fun j hj=>by
  have:=lg_le (t.pos j (sub j hj)) (le j hj);lia
 have m:=nS_le (f:=fun j=>100 - lg ((towB (nextN r) r T).getD j 0)) (g:=fun j=>100 - lg (T.getD j 0)) mono;by_cases c:(nextN r).drops=true
 ·rw [if_pos c] at tp;have e:=J5e (f:=fun j=>100 - lg (T.getD j 0)) h.row.nd w;have g:=t.lg99 h w;rw [<- tp] at e;have:fE (towB (nextN r) r T) ((nextN r).behind r).top < fE T r.top:=by
   show nS _ _ < nS _ _;rw [<- e];lia
  exact ⟨Nat.le_of_lt this,fun _=>this⟩
 ·rw [if_neg c] at tp;have e:fE T ((nextN r).behind r).top=fE T r.top:=nS_perm tp;refine ⟨by rw [<- e];exact m,fun u=>?_⟩;rcases u with u | ⟨b,hb,hg⟩
  ·exact absurd u c
  rw [<- e];have bl:=L.sub b hb;refine nS_lt mono bl ?_;have e2:=tow_in h ne t.len bl;rw [if_pos hb] at e2;have d:=lg_dbl (z:=(towB (nextN r) r T).getD b 0) (t.pos b (sub b bl)) pw hg (by lia);have g:=tl.lg99 okl bl;lia
theorem pot_lt {r:Rst} {T:List Int} (h:r.Ok) (ne:r.top≠[]) (t:Tow r T):pot ((nextN r).behind r) (towB (nextN r) r T) < pot r T:=by
 obtain ⟨f1,f2⟩:=up_lt h ne t;have okl:=h.next ne;have tl:=t.next h ne;have L:=nextL h ne;have w:=(nextP h ne).win h ne;unfold pot;rw [if_neg ne];have fpos:1<=fE T r.top:=by
  have e:=J5e (f:=fun j=>100 - lg (T.getD j 0)) h.row.nd w;have g:=t.lg99 h w;show 1<=nS _ _;rw [<- e];lia
 by_cases c:((nextN r).behind r).top=[]
 ·rw [if_pos c];lia
 rw [if_neg c];have w':=(nextP okl c).win okl c;have g':=tl.lg99 okl w';have m':=mu_le okl (nextN ((nextN r).behind r));by_cases u:Up r T (nextN r)
 ·rw [if_pos u,if_pos u];have:=f2 u;split <;> lia
 rw [if_neg u,if_neg u];by_cases u':Up ((nextN r).behind r) (towB (nextN r) r T) (nextN ((nextN r).behind r))
 ·rw [if_pos u',if_pos u'];lia
 rw [if_neg u',if_neg u'];have d1:(nextN r).drops=false:=by
  cases q:(nextN r).drops
  ·rfl
  ·exact absurd (.inl q) u
 have d2:(nextN ((nextN r).behind r)).drops=false:=by
  cases q:(nextN ((nextN r).behind r)).drops
  ·rfl
  ·exact absurd (.inl q) u'
 have tp:=J4o h ne;rw [if_neg (by rw [d1];decide)] at tp;have wl:(nextN r).winner∈((nextN r).behind r).top:=tp.mem_iff.mpr w;have ew:(towB (nextN r) r T).getD (nextN r).winner 0=T.getD (nextN r).winner 0:=by
  rw [tow_in h ne t.len wl,if_neg L.no];lia
 rcases run_down h ne d1 d2 with ⟨e,m⟩ | q
 ·rw [e,ew];lia
 ·have hg:¬ lg ((towB (nextN r) r T).getD (nextN r).winner 0)<=lg ((towB (nextN r) r T).getD (nextN ((nextN r).behind r)).winner 0):=fun x=>u' (.inr ⟨_,q,x⟩);rw [ew] at hg;lia
abbrev Cst:=Rst × List Int
def chS (p:Cst):Cst:=((nextN p.1).behind p.1,towB (nextN p.1) p.1 p.2)
def chN (p:Cst):Nat->Cst
 | 0=>p
 | k + 1=>chS (chN p k)
abbrev Band:=Int × Int × Int × Bool
def bndB (p:Cst):List Band:=if (nextN p.1).isHome=true then [((chS p).1.size,p.1.ls.getD (nextN p.1).winner 0,p.2.getD (nextN p.1).winner 0,p.1.ts.getD (nextN p.1).winner false)] else []
def bndN (p:Cst):Nat->List Band
 | 0=>[]
 | k + 1=>bndN p k ++ bndB (chN p k)
theorem bndB_len (p:Cst):(bndB p).length<=1:=by unfold bndB;split <;> simp
theorem bndN_len (p:Cst):∀ k,(bndN p k).length<=k
 | 0=>Nat.le_refl _
 | k + 1=>by
  have h1:=bndN_len p k;have h2:=bndB_len (chN p k);show (bndN p k ++ bndB (chN p k)).length<=k + 1;rw [length_append];lia
def Long (p:Cst) (k:Nat):Prop:=∀ i < k,(chN p i).1.top≠[]
structure Cok (p:Cst):Prop where
 ok:p.1.Ok
 tow:Tow p.1 p.2
theorem Cok.next {p:Cst} (h:Cok p) (ne:p.1.top≠[]):Cok (chS p):=⟨h.ok.next ne,h.tow.next h.ok ne⟩
theorem Cok.at_ {p:Cst} (h:Cok p):∀ {k:Nat},Long p k->Cok (chN p k)
 | 0,_=>h
 | k + 1,l=>(h.at_ fun i hi=>l i (by lia)).next (l k (by lia))
theorem Cok.short {p:Cst} (h:Cok p):∀ {k:Nat},Long p k->k + pot (chN p k).1 (chN p k).2<=pot p.1 p.2
 | 0,_=>by rw [Nat.zero_add];exact Nat.le_refl _
 | k + 1,l=>by
  have h1:=h.short (k:=k) fun i hi=>l i (by lia);have c:=h.at_ (k:=k) fun i hi=>l i (by lia);have h2:pot (chS (chN p k)).1 (chS (chN p k)).2 < _:=pot_lt c.ok (l k (by lia)) c.tow;show k + 1 + pot (chS (chN p k)).1 (chS (chN p k)).2<=_;lia
theorem Cok.few {p:Cst} (h:Cok p) {k:Nat} (l:Long p k):k<=6367451:=by
 have h1:=h.short l;have h2:=pot_le h.ok h.tow;lia
theorem fS_ones {ls:List Int}:∀ {row:List Nat} {n:Nat},(∀ j∈row,j < n)->wS ls (List.replicate n 1) row=lenOf ls row
 | row,n,h=>J4y fun j hj=>by
  have:(List.replicate n (1:Int)).getD j 0=1:=by
   rw [getD_eq_getElem?_getD,List.getElem?_replicate,if_pos (h j hj)];rfl
  rw [this,Int.mul_one]
theorem whole_cok {r:Rst} (h:r.Ok) (hs:r.size<=10 ^ 30):Cok (r,List.replicate r.ls.length 1):=⟨h,by
 refine ⟨List.length_replicate,fun j hj=>?_,?_⟩
 ·show 1<=(List.replicate r.ls.length (1:Int)).getD j 0;rw [getD_eq_getElem?_getD,List.getElem?_replicate,if_pos (h.row.lt j hj)];exact Int.le_refl _
 ·show wS r.ls (List.replicate r.ls.length 1) r.top<=_;rw [fS_ones h.row.lt];exact hs⟩
theorem Cok.size30 {p:Cst} (h:Cok p):p.1.size<=10 ^ 30:=by
 have h1:p.1.size<=wS p.1.ls p.2 p.1.top:=by
  show lenOf _ _<=_;have:∀ row:List Nat,(∀ j∈row,j∈p.1.top)->lenOf p.1.ls row<=wS p.1.ls p.2 row:=fun row=>by
   induction row with
   | nil=>intro _;exact Int.le_refl _
   | cons a row ih =>
    intro hs;have ha:=hs a mem_cons_self;have h1:=h.ok.row.pos a ha;have h2:=h.tow.pos a ha;have h3:p.1.ls.getD a 0 * 1<=p.1.ls.getD a 0 * p.2.getD a 0:=Int.mul_le_mul_of_nonneg_left h2 (by lia);have h4:=ih fun j hj=>hs j (mem_cons_of_mem _ hj);rw [Jg];unfold wS at *;rw [J22];lia
  exact this _ fun j hj=>hj
 have:=h.tow.sum;lia
end Rl
namespace Rl
end Rl
namespace Rl
def IsO (os:List Nat):Prop:=os.Perm (List.range os.length)
theorem IsO.nd {os:List Nat} (h:IsO os):os.Nodup:=h.nodup_iff.mpr nodup_range
theorem IsO.lt {os:List Nat} (h:IsO os):∀ x∈os,x < os.length:=fun x hx=>mem_range.mp (h.mem_iff.mp hx)
theorem IsO.mem {os:List Nat} (h:IsO os) {x:Nat} (hx:x < os.length):x∈os:=h.mem_iff.mpr (mem_range.mpr hx)
theorem IsO.perm {os qs:List Nat} (h:IsO os) (p:qs.Perm os):IsO qs:=by
 unfold IsO;rw [p.length_eq];exact p.trans h
end Rl
namespace Rl
def OrdX (xs:List Int) (n:Nat):Prop:=∃ os:List Nat,xs=natI os/\os.Perm (List.range n)
theorem J2r (os:List Nat):(natI os).length=os.length:=length_map ..
theorem ordX_of {xs:List Int} {n:Nat} (h:(natI (List.range n)).Perm xs):OrdX xs n:=by
 refine ⟨xs.map Int.toNat,?_,?_⟩
 ·unfold natI;rw [map_map]
  conv=>lhs;rw [<- map_id xs]
  apply map_congr_left;intro x hx;obtain ⟨k,_,rfl⟩:=mem_map.mp (h.symm.mem_iff.mp hx);simp
 ·have e:(natI (List.range n)).map Int.toNat=List.range n:=by
   unfold natI;rw [map_map]
   conv=>rhs;rw [<- map_id (List.range n)]
   apply map_congr_left;intro x _;simp
  have:=(h.map Int.toNat).symm;rwa [e] at this
end Rl
namespace Rl
theorem idx_get {l:List Nat} (nd:l.Nodup) {j p:Nat} (h:l[j]?=some p):l.idxOf p=j:=by
 have hj:j < l.length:=(List.getElem?_eq_some_iff.mp h).1;have e:l[j]=p:=(List.getElem?_eq_some_iff.mp h).2;have hm:p∈l:=e ▸ List.getElem_mem hj;have h1:=List.idxOf_lt_length_of_mem hm;have h2:l[l.idxOf p]=p:=getElem_idxOf h1;exact (getElem_inj nd).mp (h2.trans e.symm)
end Rl
namespace Rl
end Rl
namespace Rl
end Rl
namespace Rl
noncomputable section
def J3k (l:List Nat):Nat->List Nat:=@List.rec Nat (fun _=>Nat->List Nat) (fun _=>[]) (fun h _ ih k=>cond (Nat.beq h k) (k :: ih (Nat.succ k)) (ih (Nat.succ k))) l
end
def J3o:List Nat->List (Nat × Nat)
 | a :: b :: r=>(2 * a + 1,2 * b) :: J3o (b :: r)
 | _=>[]
def J1y (os:List Nat):List (Nat × Nat):=J3o (List.range os.length) ++ J3o os ++ [(0,2 * os.getD 0 0),(2 * (os.length - 1) + 1,2 * os.getD (os.length - 1) 0 + 1)]
def meet1 (l:List Nat) (p:Nat × Nat):List Nat:=l.map fun e=>if e=max (l.getD p.1 0) (l.getD p.2 0) then min (l.getD p.1 0) (l.getD p.2 0) else e
def J1e (os:List Nat):List Nat:=(J1y os).foldl meet1 (List.range (2 * os.length))
noncomputable def fixL (l:List Nat):List Nat:=J3k l 0
theorem beqN (a b:Nat):Nat.beq a b=decide (a=b):=by
 cases c:Nat.beq a b with
 | true=>exact (decide_eq_true (Nat.eq_of_beq_eq_true c)).symm
 | false=>exact (decide_eq_false (Nat.ne_of_beq_eq_false c)).symm
end Rl
namespace Rl
def Idem (l:List Nat):Prop:=∀ v∈l,l[v]?=some v
theorem J3h (n:Nat):Idem (List.range n):=fun v hv=>by
 rw [getElem?_range (mem_range.mp hv)]
theorem J1g (l:List Nat) (p:Nat × Nat):(meet1 l p).length=l.length:=length_map ..
theorem J34 {l:List Nat} {i:Nat} (h:i < l.length):l[i]?=some (l.getD i 0):=by
 rw [getD_eq_getElem?_getD,List.getElem?_eq_getElem h];rfl
theorem idem_meet {l:List Nat} (h:Idem l) {p:Nat × Nat} (h1:p.1 < l.length) (h2:p.2 < l.length):Idem (meet1 l p):=by
 have m1:l.getD p.1 0∈l:=mem_of_getElem? (J34 h1);have m2:l.getD p.2 0∈l:=mem_of_getElem? (J34 h2);obtain ⟨x,hx⟩:∃ x,x=l.getD p.1 0:=⟨_,rfl⟩;obtain ⟨y,hy⟩:∃ y,y=l.getD p.2 0:=⟨_,rfl⟩;have e:meet1 l p=l.map fun e=>if e=max x y then min x y else e:=by unfold meet1;rw [hx,hy]
 rw [e];rw [<- hx] at m1;rw [<- hy] at m2;have mn:min x y∈l:=by rcases Nat.le_total x y with q | q <;> simp only [Nat.min_eq_left q,Nat.min_eq_right q] <;> assumption
 intro v hv;obtain ⟨u,hu,e2⟩:=mem_map.mp hv;rw [getElem?_map];by_cases c:u=max x y
 ·rw [if_pos c] at e2;subst e2;rw [h _ mn];show some (if min x y=max x y then min x y else min x y)=_;rw [ite_self]
 ·rw [if_neg c] at e2;subst e2;rw [h _ hu];show some (if u=max x y then min x y else u)=_;rw [if_neg c]
theorem J4x:∀ (ps:List (Nat × Nat)) (l:List Nat),Idem l->(∀ p∈ps,p.1 < l.length/\p.2 < l.length)->Idem (ps.foldl meet1 l)/\(ps.foldl meet1 l).length=l.length
 | [],l,h,_=>⟨h,rfl⟩
 | p :: ps,l,h,hp=>by
  have q:=hp p (mem_cons_self ..);have r:=J4x ps (meet1 l p) (idem_meet h q.1 q.2) fun p' hp'=>by rw [J1g];exact hp p' (mem_cons_of_mem _ hp')
  rw [J1g] at r;exact r
theorem J6i {n:Nat}:∀ {row:List Nat},(∀ x∈row,x < n)->∀ p∈J3o row,p.1 < 2 * n/\p.2 < 2 * n
 | [],_,p,hp=>(nomatch hp)
 | [_],_,p,hp=>(nomatch hp)
 | a :: b :: r,h,p,hp=>by
  rcases mem_cons.mp hp with e | e
  ·have h1:=h a (mem_cons_self ..);have h2:=h b (mem_cons_of_mem _ (mem_cons_self ..));subst e;exact ⟨by show 2 * a + 1 < _;omega,by show 2 * b < _;omega⟩
  ·exact J6i (fun x hx=>h x (mem_cons_of_mem _ hx)) p e
theorem J68 {os:List Nat} (io:IsO os) (h1:1<=os.length):∀ p∈J1y os,p.1 < 2 * os.length/\p.2 < 2 * os.length:=fun p hp=>by
 have hg:∀ i,i < os.length->os.getD i 0 < os.length:=fun i hi=>io.lt _ (mem_of_getElem? (J34 hi));rcases mem_append.mp hp with hp | hp
 ·rcases mem_append.mp hp with hp | hp
  ·exact J6i (fun x hx=>mem_range.mp hx) p hp
  ·exact J6i io.lt p hp
 ·have g0:=hg 0 (by omega);have g1:=hg (os.length - 1) (by omega);rcases mem_cons.mp hp with e | e
  ·subst e;exact ⟨by show 0 < _;omega,by show 2 * os.getD 0 0 < _;omega⟩
  ·have e:=mem_singleton.mp e;subst e;exact ⟨by show 2 * (os.length - 1) + 1 < _;omega,by show 2 * os.getD (os.length - 1) 0 + 1 < _;omega⟩
theorem J2t {os:List Nat} (io:IsO os) (h1:1<=os.length):Idem (J1e os)/\(J1e os).length=2 * os.length:=by
 have r:=J4x (J1y os) (List.range (2 * os.length)) (J3h _) (by rw [length_range];exact J68 io h1);rw [length_range] at r;exact r
theorem J3j:∀ (l:List Nat) (k e:Nat),e∈J3k l k↔∃ i,l[i]?=some e/\e=k + i
 | [],k,e=>⟨fun h=>(nomatch h),fun ⟨i,h,_⟩=>by cases h⟩
 | h :: t,k,e=>by
  have ih:=J3j t (k + 1) e;show e∈cond (Nat.beq h k) (k :: J3k t (k + 1)) (J3k t (k + 1))↔_;rw [beqN,Bool.cond_decide];have rest:(∃ i,t[i]?=some e/\e=k + 1 + i)->∃ i,(h :: t)[i]?=some e/\e=k + i:=fun h9=>by obtain ⟨i,a,b⟩:=h9;exact ⟨i + 1,a,by omega⟩
  have back:(∃ i,(h :: t)[i]?=some e/\e=k + i)->(h=e/\e=k)\/∃ i,t[i]?=some e/\e=k + 1 + i:=fun h9=>by
   obtain ⟨i,a,b⟩:=h9
   cases i with
   | zero=>exact .inl ⟨by cases a;rfl,by omega⟩
   | succ i=>exact .inr ⟨i,a,by omega⟩
  by_cases c:h=k
  ·rw [if_pos c,mem_cons,ih];exact ⟨fun q=>q.elim (fun e=>⟨0,by rw [e,<- c];rfl,by omega⟩) rest,fun q=>(back q).imp (fun z=>z.2) id⟩
  ·rw [if_neg c,ih];exact ⟨rest,fun q=>(back q).elim (fun z=>absurd (z.1.trans z.2) c) id⟩
theorem J35:∀ (l:List Nat) (k:Nat),(J3k l k).Pairwise (· < ·)
 | [],k=>List.Pairwise.nil
 | h :: t,k=>by
  show (cond (Nat.beq h k) (k :: J3k t (k + 1)) (J3k t (k + 1))).Pairwise (· < ·);cases Nat.beq h k
  ·exact J35 t (k + 1)
  ·refine List.Pairwise.cons (fun e he=>?_) (J35 t (k + 1));obtain ⟨i,_,q⟩:=(J3j t (k + 1) e).mp he;omega
theorem J2w {l:List Nat} (h:Idem l) (e:Nat):e∈fixL l↔e∈l:=by
 unfold fixL;rw [J3j];exact ⟨fun h9=>by obtain ⟨i,a,_⟩:=h9;exact mem_of_getElem? a,fun m=>⟨e,h e m,by omega⟩⟩
theorem J20 (l:List Nat):(fixL l).Nodup:=(J35 l 0).imp fun h=>Nat.ne_of_lt h
theorem fixL_uni {l:List Nat} (h:Idem l) {ns:List Int} (h1:ns.Pairwise (· < ·)) (h2:∀ x,x∈ns↔x∈natI l):ns=natI (fixL l):=by
 have s2:(natI (fixL l)).Pairwise (· < ·):=by
  unfold natI;rw [pairwise_map];exact (J35 l 0).imp fun h=>by omega
 have p:ns.Perm (natI (fixL l)):=(perm_ext_iff_of_nodup (h1.imp fun h=>Int.ne_of_lt h) (s2.imp fun h=>Int.ne_of_lt h)).mpr fun x=>by
  rw [h2];unfold natI;rw [mem_map,mem_map];exact ⟨fun h9=>by obtain ⟨a,m,e⟩:=h9;exact ⟨a,(J2w h a).mpr m,e⟩,fun h9=>by obtain ⟨a,m,e⟩:=h9;exact ⟨a,(J2w h a).mp m,e⟩⟩
 exact List.Perm.eq_of_pairwise (le:=(· < ·)) (fun a b _ _ x y=>by omega) h1 s2 p
noncomputable def cornO (os:List Nat):List Nat:=(J1e os).map fun v=>(fixL (J1e os)).idxOf v
theorem corn_max {os:List Nat} (io:IsO os) (h1:1<=os.length) {M:Nat} (hM:M∈cornO os) (ha:∀ c∈cornO os,c<=M):M + 1=(fixL (J1e os)).length:=by
 obtain ⟨id,_⟩:=J2t io h1;unfold cornO at hM ha;obtain ⟨v,hv,rfl⟩:=mem_map.mp hM;have lt:=List.idxOf_lt_length_of_mem ((J2w id v).mpr hv);have hl:(fixL (J1e os)).length - 1 < (fixL (J1e os)).length:=by omega
 have hm:=(J2w id _).mp (List.getElem_mem hl);have q:=ha _ (mem_map.mpr ⟨_,hm,rfl⟩);rw [idx_get (J20 _) (List.getElem?_eq_getElem hl)] at q;omega
end Rl
namespace Rl
open L2
end Rl
namespace Tm
open PySem PyProof.Rows
end Tm
namespace Tm
open PySem PyProof.Rows
end Tm
namespace Tm
open PySem PyProof.Rows
end Tm
namespace Tm
open PySem PyProof.Rows
end Tm
namespace Tm
open PySem PyProof.Rows
end Tm
namespace Tm
open PySem PyProof.Rows
end Tm
namespace Tm
open PySem PyProof.Rows
end Tm
namespace Tm
open PySem PyProof.Rows
end Tm
namespace Tm
open PySem PyProof.Rows
end Tm
namespace L2
open PySem PySem.Spec PyProof.Rows Tm
end L2
namespace Rl
open L2 Tm
end Rl
namespace Rl
open L2 Tm
end Rl
namespace Rl
open L2 Tm
end Rl
namespace Rl
def repF (ps:List (Nat × Nat)) (N:Nat):List Nat:=ps.foldl meet1 (List.range N)
structure Rep (N:Nat) (ps:List (Nat × Nat)) (l:List Nat):Prop where
 len:l.length=N
 idem:Idem l
 le:∀ x,x < N->l.getD x 0<=x
 eq:∀ p∈ps,l.getD p.1 0=l.getD p.2 0
 cl:∀ S:Nat->Prop,(∀ p∈ps,(S p.1↔S p.2))->∀ x,x < N->(S x↔S (l.getD x 0))
theorem getD_map {l:List Nat} {f:Nat->Nat} {x:Nat} (h:x < l.length):(l.map f).getD x 0=f (l.getD x 0):=by
 rw [getD_eq_getElem?_getD,getElem?_map,List.getElem?_eq_getElem h,getD_eq_getElem?_getD,List.getElem?_eq_getElem h];rfl
theorem Jr {l:List Nat} {p:Nat × Nat} {x:Nat} (h:x < l.length):(meet1 l p).getD x 0=if l.getD x 0=max (l.getD p.1 0) (l.getD p.2 0) then min (l.getD p.1 0) (l.getD p.2 0) else l.getD x 0:=getD_map h
theorem Rep.nil (N:Nat):Rep N [] (List.range N):=by
 have g:∀ x,x < N->(List.range N).getD x 0=x:=fun x h=>by rw [getD_eq_getElem?_getD,getElem?_range h];rfl
 exact ⟨length_range,J3h N,fun x h=>(by rw [g x h];exact Nat.le_refl _),fun p hp=>(nomatch hp),fun S _ x h=>(by rw [g x h])⟩
theorem Rep.snoc {N:Nat} {ps:List (Nat × Nat)} {l:List Nat} {p:Nat × Nat} (r:Rep N ps l) (h1:p.1 < N) (h2:p.2 < N):Rep N (ps ++ [p]) (meet1 l p):=by
 have L:=r.len;refine ⟨by rw [J1g,L],idem_meet r.idem (by rw [L];exact h1) (by rw [L];exact h2),fun x hx=>?_,fun q hq=>?_,fun S hS x hx=>?_⟩
 ·rw [Jr (by omega)];have:=r.le x hx;split <;> omega
 ·rcases mem_append.mp hq with z | z
  ·have e:=r.eq q z;by_cases c1:q.1 < l.length
   ·by_cases c2:q.2 < l.length
    ·rw [Jr c1,Jr c2,e]
    ·have c3:(meet1 l p).getD q.2 0=0:=by rw [getD_eq_getElem?_getD,getElem?_eq_none (by rw [J1g];omega)];rfl
     have c4:l.getD q.2 0=0:=by rw [getD_eq_getElem?_getD,getElem?_eq_none (by omega)];rfl
     rw [Jr c1,c3,e,c4];split <;> omega
   ·have c3:(meet1 l p).getD q.1 0=0:=by rw [getD_eq_getElem?_getD,getElem?_eq_none (by rw [J1g];omega)];rfl
    have c4:l.getD q.1 0=0:=by rw [getD_eq_getElem?_getD,getElem?_eq_none (by omega)];rfl
    by_cases c2:q.2 < l.length
    ·rw [c3,Jr c2,<- e,c4];split <;> omega
    ·have c5:(meet1 l p).getD q.2 0=0:=by rw [getD_eq_getElem?_getD,getElem?_eq_none (by rw [J1g];omega)];rfl
     rw [c3,c5]
  ·rw [mem_singleton.mp z,Jr (by omega),Jr (by omega)];split <;> split <;> omega
 ·have c:=fun y hy=>r.cl S (fun q hq=>hS q (mem_append_left _ hq)) y hy;have cp:=hS p (mem_append_right _ (List.mem_singleton_self _));rw [Jr (by omega),c x hx];have ca:=c p.1 h1;have cb:=c p.2 h2;by_cases e:l.getD x 0=max (l.getD p.1 0) (l.getD p.2 0)
  ·rw [if_pos e,e];rcases Nat.le_total (l.getD p.1 0) (l.getD p.2 0) with o | o
   ·rw [Nat.max_eq_right o,Nat.min_eq_left o,<- cb,<- ca,cp]
   ·rw [Nat.max_eq_left o,Nat.min_eq_right o,<- cb,<- ca,cp]
  ·rw [if_neg e]
theorem rep_fold:∀ (qs:List (Nat × Nat)) {N:Nat} {ps:List (Nat × Nat)} {l:List Nat},Rep N ps l->(∀ p∈qs,p.1 < N/\p.2 < N)->Rep N (ps ++ qs) (qs.foldl meet1 l)
 | [],N,ps,l,r,_=>by rw [append_nil];exact r
 | q :: qs,N,ps,l,r,h=>by
  have hq:=h q (mem_cons_self ..);have:=rep_fold qs (r.snoc hq.1 hq.2) fun p hp=>h p (mem_cons_of_mem _ hp);rwa [List.append_assoc] at this
theorem J1u {ps:List (Nat × Nat)} {N:Nat} (h:∀ p∈ps,p.1 < N/\p.2 < N):Rep N ps (repF ps N):=by
 have:=rep_fold ps (Rep.nil N) h;rwa [nil_append] at this
theorem list_getD {a b:List Nat} (hl:a.length=b.length) (h:∀ x,x < a.length->a.getD x 0=b.getD x 0):a=b:=by
 refine List.ext_getElem hl fun i h1 h2=>?_;have:=h i h1;rwa [getD_eq_getElem?_getD,List.getElem?_eq_getElem h1,getD_eq_getElem?_getD,List.getElem?_eq_getElem h2] at this
theorem Rep.lt {N:Nat} {ps:List (Nat × Nat)} {l:List Nat} (r:Rep N ps l) {x:Nat} (h:x < N):l.getD x 0 < N:=Nat.lt_of_le_of_lt (r.le x h) h
theorem Rep.self {N:Nat} {ps:List (Nat × Nat)} {l:List Nat} (r:Rep N ps l) {x:Nat} (h:x < N):l.getD (l.getD x 0) 0=l.getD x 0:=by
 have hm:l.getD x 0∈l:=by
  rw [getD_eq_getElem?_getD,List.getElem?_eq_getElem (by rw [r.len];exact h)];exact List.getElem_mem _
 have:=r.idem _ hm;rw [getD_eq_getElem?_getD (l:=l) (i:=l.getD x 0),this];rfl
theorem Rep.uni {N:Nat} {ps qs:List (Nat × Nat)} {l m:List Nat} (r:Rep N ps l) (q:Rep N qs m) (h1:∀ p∈ps,m.getD p.1 0=m.getD p.2 0) (h2:∀ p∈qs,l.getD p.1 0=l.getD p.2 0):l=m:=by
 refine list_getD (by rw [r.len,q.len]) fun x hx=>?_;have hx:x < N:=by rw [<- r.len];exact hx
 have a:=(r.cl (fun y=>m.getD y 0=m.getD x 0) (fun p hp=>by rw [h1 p hp]) x hx).mp rfl;have b:=(q.cl (fun y=>l.getD y 0=l.getD x 0) (fun p hp=>by rw [h2 p hp]) x hx).mp rfl;have c:=q.le _ (r.lt hx);have d:=r.le _ (q.lt hx);omega
theorem Rep.fix {N:Nat} {ps:List (Nat × Nat)} {l:List Nat} (r:Rep N ps l) (x:Nat):x∈fixL l↔x < N/\l.getD x 0=x:=by
 rw [J2w r.idem];constructor
 ·intro h;have e:=r.idem x h;have hx:=(List.getElem?_eq_some_iff.mp e).1;exact ⟨by rw [<- r.len];exact hx,by rw [getD_eq_getElem?_getD,e];rfl⟩
 ·rintro ⟨h1,h2⟩;have hx:x < l.length:=by rw [r.len];exact h1
  rw [getD_eq_getElem?_getD,List.getElem?_eq_getElem hx] at h2;have h2:l[x]=x:=h2;exact h2 ▸ List.getElem_mem hx
theorem Rep.count {N:Nat} {ps:List (Nat × Nat)} {l:List Nat} {p:Nat × Nat} (r:Rep N ps l) (h1:p.1 < N) (h2:p.2 < N):(fixL (meet1 l p)).length + (if l.getD p.1 0=l.getD p.2 0 then 0 else 1)=(fixL l).length:=by
 have r':=r.snoc h1 h2;have L:=r.len;by_cases c:l.getD p.1 0=l.getD p.2 0
 ·rw [if_pos c];have e:meet1 l p=l:=by
   refine list_getD (J1g l p) fun x hx=>?_;rw [J1g] at hx;rw [Jr hx,c,Nat.max_self,Nat.min_self];split <;> omega
  rw [e];rfl
 ·rw [if_neg c];obtain ⟨M,hM⟩:∃ M,M=max (l.getD p.1 0) (l.getD p.2 0):=⟨_,rfl⟩;have fM:M∈fixL l:=(r.fix M).mpr (by
   rcases Nat.le_total (l.getD p.1 0) (l.getD p.2 0) with o | o
   ·rw [hM,Nat.max_eq_right o];exact ⟨r.lt h2,r.self h2⟩
   ·rw [hM,Nat.max_eq_left o];exact ⟨r.lt h1,r.self h1⟩)
  have pr:(M :: fixL (meet1 l p)).Perm (fixL l):=by
   have nM:M ∉ fixL (meet1 l p):=fun h=>by
    obtain ⟨g1,g2⟩:=(r'.fix M).mp h;obtain ⟨g3,g4⟩:=(r.fix M).mp fM;rw [Jr (by omega),g4,<- hM,if_pos rfl] at g2;omega
   refine (perm_ext_iff_of_nodup (nodup_cons.mpr ⟨nM,J20 _⟩) (J20 _)).mpr fun x=>?_;rw [mem_cons,r'.fix,r.fix];constructor
   ·rintro (rfl | ⟨g1,g2⟩)
    ·exact (r.fix x).mp fM
    ·refine ⟨g1,?_⟩;rw [Jr (by omega)] at g2;by_cases d:l.getD x 0=max (l.getD p.1 0) (l.getD p.2 0)
     ·rw [if_pos d] at g2;have:=r.le x g1;omega
     ·rw [if_neg d] at g2;exact g2
   ·rintro ⟨g1,g2⟩;by_cases d:x=M
    ·exact .inl d
    ·refine .inr ⟨g1,?_⟩;rw [Jr (by omega),if_neg (by omega)];exact g2
  have:=pr.length_eq;rw [length_cons] at this;omega
theorem J40:∀ {A B:List Nat} (S:Nat->Bool),A.length=B.length->(∀ p∈A.zip B,S p.1=S p.2)->A.countP S=B.countP S
 | [],[],_,_,_=>rfl
 | a :: A,b :: B,S,hl,h=>by
  have e:=h (a,b) (by rw [List.zip_cons_cons];exact mem_cons_self ..);have ih:=J40 (A:=A) (B:=B) S (by simpa using hl) fun p hp=>h p (by rw [List.zip_cons_cons];exact mem_cons_of_mem _ hp);have e:S a=S b:=e;rw [countP_cons,countP_cons,ih,e]
 | [],_ :: _,_,hl,_=>by cases hl
 | _ :: _,[],_,hl,_=>by cases hl
def itf (f:Nat->Nat):Nat->Nat->Nat
 | 0,x=>x
 | k + 1,x=>f (itf f k x)
theorem apart {A0 B0:List Nat} {α z β ω N:Nat} (hl:A0.length=B0.length) (pA:(α :: z :: A0).Perm (List.range N)) (pB:(β :: ω :: B0).Perm (List.range N)) {l:List Nat} (r:Rep N (A0.zip B0) l):l.getD α 0≠l.getD z 0:=by
 have ndA:(α :: z :: A0).Nodup:=pA.nodup_iff.mpr nodup_range;have ndB:(β :: ω :: B0).Nodup:=pB.nodup_iff.mpr nodup_range;have inA:∀ x,x∈α :: z :: A0↔x < N:=fun x=>pA.mem_iff.trans mem_range;have inB:∀ x,x∈β :: ω :: B0↔x < N:=fun x=>pB.mem_iff.trans mem_range;have LA:(α :: z :: A0).length=N:=by rw [pA.length_eq,length_range]
 have LB:(β :: ω :: B0).length=N:=by rw [pB.length_eq,length_range]
 obtain ⟨f,hf⟩:∃ f:Nat->Nat,f=fun x=>(α :: z :: A0).getD ((β :: ω :: B0).idxOf x) 0:=⟨_,rfl⟩;have ixl:∀ x,x < N->(β :: ω :: B0).idxOf x < N:=fun x h=>by rw [<- LB];exact idxOf_lt_length_iff.mpr ((inB x).mpr h)
 have fl:∀ x,x < N->f x < N:=fun x h=>by
  rw [hf];refine (inA _).mp ?_;show (α :: z :: A0).getD _ 0∈_;rw [getD_eq_getElem?_getD,List.getElem?_eq_getElem (by rw [LA];exact ixl x h)];exact List.getElem_mem _
 have fi:∀ x y,x < N->y < N->f x=f y->x=y:=fun x y hx hy e=>by
  rw [hf] at e;have e:(α :: z :: A0).getD ((β :: ω :: B0).idxOf x) 0=(α :: z :: A0).getD ((β :: ω :: B0).idxOf y) 0:=e;have h1:(β :: ω :: B0).idxOf x < (α :: z :: A0).length:=by rw [LA];exact ixl x hx
  have h2:(β :: ω :: B0).idxOf y < (α :: z :: A0).length:=by rw [LA];exact ixl y hy
  rw [getD_eq_getElem?_getD,List.getElem?_eq_getElem h1,getD_eq_getElem?_getD,List.getElem?_eq_getElem h2] at e;have e3:(β :: ω :: B0).idxOf x=(β :: ω :: B0).idxOf y:=(getElem_inj ndA).mp e;have g1:=getElem_idxOf (idxOf_lt_length_iff.mpr ((inB x).mpr hx));have g2:=getElem_idxOf (idxOf_lt_length_iff.mpr ((inB y).mpr hy));rw [<- g1,<- g2]
  congr 1
 have fe:∀ p∈A0.zip B0,f p.2=p.1/\p.1∈A0/\p.2∈B0:=fun p hp=>by
  obtain ⟨i,hi,e⟩:=List.getElem_of_mem hp;rw [List.length_zip] at hi;rw [List.getElem_zip] at e;have e1:A0[i]=p.1:=congrArg Prod.fst e;have e2:B0[i]=p.2:=congrArg Prod.snd e;have hB:(β :: ω :: B0).idxOf p.2=i + 2:=by
   have:=List.Nodup.idxOf_getElem ndB (i + 2) (by simp;omega);have e3:(β :: ω :: B0)[i + 2]'(by simp;omega)=p.2:=by show B0[i]=p.2;exact e2
   rwa [e3] at this
  refine ⟨?_,e1 ▸ List.getElem_mem _,e2 ▸ List.getElem_mem _⟩;rw [hf];show (α :: z :: A0).getD ((β :: ω :: B0).idxOf p.2) 0=p.1;rw [hB];show A0.getD i 0=p.1;rw [getD_eq_getElem?_getD,List.getElem?_eq_getElem (by omega)];exact e1
 have hα:α < N:=(inA α).mp (mem_cons_self ..);have hz:z < N:=(inA z).mp (mem_cons_of_mem _ (mem_cons_self ..));obtain ⟨n1,n2⟩:=nodup_cons.mp ndA;obtain ⟨n3,n4⟩:=nodup_cons.mp n2;have it:∀ k,itf f k α < N:=fun k=>by
  induction k with
  | zero=>exact hα
  | succ k ih=>exact fl _ ih
 have S:=r.cl (fun x=>∃ k,x=itf f k α/\∀ m,1<=m->m<=k->itf f m α≠α/\itf f m α≠z) (fun p hp=>by
  obtain ⟨e1,e2,e3⟩:=fe p hp;have na:p.1≠α:=fun e=>n1 (mem_cons_of_mem _ (e ▸ e2));have nz:p.1≠z:=fun e=>n3 (e ▸ e2);constructor
  ·rintro ⟨k,e,h⟩
   match k with
   | 0=>exact absurd e na
   | k + 1 =>
    refine ⟨k,fi _ _ ((inB _).mp (mem_cons_of_mem _ (mem_cons_of_mem _ e3))) (it k) (by rw [e1];exact e),fun m m1 m2=>h m m1 (by omega)⟩
  ·rintro ⟨k,e,h⟩;refine ⟨k + 1,by rw [<- e1,e];rfl,fun m m1 m2=>?_⟩;by_cases c:m=k + 1
   ·subst c;have e4:itf f (k + 1) α=p.1:=by rw [<- e1,e];rfl
    rw [e4];exact ⟨na,nz⟩
   ·exact h m m1 (by omega))
 intro e;have s1:=(S α hα).mp ⟨0,rfl,fun m m1 m2=>by omega⟩;rw [e] at s1;obtain ⟨k,ek,hk⟩:=(S z hz).mpr s1
 match k with
 | 0=>exact n1 (by rw [show z=α from ek];exact mem_cons_self ..)
 | k + 1=>exact (hk (k + 1) (by omega) (Nat.le_refl _)).2 ek.symm
theorem four {A0 B0:List Nat} {α z β ω N:Nat} (hl:A0.length=B0.length) (pA:(α :: z :: A0).Perm (List.range N)) (pB:(β :: ω :: B0).Perm (List.range N)) {l:List Nat} (r:Rep N (A0.zip B0) l) :
  (l.getD α 0=l.getD β 0/\l.getD z 0=l.getD ω 0/\l.getD α 0≠l.getD z 0)\/(l.getD α 0=l.getD ω 0/\l.getD z 0=l.getD β 0/\l.getD α 0≠l.getD z 0):=by
 have ne:=apart hl pA pB r;have cnt:∀ S:Nat->Bool,(∀ p∈A0.zip B0,S p.1=S p.2)->(S α).toNat + (S z).toNat=(S β).toNat + (S ω).toNat:=fun S h=>by
  have e1:=pA.countP_eq S;have e2:=pB.countP_eq S;have e3:=J40 S hl h;rw [countP_cons,countP_cons] at e1 e2;have t:∀ b:Bool,(if b=true then 1 else 0)=b.toNat:=fun b=>by cases b <;> rfl
  rw [t,t] at e1 e2;omega
 have c1:=cnt (fun x=>decide (l.getD x 0=l.getD α 0)) fun p hp=>by rw [r.eq p hp]
 have c2:=cnt (fun x=>decide (l.getD x 0=l.getD z 0)) fun p hp=>by rw [r.eq p hp]
 rw [decide_eq_true rfl,decide_eq_false (Ne.symm ne)] at c1;rw [decide_eq_false ne,decide_eq_true rfl] at c2;by_cases b1:l.getD β 0=l.getD α 0
 ·rw [decide_eq_true b1] at c1;by_cases o1:l.getD ω 0=l.getD α 0
  ·rw [decide_eq_true o1] at c1;exact absurd c1 (by decide)
  ·rw [decide_eq_false (show ¬ l.getD β 0=l.getD z 0 by rw [b1];exact ne)] at c2;by_cases o2:l.getD ω 0=l.getD z 0
   ·exact .inl ⟨b1.symm,o2.symm,ne⟩
   ·rw [decide_eq_false o2] at c2;exact absurd c2 (by decide)
 ·rw [decide_eq_false b1] at c1;by_cases o1:l.getD ω 0=l.getD α 0
  ·rw [decide_eq_false (show ¬ l.getD ω 0=l.getD z 0 by rw [o1];exact ne)] at c2;by_cases b2:l.getD β 0=l.getD z 0
   ·exact .inr ⟨o1.symm,b2.symm,ne⟩
   ·rw [decide_eq_false b2] at c2;exact absurd c2 (by decide)
  ·rw [decide_eq_false o1] at c1;exact absurd c1 (by decide)
noncomputable def cntF (ps:List (Nat × Nat)) (N:Nat):Nat:=(fixL (repF ps N)).length
theorem rep_two {N:Nat} {E0:List (Nat × Nat)} {l:List Nat} (r:Rep N E0 l) {a b c d:Nat} (ha:a < N) (hb:b < N) (hc:c < N) (hd:d < N) (h:l.getD a 0=l.getD b 0) (g:l.getD c 0=l.getD d 0):(fixL (meet1 (meet1 l (a,b)) (c,d))).length=(fixL l).length:=by
 have e1:=r.count (p:=(a,b)) ha hb;have r1:=r.snoc (p:=(a,b)) ha hb;have e2:=r1.count (p:=(c,d)) hc hd;have L:=r.len;have g1:(meet1 l (a,b)).getD c 0=(meet1 l (a,b)).getD d 0:=by rw [Jr (by omega),Jr (by omega),g]
 rw [if_pos h] at e1;rw [if_pos g1] at e2;omega
theorem rep_three {N:Nat} {E0:List (Nat × Nat)} {l:List Nat} (r:Rep N E0 l) {a b c d:Nat} (ha:a < N) (hb:b < N) (hc:c < N) (hd:d < N) (h:l.getD a 0≠l.getD b 0) (g1:l.getD c 0=l.getD b 0) (g2:l.getD a 0=l.getD d 0):(fixL (meet1 (meet1 l (a,b)) (c,d))).length + 1=(fixL l).length:=by
 have e1:=r.count (p:=(a,b)) ha hb;have r1:=r.snoc (p:=(a,b)) ha hb;have e2:=r1.count (p:=(c,d)) hc hd;have L:=r.len;have e3:=r1.eq (a,b) (mem_append_right _ (List.mem_singleton_self _));have g3:(meet1 l (a,b)).getD c 0=(meet1 l (a,b)).getD d 0:=by
  have x1:(meet1 l (a,b)).getD c 0=(meet1 l (a,b)).getD b 0:=by rw [Jr (by omega),Jr (by omega),g1]
  have x2:(meet1 l (a,b)).getD a 0=(meet1 l (a,b)).getD d 0:=by rw [Jr (by omega),Jr (by omega),g2]
  exact x1.trans (e3.symm.trans x2)
 rw [if_neg h] at e1;rw [if_pos g3] at e2;omega
theorem swap_par {A0 B0:List Nat} {α z β ω N:Nat} (hl:A0.length=B0.length) (pA:(α :: z :: A0).Perm (List.range N)) (pB:(β :: ω :: B0).Perm (List.range N)) :
  cntF (A0.zip B0 ++ [(α,β),(z,ω)]) N=cntF (A0.zip B0 ++ [(α,ω),(z,β)]) N + 1\/cntF (A0.zip B0 ++ [(α,ω),(z,β)]) N=cntF (A0.zip B0 ++ [(α,β),(z,ω)]) N + 1:=by
 have inA:∀ x,x∈α :: z :: A0↔x < N:=fun x=>pA.mem_iff.trans mem_range;have inB:∀ x,x∈β :: ω :: B0↔x < N:=fun x=>pB.mem_iff.trans mem_range;have hα:α < N:=(inA α).mp (mem_cons_self ..);have hz:z < N:=(inA z).mp (mem_cons_of_mem _ (mem_cons_self ..));have hβ:β < N:=(inB β).mp (mem_cons_self ..);have hω:ω < N:=(inB ω).mp (mem_cons_of_mem _ (mem_cons_self ..));have hE:∀ p∈A0.zip B0,p.1 < N/\p.2 < N:=fun p hp =>
  ⟨(inA _).mp (mem_cons_of_mem _ (mem_cons_of_mem _ (of_mem_zip hp).1)),(inB _).mp (mem_cons_of_mem _ (mem_cons_of_mem _ (of_mem_zip hp).2))⟩
 have r:=J1u hE;have f:∀ p q,cntF (A0.zip B0 ++ [p,q]) N=(fixL (meet1 (meet1 (repF (A0.zip B0) N) p) q)).length:=fun p q=>by
  unfold cntF repF;rw [List.foldl_append];rfl
 rw [f,f];rcases four hl pA pB r with ⟨h1,h2,ne⟩ | ⟨h1,h2,ne⟩
 ·refine .inl ?_;rw [rep_two r hα hβ hz hω h1 h2];exact (rep_three r hα hω hz hβ (by rw [<- h2];exact ne) h2 h1).symm
 ·refine .inr ?_;rw [rep_two r hα hω hz hβ h1 h2];exact (rep_three r hα hβ hz hω (by rw [<- h2];exact ne) h2 h1).symm
end Rl
namespace Rl
def gapA (os:List Nat):List Nat:=0 :: os.map (· + 1)
def gapB (os:List Nat):List Nat:=os ++ [os.length]
def gapE (os:List Nat):List (Nat × Nat):=(gapA os).zip (gapB os)
noncomputable def cntG2 (os:List Nat):Nat:=cntF (gapE os) (os.length + 1)
theorem repF_same {ps qs:List (Nat × Nat)} {N:Nat} (h:∀ p∈ps,p.1 < N/\p.2 < N) (h1:∀ p,p∈ps↔p∈qs):repF ps N=repF qs N:=by
 have g:∀ p∈qs,p.1 < N/\p.2 < N:=fun p hp=>h p ((h1 p).mpr hp);exact (J1u h).uni (J1u g) (fun p hp=>(J1u g).eq p ((h1 p).mp hp)) fun p hp=>(J1u h).eq p ((h1 p).mpr hp)
theorem J6b {os:List Nat} {n:Nat} (h:os.Perm (List.range n)):IsO os/\os.length=n:=by
 have e:os.length=n:=by rw [h.length_eq,length_range]
 exact ⟨by unfold IsO;rw [e];exact h,e⟩
theorem range_cons (n:Nat):(0 :: (List.range n).map (· + 1)).Perm (List.range (n + 1)):=by
 rw [List.range_succ_eq_map]
theorem gapA_perm {os:List Nat} (io:IsO os):(gapA os).Perm (List.range (os.length + 1)):=by
 unfold gapA;exact ((io.map (· + 1)).cons 0).trans (range_cons _)
theorem gapB_perm {os:List Nat} (io:IsO os):(gapB os).Perm (List.range (os.length + 1)):=by
 unfold gapB;rw [range_succ];exact io.append_right _
theorem J5n {os:List Nat} (io:IsO os):∀ p∈gapE os,p.1 < os.length + 1/\p.2 < os.length + 1:=fun p hp =>
 ⟨mem_range.mp ((gapA_perm io).mem_iff.mp (of_mem_zip hp).1),mem_range.mp ((gapB_perm io).mem_iff.mp (of_mem_zip hp).2)⟩
theorem J4v {a b:List Nat} {x:Nat} (h:x < a.length):(a ++ b).getD x 0=a.getD x 0:=by
 rw [getD_eq_getElem?_getD,getElem?_append_left h,getD_eq_getElem?_getD]
theorem J4u {a:List Nat} {y:Nat}:(a ++ [y]).getD a.length 0=y:=by
 rw [getD_eq_getElem?_getD,getElem?_append_right (Nat.le_refl _),Nat.sub_self];rfl
theorem rep_alone {N:Nat} {E:List (Nat × Nat)} {l:List Nat} (r:Rep N E l) (h:∀ p∈E,p.1 < N/\p.2 < N):Rep (N + 1) (E ++ [(N,N)]) (l ++ [N])/\(fixL (l ++ [N])).length=(fixL l).length + 1:=by
 have L:=r.len;have g1:∀ x,x < N->(l ++ [N]).getD x 0=l.getD x 0:=fun x hx=>J4v (by omega);have g2:(l ++ [N]).getD N 0=N:=by
  have:=J4u (a:=l) (y:=N);rwa [L] at this
 have R:Rep (N + 1) (E ++ [(N,N)]) (l ++ [N]):=by
  refine ⟨by rw [length_append,L];rfl,fun v hv=>?_,fun x hx=>?_,fun p hp=>?_,fun S hS x hx=>?_⟩
  ·rcases mem_append.mp hv with q | q
   ·have e:=r.idem v q;rw [getElem?_append_left (List.getElem?_eq_some_iff.mp e).1];exact e
   ·rw [mem_singleton.mp q,getElem?_append_right (by omega),L,Nat.sub_self];rfl
  ·by_cases c:x < N
   ·rw [g1 x c];exact r.le x c
   ·have:x=N:=by omega
    rw [this,g2];exact Nat.le_refl _
  ·rcases mem_append.mp hp with q | q
   ·rw [g1 _ (h p q).1,g1 _ (h p q).2];exact r.eq p q
   ·rw [mem_singleton.mp q]
  ·by_cases c:x < N
   ·rw [g1 x c];exact r.cl S (fun p hp=>hS p (mem_append_left _ hp)) x c
   ·have:x=N:=by omega
    rw [this,g2]
 refine ⟨R,?_⟩;have nN:N ∉ fixL l:=fun h=>by have:=((r.fix N).mp h).1;omega
 have p:(fixL (l ++ [N])).Perm (N :: fixL l):=by
  refine (perm_ext_iff_of_nodup (J20 _) (nodup_cons.mpr ⟨nN,J20 _⟩)).mpr fun x=>?_;rw [mem_cons,R.fix,r.fix];constructor
  ·rintro ⟨h1,h2⟩;by_cases c:x < N
   ·rw [g1 x c] at h2;exact .inr ⟨c,h2⟩
   ·exact .inl (by omega)
  ·rintro (rfl | ⟨h1,h2⟩)
   ·exact ⟨by omega,g2⟩
   ·exact ⟨by omega,by rw [g1 x h1];exact h2⟩
 rw [p.length_eq,length_cons]
theorem rep_between {N:Nat} {F E:List (Nat × Nat)} {l:List Nat} {b z:Nat} (r:Rep N F l) (hF:∀ p∈F,p.1 < N/\p.2 < N) (hb:b < N) (hz:z < N) (zb:l.getD z 0=l.getD b 0) (hE:∀ p∈E,p∈F\/p=(N,b)\/p=(z,N)) (hE2:∀ S:Nat->Prop,(∀ p∈E,(S p.1↔S p.2))->(∀ p∈F,(S p.1↔S p.2))/\(S N↔S b)) :
  Rep (N + 1) E (l ++ [l.getD b 0])/\(fixL (l ++ [l.getD b 0])).length=(fixL l).length:=by
 have L:=r.len;have g1:∀ x,x < N->(l ++ [l.getD b 0]).getD x 0=l.getD x 0:=fun x hx=>J4v (by omega);have g2:(l ++ [l.getD b 0]).getD N 0=l.getD b 0:=by
  have:=J4u (a:=l) (y:=l.getD b 0);rwa [L] at this
 have mb:l.getD b 0∈l:=by rw [getD_eq_getElem?_getD,List.getElem?_eq_getElem (by omega)];exact List.getElem_mem _
 have R:Rep (N + 1) E (l ++ [l.getD b 0]):=by
  refine ⟨by rw [length_append,L];rfl,fun v hv=>?_,fun x hx=>?_,fun p hp=>?_,fun S hS x hx=>?_⟩
  ·have hv:v∈l:=by
    rcases mem_append.mp hv with q | q
    ·exact q
    ·rw [mem_singleton.mp q];exact mb
   have e:=r.idem v hv;rw [getElem?_append_left (List.getElem?_eq_some_iff.mp e).1];exact e
  ·by_cases c:x < N
   ·rw [g1 x c];exact r.le x c
   ·have e:x=N:=by omega
    rw [e,g2];have:=r.le b hb;omega
  ·rcases hE p hp with q | rfl | rfl
   ·rw [g1 _ (hF p q).1,g1 _ (hF p q).2];exact r.eq p q
   ·rw [g2,g1 b hb]
   ·rw [g1 z hz,g2];exact zb
  ·obtain ⟨w1,w2⟩:=hE2 S hS;by_cases c:x < N
   ·rw [g1 x c];exact r.cl S w1 x c
   ·have e:x=N:=by omega
    rw [e,g2,w2];exact r.cl S w1 b hb
 refine ⟨R,?_⟩;have p:(fixL (l ++ [l.getD b 0])).Perm (fixL l):=by
  refine (perm_ext_iff_of_nodup (J20 _) (J20 _)).mpr fun x=>?_;rw [R.fix,r.fix];constructor
  ·rintro ⟨h1,h2⟩;by_cases c:x < N
   ·rw [g1 x c] at h2;exact ⟨c,h2⟩
   ·have e:x=N:=by omega
    rw [e,g2] at h2;have:=r.le b hb;omega
  ·rintro ⟨h1,h2⟩;exact ⟨by omega,by rw [g1 x h1];exact h2⟩
 exact p.length_eq
theorem snoc_of {l:List Nat} (h:l≠[]):∃ a z,l=a ++ [z]:=⟨l.dropLast,l.getLast h,(List.dropLast_concat_getLast h).symm⟩
theorem gap_ins {u v:List Nat} {n:Nat} (io:IsO (u ++ v)) (hn:(u ++ v).length=n):cntG2 (u ++ n :: v)=cntG2 (u ++ v) + 1\/cntG2 (u ++ v)=cntG2 (u ++ n :: v) + 1:=by
 have luv:u.length + v.length=n:=by rw [<- length_append];exact hn
 have l':(u ++ n :: v).length=n + 1:=by rw [length_append,length_cons];omega
 have hE:=J5n io;rw [hn] at hE;have rE:=J1u hE;obtain ⟨Ai,α,eA⟩:=snoc_of (l:=0 :: u.map (· + 1)) (by simp);have lA:Ai.length=u.length:=by
  have:=congrArg List.length eA;rw [length_cons,length_map,length_append,List.length_singleton] at this;omega
 unfold cntG2;rw [l',hn]
 match v,io,hn,luv,l' with
 | [],io,hn,luv,l' =>
  refine .inl ?_;rw [append_nil] at *;have e:gapE (u ++ [n])=gapE u ++ [(n + 1,n + 1)]:=by
   unfold gapE gapA gapB;rw [map_append,l',hn,<- cons_append,zip_append (by simp)];rfl
  obtain ⟨R,c⟩:=rep_alone rE hE;unfold cntF;rw [e,<- c]
  congr 2
  have hE':∀ p∈gapE u ++ [(n + 1,n + 1)],p.1 < n + 1 + 1/\p.2 < n + 1 + 1:=fun p hp=>by
   rcases mem_append.mp hp with q | q
   ·have:=hE p q;omega
   ·rw [mem_singleton.mp q];exact ⟨Nat.lt_succ_self _,Nat.lt_succ_self _⟩
  exact (J1u hE').uni R (R.eq) (fun p hp=>(J1u hE').eq p hp)
 | β :: v1,io,hn,luv,l' =>
  obtain ⟨Vi,z,eV⟩:=snoc_of (l:=(β :: v1).map (· + 1)) (by simp);have lV:Vi.length=v1.length:=by
   have:=congrArg List.length eV;rw [length_map,length_cons,length_append,List.length_singleton] at this;omega
  have eAA:gapA (u ++ β :: v1)=Ai ++ [α] ++ (Vi ++ [z]):=by
   unfold gapA;rw [map_append,<- cons_append,eA,eV]
  have eBB:gapB (u ++ β :: v1)=u ++ [β] ++ (v1 ++ [n]):=by
   unfold gapB;rw [hn];simp
  have eE:gapE (u ++ β :: v1)=Ai.zip u ++ [(α,β)] ++ (Vi.zip v1 ++ [(z,n)]):=by
   unfold gapE;rw [eAA,eBB,zip_append (by simp [lA]),zip_append lA,zip_append lV];rfl
  have eE':gapE (u ++ n :: β :: v1)=Ai.zip u ++ [(α,n)] ++ ((n + 1,β) :: (Vi.zip v1 ++ [(z,n + 1)])):=by
   have a1:gapA (u ++ n :: β :: v1)=Ai ++ [α] ++ ((n + 1) :: (Vi ++ [z])):=by
    unfold gapA;rw [map_append,<- cons_append,eA,map_cons,eV]
   have a2:gapB (u ++ n :: β :: v1)=u ++ [n] ++ (β :: (v1 ++ [n + 1])):=by
    unfold gapB;rw [l'];simp
   unfold gapE;rw [a1,a2,zip_append (by simp [lA]),zip_append lA,List.zip_cons_cons (as:=Vi ++ [z]),zip_append lV];rfl
  have eZ:(Ai ++ Vi).zip (u ++ v1)=Ai.zip u ++ Vi.zip v1:=zip_append lA;have pA:(α :: z :: (Ai ++ Vi)).Perm (List.range (n + 1)):=by
   have:=gapA_perm io;rw [eAA,hn] at this;refine List.Perm.trans ?_ this;have q1:(α :: z :: (Ai ++ Vi)).Perm (α :: (Ai ++ (Vi ++ [z]))):=List.Perm.cons α (by rw [<- List.append_assoc];exact (perm_append_singleton z (Ai ++ Vi)).symm);have q2:(Ai ++ α :: (Vi ++ [z])).Perm (α :: (Ai ++ (Vi ++ [z]))):=perm_middle;rw [List.append_assoc];exact q1.trans q2.symm
  have pB:(β :: n :: (u ++ v1)).Perm (List.range (n + 1)):=by
   have:=gapB_perm io;rw [eBB,hn] at this;refine List.Perm.trans ?_ this;have q1:(β :: n :: (u ++ v1)).Perm (β :: (u ++ (v1 ++ [n]))):=List.Perm.cons β (by rw [<- List.append_assoc];exact (perm_append_singleton n (u ++ v1)).symm);have q2:(u ++ β :: (v1 ++ [n])).Perm (β :: (u ++ (v1 ++ [n]))):=perm_middle;rw [List.append_assoc];exact q1.trans q2.symm
  have sw:=swap_par (A0:=Ai ++ Vi) (B0:=u ++ v1) (by rw [length_append,length_append,lA,lV]) pA pB;rw [eZ] at sw;have c1:cntF (gapE (u ++ β :: v1)) (n + 1)=cntF (Ai.zip u ++ Vi.zip v1 ++ [(α,β),(z,n)]) (n + 1):=by
   unfold cntF;rw [repF_same hE (qs:=Ai.zip u ++ Vi.zip v1 ++ [(α,β),(z,n)]) fun p=>?_];rw [eE];simp only [mem_append,mem_cons,not_mem_nil,or_false];constructor
   ·rintro ((h | h) | (h | h)) <;> simp [h]
   ·rintro ((h | h) | (h | h)) <;> simp [h]
  have inA:∀ x,x∈α :: z :: (Ai ++ Vi)↔x < n + 1:=fun x=>pA.mem_iff.trans mem_range;have inB:∀ x,x∈β :: n :: (u ++ v1)↔x < n + 1:=fun x=>pB.mem_iff.trans mem_range;have hα:α < n + 1:=(inA α).mp (mem_cons_self ..);have hz:z < n + 1:=(inA z).mp (mem_cons_of_mem _ (mem_cons_self ..));have hβ:β < n + 1:=(inB β).mp (mem_cons_self ..);have hF:∀ p∈Ai.zip u ++ Vi.zip v1 ++ [(α,n),(z,β)],p.1 < n + 1/\p.2 < n + 1:=fun p hp=>by
   rcases mem_append.mp hp with q | q
   ·rw [<- eZ] at q;exact ⟨(inA _).mp (mem_cons_of_mem _ (mem_cons_of_mem _ (of_mem_zip q).1)),(inB _).mp (mem_cons_of_mem _ (mem_cons_of_mem _ (of_mem_zip q).2))⟩
   ·simp only [mem_cons,not_mem_nil,or_false] at q;rcases q with rfl | rfl
    ·exact ⟨hα,Nat.lt_succ_self _⟩
    ·exact ⟨hz,hβ⟩
  have rF:=J1u hF;obtain ⟨R,c⟩:=rep_between (E:=gapE (u ++ n :: β :: v1)) rF hF hβ hz (rF.eq (z,β) (by simp)) (fun p hp=>by
   rw [eE'] at hp;simp only [mem_append,mem_cons,not_mem_nil,or_false] at hp ⊢;rcases hp with (h | h) | (h | (h | h)) <;> simp [h]) (fun S hS=>by
   have sN:S (n + 1)↔S β:=hS (n + 1,β) (by rw [eE'];simp);have sz:S z↔S (n + 1):=hS (z,n + 1) (by rw [eE'];simp);refine ⟨fun p hp=>?_,sN⟩;simp only [mem_append,mem_cons,not_mem_nil,or_false] at hp;rcases hp with (h | h) | (h | h)
   ·exact hS p (by rw [eE'];simp [h])
   ·exact hS p (by rw [eE'];simp [h])
   ·exact hS p (by rw [eE'];simp [h])
   ·rw [h];exact sz.trans sN)
  have io':IsO (u ++ n :: β :: v1):=by
   unfold IsO;rw [l',range_succ];refine perm_middle.trans ?_;have:=io;unfold IsO at this;rw [hn] at this;exact (this.cons n).trans (perm_append_singleton n _).symm
  have hE':=J5n io';rw [l'] at hE';have c2:cntF (gapE (u ++ n :: β :: v1)) (n + 1 + 1)=cntF (Ai.zip u ++ Vi.zip v1 ++ [(α,n),(z,β)]) (n + 1):=by
   unfold cntF;rw [<- c]
   congr 2
   exact (J1u hE').uni R R.eq (fun p hp=>(J1u hE').eq p hp)
  rw [c1,c2];rcases sw with q | q
  ·exact .inr q
  ·exact .inl q
theorem gap_par:∀ (n:Nat) (os:List Nat),IsO os->os.length=n->cntG2 os % 2=(n + 1) % 2
 | 0,os,io,hn=>by
  obtain rfl:os=[]:=length_eq_zero_iff.mp hn;rfl
 | n + 1,os,io,hn=>by
  have hm:n∈os:=io.mem (by omega);obtain ⟨u,v,rfl⟩:=List.append_of_mem hm;have pr:(u ++ v).Perm (List.range n):=by
   have p1:(u ++ n :: v).Perm (List.range (n + 1)):=by have:=io;unfold IsO at this;rwa [hn] at this
   rw [range_succ] at p1;have p2:=(perm_middle (a:=n) (l₁:=u) (l₂:=v)).symm.trans (p1.trans (perm_append_singleton n (List.range n)));exact List.Perm.cons_inv p2
  obtain ⟨io2,l2⟩:=J6b pr;have ih:=gap_par n (u ++ v) io2 l2;rcases gap_ins io2 l2 with q | q <;> omega
end Rl
namespace Rl
theorem J51:∀ (row:List Nat) (p:Nat × Nat),p∈J3o row↔∃ i,i + 1 < row.length/\p=(2 * row.getD i 0 + 1,2 * row.getD (i + 1) 0)
 | [],p=>⟨fun h=>(nomatch h),fun ⟨i,h,_⟩=>absurd h (by simp)⟩
 | [a],p=>⟨fun h=>(nomatch h),fun ⟨i,h,_⟩=>absurd h (by simp)⟩
 | a :: b :: r,p=>by
  show p∈(2 * a + 1,2 * b) :: J3o (b :: r)↔_;rw [mem_cons,J51 (b :: r)];constructor
  ·rintro (rfl | ⟨i,h,rfl⟩)
   ·exact ⟨0,by simp,rfl⟩
   ·exact ⟨i + 1,by simpa using h,rfl⟩
  ·rintro ⟨i,h,rfl⟩
   match i with
   | 0=>exact .inl rfl
   | i + 1=>exact .inr ⟨i,by simpa using h,rfl⟩
theorem least_rep {os:List Nat} (io:IsO os) (h1:1<=os.length):Rep (2 * os.length) (J1y os) (J1e os):=J1u (J68 io h1)
theorem J4i {n i:Nat} (h:i < n):(List.range n).getD i 0=i:=by rw [getD_eq_getElem?_getD,getElem?_range h];rfl
theorem meets_mem {os:List Nat} (p:Nat × Nat):p∈J1y os↔(∃ i,i + 1 < os.length/\p=(2 * i + 1,2 * (i + 1)))\/(∃ i,i + 1 < os.length/\p=(2 * os.getD i 0 + 1,2 * os.getD (i + 1) 0))\/p=(0,2 * os.getD 0 0)\/p=(2 * (os.length - 1) + 1,2 * os.getD (os.length - 1) 0 + 1):=by
 unfold J1y;rw [mem_append,mem_append,J51,J51,length_range];have e:(∃ i,i + 1 < os.length/\p=(2 * (List.range os.length).getD i 0 + 1,2 * (List.range os.length).getD (i + 1) 0))↔∃ i,i + 1 < os.length/\p=(2 * i + 1,2 * (i + 1)):=by
  constructor
  ·rintro ⟨i,h,e⟩;rw [J4i (by omega),J4i h] at e;exact ⟨i,h,e⟩
  ·rintro ⟨i,h,e⟩;exact ⟨i,h,by rw [J4i (by omega),J4i h];exact e⟩
 rw [e];simp only [mem_cons,not_mem_nil,or_false];constructor
 ·rintro ((h | h) | h | h)
  ·exact .inl h
  ·exact .inr (.inl h)
  ·exact .inr (.inr (.inl h))
  ·exact .inr (.inr (.inr h))
 ·rintro (h | h | h | h)
  ·exact .inl (.inl h)
  ·exact .inl (.inr h)
  ·exact .inr (.inl h)
  ·exact .inr (.inr h)
theorem gap_mem {os:List Nat} (p:Nat × Nat):p∈gapE os↔∃ i,i<=os.length/\p=((gapA os).getD i 0,(gapB os).getD i 0):=by
 have lA:(gapA os).length=os.length + 1:=by unfold gapA;rw [length_cons,length_map]
 have lB:(gapB os).length=os.length + 1:=by unfold gapB;rw [length_append];rfl
 unfold gapE;constructor
 ·intro h;obtain ⟨i,hi,e⟩:=List.getElem_of_mem h;rw [List.length_zip,lA,lB] at hi;rw [List.getElem_zip] at e;refine ⟨i,by omega,?_⟩;rw [<- e,getD_eq_getElem?_getD,List.getElem?_eq_getElem (by omega),getD_eq_getElem?_getD,List.getElem?_eq_getElem (by omega)];rfl
 ·rintro ⟨i,hi,rfl⟩;have hz:i < ((gapA os).zip (gapB os)).length:=by rw [List.length_zip,lA,lB];omega
  have:=List.getElem_mem hz;rw [List.getElem_zip] at this;rw [getD_eq_getElem?_getD,List.getElem?_eq_getElem (by omega),getD_eq_getElem?_getD,List.getElem?_eq_getElem (by omega)];exact this
theorem gapA_at {os:List Nat} {i:Nat} (h:i < os.length):(gapA os).getD (i + 1) 0=os.getD i 0 + 1:=by
 show (os.map (· + 1)).getD i 0=_;exact getD_map h
theorem gapB_at {os:List Nat} {i:Nat} (h:i < os.length):(gapB os).getD i 0=os.getD i 0:=J4v h
theorem gapB_end {os:List Nat}:(gapB os).getD os.length 0=os.length:=J4u
theorem ends_gaps {os:List Nat} (io:IsO os) (h1:1<=os.length):(fixL (J1e os)).length=cntG2 os:=by
 have rE:=least_rep io h1;have rG:=J1u (J5n io);have og:∀ i,i < os.length->os.getD i 0 < os.length:=fun i hi=>io.lt _ (mem_of_getElem? (J34 hi));obtain ⟨n,hn⟩:∃ n,n=os.length:=⟨_,rfl⟩;obtain ⟨lE,hlE⟩:∃ l,l=J1e os:=⟨_,rfl⟩;obtain ⟨lG,hlG⟩:∃ l,l=repF (gapE os) (os.length + 1):=⟨_,rfl⟩;unfold cntG2 cntF;rw [<- hlE] at rE ⊢;rw [<- hlG] at rG ⊢;rw [<- hn] at rE rG og h1;have em:=fun p=>meets_mem (os:=os) p;have gm:=fun p=>gap_mem (os:=os) p;rw [<- hn] at em gm;obtain ⟨g,hg⟩:∃ g:Nat->Nat,g=fun x=>(x + 1) / 2:=⟨_,rfl⟩;obtain ⟨s,hs⟩:∃ s:Nat->Nat,s=fun i=>if i < n then 2 * i else 2 * n - 1:=⟨_,rfl⟩
 have g0:∀ i,g (2 * i)=i:=fun i=>by rw [hg];show (2 * i + 1) / 2=i;omega
 have g1:∀ i,g (2 * i + 1)=i + 1:=fun i=>by rw [hg];show (2 * i + 1 + 1) / 2=i + 1;omega
 have gs:∀ i,i < n + 1->g (s i)=i:=fun i hi=>by
  rw [hg,hs];show ((if i < n then 2 * i else 2 * n - 1) + 1) / 2=i;split <;> omega
 have sl:∀ i,i < n + 1->s i < 2 * n:=fun i hi=>by
  rw [hs];show (if i < n then 2 * i else 2 * n - 1) < 2 * n;split <;> omega
 have gl:∀ x,x < 2 * n->g x < n + 1:=fun x hx=>by rw [hg];show (x + 1) / 2 < n + 1;omega
 have up:∀ x,x < 2 * n->lG.getD (g x) 0=lG.getD (g (lE.getD x 0)) 0:=fun x hx=>by
  refine ((rE.cl (fun y=>lG.getD (g x) 0=lG.getD (g y) 0) (fun p hp=>?_) x hx).mp rfl);have key:lG.getD (g p.1) 0=lG.getD (g p.2) 0:=by
   rcases (em p).mp hp with ⟨i,hi,rfl⟩ | ⟨i,hi,rfl⟩ | rfl | rfl
   ·rw [g1,g0]
   ·rw [g1,g0];refine rG.eq (os.getD i 0 + 1,os.getD (i + 1) 0) ((gm _).mpr ⟨i + 1,by omega,?_⟩);rw [gapA_at (by omega),gapB_at (by omega)]
   ·rw [g0,show g 0=0 from g0 0];refine rG.eq (0,os.getD 0 0) ((gm _).mpr ⟨0,by omega,?_⟩);rw [gapB_at (by omega)];rfl
   ·rw [g1,g1,show n - 1 + 1=n by omega];refine (rG.eq (os.getD (n - 1) 0 + 1,n) ((gm _).mpr ⟨n,Nat.le_refl _,?_⟩)).symm;have a:=gapA_at (os:=os) (i:=n - 1) (by omega);rw [show n - 1 + 1=n by omega] at a;have b:=gapB_end (os:=os);rw [<- hn] at b;rw [a,b]
  exact ⟨fun h=>h.trans key,fun h=>h.trans key.symm⟩
 have es:∀ x,x < 2 * n->lE.getD x 0=lE.getD (s (g x)) 0:=fun x hx=>by
  rcases Nat.mod_two_eq_zero_or_one x with e | e
  ·obtain ⟨i,rfl⟩:∃ i,x=2 * i:=⟨x / 2,by omega⟩;rw [g0,hs];show _=lE.getD (if i < n then 2 * i else 2 * n - 1) 0;rw [if_pos (by omega)]
  ·obtain ⟨i,rfl⟩:∃ i,x=2 * i + 1:=⟨x / 2,by omega⟩;rw [g1,hs];show _=lE.getD (if i + 1 < n then 2 * (i + 1) else 2 * n - 1) 0;by_cases c:i + 1 < n
   ·rw [if_pos c];exact rE.eq (2 * i + 1,2 * (i + 1)) ((em _).mpr (.inl ⟨i,c,rfl⟩))
   ·rw [if_neg c,show 2 * n - 1=2 * i + 1 by omega]
 have dn:∀ i,i < n + 1->lE.getD (s i) 0=lE.getD (s (lG.getD i 0)) 0:=fun i hi=>by
  refine ((rG.cl (fun y=>lE.getD (s i) 0=lE.getD (s y) 0) (fun p hp=>?_) i hi).mp rfl);have s0:∀ j,j < n->s j=2 * j:=fun j hj=>by rw [hs];show (if j < n then 2 * j else 2 * n - 1)=2 * j;rw [if_pos hj]
  have sE:s n=2 * (n - 1) + 1:=by rw [hs];show (if n < n then 2 * n else 2 * n - 1)=_;rw [if_neg (Nat.lt_irrefl _)];omega
  have s1:∀ j,j < n->lE.getD (s (j + 1)) 0=lE.getD (2 * j + 1) 0:=fun j hj=>by
   have:=es (2 * j + 1) (by omega);rw [g1] at this;exact this.symm
  have key:lE.getD (s p.1) 0=lE.getD (s p.2) 0:=by
   obtain ⟨j,hj,rfl⟩:=(gm p).mp hp
   match j with
   | 0 =>
    rw [gapB_at (by omega),s0 _ (og 0 (by omega))];show lE.getD (s 0) 0=_;rw [s0 0 (by omega)];exact rE.eq (0,2 * os.getD 0 0) ((em _).mpr (.inr (.inr (.inl rfl))))
   | j + 1 =>
    rw [gapA_at (by omega),s1 _ (og j (by omega))];by_cases c:j + 1 < n
    ·rw [gapB_at (by omega),s0 _ (og (j + 1) c)];exact rE.eq (2 * os.getD j 0 + 1,2 * os.getD (j + 1) 0) ((em _).mpr (.inr (.inl ⟨j,c,rfl⟩)))
    ·have e:j + 1=os.length:=by omega
     rw [e,gapB_end,<- hn,sE];have e2:=rE.eq (2 * (n - 1) + 1,2 * os.getD (n - 1) 0 + 1) ((em _).mpr (.inr (.inr (.inr rfl))));rw [show n - 1=j by omega] at e2 ⊢;exact e2.symm
  exact ⟨fun h=>h.trans key,fun h=>h.trans key.symm⟩
 have pr:((fixL lE).map fun e=>lG.getD (g e) 0).Perm (fixL lG):=by
  refine (perm_ext_iff_of_nodup (List.nodup_iff_pairwise_ne.mpr (pairwise_map.mpr ?_)) (J20 _)).mpr fun i=>?_
  ·refine List.Pairwise.imp_of_mem (fun {a b} ha hb ne e=>ne ?_) (List.nodup_iff_pairwise_ne.mp (J20 lE));obtain ⟨a1,a2⟩:=(rE.fix a).mp ha;obtain ⟨b1,b2⟩:=(rE.fix b).mp hb;have q1:=(es a a1).trans (dn _ (gl a a1));have q2:=(es b b1).trans (dn _ (gl b b1));rw [a2] at q1;rw [b2] at q2;rw [q1,q2,e]
  ·rw [mem_map];constructor
   ·rintro ⟨e,he,rfl⟩;obtain ⟨a1,a2⟩:=(rE.fix e).mp he;exact (rG.fix _).mpr ⟨rG.lt (gl e a1),rG.self (gl e a1)⟩
   ·intro hi;obtain ⟨i1,i2⟩:=(rG.fix i).mp hi;refine ⟨lE.getD (s i) 0,(rE.fix _).mpr ⟨rE.lt (sl i i1),rE.self (sl i i1)⟩,?_⟩;have:=up (s i) (sl i i1);rw [gs i i1] at this;rw [<- this,i2]
 have:=pr.length_eq;rwa [length_map] at this
end Rl
namespace Rl
theorem cls_le {N M:Nat} {ps qs:List (Nat × Nat)} {l m:List Nat} (r:Rep N ps l) (q:Rep M qs m) (f:Nat->Nat) (he:∀ p∈ps,m.getD (f p.1) 0=m.getD (f p.2) 0) (hs:∀ y,y < M->∃ x,x < N/\m.getD (f x) 0=m.getD y 0):(fixL m).length<=(fixL l).length:=by
 have sub:∀ y∈fixL m,y∈(fixL l).map fun x=>m.getD (f x) 0:=fun y hy=>by
  obtain ⟨h1,h2⟩:=(q.fix y).mp hy;obtain ⟨x,hx,e⟩:=hs y h1;have c:=r.cl (fun z=>m.getD (f z) 0=m.getD (f x) 0) (fun p hp=>by rw [he p hp]) x hx;refine mem_map.mpr ⟨l.getD x 0,(r.fix _).mpr ⟨r.lt hx,r.self hx⟩,?_⟩;rw [c.mp rfl,e,h2]
 have:=(J20 m).length_le_of_subset sub;rwa [length_map] at this
def Jy:Nat->List Nat->Nat->List (Nat × Nat)
 | x,[],z=>[(x,z)]
 | x,o :: os,z=>(x,o) :: Jy (o + 1) os z
theorem gap_chain (z:Nat):∀ (os:List Nat) (x:Nat),(x :: os.map (· + 1)).zip (os ++ [z])=Jy x os z
 | [],x=>rfl
 | o :: os,x=>by
  show (x,o) :: ((o + 1) :: os.map (· + 1)).zip (os ++ [z])=(x,o) :: Jy (o + 1) os z;rw [gap_chain z os (o + 1)]
theorem J3i (os:List Nat):gapE os=Jy 0 os os.length:=gap_chain _ os 0
theorem J19:∀ (u:List Nat) (o:Nat) (v:List Nat) (x z:Nat),Jy x (u ++ o :: v) z=Jy x u o ++ Jy (o + 1) v z
 | [],o,v,x,z=>rfl
 | a :: u,o,v,x,z=>by
  show (x,a) :: Jy (a + 1) (u ++ o :: v) z=(x,a) :: (Jy (a + 1) u o ++ Jy (o + 1) v z);rw [J19 u o v]
theorem J24 {R:Nat->Nat->Prop} (sy:∀ {a b},R a b->R b a) (tr:∀ {a b c},R a b->R b c->R a c):∀ (v:List Nat) {x x' z z':Nat},R x x'->R z z'->(∀ p∈Jy x v z,R p.1 p.2)->∀ p∈Jy x' v z',R p.1 p.2
 | [],x,x',z,z',hx,hz,h,p,hp=>by
  obtain rfl:=mem_singleton.mp hp;exact tr (sy hx) (tr (h (x,z) (mem_singleton.mpr rfl)) hz)
 | a :: v,x,x',z,z',hx,hz,h,p,hp=>by
  rcases mem_cons.mp hp with rfl | hp
  ·exact tr (sy hx) (h (x,a) (mem_cons_self ..))
  ·have rf:R (a + 1) (a + 1):=by
    cases v with
    | nil=>exact tr (h (a + 1,z) (mem_cons_of_mem _ (mem_singleton.mpr rfl))) (sy (h (a + 1,z) (mem_cons_of_mem _ (mem_singleton.mpr rfl))))
    | cons b v=>exact tr (h (a + 1,b) (mem_cons_of_mem _ (mem_cons_self ..))) (sy (h (a + 1,b) (mem_cons_of_mem _ (mem_cons_self ..))))
   exact J24 (R:=R) sy tr v rf hz (fun p hp=>h p (mem_cons_of_mem _ hp)) p hp
theorem J2a {f g:Nat->Nat}:∀ (v:List Nat) (x z:Nat),(∀ y∈v,f y=g y/\f (y + 1)=g y + 1)->∀ p∈Jy x v z,(f p.1,f p.2)∈Jy (f x) (v.map g) (f z)
 | [],x,z,_,p,hp=>by
  obtain rfl:=mem_singleton.mp hp;exact mem_singleton.mpr rfl
 | a :: v,x,z,h,p,hp=>by
  obtain ⟨h1,h2⟩:=h a (mem_cons_self ..);rcases mem_cons.mp hp with rfl | hp
  ·show (f x,f a)∈(f x,g a) :: Jy (g a + 1) (v.map g) (f z);rw [h1];exact mem_cons_self ..
  ·have:=J2a v (a + 1) z (fun y hy=>h y (mem_cons_of_mem _ hy)) p hp;rw [h2] at this;exact mem_cons_of_mem _ this
theorem J4z {f:Nat->Nat} (v:List Nat) (x z:Nat) (h:∀ y∈v,f y=y/\f (y + 1)=y + 1) {p:Nat × Nat} (hp:p∈Jy x v z):(f p.1,f p.2)∈Jy (f x) v (f z):=by
 have:=J2a (f:=f) (g:=fun y=>y) v x z h p hp;rwa [List.map_id'] at this
theorem rep_cnt {os:List Nat} (io:IsO os):Rep (os.length + 1) (Jy 0 os os.length) (repF (gapE os) (os.length + 1)):=by
 have:=J1u (J5n io);rwa [J3i] at this ⊢
theorem cnt_of {os:List Nat}:cntG2 os=(fixL (repF (gapE os) (os.length + 1))).length:=rfl
theorem gap_over {u v:List Nat} {a l:Nat} (io:IsO (u ++ a :: (v ++ [l]))) (ha:a + 1=(u ++ a :: (v ++ [l])).length):cntG2 (u ++ a :: l :: v)=cntG2 (u ++ a :: (v ++ [l])):=by
 have pm:(u ++ a :: l :: v).Perm (u ++ a :: (v ++ [l])):=((List.perm_append_comm (l₁:=[l]) (l₂:=v)).cons a).append_left u;have io2:IsO (u ++ a :: l :: v):=io.perm pm;have ln:(u ++ a :: l :: v).length=(u ++ a :: (v ++ [l])).length:=pm.length_eq;have nd:=io.nd;have lt:=io.lt;have r1:=rep_cnt io;have r2:=rep_cnt io2;rw [cnt_of,cnt_of];obtain ⟨n,hn⟩:∃ n,n=(u ++ a :: (v ++ [l])).length:=⟨_,rfl⟩;rw [ln] at r2 ⊢;rw [<- hn] at r1 r2 ha lt ⊢;generalize repF (gapE (u ++ a :: (v ++ [l]))) (n + 1)=m1 at *;generalize repF (gapE (u ++ a :: l :: v)) (n + 1)=m2 at *;rw [J19,J19,ha] at r1;have e2:Jy 0 (u ++ a :: l :: v) n=Jy 0 u a ++ (n,l) :: Jy (l + 1) v n:=by rw [J19,ha];rfl
 rw [e2] at r2;have n1:=nodup_append.mp nd;have n2:=nodup_cons.mp n1.2.1;have hu:∀ y∈u,y + 1 < n:=fun y hy=>by
  have h1:=lt y (mem_append_left _ hy);have h2:y≠a:=n1.2.2 y hy a (mem_cons_self ..);omega
 have hv:∀ y∈v,y + 1 < n:=fun y hy=>by
  have h1:=lt y (mem_append_right _ (mem_cons_of_mem _ (mem_append_left _ hy)));have h2:y≠a:=fun e=>n2.1 (by rw [<- e];exact mem_append_left _ hy);omega
 have hl:l + 1 < n:=by
  have h1:=lt l (mem_append_right _ (mem_cons_of_mem _ (mem_append_right _ (mem_singleton.mpr rfl))));have h2:l≠a:=fun e=>n2.1 (by rw [<- e];exact mem_append_right _ (mem_singleton.mpr rfl));omega
 have hid:∀ (g:Nat) (row:List Nat),(∀ y∈row,y + 1 < n)->∀ y∈row,(if y=n then g else y)=y/\(if y + 1=n then g else y + 1)=y + 1:=fun g row h y hy=>by
  have:=h y hy;exact ⟨if_neg (by omega),if_neg (by omega)⟩
 have q1:∀ p∈Jy 0 u a ++ (Jy n v l ++ [(l + 1,n)]),m1.getD p.1 0=m1.getD p.2 0:=r1.eq;have q2:=r2.eq;refine Nat.le_antisymm ?_ ?_
 ·refine cls_le r1 r2 (fun x=>if x=n then l + 1 else x) (fun p hp=>?_) (fun y hy=>?_)
  ·rcases mem_append.mp hp with hp | hp
   ·have:=J4z (f:=fun x=>if x=n then l + 1 else x) u 0 a (hid (l + 1) u hu) hp;rw [show (if 0=n then l + 1 else 0)=0 from if_neg (by omega),show (if a=n then l + 1 else a)=a from if_neg (by omega)] at this;exact q2 _ (mem_append_left _ this)
   ·rcases mem_append.mp hp with hp | hp
    ·have:=J4z (f:=fun x=>if x=n then l + 1 else x) v n l (hid (l + 1) v hv) hp;rw [show (if n=n then l + 1 else n)=l + 1 from if_pos rfl,show (if l=n then l + 1 else l)=l from if_neg (by omega)] at this;exact J24 (R:=fun x y=>m2.getD x 0=m2.getD y 0) (fun h=>h.symm) (fun h g=>h.trans g) v rfl (q2 (n,l) (mem_append_right _ (mem_cons_self ..)))
      (fun p hp=>q2 p (mem_append_right _ (mem_cons_of_mem _ hp))) _ this
    ·obtain rfl:=mem_singleton.mp hp;show m2.getD (if l + 1=n then l + 1 else l + 1) 0=m2.getD (if n=n then l + 1 else n) 0;rw [if_pos rfl,if_neg (by omega)]
  ·by_cases c:y=n
   ·refine ⟨l,by omega,?_⟩;show m2.getD (if l=n then l + 1 else l) 0=_;rw [if_neg (by omega),c];exact (q2 (n,l) (mem_append_right _ (mem_cons_self ..))).symm
   ·exact ⟨y,hy,by show m2.getD (if y=n then l + 1 else y) 0=_;rw [if_neg c]⟩
 ·refine cls_le r2 r1 (fun x=>if x=n then l else x) (fun p hp=>?_) (fun y hy=>?_)
  ·rcases mem_append.mp hp with hp | hp
   ·have:=J4z (f:=fun x=>if x=n then l else x) u 0 a (hid l u hu) hp;rw [show (if 0=n then l else 0)=0 from if_neg (by omega),show (if a=n then l else a)=a from if_neg (by omega)] at this;exact q1 _ (mem_append_left _ this)
   ·rcases mem_cons.mp hp with rfl | hp
    ·show m1.getD (if n=n then l else n) 0=m1.getD (if l=n then l else l) 0;rw [if_pos rfl,if_neg (by omega)]
    ·have:=J4z (f:=fun x=>if x=n then l else x) v (l + 1) n (hid l v hv) hp;rw [show (if l + 1=n then l else l + 1)=l + 1 from if_neg (by omega),show (if n=n then l else n)=l from if_pos rfl] at this;exact J24 (R:=fun x y=>m1.getD x 0=m1.getD y 0) (fun h=>h.symm) (fun h g=>h.trans g) v (q1 (l + 1,n) (mem_append_right _ (mem_append_right _ (mem_singleton.mpr rfl)))).symm rfl
      (fun p hp=>q1 p (mem_append_right _ (mem_append_left _ hp))) _ this
  ·by_cases c:y=n
   ·refine ⟨l + 1,by omega,?_⟩;show m1.getD (if l + 1=n then l else l + 1) 0=_;rw [if_neg (by omega),c];exact q1 (l + 1,n) (mem_append_right _ (mem_append_right _ (mem_singleton.mpr rfl)))
   ·exact ⟨y,hy,by show m1.getD (if y=n then l else y) 0=_;rw [if_neg c]⟩
def labU (n w x:Nat):Nat:=if x<=w then x else if x + 1=n then w + 1 else x + 1
theorem gap_under {s t:List Nat} {a w:Nat} (io:IsO (s ++ a :: (t ++ [w]))) (ha:a + 1=(s ++ a :: (t ++ [w])).length) (io2:IsO ((s ++ a :: (t ++ [w])).map (labU (a + 1) w))):cntG2 ((s ++ a :: (t ++ [w])).map (labU (a + 1) w))=cntG2 (s ++ a :: (t ++ [w])):=by
 have ln:((s ++ a :: (t ++ [w])).map (labU (a + 1) w)).length=(s ++ a :: (t ++ [w])).length:=length_map ..;have nd:=io.nd;have lt:=io.lt;have r1:=rep_cnt io;have r2:=rep_cnt io2;rw [cnt_of,cnt_of];rw [ln] at r2 ⊢;obtain ⟨n,hn⟩:∃ n,n=(s ++ a :: (t ++ [w])).length:=⟨_,rfl⟩;rw [<- hn] at r1 r2 ha lt ⊢;rw [ha] at io2 r2 ⊢;have n1:=nodup_append.mp nd;have n2:=nodup_cons.mp n1.2.1;have n3:=nodup_append.mp n2.2;have hw:w + 1 < n:=by
  have h1:=lt w (mem_append_right _ (mem_cons_of_mem _ (mem_append_right _ (mem_singleton.mpr rfl))));have h2:w≠a:=fun e=>n2.1 (by rw [<- e];exact mem_append_right _ (mem_singleton.mpr rfl));omega
 have hs:∀ y∈s,y + 1 < n/\y≠w:=fun y hy=>by
  have h1:=lt y (mem_append_left _ hy);have h2:y≠a:=n1.2.2 y hy a (mem_cons_self ..);exact ⟨by omega,n1.2.2 y hy w (mem_cons_of_mem _ (mem_append_right _ (mem_singleton.mpr rfl)))⟩
 have ht:∀ y∈t,y + 1 < n/\y≠w:=fun y hy=>by
  have h1:=lt y (mem_append_right _ (mem_cons_of_mem _ (mem_append_left _ hy)));have h2:y≠a:=fun e=>n2.1 (by rw [<- e];exact mem_append_left _ hy);exact ⟨by omega,n3.2.2 y hy w (mem_singleton.mpr rfl)⟩
 have la:labU n w a=w + 1:=by unfold labU;rw [if_neg (by omega),if_pos ha]
 have lw:labU n w w=w:=by unfold labU;rw [if_pos (Nat.le_refl _)]
 have em:(s ++ a :: (t ++ [w])).map (labU n w)=s.map (labU n w) ++ (w + 1) :: (t.map (labU n w) ++ [w]):=by
  rw [map_append,map_cons,map_append,la];show _ ++ _ :: (_ ++ [labU n w w])=_;rw [lw]
 have E2:Jy 0 ((s ++ a :: (t ++ [w])).map (labU n w)) n=Jy 0 (s.map (labU n w)) (w + 1) ++ (Jy (w + 1 + 1) (t.map (labU n w)) w ++ [(w + 1,n)]):=by
  rw [em,J19,J19];rfl
 have E1:Jy 0 (s ++ a :: (t ++ [w])) n=Jy 0 s a ++ (Jy n t w ++ [(w + 1,n)]):=by
  rw [J19,J19,ha];rfl
 rw [E1] at r1;rw [E2] at r2;generalize repF (gapE (s ++ a :: (t ++ [w]))) (n + 1)=m1 at *;generalize repF (gapE ((s ++ a :: (t ++ [w])).map (labU n w))) (n + 1)=m2 at *;have q1:=r1.eq;have q2:=r2.eq;obtain ⟨f,ef⟩:∃ f:Nat->Nat,f=fun k=>if k<=w then k else if k=n then w + 1 + 1 else k + 1:=⟨_,rfl⟩
 obtain ⟨g,eg⟩:∃ g:Nat->Nat,g=fun k=>if k<=w then k else if k=w + 1 then a else k - 1:=⟨_,rfl⟩
 have f1:∀ k,k<=w->f k=k:=fun k h=>by rw [ef];exact if_pos h
 have f2:∀ k,w < k->k < n->f k=k + 1:=fun k h h'=>by
  rw [ef];show (if k<=w then k else if k=n then w + 1 + 1 else k + 1)=_;rw [if_neg (by omega),if_neg (by omega)]
 have f3:f n=w + 1 + 1:=by
  rw [ef];show (if n<=w then n else if n=n then w + 1 + 1 else n + 1)=_;rw [if_neg (by omega),if_pos rfl]
 have g1:∀ k,k<=w->g k=k:=fun k h=>by rw [eg];exact if_pos h
 have g2:g (w + 1)=a:=by
  rw [eg];show (if w + 1<=w then w + 1 else if w + 1=w + 1 then a else w + 1 - 1)=_;rw [if_neg (by omega),if_pos rfl]
 have g3:∀ k,w + 1 < k->g k=k - 1:=fun k h=>by
  rw [eg];show (if k<=w then k else if k=w + 1 then a else k - 1)=_;rw [if_neg (by omega),if_neg (by omega)]
 have l1:∀ y,y < w->labU n w y=y:=fun y h=>by unfold labU;rw [if_pos (by omega)]
 have l2:∀ y,w < y->y + 1 < n->labU n w y=y + 1:=fun y h h'=>by unfold labU;rw [if_neg (by omega),if_neg (by omega)]
 have ff:∀ (row:List Nat),(∀ y∈row,y + 1 < n/\y≠w)->∀ y∈row,f y=labU n w y/\f (y + 1)=labU n w y + 1:=fun row h y hy=>by
  obtain ⟨h1,h2⟩:=h y hy;rcases Nat.lt_or_gt_of_ne h2 with c | c
  ·rw [l1 y c,f1 y (by omega),f1 (y + 1) (by omega)];exact ⟨rfl,rfl⟩
  ·rw [l2 y c h1,f2 y c (by omega),f2 (y + 1) (by omega) h1];exact ⟨rfl,rfl⟩
 have gg:∀ (row:List Nat),(∀ y∈row,y + 1 < n/\y≠w)->(∀ y∈row.map (labU n w),g y=g y/\g (y + 1)=g y + 1)/\(row.map (labU n w)).map g=row:=fun row h=>by
  have key:∀ y∈row,g (labU n w y)=y/\g (labU n w y + 1)=y + 1:=fun y hy=>by
   obtain ⟨h1,h2⟩:=h y hy;rcases Nat.lt_or_gt_of_ne h2 with c | c
   ·rw [l1 y c,g1 y (by omega),g1 (y + 1) (by omega)];exact ⟨rfl,rfl⟩
   ·rw [l2 y c h1,g3 (y + 1) (by omega),g3 (y + 1 + 1) (by omega)];exact ⟨rfl,rfl⟩
  refine ⟨fun y hy=>?_,?_⟩
  ·obtain ⟨x,hx,rfl⟩:=mem_map.mp hy;obtain ⟨k1,k2⟩:=key x hx;rw [k1,k2];exact ⟨rfl,rfl⟩
  ·rw [map_map]
   conv=>rhs;rw [<- map_id row]
   exact map_congr_left fun y hy=>(key y hy).1
 have sy1:∀ {x y:Nat},m1.getD x 0=m1.getD y 0->m1.getD y 0=m1.getD x 0:=fun h=>h.symm;refine Nat.le_antisymm ?_ ?_
 ·refine cls_le r1 r2 f (fun p hp=>?_) (fun y hy=>?_)
  ·rcases mem_append.mp hp with hp | hp
   ·have:=J2a s 0 a (ff s hs) p hp;rw [f1 0 (by omega),f2 a (by omega) (by omega),ha] at this;exact J24 (R:=fun x y=>m2.getD x 0=m2.getD y 0) (fun h=>h.symm) (fun h g=>h.trans g) (s.map (labU n w)) rfl (q2 (w + 1,n) (mem_append_right _ (mem_append_right _ (mem_singleton.mpr rfl))))
     (fun p hp=>q2 p (mem_append_left _ hp)) _ this
   ·rcases mem_append.mp hp with hp | hp
    ·have:=J2a t n w (ff t ht) p hp;rw [f3,f1 w (Nat.le_refl _)] at this;exact q2 _ (mem_append_right _ (mem_append_left _ this))
    ·obtain rfl:=mem_singleton.mp hp;show m2.getD (f (w + 1)) 0=m2.getD (f n) 0;rw [f2 (w + 1) (by omega) hw,f3]
  ·rcases Nat.lt_trichotomy y (w + 1) with c | c | c
   ·exact ⟨y,hy,by rw [f1 y (by omega)]⟩
   ·refine ⟨a,by omega,?_⟩;rw [f2 a (by omega) (by omega),ha,c];exact (q2 (w + 1,n) (mem_append_right _ (mem_append_right _ (mem_singleton.mpr rfl)))).symm
   ·refine ⟨y - 1,by omega,?_⟩;rw [f2 (y - 1) (by omega) (by omega),Nat.sub_add_cancel (by omega)]
 ·refine cls_le r2 r1 g (fun p hp=>?_) (fun y hy=>?_)
  ·rcases mem_append.mp hp with hp | hp
   ·have:=J2a (s.map (labU n w)) 0 (w + 1) (gg s hs).1 p hp;rw [g1 0 (by omega),g2,(gg s hs).2] at this;exact q1 _ (mem_append_left _ this)
   ·rcases mem_append.mp hp with hp | hp
    ·have:=J2a (t.map (labU n w)) (w + 1 + 1) w (gg t ht).1 p hp;rw [g3 (w + 1 + 1) (by omega),g1 w (Nat.le_refl _),(gg t ht).2,Nat.add_sub_cancel] at this;exact J24 (R:=fun x y=>m1.getD x 0=m1.getD y 0) (fun h=>h.symm) (fun h g=>h.trans g) t (q1 (w + 1,n) (mem_append_right _ (mem_append_right _ (mem_singleton.mpr rfl)))).symm rfl
      (fun p hp=>q1 p (mem_append_right _ (mem_append_left _ hp))) _ this
    ·obtain rfl:=mem_singleton.mp hp;show m1.getD (g (w + 1)) 0=m1.getD (g n) 0;rw [g2,g3 n hw]
     congr 1
     omega
  ·rcases Nat.lt_trichotomy y n with c | c | c
   ·by_cases d:y<=w
    ·exact ⟨y,hy,by rw [g1 y d]⟩
    ·exact ⟨y + 1,by omega,by rw [g3 (y + 1) (by omega),Nat.add_sub_cancel]⟩
   ·refine ⟨w + 1 + 1,by omega,?_⟩;rw [g3 (w + 1 + 1) (by omega),Nat.add_sub_cancel,c];exact q1 (w + 1,n) (mem_append_right _ (mem_append_right _ (mem_singleton.mpr rfl)))
   ·omega
theorem gap_home {us:List Nat} (io:IsO us):cntG2 (us ++ [us.length])=cntG2 us + 1:=by
 have r:=J1u (J5n io);obtain ⟨r2,c⟩:=rep_alone r (J5n io);have e:gapE (us ++ [us.length])=gapE us ++ [(us.length + 1,us.length + 1)]:=by
  rw [J3i,J3i,length_append];show Jy 0 (us ++ us.length :: []) (us.length + 1)=_;rw [J19];rfl
 have l:(us ++ [us.length]).length + 1=us.length + 1 + 1:=by rw [length_append];rfl
 rw [cnt_of,cnt_of,l,e];have hb:∀ p∈gapE us ++ [(us.length + 1,us.length + 1)],p.1 < us.length + 1 + 1/\p.2 < us.length + 1 + 1:=fun p hp=>by
  rcases mem_append.mp hp with hp | hp
  ·have:=J5n io p hp;omega
  ·obtain rfl:=mem_singleton.mp hp;exact ⟨Nat.lt_succ_self _,Nat.lt_succ_self _⟩
 have R:=J1u hb;rw [R.uni r2 (fun p hp=>r2.eq p hp) (fun p hp=>R.eq p hp)];exact c
end Rl
namespace Rl
def relO (r:Rst):List Nat:=r.bot.map fun x=>r.top.idxOf x
theorem idx_map {T:List Nat} (nd:T.Nodup):T.map (fun x=>T.idxOf x)=List.range T.length:=by
 refine List.ext_getElem (by rw [length_map,length_range]) fun i h1 h2=>?_;rw [List.getElem_map,List.getElem_range];exact idx_get nd (List.getElem?_eq_getElem _)
theorem J5j {B T:List Nat} (nd:T.Nodup) (pm:B.Perm T):IsO (B.map fun x=>T.idxOf x)/\(B.map fun x=>T.idxOf x).length=T.length:=J6b (by
 have:=pm.map fun x=>T.idxOf x;rwa [idx_map nd] at this)
theorem relO_ok {r:Rst} (h:r.Ok):IsO (relO r)/\(relO r).length=r.top.length:=J6b (by
 have:=h.perm.map fun x=>r.top.idxOf x;rwa [idx_map h.row.nd] at this)
noncomputable def cnr (r:Rst):Nat:=cntG2 (relO r)
theorem cnt_le (os:List Nat) (io:IsO os):cntG2 os<=os.length + 1:=by
 have r:=J1u (J5n io);have:(fixL (repF (gapE os) (os.length + 1))).length<=(List.range (os.length + 1)).length:=(J20 _).length_le_of_subset fun x hx=>mem_range.mpr ((r.fix x).mp hx).1;rwa [length_range] at this
theorem J2v {S T:List Nat} {x:Nat} (h:x∈S):(S ++ T).idxOf x=S.idxOf x:=by rw [List.idxOf_append,if_pos h]
theorem J15 {S T:List Nat} {x:Nat} (h:x ∉ S):(S ++ T).idxOf x=T.idxOf x + S.length:=by rw [List.idxOf_append,if_neg h]
theorem J63 {s t:List Nat} {a b:Nat} (nd:(s ++ a :: (t ++ [b])).Nodup):putR (s ++ a :: (t ++ [b])) a b false=s ++ a :: b :: t:=by
 have e1:s ++ a :: (t ++ [b])=s ++ a :: t ++ [b]:=by simp
 rw [e1] at nd ⊢;have n1:=nodup_append.mp nd;have n2:=nodup_append.mp n1.1;have as:a ∉ s:=fun q=>n2.2.2 a q a mem_cons_self rfl;have bd:b ∉ s ++ a :: t:=fun q=>n1.2.2 b q b (by simp) rfl;have w1:withoutR (s ++ a :: t ++ [b]) b=s ++ a :: t:=by
  rw [J1k,J1n,append_nil];exact J1j bd
 unfold putR;rw [w1,idx_app t as,if_neg (by decide)];have t1:(s ++ a :: t).take (s.length + 1)=s ++ [a]:=by
  rw [show s ++ a :: t=(s ++ [a]) ++ t by simp,show s.length + 1=(s ++ [a]).length by simp,List.take_left]
 have t2:(s ++ a :: t).drop (s.length + 1)=t:=by
  rw [show s ++ a :: t=(s ++ [a]) ++ t by simp,show s.length + 1=(s ++ [a]).length by simp,drop_left]
 rw [t1,t2];simp
theorem row_two {row:List Nat} {a b:Nat} (ha:a∈row) (hb:row.getD (row.length - 1) 0=b) (hab:a≠b):∃ s t,row=s ++ a :: (t ++ [b]):=by
 have hne:row≠[]:=fun e=>by rw [e] at ha;cases ha
 have e:=J2i hne;rw [hb] at e;generalize row.dropLast=d at e;subst e;have had:a∈d:=(mem_append.mp ha).resolve_right fun q=>hab (mem_singleton.mp q);obtain ⟨s,t,rfl⟩:=List.append_of_mem had;exact ⟨s,t,by simp⟩
theorem J4h {row:List Nat} {b:Nat} (hne:row≠[]) (hb:row.getD (row.length - 1) 0=b):∃ d,row=d ++ [b]:=⟨row.dropLast,by have:=J2i hne;rwa [hb] at this⟩
theorem rest_home {T B:List Nat} {w:Nat} (nT:(T ++ [w]).Nodup) (pm:(B ++ [w]).Perm (T ++ [w])):(B ++ [w]).map (fun x=>(T ++ [w]).idxOf x)=B.map (fun x=>T.idxOf x) ++ [(B.map fun x=>T.idxOf x).length]/\IsO (B.map fun x=>T.idxOf x):=by
 have n1:=nodup_append.mp nT;have wT:w ∉ T:=fun q=>n1.2.2 w q w (mem_singleton.mpr rfl) rfl;have pB:B.Perm T:=by
  have h1:=(perm_append_singleton w B).symm.trans (pm.trans (perm_append_singleton w T));exact List.Perm.cons_inv h1
 refine ⟨?_,(J5j n1.1 pB).1⟩;rw [map_append,length_map]
 congr 1
 ·exact map_congr_left fun x hx=>J2v (pB.mem_iff.mp hx)
 ·show [(T ++ [w]).idxOf w]=[B.length];rw [J15 wT,idxOf_cons_self,Nat.zero_add,pB.length_eq]
theorem rest_over {T U V:List Nat} {w l:Nat} (nT:(T ++ [w]).Nodup) (pm:(U ++ w :: (V ++ [l])).Perm (T ++ [w])):cntG2 ((U ++ w :: l :: V).map fun x=>(T ++ [w]).idxOf x)=cntG2 ((U ++ w :: (V ++ [l])).map fun x=>(T ++ [w]).idxOf x):=by
 have n1:=nodup_append.mp nT;have wT:w ∉ T:=fun q=>n1.2.2 w q w (mem_singleton.mpr rfl) rfl;have io:=J5j nT pm;have e1:((U ++ w :: (V ++ [l])).map fun x=>(T ++ [w]).idxOf x)=(U.map fun x=>(T ++ [w]).idxOf x) ++ (T ++ [w]).idxOf w :: ((V.map fun x=>(T ++ [w]).idxOf x) ++ [(T ++ [w]).idxOf l]):=by
  rw [map_append,map_cons,map_append];rfl
 have e2:((U ++ w :: l :: V).map fun x=>(T ++ [w]).idxOf x)=(U.map fun x=>(T ++ [w]).idxOf x) ++ (T ++ [w]).idxOf w :: (T ++ [w]).idxOf l :: (V.map fun x=>(T ++ [w]).idxOf x):=by
  rw [map_append,map_cons,map_cons]
 rw [e1] at io;rw [e1,e2];refine gap_over io.1 ?_;rw [io.2,J15 wT,idxOf_cons_self,length_append];show 0 + T.length + 1=T.length + 1;omega
theorem rest_even {T U V:List Nat} {w l:Nat} (nT:(T ++ [w]).Nodup) (pm:(U ++ w :: (V ++ [l])).Perm (T ++ [w])):cntG2 ((U ++ w :: (V ++ [l])).map fun x=>(T ++ [w]).idxOf x)=cntG2 ((U ++ l :: V).map fun x=>T.idxOf x) + 1\/cntG2 ((U ++ l :: V).map fun x=>T.idxOf x)=cntG2 ((U ++ w :: (V ++ [l])).map fun x=>(T ++ [w]).idxOf x) + 1:=by
 rw [<- rest_over nT pm];have n1:=nodup_append.mp nT;have wT:w ∉ T:=fun q=>n1.2.2 w q w (mem_singleton.mpr rfl) rfl;have p2:(U ++ l :: V).Perm T:=by
  have h1:(U ++ w :: (V ++ [l])).Perm (w :: (U ++ l :: V)):=perm_middle.trans (((perm_append_singleton l V).append_left U).cons w);exact List.Perm.cons_inv (h1.symm.trans (pm.trans (perm_append_singleton w T)))
 have io:=J5j n1.1 p2;have e1:((U ++ w :: l :: V).map fun x=>(T ++ [w]).idxOf x)=(U.map fun x=>T.idxOf x) ++ T.length :: ((l :: V).map fun x=>T.idxOf x):=by
  rw [map_append,map_cons,J15 wT,idxOf_cons_self,Nat.zero_add]
  congr 1
  ·exact map_congr_left fun x hx=>J2v (p2.mem_iff.mp (mem_append_left _ hx))
  ·congr 1
   exact map_congr_left fun x hx=>J2v (p2.mem_iff.mp (mem_append_right _ hx))
 have e2:((U ++ l :: V).map fun x=>T.idxOf x)=(U.map fun x=>T.idxOf x) ++ ((l :: V).map fun x=>T.idxOf x):=map_append ..;rw [e1,e2];rw [e2] at io;exact gap_ins io.1 io.2
theorem rest_under {S T B1 B2:List Nat} {w l:Nat} (nT:(S ++ w :: (T ++ [l])).Nodup) (pm:(B1 ++ l :: (B2 ++ [w])).Perm (S ++ w :: (T ++ [l]))):cntG2 ((B1 ++ l :: (B2 ++ [w])).map fun x=>(S ++ w :: l :: T).idxOf x)=cntG2 ((B1 ++ l :: (B2 ++ [w])).map fun x=>(S ++ w :: (T ++ [l])).idxOf x):=by
 have pT:(S ++ w :: l :: T).Perm (S ++ w :: (T ++ [l])):=((List.perm_append_comm (l₁:=[l]) (l₂:=T)).cons w).append_left S;have nT2:(S ++ w :: l :: T).Nodup:=pT.nodup_iff.mpr nT;have io:=J5j nT pm;have io2:=J5j nT2 (pm.trans pT.symm);have n1:=nodup_append.mp nT;have n2:=nodup_cons.mp n1.2.1;have n3:=nodup_append.mp n2.2;have ws:w ∉ S:=fun q=>n1.2.2 w q w (mem_cons_self ..) rfl;have ls:l ∉ S:=fun q=>n1.2.2 l q l (mem_cons_of_mem _ (mem_append_right _ (mem_singleton.mpr rfl))) rfl;have lw:l≠w:=fun e=>n2.1 (by rw [<- e];exact mem_append_right _ (mem_singleton.mpr rfl));have lT:l ∉ T:=fun q=>n3.2.2 l q l (mem_singleton.mpr rfl) rfl;have ln:(S ++ w :: (T ++ [l])).length=S.length + 1 + T.length + 1:=by
  rw [length_append,length_cons,length_append];show S.length + (T.length + 1 + 1)=_;omega
 have cne:∀ {a x:Nat} (r:List Nat),x≠a->(a :: r).idxOf x=r.idxOf x + 1:=fun {a x} r h=>by
  rw [idxOf_cons,show (a == x)=false by simpa using fun e:a=x=>h e.symm];rfl
 have iw:(S ++ w :: (T ++ [l])).idxOf w=S.length:=by rw [J15 ws,idxOf_cons_self,Nat.zero_add]
 have il:(S ++ w :: (T ++ [l])).idxOf l=S.length + 1 + T.length:=by
  rw [J15 ls,cne _ lw,J15 lT,idxOf_cons_self];omega
 have key:∀ x∈S ++ w :: (T ++ [l]),(S ++ w :: l :: T).idxOf x=labU (S.length + 1 + T.length + 1) S.length ((S ++ w :: (T ++ [l])).idxOf x):=fun x hx=>by
  unfold labU;by_cases c1:x∈S
  ·have:=List.idxOf_lt_length_of_mem c1;rw [J2v c1,J2v c1,if_pos (by omega)]
  ·by_cases c2:x=w
   ·subst c2;rw [iw,if_pos (Nat.le_refl _),J15 c1,idxOf_cons_self,Nat.zero_add]
   ·by_cases c3:x=l
    ·subst c3;rw [il,if_neg (by omega),if_pos rfl,J15 c1,cne _ c2,idxOf_cons_self];omega
    ·have hT:x∈T:=by
      rcases mem_append.mp hx with q | q
      ·exact absurd q c1
      ·rcases mem_cons.mp q with q | q
       ·exact absurd q c2
       ·rcases mem_append.mp q with q | q
        ·exact q
        ·exact absurd (mem_singleton.mp q) c3
     have:=List.idxOf_lt_length_of_mem hT;rw [J15 c1,J15 c1,cne _ c2,cne _ c2,cne _ c3,J2v hT,if_neg (by omega),if_neg (by omega)];omega
 have em:((B1 ++ l :: (B2 ++ [w])).map fun x=>(S ++ w :: l :: T).idxOf x)=((B1 ++ l :: (B2 ++ [w])).map fun x=>(S ++ w :: (T ++ [l])).idxOf x).map (labU (S.length + 1 + T.length + 1) S.length):=by
  rw [map_map];exact map_congr_left fun x hx=>key x (pm.mem_iff.mp hx)
 have e1:((B1 ++ l :: (B2 ++ [w])).map fun x=>(S ++ w :: (T ++ [l])).idxOf x)=(B1.map fun x=>(S ++ w :: (T ++ [l])).idxOf x) ++ (S.length + 1 + T.length) :: ((B2.map fun x=>(S ++ w :: (T ++ [l])).idxOf x) ++ [S.length]):=by
  rw [map_append,map_cons,map_append,il];show _ ++ _ :: (_ ++ [(S ++ w :: (T ++ [l])).idxOf w])=_;rw [iw]
 rw [em] at io2 ⊢;rw [e1] at io io2 ⊢;exact gap_under io.1 (by rw [io.2,ln]) io2.1
def CorP (r r':Rst):Stp->Prop
 | .home _=>r'.top.length + 1=r.top.length/\cnr r=cnr r' + 1
 | .even _ _=>r'.top.length + 1=r.top.length/\2<=r.top.length/\(cnr r=cnr r' + 1\/cnr r'=cnr r + 1)
 | _=>r'.top.length=r.top.length/\cnr r'=cnr r
theorem nodup_two {row:List Nat} {a b:Nat} (ha:a∈row) (hb:b∈row) (h:a≠b):2<=row.length:=by
 match row,ha,hb with
 | [x],ha,hb=>exact absurd ((mem_singleton.mp ha).trans (mem_singleton.mp hb).symm) h
 | _ :: _ :: _,_,_=>exact Nat.succ_le_succ (Nat.succ_le_succ (Nat.zero_le _))
theorem cor_step {r:Rst} (h:r.Ok) (ne:r.top≠[]) (hf:∀ j,r.ts.getD j false=false):CorP r ((nextN r).behind r) (nextN r):=by
 have n:=nextP h ne;have nT:=h.row.nd;have nB:=h.rowB.nd;have mT:=h.mT ne;have mB:=h.mB ne;have bne:r.bot≠[]:=fun e=>ne (length_eq_zero_iff.mp (by rw [<- h.lens,e];rfl));generalize nextN r=s at n ⊢
 cases s with
 | home a =>
  obtain ⟨e1,e2⟩:=n;obtain ⟨T,eT⟩:=J4h ne e1.symm;obtain ⟨B,eB⟩:=J4h bne e2.symm;have w1:=J2d nT ne;have w2:=J2d nB bne;rw [show r.top.getD (r.top.length - 1) 0=a from e1.symm] at w1;rw [show r.bot.getD (r.bot.length - 1) 0=a from e2.symm] at w2;show (withoutR r.top a).length + 1=r.top.length/\cntG2 (r.bot.map fun x=>r.top.idxOf x)=cntG2 ((withoutR r.bot a).map fun x=>(withoutR r.top a).idxOf x) + 1;have pm:=h.perm;rw [w1,w2,eT,eB,List.dropLast_concat,List.dropLast_concat];rw [eT] at nT pm;rw [eB] at pm;obtain ⟨q1,q2⟩:=rest_home nT pm;exact ⟨by rw [length_append];rfl,by rw [q1];exact gap_home q2⟩
 | even a b =>
  obtain ⟨e1,e2,hab,_⟩:=n;have ma:a∈r.bot:=h.perm.mem_iff.mpr (by rw [e1];exact mT);obtain ⟨T,eT⟩:=J4h ne e1.symm;obtain ⟨U,W,eB⟩:=row_two ma e2.symm hab;have w1:=J2d nT ne;rw [show r.top.getD (r.top.length - 1) 0=a from e1.symm] at w1;have pm:=h.perm;have two:2<=r.top.length:=nodup_two (by rw [e1];exact mT) (by rw [e2];exact mB) hab;show (withoutR r.top a).length + 1=r.top.length/\2<=r.top.length/\(cntG2 (r.bot.map fun x=>r.top.idxOf x)=cntG2 ((withoutR (putR r.bot a b false) a).map fun x=>(withoutR r.top a).idxOf x) + 1\/cntG2 ((withoutR (putR r.bot a b false) a).map fun x=>(withoutR r.top a).idxOf x)=cntG2 (r.bot.map fun x=>r.top.idxOf x) + 1);refine ⟨J25 nT (by rw [e1];exact mT),two,?_⟩;rw [eB] at nB pm;rw [eT] at nT pm;have wb:withoutR (putR r.bot a b false) a=U ++ b :: W:=by
   rw [eB,J63 nB];have m1:=nodup_append.mp nB;have m2:=nodup_cons.mp m1.2.1;have aU:a ∉ U:=fun q=>m1.2.2 a q a (mem_cons_self ..) rfl;have aW:a ∉ W:=fun q=>m2.1 (mem_append_left _ q);rw [show U ++ a :: b :: W=U ++ [a] ++ (b :: W) by simp,J1k,J1k,J1j aU,J1n,append_nil,J1j (fun q=>by
    rcases mem_cons.mp q with q | q
    ·exact hab q
    ·exact aW q)]
  rw [w1,wb,eT,eB,List.dropLast_concat];exact rest_even nT pm
 | over a b =>
  obtain ⟨e1,e2,hab,_⟩:=n;have ma:a∈r.bot:=h.perm.mem_iff.mpr (by rw [e1];exact mT);obtain ⟨T,eT⟩:=J4h ne e1.symm;obtain ⟨U,W,eB⟩:=row_two ma e2.symm hab;have pm:=h.perm;show r.top.length=r.top.length/\cntG2 ((putR r.bot a b (r.ts.getD a false)).map fun x=>r.top.idxOf x)=cntG2 (r.bot.map fun x=>r.top.idxOf x);refine ⟨rfl,?_⟩;rw [eB] at nB pm;rw [eT] at nT pm;rw [hf a,eB,J63 nB,eT];exact rest_over nT pm
 | under a b =>
  obtain ⟨e1,e2,hab,_⟩:=n;have ma:a∈r.top:=by rw [e1];exact mB
  have mb:b∈r.bot:=h.perm.mem_iff.mpr (by rw [e2];exact mT);obtain ⟨S,T,eT⟩:=row_two ma e2.symm hab;obtain ⟨B1,B2,eB⟩:=row_two mb e1.symm (Ne.symm hab);have pm:=h.perm;show (putR r.top a b (r.ts.getD a false)).length=r.top.length/\cntG2 (r.bot.map fun x=>(putR r.top a b (r.ts.getD a false)).idxOf x)=cntG2 (r.bot.map fun x=>r.top.idxOf x);refine ⟨(J1v nT (by rw [e2];exact mT) _).length_eq,?_⟩;rw [eB] at nB pm;rw [eT] at nT pm;rw [hf a,eB,eT,J63 nT];exact rest_under nT pm
 | overs a t=>exact ⟨rfl,rfl⟩
 | unders a t=>exact ⟨rfl,rfl⟩
theorem J46 {ts:List Bool} (hf:∀ j,ts.getD j false=false) (a:Nat):∀ j,(ts.set a false).getD j false=false:=fun j=>by
 rw [getD_eq_getElem?_getD,List.getElem?_set];by_cases c:a=j
 ·rw [if_pos c];split <;> rfl
 ·rw [if_neg c,<- getD_eq_getElem?_getD];exact hf j
theorem ts_step {r:Rst} (hf:∀ j,r.ts.getD j false=false) (s:Stp):∀ j,(s.behind r).ts.getD j false=false:=by
 have tb:∀ a b,∀ j,(J1s r a b).getD j false=false:=fun a b=>by
  unfold J1s;rw [hf a,hf b];exact J46 hf b
 cases s with
 | home a=>exact J46 hf a
 | even a b=>exact J46 (tb a b) a
 | over a b=>exact tb a b
 | under a b=>exact tb a b
 | overs a t=>exact hf
 | unders a t=>exact hf
noncomputable def hN (r:Rst):Nat:=(r.top.length + 1 - cnr r) / 2
theorem hN_two {r:Rst} (h:r.Ok):2 * hN r + cnr r=r.top.length + 1:=by
 obtain ⟨io,l⟩:=relO_ok h;have h1:=gap_par _ (relO r) io l;have h2:=cnt_le (relO r) io;rw [l] at h2;unfold hN;have h1:cnr r % 2=(r.top.length + 1) % 2:=h1;have h2:cnr r<=r.top.length + 1:=h2;omega
theorem hN_step {r:Rst} (h:r.Ok) (ne:r.top≠[]) (hf:∀ j,r.ts.getD j false=false) :
  (hN ((nextN r).behind r)=hN r\/(hN ((nextN r).behind r) + 1=hN r/\∃ a b,nextN r=.even a b))/\
  (if (nextN r).isHome=true then 1 else 0) + ((nextN r).behind r).top.length + hN r<=r.top.length + hN ((nextN r).behind r)/\
  (((nextN r).behind r).top=[]->(nextN r).isHome=true/\hN r=0):=by
 have c:=cor_step h ne hf;have t1:=hN_two h;have t2:=hN_two (h.next ne);have z:((nextN r).behind r).top=[]->((nextN r).behind r).top.length=0:=fun e=>by rw [e];rfl
 have pos:=length_pos_iff.mpr ne;have zc:((nextN r).behind r).top=[]->cnr ((nextN r).behind r)=1:=fun e=>by
  have hb:((nextN r).behind r).bot=[]:=length_eq_zero_iff.mp (by rw [(h.next ne).lens,e];rfl);unfold cnr relO;rw [hb];rfl
 generalize hs:nextN r=s at *;generalize hr:s.behind r=r' at *
 cases s with
 | home a =>
  obtain ⟨c1,c2⟩:=c;have e:hN r'=hN r:=by omega
  exact ⟨.inl e,by show 1 + _ + _<=_;omega,fun q=>⟨rfl,by have:=z q;have:=zc q;omega⟩⟩
 | even a b =>
  obtain ⟨c1,c2,c3⟩:=c;rcases c3 with c3 | c3
  ·exact ⟨.inl (by omega),by show 0 + _ + _<=_;omega,fun q=>by have:=z q;omega⟩
  ·exact ⟨.inr ⟨by omega,a,b,rfl⟩,by show 0 + _ + _<=_;omega,fun q=>by have:=z q;omega⟩
 | over a b | under a b | overs a t | unders a t =>
  obtain ⟨c1,c2⟩:=c;exact ⟨.inl (by omega),by show 0 + _ + _<=_;omega,fun q=>by have:=z q;omega⟩
theorem ts_at {p:Cst} (hf:∀ j,p.1.ts.getD j false=false):∀ k,∀ j,(chN p k).1.ts.getD j false=false
 | 0=>hf
 | k + 1=>ts_step (ts_at hf k) _
theorem bnd_one (p:Cst):(bndB p).length=if (nextN p.1).isHome=true then 1 else 0:=by
 unfold bndB;split <;> rfl
theorem J5r {p:Cst} (h:Cok p) (hf:∀ j,p.1.ts.getD j false=false):∀ {k:Nat},Long p k->(bndN p k).length + (chN p k).1.top.length + hN p.1<=p.1.top.length + hN (chN p k).1
 | 0,_=>by show 0 + _ + _<=_;rw [Nat.zero_add];exact Nat.le_refl _
 | k + 1,l=>by
  have ih:=J5r h hf (k:=k) fun i hi=>l i (by omega);have c:=(h.at_ (k:=k) fun i hi=>l i (by omega)).ok;have s:=(hN_step c (l k (by omega)) (ts_at hf k)).2.1;show (bndN p k ++ bndB (chN p k)).length + ((nextN (chN p k).1).behind (chN p k).1).top.length + hN p.1<=p.1.top.length + hN ((nextN (chN p k).1).behind (chN p k).1);rw [length_append,bnd_one];omega
theorem bands_all {p:Cst} (h:Cok p) (hf:∀ j,p.1.ts.getD j false=false) {m:Nat} (l:Long p m) (e:(chN p m).1.top=[]) (ne:p.1.top≠[]):1<=m/\1<=(bndN p m).length/\(bndN p m).length + hN p.1<=p.1.top.length/\hN (chN p (m - 1)).1=0:=by
 match m,l,e with
 | 0,_,e=>exact absurd e ne
 | m + 1,l,e =>
  have c:=(h.at_ (k:=m) fun i hi=>l i (by omega)).ok;have s:=hN_step c (l m (by omega)) (ts_at hf m);have e':((nextN (chN p m).1).behind (chN p m).1).top=[]:=e;obtain ⟨hh,h0⟩:=s.2.2 e';have ih:=J5r h hf (k:=m) fun i hi=>l i (by omega);have s2:=s.2.1;rw [hh,if_pos rfl] at s2;have bl:(bndN p (m + 1)).length=(bndN p m).length + 1:=by
   show (bndN p m ++ bndB (chN p m)).length=_;rw [length_append,bnd_one,if_pos hh]
  have tp:1<=(chN p m).1.top.length:=length_pos_iff.mpr (l m (by omega));refine ⟨by omega,by omega,by omega,h0⟩
end Rl
namespace R68
open PySem L2 Rl
def top (i:Nat):Stmt:=PySem.Challenge.pw_relaid_k68_whole_bands_and_handles.main.body.getD i (.Pass ⟨0,0,0,0⟩)
abbrev sRefL:Stmt:=top 8
abbrev sRefO:Stmt:=top 9
abbrev sRefOf:Stmt:=top 10
abbrev sRefT:Stmt:=top 11
abbrev sTold:Stmt:=top 12
abbrev sFirst:Stmt:=top 13
abbrev sRefP:Stmt:=top 16
abbrev sLeftE:Stmt:=top 17
abbrev sRightE:Stmt:=top 18
abbrev sMeetA:Stmt:=top 19
abbrev sMeets:Stmt:=top 20
abbrev sCornE:Stmt:=top 21
abbrev sCornN:Stmt:=top 22
abbrev J5y:Stmt:=top 23
abbrev sLenOf:Stmt:=top 26
abbrev sRestOf:Stmt:=top 27
abbrev J5x:Stmt:=top 29
abbrev J60:Stmt:=top 30
abbrev sPut:Stmt:=top 31
abbrev J5z:Stmt:=top 32
abbrev sShort:Stmt:=top 33
abbrev sTurnsB:Stmt:=top 34
abbrev sTimes:Stmt:=top 42
abbrev sOverS:Stmt:=top 43
abbrev sUnderS:Stmt:=top 44
abbrev sNext:Stmt:=top 45
abbrev sFirstT:Stmt:=top 47
abbrev sTowB:Stmt:=top 48
abbrev sBandsL:Stmt:=top 49
abbrev sCell:Stmt:=top 52
abbrev sDrawn2:Stmt:=top 53
abbrev sLaw:Stmt:=top 54
abbrev sInit:Stmt:=Jo (top 14) 0
abbrev sRInit:Stmt:=Jo (top 25) 0
abbrev sStInit:Stmt:=Jo (top 35) 0
abbrev J4a:Stmt:=Jo (top 35) 2
abbrev sHoInit:Stmt:=Jo (top 36) 0
abbrev sHoWord:Stmt:=Jo (top 36) 1
abbrev J4e:Stmt:=Jo (top 36) 2
abbrev J4f:Stmt:=Jo (top 36) 3
abbrev sEvInit:Stmt:=Jo (top 37) 0
abbrev sEvWord:Stmt:=Jo (top 37) 1
abbrev J4g:Stmt:=Jo (top 37) 3
abbrev sOvInit:Stmt:=Jo (top 38) 0
abbrev sOvWord:Stmt:=Jo (top 38) 1
abbrev J4b:Stmt:=Jo (top 38) 3
abbrev sUnInit:Stmt:=Jo (top 39) 0
abbrev sUnWord:Stmt:=Jo (top 39) 1
abbrev J49:Stmt:=Jo (top 39) 2
abbrev sOsInit:Stmt:=Jo (top 40) 0
abbrev sOsWord:Stmt:=Jo (top 40) 1
abbrev J4c:Stmt:=Jo (top 40) 2
abbrev J4d:Stmt:=Jo (top 40) 4
abbrev sUsInit:Stmt:=Jo (top 41) 0
abbrev sUsWord:Stmt:=Jo (top 41) 1
abbrev J47:Stmt:=Jo (top 41) 2
abbrev J48:Stmt:=Jo (top 41) 3
abbrev sChInit:Stmt:=Jo (top 50) 0
abbrev iV (ns:List Int):List V:=ns.map V.int
abbrev nV (os:List Nat):List V:=(natI os).map V.int
abbrev bV (bs:List Bool):List V:=bs.map V.bl
def SqH (H:Hp) (p:Addr) (xs:List V):Prop:=H p=some (.lst xs)\/H p=some (.tup xs)
theorem SqH.sq {K:Frag} {H:Hp} {p:Addr} {xs:List V} (h:SqH H p xs):SqL K H p xs\/SqT K H p xs:=h.elim (fun h=>.inl (SqL.of h)) fun h=>.inr (SqT.of h)
theorem SqH.same {H H':Hp} {p:Addr} {xs:List V} (h:SqH H p xs) (s:Same H H'):SqH H' p xs:=h.elim (fun h=>.inl (s _ _ h)) fun h=>.inr (s _ _ h)
theorem J4 {H:Hp} {l:Addr} {o:HO} (h:H l=none):Same H (upd H l o):=fun b u e=>by rw [J9 (J7 e h)];exact e
theorem iteD {c A B:Prop} [Decidable c] (hc:¬ c) (h:B):if decide c=true then A else B:=by
 rw [decide_eq_false hc];exact iteF h
theorem iteDT {c A B:Prop} [Decidable c] (hc:c) (h:A):if decide c=true then A else B:=by
 rw [decide_eq_true hc];exact iteT h
theorem iteBT {c:Bool} {A B:Prop} (h:c=true) (q:A):if c=true then A else B:=by rw [if_pos h];exact q
theorem iteBF {c:Bool} {A B:Prop} (h:¬ c=true) (q:B):if c=true then A else B:=by rw [if_neg h];exact q
theorem iteND {c A B:Prop} [Decidable c] (hc:¬ c) (h:A):if (!decide c)=true then A else B:=by
 rw [decide_eq_false hc];exact iteT h
theorem J13 {K:Frag} {H:Hp} {p:Addr} {xs:List V} {Q:VK} (h:SqH H p xs) (k:∀ l H',Same H H'->H' l=some (.tup xs)->Q (.ref l) H'):rTup K [V.ref p] H Q:=by
 unfold rTup;rcases h with h | h
 ·exact ⟨p,xs,rfl,.inl ⟨SqL.of h,fun l hl=>k l _ (J4 hl) J0⟩⟩
 ·exact ⟨p,xs,rfl,.inr ⟨SqT.of h,k p H (Same.refl _) h⟩⟩
theorem vint_ne {i j:Int} (h:i≠j):¬ V.int i=V.int j:=fun e=>h (V.int.inj e)
theorem ixN_nat {n o:Nat} (h:o < n):ixN n (o:Int)=some o:=by
 unfold ixN;rw [if_pos (by omega),if_pos (by omega)];simp
theorem J2h {ns:List Int} {j:Nat} (h:j < ns.length):(iV ns)[j]?=some (V.int (ns.getD j 0)):=by
 rw [getElem?_map,List.getElem?_eq_getElem h,getD_eq_getElem?_getD,List.getElem?_eq_getElem h];rfl
theorem iV_set (ns:List Int) (j:Nat) (z:Int):(iV ns).set j (V.int z)=iV (ns.set j z):=by
 show (ns.map V.int).set j (V.int z)=(ns.set j z).map V.int;rw [List.map_set]
theorem nV_get {os:List Nat} {j:Nat} {y:V} (h:(nV os)[j]?=some y):j < os.length/\y=V.int (os.getD j 0:Nat)/\os.getD j 0∈os:=by
 have hj:j < os.length:=by
  have:=(List.getElem?_eq_some_iff.mp h).1;simpa [natI] using this
 refine ⟨hj,?_,?_⟩
 ·rw [getElem?_map] at h;unfold natI at h;rw [getElem?_map,List.getElem?_eq_getElem hj] at h;rw [getD_eq_getElem?_getD,List.getElem?_eq_getElem hj];exact (Option.some.inj h).symm
 ·rw [getD_eq_getElem?_getD,List.getElem?_eq_getElem hj];exact List.getElem_mem hj
theorem flat_zero (n:Nat):(List.replicate n [V.int 0]).flatten=iV (List.replicate n 0):=by
 induction n with
 | zero=>rfl
 | succ n ih=>rw [replicate_succ,flatten_cons,ih,replicate_succ];rfl
theorem flat_false (n:Nat):(List.replicate n [V.bl false]).flatten=bV (List.replicate n false):=by
 induction n with
 | zero=>rfl
 | succ n ih=>rw [replicate_succ,flatten_cons,ih,replicate_succ];rfl
theorem Jz {f:Str} {v:V} {fs:List (Str × V)}:(putF f v fs).lookup f=some v:=by rw [J27,if_pos rfl]
theorem lk_ne {f g:Str} {v:V} {fs:List (Str × V)} (h:¬ g=f):(putF f v fs).lookup g=fs.lookup g:=by rw [J27,if_neg h]
theorem J2b (ls:List Int):(iV ls).length=ls.length:=length_map ..
def KeepX (x:Addr) (H H':Hp):Prop:=∀ b o,H b=some o->b≠x->H' b=some o
theorem KeepX.of {x:Addr} {H H':Hp} (s:Same H H'):KeepX x H H':=fun b o e _=>s b o e
theorem KeepX.trans {x:Addr} {H H1 H2:Hp} (a:KeepX x H H1) (b:KeepX x H1 H2):KeepX x H H2:=fun c o e n=>b c o (a c o e n) n
theorem KeepX.upd {x:Addr} {H:Hp} {o:HO}:KeepX x H (upd H x o):=fun b u e n=>by rw [J9 n];exact e
theorem KeepX.sqH {x p:Addr} {H H':Hp} {xs:List V} (k:KeepX x H H') (h:SqH H p xs) (n:p≠x):SqH H' p xs:=h.elim (fun h=>.inl (k _ _ h n)) fun h=>.inr (k _ _ h n)
theorem SqH.ne {H:Hp} {p x C dx:Addr} {xs:List V} {fs:List (Str × V)} (h:SqH H p xs) (hx:H x=some (.ins C dx fs)):p≠x:=h.elim (fun h=>ne_of h hx (by intro z;cases z)) fun h=>ne_of h hx (by intro z;cases z)
theorem bV_get {ts:List Bool} {j:Nat} (h:j < ts.length):(bV ts)[j]?=some (V.bl (ts.getD j false)):=by
 rw [getElem?_map,List.getElem?_eq_getElem h,getD_eq_getElem?_getD,List.getElem?_eq_getElem h];rfl
structure TxtX (K:Frag) (mg:Str->Option Value) (x:Str) (CO:Addr):Prop where
 mg:mg x=some (.ref CO)
 ex:excIn K CO bmV "ValueError.__new__"=true
structure TxtR (mg:Str->Option Value):Prop where
 len:mg "len"=none
 sum:mg "sum"=none
 tuple:mg "tuple"=none
 list:mg "list"=none
 range:mg "range"=none
theorem nV_eq (row:List Nat):nV row=row.map fun (j:Nat)=>V.int (j:Int):=by
 show (row.map fun (n:Nat)=>(n:Int)).map V.int=_;rw [map_map];rfl
theorem J1z (row:List Nat):(nV row).length=row.length:=by rw [nV_eq,length_map]
theorem nV_at {row:List Nat} {i:Nat} (h:i < row.length):(nV row)[i]?=some (V.int (row.getD i 0:Nat)):=by
 rw [nV_eq,getElem?_map,getD_eq_getElem?_getD,List.getElem?_eq_getElem h];rfl
section
variable {P:Program} {w:World} {K:Frag} {mg:Str->Option Value} {base:Heap}
def spFirst:Sp:=fun vs H Q _=>∃ (p q:Addr) (ls:List Int) (os:List Nat),vs=[.ref p,.ref q]/\H p=some (.tup (iV ls))/\SqH H q (nV os)/\(∀ o∈os,o < ls.length)/\ls.length<=24/\
 ∀ l H',Same H H'->H' l=some (.tup (iV (firsts ls os)))->Q (.ref l) H'
theorem scFirst:FnScope ["lengths","order","firsts","place","piece"] ["lengths","order"] (J6 sFirst):=fS
def PvF (p q fl:Addr) (ls:List Int) (os:List Nat) (H:Hp) (i:Nat) (σ:St) (H2:Hp):Prop :=
 ∃ v,σ=[some (.ref p),some (.ref q),some (.ref fl),some (.int (sumsF ls os i).2),v]/\H2 fl=some (.lst (iV (sumsF ls os i).1))/\H fl=none/\Same H H2
theorem ok_first {f:Addr} {fd:FuncData} (F:Fun K "first_places" "first_places" sFirst f fd) (T:TxtR mg):FnOk P w K mg base CX0 1 f fd ["lengths","order"] spFirst:=by
 refine F.ok scFirst (fun vs H Q E h=>?_) (fun cdv A outer s H vs Q E hr h=>?_)
 ·obtain ⟨p,q,ls,os,rfl,_⟩:=h;rfl
 ·obtain ⟨p,q,ls,os,rfl,hp,hq,hlt,hn,k⟩:=h;have hl:(iV ls).length=ls.length:=length_map ..;have turn:∀ (fl:Addr) (i:Nat) (y:V) (σ:St) (H2:Hp) (D:Ends),(nV os)[i]?=some y->PvF p q fl ls os H i σ H2->D.nx=PvF p q fl ls os H (i + 1)->
    gName 4 y σ H2 fun σ2 H2=>tSeq (tAsg (tVar 3) (gSub (tVar 2) (tVar 4) rSetL)) (tAsg (tOp (rI0 fun i j=>.int (i + j)) (tVar 3) (tOp (rIxT K) (tVar 0) (tVar 4))) (gName 3)) D σ2 H2:=by
   rintro fl i y σ H2 D hy ⟨v,rfl,h1,h2,h3⟩ hD;obtain ⟨hi,rfl,hm⟩:=nV_get hy;have ho:=hlt _ hm;refine ⟨_,rfl,_,rfl,_,rfl,fl,_,_,os.getD i 0,rfl,rfl,h1,ixN_nat (by rw [length_map,sumsF_len];exact ho),?_⟩;refine ⟨_,rfl,_,rfl,_,rfl,p,_,_,_,rfl,rfl,SqT.of (xs:=iV ls) ?_,Jl (J2h ho),_,_,rfl,rfl,?_⟩
   ·rw [J9 (ne_of (h3 _ _ hp) h1 (by intro z;cases z))];exact h3 _ _ hp
   ·show D.nx _ _;rw [hD];refine ⟨_,rfl,?_,h2,fun b o e=>?_⟩
    ·rw [J0,iV_set];rfl
    ·rw [J9 (J7 e h2)];exact h3 _ _ e
  have start0:∀ fl,H fl=none->∀ H1,Same H H1->H1 fl=some (.lst (iV (List.replicate ls.length 0)))->PvF p q fl ls os H 0 [some (.ref p),some (.ref q),some (.ref fl),some (.int 0),none] H1:=fun fl h1 H1 h2 h3=>⟨none,rfl,h3,h1,h2⟩;have done:∀ fl (σ:St) (H2:Hp),PvF p q fl ls os H (nV os).length σ H2->tRet (tCB (rTup K) (tCons (tVar 2) tNil)) { nx:=fun _ H'=>Q .non H',rt:=Q } σ H2:=by
   rintro fl σ H2 ⟨v,rfl,h1,h2,h3⟩;have e:(nV os).length=os.length:=by simp [natI]
   rw [e] at h1;exact ⟨_,rfl,J13 (.inl h1) fun l H' s hl=>k l _ (h3.trans s) hl⟩
  have rep:∀ fl,H fl=none->∀ l2,(upd H fl (.lst [V.int 0])) l2=none->PvF p q l2 ls os H 0 [some (.ref p),some (.ref q),some (.ref l2),some (.int 0),none] (upd (upd H fl (.lst [V.int 0])) l2 (.lst (List.replicate ((iV ls).length:Int).toNat [V.int 0]).flatten)):=fun fl hf l2 h2 =>
   start0 l2 ((J4 hf).free h2) _ ((J4 hf).trans (J4 h2)) (by rw [J0,flat_zero,hl];rfl)
  rcases hq with hq | hq
  ·refine ⟨_,J1 (Jj (i:=2) scFirst.nd rfl (Or.inl rfl) (pe_op op_rep (J2p (pa_cons Je J2)) (Jh Jc (by rfl) T.len boot_len (pa_cons (pv 0) J2))))
    (J1 (Jj (i:=3) scFirst.nd rfl (Or.inl rfl) Je)
    (J1 (ps_for PassesOwn.never rfl (J5c (pv 1)) (J1w (i:=4) scFirst.nd rfl (Or.inl rfl)) (J1 (ps_asg (pv 3) (pg_sub (pv 2) (pv 4) J5w)) (J8 (Jj (i:=3) scFirst.nd rfl (Or.inl rfl) (pe_op J2g (pv 3) (pe_ix ix_tup (pv 0) (pv 4) (fun _ _=>rfl)))))))
    (J8 (Ji (Jd J10 (by rfl) T.tuple boot_tuple (pa_cons (pv 2) J2)))))),?_⟩
   refine ⟨by show 1<=sizeLine;decide,fun fl hf=>⟨_,rfl,p,_,rfl,.inr (SqT.of (J4 hf _ _ hp)),fl,_,[V.int 0],rfl,rfl,J0,by omega,by omega,?_,fun l2 h2=>?_⟩⟩
   ·show 1 * ((iV ls).length:Int).toNat<=sizeLine;have:=Jp (n:=ls.length) (by omega);omega
   ·have p0:=rep fl hf l2 h2;exact ⟨_,rfl,q,rfl,⟨_,SqL.of (((J4 hf).trans (J4 h2)) _ _ hq)⟩,for_list (K:=K) (a:=q) (xs:=nV os) (PvF p q l2 ls os H) p0 (fun i σ H2 _ h9=>by obtain ⟨_,_,_,_,s⟩:=h9;exact SqL.of (s _ _ hq)) (fun i y σ H2 hi pv=>turn l2 i y σ H2 _ hi pv rfl) (fun σ H2 pv=>done l2 σ H2 pv)⟩
  ·refine ⟨_,J1 (Jj (i:=2) scFirst.nd rfl (Or.inl rfl) (pe_op op_rep (J2p (pa_cons Je J2)) (Jh Jc (by rfl) T.len boot_len (pa_cons (pv 0) J2))))
    (J1 (Jj (i:=3) scFirst.nd rfl (Or.inl rfl) Je)
    (J1 (ps_for PassesOwn.never rfl (pi_tup (pv 1)) (J1w (i:=4) scFirst.nd rfl (Or.inl rfl)) (J1 (ps_asg (pv 3) (pg_sub (pv 2) (pv 4) J5w)) (J8 (Jj (i:=3) scFirst.nd rfl (Or.inl rfl) (pe_op J2g (pv 3) (pe_ix ix_tup (pv 0) (pv 4) (fun _ _=>rfl)))))))
    (J8 (Ji (Jd J10 (by rfl) T.tuple boot_tuple (pa_cons (pv 2) J2)))))),?_⟩
   refine ⟨by show 1<=sizeLine;decide,fun fl hf=>⟨_,rfl,p,_,rfl,.inr (SqT.of (J4 hf _ _ hp)),fl,_,[V.int 0],rfl,rfl,J0,by omega,by omega,?_,fun l2 h2=>?_⟩⟩
   ·show 1 * ((iV ls).length:Int).toNat<=sizeLine;have:=Jp (n:=ls.length) (by omega);omega
   ·have p0:=rep fl hf l2 h2;exact ⟨_,rfl,q,rfl,⟨_,SqT.of (((J4 hf).trans (J4 h2)) _ _ hq)⟩,for_tup (K:=K) (a:=q) (xs:=nV os) (PvF p q l2 ls os H) p0 (fun i σ H2 _ h9=>by obtain ⟨_,_,_,_,s⟩:=h9;exact SqT.of (s _ _ hq)) (fun i y σ H2 hi pv=>turn l2 i y σ H2 _ hi pv rfl) (fun σ H2 pv=>done l2 σ H2 pv)⟩
end
end R68
namespace R68
open PySem L2 Rl
structure Good (ls:List Int) (os:List Nat):Prop where
 lo:1<=ls.length
 hi:ls.length<=24
 pos:∀ a∈ls,1<=a
 sum:ls.sum<=10 ^ 30
 perm:os.Perm (List.range ls.length)
theorem Good.olt {ls:List Int} {os:List Nat} (g:Good ls os):∀ o∈os,o < ls.length:=fun o h=>mem_range.mp (g.perm.mem_iff.mp h)
structure Txt (K:Frag) (mg:Str->Option Value):Prop where
 len:mg "len"=none
 min:mg "min"=none
 sum:mg "sum"=none
 sorted:mg "sorted"=none
 list:mg "list"=none
 range:mg "range"=none
 tuple:mg "tuple"=none
 most:∃ t,mg "MOST_PIECES"=some (.int 24 t)
section
variable {P:Program} {w:World} {K:Frag} {mg:Str->Option Value} {base:Heap}
def spRefL:Sp:=fun vs H Q _=>∃ (p:Addr) (ls:List Int) (os:List Nat),vs=[.ref p]/\SqH H p (iV ls)/\Good ls os/\Q .non H
theorem scRefL:FnScope ["lengths"] ["lengths"] (J6 sRefL):=fS
theorem ok_refL {f:Addr} {fd:FuncData} (F:Fun K "refuse_lengths" "refuse_lengths" sRefL f fd) (T:Txt K mg):FnOk P w K mg base CX0 1 f fd ["lengths"] spRefL:=by
 refine F.ok scRefL (fun vs H Q E h=>?_) (fun cdv A outer s H vs Q E hr h=>?_)
 ·obtain ⟨p,ls,os,rfl,_⟩:=h;rfl
 ·obtain ⟨p,ls,os,rfl,hp,g,k⟩:=h;obtain ⟨t24,h24⟩:=T.most;have g1:=g.lo;have g2:=g.hi;refine ⟨_,J1 (ps_if (Jm op_eq (Jh Jc (by rfl) T.len boot_len (pa_cons (pv 0) J2)) Je (J14 _)) (J8 J2n) J16)
   (J1 (ps_if (Jm op_gt (Jh Jc (by rfl) T.len boot_len (pa_cons (pv 0) J2)) (pe_glob (v:=.int 24) rfl h24 ⟨_,rfl⟩) (J14 _)) (J8 J2n) J16)
   (J1 (ps_if (Jm op_lt (Jh (call_min rfl) (by rfl) T.min boot_min (pa_cons (pv 0) J2)) Je (J14 _)) (J8 J2n) J16)
   (J8 (ps_if (Jm op_gt (Jh (J6f rfl) (by rfl) T.sum boot_sum (pa_cons (pv 0) J2)) (pe_op op_pow Je Je) (J14 _)) (J8 J2n) J16)))),?_⟩
  have hl:(iV ls).length=ls.length:=length_map ..;refine ⟨_,rfl,p,_,rfl,hp.sq,rfl,_,rfl,iteD (vint_ne (by rw [hl];omega)) ?_⟩;refine ⟨_,rfl,p,_,rfl,hp.sq,_,_,rfl,rfl,_,rfl,iteD (by rw [hl];omega) ?_⟩;refine ⟨_,rfl,p,ls,rfl,hp.sq,by omega,fun M hM hall=>⟨_,_,rfl,rfl,_,rfl,iteD (by have:=g.pos M hM;omega) ?_⟩⟩;refine ⟨_,rfl,p,ls,rfl,hp.sq,_,_,rfl,rfl,⟨by decide,by decide,by decide⟩,_,_,rfl,rfl,_,rfl,iteD ?_ ?_⟩
  ·have:=g.sum;show ¬ (10:Int) ^ 30 < ls.sum;omega
  ·exact k
def spRefO:Sp:=fun vs H Q _=>∃ (q:Addr) (os:List Nat) (n:Nat),vs=[.ref q,.int n]/\SqH H q (nV os)/\os.Perm (List.range n)/\n<=24/\∀ H',Same H H'->Q .non H'
theorem scRefO:FnScope ["order","pieces"] ["order","pieces"] (J6 sRefO):=fS
theorem ok_refO {f:Addr} {fd:FuncData} (F:Fun K "refuse_order" "refuse_order" sRefO f fd) (T:Txt K mg):FnOk P w K mg base CX0 1 f fd ["order","pieces"] spRefO:=by
 refine F.ok scRefO (fun vs H Q E h=>?_) (fun cdv A outer s H vs Q E hr h=>?_)
 ·obtain ⟨q,os,n,rfl,_⟩:=h;rfl
 ·obtain ⟨q,os,n,rfl,hq,hp,hn,k⟩:=h;have hu:=hr.units0;refine ⟨_,J8 (ps_if (Jm (op_neL hu) (Jh J41 (by rfl) T.sorted boot_sorted (pa_cons (pv 0) J2))
   (Jd (Jw rfl) (by rfl) T.list boot_list (pa_cons (Jd J2x (by rfl) T.range PyProof.Rows.boot_range (pa_cons (pv 1) J2)) J2)) (J14 _)) (J8 J2n) J16),?_⟩
  have ho:(natI os).length < 64:=by
   unfold natI;rw [length_map,hp.length_eq,length_range];omega
  refine ⟨_,rfl,q,natI os,rfl,hq.sq,ho,fun l ns' hl h1 h2=>?_⟩;refine ⟨_,rfl,(n:Int),rfl,fun r hr'=>⟨r,n,rfl,J0,by omega,fun l2 hl2=>?_⟩⟩;have e:=J3b hp h1 h2;have n1:l≠r:=J7 (H:=upd H l (.lst (ns'.map V.int))) J0 hr';have s1:Same (upd H l (.lst (ns'.map V.int))) (upd (upd (upd H l (.lst (ns'.map V.int))) r (.rng 0 n)) l2 (.lst (((List.range n).map fun (i:Nat)=>(i:Int)).map V.int))):=(J4 hr').trans (J4 hl2);refine ⟨l,l2,_,_,rfl,rfl,SqL.of (s1 _ _ J0),SqL.of J0,Kin.ints _ _,_,rfl,iteNS (by rw [e];rfl) ?_⟩;exact k _ ((J4 hl).trans s1)
def spRefT:Sp:=fun vs H Q _=>∃ (q:Addr) (xs:List V) (n:Nat),vs=[.ref q,.int n]/\SqH H q xs/\xs.length=n/\Q .non H
theorem scRefT:FnScope ["turned","pieces"] ["turned","pieces"] (J6 sRefT):=fS
theorem ok_refT {f:Addr} {fd:FuncData} (F:Fun K "refuse_turned" "refuse_turned" sRefT f fd) (T:Txt K mg):FnOk P w K mg base CX0 1 f fd ["turned","pieces"] spRefT:=by
 refine F.ok scRefT (fun vs H Q E h=>?_) (fun cdv A outer s H vs Q E hr h=>?_)
 ·obtain ⟨q,xs,n,rfl,_⟩:=h;rfl
 ·obtain ⟨q,xs,n,rfl,hq,hn,k⟩:=h;refine ⟨_,J8 (ps_if (Jm op_ne (Jh Jc (by rfl) T.len boot_len (pa_cons (pv 0) J2)) (pv 1) (J14 _)) (J8 J2n) J16),?_⟩;refine ⟨_,rfl,q,_,rfl,hq.sq,_,rfl,rfl,_,rfl,iteNS (by rw [hn]) ?_⟩;exact k
def TurnsOf (H:Hp) (tv:V) (n:Nat) (ts:List Bool):Prop:=ts.length=n/\((tv=.non/\ts=List.replicate n false)\/∃ t,tv=.ref t/\SqH H t (bV ts))
theorem TurnsOf.same {H H':Hp} {tv:V} {n:Nat} {ts:List Bool} (h:TurnsOf H tv n ts) (s:Same H H'):TurnsOf H' tv n ts:=⟨h.1,h.2.elim .inl fun h9=>by obtain ⟨t,e,q⟩:=h9;exact .inr ⟨t,e,q.same s⟩⟩
def spTold:Sp:=fun vs H Q _=>∃ (tv:V) (n:Nat) (ts:List Bool),vs=[tv,.int n]/\1<=n/\n<=24/\TurnsOf H tv n ts/\∀ p H',Same H H'->H' p=some (.tup (bV ts))->Q (.ref p) H'
theorem scTold:FnScope ["turned","pieces"] ["turned","pieces"] (J6 sTold):=fS
theorem ok_told {f fT:Addr} {fd fdT:FuncData} (F:Fun K "turns_told" "turns_told" sTold f fd) (T:Txt K mg) (FT:Fun K "refuse_turned" "refuse_turned" sRefT fT fdT) (bT:Binds K fdT ["turned","pieces"] []) (mT:mg "refuse_turned"=some (.ref fT)):FnOk P w K mg base CX0 2 f fd ["turned","pieces"] spTold:=by
 have GT:FnOk P w K mg base CX0 1 fT fdT ["turned","pieces"] spRefT:=ok_refT FT T;refine F.ok scTold (fun vs H Q E h=>?_) (fun cdv A outer s H vs Q E hr h=>?_)
 ·obtain ⟨tv,n,ts,rfl,_⟩:=h;rfl
 ·obtain ⟨tv,n,ts,rfl,h1,h2,⟨ht,h3⟩,k⟩:=h;refine ⟨_,J1 (ps_if (pt_cmp (pc_isN (pv 0))) (J8 (Ji (pe_op op_repT (J4k (pa_cons pe_bl J2)) (pv 1)))) J16)
   (J1 (Jv (Jb GT hr rfl mT FT.kp bT .nil pass0 (pa_cons (pv 0) (pa_cons (pv 1) J2))))
   (J8 (Ji (Jd J10 (by rfl) T.tuple boot_tuple (pa_cons (pv 0) J2))))),?_⟩
  rcases h3 with ⟨rfl,rfl⟩ | ⟨t,rfl,hq⟩
  ·refine ⟨_,rfl,_,rfl,iteDT rfl ?_⟩;refine ⟨by show 1<=sizeLine;decide,fun p hp=>⟨_,rfl,p,(n:Int),[V.bl false],rfl,rfl,J0,by simp,by omega,by omega,?_,fun e=>?_,fun hk p2 hp2=>?_⟩⟩
   ·show 1 * (n:Int).toNat<=sizeLine;have:=Jp (n:=n) (by omega);omega
   ·have en:n=1:=by omega
    subst en;exact k p _ (J4 hp) J0
   ·refine k p2 _ ((J4 hp).trans (J4 hp2)) ?_;rw [J0,<- flat_false];rfl
  ·refine ⟨_,rfl,_,rfl,iteD (by intro e;cases e) ?_⟩;refine ⟨_,rfl,_,rfl,t,bV ts,n,rfl,hq,by rw [length_map];exact ht,?_⟩;exact ⟨_,rfl,J13 hq k⟩
def tCut (t:TS):TS:=fun D σ H=>∃ post:St->Hp->Prop,t { D with nx:=post } σ H/\∀ σ' H',post σ' H'->D.nx σ' H'
theorem ps_cut {X:Cx} {st:Stmt} {t:TS} (h:PS X st t):PS X st (tCut t):=by
 intro pins s σ H D I ⟨post,q,m⟩;refine thn (h pins s σ H _ I q) fun f s' z=>?_
 cases f with
 | next=>obtain ⟨σ',H',I',z⟩:=z;exact ⟨σ',H',I',m σ' H' z⟩
 | brk=>exact z
 | cont=>exact z
 | ret u=>exact z
structure LineAt (C:Addr) (H:Hp) (x:Addr) (ls:List Int) (os:List Nat) (ts:List Bool):Prop where
 ex:∃ (dx:Addr) (fs:List (Str × V)) (pl po pt ps pd:Addr),H x=some (.ins C dx fs)/\(fs.lookup ("lengths":Str)=some (.ref pl)/\fs.lookup ("order":Str)=some (.ref po)/\fs.lookup ("turned":Str)=some (.ref pt)/\
  fs.lookup ("starts":Str)=some (.ref ps)/\fs.lookup ("laid":Str)=some (.ref pd)/\fs.lookup ("size":Str)=some (.int ls.sum))/\
  H pl=some (.tup (iV ls))/\H po=some (.tup (nV os))/\H pt=some (.tup (bV ts))/\H ps=some (.tup (iV (firsts ls (List.range ls.length))))/\H pd=some (.tup (iV (firsts ls os)))
theorem LineAt.same {C:Addr} {H H':Hp} {x:Addr} {ls:List Int} {os:List Nat} {ts:List Bool} (h:LineAt C H x ls os ts) (s:Same H H'):LineAt C H' x ls os ts:=by
 obtain ⟨dx,fs,pl,po,pt,ps,pd,h0,hl,h1,h2,h3,h4,h5⟩:=h.ex;exact ⟨dx,fs,pl,po,pt,ps,pd,s _ _ h0,hl,s _ _ h1,s _ _ h2,s _ _ h3,s _ _ h4,s _ _ h5⟩
structure TxtC (K:Frag) (mg:Str->Option Value) (C:Addr):Prop where
 cl:Cls K C
 nL:NoAttr K C "lengths"
 nO:NoAttr K C "order"
 nT:NoAttr K C "turned"
 nS:NoAttr K C "starts"
 nD:NoAttr K C "laid"
 nZ:NoAttr K C "size"
structure FunD (K:Frag) (x qual:Str) (st:Stmt) (f:Addr) (fd:FuncData) (TD:Addr):Prop where
 ex:∃ (oc:Value) (od:Option Addr) (kV doc pm:Value) (an:Option Addr) (cdv ct:Value) (osl:Array (Option Value)),
  fd=fnOf x qual (J23 st) (J1i st) (J6 st) (.ref TD) kV doc pm an cdv ct/\K.lookup f=some ⟨oc,od,.func fd,osl⟩/\codeIn K cdv qual=true
 kp:keepIn K (.ref f)=true
theorem FunD.ok {x qual:Str} {st:Stmt} {f TD:Addr} {fd:FuncData} {N ps:List Str} {k:Nat} {sp:Sp} (F:FunD K x qual st f fd TD) (S:FnScope N ps (J6 st)) (len:∀ vs H Q E,sp vs H Q E->vs.length=ps.length)
  (hbody:∀ (cdv:Value) (A:Around) (outer:List Env) (s:Shared) (H:Hp) (vs:List V) (Q:VK) (E:XK),Room k (A.deeper (PyProof.Rows.envOfC qual (J6 st) s.heap.objs.size f cdv))->sp vs H Q E->
   ∃ t,PSs (cxOf CX0 P w K mg base N qual (J6 st) f cdv A outer s H E).nox (J1i st) t/\t { nx:=fun _ H'=>Q .non H',rt:=Q } (start N vs) H):FnOk P w K mg base CX0 (k + 1) f fd ps sp:=by
 obtain ⟨oc,od,kV,doc,pm,an,cdv,ct,osl,rfl,lk,hcd⟩:=F.ex;refine fn_of lk hcd S len fun A outer s H vs Q E hr hsp=>?_;obtain ⟨t,h,q⟩:=hbody cdv A outer s H vs Q E hr hsp;exact ⟨t,h.nox,q⟩
def spInit (C:Addr):Sp:=fun vs H Q _=>∃ (x dx p q:Addr) (tv:V) (ls:List Int) (os:List Nat) (ts:List Bool),vs=[.ref x,.ref p,.ref q,tv]/\H x=some (.ins C dx [])/\SqH H p (iV ls)/\SqH H q (nV os)/\Good ls os/\TurnsOf H tv ls.length ts/\
 ∀ H',LineAt C H' x ls os ts->(∀ b o,H b=some o->b≠x->H' b=some o)->Q .non H'
theorem scInit:FnScope ["self","lengths","order","turned"] ["self","lengths","order","turned"] (J6 sInit):=fS
theorem ok_init {f fL fO fT fF TD C:Addr} {fd fdL fdO fdT fdF:FuncData} (F:FunD K "__init__" "Line.__init__" sInit f fd TD) (T:Txt K mg) (TC:TxtC K mg C)
  (GL:FnOk P w K mg base CX0 1 fL fdL ["lengths"] spRefL) (bL:Binds K fdL ["lengths"] []) (mL:mg "refuse_lengths"=some (.ref fL)) (kL:keepIn K (.ref fL)=true)
  (GO:FnOk P w K mg base CX0 1 fO fdO ["order","pieces"] spRefO) (bO:Binds K fdO ["order","pieces"] []) (mO:mg "refuse_order"=some (.ref fO)) (kO:keepIn K (.ref fO)=true)
  (GT:FnOk P w K mg base CX0 2 fT fdT ["turned","pieces"] spTold) (bT:Binds K fdT ["turned","pieces"] []) (mT:mg "turns_told"=some (.ref fT)) (kT:keepIn K (.ref fT)=true)
  (GF:FnOk P w K mg base CX0 1 fF fdF ["lengths","order"] spFirst) (bF:Binds K fdF ["lengths","order"] []) (mF:mg "first_places"=some (.ref fF)) (kF:keepIn K (.ref fF)=true) :
  FnOk P w K mg base CX0 3 f fd ["self","lengths","order","turned"] (spInit C):=by
 refine F.ok scInit (fun vs H Q E h=>?_) (fun cdv A outer s H vs Q E hr h=>?_)
 ·obtain ⟨x,dx,p,q,tv,ls,os,ts,rfl,_⟩:=h;rfl
 ·obtain ⟨x,dx,p,q,tv,ls,os,ts,rfl,hx,hp,hq,g,ht,k⟩:=h;have hr1:Room 1 _:=rm hr;have g1:=g.lo;have g2:=g.hi;have npx:=hp.ne hx;have nqx:=hq.ne hx;refine ⟨_,J1 (Jv (Jb GL hr1 rfl mL kL bL .nil pass0 (pa_cons (pv 1) J2)))
   (J1 (Jv (Jb GO hr1 rfl mO kO bO .nil pass0 (pa_cons (pv 2) (pa_cons (Jh Jc (by rfl) T.len boot_len (pa_cons (pv 1) J2)) J2))))
   (J1 (J1q (pv 0) (Jb GT hr rfl mT kT bT .nil pass0 (pa_cons (pv 3) (pa_cons (Jh Jc (by rfl) T.len boot_len (pa_cons (pv 1) J2)) J2))) rfl)
   (J1 (J1q (pv 0) (Jd J10 (by rfl) T.tuple boot_tuple (pa_cons (pv 1) J2)) rfl)
   (J1 (J1q (pv 0) (Jd J10 (by rfl) T.tuple boot_tuple (pa_cons (pv 2) J2)) rfl)
   (J1 (J1q (pv 0) (Jb GF hr1 rfl mF kF bF .nil pass0 (pa_cons (Ja (pv 0) rfl) (pa_cons (Jd (Jw rfl) (by rfl) T.list boot_list (pa_cons (Jd J2x (by rfl) T.range PyProof.Rows.boot_range (pa_cons (Jh Jc (by rfl) T.len boot_len (pa_cons (pv 1) J2)) J2)) J2)) J2))) rfl)
   (J1 (J1q (pv 0) (Jb GF hr1 rfl mF kF bF .nil pass0 (pa_cons (Ja (pv 0) rfl) (pa_cons (Ja (pv 0) rfl) J2))) rfl)
   (J8 (J1q (pv 0) (Jh (J6f rfl) (by rfl) T.sum boot_sum (pa_cons (Ja (pv 0) rfl) J2)) rfl)))))))),?_⟩
  refine ⟨_,rfl,p,ls,os,rfl,hp,g,?_⟩;refine ⟨_,rfl,_,rfl,p,_,rfl,hp.sq,q,os,ls.length,(by rw [J2b];rfl),hq,g.perm,g2,fun H1 s1=>?_⟩;refine ⟨_,rfl,_,rfl,p,_,rfl,(hp.same s1).sq,tv,ls.length,ts,(by rw [J2b];rfl),g1,g2,ht.same s1,fun pt H2 s2 hpt=>?_⟩;have s12:=s1.trans s2;refine ⟨_,rfl,x,C,dx,[],rfl,s12 _ _ hx,TC.cl,TC.nT,(by show 0 < 1000;decide),?_⟩;generalize hfs1:putF ("turned":Str) (.ref pt) []=fs1;generalize hH3:upd H2 x (.ins C dx fs1)=H3;have l1:fs1.length<=1:=by rw [<- hfs1];exact Jf ..
  have k3:KeepX x H H3:=by rw [<- hH3];exact (KeepX.of s12).trans KeepX.upd
  have hx3:H3 x=some (.ins C dx fs1):=by rw [<- hH3];exact J0
  have ptx:pt≠x:=ne_of hpt (s12 _ _ hx) (by intro z;cases z);have hpt3:H3 pt=some (.tup (bV ts)):=by rw [<- hH3,J9 ptx];exact hpt
  refine ⟨_,rfl,J13 (k3.sqH hp npx) fun pl H4 s4 hpl=>⟨_,rfl,x,C,dx,fs1,rfl,s4 _ _ hx3,TC.cl,TC.nL,(by omega),?_⟩⟩;generalize hfs2:putF ("lengths":Str) (.ref pl) fs1=fs2;generalize hH5:upd H4 x (.ins C dx fs2)=H5;have l2:fs2.length<=2:=by rw [<- hfs2];have:=Jf ("lengths":Str) (.ref pl) fs1;omega
  have k35:KeepX x H3 H5:=by rw [<- hH5];exact (KeepX.of s4).trans KeepX.upd
  have k5:KeepX x H H5:=k3.trans k35;have hx5:H5 x=some (.ins C dx fs2):=by rw [<- hH5];exact J0
  have plx:pl≠x:=ne_of hpl (s4 _ _ hx3) (by intro z;cases z);have hpl5:H5 pl=some (.tup (iV ls)):=by rw [<- hH5,J9 plx];exact hpl
  refine ⟨_,rfl,J13 (k5.sqH hq nqx) fun po H6 s6 hpo=>⟨_,rfl,x,C,dx,fs2,rfl,s6 _ _ hx5,TC.cl,TC.nO,(by omega),?_⟩⟩;generalize hfs3:putF ("order":Str) (.ref po) fs2=fs3;generalize hH7:upd H6 x (.ins C dx fs3)=H7;have l3:fs3.length<=3:=by rw [<- hfs3];have:=Jf ("order":Str) (.ref po) fs2;omega
  have k57:KeepX x H5 H7:=by rw [<- hH7];exact (KeepX.of s6).trans KeepX.upd
  have k7:KeepX x H H7:=k5.trans k57;have hx7:H7 x=some (.ins C dx fs3):=by rw [<- hH7];exact J0
  have pox:po≠x:=ne_of hpo (s6 _ _ hx5) (by intro z;cases z);have hpo7:H7 po=some (.tup (nV os)):=by rw [<- hH7,J9 pox];exact hpo
  have hpl7:H7 pl=some (.tup (iV ls)):=k57 _ _ hpl5 plx;have lkL:fs3.lookup ("lengths":Str)=some (.ref pl):=by rw [<- hfs3,lk_ne (by decide +kernel),<- hfs2,Jz]
  have lkO:fs3.lookup ("order":Str)=some (.ref po):=by rw [<- hfs3,Jz]
  have lkT:fs3.lookup ("turned":Str)=some (.ref pt):=by rw [<- hfs3,lk_ne (by decide +kernel),<- hfs2,lk_ne (by decide +kernel),<- hfs1,Jz]
  refine ⟨_,rfl,x,C,dx,fs3,_,rfl,hx7,TC.cl,TC.nL,lkL,_,rfl,p,_,rfl,(k7.sqH hp npx).sq,_,rfl,fun r hr'=>⟨r,_,rfl,J0,(by rw [J2b];omega),fun l hl=>?_⟩⟩;have s8:Same H7 (upd (upd H7 r (.rng 0 ((iV ls).length:Nat))) l (.lst (((List.range (iV ls).length).map fun (i:Nat)=>(i:Int)).map V.int))):=(J4 hr').trans (J4 hl);refine ⟨pl,l,ls,List.range ls.length,rfl,s8 _ _ hpl7,.inl (by rw [J0,J2b];rfl),fun o ho=>mem_range.mp ho,g2,fun ps H9 s9 hps=>?_⟩;have s79:=s8.trans s9;refine ⟨_,rfl,x,C,dx,fs3,rfl,s79 _ _ hx7,TC.cl,TC.nS,(by omega),?_⟩;generalize hfs4:putF ("starts":Str) (.ref ps) fs3=fs4;generalize hHa:upd H9 x (.ins C dx fs4)=Ha;have l4:fs4.length<=4:=by rw [<- hfs4];have:=Jf ("starts":Str) (.ref ps) fs3;omega
  have k7a:KeepX x H7 Ha:=by rw [<- hHa];exact (KeepX.of s79).trans KeepX.upd
  have hxa:Ha x=some (.ins C dx fs4):=by rw [<- hHa];exact J0
  have psx:ps≠x:=ne_of hps (s79 _ _ hx7) (by intro z;cases z);have hpsa:Ha ps=some (.tup (iV (firsts ls (List.range ls.length)))):=by rw [<- hHa,J9 psx];exact hps
  have hpla:=k7a _ _ hpl7 plx;have hpoa:=k7a _ _ hpo7 pox;have lkL4:fs4.lookup ("lengths":Str)=some (.ref pl):=by rw [<- hfs4,lk_ne (by decide +kernel),lkL]
  have lkO4:fs4.lookup ("order":Str)=some (.ref po):=by rw [<- hfs4,lk_ne (by decide +kernel),lkO]
  have lkT4:fs4.lookup ("turned":Str)=some (.ref pt):=by rw [<- hfs4,lk_ne (by decide +kernel),lkT]
  have lkS4:fs4.lookup ("starts":Str)=some (.ref ps):=by rw [<- hfs4,Jz]
  refine ⟨_,rfl,x,C,dx,fs4,_,rfl,hxa,TC.cl,TC.nL,lkL4,_,rfl,x,C,dx,fs4,_,rfl,hxa,TC.cl,TC.nO,lkO4,pl,po,ls,os,rfl,hpla,.inr hpoa,g.olt,g2,fun pd Hb sb hpd=>?_⟩;refine ⟨_,rfl,x,C,dx,fs4,rfl,sb _ _ hxa,TC.cl,TC.nD,(by omega),?_⟩;generalize hfs5:putF ("laid":Str) (.ref pd) fs4=fs5;generalize hHc:upd Hb x (.ins C dx fs5)=Hc;have l5:fs5.length<=5:=by rw [<- hfs5];have:=Jf ("laid":Str) (.ref pd) fs4;omega
  have kac:KeepX x Ha Hc:=by rw [<- hHc];exact (KeepX.of sb).trans KeepX.upd
  have hxc:Hc x=some (.ins C dx fs5):=by rw [<- hHc];exact J0
  have pdx:pd≠x:=ne_of hpd (sb _ _ hxa) (by intro z;cases z);have hpdc:Hc pd=some (.tup (iV (firsts ls os))):=by rw [<- hHc,J9 pdx];exact hpd
  have lkL5:fs5.lookup ("lengths":Str)=some (.ref pl):=by rw [<- hfs5,lk_ne (by decide +kernel),lkL4]
  refine ⟨_,rfl,x,C,dx,fs5,_,rfl,hxc,TC.cl,TC.nL,lkL5,pl,ls,rfl,.inr (SqT.of (kac _ _ hpla plx)),_,rfl,x,C,dx,fs5,rfl,hxc,TC.cl,TC.nZ,(by omega),?_⟩;have kz:KeepX x Hc (upd Hc x (.ins C dx (putF ("size":Str) (.int ls.sum) fs5))):=KeepX.upd;refine k _ ⟨dx,_,pl,po,pt,ps,pd,J0,⟨?_,?_,?_,?_,?_,Jz⟩,kz _ _ (kac _ _ hpla plx) plx,kz _ _ (kac _ _ hpoa pox) pox,kz _ _ (kac _ _ (k7a _ _ (k57 _ _ (k35 _ _ hpt3 ptx) ptx) ptx) ptx) ptx,kz _ _ (kac _ _ hpsa psx) psx,kz _ _ hpdc pdx⟩ (k7.trans (k7a.trans (kac.trans kz)))
  ·rw [lk_ne (by decide +kernel),lkL5]
  ·rw [lk_ne (by decide +kernel),<- hfs5,lk_ne (by decide +kernel),lkO4]
  ·rw [lk_ne (by decide +kernel),<- hfs5,lk_ne (by decide +kernel),lkT4]
  ·rw [lk_ne (by decide +kernel),<- hfs5,lk_ne (by decide +kernel),lkS4]
  ·rw [lk_ne (by decide +kernel),<- hfs5,Jz]
def J56 (K:Frag):Sp:=fun vs H Q _=>∃ (C x q dx pl:Addr) (fs:List (Str × V)) (ls:List Int) (row:List Nat),vs=[.ref x,.ref q]/\H x=some (.ins C dx fs)/\Cls K C/\NoAttr K C "lengths"/\fs.lookup ("lengths":Str)=some (.ref pl)/\
 H pl=some (.tup (iV ls))/\H q=some (.tup (nV row))/\(∀ j∈row,j < ls.length)/\row.length<=24/\∀ H',Same H H'->Q (.int (lenOf ls row)) H'
theorem scLenOf:FnScope ["rest","letters"] ["rest","letters"] (J6 sLenOf):=fS
theorem ok_lenOf {f:Addr} {fd:FuncData} (F:Fun K "length_of" "length_of" sLenOf f fd) (T:TxtR mg):FnOk P w K mg base CX0 1 f fd ["rest","letters"] (J56 K):=by
 refine F.ok scLenOf (fun vs H Q E h=>?_) (fun cdv A outer s H vs Q E hr h=>?_)
 ·obtain ⟨C,x,q,dx,pl,fs,ls,row,rfl,_⟩:=h;rfl
 ·obtain ⟨C,x,q,dx,pl,fs,ls,row,rfl,hx,hC,hN,lk,hpl,hq,hlt,hn,k⟩:=h;refine ⟨_,J8 (Ji (Jh (J6f rfl) (by rfl) T.sum boot_sum (pa_cons (pe_lc (caps:=["rest"]) (js:=[0]) rfl (pi_tup (pv 1)) rfl (fun _ _ _ _=>J3u)
   (fun C fp s H=>pe_ixr (ix_tupK K) (pe_flK K (pv 1)) (pv 0))
   (by decide +kernel) (by decide +kernel) (by decide +kernel) (by intro p hp;simp only [mem_cons,not_mem_nil,or_false] at hp;rcases hp with rfl;rfl)) J2))),?_⟩
  refine ⟨_,rfl,q,rfl,⟨_,SqT.of hq⟩,fun d hd=>lc_tup (fun (j:Nat)=>V.int (j:Int)) row (fun _=>true) (fun j=>V.int (ls.getD j 0)) (by rw [<- nV_eq];exact SqT.of hq) (by omega) hd
   (fun _ _ H _ _ k=>k H (Same.refl _)) (fun j hj H2 Qe _ s2 k=>?_) (fun H' s' hd'=>?_)⟩
  ·exact ⟨_,rfl,x,C,dx,fs,_,rfl,s2 _ _ hx,hC,hN,lk,_,rfl,pl,_,_,_,rfl,rfl,SqT.of (s2 _ _ hpl),Jl (J2h (hlt j hj)),k _ (Same.refl _)⟩
  ·rw [J21] at hd';refine ⟨d,row.map fun j=>ls.getD j 0,rfl,.inl (SqL.of ?_),k H' s'⟩;rw [hd',map_map];rfl
structure RestAt (CR:Addr) (H:Hp) (x:Addr) (r:Rst):Prop where
 ex:∃ (dx:Addr) (fs:List (Str × V)) (pt pb pl pu:Addr),H x=some (.ins CR dx fs)/\(fs.lookup ("top":Str)=some (.ref pt)/\fs.lookup ("bottom":Str)=some (.ref pb)/\fs.lookup ("lengths":Str)=some (.ref pl)/\
  fs.lookup ("turned":Str)=some (.ref pu)/\fs.lookup ("size":Str)=some (.int r.size))/\H pt=some (.tup (nV r.top))/\H pb=some (.tup (nV r.bot))/\H pl=some (.tup (iV r.ls))/\H pu=some (.tup (bV r.ts))
theorem RestAt.same {CR:Addr} {H H':Hp} {x:Addr} {r:Rst} (h:RestAt CR H x r) (s:Same H H'):RestAt CR H' x r:=by
 obtain ⟨dx,fs,pt,pb,pl,pu,h0,hl,h1,h2,h3,h4⟩:=h.ex;exact ⟨dx,fs,pt,pb,pl,pu,s _ _ h0,hl,s _ _ h1,s _ _ h2,s _ _ h3,s _ _ h4⟩
structure TxtRest (K:Frag) (CR:Addr):Prop where
 cl:Cls K CR
 nT:NoAttr K CR "top"
 nB:NoAttr K CR "bottom"
 nL:NoAttr K CR "lengths"
 nU:NoAttr K CR "turned"
 nZ:NoAttr K CR "size"
def J2j (CR:Addr):Sp:=fun vs H Q _=>∃ (x dx p1 p2 p3 p4:Addr) (r:Rst),vs=[.ref x,.ref p1,.ref p2,.ref p3,.ref p4]/\H x=some (.ins CR dx [])/\SqH H p1 (nV r.top)/\SqH H p2 (nV r.bot)/\SqH H p3 (iV r.ls)/\SqH H p4 (bV r.ts)/\
 (∀ j∈r.top,j < r.ls.length)/\r.top.length<=24/\∀ H',RestAt CR H' x r->KeepX x H H'->Q .non H'
theorem scRInit:FnScope ["self","top","bottom","lengths","turned"] ["self","top","bottom","lengths","turned"] (J6 sRInit):=fS
theorem ok_rinit {f fL CR:Addr} {fd fdL:FuncData} (F:Fun K "__init__" "Rest.__init__" sRInit f fd) (T:TxtR mg) (TR:TxtRest K CR)
  (GL:FnOk P w K mg base CX0 1 fL fdL ["rest","letters"] (J56 K)) (bL:Binds K fdL ["rest","letters"] []) (mL:mg "length_of"=some (.ref fL)) (kL:keepIn K (.ref fL)=true) :
  FnOk P w K mg base CX0 2 f fd ["self","top","bottom","lengths","turned"] (J2j CR):=by
 refine F.ok scRInit (fun vs H Q E h=>?_) (fun cdv A outer s H vs Q E hr h=>?_)
 ·obtain ⟨x,dx,p1,p2,p3,p4,r,rfl,_⟩:=h;rfl
 ·obtain ⟨x,dx,p1,p2,p3,p4,r,rfl,hx,q1,q2,q3,q4,hlt,hn,k⟩:=h;have n1:=q1.ne hx;have n2:=q2.ne hx;have n3:=q3.ne hx;have n4:=q4.ne hx;refine ⟨_,J1 (J1q (pv 0) (Jd J10 (by rfl) T.tuple boot_tuple (pa_cons (pv 1) J2)) rfl)
   (J1 (J1q (pv 0) (Jd J10 (by rfl) T.tuple boot_tuple (pa_cons (pv 2) J2)) rfl)
   (J1 (J1q (pv 0) (Jd J10 (by rfl) T.tuple boot_tuple (pa_cons (pv 3) J2)) rfl)
   (J1 (J1q (pv 0) (Jd J10 (by rfl) T.tuple boot_tuple (pa_cons (pv 4) J2)) rfl)
   (J8 (J1q (pv 0) (Jb GL hr rfl mL kL bL .nil pass0 (pa_cons (pv 0) (pa_cons (Ja (pv 0) rfl) J2))) rfl))))),?_⟩
  refine ⟨_,rfl,J13 q1 fun pt H1 s1 hpt=>⟨_,rfl,x,CR,dx,[],rfl,s1 _ _ hx,TR.cl,TR.nT,(by show 0 < 1000;decide),?_⟩⟩;generalize hfs1:putF ("top":Str) (.ref pt) []=fs1;generalize hH2:upd H1 x (.ins CR dx fs1)=H2;have l1:fs1.length<=1:=by rw [<- hfs1];exact Jf ..
  have k2:KeepX x H H2:=by rw [<- hH2];exact (KeepX.of s1).trans KeepX.upd
  have hx2:H2 x=some (.ins CR dx fs1):=by rw [<- hH2];exact J0
  have ptx:pt≠x:=ne_of hpt (s1 _ _ hx) (by intro z;cases z);have hpt2:H2 pt=some (.tup (nV r.top)):=by rw [<- hH2,J9 ptx];exact hpt
  refine ⟨_,rfl,J13 (k2.sqH q2 n2) fun pb H3 s3 hpb=>⟨_,rfl,x,CR,dx,fs1,rfl,s3 _ _ hx2,TR.cl,TR.nB,(by omega),?_⟩⟩;generalize hfs2:putF ("bottom":Str) (.ref pb) fs1=fs2;generalize hH4:upd H3 x (.ins CR dx fs2)=H4;have l2:fs2.length<=2:=by rw [<- hfs2];have:=Jf ("bottom":Str) (.ref pb) fs1;omega
  have k24:KeepX x H2 H4:=by rw [<- hH4];exact (KeepX.of s3).trans KeepX.upd
  have k4:KeepX x H H4:=k2.trans k24;have hx4:H4 x=some (.ins CR dx fs2):=by rw [<- hH4];exact J0
  have pbx:pb≠x:=ne_of hpb (s3 _ _ hx2) (by intro z;cases z);have hpb4:H4 pb=some (.tup (nV r.bot)):=by rw [<- hH4,J9 pbx];exact hpb
  refine ⟨_,rfl,J13 (k4.sqH q3 n3) fun pl H5 s5 hpl=>⟨_,rfl,x,CR,dx,fs2,rfl,s5 _ _ hx4,TR.cl,TR.nL,(by omega),?_⟩⟩;generalize hfs3:putF ("lengths":Str) (.ref pl) fs2=fs3;generalize hH6:upd H5 x (.ins CR dx fs3)=H6;have l3:fs3.length<=3:=by rw [<- hfs3];have:=Jf ("lengths":Str) (.ref pl) fs2;omega
  have k46:KeepX x H4 H6:=by rw [<- hH6];exact (KeepX.of s5).trans KeepX.upd
  have k6:KeepX x H H6:=k4.trans k46;have hx6:H6 x=some (.ins CR dx fs3):=by rw [<- hH6];exact J0
  have plx:pl≠x:=ne_of hpl (s5 _ _ hx4) (by intro z;cases z);have hpl6:H6 pl=some (.tup (iV r.ls)):=by rw [<- hH6,J9 plx];exact hpl
  refine ⟨_,rfl,J13 (k6.sqH q4 n4) fun pu H7 s7 hpu=>⟨_,rfl,x,CR,dx,fs3,rfl,s7 _ _ hx6,TR.cl,TR.nU,(by omega),?_⟩⟩;generalize hfs4:putF ("turned":Str) (.ref pu) fs3=fs4;generalize hH8:upd H7 x (.ins CR dx fs4)=H8;have l4:fs4.length<=4:=by rw [<- hfs4];have:=Jf ("turned":Str) (.ref pu) fs3;omega
  have k68:KeepX x H6 H8:=by rw [<- hH8];exact (KeepX.of s7).trans KeepX.upd
  have k8:KeepX x H H8:=k6.trans k68;have hx8:H8 x=some (.ins CR dx fs4):=by rw [<- hH8];exact J0
  have pux:pu≠x:=ne_of hpu (s7 _ _ hx6) (by intro z;cases z);have hpu8:H8 pu=some (.tup (bV r.ts)):=by rw [<- hH8,J9 pux];exact hpu
  have hpl8:H8 pl=some (.tup (iV r.ls)):=k68 _ _ hpl6 plx;have hpb8:H8 pb=some (.tup (nV r.bot)):=k68 _ _ (k46 _ _ hpb4 pbx) pbx;have hpt8:H8 pt=some (.tup (nV r.top)):=k68 _ _ (k46 _ _ (k24 _ _ hpt2 ptx) ptx) ptx;have lkT:fs4.lookup ("top":Str)=some (.ref pt):=by rw [<- hfs4,lk_ne (by decide +kernel),<- hfs3,lk_ne (by decide +kernel),<- hfs2,lk_ne (by decide +kernel),<- hfs1,Jz]
  have lkB:fs4.lookup ("bottom":Str)=some (.ref pb):=by rw [<- hfs4,lk_ne (by decide +kernel),<- hfs3,lk_ne (by decide +kernel),<- hfs2,Jz]
  have lkL:fs4.lookup ("lengths":Str)=some (.ref pl):=by rw [<- hfs4,lk_ne (by decide +kernel),<- hfs3,Jz]
  have lkU:fs4.lookup ("turned":Str)=some (.ref pu):=by rw [<- hfs4,Jz]
  refine ⟨_,rfl,_,rfl,x,CR,dx,fs4,_,rfl,hx8,TR.cl,TR.nT,lkT,CR,x,pt,dx,pl,fs4,r.ls,r.top,rfl,hx8,TR.cl,TR.nL,lkL,hpl8,hpt8,hlt,hn,fun H9 s9=>?_⟩;refine ⟨_,rfl,x,CR,dx,fs4,rfl,s9 _ _ hx8,TR.cl,TR.nZ,(by omega),?_⟩;have kz:KeepX x H8 (upd H9 x (.ins CR dx (putF ("size":Str) (.int (lenOf r.ls r.top)) fs4))):=(KeepX.of s9).trans KeepX.upd;refine k _ ⟨dx,_,pt,pb,pl,pu,J0,⟨?_,?_,?_,?_,Jz⟩,kz _ _ hpt8 ptx,kz _ _ hpb8 pbx,kz _ _ hpl8 plx,kz _ _ hpu8 pux⟩ (k8.trans kz)
  ·rw [lk_ne (by decide +kernel),lkT]
  ·rw [lk_ne (by decide +kernel),lkB]
  ·rw [lk_ne (by decide +kernel),lkL]
  ·rw [lk_ne (by decide +kernel),lkU]
abbrev J42 (ls:List Int) (os:List Nat) (ts:List Bool):Rst:=⟨List.range ls.length,os,ls,ts⟩
def spRestOf (C CR:Addr):Sp:=fun vs H Q _=>∃ (x:Addr) (ls:List Int) (os:List Nat) (ts:List Bool),vs=[.ref x]/\LineAt C H x ls os ts/\ls.length<=24/\∀ p H',Same H H'->RestAt CR H' p (J42 ls os ts)->Q (.ref p) H'
theorem scRestOf:FnScope ["line"] ["line"] (J6 sRestOf):=fS
theorem ok_restof {f fI C CR:Addr} {fd fdI:FuncData} (F:Fun K "rest_of" "rest_of" sRestOf f fd) (T:TxtR mg) (TC:TxtC K mg C)
  (M:Mk K CR fI) (GI:FnOk P w K mg base CX0 2 fI fdI ["self","top","bottom","lengths","turned"] (J2j CR)) (bI:Binds K fdI ["self","top","bottom","lengths","turned"] []) (mgR:mg "Rest"=some (.ref CR)) :
  FnOk P w K mg base CX0 4 f fd ["line"] (spRestOf C CR):=by
 refine F.ok scRestOf (fun vs H Q E h=>?_) (fun cdv A outer s H vs Q E hr h=>?_)
 ·obtain ⟨x,ls,os,ts,rfl,_⟩:=h;rfl
 ·obtain ⟨x,ls,os,ts,rfl,L,hn,k⟩:=h;obtain ⟨dx,fl,pl,po,pt,ps,pd,h0,⟨k1,k2,k3,k4,k5,k6⟩,e1,e2,e3,e4,e5⟩:=L.ex;refine ⟨_,J8 (Ji (J1b M GI hr rfl mgR bI .nil pass0 (pa_cons (Jd (Jw rfl) (by rfl) T.list boot_list (pa_cons (Jd J2x (by rfl) T.range PyProof.Rows.boot_range (pa_cons (Jh Jc (by rfl) T.len boot_len (pa_cons (Ja (pv 0) rfl) J2)) J2)) J2))
   (pa_cons (Ja (pv 0) rfl) (pa_cons (Ja (pv 0) rfl) (pa_cons (Ja (pv 0) rfl) J2)))))),?_⟩
  refine ⟨_,rfl,x,C,dx,fl,_,rfl,h0,TC.cl,TC.nL,k1,pl,_,rfl,.inr (SqT.of e1),_,rfl,fun r hr'=>⟨r,_,rfl,J0,(by rw [J2b];omega),fun l hl=>?_⟩⟩;have s8:Same H (upd (upd H r (.rng 0 ((iV ls).length:Nat))) l (.lst (((List.range (iV ls).length).map fun (i:Nat)=>(i:Int)).map V.int))):=(J4 hr').trans (J4 hl);have hl8:(upd (upd H r (.rng 0 ((iV ls).length:Nat))) l (.lst (((List.range (iV ls).length).map fun (i:Nat)=>(i:Int)).map V.int))) l=some (.lst (nV (List.range ls.length))):=by rw [J0,J2b];rfl
  generalize (upd (upd H r (.rng 0 ((iV ls).length:Nat))) l (.lst (((List.range (iV ls).length).map fun (i:Nat)=>(i:Int)).map V.int)))=H8 at *;refine ⟨_,rfl,x,C,dx,fl,_,rfl,s8 _ _ h0,TC.cl,TC.nO,k2,_,rfl,x,C,dx,fl,_,rfl,s8 _ _ h0,TC.cl,TC.nL,k1,_,rfl,x,C,dx,fl,_,rfl,s8 _ _ h0,TC.cl,TC.nT,k3,fun y dy hy hdy hne=>?_⟩;have s9:Same H8 (upd (upd H8 dy (.own y)) y (.ins CR dy [])):=(J4 hdy).trans (J4 (by rw [J9 (Ne.symm hne)];exact hy));refine ⟨y,dy,l,po,pl,pt,J42 ls os ts,rfl,J0,.inl (s9 _ _ hl8),.inr (s9 _ _ (s8 _ _ e2)),.inr (s9 _ _ (s8 _ _ e1)),.inr (s9 _ _ (s8 _ _ e3)),fun j hj=>mem_range.mp hj,by rw [length_range];exact hn,fun H' R kp=>⟨rfl,k y H' (fun b u e=>?_) R⟩⟩;exact kp b u (s9 _ _ (s8 _ _ e)) (J7 (s8 _ _ e) hy)
inductive Kd where
 | ho | ev | ov | un | os | us
 deriving DecidableEq
def kd:Stp->Kd
 | .home _=>.ho | .even _ _=>.ev | .over _ _=>.ov | .under _ _=>.un | .overs _ _=>.os | .unders _ _=>.us
def loseV:Stp->V
 | .even _ b=>.int (b:Nat) | .over _ b=>.int (b:Nat) | .under _ b=>.int (b:Nat) | _=>.non
def stF (s:Stp):List (Str × V):=putF ("times":Str) (.int s.times) (putF ("loser":Str) (loseV s) (putF ("winner":Str) (.int (s.winner:Nat)) []))
theorem stF_w (s:Stp):(stF s).lookup ("winner":Str)=some (.int (s.winner:Nat)):=by unfold stF;rw [lk_ne (by decide +kernel),lk_ne (by decide +kernel),Jz]
theorem stF_l (s:Stp):(stF s).lookup ("loser":Str)=some (loseV s):=by unfold stF;rw [lk_ne (by decide +kernel),Jz]
theorem stF_t (s:Stp):(stF s).lookup ("times":Str)=some (.int s.times):=by unfold stF;rw [Jz]
theorem stF_no (s:Stp) {m:Str} (h1:¬ m=("times":Str)) (h2:¬ m=("loser":Str)) (h3:¬ m=("winner":Str)):(stF s).lookup m=none:=by
 unfold stF;rw [lk_ne h1,lk_ne h2,lk_ne h3];rfl
def StepAt (cs:Kd->Addr) (H:Hp) (p:Addr) (s:Stp):Prop:=∃ dx,H p=some (.ins (cs (kd s)) dx (stF s))
structure TxtS (K:Frag) (cs:Kd->Addr):Prop where
 cl:∀ k,Cls K (cs k)
 nW:∀ k,NoAttr K (cs k) "winner"
 nL:∀ k,NoAttr K (cs k) "loser"
 nT:∀ k,NoAttr K (cs k) "times"
def J3a (cs:Kd->Addr):Sp:=fun vs H Q _=>∃ (x dx:Addr) (k:Kd) (a b c:V),vs=[.ref x,a,b,c]/\H x=some (.ins (cs k) dx [])/\Q .non (upd H x (.ins (cs k) dx (putF ("times":Str) c (putF ("loser":Str) b (putF ("winner":Str) a [])))))
theorem scSInit:FnScope ["self","winner","loser","times"] ["self","winner","loser","times"] (J6 sStInit):=fS
theorem ok_sinit {f:Addr} {fd:FuncData} {cs:Kd->Addr} (F:Fun K "__init__" "Step.__init__" sStInit f fd) (TS:TxtS K cs):FnOk P w K mg base CX0 1 f fd ["self","winner","loser","times"] (J3a cs):=by
 refine F.ok scSInit (fun vs H Q E h=>?_) (fun cdv A outer s H vs Q E hr h=>?_)
 ·obtain ⟨x,dx,k,a,b,c,rfl,_⟩:=h;rfl
 ·obtain ⟨x,dx,k,a,b,c,rfl,hx,q⟩:=h;refine ⟨_,J1 (J1q (pv 0) (pv 1) rfl) (J1 (J1q (pv 0) (pv 2) rfl) (J8 (J1q (pv 0) (pv 3) rfl))),?_⟩;have l1:(putF ("winner":Str) a []).length<=1:=Jf ..;have l2:(putF ("loser":Str) b (putF ("winner":Str) a [])).length<=2:=by have:=Jf ("loser":Str) b (putF ("winner":Str) a []);omega
  refine ⟨_,rfl,_,rfl,x,cs k,dx,[],rfl,hx,TS.cl k,TS.nW k,(by show 0 < 1000;decide),?_⟩;refine ⟨_,rfl,_,rfl,x,cs k,dx,_,rfl,J0,TS.cl k,TS.nL k,(by omega),?_⟩;rw [upd_upd];refine ⟨_,rfl,_,rfl,x,cs k,dx,_,rfl,J0,TS.cl k,TS.nT k,(by omega),?_⟩;rw [upd_upd];exact q
def spMk (cs:Kd->Addr) (args:List V->Stp->Prop):Sp:=fun vs H Q _=>∃ (x dx:Addr) (us:List V) (s:Stp),vs=.ref x :: us/\args us s/\H x=some (.ins (cs (kd s)) dx [])/\Q .non (upd H x (.ins (cs (kd s)) dx (stF s)))
def aHo (us:List V) (s:Stp):Prop:=∃ a:Nat,us=[.int (a:Nat)]/\s=.home a
def aEv (us:List V) (s:Stp):Prop:=∃ a b:Nat,us=[.int (a:Nat),.int (b:Nat)]/\s=.even a b
def aOv (us:List V) (s:Stp):Prop:=∃ a b:Nat,us=[.int (a:Nat),.int (b:Nat)]/\s=.over a b
def aUn (us:List V) (s:Stp):Prop:=∃ a b:Nat,us=[.int (a:Nat),.int (b:Nat)]/\s=.under a b
def aOs (us:List V) (s:Stp):Prop:=∃ (a:Nat) (t:Int),us=[.int (a:Nat),.int t]/\s=.overs a t
def aUs (us:List V) (s:Stp):Prop:=∃ (a:Nat) (t:Int),us=[.int (a:Nat),.int t]/\s=.unders a t
theorem scHoInit:FnScope ["self","winner"] ["self","winner"] (J6 sHoInit):=fS
theorem ok_hoinit {f fS CS:Addr} {fd fdS:FuncData} {cs:Kd->Addr} (F:Fun K "__init__" "Home.__init__" sHoInit f fd) (B:BaseM K CS "__init__" fS) (mS:mg "Step"=some (.ref CS)) (GS:FnOk P w K mg base CX0 1 fS fdS ["self","winner","loser","times"] (J3a cs)) (bS:Binds K fdS ["self","winner","loser","times"] []) :
  FnOk P w K mg base CX0 2 f fd ["self","winner"] (spMk cs aHo):=by
 refine F.ok scHoInit (fun vs H Q E h=>?_) (fun cdv A outer s H vs Q E hr h=>?_)
 ·obtain ⟨x,dx,us,s,rfl,⟨a,rfl,rfl⟩,_⟩:=h;rfl
 ·obtain ⟨x,dx,us,s,rfl,⟨a,rfl,rfl⟩,hx,q⟩:=h;refine ⟨_,J8 (Jv (J3v B rfl mS GS hr bS .nil pass0 (pa_cons (pv 0) (pa_cons (pv 1) (pa_cons pe_non (pa_cons Je J2)))))),?_⟩;exact ⟨_,rfl,_,rfl,x,dx,.ho,_,_,_,rfl,hx,q⟩
theorem scEvInit:FnScope ["self","winner","loser"] ["self","winner","loser"] (J6 sEvInit):=fS
theorem ok_evinit {f fS CS:Addr} {fd fdS:FuncData} {cs:Kd->Addr} (F:Fun K "__init__" "Even.__init__" sEvInit f fd) (B:BaseM K CS "__init__" fS) (mS:mg "Step"=some (.ref CS)) (GS:FnOk P w K mg base CX0 1 fS fdS ["self","winner","loser","times"] (J3a cs)) (bS:Binds K fdS ["self","winner","loser","times"] []) :
  FnOk P w K mg base CX0 2 f fd ["self","winner","loser"] (spMk cs aEv):=by
 refine F.ok scEvInit (fun vs H Q E h=>?_) (fun cdv A outer s H vs Q E hr h=>?_)
 ·obtain ⟨x,dx,us,s,rfl,⟨a,b,rfl,rfl⟩,_⟩:=h;rfl
 ·obtain ⟨x,dx,us,s,rfl,⟨a,b,rfl,rfl⟩,hx,q⟩:=h;refine ⟨_,J8 (Jv (J3v B rfl mS GS hr bS .nil pass0 (pa_cons (pv 0) (pa_cons (pv 1) (pa_cons (pv 2) (pa_cons Je J2)))))),?_⟩;exact ⟨_,rfl,_,rfl,_,rfl,x,dx,.ev,_,_,_,rfl,hx,q⟩
theorem scOvInit:FnScope ["self","winner","loser"] ["self","winner","loser"] (J6 sOvInit):=fS
theorem ok_ovinit {f fS CS:Addr} {fd fdS:FuncData} {cs:Kd->Addr} (F:Fun K "__init__" "Over.__init__" sOvInit f fd) (B:BaseM K CS "__init__" fS) (mS:mg "Step"=some (.ref CS)) (GS:FnOk P w K mg base CX0 1 fS fdS ["self","winner","loser","times"] (J3a cs)) (bS:Binds K fdS ["self","winner","loser","times"] []) :
  FnOk P w K mg base CX0 2 f fd ["self","winner","loser"] (spMk cs aOv):=by
 refine F.ok scOvInit (fun vs H Q E h=>?_) (fun cdv A outer s H vs Q E hr h=>?_)
 ·obtain ⟨x,dx,us,s,rfl,⟨a,b,rfl,rfl⟩,_⟩:=h;rfl
 ·obtain ⟨x,dx,us,s,rfl,⟨a,b,rfl,rfl⟩,hx,q⟩:=h;refine ⟨_,J8 (Jv (J3v B rfl mS GS hr bS .nil pass0 (pa_cons (pv 0) (pa_cons (pv 1) (pa_cons (pv 2) (pa_cons Je J2)))))),?_⟩;exact ⟨_,rfl,_,rfl,_,rfl,x,dx,.ov,_,_,_,rfl,hx,q⟩
theorem scUnInit:FnScope ["self","winner","loser"] ["self","winner","loser"] (J6 sUnInit):=fS
theorem ok_uninit {f fS CS:Addr} {fd fdS:FuncData} {cs:Kd->Addr} (F:Fun K "__init__" "Under.__init__" sUnInit f fd) (B:BaseM K CS "__init__" fS) (mS:mg "Step"=some (.ref CS)) (GS:FnOk P w K mg base CX0 1 fS fdS ["self","winner","loser","times"] (J3a cs)) (bS:Binds K fdS ["self","winner","loser","times"] []) :
  FnOk P w K mg base CX0 2 f fd ["self","winner","loser"] (spMk cs aUn):=by
 refine F.ok scUnInit (fun vs H Q E h=>?_) (fun cdv A outer s H vs Q E hr h=>?_)
 ·obtain ⟨x,dx,us,s,rfl,⟨a,b,rfl,rfl⟩,_⟩:=h;rfl
 ·obtain ⟨x,dx,us,s,rfl,⟨a,b,rfl,rfl⟩,hx,q⟩:=h;refine ⟨_,J8 (Jv (J3v B rfl mS GS hr bS .nil pass0 (pa_cons (pv 0) (pa_cons (pv 1) (pa_cons (pv 2) (pa_cons Je J2)))))),?_⟩;exact ⟨_,rfl,_,rfl,_,rfl,x,dx,.un,_,_,_,rfl,hx,q⟩
theorem scOsInit:FnScope ["self","winner","times"] ["self","winner","times"] (J6 sOsInit):=fS
theorem ok_osinit {f fS CS:Addr} {fd fdS:FuncData} {cs:Kd->Addr} (F:Fun K "__init__" "Overs.__init__" sOsInit f fd) (B:BaseM K CS "__init__" fS) (mS:mg "Step"=some (.ref CS)) (GS:FnOk P w K mg base CX0 1 fS fdS ["self","winner","loser","times"] (J3a cs)) (bS:Binds K fdS ["self","winner","loser","times"] []) :
  FnOk P w K mg base CX0 2 f fd ["self","winner","times"] (spMk cs aOs):=by
 refine F.ok scOsInit (fun vs H Q E h=>?_) (fun cdv A outer s H vs Q E hr h=>?_)
 ·obtain ⟨x,dx,us,s,rfl,⟨a,b,rfl,rfl⟩,_⟩:=h;rfl
 ·obtain ⟨x,dx,us,s,rfl,⟨a,b,rfl,rfl⟩,hx,q⟩:=h;refine ⟨_,J8 (Jv (J3v B rfl mS GS hr bS .nil pass0 (pa_cons (pv 0) (pa_cons (pv 1) (pa_cons pe_non (pa_cons (pv 2) J2)))))),?_⟩;exact ⟨_,rfl,_,rfl,_,rfl,x,dx,.os,_,_,_,rfl,hx,q⟩
theorem scUsInit:FnScope ["self","winner","times"] ["self","winner","times"] (J6 sUsInit):=fS
theorem ok_usinit {f fS CS:Addr} {fd fdS:FuncData} {cs:Kd->Addr} (F:Fun K "__init__" "Unders.__init__" sUsInit f fd) (B:BaseM K CS "__init__" fS) (mS:mg "Step"=some (.ref CS)) (GS:FnOk P w K mg base CX0 1 fS fdS ["self","winner","loser","times"] (J3a cs)) (bS:Binds K fdS ["self","winner","loser","times"] []) :
  FnOk P w K mg base CX0 2 f fd ["self","winner","times"] (spMk cs aUs):=by
 refine F.ok scUsInit (fun vs H Q E h=>?_) (fun cdv A outer s H vs Q E hr h=>?_)
 ·obtain ⟨x,dx,us,s,rfl,⟨a,b,rfl,rfl⟩,_⟩:=h;rfl
 ·obtain ⟨x,dx,us,s,rfl,⟨a,b,rfl,rfl⟩,hx,q⟩:=h;refine ⟨_,J8 (Jv (J3v B rfl mS GS hr bS .nil pass0 (pa_cons (pv 0) (pa_cons (pv 1) (pa_cons pe_non (pa_cons (pv 2) J2)))))),?_⟩;exact ⟨_,rfl,_,rfl,_,rfl,x,dx,.us,_,_,_,rfl,hx,q⟩
def wordS:Kd->Str
 | .ho=>"home" | .ev=>"even" | .ov=>"over" | .un=>"under" | .os=>"overs" | .us=>"unders"
def J39 (k:Kd):Sp:=fun vs H Q _=>∃ x:Addr,vs=[.ref x]/\Q (.str (wordS k)) H
theorem scHoWord:FnScope ["self"] ["self"] (J6 sHoWord):=fS
theorem ok_howord {f:Addr} {fd:FuncData} (F:Fun K "word" "Home.word" sHoWord f fd):FnOk P w K mg base CX0 1 f fd ["self"] (J39 .ho):=by
 refine F.ok scHoWord (fun vs H Q E h=>?_) (fun cdv A outer s H vs Q E hr h=>?_)
 ·obtain ⟨x,rfl,_⟩:=h;rfl
 ·obtain ⟨x,rfl,q⟩:=h;exact ⟨_,J8 (Ji J4l),q⟩
theorem scEvWord:FnScope ["self"] ["self"] (J6 sEvWord):=fS
theorem ok_evword {f:Addr} {fd:FuncData} (F:Fun K "word" "Even.word" sEvWord f fd):FnOk P w K mg base CX0 1 f fd ["self"] (J39 .ev):=by
 refine F.ok scEvWord (fun vs H Q E h=>?_) (fun cdv A outer s H vs Q E hr h=>?_)
 ·obtain ⟨x,rfl,_⟩:=h;rfl
 ·obtain ⟨x,rfl,q⟩:=h;exact ⟨_,J8 (Ji J4l),q⟩
theorem scOvWord:FnScope ["self"] ["self"] (J6 sOvWord):=fS
theorem ok_ovword {f:Addr} {fd:FuncData} (F:Fun K "word" "Over.word" sOvWord f fd):FnOk P w K mg base CX0 1 f fd ["self"] (J39 .ov):=by
 refine F.ok scOvWord (fun vs H Q E h=>?_) (fun cdv A outer s H vs Q E hr h=>?_)
 ·obtain ⟨x,rfl,_⟩:=h;rfl
 ·obtain ⟨x,rfl,q⟩:=h;exact ⟨_,J8 (Ji J4l),q⟩
theorem scUnWord:FnScope ["self"] ["self"] (J6 sUnWord):=fS
theorem ok_unword {f:Addr} {fd:FuncData} (F:Fun K "word" "Under.word" sUnWord f fd):FnOk P w K mg base CX0 1 f fd ["self"] (J39 .un):=by
 refine F.ok scUnWord (fun vs H Q E h=>?_) (fun cdv A outer s H vs Q E hr h=>?_)
 ·obtain ⟨x,rfl,_⟩:=h;rfl
 ·obtain ⟨x,rfl,q⟩:=h;exact ⟨_,J8 (Ji J4l),q⟩
theorem scOsWord:FnScope ["self"] ["self"] (J6 sOsWord):=fS
theorem ok_osword {f:Addr} {fd:FuncData} (F:Fun K "word" "Overs.word" sOsWord f fd):FnOk P w K mg base CX0 1 f fd ["self"] (J39 .os):=by
 refine F.ok scOsWord (fun vs H Q E h=>?_) (fun cdv A outer s H vs Q E hr h=>?_)
 ·obtain ⟨x,rfl,_⟩:=h;rfl
 ·obtain ⟨x,rfl,q⟩:=h;exact ⟨_,J8 (Ji J4l),q⟩
theorem scUsWord:FnScope ["self"] ["self"] (J6 sUsWord):=fS
theorem ok_usword {f:Addr} {fd:FuncData} (F:Fun K "word" "Unders.word" sUsWord f fd):FnOk P w K mg base CX0 1 f fd ["self"] (J39 .us):=by
 refine F.ok scUsWord (fun vs H Q E h=>?_) (fun cdv A outer s H vs Q E hr h=>?_)
 ·obtain ⟨x,rfl,_⟩:=h;rfl
 ·obtain ⟨x,rfl,q⟩:=h;exact ⟨_,J8 (Ji J4l),q⟩
theorem J5l (row:List Nat) (a:Nat):(natI row).idxOf (a:Int)=row.idxOf a:=by
 unfold natI
 induction row with
 | nil=>rfl
 | cons x r ih =>
  rw [map_cons,idxOf_cons,idxOf_cons,ih];have e:((x:Int) == (a:Int))=(x == a):=by
   rw [Bool.eq_iff_iff,beq_iff_eq,beq_iff_eq];exact Int.ofNat_inj
  rw [e]
theorem J5f {row:List Nat} {a:Nat} (h:a∈row):(a:Int)∈natI row:=mem_map.mpr ⟨a,h,rfl⟩
theorem cut_nat (row:List Nat) (n:Nat) (h:n<=row.length):cutV (nV row) (some (n:Int)) none=nV (row.drop n):=by
 unfold cutV;rw [J1z,HT.sIx_nat,HT.sIx_none,Nat.min_eq_left h,nV_eq,nV_eq,List.map_drop,take_of_length_le (by simp)]
def J31:Sp:=fun vs H Q _=>∃ (q:Addr) (row:List Nat) (a:Nat),vs=[.ref q,.int (a:Nat)]/\H q=some (.tup (nV row))/\a∈row/\∀ p H',Same H H'->H' p=some (.tup (nV (J3 row a)))->Q (.ref p) H'
theorem scBehindL:FnScope ["row","letter"] ["row","letter"] (J6 J60):=fS
theorem ok_behindL {f:Addr} {fd:FuncData} (F:Fun K "letters_behind" "letters_behind" J60 f fd):FnOk P w K mg base CX0 1 f fd ["row","letter"] J31:=by
 refine F.ok scBehindL (fun vs H Q E h=>?_) (fun cdv A outer s H vs Q E hr h=>?_)
 ·obtain ⟨q,row,a,rfl,_⟩:=h;rfl
 ·obtain ⟨q,row,a,rfl,hq,ha,k⟩:=h;refine ⟨_,J8 (Ji (J3d sl_tup (pv 0) (J5a (pe_op J2g (pe_bmT PySem.F.slot_tuple_index PySem.F.type_tuple_index mt_indexT (pv 0) (pa_cons (pv 1) J2)) Je)) J5b)),?_⟩;have h1:row.idxOf a < row.length:=idxOf_lt_length_iff.mpr ha;have e:(((natI row).idxOf (a:Int):Nat):Int) + 1=((row.idxOf a + 1:Nat):Int):=by rw [J5l];omega
  refine ⟨_,rfl,_,rfl,⟨q,_,rfl,hq⟩,_,rfl,q,natI row,(a:Int),rfl,rfl,hq,J5f ha,_,_,rfl,rfl,_,rfl,q,nV row,rfl,SqT.of hq,?_,fun p hp=>k p _ (J4 hp) ?_⟩
  ·rintro ⟨z,_⟩;have z:HT.sIx (nV row).length 0 (some ((((natI row).idxOf (a:Int):Nat):Int) + 1))=0:=z;rw [e,HT.sIx_nat,J1z] at z;omega
  ·rw [J0];show some (HO.tup (cutV (nV row) (some ((((natI row).idxOf (a:Int):Nat):Int) + 1)) none))=_;rw [e,cut_nat row _ h1];rfl
def J1a (cs:Kd->Addr) (CR:Addr) (k:Kd):Sp:=fun vs H Q _=>∃ (x y:Addr) (s:Stp) (r:Rst),vs=[.ref x,.ref y]/\kd s=k/\StepAt cs H x s/\RestAt CR H y r/\s.winner∈r.top/\s.winner∈r.bot/\∀ p H',Same H H'->H' p=some (.tup (nV (s.losers r)))->Q (.ref p) H'
theorem scStLosers:FnScope ["self","rest"] ["self","rest"] (J6 J4a):=fS
theorem J2q {f CR:Addr} {fd:FuncData} {cs:Kd->Addr} (F:Fun K "losers" "Step.losers" J4a f fd) (TS:TxtS K cs) {k:Kd} (hk:k=.ev\/k=.ov\/k=.un):FnOk P w K mg base CX0 2 f fd ["self","rest"] (J1a cs CR k):=by
 refine F.ok scStLosers (fun vs H Q E h=>?_) (fun cdv A outer s H vs Q E hr h=>?_)
 ·obtain ⟨x,y,s,r,rfl,_⟩:=h;rfl
 ·obtain ⟨x,y,s,r,rfl,hs,⟨dx,hx⟩,R,_,_,q⟩:=h;obtain ⟨b,hb,hl⟩:∃ b:Nat,loseV s=.int (b:Nat)/\s.losers r=[b]:=by
   cases s with
   | even a b=>exact ⟨b,rfl,rfl⟩
   | over a b=>exact ⟨b,rfl,rfl⟩
   | under a b=>exact ⟨b,rfl,rfl⟩
   | home a=>subst hs;rcases hk with q | q | q <;> cases q
   | overs a t=>subst hs;rcases hk with q | q | q <;> cases q
   | unders a t=>subst hs;rcases hk with q | q | q <;> cases q
  refine ⟨_,J8 (Ji (J4k (pa_cons (Ja (pv 0) rfl) J2))),?_⟩;refine ⟨_,rfl,x,cs (kd s),dx,stF s,_,rfl,hx,TS.cl _,TS.nL _,stF_l s,(by show 1<=sizeLine;decide),fun p hp=>q p _ (J4 hp) ?_⟩;rw [J0,hb,hl];rfl
theorem scHoLosers:FnScope ["self","rest"] ["self","rest"] (J6 J4e):=fS
theorem ok_holosers {f CR:Addr} {fd:FuncData} {cs:Kd->Addr} (F:Fun K "losers" "Home.losers" J4e f fd):FnOk P w K mg base CX0 2 f fd ["self","rest"] (J1a cs CR .ho):=by
 refine F.ok scHoLosers (fun vs H Q E h=>?_) (fun cdv A outer s H vs Q E hr h=>?_)
 ·obtain ⟨x,y,s,r,rfl,_⟩:=h;rfl
 ·obtain ⟨x,y,s,r,rfl,hs,_,R,_,_,q⟩:=h
  cases s with
  | home a=>exact ⟨_,J8 (Ji (J4k J2)),Nat.zero_le _,fun p hp=>q p _ (J4 hp) J0⟩
  | even a b=>cases hs
  | over a b=>cases hs
  | under a b=>cases hs
  | overs a t=>cases hs
  | unders a t=>cases hs
theorem scOsLosers:FnScope ["self","rest"] ["self","rest"] (J6 J4c):=fS
theorem ok_oslosers {f fB CR:Addr} {fd fdB:FuncData} {cs:Kd->Addr} (F:Fun K "losers" "Overs.losers" J4c f fd) (TS:TxtS K cs) (TR:TxtRest K CR)
  (GB:FnOk P w K mg base CX0 1 fB fdB ["row","letter"] J31) (bB:Binds K fdB ["row","letter"] []) (mB:mg "letters_behind"=some (.ref fB)) (kB:keepIn K (.ref fB)=true):FnOk P w K mg base CX0 2 f fd ["self","rest"] (J1a cs CR .os):=by
 refine F.ok scOsLosers (fun vs H Q E h=>?_) (fun cdv A outer s H vs Q E hr h=>?_)
 ·obtain ⟨x,y,s,r,rfl,_⟩:=h;rfl
 ·obtain ⟨x,y,s,r,rfl,hs,⟨dx,hx⟩,R,hT,hB,q⟩:=h;obtain ⟨dr,fr,pt,pb,pl,pu,h0,⟨k1,k2,k3,k4,k5⟩,e1,e2,e3,e4⟩:=R.ex;have hl:s.losers r=J3 r.bot s.winner:=by
   cases s with
   | overs a t=>rfl
   | _=>cases hs
  refine ⟨_,J8 (Ji (Jb GB hr rfl mB kB bB .nil pass0 (pa_cons (Ja (pv 1) rfl) (pa_cons (Ja (pv 0) rfl) J2)))),?_⟩;refine ⟨_,rfl,y,CR,dr,fr,_,rfl,h0,TR.cl,TR.nB,k2,_,rfl,x,cs (kd s),dx,stF s,_,rfl,hx,TS.cl _,TS.nW _,stF_w s,pb,r.bot,s.winner,rfl,e2,hB,fun p H' s' hp=>q p H' s' ?_⟩;rw [hl];exact hp
theorem scUsLosers:FnScope ["self","rest"] ["self","rest"] (J6 J47):=fS
theorem ok_uslosers {f fB CR:Addr} {fd fdB:FuncData} {cs:Kd->Addr} (F:Fun K "losers" "Unders.losers" J47 f fd) (TS:TxtS K cs) (TR:TxtRest K CR)
  (GB:FnOk P w K mg base CX0 1 fB fdB ["row","letter"] J31) (bB:Binds K fdB ["row","letter"] []) (mB:mg "letters_behind"=some (.ref fB)) (kB:keepIn K (.ref fB)=true):FnOk P w K mg base CX0 2 f fd ["self","rest"] (J1a cs CR .us):=by
 refine F.ok scUsLosers (fun vs H Q E h=>?_) (fun cdv A outer s H vs Q E hr h=>?_)
 ·obtain ⟨x,y,s,r,rfl,_⟩:=h;rfl
 ·obtain ⟨x,y,s,r,rfl,hs,⟨dx,hx⟩,R,hT,hB,q⟩:=h;obtain ⟨dr,fr,pt,pb,pl,pu,h0,⟨k1,k2,k3,k4,k5⟩,e1,e2,e3,e4⟩:=R.ex;have hl:s.losers r=J3 r.top s.winner:=by
   cases s with
   | unders a t=>rfl
   | _=>cases hs
  refine ⟨_,J8 (Ji (Jb GB hr rfl mB kB bB .nil pass0 (pa_cons (Ja (pv 1) rfl) (pa_cons (Ja (pv 0) rfl) J2)))),?_⟩;refine ⟨_,rfl,y,CR,dr,fr,_,rfl,h0,TR.cl,TR.nT,k1,_,rfl,x,cs (kd s),dx,stF s,_,rfl,hx,TS.cl _,TS.nW _,stF_w s,pt,r.top,s.winner,rfl,e1,hT,fun p H' s' hp=>q p H' s' ?_⟩;rw [hl];exact hp
theorem J2s {cs:Kd->Addr} {H1:Hp} {x dx:Addr} {s:Stp} (hx:H1 x=none) (hdx:H1 dx=none):StepAt cs (upd (upd (upd H1 dx (.own x)) x (.ins (cs (kd s)) dx [])) x (.ins (cs (kd s)) dx (stF s))) x s/\
  Same H1 (upd (upd (upd H1 dx (.own x)) x (.ins (cs (kd s)) dx [])) x (.ins (cs (kd s)) dx (stF s))):=by
 refine ⟨⟨dx,J0⟩,fun b u e=>?_⟩;rw [J9 (J7 e hx),J9 (J7 e hx),J9 (J7 e hdx)];exact e
theorem rowFew {ls:List Int} {row:List Nat} (h:Row ls row) (hl:ls.length<=24):row.length<=24:=Nat.le_trans h.len_le hl
def spTimes (CR:Addr):Sp:=fun vs H Q _=>∃ (y q:Addr) (r:Rst) (a:Nat) (row:List Nat),vs=[.ref y,.int (a:Nat),.ref q]/\RestAt CR H y r/\r.Ok/\H q=some (.tup (nV row))/\a∈row/\a < r.ls.length/\(∀ j∈row,j < r.ls.length)/\row.length<=24/\1<=lenOf r.ls (J3 row a)/\lenOf r.ls (J3 row a)<=10 ^ 30/\
 ∀ H',Same H H'->Q (.int (J11 r a row)) H'
theorem scTimes:FnScope ["rest","winner","row"] ["rest","winner","row"] (J6 sTimes):=fS
theorem small_div {s:Int} (h1:1<=s) (h2:s<=10 ^ 30):CDivB 0 s:=by
 refine ⟨by omega,?_⟩;have h3:s.natAbs<=10 ^ 30:=by omega
 exact Nat.lt_of_le_of_lt h3 (by decide)
theorem ok_times {f fL fB CR:Addr} {fd fdL fdB:FuncData} (F:Fun K "whole_times" "whole_times" sTimes f fd) (TR:TxtRest K CR)
  (GL:FnOk P w K mg base CX0 1 fL fdL ["rest","letters"] (J56 K)) (bL:Binds K fdL ["rest","letters"] []) (mL:mg "length_of"=some (.ref fL)) (kL:keepIn K (.ref fL)=true)
  (GB:FnOk P w K mg base CX0 1 fB fdB ["row","letter"] J31) (bB:Binds K fdB ["row","letter"] []) (mB:mg "letters_behind"=some (.ref fB)) (kB:keepIn K (.ref fB)=true) :
  FnOk P w K mg base CX0 2 f fd ["rest","winner","row"] (spTimes CR):=by
 refine F.ok scTimes (fun vs H Q E h=>?_) (fun cdv A outer s H vs Q E hr h=>?_)
 ·obtain ⟨y,q,r,a,row,rfl,_⟩:=h;rfl
 ·obtain ⟨y,q,r,a,row,rfl,R,ok,hq,ha,hal,hlt,hn,h1,h2,k⟩:=h;obtain ⟨dr,fr,pt,pb,pl,pu,h0,⟨k1,k2,k3,k4,k5⟩,e1,e2,e3,e4⟩:=R.ex;refine ⟨_,J1 (ps_if (pt_val (pe_ix ix_tup (Ja (pv 0) rfl) (pv 1) (fun _ _=>rfl))) (J8 (Ji Je)) J16)
   (J8 (Ji (pe_op op_fdivB (pe_op J64 (pe_ix ix_tup (Ja (pv 0) rfl) (pv 1) (fun _ _=>rfl)) Je) (Jb GL hr rfl mL kL bL .nil pass0 (pa_cons (pv 0) (pa_cons (Jb GB hr rfl mB kB bB .nil pass0 (pa_cons (pv 2) (pa_cons (pv 1) J2))) J2)))))),?_⟩
  refine ⟨_,rfl,y,CR,dr,fr,_,rfl,h0,TR.cl,TR.nU,k4,_,rfl,pu,_,_,_,rfl,rfl,SqT.of e4,Jl (bV_get (by rw [ok.len];exact hal)),_,rfl,?_⟩;unfold J11 at k;by_cases c:r.ts.getD a false=true
  ·refine iteBT c ?_;have:=k H (Same.refl _);rw [if_pos c] at this;exact this
  ·refine iteBF c ?_;refine ⟨_,rfl,y,CR,dr,fr,_,rfl,h0,TR.cl,TR.nL,k3,_,rfl,pl,_,_,_,rfl,rfl,SqT.of e3,Jl (J2h hal),_,_,rfl,rfl,_,rfl,_,rfl,_,rfl,q,row,a,rfl,hq,ha,fun p H1 s1 hp=>?_⟩;refine ⟨CR,y,p,dr,pl,fr,r.ls,J3 row a,rfl,s1 _ _ h0,TR.cl,TR.nL,k3,s1 _ _ e3,hp,fun j hj=>hlt j (Jn hj),?_,fun H2 s2=>⟨_,_,rfl,rfl,small_div h1 h2,?_⟩⟩
   ·unfold J3;rw [length_drop];omega
   ·have:=k H2 (s1.trans s2);rw [if_neg c] at this;exact this
def spOverS (cs:Kd->Addr) (CR:Addr):Sp:=fun vs H Q _=>∃ (y:Addr) (r:Rst) (a b:Nat),vs=[.ref y,.int (a:Nat),.int (b:Nat)]/\RestAt CR H y r/\r.Ok/\a∈r.bot/\1<=lenOf r.ls (J3 r.bot a)/\lenOf r.ls (J3 r.bot a)<=10 ^ 30/\
 ∀ p H',Same H H'->StepAt cs H' p (if 0 < J11 r a r.bot then .overs a (J11 r a r.bot) else .over a b)->Q (.ref p) H'
theorem scOverS:FnScope ["rest","winner","loser","times"] ["rest","winner","loser"] (J6 sOverS):=fS
theorem ok_overs {f fT fM fO CR:Addr} {fd fdT fdM fdO:FuncData} {cs:Kd->Addr} (F:Fun K "over_step" "over_step" sOverS f fd) (TR:TxtRest K CR)
  (GT:FnOk P w K mg base CX0 2 fT fdT ["rest","winner","row"] (spTimes CR)) (bT:Binds K fdT ["rest","winner","row"] []) (mT:mg "whole_times"=some (.ref fT)) (kT:keepIn K (.ref fT)=true)
  (MM:Mk K (cs .os) fM) (GM:FnOk P w K mg base CX0 2 fM fdM ["self","winner","times"] (spMk cs aOs)) (bM:Binds K fdM ["self","winner","times"] []) (mM:mg "Overs"=some (.ref (cs .os)))
  (MO:Mk K (cs .ov) fO) (GO:FnOk P w K mg base CX0 2 fO fdO ["self","winner","loser"] (spMk cs aOv)) (bO:Binds K fdO ["self","winner","loser"] []) (mO:mg "Over"=some (.ref (cs .ov))) :
  FnOk P w K mg base CX0 4 f fd ["rest","winner","loser"] (spOverS cs CR):=by
 refine F.ok scOverS (fun vs H Q E h=>?_) (fun cdv A outer s H vs Q E hr h=>?_)
 ·obtain ⟨y,r,a,b,rfl,_⟩:=h;rfl
 ·obtain ⟨y,r,a,b,rfl,R,ok,ha,h1,h2,k⟩:=h;have hr2:Room 2 _:=rm hr;obtain ⟨dr,fr,pt,pb,pl,pu,h0,⟨k1,k2,k3,k4,k5⟩,e1,e2,e3,e4⟩:=R.ex;have hrow:Row r.ls r.bot:=ok.rowB;have few:r.bot.length<=24:=rowFew hrow ok.few;refine ⟨_,J1 (Jj (i:=3) scOverS.nd rfl (Or.inl rfl) (Jb GT hr2 rfl mT kT bT .nil pass0 (pa_cons (pv 0) (pa_cons (pv 1) (pa_cons (Ja (pv 0) rfl) J2)))))
   (J8 (Ji (J4n (Jm op_gt (pv 3) Je (J14 _)) (J1b MM GM hr rfl mM bM .nil pass0 (pa_cons (pv 1) (pa_cons (pv 3) J2))) (J1b MO GO hr rfl mO bO .nil pass0 (pa_cons (pv 1) (pa_cons (pv 2) J2)))))),?_⟩
  refine ⟨_,rfl,_,rfl,_,rfl,y,CR,dr,fr,_,rfl,h0,TR.cl,TR.nB,k2,y,pb,r,a,r.bot,rfl,R,ok,e2,ha,hrow.lt a ha,hrow.lt,few,h1,h2,fun H1 s1=>?_⟩;refine ⟨_,rfl,_,_,rfl,rfl,_,rfl,?_⟩;by_cases c:0 < J11 r a r.bot
  ·refine iteDT c ⟨_,rfl,_,rfl,fun x dx hx hdx hne=>?_⟩;obtain ⟨st,sm⟩:=J2s (cs:=cs) (s:=.overs a (J11 r a r.bot)) hx hdx;refine ⟨x,dx,_,.overs a (J11 r a r.bot),rfl,⟨a,_,rfl,rfl⟩,J0,rfl,k x _ (s1.trans sm) ?_⟩;rw [if_pos c];exact st
  ·refine iteD c ⟨_,rfl,_,rfl,fun x dx hx hdx hne=>?_⟩;obtain ⟨st,sm⟩:=J2s (cs:=cs) (s:=.over a b) hx hdx;refine ⟨x,dx,_,.over a b,rfl,⟨a,b,rfl,rfl⟩,J0,rfl,k x _ (s1.trans sm) ?_⟩;rw [if_neg c];exact st
def spUnderS (cs:Kd->Addr) (CR:Addr):Sp:=fun vs H Q _=>∃ (y:Addr) (r:Rst) (a b:Nat),vs=[.ref y,.int (a:Nat),.int (b:Nat)]/\RestAt CR H y r/\r.Ok/\a∈r.top/\1<=lenOf r.ls (J3 r.top a)/\lenOf r.ls (J3 r.top a)<=10 ^ 30/\
 ∀ p H',Same H H'->StepAt cs H' p (if 0 < J11 r a r.top then .unders a (J11 r a r.top) else .under a b)->Q (.ref p) H'
theorem scUnderS:FnScope ["rest","winner","loser","times"] ["rest","winner","loser"] (J6 sUnderS):=fS
theorem ok_unders {f fT fM fO CR:Addr} {fd fdT fdM fdO:FuncData} {cs:Kd->Addr} (F:Fun K "under_step" "under_step" sUnderS f fd) (TR:TxtRest K CR)
  (GT:FnOk P w K mg base CX0 2 fT fdT ["rest","winner","row"] (spTimes CR)) (bT:Binds K fdT ["rest","winner","row"] []) (mT:mg "whole_times"=some (.ref fT)) (kT:keepIn K (.ref fT)=true)
  (MM:Mk K (cs .us) fM) (GM:FnOk P w K mg base CX0 2 fM fdM ["self","winner","times"] (spMk cs aUs)) (bM:Binds K fdM ["self","winner","times"] []) (mM:mg "Unders"=some (.ref (cs .us)))
  (MO:Mk K (cs .un) fO) (GO:FnOk P w K mg base CX0 2 fO fdO ["self","winner","loser"] (spMk cs aUn)) (bO:Binds K fdO ["self","winner","loser"] []) (mO:mg "Under"=some (.ref (cs .un))) :
  FnOk P w K mg base CX0 4 f fd ["rest","winner","loser"] (spUnderS cs CR):=by
 refine F.ok scUnderS (fun vs H Q E h=>?_) (fun cdv A outer s H vs Q E hr h=>?_)
 ·obtain ⟨y,r,a,b,rfl,_⟩:=h;rfl
 ·obtain ⟨y,r,a,b,rfl,R,ok,ha,h1,h2,k⟩:=h;have hr2:Room 2 _:=rm hr;obtain ⟨dr,fr,pt,pb,pl,pu,h0,⟨k1,k2,k3,k4,k5⟩,e1,e2,e3,e4⟩:=R.ex;have hrow:Row r.ls r.top:=ok.row;have few:r.top.length<=24:=rowFew hrow ok.few;refine ⟨_,J1 (Jj (i:=3) scUnderS.nd rfl (Or.inl rfl) (Jb GT hr2 rfl mT kT bT .nil pass0 (pa_cons (pv 0) (pa_cons (pv 1) (pa_cons (Ja (pv 0) rfl) J2)))))
   (J8 (Ji (J4n (Jm op_gt (pv 3) Je (J14 _)) (J1b MM GM hr rfl mM bM .nil pass0 (pa_cons (pv 1) (pa_cons (pv 3) J2))) (J1b MO GO hr rfl mO bO .nil pass0 (pa_cons (pv 1) (pa_cons (pv 2) J2)))))),?_⟩
  refine ⟨_,rfl,_,rfl,_,rfl,y,CR,dr,fr,_,rfl,h0,TR.cl,TR.nT,k1,y,pt,r,a,r.top,rfl,R,ok,e1,ha,hrow.lt a ha,hrow.lt,few,h1,h2,fun H1 s1=>?_⟩;refine ⟨_,rfl,_,_,rfl,rfl,_,rfl,?_⟩;by_cases c:0 < J11 r a r.top
  ·refine iteDT c ⟨_,rfl,_,rfl,fun x dx hx hdx hne=>?_⟩;obtain ⟨st,sm⟩:=J2s (cs:=cs) (s:=.unders a (J11 r a r.top)) hx hdx;refine ⟨x,dx,_,.unders a (J11 r a r.top),rfl,⟨a,_,rfl,rfl⟩,J0,rfl,k x _ (s1.trans sm) ?_⟩;rw [if_pos c];exact st
  ·refine iteD c ⟨_,rfl,_,rfl,fun x dx hx hdx hne=>?_⟩;obtain ⟨st,sm⟩:=J2s (cs:=cs) (s:=.under a b) hx hdx;refine ⟨x,dx,_,.under a b,rfl,⟨a,b,rfl,rfl⟩,J0,rfl,k x _ (s1.trans sm) ?_⟩;rw [if_neg c];exact st
theorem atI_lastN {row:List Nat} (h:row≠[]):atI (nV row) (-1)=some (V.int (row.getD (row.length - 1) 0:Nat)):=by
 have hl:=length_pos_iff.mpr h;unfold atI;have e:ixN (nV row).length (-1)=some (row.length - 1):=by
  unfold ixN;rw [J1z,if_neg (by omega),if_pos (by omega)]
  congr 1
  omega
 rw [e];show (nV row)[row.length - 1]?=_;rw [nV_at (by omega)]
def spNext (cs:Kd->Addr) (CR:Addr):Sp:=fun vs H Q _=>∃ (y:Addr) (r:Rst),vs=[.ref y]/\RestAt CR H y r/\r.Ok/\r.top≠[]/\r.size<=10 ^ 30/\∀ p H',Same H H'->StepAt cs H' p (nextN r)->Q (.ref p) H'
theorem scNext:FnScope ["rest","last_top","last_bottom"] ["rest"] (J6 sNext):=fS
theorem ok_next {f fH fE fO fU CR:Addr} {fd fdH fdE fdO fdU:FuncData} {cs:Kd->Addr} (F:Fun K "next_step" "next_step" sNext f fd) (TR:TxtRest K CR)
  (MH:Mk K (cs .ho) fH) (GH:FnOk P w K mg base CX0 2 fH fdH ["self","winner"] (spMk cs aHo)) (bH:Binds K fdH ["self","winner"] []) (mH:mg "Home"=some (.ref (cs .ho)))
  (ME:Mk K (cs .ev) fE) (GE:FnOk P w K mg base CX0 2 fE fdE ["self","winner","loser"] (spMk cs aEv)) (bE:Binds K fdE ["self","winner","loser"] []) (mE:mg "Even"=some (.ref (cs .ev)))
  (GO:FnOk P w K mg base CX0 4 fO fdO ["rest","winner","loser"] (spOverS cs CR)) (bO:Binds K fdO ["rest","winner","loser"] []) (mO:mg "over_step"=some (.ref fO)) (kO:keepIn K (.ref fO)=true)
  (GU:FnOk P w K mg base CX0 4 fU fdU ["rest","winner","loser"] (spUnderS cs CR)) (bU:Binds K fdU ["rest","winner","loser"] []) (mU:mg "under_step"=some (.ref fU)) (kU:keepIn K (.ref fU)=true) :
  FnOk P w K mg base CX0 5 f fd ["rest"] (spNext cs CR):=by
 refine F.ok scNext (fun vs H Q E h=>?_) (fun cdv A outer s H vs Q E hr h=>?_)
 ·obtain ⟨y,r,rfl,_⟩:=h;rfl
 ·obtain ⟨y,r,rfl,R,ok,ne,hz,k⟩:=h;have hr3:Room 3 _:=rm hr;obtain ⟨dr,fr,pt,pb,pl,pu,h0,⟨k1,k2,k3,k4,k5⟩,e1,e2,e3,e4⟩:=R.ex;have mT:=ok.mT ne;have mB:=ok.mB ne;have neB:r.bot≠[]:=fun e=>by
   have:=ok.lens;rw [e] at this;exact ne (length_eq_zero_iff.mp this.symm)
  have lT:=ok.row.lt _ mT;have lB:=ok.row.lt _ mB;refine ⟨_,J1 (Jj (i:=1) scNext.nd rfl (Or.inl rfl) (pe_ix ix_tup (Ja (pv 0) rfl) (pe_un un_neg Je) (fun _ _=>rfl)))
   (J1 (Jj (i:=2) scNext.nd rfl (Or.inl rfl) (pe_ix ix_tup (Ja (pv 0) rfl) (pe_un un_neg Je) (fun _ _=>rfl)))
   (J1 (ps_if (Jm op_eq (pv 1) (pv 2) (J14 _)) (J8 (Ji (J1b MH GH hr3 rfl mH bH .nil pass0 (pa_cons (pv 1) J2)))) J16)
   (J1 (ps_if (Jm op_eq (pe_ix ix_tup (Ja (pv 0) rfl) (pv 1) (fun _ _=>rfl)) (pe_ix ix_tup (Ja (pv 0) rfl) (pv 2) (fun _ _=>rfl)) (J14 _)) (J8 (Ji (J1b ME GE hr3 rfl mE bE .nil pass0 (pa_cons (pv 1) (pa_cons (pv 2) J2))))) J16)
   (J1 (ps_if (Jm op_gt (pe_ix ix_tup (Ja (pv 0) rfl) (pv 1) (fun _ _=>rfl)) (pe_ix ix_tup (Ja (pv 0) rfl) (pv 2) (fun _ _=>rfl)) (J14 _)) (J8 (Ji (Jb GO hr rfl mO kO bO .nil pass0 (pa_cons (pv 0) (pa_cons (pv 1) (pa_cons (pv 2) J2)))))) J16)
   (J8 (Ji (Jb GU hr rfl mU kU bU .nil pass0 (pa_cons (pv 0) (pa_cons (pv 2) (pa_cons (pv 1) J2)))))))))),?_⟩
  refine ⟨_,rfl,y,CR,dr,fr,_,rfl,h0,TR.cl,TR.nT,k1,_,rfl,pt,_,_,_,rfl,rfl,SqT.of e1,atI_lastN ne,?_⟩;refine ⟨_,rfl,y,CR,dr,fr,_,rfl,h0,TR.cl,TR.nB,k2,_,rfl,pb,_,_,_,rfl,rfl,SqT.of e2,atI_lastN neB,?_⟩;refine ⟨_,rfl,_,rfl,rfl,_,rfl,?_⟩;unfold nextN at k;have inj:∀ {i j:Nat},V.int (i:Nat)=V.int (j:Nat)->i=j:=fun q=>by have:=V.int.inj q;omega
  by_cases c1:lastT r=lastB r
  ·refine iteDT (congrArg (fun n:Nat=>V.int (n:Int)) c1) ⟨_,rfl,fun x dx hx hdx hne=>?_⟩;obtain ⟨st,sm⟩:=J2s (cs:=cs) (s:=.home (lastT r)) hx hdx;refine ⟨x,dx,_,.home (lastT r),rfl,⟨_,rfl,rfl⟩,J0,rfl,k x _ sm ?_⟩;rw [if_pos c1];exact st
  refine iteD (fun q=>c1 (inj q)) ?_;rw [if_neg c1] at k;refine ⟨_,rfl,y,CR,dr,fr,_,rfl,h0,TR.cl,TR.nL,k3,_,rfl,pl,_,_,_,rfl,rfl,SqT.of e3,Jl (J2h lT),_,rfl,y,CR,dr,fr,_,rfl,h0,TR.cl,TR.nL,k3,_,rfl,pl,_,_,_,rfl,rfl,SqT.of e3,Jl (J2h lB),rfl,_,rfl,?_⟩;by_cases c2:r.ls.getD (lastT r) 0=r.ls.getD (lastB r) 0
  ·refine iteDT (congrArg V.int c2) ⟨_,rfl,_,rfl,fun x dx hx hdx hne=>?_⟩;obtain ⟨st,sm⟩:=J2s (cs:=cs) (s:=.even (lastT r) (lastB r)) hx hdx;refine ⟨x,dx,_,.even (lastT r) (lastB r),rfl,⟨_,_,rfl,rfl⟩,J0,rfl,k x _ sm ?_⟩;rw [if_pos c2];exact st
  refine iteD (vint_ne c2) ?_;rw [if_neg c2] at k;refine ⟨_,rfl,y,CR,dr,fr,_,rfl,h0,TR.cl,TR.nL,k3,_,rfl,pl,_,_,_,rfl,rfl,SqT.of e3,Jl (J2h lT),_,rfl,y,CR,dr,fr,_,rfl,h0,TR.cl,TR.nL,k3,_,rfl,pl,_,_,_,rfl,rfl,SqT.of e3,Jl (J2h lB),_,_,rfl,rfl,_,rfl,?_⟩;have len1:∀ (row:List Nat) (a:Nat),a∈row->row.Perm r.top->row.getD (row.length - 1) 0≠a->1<=lenOf r.ls (J3 row a)/\lenOf r.ls (J3 row a)<=10 ^ 30:=fun row a ha hp hl=>by
   have hpos:∀ j∈row,1<=r.ls.getD j 0:=fun j hj=>ok.row.pos j (hp.mem_iff.mp hj);refine ⟨J4r (fun j hj=>hpos j (Jn hj)) (behind_ne ha hl),?_⟩;have h1:lenOf r.ls row=r.size:=J1c hp;have h2:lenOf r.ls row=lenOf r.ls (row.take (row.idxOf a + 1)) + lenOf r.ls (J3 row a):=by
    rw [<- J1r];show _=lenOf r.ls (row.take (row.idxOf a + 1) ++ row.drop (row.idxOf a + 1));rw [take_append_drop]
   have h3:=Ju (ls:=r.ls) (os:=row.take (row.idxOf a + 1)) fun j hj=>by have:=hpos j (List.mem_of_mem_take hj);omega
   omega
  by_cases c3:r.ls.getD (lastB r) 0 < r.ls.getD (lastT r) 0
  ·rw [if_pos c3] at k;obtain ⟨q1,q2⟩:=len1 r.bot (lastT r) (ok.perm.mem_iff.mpr mT) ok.perm (fun e=>c1 e.symm);exact iteDT c3 ⟨_,rfl,_,rfl,_,rfl,y,r,lastT r,lastB r,rfl,R,ok,ok.perm.mem_iff.mpr mT,q1,q2,k⟩
  ·rw [if_neg c3] at k;obtain ⟨q1,q2⟩:=len1 r.top (lastB r) mB (List.Perm.refl _) c1;exact iteD c3 ⟨_,rfl,_,rfl,_,rfl,y,r,lastB r,lastT r,rfl,R,ok,mB,q1,q2,k⟩
def J30:Sp:=fun vs H Q _=>∃ (q:Addr) (row:List Nat) (x:Nat),vs=[.ref q,.int (x:Nat)]/\SqH H q (nV row)/\row.length<=24/\∀ p H',Same H H'->H' p=some (.lst (nV (withoutR row x)))->Q (.ref p) H'
theorem scWithout:FnScope ["row","letter"] ["row","letter"] (J6 J5x):=fS
theorem notv {j x:Nat}:(!decide (V.int (j:Int)=V.int (x:Int)))=decide (j≠x):=by
 by_cases e:j=x
 ·rw [e];simp
 ·rw [decide_eq_false (vint_ne (by omega)),decide_eq_true e];rfl
theorem ok_without {f:Addr} {fd:FuncData} (F:Fun K "without" "without" J5x f fd):FnOk P w K mg base CX0 1 f fd ["row","letter"] J30:=by
 refine F.ok scWithout (fun vs H Q E h=>?_) (fun cdv A outer s H vs Q E hr h=>?_)
 ·obtain ⟨q,row,x,rfl,_⟩:=h;rfl
 ·obtain ⟨q,row,x,rfl,hq,hn,k⟩:=h;rcases hq with hq | hq
  ·refine ⟨_,J8 (Ji (pe_lc (caps:=["letter"]) (js:=[1]) rfl (J5c (pv 0)) rfl (fun C fp s H=>pts_one (Jm op_ne (pv 0) (pv 1) (J14 _))) (fun C fp s H=>pv 0)
    (by decide +kernel) (by decide +kernel) (by decide +kernel) (by intro p hp;simp only [mem_cons,not_mem_nil,or_false] at hp;rcases hp with rfl;rfl))),?_⟩
   refine ⟨_,rfl,q,rfl,⟨_,SqL.of hq⟩,fun d hd=>lc_lst (fun (j:Nat)=>V.int (j:Int)) row (fun j=>decide (j≠x)) (fun (j:Nat)=>V.int (j:Int)) (by rw [<- nV_eq];exact SqL.of hq) (by omega) hd
    (fun j _ H2 Qt _ k=>⟨_,rfl,_,rfl,rfl,_,rfl,by rw [notv];exact k H2 (Same.refl _)⟩) (fun j hj H2 Qe _ s2 k=>⟨_,rfl,k _ (Same.refl _)⟩) (fun H' s' hd'=>k d H' s' (by rw [hd',nV_eq];rfl))⟩
  ·refine ⟨_,J8 (Ji (pe_lc (caps:=["letter"]) (js:=[1]) rfl (pi_tup (pv 0)) rfl (fun C fp s H=>pts_one (Jm op_ne (pv 0) (pv 1) (J14 _))) (fun C fp s H=>pv 0)
    (by decide +kernel) (by decide +kernel) (by decide +kernel) (by intro p hp;simp only [mem_cons,not_mem_nil,or_false] at hp;rcases hp with rfl;rfl))),?_⟩
   refine ⟨_,rfl,q,rfl,⟨_,SqT.of hq⟩,fun d hd=>lc_tup (fun (j:Nat)=>V.int (j:Int)) row (fun j=>decide (j≠x)) (fun (j:Nat)=>V.int (j:Int)) (by rw [<- nV_eq];exact SqT.of hq) (by omega) hd
    (fun j _ H2 Qt _ k=>⟨_,rfl,_,rfl,rfl,_,rfl,by rw [notv];exact k H2 (Same.refl _)⟩) (fun j hj H2 Qe _ s2 k=>⟨_,rfl,k _ (Same.refl _)⟩) (fun H' s' hd'=>k d H' s' (by rw [hd',nV_eq];rfl))⟩
theorem J6e (row:List Nat) (n:Nat) (h:n<=row.length):cutV (nV row) none (some (n:Int))=nV (row.take n):=by
 unfold cutV;rw [J1z,HT.sIx_nat,HT.sIx_none,Nat.min_eq_left h,nV_eq,nV_eq,List.map_take,List.drop_zero,Nat.sub_zero]
def spPut:Sp:=fun vs H Q _=>∃ (q:Addr) (row:List Nat) (w l:Nat) (ah:Bool),vs=[.ref q,.int (w:Nat),.int (l:Nat),.bl ah]/\SqH H q (nV row)/\row.length<=24/\w∈row/\w≠l/\∀ p H',Same H H'->H' p=some (.lst (nV (putR row w l ah)))->Q (.ref p) H'
theorem scPut:FnScope ["row","winner","loser","ahead","others","at"] ["row","winner","loser","ahead"] (J6 sPut):=fS
theorem nV_app (xs ys:List Nat):nV (xs ++ ys)=nV xs ++ nV ys:=by rw [nV_eq,nV_eq,nV_eq,map_append]
theorem ok_put {f fW:Addr} {fd fdW:FuncData} (F:Fun K "put_beside" "put_beside" sPut f fd) (GW:FnOk P w K mg base CX0 1 fW fdW ["row","letter"] J30) (bW:Binds K fdW ["row","letter"] []) (mW:mg "without"=some (.ref fW)) (kW:keepIn K (.ref fW)=true) :
  FnOk P w K mg base CX0 2 f fd ["row","winner","loser","ahead"] spPut:=by
 refine F.ok scPut (fun vs H Q E h=>?_) (fun cdv A outer s H vs Q E hr h=>?_)
 ·obtain ⟨q,row,wi,lo,ah,rfl,_⟩:=h;rfl
 ·obtain ⟨q,row,wi,lo,ah,rfl,hq,hn,hw,hwl,k⟩:=h;refine ⟨_,J1 (Jj (i:=4) scPut.nd rfl (Or.inl rfl) (Jb GW hr rfl mW kW bW .nil pass0 (pa_cons (pv 0) (pa_cons (pv 2) J2))))
   (J1 (ps_cut (Jj (i:=5) scPut.nd rfl (Or.inl rfl) (J4n (pt_val (pv 3)) (pe_bm PySem.F.plainAttrs_list PySem.F.slot_list_index PySem.F.type_list_index J4p (pv 4) (pa_cons (pv 1) J2)) (pe_op J2g (pe_bm PySem.F.plainAttrs_list PySem.F.slot_list_index PySem.F.type_list_index J4p (pv 4) (pa_cons (pv 1) J2)) Je))))
   (J8 (Ji (pe_op op_cat (pe_op op_cat (J3d sl_list (pv 4) J5b (J5a (pv 5))) (J2p (pa_cons (pv 2) J2))) (J3d sl_list (pv 4) (J5a (pv 5)) J5b))))),?_⟩
  refine ⟨_,rfl,_,rfl,q,row,lo,rfl,hq,hn,fun o H1 s1 ho=>?_⟩;have hm:wi∈withoutR row lo:=mem_without.mpr ⟨hw,hwl⟩;have hl1:(withoutR row lo).length<=24:=Nat.le_trans (List.length_filter_le _ _) hn;have k':∀ p H',Same H H'->H' p=some (.lst (nV ((withoutR row lo).take (if ah=true then (withoutR row lo).idxOf wi else (withoutR row lo).idxOf wi + 1) ++ [lo] ++ (withoutR row lo).drop (if ah=true then (withoutR row lo).idxOf wi else (withoutR row lo).idxOf wi + 1))))->Q (.ref p) H':=k;generalize withoutR row lo=os at *;have hi:os.idxOf wi < os.length:=idxOf_lt_length_iff.mpr hm;have hb:∃ n:Nat,n<=os.length/\n=(if ah=true then os.idxOf wi else os.idxOf wi + 1):=by
   refine ⟨_,?_,rfl⟩;split <;> omega
  obtain ⟨n,hn1,hn2⟩:=hb;rw [<- hn2] at k';refine ⟨fun σ' H'=>σ'=[some (.ref q),some (.int (wi:Nat)),some (.int (lo:Nat)),some (.bl ah),some (.ref o),some (.int (n:Nat))]/\H1=H',⟨_,rfl,_,rfl,?_⟩,?_⟩
  ·by_cases c:ah=true
   ·rw [if_pos c] at hn2;refine iteBT c ⟨_,rfl,.inl ⟨rfl,_,SqL.of ho⟩,_,rfl,o,natI os,(wi:Int),rfl,rfl,SqL.of ho,J5f hm,?_,rfl⟩;rw [hn2,<- J5l];rfl
   ·rw [if_neg c] at hn2;refine iteBF c ⟨_,rfl,.inl ⟨rfl,_,SqL.of ho⟩,_,rfl,o,natI os,(wi:Int),rfl,rfl,SqL.of ho,J5f hm,_,_,rfl,rfl,?_,rfl⟩;rw [hn2,<- J5l,Int.natCast_add];rfl
  rintro σ _ ⟨rfl,rfl⟩;refine ⟨_,rfl,_,rfl,_,rfl,o,_,rfl,SqL.of ho,fun a ha=>?_⟩;refine ⟨_,rfl,(by show 1<=sizeLine;decide),fun b hb=>?_⟩;have sa:=J4 (o:=.lst (cutV (nV os) none (some (n:Int)))) ha;have sb:=J4 (o:=.lst [V.int (lo:Nat)]) hb;refine ⟨a,b,_,_,rfl,rfl,sb _ _ J0,J0,?_,fun c hc=>?_⟩
  ·rw [J6e _ _ hn1,J1z,length_take];have:=Jp (n:=min n os.length + 1) (by omega);show min n os.length + 1<=sizeLine;omega
  have sc:=J4 (o:=.lst (cutV (nV os) none (some (n:Int)) ++ [V.int (lo:Nat)])) hc;refine ⟨_,rfl,_,rfl,_,rfl,o,_,rfl,SqL.of (sc _ _ (sb _ _ (sa _ _ ho))),fun d hd=>?_⟩;have sd:=J4 (o:=.lst (cutV (nV os) (some (n:Int)) none)) hd;refine ⟨c,d,_,_,rfl,rfl,sd _ _ J0,J0,?_,fun e he=>k' e _ (s1.trans (sa.trans (sb.trans (sc.trans (sd.trans (J4 he)))))) ?_⟩
  ·rw [J6e _ _ hn1,cut_nat _ _ hn1,length_append,J1z,J1z,length_take,length_drop];have:=Jp (n:=min n os.length + 1 + (os.length - n)) (by omega);show min n os.length + 1 + (os.length - n)<=sizeLine;omega
  ·rw [J0,J6e _ _ hn1,cut_nat _ _ hn1,nV_app,nV_app];rfl
def J2k:Sp:=fun vs H Q _=>∃ (q:Addr) (xs:List V) (j:Nat) (v:V),vs=[.ref q,.int (j:Nat),v]/\SqH H q xs/\j < xs.length/\∀ p H',Same H H'->H' p=some (.lst (xs.set j v))->Q (.ref p) H'
theorem scChanged:FnScope ["row","letter","entry","copied"] ["row","letter","entry"] (J6 J5z):=fS
theorem ok_changed {f:Addr} {fd:FuncData} (F:Fun K "changed" "changed" J5z f fd) (T:TxtR mg):FnOk P w K mg base CX0 1 f fd ["row","letter","entry"] J2k:=by
 refine F.ok scChanged (fun vs H Q E h=>?_) (fun cdv A outer s H vs Q E hr h=>?_)
 ·obtain ⟨q,xs,j,v,rfl,_⟩:=h;rfl
 ·obtain ⟨q,xs,j,v,rfl,hq,hj,k⟩:=h;refine ⟨_,J1 (Jj (i:=3) scChanged.nd rfl (Or.inl rfl) (Jd J6g (by rfl) T.list boot_list (pa_cons (pv 0) J2)))
   (J1 (ps_asg (pv 2) (pg_sub (pv 3) (pv 1) J5w)) (J8 (Ji (pv 3)))),?_⟩
  refine ⟨_,rfl,q,xs,rfl,hq.sq,fun c hc=>?_⟩;refine ⟨_,rfl,_,rfl,_,rfl,c,xs,_,j,rfl,rfl,J0,ixN_nat hj,?_⟩;rw [upd_upd];exact ⟨_,rfl,k c _ (J4 hc) J0⟩
theorem bV_set (ts:List Bool) (j:Nat) (b:Bool):(bV ts).set j (V.bl b)=bV (ts.set j b):=by
 show (ts.map V.bl).set j (V.bl b)=(ts.set j b).map V.bl;rw [List.map_set]
def J55 (CR:Addr):Sp:=fun vs H Q _=>∃ (y:Addr) (r:Rst) (a:Nat) (less:Int),vs=[.ref y,.int (a:Nat),.int less]/\RestAt CR H y r/\a < r.ls.length/\∀ p H',Same H H'->H' p=some (.lst (iV (r.ls.set a (r.ls.getD a 0 - less))))->Q (.ref p) H'
theorem scShort:FnScope ["rest","winner","less"] ["rest","winner","less"] (J6 sShort):=fS
theorem ok_short {f fC CR:Addr} {fd fdC:FuncData} (F:Fun K "shortened" "shortened" sShort f fd) (TR:TxtRest K CR) (GC:FnOk P w K mg base CX0 1 fC fdC ["row","letter","entry"] J2k) (bC:Binds K fdC ["row","letter","entry"] []) (mC:mg "changed"=some (.ref fC)) (kC:keepIn K (.ref fC)=true) :
  FnOk P w K mg base CX0 2 f fd ["rest","winner","less"] (J55 CR):=by
 refine F.ok scShort (fun vs H Q E h=>?_) (fun cdv A outer s H vs Q E hr h=>?_)
 ·obtain ⟨y,r,a,less,rfl,_⟩:=h;rfl
 ·obtain ⟨y,r,a,less,rfl,R,ha,k⟩:=h;obtain ⟨dr,fr,pt,pb,pl,pu,h0,⟨k1,k2,k3,k4,k5⟩,e1,e2,e3,e4⟩:=R.ex;refine ⟨_,J8 (Ji (Jb GC hr rfl mC kC bC .nil pass0 (pa_cons (Ja (pv 0) rfl) (pa_cons (pv 1) (pa_cons (pe_op J64 (pe_ix ix_tup (Ja (pv 0) rfl) (pv 1) (fun _ _=>rfl)) (pv 2)) J2))))),?_⟩;refine ⟨_,rfl,y,CR,dr,fr,_,rfl,h0,TR.cl,TR.nL,k3,_,rfl,_,rfl,y,CR,dr,fr,_,rfl,h0,TR.cl,TR.nL,k3,_,rfl,pl,_,_,_,rfl,rfl,SqT.of e3,Jl (J2h ha),_,rfl,_,_,rfl,rfl,pl,iV r.ls,a,_,rfl,.inr e3,by rw [J2b];exact ha,fun p H' s' hp=>k p H' s' ?_⟩;rw [hp,iV_set]
def J43 (CR:Addr):Sp:=fun vs H Q _=>∃ (y:Addr) (r:Rst) (a b:Nat),vs=[.ref y,.int (a:Nat),.int (b:Nat)]/\RestAt CR H y r/\a < r.ts.length/\b < r.ts.length/\∀ p H',Same H H'->H' p=some (.lst (bV (J1s r a b)))->Q (.ref p) H'
theorem scTurnsB:FnScope ["rest","winner","loser"] ["rest","winner","loser"] (J6 sTurnsB):=fS
theorem ok_turnsB {f fC CR:Addr} {fd fdC:FuncData} (F:Fun K "turns_behind" "turns_behind" sTurnsB f fd) (TR:TxtRest K CR) (GC:FnOk P w K mg base CX0 1 fC fdC ["row","letter","entry"] J2k) (bC:Binds K fdC ["row","letter","entry"] []) (mC:mg "changed"=some (.ref fC)) (kC:keepIn K (.ref fC)=true) :
  FnOk P w K mg base CX0 2 f fd ["rest","winner","loser"] (J43 CR):=by
 refine F.ok scTurnsB (fun vs H Q E h=>?_) (fun cdv A outer s H vs Q E hr h=>?_)
 ·obtain ⟨y,r,a,b,rfl,_⟩:=h;rfl
 ·obtain ⟨y,r,a,b,rfl,R,ha,hb,k⟩:=h;obtain ⟨dr,fr,pt,pb,pl,pu,h0,⟨k1,k2,k3,k4,k5⟩,e1,e2,e3,e4⟩:=R.ex;refine ⟨_,J8 (Ji (Jb GC hr rfl mC kC bC .nil pass0 (pa_cons (Ja (pv 0) rfl) (pa_cons (pv 2) (pa_cons (pe_cmpR op_ne (pe_ix ix_tup (Ja (pv 0) rfl) (pv 1) (fun _ _=>rfl)) (pe_ix ix_tup (Ja (pv 0) rfl) (pv 2) (fun _ _=>rfl)) (J14 _)) J2))))),?_⟩;refine ⟨_,rfl,y,CR,dr,fr,_,rfl,h0,TR.cl,TR.nU,k4,_,rfl,_,rfl,y,CR,dr,fr,_,rfl,h0,TR.cl,TR.nU,k4,_,rfl,pu,_,_,_,rfl,rfl,SqT.of e4,Jl (bV_get ha),_,rfl,y,CR,dr,fr,_,rfl,h0,TR.cl,TR.nU,k4,_,rfl,pu,_,_,_,rfl,rfl,SqT.of e4,Jl (bV_get hb),rfl,pu,bV r.ts,b,_,rfl,.inr e4,by rw [length_map];exact hb,fun p H' s' hp=>k p H' s' ?_⟩;rw [hp];unfold J1s;rw [<- bV_set];have e:(!decide (V.bl (r.ts.getD a false)=V.bl (r.ts.getD b false)))=(r.ts.getD a false != r.ts.getD b false):=by
   cases r.ts.getD a false <;> cases r.ts.getD b false <;> rfl
  rw [e]
structure Fit (s:Stp) (r:Rst):Prop where
 ok:r.Ok
 left:(s.behind r).Ok
 win:s.winner∈r.top
 lose:∀ b:Nat,loseV s=.int (b:Nat)->b∈r.top/\s.winner≠b
 few:s.times.natAbs < 2 ^ 4000
 small:r.size<=10 ^ 30
def J1p (cs:Kd->Addr) (CR:Addr) (k:Kd):Sp:=fun vs H Q _=>∃ (x y:Addr) (s:Stp) (r:Rst),vs=[.ref x,.ref y]/\kd s=k/\StepAt cs H x s/\RestAt CR H y r/\Fit s r/\∀ p H',Same H H'->RestAt CR H' p (s.behind r)->Q (.ref p) H'
theorem J26 {CR:Addr} {H:Hp} {p1 p2 p3 p4:Addr} {r:Rst} {Q:VK} (ok:r.Ok) (h1:SqH H p1 (nV r.top)) (h2:SqH H p2 (nV r.bot)) (h3:SqH H p3 (iV r.ls)) (h4:SqH H p4 (bV r.ts)) (k:∀ p H',Same H H'->RestAt CR H' p r->Q (.ref p) H') :
  ∀ x dx,H x=none->H dx=none->dx≠x->J2j CR (.ref x :: ([.ref p1,.ref p2,.ref p3,.ref p4] ++ [])) (upd (upd H dx (.own x)) x (.ins CR dx [])) (fun v H2=>v=.non/\Q (.ref x) H2) E0:=fun x dx hx hdx hne=>by
 have s0:Same H (upd (upd H dx (.own x)) x (.ins CR dx [])):=(J4 hdx).trans (J4 (by rw [J9 (Ne.symm hne)];exact hx));refine ⟨x,dx,p1,p2,p3,p4,r,rfl,J0,h1.same s0,h2.same s0,h3.same s0,h4.same s0,ok.row.lt,Nat.le_trans ok.row.len_le ok.few,fun H' R kp=>⟨rfl,k x H' (fun b u e=>?_) R⟩⟩;exact kp b u (s0 _ _ e) (J7 e hx)
theorem scHoBehind:FnScope ["self","rest","top","bottom"] ["self","rest"] (J6 J4f):=fS
theorem ok_hobehind {f fW fC fI CR:Addr} {fd fdW fdC fdI:FuncData} {cs:Kd->Addr} (F:Fun K "behind" "Home.behind" J4f f fd) (TS:TxtS K cs) (TR:TxtRest K CR)
  (GW:FnOk P w K mg base CX0 1 fW fdW ["row","letter"] J30) (bW:Binds K fdW ["row","letter"] []) (mW:mg "without"=some (.ref fW)) (kW:keepIn K (.ref fW)=true)
  (GC:FnOk P w K mg base CX0 1 fC fdC ["row","letter","entry"] J2k) (bC:Binds K fdC ["row","letter","entry"] []) (mC:mg "changed"=some (.ref fC)) (kC:keepIn K (.ref fC)=true)
  (M:Mk K CR fI) (GI:FnOk P w K mg base CX0 2 fI fdI ["self","top","bottom","lengths","turned"] (J2j CR)) (bI:Binds K fdI ["self","top","bottom","lengths","turned"] []) (mgR:mg "Rest"=some (.ref CR)) :
  FnOk P w K mg base CX0 4 f fd ["self","rest"] (J1p cs CR .ho):=by
 refine F.ok scHoBehind (fun vs H Q E h=>?_) (fun cdv A outer s H vs Q E hr h=>?_)
 ·obtain ⟨x,y,s,r,rfl,_⟩:=h;rfl
 ·obtain ⟨x,y,s,r,rfl,hs,⟨dx,hx⟩,R,fit,k⟩:=h;have hr1:Room 1 _:=rm hr;have hr2:Room 2 _:=rm hr;have ok:=fit.ok;have left:=fit.left;have win:=fit.win;have winB:=ok.perm.mem_iff.mpr win;have few:=Nat.le_trans ok.row.len_le ok.few;have fewB:=Nat.le_trans ok.rowB.len_le ok.few;have lw:=ok.row.lt _ win;obtain ⟨dr,fr,pt,pb,pl,pu,h0,⟨k1,k2,k3,k4,k5⟩,e1,e2,e3,e4⟩:=R.ex
  cases s with
  | home a =>
   have lt:a < r.ts.length:=by rw [ok.len];exact lw
   refine ⟨_,J1 (Jj (i:=2) scHoBehind.nd rfl (Or.inl rfl) (Jb GW hr1 rfl mW kW bW .nil pass0 (pa_cons (Ja (pv 1) rfl) (pa_cons (Ja (pv 0) rfl) J2))))
    (J1 (Jj (i:=3) scHoBehind.nd rfl (Or.inl rfl) (Jb GW hr1 rfl mW kW bW .nil pass0 (pa_cons (Ja (pv 1) rfl) (pa_cons (Ja (pv 0) rfl) J2))))
    (J8 (Ji (J1b M GI hr rfl mgR bI .nil pass0 (pa_cons (pv 2) (pa_cons (pv 3) (pa_cons (Jb GC hr1 rfl mC kC bC .nil pass0 (pa_cons (Ja (pv 1) rfl) (pa_cons (Ja (pv 0) rfl) (pa_cons Je J2)))) (pa_cons (Jb GC hr1 rfl mC kC bC .nil pass0 (pa_cons (Ja (pv 1) rfl) (pa_cons (Ja (pv 0) rfl) (pa_cons pe_bl J2)))) J2)))))))),?_⟩
   refine ⟨_,rfl,y,CR,dr,fr,_,rfl,h0,TR.cl,TR.nT,k1,_,rfl,x,cs _,dx,stF _,_,rfl,hx,TS.cl _,TS.nW _,stF_w _,pt,r.top,a,rfl,.inr e1,few,fun t1 H1 s1 ht1=>?_⟩;refine ⟨_,rfl,y,CR,dr,fr,_,rfl,s1 _ _ h0,TR.cl,TR.nB,k2,_,rfl,x,cs _,dx,stF _,_,rfl,s1 _ _ hx,TS.cl _,TS.nW _,stF_w _,pb,r.bot,a,rfl,.inr (s1 _ _ e2),fewB,fun b1 H2 s12 hb1=>?_⟩;have s2:=s1.trans s12;refine ⟨_,rfl,_,rfl,_,rfl,y,CR,dr,fr,_,rfl,s2 _ _ h0,TR.cl,TR.nL,k3,_,rfl,x,cs _,dx,stF _,_,rfl,s2 _ _ hx,TS.cl _,TS.nW _,stF_w _,pl,iV r.ls,a,.int 0,rfl,.inr (s2 _ _ e3),by rw [J2b];exact lw,fun l1 H3 s23 hl1=>?_⟩;have s3:=s2.trans s23;refine ⟨_,rfl,y,CR,dr,fr,_,rfl,s3 _ _ h0,TR.cl,TR.nU,k4,_,rfl,x,cs _,dx,stF _,_,rfl,s3 _ _ hx,TS.cl _,TS.nW _,stF_w _,pu,bV r.ts,a,.bl false,rfl,.inr (s3 _ _ e4),by rw [length_map];exact lt,fun u1 H4 s34 hu1=>?_⟩;exact J26 left (.inl (s34 _ _ (s23 _ _ (s12 _ _ ht1)))) (.inl (s34 _ _ (s23 _ _ hb1))) (.inl (by rw [s34 _ _ hl1,iV_set];rfl)) (.inl (by rw [hu1,bV_set];rfl)) fun p H' s' R'=>k p H' (s3.trans (s34.trans s')) R'
  | even a b=>cases hs
  | over a b=>cases hs
  | under a b=>cases hs
  | overs a t=>cases hs
  | unders a t=>cases hs
theorem scEvBehind:FnScope ["self","rest","top","bottom","turned"] ["self","rest"] (J6 J4g):=fS
theorem ok_evbehind {f fW fP fC fT fI CR:Addr} {fd fdW fdP fdC fdT fdI:FuncData} {cs:Kd->Addr} (F:Fun K "behind" "Even.behind" J4g f fd) (TS:TxtS K cs) (TR:TxtRest K CR)
  (GW:FnOk P w K mg base CX0 1 fW fdW ["row","letter"] J30) (bW:Binds K fdW ["row","letter"] []) (mW:mg "without"=some (.ref fW)) (kW:keepIn K (.ref fW)=true)
  (GP:FnOk P w K mg base CX0 2 fP fdP ["row","winner","loser","ahead"] spPut) (bP:Binds K fdP ["row","winner","loser","ahead"] []) (mP:mg "put_beside"=some (.ref fP)) (kP:keepIn K (.ref fP)=true)
  (GC:FnOk P w K mg base CX0 1 fC fdC ["row","letter","entry"] J2k) (bC:Binds K fdC ["row","letter","entry"] []) (mC:mg "changed"=some (.ref fC)) (kC:keepIn K (.ref fC)=true)
  (GT:FnOk P w K mg base CX0 2 fT fdT ["rest","winner","loser"] (J43 CR)) (bT:Binds K fdT ["rest","winner","loser"] []) (mT:mg "turns_behind"=some (.ref fT)) (kT:keepIn K (.ref fT)=true)
  (M:Mk K CR fI) (GI:FnOk P w K mg base CX0 2 fI fdI ["self","top","bottom","lengths","turned"] (J2j CR)) (bI:Binds K fdI ["self","top","bottom","lengths","turned"] []) (mgR:mg "Rest"=some (.ref CR)) :
  FnOk P w K mg base CX0 4 f fd ["self","rest"] (J1p cs CR .ev):=by
 refine F.ok scEvBehind (fun vs H Q E h=>?_) (fun cdv A outer s H vs Q E hr h=>?_)
 ·obtain ⟨x,y,s,r,rfl,_⟩:=h;rfl
 ·obtain ⟨x,y,s,r,rfl,hs,⟨dx,hx⟩,R,fit,k⟩:=h;have hr1:Room 1 _:=rm hr;have hr2:Room 2 _:=rm hr;have ok:=fit.ok;have left:=fit.left;have win:=fit.win;have winB:=ok.perm.mem_iff.mpr win;have few:=Nat.le_trans ok.row.len_le ok.few;have fewB:=Nat.le_trans ok.rowB.len_le ok.few;have lw:=ok.row.lt _ win;obtain ⟨dr,fr,pt,pb,pl,pu,h0,⟨k1,k2,k3,k4,k5⟩,e1,e2,e3,e4⟩:=R.ex
  cases s with
  | even a b =>
   obtain ⟨lose,wl⟩:=fit.lose b rfl;have lt:a < r.ts.length:=by rw [ok.len];exact lw
   have lb:b < r.ts.length:=by rw [ok.len];exact ok.row.lt _ lose
   refine ⟨_,J1 (Jj (i:=2) scEvBehind.nd rfl (Or.inl rfl) (Jb GW hr1 rfl mW kW bW .nil pass0 (pa_cons (Ja (pv 1) rfl) (pa_cons (Ja (pv 0) rfl) J2))))
    (J1 (Jj (i:=3) scEvBehind.nd rfl (Or.inl rfl) (Jb GW hr1 rfl mW kW bW .nil pass0 (pa_cons (Jb GP hr2 rfl mP kP bP .nil pass0 (pa_cons (Ja (pv 1) rfl) (pa_cons (Ja (pv 0) rfl) (pa_cons (Ja (pv 0) rfl) (pa_cons pe_bl J2))))) (pa_cons (Ja (pv 0) rfl) J2))))
    (J1 (Jj (i:=4) scEvBehind.nd rfl (Or.inl rfl) (Jb GC hr1 rfl mC kC bC .nil pass0 (pa_cons (Jb GT hr2 rfl mT kT bT .nil pass0 (pa_cons (pv 1) (pa_cons (Ja (pv 0) rfl) (pa_cons (Ja (pv 0) rfl) J2)))) (pa_cons (Ja (pv 0) rfl) (pa_cons pe_bl J2)))))
    (J8 (Ji (J1b M GI hr rfl mgR bI .nil pass0 (pa_cons (pv 2) (pa_cons (pv 3) (pa_cons (Jb GC hr1 rfl mC kC bC .nil pass0 (pa_cons (Ja (pv 1) rfl) (pa_cons (Ja (pv 0) rfl) (pa_cons Je J2)))) (pa_cons (pv 4) J2))))))))),?_⟩
   refine ⟨_,rfl,y,CR,dr,fr,_,rfl,h0,TR.cl,TR.nT,k1,_,rfl,x,cs _,dx,stF _,_,rfl,hx,TS.cl _,TS.nW _,stF_w _,pt,r.top,a,rfl,.inr e1,few,fun t1 H1 s1 ht1=>?_⟩;refine ⟨_,rfl,y,CR,dr,fr,_,rfl,s1 _ _ h0,TR.cl,TR.nB,k2,_,rfl,x,cs _,dx,stF _,_,rfl,s1 _ _ hx,TS.cl _,TS.nW _,stF_w _,_,rfl,x,cs _,dx,stF _,_,rfl,s1 _ _ hx,TS.cl _,TS.nL _,stF_l _,pb,r.bot,a,b,false,rfl,.inr (s1 _ _ e2),fewB,winB,wl,fun b0 H2 s12 hb0=>?_⟩;have s2:=s1.trans s12;have fewP:(putR r.bot a b false).length<=24:=by rw [(J1v ok.rowB.nd (ok.perm.mem_iff.mpr lose) false).length_eq];exact fewB
   refine ⟨_,rfl,x,cs _,dx,stF _,_,rfl,s2 _ _ hx,TS.cl _,TS.nW _,stF_w _,b0,_,a,rfl,.inl hb0,fewP,fun b1 H3 s23 hb1=>?_⟩;have s3:=s2.trans s23;refine ⟨_,rfl,_,rfl,x,cs _,dx,stF _,_,rfl,s3 _ _ hx,TS.cl _,TS.nW _,stF_w _,_,rfl,x,cs _,dx,stF _,_,rfl,s3 _ _ hx,TS.cl _,TS.nL _,stF_l _,y,r,a,b,rfl,R.same s3,lt,lb,fun u0 H4 s34 hu0=>?_⟩;have s4:=s3.trans s34;refine ⟨_,rfl,x,cs _,dx,stF _,_,rfl,s4 _ _ hx,TS.cl _,TS.nW _,stF_w _,u0,bV (J1s r a b),a,.bl false,rfl,.inl hu0,by rw [length_map,J1l];exact lt,fun u1 H5 s45 hu1=>?_⟩;have s5:=s4.trans s45;refine ⟨_,rfl,_,rfl,_,rfl,y,CR,dr,fr,_,rfl,s5 _ _ h0,TR.cl,TR.nL,k3,_,rfl,x,cs _,dx,stF _,_,rfl,s5 _ _ hx,TS.cl _,TS.nW _,stF_w _,pl,iV r.ls,a,.int 0,rfl,.inr (s5 _ _ e3),by rw [J2b];exact lw,fun l1 H6 s56 hl1=>⟨_,rfl,?_⟩⟩;exact J26 left (.inl (s56 _ _ (s45 _ _ (s34 _ _ (s23 _ _ (s12 _ _ ht1)))))) (.inl (s56 _ _ (s45 _ _ (s34 _ _ hb1)))) (.inl (by rw [hl1,iV_set];rfl)) (.inl (by rw [s56 _ _ hu1,bV_set];rfl)) fun p H' s' R'=>k p H' (s5.trans (s56.trans s')) R'
  | home a=>cases hs
  | over a b=>cases hs
  | under a b=>cases hs
  | overs a t=>cases hs
  | unders a t=>cases hs
theorem scOvBehind:FnScope ["self","rest","bottom","lengths"] ["self","rest"] (J6 J4b):=fS
theorem ok_ovbehind {f fP fS fT fI CR:Addr} {fd fdP fdS fdT fdI:FuncData} {cs:Kd->Addr} (F:Fun K "behind" "Over.behind" J4b f fd) (TS:TxtS K cs) (TR:TxtRest K CR)
  (GP:FnOk P w K mg base CX0 2 fP fdP ["row","winner","loser","ahead"] spPut) (bP:Binds K fdP ["row","winner","loser","ahead"] []) (mP:mg "put_beside"=some (.ref fP)) (kP:keepIn K (.ref fP)=true)
  (GS:FnOk P w K mg base CX0 2 fS fdS ["rest","winner","less"] (J55 CR)) (bS:Binds K fdS ["rest","winner","less"] []) (mS:mg "shortened"=some (.ref fS)) (kS:keepIn K (.ref fS)=true)
  (GT:FnOk P w K mg base CX0 2 fT fdT ["rest","winner","loser"] (J43 CR)) (bT:Binds K fdT ["rest","winner","loser"] []) (mT:mg "turns_behind"=some (.ref fT)) (kT:keepIn K (.ref fT)=true)
  (M:Mk K CR fI) (GI:FnOk P w K mg base CX0 2 fI fdI ["self","top","bottom","lengths","turned"] (J2j CR)) (bI:Binds K fdI ["self","top","bottom","lengths","turned"] []) (mgR:mg "Rest"=some (.ref CR)) :
  FnOk P w K mg base CX0 4 f fd ["self","rest"] (J1p cs CR .ov):=by
 refine F.ok scOvBehind (fun vs H Q E h=>?_) (fun cdv A outer s H vs Q E hr h=>?_)
 ·obtain ⟨x,y,s,r,rfl,_⟩:=h;rfl
 ·obtain ⟨x,y,s,r,rfl,hs,⟨dx,hx⟩,R,fit,k⟩:=h;have hr1:Room 1 _:=rm hr;have hr2:Room 2 _:=rm hr;have ok:=fit.ok;have left:=fit.left;have win:=fit.win;have winB:=ok.perm.mem_iff.mpr win;have few:=Nat.le_trans ok.row.len_le ok.few;have fewB:=Nat.le_trans ok.rowB.len_le ok.few;have lw:=ok.row.lt _ win;obtain ⟨dr,fr,pt,pb,pl,pu,h0,⟨k1,k2,k3,k4,k5⟩,e1,e2,e3,e4⟩:=R.ex
  cases s with
  | over a b =>
   obtain ⟨lose,wl⟩:=fit.lose b rfl;have lt:a < r.ts.length:=by rw [ok.len];exact lw
   have lbl:=ok.row.lt _ lose;have lb:b < r.ts.length:=by rw [ok.len];exact lbl
   refine ⟨_,J1 (Jj (i:=2) scOvBehind.nd rfl (Or.inl rfl) (Jb GP hr2 rfl mP kP bP .nil pass0 (pa_cons (Ja (pv 1) rfl) (pa_cons (Ja (pv 0) rfl) (pa_cons (Ja (pv 0) rfl) (pa_cons (pe_ix ix_tup (Ja (pv 1) rfl) (Ja (pv 0) rfl) (fun _ _=>rfl)) J2))))))
    (J1 (Jj (i:=3) scOvBehind.nd rfl (Or.inl rfl) (Jb GS hr2 rfl mS kS bS .nil pass0 (pa_cons (pv 1) (pa_cons (Ja (pv 0) rfl) (pa_cons (pe_ix ix_tup (Ja (pv 1) rfl) (Ja (pv 0) rfl) (fun _ _=>rfl)) J2)))))
    (J8 (Ji (J1b M GI hr rfl mgR bI .nil pass0 (pa_cons (Ja (pv 1) rfl) (pa_cons (pv 2) (pa_cons (pv 3) (pa_cons (Jb GT hr2 rfl mT kT bT .nil pass0 (pa_cons (pv 1) (pa_cons (Ja (pv 0) rfl) (pa_cons (Ja (pv 0) rfl) J2)))) J2)))))))),?_⟩
   refine ⟨_,rfl,y,CR,dr,fr,_,rfl,h0,TR.cl,TR.nB,k2,_,rfl,x,cs _,dx,stF _,_,rfl,hx,TS.cl _,TS.nW _,stF_w _,_,rfl,x,cs _,dx,stF _,_,rfl,hx,TS.cl _,TS.nL _,stF_l _,_,rfl,y,CR,dr,fr,_,rfl,h0,TR.cl,TR.nU,k4,_,rfl,x,cs _,dx,stF _,_,rfl,hx,TS.cl _,TS.nW _,stF_w _,pu,_,_,_,rfl,rfl,SqT.of e4,Jl (bV_get lt),pb,r.bot,a,b,_,rfl,.inr e2,fewB,winB,wl,fun q1 H1 s1 hq1=>?_⟩;refine ⟨_,rfl,_,rfl,x,cs _,dx,stF _,_,rfl,s1 _ _ hx,TS.cl _,TS.nW _,stF_w _,_,rfl,y,CR,dr,fr,_,rfl,s1 _ _ h0,TR.cl,TR.nL,k3,_,rfl,x,cs _,dx,stF _,_,rfl,s1 _ _ hx,TS.cl _,TS.nL _,stF_l _,pl,_,_,_,rfl,rfl,SqT.of (s1 _ _ e3),Jl (J2h lbl),y,r,a,_,rfl,R.same s1,lw,fun l1 H2 s12 hl1=>?_⟩;have s2:=s1.trans s12;refine ⟨_,rfl,y,CR,dr,fr,_,rfl,s2 _ _ h0,TR.cl,TR.nT,k1,_,rfl,_,rfl,_,rfl,_,rfl,x,cs _,dx,stF _,_,rfl,s2 _ _ hx,TS.cl _,TS.nW _,stF_w _,_,rfl,x,cs _,dx,stF _,_,rfl,s2 _ _ hx,TS.cl _,TS.nL _,stF_l _,y,r,a,b,rfl,R.same s2,lt,lb,fun u1 H3 s23 hu1=>?_⟩;exact J26 left (.inr (s23 _ _ (s2 _ _ e1))) (.inl (s23 _ _ (s12 _ _ hq1))) (.inl (s23 _ _ hl1)) (.inl hu1) fun p H' s' R'=>k p H' (s2.trans (s23.trans s')) R'
  | home a=>cases hs
  | even a b=>cases hs
  | under a b=>cases hs
  | overs a t=>cases hs
  | unders a t=>cases hs
theorem scUnBehind:FnScope ["self","rest","top","lengths"] ["self","rest"] (J6 J49):=fS
theorem ok_unbehind {f fP fS fT fI CR:Addr} {fd fdP fdS fdT fdI:FuncData} {cs:Kd->Addr} (F:Fun K "behind" "Under.behind" J49 f fd) (TS:TxtS K cs) (TR:TxtRest K CR)
  (GP:FnOk P w K mg base CX0 2 fP fdP ["row","winner","loser","ahead"] spPut) (bP:Binds K fdP ["row","winner","loser","ahead"] []) (mP:mg "put_beside"=some (.ref fP)) (kP:keepIn K (.ref fP)=true)
  (GS:FnOk P w K mg base CX0 2 fS fdS ["rest","winner","less"] (J55 CR)) (bS:Binds K fdS ["rest","winner","less"] []) (mS:mg "shortened"=some (.ref fS)) (kS:keepIn K (.ref fS)=true)
  (GT:FnOk P w K mg base CX0 2 fT fdT ["rest","winner","loser"] (J43 CR)) (bT:Binds K fdT ["rest","winner","loser"] []) (mT:mg "turns_behind"=some (.ref fT)) (kT:keepIn K (.ref fT)=true)
  (M:Mk K CR fI) (GI:FnOk P w K mg base CX0 2 fI fdI ["self","top","bottom","lengths","turned"] (J2j CR)) (bI:Binds K fdI ["self","top","bottom","lengths","turned"] []) (mgR:mg "Rest"=some (.ref CR)) :
  FnOk P w K mg base CX0 4 f fd ["self","rest"] (J1p cs CR .un):=by
 refine F.ok scUnBehind (fun vs H Q E h=>?_) (fun cdv A outer s H vs Q E hr h=>?_)
 ·obtain ⟨x,y,s,r,rfl,_⟩:=h;rfl
 ·obtain ⟨x,y,s,r,rfl,hs,⟨dx,hx⟩,R,fit,k⟩:=h;have hr1:Room 1 _:=rm hr;have hr2:Room 2 _:=rm hr;have ok:=fit.ok;have left:=fit.left;have win:=fit.win;have winB:=ok.perm.mem_iff.mpr win;have few:=Nat.le_trans ok.row.len_le ok.few;have fewB:=Nat.le_trans ok.rowB.len_le ok.few;have lw:=ok.row.lt _ win;obtain ⟨dr,fr,pt,pb,pl,pu,h0,⟨k1,k2,k3,k4,k5⟩,e1,e2,e3,e4⟩:=R.ex
  cases s with
  | under a b =>
   obtain ⟨lose,wl⟩:=fit.lose b rfl;have lt:a < r.ts.length:=by rw [ok.len];exact lw
   have lbl:=ok.row.lt _ lose;have lb:b < r.ts.length:=by rw [ok.len];exact lbl
   refine ⟨_,J1 (Jj (i:=2) scUnBehind.nd rfl (Or.inl rfl) (Jb GP hr2 rfl mP kP bP .nil pass0 (pa_cons (Ja (pv 1) rfl) (pa_cons (Ja (pv 0) rfl) (pa_cons (Ja (pv 0) rfl) (pa_cons (pe_ix ix_tup (Ja (pv 1) rfl) (Ja (pv 0) rfl) (fun _ _=>rfl)) J2))))))
    (J1 (Jj (i:=3) scUnBehind.nd rfl (Or.inl rfl) (Jb GS hr2 rfl mS kS bS .nil pass0 (pa_cons (pv 1) (pa_cons (Ja (pv 0) rfl) (pa_cons (pe_ix ix_tup (Ja (pv 1) rfl) (Ja (pv 0) rfl) (fun _ _=>rfl)) J2)))))
    (J8 (Ji (J1b M GI hr rfl mgR bI .nil pass0 (pa_cons (pv 2) (pa_cons (Ja (pv 1) rfl) (pa_cons (pv 3) (pa_cons (Jb GT hr2 rfl mT kT bT .nil pass0 (pa_cons (pv 1) (pa_cons (Ja (pv 0) rfl) (pa_cons (Ja (pv 0) rfl) J2)))) J2)))))))),?_⟩
   refine ⟨_,rfl,y,CR,dr,fr,_,rfl,h0,TR.cl,TR.nT,k1,_,rfl,x,cs _,dx,stF _,_,rfl,hx,TS.cl _,TS.nW _,stF_w _,_,rfl,x,cs _,dx,stF _,_,rfl,hx,TS.cl _,TS.nL _,stF_l _,_,rfl,y,CR,dr,fr,_,rfl,h0,TR.cl,TR.nU,k4,_,rfl,x,cs _,dx,stF _,_,rfl,hx,TS.cl _,TS.nW _,stF_w _,pu,_,_,_,rfl,rfl,SqT.of e4,Jl (bV_get lt),pt,r.top,a,b,_,rfl,.inr e1,few,win,wl,fun q1 H1 s1 hq1=>?_⟩;refine ⟨_,rfl,_,rfl,x,cs _,dx,stF _,_,rfl,s1 _ _ hx,TS.cl _,TS.nW _,stF_w _,_,rfl,y,CR,dr,fr,_,rfl,s1 _ _ h0,TR.cl,TR.nL,k3,_,rfl,x,cs _,dx,stF _,_,rfl,s1 _ _ hx,TS.cl _,TS.nL _,stF_l _,pl,_,_,_,rfl,rfl,SqT.of (s1 _ _ e3),Jl (J2h lbl),y,r,a,_,rfl,R.same s1,lw,fun l1 H2 s12 hl1=>?_⟩;have s2:=s1.trans s12;refine ⟨_,rfl,_,rfl,y,CR,dr,fr,_,rfl,s2 _ _ h0,TR.cl,TR.nB,k2,_,rfl,_,rfl,_,rfl,x,cs _,dx,stF _,_,rfl,s2 _ _ hx,TS.cl _,TS.nW _,stF_w _,_,rfl,x,cs _,dx,stF _,_,rfl,s2 _ _ hx,TS.cl _,TS.nL _,stF_l _,y,r,a,b,rfl,R.same s2,lt,lb,fun u1 H3 s23 hu1=>?_⟩;exact J26 left (.inl (s23 _ _ (s12 _ _ hq1))) (.inr (s23 _ _ (s2 _ _ e2))) (.inl (s23 _ _ hl1)) (.inl hu1) fun p H' s' R'=>k p H' (s2.trans (s23.trans s')) R'
  | home a=>cases hs
  | even a b=>cases hs
  | over a b=>cases hs
  | overs a t=>cases hs
  | unders a t=>cases hs
theorem scOsBehind:FnScope ["self","rest","lengths"] ["self","rest"] (J6 J4d):=fS
theorem ok_osbehind {f fL fS fI CR:Addr} {fd fdL fdS fdI:FuncData} {cs:Kd->Addr} (F:Fun K "behind" "Overs.behind" J4d f fd) (TS:TxtS K cs) (TR:TxtRest K CR)
  (GL:FnOk P w K mg base CX0 1 fL fdL ["rest","letters"] (J56 K)) (bL:Binds K fdL ["rest","letters"] []) (mL:mg "length_of"=some (.ref fL)) (kL:keepIn K (.ref fL)=true)
  (GS:FnOk P w K mg base CX0 2 fS fdS ["rest","winner","less"] (J55 CR)) (bS:Binds K fdS ["rest","winner","less"] []) (mS:mg "shortened"=some (.ref fS)) (kS:keepIn K (.ref fS)=true)
  (M:Mk K CR fI) (GI:FnOk P w K mg base CX0 2 fI fdI ["self","top","bottom","lengths","turned"] (J2j CR)) (bI:Binds K fdI ["self","top","bottom","lengths","turned"] []) (mgR:mg "Rest"=some (.ref CR))
  (HL:∀ k,HasM P w K mg base CX0 2 "losers" ["self","rest"] (J1a cs CR k) (cs k)) :
  FnOk P w K mg base CX0 4 f fd ["self","rest"] (J1p cs CR .os):=by
 refine F.ok scOsBehind (fun vs H Q E h=>?_) (fun cdv A outer s H vs Q E hr h=>?_)
 ·obtain ⟨x,y,s,r,rfl,_⟩:=h;rfl
 ·obtain ⟨x,y,s,r,rfl,hs,⟨dx,hx⟩,R,fit,k⟩:=h;have hr1:Room 1 _:=rm hr;have hr2:Room 2 _:=rm hr;have ok:=fit.ok;have left:=fit.left;have win:=fit.win;have winB:=ok.perm.mem_iff.mpr win;have few:=Nat.le_trans ok.row.len_le ok.few;have fewB:=Nat.le_trans ok.rowB.len_le ok.few;have lw:=ok.row.lt _ win;obtain ⟨dr,fr,pt,pb,pl,pu,h0,⟨k1,k2,k3,k4,k5⟩,e1,e2,e3,e4⟩:=R.ex
  cases s with
  | overs a t =>
   have hlt:∀ j∈J3 r.bot a,j < r.ls.length:=fun j hj=>ok.rowB.lt j (Jn hj);have hln:(J3 r.bot a).length<=24:=by unfold J3;rw [length_drop];omega
   have hsz:(lenOf r.ls (J3 r.bot a)).natAbs < 2 ^ 4000:=by
    have p0:∀ j∈r.bot,1<=r.ls.getD j 0:=fun j hj=>ok.rowB.pos j hj;have h1:lenOf r.ls r.bot=r.size:=ok.sizeB;have h2:lenOf r.ls r.bot=lenOf r.ls (r.bot.take (r.bot.idxOf a + 1)) + lenOf r.ls (J3 r.bot a):=by
     rw [<- J1r];show _=lenOf r.ls (r.bot.take (r.bot.idxOf a + 1) ++ r.bot.drop (r.bot.idxOf a + 1));rw [take_append_drop]
    have h3:=Ju (ls:=r.ls) (os:=r.bot.take (r.bot.idxOf a + 1)) fun j hj=>by have:=p0 j (List.mem_of_mem_take hj);omega
    have h4:=Ju (ls:=r.ls) (os:=J3 r.bot a) fun j hj=>by have:=p0 j (Jn hj);omega
    have h5:=fit.small;have h6:(lenOf r.ls (J3 r.bot a)).natAbs<=10 ^ 30:=by omega
    exact Nat.lt_of_le_of_lt h6 (by decide)
   refine ⟨_,J1 (Jj (i:=2) scOsBehind.nd rfl (Or.inl rfl) (Jb GS hr2 rfl mS kS bS .nil pass0 (pa_cons (pv 1) (pa_cons (Ja (pv 0) rfl) (pa_cons (pe_op op_mulB (Ja (pv 0) rfl) (Jb GL hr1 rfl mL kL bL .nil pass0 (pa_cons (pv 1) (pa_cons (J4m (sp:=J1a cs CR) (cls:=cs) (pv 0) HL hr2 pass0 (pa_cons (pv 1) J2)) J2)))) J2)))))
    (J8 (Ji (J1b M GI hr rfl mgR bI .nil pass0 (pa_cons (Ja (pv 1) rfl) (pa_cons (Ja (pv 1) rfl) (pa_cons (pv 2) (pa_cons (Ja (pv 1) rfl) J2))))))),?_⟩
   refine ⟨_,rfl,_,rfl,x,cs _,dx,stF _,_,rfl,hx,TS.cl _,TS.nW _,stF_w _,_,rfl,x,cs _,dx,stF _,_,rfl,hx,TS.cl _,TS.nT _,stF_t _,_,rfl,_,rfl,x,.os,dx,stF _,rfl,hx,stF_no _ (by decide +kernel) (by decide +kernel) (by decide +kernel),_,rfl,x,y,.overs a t,r,rfl,rfl,⟨dx,hx⟩,R,win,winB,fun lp H1 s1 hlp=>?_⟩;refine ⟨CR,y,lp,dr,pl,fr,r.ls,J3 r.bot a,rfl,s1 _ _ h0,TR.cl,TR.nL,k3,s1 _ _ e3,hlp,hlt,hln,fun H2 s12=>?_⟩;have s2:=s1.trans s12;refine ⟨_,_,rfl,rfl,⟨fit.few,hsz⟩,y,r,a,_,rfl,R.same s2,lw,fun l1 H3 s23 hl1=>?_⟩;have s3:=s2.trans s23;refine ⟨_,rfl,y,CR,dr,fr,_,rfl,s3 _ _ h0,TR.cl,TR.nT,k1,_,rfl,y,CR,dr,fr,_,rfl,s3 _ _ h0,TR.cl,TR.nB,k2,_,rfl,_,rfl,y,CR,dr,fr,_,rfl,s3 _ _ h0,TR.cl,TR.nU,k4,?_⟩;exact J26 left (.inr (s3 _ _ e1)) (.inr (s3 _ _ e2)) (.inl hl1) (.inr (s3 _ _ e4)) fun p H' s' R'=>k p H' (s3.trans s') R'
  | home a=>cases hs
  | even a b=>cases hs
  | over a b=>cases hs
  | under a b=>cases hs
  | unders a t=>cases hs
theorem scUsBehind:FnScope ["self","rest","lengths"] ["self","rest"] (J6 J48):=fS
theorem ok_usbehind {f fL fS fI CR:Addr} {fd fdL fdS fdI:FuncData} {cs:Kd->Addr} (F:Fun K "behind" "Unders.behind" J48 f fd) (TS:TxtS K cs) (TR:TxtRest K CR)
  (GL:FnOk P w K mg base CX0 1 fL fdL ["rest","letters"] (J56 K)) (bL:Binds K fdL ["rest","letters"] []) (mL:mg "length_of"=some (.ref fL)) (kL:keepIn K (.ref fL)=true)
  (GS:FnOk P w K mg base CX0 2 fS fdS ["rest","winner","less"] (J55 CR)) (bS:Binds K fdS ["rest","winner","less"] []) (mS:mg "shortened"=some (.ref fS)) (kS:keepIn K (.ref fS)=true)
  (M:Mk K CR fI) (GI:FnOk P w K mg base CX0 2 fI fdI ["self","top","bottom","lengths","turned"] (J2j CR)) (bI:Binds K fdI ["self","top","bottom","lengths","turned"] []) (mgR:mg "Rest"=some (.ref CR))
  (HL:∀ k,HasM P w K mg base CX0 2 "losers" ["self","rest"] (J1a cs CR k) (cs k)) :
  FnOk P w K mg base CX0 4 f fd ["self","rest"] (J1p cs CR .us):=by
 refine F.ok scUsBehind (fun vs H Q E h=>?_) (fun cdv A outer s H vs Q E hr h=>?_)
 ·obtain ⟨x,y,s,r,rfl,_⟩:=h;rfl
 ·obtain ⟨x,y,s,r,rfl,hs,⟨dx,hx⟩,R,fit,k⟩:=h;have hr1:Room 1 _:=rm hr;have hr2:Room 2 _:=rm hr;have ok:=fit.ok;have left:=fit.left;have win:=fit.win;have winB:=ok.perm.mem_iff.mpr win;have few:=Nat.le_trans ok.row.len_le ok.few;have fewB:=Nat.le_trans ok.rowB.len_le ok.few;have lw:=ok.row.lt _ win;obtain ⟨dr,fr,pt,pb,pl,pu,h0,⟨k1,k2,k3,k4,k5⟩,e1,e2,e3,e4⟩:=R.ex
  cases s with
  | unders a t =>
   have hlt:∀ j∈J3 r.top a,j < r.ls.length:=fun j hj=>ok.row.lt j (Jn hj);have hln:(J3 r.top a).length<=24:=by unfold J3;rw [length_drop];omega
   have hsz:(lenOf r.ls (J3 r.top a)).natAbs < 2 ^ 4000:=by
    have p0:∀ j∈r.top,1<=r.ls.getD j 0:=fun j hj=>ok.row.pos j hj;have h1:lenOf r.ls r.top=r.size:=rfl;have h2:lenOf r.ls r.top=lenOf r.ls (r.top.take (r.top.idxOf a + 1)) + lenOf r.ls (J3 r.top a):=by
     rw [<- J1r];show _=lenOf r.ls (r.top.take (r.top.idxOf a + 1) ++ r.top.drop (r.top.idxOf a + 1));rw [take_append_drop]
    have h3:=Ju (ls:=r.ls) (os:=r.top.take (r.top.idxOf a + 1)) fun j hj=>by have:=p0 j (List.mem_of_mem_take hj);omega
    have h4:=Ju (ls:=r.ls) (os:=J3 r.top a) fun j hj=>by have:=p0 j (Jn hj);omega
    have h5:=fit.small;have h6:(lenOf r.ls (J3 r.top a)).natAbs<=10 ^ 30:=by omega
    exact Nat.lt_of_le_of_lt h6 (by decide)
   refine ⟨_,J1 (Jj (i:=2) scUsBehind.nd rfl (Or.inl rfl) (Jb GS hr2 rfl mS kS bS .nil pass0 (pa_cons (pv 1) (pa_cons (Ja (pv 0) rfl) (pa_cons (pe_op op_mulB (Ja (pv 0) rfl) (Jb GL hr1 rfl mL kL bL .nil pass0 (pa_cons (pv 1) (pa_cons (J4m (sp:=J1a cs CR) (cls:=cs) (pv 0) HL hr2 pass0 (pa_cons (pv 1) J2)) J2)))) J2)))))
    (J8 (Ji (J1b M GI hr rfl mgR bI .nil pass0 (pa_cons (Ja (pv 1) rfl) (pa_cons (Ja (pv 1) rfl) (pa_cons (pv 2) (pa_cons (Ja (pv 1) rfl) J2))))))),?_⟩
   refine ⟨_,rfl,_,rfl,x,cs _,dx,stF _,_,rfl,hx,TS.cl _,TS.nW _,stF_w _,_,rfl,x,cs _,dx,stF _,_,rfl,hx,TS.cl _,TS.nT _,stF_t _,_,rfl,_,rfl,x,.us,dx,stF _,rfl,hx,stF_no _ (by decide +kernel) (by decide +kernel) (by decide +kernel),_,rfl,x,y,.unders a t,r,rfl,rfl,⟨dx,hx⟩,R,win,winB,fun lp H1 s1 hlp=>?_⟩;refine ⟨CR,y,lp,dr,pl,fr,r.ls,J3 r.top a,rfl,s1 _ _ h0,TR.cl,TR.nL,k3,s1 _ _ e3,hlp,hlt,hln,fun H2 s12=>?_⟩;have s2:=s1.trans s12;refine ⟨_,_,rfl,rfl,⟨fit.few,hsz⟩,y,r,a,_,rfl,R.same s2,lw,fun l1 H3 s23 hl1=>?_⟩;have s3:=s2.trans s23;refine ⟨_,rfl,y,CR,dr,fr,_,rfl,s3 _ _ h0,TR.cl,TR.nT,k1,_,rfl,y,CR,dr,fr,_,rfl,s3 _ _ h0,TR.cl,TR.nB,k2,_,rfl,_,rfl,y,CR,dr,fr,_,rfl,s3 _ _ h0,TR.cl,TR.nU,k4,?_⟩;exact J26 left (.inr (s3 _ _ e1)) (.inr (s3 _ _ e2)) (.inl hl1) (.inr (s3 _ _ e4)) fun p H' s' R'=>k p H' (s3.trans s') R'
  | home a=>cases hs
  | even a b=>cases hs
  | over a b=>cases hs
  | under a b=>cases hs
  | overs a t=>cases hs
def Frz (H H':Hp):Prop:=∀ b o,H b=some o->(∀ xs,o≠.lst xs)->H' b=some o
theorem Frz.of {H H':Hp} (s:Same H H'):Frz H H':=fun b o e _=>s b o e
theorem Frz.trans {H H1 H2:Hp} (a:Frz H H1) (b:Frz H1 H2):Frz H H2:=fun c o e n=>b c o (a c o e n) n
theorem Frz.upd {H:Hp} {l:Addr} {xs ys:List V} (h:H l=some (.lst xs)):Frz H (upd H l (.lst ys)):=fun b o e n=>by
 rw [J9 (fun q=>n xs (by subst q;rw [h] at e;exact (Option.some.inj e).symm))];exact e
theorem RestAt.frz {CR:Addr} {H H':Hp} {x:Addr} {r:Rst} (h:RestAt CR H x r) (s:Frz H H'):RestAt CR H' x r:=by
 obtain ⟨dx,fs,pt,pb,pl,pu,h0,hl,h1,h2,h3,h4⟩:=h.ex;exact ⟨dx,fs,pt,pb,pl,pu,s _ _ h0 (fun _ e=>nomatch e),hl,s _ _ h1 (fun _ e=>nomatch e),s _ _ h2 (fun _ e=>nomatch e),s _ _ h3 (fun _ e=>nomatch e),s _ _ h4 (fun _ e=>nomatch e)⟩
theorem StepAt.frz {cs:Kd->Addr} {H H':Hp} {p:Addr} {s:Stp} (h:StepAt cs H p s) (e:Frz H H'):StepAt cs H' p s:=let ⟨dx,q⟩:=h;⟨dx,e _ _ q (fun _ e=>nomatch e)⟩
theorem atI_last {xs:List V} {n:Nat} {v:V} (h:xs.length=n + 1) (e:xs[n]?=some v):atI xs (-1)=some v:=by
 unfold atI ixN;rw [if_neg (by decide),if_pos (by rw [h];omega)];show xs[((-1:Int) + (xs.length:Int)).toNat]?=some v;rw [h,show ((-1:Int) + ((n + 1:Nat):Int)).toNat=n by omega];exact e
theorem inV_nV (j:Nat) (row:List Nat):inV (V.int (j:Nat)) (nV row)=decide (j∈row):=by
 rw [nV_eq];unfold inV;rw [Bool.eq_iff_iff,any_eq_true,decide_eq_true_iff];constructor
 ·rintro ⟨y,hy,e⟩;obtain ⟨i,hi,rfl⟩:=mem_map.mp hy;have e':((i:Int) == (j:Int))=true:=e;have:i=j:=by have:=eq_of_beq e';omega
  exact this ▸ hi
 ·intro h;exact ⟨V.int (j:Nat),mem_map.mpr ⟨j,h,rfl⟩,(beq_self_eq_true _:((j:Int) == (j:Int))=true)⟩
theorem flat_nV (row:List Nat):(nV row).all flatV=true:=by
 rw [nV_eq,all_eq_true];intro y hy;obtain ⟨i,_,rfl⟩:=mem_map.mp hy;rfl
theorem home_kd (k:Kd):decide (V.str (wordS k)=V.str (Str.ofString "home"))=(match k with | .ho=>true | _=>false):=by cases k <;> decide +kernel
theorem home_word (s:Stp):decide (V.str (wordS (kd s))=V.str (Str.ofString "home"))=s.isHome:=by
 rw [home_kd];cases s <;> rfl
theorem flat_one (n:Nat):(List.replicate n [V.int 1]).flatten=iV (List.replicate n 1):=by
 induction n with
 | zero=>rfl
 | succ n ih=>rw [replicate_succ,flatten_cons,ih,replicate_succ];rfl
def spFirstT (C:Addr):Sp:=fun vs H Q _=>∃ (x:Addr) (ls:List Int) (os:List Nat) (ts:List Bool),vs=[.ref x]/\LineAt C H x ls os ts/\1<=ls.length/\ls.length<=24/\∀ p H',Same H H'->H' p=some (.tup (iV (List.replicate ls.length 1)))->Q (.ref p) H'
theorem scFirstT:FnScope ["line"] ["line"] (J6 sFirstT):=fS
theorem ok_firstT {f C:Addr} {fd:FuncData} (F:Fun K "first_towers" "first_towers" sFirstT f fd) (T:TxtR mg) (TC:TxtC K mg C):FnOk P w K mg base CX0 1 f fd ["line"] (spFirstT C):=by
 refine F.ok scFirstT (fun vs H Q E h=>?_) (fun cdv A outer s H vs Q E hr h=>?_)
 ·obtain ⟨x,ls,os,ts,rfl,_⟩:=h;rfl
 ·obtain ⟨x,ls,os,ts,rfl,L,h1,h2,k⟩:=h;obtain ⟨dx,fl,pl,po,pt,ps,pd,h0,⟨k1,k2,k3,k4,k5,k6⟩,e1,e2,e3,e4,e5⟩:=L.ex;refine ⟨_,J8 (Ji (pe_op op_repT (J4k (pa_cons Je J2)) (Jh Jc (by rfl) T.len boot_len (pa_cons (Ja (pv 0) rfl) J2)))),?_⟩;refine ⟨by show 1<=sizeLine;decide,fun p hp=>⟨_,rfl,x,C,dx,fl,_,rfl,J4 hp _ _ h0,TC.cl,TC.nL,k1,pl,_,rfl,.inr (SqT.of (J4 hp _ _ e1)),p,((iV ls).length:Int),[V.int 1],rfl,rfl,J0,by simp,?_,?_,?_,fun e=>?_,fun hk p2 hp2=>?_⟩⟩
  ·rw [J2b];omega
  ·rw [J2b];omega
  ·show 1 * ((iV ls).length:Int).toNat<=sizeLine;rw [J2b];have:=Jp (n:=ls.length) (by omega);omega
  ·rw [J2b] at e;have en:ls.length=1:=by omega
   refine k p _ (J4 hp) ?_;rw [J0,en];rfl
  ·refine k p2 _ ((J4 hp).trans (J4 hp2)) ?_;rw [J0,J2b,show ((ls.length:Nat):Int).toNat=ls.length by omega,flat_one]
def spTowB (cs:Kd->Addr) (CR:Addr):Sp:=fun vs H Q _=>∃ (tp x y z:Addr) (s:Stp) (r:Rst) (T:List Int),vs=[.ref tp,.ref x,.ref y,.ref z]/\H tp=some (.tup (iV T))/\StepAt cs H x s/\RestAt CR H y r/\RestAt CR H z (s.behind r)/\
 s.winner∈r.top/\s.winner∈r.bot/\s.winner < T.length/\T.length<=24/\CBig (T.getD s.winner 0) s.times/\∀ p H',Same H H'->H' p=some (.tup (iV (towB s r T)))->Q (.ref p) H'
theorem scTowB:FnScope ["towers","step","rest","behind","losers","grown","told","letter","tower"] ["towers","step","rest","behind"] (J6 sTowB):=fS
theorem iV_snoc (T:List Int) {i:Nat} (h:i < T.length):iV (T.take i) ++ [V.int (T.getD i 0)]=iV (T.take (i + 1)):=by
 show (T.take i).map V.int ++ _=(T.take (i + 1)).map V.int;rw [List.take_add_one,map_append,getD_eq_getElem?_getD,List.getElem?_eq_getElem h];rfl
theorem ok_towB {f CR:Addr} {fd:FuncData} {cs:Kd->Addr} (F:Fun K "towers_behind" "towers_behind" sTowB f fd) (T:TxtR mg) (hen:mg "enumerate"=none) (TR:TxtRest K CR) (TS:TxtS K cs)
  (HL:∀ k,HasM P w K mg base CX0 2 "losers" ["self","rest"] (J1a cs CR k) (cs k)):FnOk P w K mg base CX0 3 f fd ["towers","step","rest","behind"] (spTowB cs CR):=by
 refine F.ok scTowB (fun vs H Q E h=>?_) (fun cdv A outer s H vs Q E hr h=>?_)
 ·obtain ⟨tp,x,y,z,s,r,Tl,rfl,_⟩:=h;rfl
 ·obtain ⟨tp,x,y,z,st,r,Tl,rfl,htp,⟨dx,hx⟩,R,Z,wT,wB,wl,hn,big,k⟩:=h;have hr2:Room 2 _:=rm hr;refine ⟨_,J1 (Jj (i:=4) scTowB.nd rfl (Or.inl rfl) (J4m (sp:=J1a cs CR) (cls:=cs) (pv 1) HL hr2 pass0 (pa_cons (pv 2) J2)))
   (J1 (Jj (i:=5) scTowB.nd rfl (Or.inl rfl) (pe_op op_mulB (pe_ix ix_tup (pv 0) (Ja (pv 1) rfl) (fun _ _=>rfl)) (Ja (pv 1) rfl)))
   (J1 (Jj (i:=6) scTowB.nd rfl (Or.inl rfl) (J2p J2))
   (J1 (ps_for PassesOwn.never rfl (pi_enum rfl hen (pa_cons (pv 0) J2)) (pg_tup rfl (J2o (J1w (i:=7) scTowB.nd rfl (Or.inl rfl)) (J2o (J1w (i:=8) scTowB.nd rfl (Or.inl rfl)) pgs_nil)))
    (J8 (ps_if (Jm J65 (pv 7) (Ja (pv 3) rfl) rfl)
     (J8 (Jv (pe_bm PySem.F.plainAttrs_list PySem.F.slot_list_append PySem.F.type_list_append J1f (pv 6) (pa_cons Je J2))))
     (J8 (ps_if (Jm op_in_seq (pv 7) (pv 4) rfl)
      (J8 (Jv (pe_bm PySem.F.plainAttrs_list PySem.F.slot_list_append PySem.F.type_list_append J1f (pv 6) (pa_cons (pe_op J2g (pv 8) (pv 5)) J2))))
      (J8 (Jv (pe_bm PySem.F.plainAttrs_list PySem.F.slot_list_append PySem.F.type_list_append J1f (pv 6) (pa_cons (pv 8) J2)))))))))
   (J8 (Ji (Jd J10 (by rfl) T.tuple boot_tuple (pa_cons (pv 6) J2))))))),?_⟩
  refine ⟨_,rfl,x,kd st,dx,stF st,rfl,hx,stF_no _ (by decide +kernel) (by decide +kernel) (by decide +kernel),_,rfl,x,y,st,r,rfl,rfl,⟨dx,hx⟩,R,wT,wB,fun lp Ha sa hlp=>?_⟩;refine ⟨_,rfl,_,rfl,x,cs (kd st),dx,stF st,_,rfl,sa _ _ hx,TS.cl _,TS.nW _,stF_w _,tp,_,_,_,rfl,rfl,SqT.of (sa _ _ htp),Jl (J2h wl),_,rfl,x,cs (kd st),dx,stF st,_,rfl,sa _ _ hx,TS.cl _,TS.nT _,stF_t _,_,_,rfl,rfl,big,?_⟩;refine ⟨Nat.zero_le _,fun tl htl=>?_⟩;have lenB:=towB_len st r Tl;have htp1:=sa _ _ htp;refine ⟨_,rfl,tp,rfl,⟨_,SqT.of (J4 htl _ _ htp1)⟩,for_enum (K:=K) (a:=tp) (xs:=iV Tl)
   (fun i σ H2=>∃ v v',σ=[some (.ref tp),some (.ref x),some (.ref y),some (.ref z),some (.ref lp),some (.int (Tl.getD st.winner 0 * st.times)),some (.ref tl),v,v']/\H2 tl=some (.lst (iV ((towB st r Tl).take i)))/\Same Ha H2)
   ⟨none,none,rfl,J0,J4 htl⟩ (fun i σ H2 _ h9=>by obtain ⟨_,_,_,_,s2⟩:=h9;exact SqT.of (s2 _ _ htp1)) ?_ ?_⟩
  ·rintro i y' σ H2 t hy ⟨v,v',rfl,h1,s2⟩ ht;have hil:i < Tl.length:=by
    have:=(List.getElem?_eq_some_iff.mp hy).1;rw [length_map] at this;exact this
   rw [J2h hil] at hy;cases hy;have st2:=J4 (o:=.tup [.int (i:Int),.int (Tl.getD i 0)]) ht;have s3:=s2.trans st2;have h1':=st2 _ _ h1;obtain ⟨dz,fz,zt,zb,zl,zu,w0,⟨w1,w2,w3,w4,w5⟩,v1,v2,v3,v4⟩:=((Z.same sa).same s3).ex;have hlp':=s3 _ _ hlp;have eg:=towB_get st r Tl hil;have sn:=iV_snoc (towB st r Tl) (i:=i) (by rw [lenB];exact hil);have tlen:(iV ((towB st r Tl).take i)).length < sizeLine:=by
    rw [J2b,length_take];have:=Jp (n:=24) (by omega);omega
   have fin:∀ u,u=(towB st r Tl).getD i 0->∀ H3,H3=upd H2 t (.tup [.int (i:Int),.int (Tl.getD i 0)])->(∃ v v',[some (V.ref tp),some (.ref x),some (.ref y),some (.ref z),some (.ref lp),some (.int (Tl.getD st.winner 0 * st.times)),some (.ref tl),some (.int (i:Int)),some (.int (Tl.getD i 0))]=[some (.ref tp),some (.ref x),some (.ref y),some (.ref z),some (.ref lp),some (.int (Tl.getD st.winner 0 * st.times)),some (.ref tl),v,v']/\
     (upd H3 tl (.lst (iV ((towB st r Tl).take i) ++ [.int u]))) tl=some (.lst (iV ((towB st r Tl).take (i + 1))))/\Same Ha (upd H3 tl (.lst (iV ((towB st r Tl).take i) ++ [.int u])))):=by
    rintro u rfl H3 rfl;refine ⟨_,_,rfl,by rw [J0,sn],fun b o e=>?_⟩;rw [J9 (J7 e htl)];exact s3 _ _ e
   refine ⟨t,_,rfl,SqT.of J0,rfl,_,_,rfl,_,_,rfl,rfl,?_⟩;refine ⟨_,rfl,_,rfl,z,CR,dz,fz,_,rfl,w0,TR.cl,TR.nT,w1,zt,_,rfl,.inr (SqT.of v1),rfl,flat_nV _,_,rfl,?_⟩;by_cases c:i∈(st.behind r).top
   ·refine iteBF (show ¬ (!inV (V.int (i:Nat)) (nV (st.behind r).top))=true by rw [inV_nV];simpa using c) ?_;rw [if_pos c] at eg;refine ⟨_,rfl,_,rfl,lp,_,rfl,.inr (SqT.of hlp'),rfl,flat_nV _,_,rfl,?_⟩;by_cases c2:i∈st.losers r
    ·refine iteBT (show inV (V.int (i:Nat)) (nV (st.losers r))=true by rw [inV_nV];exact decide_eq_true c2) ?_;rw [if_pos c2] at eg;exact ⟨_,rfl,.inl ⟨rfl,_,SqL.of h1'⟩,_,rfl,_,rfl,_,_,rfl,rfl,tl,_,_,rfl,rfl,h1',tlen,fin _ eg.symm _ rfl⟩
    ·refine iteBF (show ¬ inV (V.int (i:Nat)) (nV (st.losers r))=true by rw [inV_nV];simpa using c2) ?_;rw [if_neg c2] at eg;exact ⟨_,rfl,.inl ⟨rfl,_,SqL.of h1'⟩,_,rfl,tl,_,_,rfl,rfl,h1',tlen,fin _ eg.symm _ rfl⟩
   ·refine iteBT (show (!inV (V.int (i:Nat)) (nV (st.behind r).top))=true by rw [inV_nV];simpa using c) ?_;rw [if_neg c] at eg;exact ⟨_,rfl,.inl ⟨rfl,_,SqL.of h1'⟩,tl,_,_,rfl,rfl,h1',tlen,fin _ eg.symm _ rfl⟩
  ·rintro σ H2 ⟨v,v',rfl,h1,s2⟩;rw [J2b,<- lenB,List.take_length] at h1;exact ⟨_,rfl,J13 (.inl h1) fun p H' s' hp=>k p H' ((sa.trans s2).trans s') hp⟩
def bandV (b:Band):List V:=[.int b.1,.int b.2.1,.int b.2.2.1,.bl b.2.2.2]
def spBandsL (cs:Kd->Addr) (CR:Addr):Sp:=fun vs H Q _=>∃ (tp x y z:Addr) (s:Stp) (r:Rst) (T:List Int),vs=[.ref x,.ref y,.ref z,.ref tp]/\H tp=some (.tup (iV T))/\StepAt cs H x s/\RestAt CR H y r/\RestAt CR H z (s.behind r)/\
 s.winner < r.ls.length/\s.winner < r.ts.length/\s.winner < T.length/\(s.isHome=false->∀ p H',Same H H'->H' p=some (.lst [])->Q (.ref p) H')/\
 (s.isHome=true->∀ p q H',Same H H'->H' p=some (.lst [.ref q])->H' q=some (.tup (bandV ((s.behind r).size,r.ls.getD s.winner 0,T.getD s.winner 0,r.ts.getD s.winner false)))->Q (.ref p) H')
theorem scBandsL:FnScope ["step","rest","behind","towers","winner"] ["step","rest","behind","towers"] (J6 sBandsL):=fS
theorem ok_bandsL {f CR:Addr} {fd:FuncData} {cs:Kd->Addr} (F:Fun K "bands_left" "bands_left" sBandsL f fd) (TR:TxtRest K CR) (TS:TxtS K cs)
  (HW:∀ k,HasM P w K mg base CX0 1 "word" ["self"] (J39 k) (cs k)):FnOk P w K mg base CX0 2 f fd ["step","rest","behind","towers"] (spBandsL cs CR):=by
 refine F.ok scBandsL (fun vs H Q E h=>?_) (fun cdv A outer s H vs Q E hr h=>?_)
 ·obtain ⟨tp,x,y,z,s,r,Tl,rfl,_⟩:=h;rfl
 ·obtain ⟨tp,x,y,z,st,r,Tl,rfl,htp,⟨dx,hx⟩,R,Z,wl,wt,wT,k0,k1⟩:=h;have hr1:Room 1 _:=rm hr;obtain ⟨dy,fy,yt,yb,yl,yu,q0,⟨q1,q2,q3,q4,q5⟩,p1,p2,p3,p4⟩:=R.ex;obtain ⟨dz,fz,zt,zb,zl,zu,w0,⟨w1,w2,w3,w4,w5⟩,v1,v2,v3,v4⟩:=Z.ex;refine ⟨_,J1 (ps_if (Jm op_ne (pe_methD0 (sp:=J39) (cls:=cs) (pv 0) HW hr1 pass0) J4l (J14 _)) (J8 (Ji (J2p J2))) J16)
   (J1 (Jj (i:=4) scBandsL.nd rfl (Or.inl rfl) (Ja (pv 0) rfl))
   (J8 (Ji (J2p (pa_cons (J4k (pa_cons (Ja (pv 2) rfl) (pa_cons (pe_ix ix_tup (Ja (pv 1) rfl) (pv 4) (fun _ _=>rfl)) (pa_cons (pe_ix ix_tup (pv 3) (pv 4) (fun _ _=>rfl)) (pa_cons (pe_ix ix_tup (Ja (pv 1) rfl) (pv 4) (fun _ _=>rfl)) J2))))) J2))))),?_⟩
  refine ⟨_,rfl,x,kd st,dx,stF st,rfl,hx,stF_no _ (by decide +kernel) (by decide +kernel) (by decide +kernel),x,rfl,rfl,_,rfl,?_⟩;have hw:=home_word st;by_cases c:st.isHome=true
  ·refine iteBF (show ¬ (!decide (V.str (wordS (kd st))=V.str (Str.ofString "home")))=true by rw [hw,c];decide) ?_;refine ⟨_,rfl,x,cs (kd st),dx,stF st,_,rfl,hx,TS.cl _,TS.nW _,stF_w _,?_⟩;refine ⟨_,rfl,z,CR,dz,fz,_,rfl,w0,TR.cl,TR.nZ,w5,_,rfl,y,CR,dy,fy,_,rfl,q0,TR.cl,TR.nL,q3,_,rfl,yl,_,_,_,rfl,rfl,SqT.of p3,Jl (J2h wl),_,rfl,_,rfl,tp,_,_,_,rfl,rfl,SqT.of htp,Jl (J2h wT),
    _,rfl,y,CR,dy,fy,_,rfl,q0,TR.cl,TR.nU,q4,_,rfl,yu,_,_,_,rfl,rfl,SqT.of p4,Jl (bV_get wt),(by show 4<=sizeLine;decide),fun q hq=>⟨(by show 1<=sizeLine;decide),fun p hp=>?_⟩⟩
   exact k1 c p q _ ((J4 hq).trans (J4 hp)) J0 (J4 hp _ _ J0)
  ·refine iteBT (show (!decide (V.str (wordS (kd st))=V.str (Str.ofString "home")))=true by rw [hw];simpa using c) ?_;exact ⟨Nat.zero_le _,fun p hp=>k0 (by simpa using c) p _ (J4 hp) J0⟩
end
end R68
namespace R68
open PySem L2 Rl
section
theorem next_fit {r:Rst} (ok:r.Ok) (ne:r.top≠[]) (hz:r.size<=10 ^ 30):Fit (nextN r) r:=by
 have np:=nextP ok ne;refine ⟨ok,ok.next ne,np.win ok ne,fun b hb=>?_,Nat.lt_of_le_of_lt (np.times ok ne hz) (by decide),hz⟩;have mT:=ok.mT ne;have mB:=ok.mB ne;generalize nextN r=st at *;have inj:∀ {i j:Nat},V.int (i:Nat)=V.int (j:Nat)->i=j:=fun q=>by have:=V.int.inj q;omega
 cases st with
 | even a b'=>obtain rfl:=inj hb;obtain ⟨_,n2,n3,_⟩:=np;exact ⟨by rw [n2];exact mB,n3⟩
 | over a b'=>obtain rfl:=inj hb;obtain ⟨_,n2,n3,_⟩:=np;exact ⟨by rw [n2];exact mB,n3⟩
 | under a b'=>obtain rfl:=inj hb;obtain ⟨_,n2,n3,_⟩:=np;exact ⟨by rw [n2];exact mT,n3⟩
 | home a=>cases hb
 | overs a t=>cases hb
 | unders a t=>cases hb
end
section
variable {P:Program} {w:World} {K:Frag} {mg:Str->Option Value} {base:Heap}
structure TxtCh (K:Frag) (CH:Addr):Prop where
 cl:Cls K CH
 nL:NoAttr K CH "line"
 nR:NoAttr K CH "rests"
 nS:NoAttr K CH "steps"
 nT:NoAttr K CH "towers"
 nB:NoAttr K CH "bands"
abbrev bz:Band:=(0,0,0,false)
structure ChartAt (CH CR:Addr) (cs:Kd->Addr) (H:Hp) (x xl:Addr) (p0:Cst) (m:Nat):Prop where
 ex:∃ (dx:Addr) (fs:List (Str × V)) (pr ps pt pb:Addr) (xr xs xt xb:List V),H x=some (.ins CH dx fs)/\(fs.lookup ("line":Str)=some (.ref xl)/\fs.lookup ("rests":Str)=some (.ref pr)/\fs.lookup ("steps":Str)=some (.ref ps)/\fs.lookup ("towers":Str)=some (.ref pt)/\fs.lookup ("bands":Str)=some (.ref pb))/\
  (H pr=some (.tup xr)/\H ps=some (.tup xs)/\H pt=some (.tup xt)/\H pb=some (.tup xb))/\Refs (fun q i=>RestAt CR H q (chN p0 i).1) xr (m + 1)/\Refs (fun q i=>StepAt cs H q (nextN (chN p0 i).1)) xs m/\Refs (fun q i=>H q=some (.tup (iV (chN p0 i).2))) xt (m + 1)/\
  Refs (fun q i=>H q=some (.tup (bandV ((bndN p0 m).getD i bz)))) xb (bndN p0 m).length
theorem ChartAt.frz {CH CR:Addr} {cs:Kd->Addr} {H H':Hp} {x xl:Addr} {p0:Cst} {m:Nat} (h:ChartAt CH CR cs H x xl p0 m) (s:Frz H H'):ChartAt CH CR cs H' x xl p0 m:=by
 obtain ⟨dx,fs,pr,ps,pt,pb,xr,xs,xt,xb,h0,hl,⟨h1,h2,h3,h4⟩,r1,r2,r3,r4⟩:=h.ex;exact ⟨dx,fs,pr,ps,pt,pb,xr,xs,xt,xb,s _ _ h0 (fun _ e=>nomatch e),hl,⟨s _ _ h1 (fun _ e=>nomatch e),s _ _ h2 (fun _ e=>nomatch e),s _ _ h3 (fun _ e=>nomatch e),s _ _ h4 (fun _ e=>nomatch e)⟩,
  r1.mono fun q i _ a=>a.frz s,r2.mono fun q i _ a=>a.frz s,r3.mono fun q i _ a=>s _ _ a (fun _ e=>nomatch e),r4.mono fun q i _ a=>s _ _ a (fun _ e=>nomatch e)⟩
abbrev J37 (ls:List Int) (os:List Nat) (ts:List Bool):Cst:=(J42 ls os ts,List.replicate ls.length 1)
def spCInit (C CR CH:Addr) (cs:Kd->Addr):Sp:=fun vs H Q _=>∃ (x dx xl:Addr) (ls:List Int) (os:List Nat) (ts:List Bool),vs=[.ref x,.ref xl]/\H x=some (.ins CH dx [])/\LineAt C H xl ls os ts/\(J42 ls os ts).Ok/\(J42 ls os ts).size<=10 ^ 30/\1<=ls.length/\
 ∀ m H',Long (J37 ls os ts) m->(chN (J37 ls os ts) m).1.top=[]->ChartAt CH CR cs H' x xl (J37 ls os ts) m->KeepX x H H'->Q .non H'
theorem scCInit:FnScope ["self","line","rest","rests","steps","towers","bands","step","behind"] ["self","line"] (J6 sChInit):=fS
theorem line16:(6367451:Nat) + 5<=sizeLine:=by rw [sizeLine_eq];decide
theorem big_tow {p:Cst} (h:Cok p) (ne:p.1.top≠[]):CBig (p.2.getD (nextN p.1).winner 0) (nextN p.1).times:=by
 have w:=(nextP h.ok ne).win h.ok ne;have h1:=h.tow.le h.ok w;have h2:=h.tow.pos _ w;have h3:=(nextP h.ok ne).times h.ok ne h.size30;have e:(10:Nat) ^ 30 < 2 ^ 4000:=by decide
 exact ⟨Nat.lt_of_le_of_lt (show (p.2.getD (nextN p.1).winner 0).natAbs<=10 ^ 30 by omega) e,Nat.lt_of_le_of_lt h3 e⟩
theorem ok_cinit {f fRO fFT fN fBL fTB C CR CH:Addr} {fd fdRO fdFT fdN fdBL fdTB:FuncData} {cs:Kd->Addr} (F:Fun K "__init__" "Chart.__init__" sChInit f fd) (T:TxtR mg) (TR:TxtRest K CR) (TS:TxtS K cs) (TH:TxtCh K CH)
  (GRO:FnOk P w K mg base CX0 4 fRO fdRO ["line"] (spRestOf C CR)) (bRO:Binds K fdRO ["line"] []) (mRO:mg "rest_of"=some (.ref fRO)) (kRO:keepIn K (.ref fRO)=true)
  (GFT:FnOk P w K mg base CX0 1 fFT fdFT ["line"] (spFirstT C)) (bFT:Binds K fdFT ["line"] []) (mFT:mg "first_towers"=some (.ref fFT)) (kFT:keepIn K (.ref fFT)=true)
  (GN:FnOk P w K mg base CX0 5 fN fdN ["rest"] (spNext cs CR)) (bN:Binds K fdN ["rest"] []) (mN:mg "next_step"=some (.ref fN)) (kN:keepIn K (.ref fN)=true)
  (HB:∀ k,HasM P w K mg base CX0 4 "behind" ["self","rest"] (J1p cs CR k) (cs k))
  (GBL:FnOk P w K mg base CX0 2 fBL fdBL ["step","rest","behind","towers"] (spBandsL cs CR)) (bBL:Binds K fdBL ["step","rest","behind","towers"] []) (mBL:mg "bands_left"=some (.ref fBL)) (kBL:keepIn K (.ref fBL)=true)
  (GTB:FnOk P w K mg base CX0 3 fTB fdTB ["towers","step","rest","behind"] (spTowB cs CR)) (bTB:Binds K fdTB ["towers","step","rest","behind"] []) (mTB:mg "towers_behind"=some (.ref fTB)) (kTB:keepIn K (.ref fTB)=true) :
  FnOk P w K mg base CX0 6 f fd ["self","line"] (spCInit C CR CH cs):=by
 refine F.ok scCInit (fun vs H Q E h=>?_) (fun cdv A outer s H vs Q E hr h=>?_)
 ·obtain ⟨x,dx,xl,ls,os,ts,rfl,_⟩:=h;rfl
 ·obtain ⟨x,dx,xl,ls,os,ts,rfl,hx,L,ok0,hz0,h1,k⟩:=h;have hr1:Room 1 _:=rm hr;have hr2:Room 2 _:=rm hr;have hr3:Room 3 _:=rm hr;have hr4:Room 4 _:=rm hr;have hr5:Room 5 _:=rm hr;refine ⟨_,J1 (Jj (i:=2) scCInit.nd rfl (Or.inl rfl) (Jb GRO hr4 rfl mRO kRO bRO .nil pass0 (pa_cons (pv 1) J2)))
   (J1 (Jj (i:=3) scCInit.nd rfl (Or.inl rfl) (J2p (pa_cons (pv 2) J2)))
   (J1 (Jj (i:=4) scCInit.nd rfl (Or.inl rfl) (J2p J2))
   (J1 (Jj (i:=5) scCInit.nd rfl (Or.inl rfl) (J2p (pa_cons (Jb GFT hr1 rfl mFT kFT bFT .nil pass0 (pa_cons (pv 1) J2)) J2)))
   (J1 (Jj (i:=6) scCInit.nd rfl (Or.inl rfl) (J2p J2))
   (J1 (ps_while PassesOwn.never (Jm op_gt (Ja (pv 2) rfl) Je (J14 _))
    (J1 (Jj (i:=7) scCInit.nd rfl (Or.inl rfl) (Jb GN hr5 rfl mN kN bN .nil pass0 (pa_cons (pv 2) J2)))
    (J1 (Jj (i:=8) scCInit.nd rfl (Or.inl rfl) (J4m (sp:=J1p cs CR) (cls:=cs) (pv 7) HB hr4 pass0 (pa_cons (pv 2) J2)))
    (J1 (Jv (pe_bm PySem.F.plainAttrs_list PySem.F.slot_list_extend PySem.F.type_list_extend mt_extend (pv 6) (pa_cons (Jb GBL hr2 rfl mBL kBL bBL .nil pass0 (pa_cons (pv 7) (pa_cons (pv 2) (pa_cons (pv 8) (pa_cons (pe_ix ix_list (pv 5) (pe_un un_neg Je) (fun _ _=>rfl)) J2))))) J2)))
    (J1 (Jv (pe_bm PySem.F.plainAttrs_list PySem.F.slot_list_append PySem.F.type_list_append J1f (pv 5) (pa_cons (Jb GTB hr3 rfl mTB kTB bTB .nil pass0 (pa_cons (pe_ix ix_list (pv 5) (pe_un un_neg Je) (fun _ _=>rfl)) (pa_cons (pv 7) (pa_cons (pv 2) (pa_cons (pv 8) J2))))) J2)))
    (J1 (Jv (pe_bm PySem.F.plainAttrs_list PySem.F.slot_list_append PySem.F.type_list_append J1f (pv 4) (pa_cons (pv 7) J2)))
    (J1 (Jv (pe_bm PySem.F.plainAttrs_list PySem.F.slot_list_append PySem.F.type_list_append J1f (pv 3) (pa_cons (pv 8) J2)))
    (J8 (Jj (i:=2) scCInit.nd rfl (Or.inl rfl) (pv 8))))))))))
   (J1 (J1q (pv 0) (pv 1) rfl)
   (J1 (J1q (pv 0) (Jd J10 (by rfl) T.tuple boot_tuple (pa_cons (pv 3) J2)) rfl)
   (J1 (J1q (pv 0) (Jd J10 (by rfl) T.tuple boot_tuple (pa_cons (pv 4) J2)) rfl)
   (J1 (J1q (pv 0) (Jd J10 (by rfl) T.tuple boot_tuple (pa_cons (pv 5) J2)) rfl)
   (J8 (J1q (pv 0) (Jd J10 (by rfl) T.tuple boot_tuple (pa_cons (pv 6) J2)) rfl))))))))))),?_⟩
  have few:=ok0.few;have cok0:Cok (J37 ls os ts):=whole_cok ok0 hz0;refine ⟨_,rfl,xl,ls,os,ts,rfl,L,few,fun y0 Hr sr R0=>?_⟩;refine ⟨_,rfl,(by show 1<=sizeLine;decide),fun lr hlr=>⟨Nat.zero_le _,fun lq hlq=>?_⟩⟩;have sa:=J4 (o:=.lst [V.ref y0]) hlr;have sb:=sa.trans (J4 (o:=.lst []) hlq);refine ⟨_,rfl,xl,ls,os,ts,rfl,(L.same sr).same sb,h1,few,fun t0 Ht st ht0=>⟨(by show 1<=sizeLine;decide),fun lt hlt=>⟨Nat.zero_le _,fun lb hlb=>?_⟩⟩⟩;have sc:=sb.trans st;have sd:=J4 (o:=.lst [V.ref t0]) hlt;have se:=J4 (o:=.lst []) hlb;have sf:=(sc.trans sd).trans se;have fr_r:Hr lr=none:=hlr;have fr_q:Hr lq=none:=sa.free hlq;have fr_t:Hr lt=none:=sc.free hlt;have fr_b:Hr lb=none:=(sc.trans sd).free hlb;have n_qr:lq≠lr:=fun e=>by rw [e,J0] at hlq;cases hlq
  have hr_t:Ht lr=some (.lst [V.ref y0]):=st _ _ (J4 (o:=.lst []) hlq _ _ J0);have hq_t:Ht lq=some (.lst []):=st _ _ J0;have n_rt:lr≠lt:=J7 hr_t hlt;have n_qt:lq≠lt:=J7 hq_t hlt;have n_rb:lr≠lb:=J7 (sd _ _ hr_t) hlb;have n_qb:lq≠lb:=J7 (sd _ _ hq_t) hlb;have n_tb:lt≠lb:=J7 (J0 (H:=Ht) (a:=lt) (o:=.lst [V.ref t0])) hlb;have gr:(upd (upd Ht lt (.lst [V.ref t0])) lb (.lst [])) lr=some (.lst [V.ref y0]):=se _ _ (sd _ _ hr_t);have gq:(upd (upd Ht lt (.lst [V.ref t0])) lb (.lst [])) lq=some (.lst []):=se _ _ (sd _ _ hq_t);have gt:(upd (upd Ht lt (.lst [V.ref t0])) lb (.lst [])) lt=some (.lst [V.ref t0]):=se _ _ J0;have gb:(upd (upd Ht lt (.lst [V.ref t0])) lb (.lst [])) lb=some (.lst []):=J0;have gy:=R0.same sf;have g0:(upd (upd Ht lt (.lst [V.ref t0])) lb (.lst [])) t0=some (.tup (iV (List.replicate ls.length 1))):=se _ _ (sd _ _ ht0);generalize (upd (upd Ht lt (.lst [V.ref t0])) lb (.lst []))=Hs at *;generalize hp0:J37 ls os ts=p0 at *;have e0:J42 ls os ts=(chN p0 0).1:=by rw [<- hp0];rfl
  have e1:List.replicate ls.length 1=(chN p0 0).2:=by rw [<- hp0];rfl
  rw [e0] at gy;rw [e1] at g0;clear R0 hr_t hq_t ht0 hlr hlq hlt hlb;have hxr:=sr _ _ hx;refine ⟨fun m σ Hw=>∃ (i:Nat) (y:Addr) (xr xs xt xb:List V) (v7 v8:Option V),σ=[some (.ref x),some (.ref xl),some (.ref y),some (.ref lr),some (.ref lq),some (.ref lt),some (.ref lb),v7,v8]/\Long p0 i/\RestAt CR Hw y (chN p0 i).1/\Same Hr Hw/\
    (Hw lr=some (.lst xr)/\Hw lq=some (.lst xs)/\Hw lt=some (.lst xt)/\Hw lb=some (.lst xb))/\Refs (fun q i=>RestAt CR Hw q (chN p0 i).1) xr (i + 1)/\Refs (fun q i=>StepAt cs Hw q (nextN (chN p0 i).1)) xs i/\Refs (fun q i=>Hw q=some (.tup (iV (chN p0 i).2))) xt (i + 1)/\
    Refs (fun q j=>Hw q=some (.tup (bandV ((bndN p0 i).getD j bz)))) xb (bndN p0 i).length/\m=(chN p0 i).1.size.toNat,
   ⟨_,0,y0,_,_,_,_,none,none,rfl,(fun i hi=>absurd hi (Nat.not_lt_zero _)),gy,sf,⟨gr,gq,gt,gb⟩,Refs.nil.snoc gy,Refs.nil,Refs.nil.snoc g0,Refs.nil,rfl⟩,?_⟩
  rintro m σ Hw ⟨i,y,xr,xs,xt,xb,v7,v8,rfl,lg,R,sw,⟨hr_,hq_,ht_,hb_⟩,rr,rs,rt,rb,rfl⟩;obtain ⟨dy,fy,yt,yb,yl,yu,q0,⟨q1,q2,q3,q4,q5⟩,p1,p2,p3,p4⟩:=R.ex;have cok:=cok0.at_ lg;have few_i:=cok0.few lg;refine ⟨_,rfl,y,CR,dy,fy,_,rfl,q0,TR.cl,TR.nZ,q5,_,_,rfl,rfl,_,rfl,?_⟩;by_cases c:(chN p0 i).1.top=[]
  ·have sz:(chN p0 i).1.size=0:=by unfold Rst.size;rw [c];rfl
   refine iteD (by rw [sz];decide) ?_;have hxw:=sw _ _ hxr;have hxw':Hw x=some (.ins CH dx []):=hxw;refine ⟨_,rfl,_,rfl,x,CH,dx,[],rfl,hxw',TH.cl,TH.nL,(by show 0 < 1000;decide),?_⟩;generalize hfs1:putF ("line":Str) (.ref xl) []=fs1;generalize hH2:upd Hw x (.ins CH dx fs1)=H2;have l1:fs1.length<=1:=by rw [<- hfs1];exact Jf ..
   have k2:KeepX x Hw H2:=by rw [<- hH2];exact KeepX.upd
   have hx2:H2 x=some (.ins CH dx fs1):=by rw [<- hH2];exact J0
   have nr:lr≠x:=ne_of hr_ hxw' (by intro z;cases z);have nq:lq≠x:=ne_of hq_ hxw' (by intro z;cases z);have nt:lt≠x:=ne_of ht_ hxw' (by intro z;cases z);have nb:lb≠x:=ne_of hb_ hxw' (by intro z;cases z);refine ⟨_,rfl,J13 (.inl (k2 _ _ hr_ nr)) fun pr H3 s3 hpr=>⟨_,rfl,x,CH,dx,fs1,rfl,s3 _ _ hx2,TH.cl,TH.nR,(by omega),?_⟩⟩;generalize hfs2:putF ("rests":Str) (.ref pr) fs1=fs2;generalize hH4:upd H3 x (.ins CH dx fs2)=H4;have l2:fs2.length<=2:=by rw [<- hfs2];have:=Jf ("rests":Str) (.ref pr) fs1;omega
   have k24:KeepX x H2 H4:=by rw [<- hH4];exact (KeepX.of s3).trans KeepX.upd
   have k4:KeepX x Hw H4:=k2.trans k24;have hx4:H4 x=some (.ins CH dx fs2):=by rw [<- hH4];exact J0
   have prx:pr≠x:=ne_of hpr (s3 _ _ hx2) (by intro z;cases z);have hpr4:H4 pr=some (.tup xr):=by rw [<- hH4,J9 prx];exact hpr
   refine ⟨_,rfl,J13 (.inl (k4 _ _ hq_ nq)) fun ps H5 s5 hps=>⟨_,rfl,x,CH,dx,fs2,rfl,s5 _ _ hx4,TH.cl,TH.nS,(by omega),?_⟩⟩;generalize hfs3:putF ("steps":Str) (.ref ps) fs2=fs3;generalize hH6:upd H5 x (.ins CH dx fs3)=H6;have l3:fs3.length<=3:=by rw [<- hfs3];have:=Jf ("steps":Str) (.ref ps) fs2;omega
   have k46:KeepX x H4 H6:=by rw [<- hH6];exact (KeepX.of s5).trans KeepX.upd
   have k6:KeepX x Hw H6:=k4.trans k46;have hx6:H6 x=some (.ins CH dx fs3):=by rw [<- hH6];exact J0
   have psx:ps≠x:=ne_of hps (s5 _ _ hx4) (by intro z;cases z);have hps6:H6 ps=some (.tup xs):=by rw [<- hH6,J9 psx];exact hps
   refine ⟨_,rfl,J13 (.inl (k6 _ _ ht_ nt)) fun pt H7 s7 hpt=>⟨_,rfl,x,CH,dx,fs3,rfl,s7 _ _ hx6,TH.cl,TH.nT,(by omega),?_⟩⟩;generalize hfs4:putF ("towers":Str) (.ref pt) fs3=fs4;generalize hH8:upd H7 x (.ins CH dx fs4)=H8;have l4:fs4.length<=4:=by rw [<- hfs4];have:=Jf ("towers":Str) (.ref pt) fs3;omega
   have k68:KeepX x H6 H8:=by rw [<- hH8];exact (KeepX.of s7).trans KeepX.upd
   have k8:KeepX x Hw H8:=k6.trans k68;have hx8:H8 x=some (.ins CH dx fs4):=by rw [<- hH8];exact J0
   have ptx:pt≠x:=ne_of hpt (s7 _ _ hx6) (by intro z;cases z);have hpt8:H8 pt=some (.tup xt):=by rw [<- hH8,J9 ptx];exact hpt
   have lkL:fs4.lookup ("line":Str)=some (.ref xl):=by rw [<- hfs4,lk_ne (by decide +kernel),<- hfs3,lk_ne (by decide +kernel),<- hfs2,lk_ne (by decide +kernel),<- hfs1,Jz]
   have lkR:fs4.lookup ("rests":Str)=some (.ref pr):=by rw [<- hfs4,lk_ne (by decide +kernel),<- hfs3,lk_ne (by decide +kernel),<- hfs2,Jz]
   have lkS:fs4.lookup ("steps":Str)=some (.ref ps):=by rw [<- hfs4,lk_ne (by decide +kernel),<- hfs3,Jz]
   have lkT:fs4.lookup ("towers":Str)=some (.ref pt):=by rw [<- hfs4,Jz]
   refine ⟨_,rfl,J13 (.inl (k8 _ _ hb_ nb)) fun pb H9 s9 hpb=>⟨_,rfl,x,CH,dx,fs4,rfl,s9 _ _ hx8,TH.cl,TH.nB,(by omega),?_⟩⟩;have k8z:KeepX x H8 (upd H9 x (.ins CH dx (putF ("bands":Str) (.ref pb) fs4))):=(KeepX.of s9).trans KeepX.upd;have kz:KeepX x Hw (upd H9 x (.ins CH dx (putF ("bands":Str) (.ref pb) fs4))):=k8.trans k8z;have pbx:pb≠x:=ne_of hpb (s9 _ _ hx8) (by intro z;cases z);have zb:(upd H9 x (.ins CH dx (putF ("bands":Str) (.ref pb) fs4))) pb=some (.tup xb):=by rw [J9 pbx];exact hpb
   have zx:(upd H9 x (.ins CH dx (putF ("bands":Str) (.ref pb) fs4))) x=some (.ins CH dx (putF ("bands":Str) (.ref pb) fs4)):=J0;generalize (upd H9 x (.ins CH dx (putF ("bands":Str) (.ref pb) fs4)))=Hz at *;have keepR:∀ q r,RestAt CR Hw q r->RestAt CR Hz q r:=fun q r a=>by
    obtain ⟨dq,fq,q1,q2,q3,q4,a0,al,a1,a2,a3,a4⟩:=a.ex;have nx:∀ {b:Addr} {zs:List V},Hw b=some (.tup zs)->Hz b=some (.tup zs):=fun e=>kz _ _ e (ne_of e hxw' (by intro z;cases z));refine ⟨dq,fq,q1,q2,q3,q4,kz _ _ a0 (fun e=>?_),al,nx a1,nx a2,nx a3,nx a4⟩;rw [e,hxw'] at a0;have:=(Option.some.inj a0);injection this with _ _ e3
    rw [<- e3] at al;exact nomatch al.1
   have keepS:∀ q s,StepAt cs Hw q s->StepAt cs Hz q s:=fun q s ⟨dq,a⟩=>⟨dq,kz _ _ a (fun e=>by
    rw [e,hxw'] at a;have:=(Option.some.inj a);injection this with _ _ e3
    have w:=stF_w s;rw [<- e3] at w;exact nomatch w)⟩
   have keepT:∀ (q:Addr) (zs:List V),Hw q=some (.tup zs)->Hz q=some (.tup zs):=fun q zs a=>kz _ _ a (ne_of a hxw' (by intro z;cases z));refine k i Hz lg c ⟨dx,_,pr,ps,pt,pb,xr,xs,xt,xb,zx,⟨by rw [lk_ne (by decide +kernel),lkL],by rw [lk_ne (by decide +kernel),lkR],by rw [lk_ne (by decide +kernel),lkS],by rw [lk_ne (by decide +kernel),lkT],Jz⟩,
    ⟨k8z _ _ (k68 _ _ (k46 _ _ hpr4 prx) prx) prx,k8z _ _ (k68 _ _ hps6 psx) psx,k8z _ _ hpt8 ptx,zb⟩,rr.mono fun q j _ a=>keepR _ _ a,rs.mono fun q j _ a=>keepS _ _ a,rt.mono fun q j _ a=>keepT _ _ a,rb.mono fun q j _ a=>keepT _ _ a⟩ ?_
   exact (KeepX.of (sr.trans sw)).trans kz
  ·have szp:0 < (chN p0 i).1.size:=by
    have:=J4r cok.ok.row.pos c;show 0 < lenOf _ _;omega
   refine iteDT szp ?_;have down:=cok.ok.down c;have win:=(nextP cok.ok c).win cok.ok c;have hz:=cok.size30;have fit:=next_fit cok.ok c hz;have tlen:=cok.tow.len;have wl:=cok.ok.row.lt _ win;have big:=big_tow cok c;have lg':Long p0 (i + 1):=fun j hj=>by
    by_cases e:j=i
    ·subst e;exact c
    ·exact lg j (by omega)
   have few':=cok0.few lg';obtain ⟨tq,etq,htq⟩:=rt.at_ i (by omega);have last:=atI_last rt.len etq;have l16:=line16;have bl:=bndN_len p0 i;refine ⟨_,fun σ' H' h=>h,?_⟩;refine ⟨_,rfl,y,(chN p0 i).1,rfl,R,cok.ok,c,hz,fun xp Hn sn h9=>?_⟩;obtain ⟨dxp,hxp⟩:=h9;refine ⟨_,rfl,xp,kd (nextN (chN p0 i).1),dxp,stF (nextN (chN p0 i).1),rfl,hxp,stF_no _ (by decide +kernel) (by decide +kernel) (by decide +kernel),_,rfl,xp,y,nextN (chN p0 i).1,(chN p0 i).1,rfl,rfl,⟨dxp,hxp⟩,R.same sn,fit,fun z Hb sbh Z=>?_⟩;have Z:RestAt CR Hb z (chN p0 (i + 1)).1:=Z;have snb:=sn.trans sbh;have X1:StepAt cs Hb xp (nextN (chN p0 i).1):=⟨dxp,sbh _ _ hxp⟩;have ht1:=snb _ _ ht_;have hb1:=snb _ _ hb_;have go:∀ (Hc:Hp) (zb:List V),Frz Hb Hc->Same Hr Hc->Hc lr=some (.lst xr)->Hc lq=some (.lst xs)->Hc lt=some (.lst xt)->Hc lb=some (.lst zb)->Refs (fun q j=>Hc q=some (.tup (bandV ((bndN p0 (i + 1)).getD j bz)))) zb (bndN p0 (i + 1)).length->
     ∀ (tq2:Addr) (Hd:Hp),Same Hc Hd->Hd tq2=some (.tup (iV (chN p0 (i + 1)).2))->
     (∃ m',m' < (chN p0 i).1.size.toNat/\∃ (i':Nat) (y':Addr) (xr' xs' xt' xb':List V) (v7 v8:Option V),[some (V.ref x),some (.ref xl),some (.ref z),some (.ref lr),some (.ref lq),some (.ref lt),some (.ref lb),some (.ref xp),some (.ref z)]=[some (.ref x),some (.ref xl),some (.ref y'),some (.ref lr),some (.ref lq),some (.ref lt),some (.ref lb),v7,v8]/\Long p0 i'/\RestAt CR (upd (upd (upd Hd lt (.lst (xt ++ [.ref tq2]))) lq (.lst (xs ++ [.ref xp]))) lr (.lst (xr ++ [.ref z]))) y' (chN p0 i').1/\Same Hr (upd (upd (upd Hd lt (.lst (xt ++ [.ref tq2]))) lq (.lst (xs ++ [.ref xp]))) lr (.lst (xr ++ [.ref z])))/\
      ((upd (upd (upd Hd lt (.lst (xt ++ [.ref tq2]))) lq (.lst (xs ++ [.ref xp]))) lr (.lst (xr ++ [.ref z]))) lr=some (.lst xr')/\(upd (upd (upd Hd lt (.lst (xt ++ [.ref tq2]))) lq (.lst (xs ++ [.ref xp]))) lr (.lst (xr ++ [.ref z]))) lq=some (.lst xs')/\(upd (upd (upd Hd lt (.lst (xt ++ [.ref tq2]))) lq (.lst (xs ++ [.ref xp]))) lr (.lst (xr ++ [.ref z]))) lt=some (.lst xt')/\(upd (upd (upd Hd lt (.lst (xt ++ [.ref tq2]))) lq (.lst (xs ++ [.ref xp]))) lr (.lst (xr ++ [.ref z]))) lb=some (.lst xb'))/\
      Refs (fun q i=>RestAt CR (upd (upd (upd Hd lt (.lst (xt ++ [.ref tq2]))) lq (.lst (xs ++ [.ref xp]))) lr (.lst (xr ++ [.ref z]))) q (chN p0 i).1) xr' (i' + 1)/\Refs (fun q i=>StepAt cs (upd (upd (upd Hd lt (.lst (xt ++ [.ref tq2]))) lq (.lst (xs ++ [.ref xp]))) lr (.lst (xr ++ [.ref z]))) q (nextN (chN p0 i).1)) xs' i'/\Refs (fun q i=>(upd (upd (upd Hd lt (.lst (xt ++ [.ref tq2]))) lq (.lst (xs ++ [.ref xp]))) lr (.lst (xr ++ [.ref z]))) q=some (.tup (iV (chN p0 i).2))) xt' (i' + 1)/\
      Refs (fun q j=>(upd (upd (upd Hd lt (.lst (xt ++ [.ref tq2]))) lq (.lst (xs ++ [.ref xp]))) lr (.lst (xr ++ [.ref z]))) q=some (.tup (bandV ((bndN p0 i').getD j bz)))) xb' (bndN p0 i').length/\m'=(chN p0 i').1.size.toNat):=by
    intro Hc zb fc src cr cq ct cb rbc tq2 Hd sd2 htq2;have dr:=sd2 _ _ cr;have dq:=sd2 _ _ cq;have dt:=sd2 _ _ ct;have db:=sd2 _ _ cb;have f1:Frz Hd (upd Hd lt (.lst (xt ++ [.ref tq2]))):=Frz.upd dt;have f2:Frz (upd Hd lt (.lst (xt ++ [.ref tq2]))) (upd (upd Hd lt (.lst (xt ++ [.ref tq2]))) lq (.lst (xs ++ [.ref xp]))):=Frz.upd (xs:=xs) (by rw [J9 n_qt];exact dq);have f3:Frz (upd (upd Hd lt (.lst (xt ++ [.ref tq2]))) lq (.lst (xs ++ [.ref xp]))) (upd (upd (upd Hd lt (.lst (xt ++ [.ref tq2]))) lq (.lst (xs ++ [.ref xp]))) lr (.lst (xr ++ [.ref z]))):=Frz.upd (xs:=xr) (by rw [J9 (Ne.symm n_qr),J9 n_rt];exact dr);have fde:=(f1.trans f2).trans f3;have sre:Same Hr (upd (upd (upd Hd lt (.lst (xt ++ [.ref tq2]))) lq (.lst (xs ++ [.ref xp]))) lr (.lst (xr ++ [.ref z]))):=fun b o e=>by
     rw [J9 (J7 e fr_r),J9 (J7 e fr_q),J9 (J7 e fr_t)];exact sd2 _ _ (src _ _ e)
    have er:(upd (upd (upd Hd lt (.lst (xt ++ [.ref tq2]))) lq (.lst (xs ++ [.ref xp]))) lr (.lst (xr ++ [.ref z]))) lr=some (.lst (xr ++ [.ref z])):=J0;have eq:(upd (upd (upd Hd lt (.lst (xt ++ [.ref tq2]))) lq (.lst (xs ++ [.ref xp]))) lr (.lst (xr ++ [.ref z]))) lq=some (.lst (xs ++ [.ref xp])):=by rw [J9 n_qr,J0]
    have et:(upd (upd (upd Hd lt (.lst (xt ++ [.ref tq2]))) lq (.lst (xs ++ [.ref xp]))) lr (.lst (xr ++ [.ref z]))) lt=some (.lst (xt ++ [.ref tq2])):=by rw [J9 (Ne.symm n_rt),J9 (Ne.symm n_qt),J0]
    have eb:(upd (upd (upd Hd lt (.lst (xt ++ [.ref tq2]))) lq (.lst (xs ++ [.ref xp]))) lr (.lst (xr ++ [.ref z]))) lb=some (.lst zb):=by rw [J9 (Ne.symm n_rb),J9 (Ne.symm n_qb),J9 (Ne.symm n_tb)];exact db
    generalize (upd (upd (upd Hd lt (.lst (xt ++ [.ref tq2]))) lq (.lst (xs ++ [.ref xp]))) lr (.lst (xr ++ [.ref z])))=He at *;have fwe:Frz Hw He:=((((Frz.of snb).trans fc).trans (Frz.of sd2)).trans fde);have fbe:Frz Hb He:=((fc).trans (Frz.of sd2)).trans fde;have Ze:=Z.frz fbe;refine ⟨(chN p0 (i + 1)).1.size.toNat,?_,i + 1,z,_,_,_,_,_,_,rfl,lg',Ze,sre,⟨er,eq,et,eb⟩,(rr.mono fun q j _ a=>a.frz fwe).snoc Ze,(rs.mono fun q j _ a=>a.frz fwe).snoc (X1.frz fbe),(rt.mono fun q j _ a=>fwe _ _ a (fun _ e=>nomatch e)).snoc (fde _ _ htq2 (fun _ e=>nomatch e)),rbc.mono fun q j _ a=>((Frz.of sd2).trans fde) _ _ a (fun _ e=>nomatch e),rfl⟩;have:=down.less;have e:(chN p0 (i + 1)).1.size=((nextN (chN p0 i).1).behind (chN p0 i).1).size:=rfl;rw [e];omega
   refine ⟨_,rfl,.inl ⟨rfl,_,SqL.of hb1⟩,_,rfl,_,rfl,_,rfl,_,rfl,_,rfl,lt,_,_,_,rfl,rfl,SqL.of ht1,last,tq,xp,y,z,nextN (chN p0 i).1,(chN p0 i).1,(chN p0 i).2,rfl,snb _ _ htq,X1,R.same snb,Z,wl,(by rw [cok.ok.len];exact wl),(by rw [tlen];exact wl),fun hh bp Hc0 sc0 hbp=>?_,fun hh bp bq Hc0 sc0 hbp hbq=>?_⟩
   ·have eB:bndN p0 (i + 1)=bndN p0 i:=by
     show bndN p0 i ++ bndB (chN p0 i)=_;unfold bndB;rw [if_neg (by rw [hh];decide),append_nil]
    have hb2:=sc0 _ _ hb1;refine ⟨lb,bp,xb,[],rfl,rfl,hb2,hbp,(by rw [rb.len];show _ + 0<=_;omega),?_⟩;have fc:Frz Hb (upd Hc0 lb (.lst (xb ++ []))):=(Frz.of sc0).trans (Frz.upd hb2);have src:Same Hr (upd Hc0 lb (.lst (xb ++ []))):=fun b o e=>by
     rw [J9 (J7 e fr_b)];exact sc0 _ _ (snb _ _ (sw _ _ e))
    have cr:(upd Hc0 lb (.lst (xb ++ []))) lr=some (.lst xr):=by rw [J9 n_rb];exact sc0 _ _ (snb _ _ hr_)
    have cq:(upd Hc0 lb (.lst (xb ++ []))) lq=some (.lst xs):=by rw [J9 n_qb];exact sc0 _ _ (snb _ _ hq_)
    have ct:(upd Hc0 lb (.lst (xb ++ []))) lt=some (.lst xt):=by rw [J9 n_tb];exact sc0 _ _ ht1
    have cb:(upd Hc0 lb (.lst (xb ++ []))) lb=some (.lst (xb ++ [])):=J0;generalize (upd Hc0 lb (.lst (xb ++ [])))=Hc at *;have rbc:Refs (fun q j=>Hc q=some (.tup (bandV ((bndN p0 (i + 1)).getD j bz)))) (xb ++ []) (bndN p0 (i + 1)).length:=by
     rw [eB,append_nil];exact rb.mono fun q j _ a=>((Frz.of snb).trans fc) _ _ a (fun _ e=>nomatch e)
    refine ⟨_,rfl,.inl ⟨rfl,_,SqL.of ct⟩,_,rfl,_,rfl,lt,_,_,_,rfl,rfl,SqL.of ct,last,_,rfl,_,rfl,_,rfl,tq,xp,y,z,nextN (chN p0 i).1,(chN p0 i).1,(chN p0 i).2,rfl,((Frz.of snb).trans fc) _ _ htq (fun _ e=>nomatch e),X1.frz fc,R.frz ((Frz.of snb).trans fc),Z.frz fc,win,cok.ok.perm.mem_iff.mpr win,(by rw [tlen];exact wl),(by rw [tlen];exact cok.ok.few),big,fun tq2 Hd sd2 htq2=>?_⟩;refine ⟨lt,_,_,rfl,rfl,sd2 _ _ ct,(by rw [rt.len];omega),?_⟩;refine ⟨_,rfl,.inl ⟨rfl,_,SqL.of (xs:=xs) (by rw [J9 n_qt];exact sd2 _ _ cq)⟩,_,rfl,lq,xs,_,rfl,rfl,(by rw [J9 n_qt];exact sd2 _ _ cq),(by rw [rs.len];omega),?_⟩;refine ⟨_,rfl,.inl ⟨rfl,_,SqL.of (xs:=xr) (by rw [J9 (Ne.symm n_qr),J9 n_rt];exact sd2 _ _ cr)⟩,_,rfl,lr,xr,_,rfl,rfl,(by rw [J9 (Ne.symm n_qr),J9 n_rt];exact sd2 _ _ cr),(by rw [rr.len];omega),?_⟩;exact ⟨_,rfl,go Hc _ fc src cr cq ct cb rbc tq2 Hd sd2 htq2⟩
   ·have eB:bndN p0 (i + 1)=bndN p0 i ++ [((chS (chN p0 i)).1.size,(chN p0 i).1.ls.getD (nextN (chN p0 i).1).winner 0,(chN p0 i).2.getD (nextN (chN p0 i).1).winner 0,(chN p0 i).1.ts.getD (nextN (chN p0 i).1).winner false)]:=by
     show bndN p0 i ++ bndB (chN p0 i)=_;unfold bndB;rw [if_pos hh]
    have hb2:=sc0 _ _ hb1;refine ⟨lb,bp,xb,[.ref bq],rfl,rfl,hb2,hbp,(by rw [rb.len];show _ + 1<=_;omega),?_⟩;have fc:Frz Hb (upd Hc0 lb (.lst (xb ++ [.ref bq]))):=(Frz.of sc0).trans (Frz.upd hb2);have fq:(upd Hc0 lb (.lst (xb ++ [.ref bq]))) bq=_:=(Frz.upd (ys:=xb ++ [.ref bq]) hb2) _ _ hbq (fun _ e=>nomatch e);have src:Same Hr (upd Hc0 lb (.lst (xb ++ [.ref bq]))):=fun b o e=>by
     rw [J9 (J7 e fr_b)];exact sc0 _ _ (snb _ _ (sw _ _ e))
    have cr:(upd Hc0 lb (.lst (xb ++ [.ref bq]))) lr=some (.lst xr):=by rw [J9 n_rb];exact sc0 _ _ (snb _ _ hr_)
    have cq:(upd Hc0 lb (.lst (xb ++ [.ref bq]))) lq=some (.lst xs):=by rw [J9 n_qb];exact sc0 _ _ (snb _ _ hq_)
    have ct:(upd Hc0 lb (.lst (xb ++ [.ref bq]))) lt=some (.lst xt):=by rw [J9 n_tb];exact sc0 _ _ ht1
    have cb:(upd Hc0 lb (.lst (xb ++ [.ref bq]))) lb=some (.lst (xb ++ [.ref bq])):=J0;generalize (upd Hc0 lb (.lst (xb ++ [.ref bq])))=Hc at *;have rbc:Refs (fun q j=>Hc q=some (.tup (bandV ((bndN p0 (i + 1)).getD j bz)))) (xb ++ [.ref bq]) (bndN p0 (i + 1)).length:=by
     have r1:Refs (fun q j=>Hc q=some (.tup (bandV ((bndN p0 (i + 1)).getD j bz)))) xb (bndN p0 i).length:=rb.mono fun q j hj a=>by
      have e:(bndN p0 (i + 1)).getD j bz=(bndN p0 i).getD j bz:=by
       rw [eB,getD_eq_getElem?_getD,getElem?_append_left hj];exact (getD_eq_getElem?_getD ..).symm
      rw [e];exact ((Frz.of snb).trans fc) _ _ a (fun _ e=>nomatch e)
     have e2:(bndN p0 (i + 1)).length=(bndN p0 i).length + 1:=by rw [eB,length_append];rfl
     rw [e2];refine r1.snoc ?_;have e:(bndN p0 (i + 1)).getD (bndN p0 i).length bz=((chS (chN p0 i)).1.size,(chN p0 i).1.ls.getD (nextN (chN p0 i).1).winner 0,(chN p0 i).2.getD (nextN (chN p0 i).1).winner 0,(chN p0 i).1.ts.getD (nextN (chN p0 i).1).winner false):=by
      rw [eB,getD_eq_getElem?_getD,getElem?_append_right (Nat.le_refl _),Nat.sub_self];rfl
     rw [e];exact fq
    refine ⟨_,rfl,.inl ⟨rfl,_,SqL.of ct⟩,_,rfl,_,rfl,lt,_,_,_,rfl,rfl,SqL.of ct,last,_,rfl,_,rfl,_,rfl,tq,xp,y,z,nextN (chN p0 i).1,(chN p0 i).1,(chN p0 i).2,rfl,((Frz.of snb).trans fc) _ _ htq (fun _ e=>nomatch e),X1.frz fc,R.frz ((Frz.of snb).trans fc),Z.frz fc,win,cok.ok.perm.mem_iff.mpr win,(by rw [tlen];exact wl),(by rw [tlen];exact cok.ok.few),big,fun tq2 Hd sd2 htq2=>?_⟩;refine ⟨lt,_,_,rfl,rfl,sd2 _ _ ct,(by rw [rt.len];omega),?_⟩;refine ⟨_,rfl,.inl ⟨rfl,_,SqL.of (xs:=xs) (by rw [J9 n_qt];exact sd2 _ _ cq)⟩,_,rfl,lq,xs,_,rfl,rfl,(by rw [J9 n_qt];exact sd2 _ _ cq),(by rw [rs.len];omega),?_⟩;refine ⟨_,rfl,.inl ⟨rfl,_,SqL.of (xs:=xr) (by rw [J9 (Ne.symm n_qr),J9 n_rt];exact sd2 _ _ cr)⟩,_,rfl,lr,xr,_,rfl,rfl,(by rw [J9 (Ne.symm n_qr),J9 n_rt];exact sd2 _ _ cr),(by rw [rr.len];omega),?_⟩;exact ⟨_,rfl,go Hc _ fc src cr cq ct cb rbc tq2 Hd sd2 htq2⟩
theorem sIx_m1 (n d:Nat) (h:1<=n):HT.sIx n d (some (-1))=n - 1:=by
 show (if (-1:Int) < 0 then ((-1:Int) + (n:Int)).toNat else min (-1:Int).toNat n)=n - 1;rw [if_pos (by decide)];omega
theorem insV (os:List Nat) (i y:Nat):(nV os).take i ++ V.int (y:Int) :: (nV os).drop i=nV (insAt os i y):=by
 show ((os.map fun (n:Nat)=>(n:Int)).map V.int).take i ++ V.int (y:Int) :: ((os.map fun (n:Nat)=>(n:Int)).map V.int).drop i=((insAt os i y).map fun (n:Nat)=>(n:Int)).map V.int;unfold insAt;simp only [map_append,map_cons,List.map_take,List.map_drop]
theorem ints_inj {a b:List Int} (h:iV a=iV b):a=b:=(List.map_inj_right fun x y e=>V.int.inj e).mp h
def spRefOE (CB:Addr):Sp:=fun vs H Q E=>∃ (q:Addr) (xs:List Int) (n:Nat),vs=[.ref q,.int n]/\SqH H q (iV xs)/\xs.length < 64/\n<=100/\(OrdX xs n->∀ H',Same H H'->Q .non H')/\(¬ OrdX xs n->∀ H',Same H H'->E (.ref CB) none H')
theorem scRefOE:FnScope ["order","pieces"] ["order","pieces"] (J6 sRefO):=fS
theorem ok_refOE {f  CB : Addr} {fd  : FuncData}  (F : Fun K "refuse_order" "refuse_order" sRefO f fd) (T : TxtR mg) (hsorted : mg "sorted" = none) (TB : TxtX K mg "BadOrder" CB)
 :
    FnOk P w K mg base (Exc1 P w) 1 f fd ["order", "pieces"] (spRefOE CB) := by
  refine F.okX scRefOE (fun vs H Q E h => ?_) (fun cdv A outer s H vs Q E hr h => ?_)
  · obtain ⟨q, xs, n, rfl, _⟩ := h
    rfl
  · obtain ⟨q, xs, n, rfl, hq, hx, hn, kg, kb⟩ := h
    have hu := hr.units0;refine ⟨_, (J8 (ps_if (Jm (op_neL hu) (Jh J41 (by rfl) hsorted boot_sorted (pa_cons (pv 0) J2)) (Jd (Jw rfl) (by rfl) T.list boot_list (pa_cons (Jd J2x (by rfl) T.range PyProof.Rows.boot_range (pa_cons (pv 1) J2)) J2)) (J14 _)) (J8 (ps_raise rfl TB.mg TB.ex)) J16)), ?_⟩;refine ⟨_, rfl, q, xs, rfl, hq.sq, hx, fun l ns' hl h1 h2 => ?_⟩;refine ⟨_, rfl, (n : Int), rfl, fun r hr' => ⟨r, n, rfl, J0, by omega, fun l2 hl2 => ?_⟩⟩;have n1 : l ≠ r := J7 (H := upd H l (.lst (ns'.map V.int))) J0 hr';have s1 : Same (upd H l (.lst (ns'.map V.int))) (upd (upd (upd H l (.lst (ns'.map V.int))) r (.rng 0 n)) l2 (.lst (((List.range n).map fun (i : Nat) => (i : Int)).map V.int))) := (J4 hr').trans (J4 hl2);refine ⟨l, l2, _, _, rfl, rfl, SqL.of (s1 _ _ J0), SqL.of J0, Kin.ints _ _, _, rfl, ?_⟩;by_cases c : OrdX xs n
    · obtain ⟨os, rfl, hp⟩ := c
      have e := J3b hp h1 h2;exact iteNS (by rw [e]; rfl) (kg ⟨os, rfl, hp⟩ _ ((J4 hl).trans s1))
    · refine iteND (fun e => c ?_) (kb c _ ((J4 hl).trans s1))
      have e2 : ns' = natI (List.range n) := ints_inj e;rw [e2] at h1;exact ordX_of h1
def spRefOf (CB:Addr):Sp:=fun vs H Q E=>∃ (q:Addr) (xs:List Int) (a b:Int),vs=[.ref q,.int a,.int b]/\SqH H q (iV xs)/\xs.length < 64/\(OrdX xs xs.length/\a<=xs.length/\(xs.length:Int)<=b->∀ H',Same H H'->Q .non H')/\(¬ (OrdX xs xs.length/\a<=xs.length/\(xs.length:Int)<=b)->∀ H',Same H H'->E (.ref CB) none H')
theorem scRefOf:FnScope ["order","fewest","most"] ["order","fewest","most"] (J6 sRefOf):=fS
theorem ok_refOf {f fRO CB:Addr} {fd fdRO:FuncData}  (F:Fun K "refuse_order_of" "refuse_order_of" sRefOf f fd) (T:TxtR mg) (TB:TxtX K mg "BadOrder" CB)
  (GRO:FnOk P w K mg base (Exc1 P w) 1 fRO fdRO ["order","pieces"] (spRefOE CB)) (bRO:Binds K fdRO ["order","pieces"] []) (mRO:mg "refuse_order"=some (.ref fRO)) (kRO:keepIn K (.ref fRO)=true) :
  FnOk P w K mg base (Exc1 P w) 2 f fd ["order","fewest","most"] (spRefOf CB):=by
 refine F.okX scRefOf (fun vs H Q E h=>?_) (fun cdv A outer s H vs Q E hr h=>?_)
 ·obtain ⟨q,xs,a,b,rfl,_⟩:=h;rfl
 ·obtain ⟨q,xs,a,b,rfl,hq,hx,kg,kb⟩:=h;have hr1:Room 1 _:=rm hr;refine ⟨_,(J1 (ps_if (PW.pt (pw_or (Jm op_lt (Jh Jc (by rfl) T.len boot_len (pa_cons (pv 0) J2)) (pv 1) (J14 _)) (pw_or1 (Jm op_gt (Jh Jc (by rfl) T.len boot_len (pa_cons (pv 0) J2)) (pv 2) (J14 _))))) (J8 (ps_raise rfl TB.mg TB.ex)) J16)
   (J8 (Jv (Jb GRO hr1 rfl mRO kRO bRO .nil pass1 (pa_cons (pv 0) (pa_cons (Jh Jc (by rfl) T.len boot_len (pa_cons (pv 0) J2)) J2)))))),?_⟩
  have ll:(iV xs).length=xs.length:=length_map ..;refine ⟨_,rfl,q,_,rfl,hq.sq,_,rfl,_,_,rfl,rfl,_,rfl,?_⟩;by_cases c1:(xs.length:Int) < a
  ·refine iteDT (by rw [ll];exact c1) ?_;exact kb (fun z=>by omega) _ (Same.refl _)
  refine iteD (by rw [ll];exact c1) ?_;refine ⟨_,rfl,q,_,rfl,hq.sq,_,rfl,_,_,rfl,rfl,_,rfl,?_⟩;by_cases c2:b < (xs.length:Int)
  ·refine iteDT (by rw [ll];exact c2) ?_;exact kb (fun z=>by omega) _ (Same.refl _)
  refine iteD (by rw [ll];exact c2) ?_;refine ⟨_,rfl,_,rfl,q,_,rfl,hq.sq,q,xs,xs.length,(by rw [ll];rfl),hq,hx,by omega,fun c H' s'=>kg ⟨c,by omega,by omega⟩ H' s',fun c H' s'=>kb (fun z=>c z.1) H' s'⟩
theorem cut_last (row:List Nat) (h1:1<=row.length):cutV (nV row) none (some (-1))=nV row.dropLast:=by
 unfold cutV;rw [J1z,HT.sIx_none,sIx_m1 _ _ h1,nV_eq,nV_eq,List.drop_zero,Nat.sub_zero,List.dropLast_eq_take,List.map_take]
theorem cut_from (row:List Nat) (n:Nat) (h:n<=row.length):cutV (nV row) (some (n:Int)) none=nV (row.drop n):=by
 unfold cutV;rw [J1z,HT.sIx_nat,HT.sIx_none,Nat.min_eq_left h,nV_eq,nV_eq,List.map_drop,take_of_length_le (by rw [length_drop,length_map];exact Nat.le_refl _)]
def pairO (p:Nat × Nat):HO:=.tup [.int (p.1:Nat),.int (p.2:Nat)]
def PrsAt (H:Hp) (ys:List V) (ps:List (Nat × Nat)):Prop:=Refs (fun q i=>H q=some (pairO (ps.getD i (0,0)))) ys ps.length
theorem PrsAt.same {H H':Hp} {ys:List V} {ps:List (Nat × Nat)} (h:PrsAt H ys ps) (s:Same H H'):PrsAt H' ys ps:=Refs.mono h fun q i _ e=>s _ _ e
theorem PrsAt.app {H:Hp} {ys zs:List V} {ps qs:List (Nat × Nat)} (h:PrsAt H ys ps) (g:PrsAt H zs qs):PrsAt H (ys ++ zs) (ps ++ qs):=by
 refine ⟨by rw [length_append,length_append,h.len,g.len],fun i hi=>?_⟩;by_cases c:i < ps.length
 ·obtain ⟨q,e,hq⟩:=h.at_ i c;refine ⟨q,by rw [getElem?_append_left (by rw [h.len];exact c)];exact e,?_⟩;rw [hq,getD_eq_getElem?_getD,getD_eq_getElem?_getD,getElem?_append_left c]
 ·rw [length_append] at hi;obtain ⟨q,e,hq⟩:=g.at_ (i - ps.length) (by omega);refine ⟨q,by rw [getElem?_append_right (by rw [h.len];omega),h.len];exact e,?_⟩;rw [hq,getD_eq_getElem?_getD,getD_eq_getElem?_getD,getElem?_append_right (by omega)]
theorem J36:∀ row:List Nat,(J3o row).length=row.length - 1
 | []=>rfl
 | [_]=>rfl
 | a :: b :: r=>by
  show (J3o (b :: r)).length + 1=r.length + 1;rw [J36 (b :: r)];rfl
theorem along_at:∀ (row:List Nat) (i:Nat),i + 1 < row.length->(J3o row).getD i (0,0)=(2 * row.getD i 0 + 1,2 * row.getD (i + 1) 0)
 | [],i,h=>absurd h (Nat.not_lt_zero _)
 | [_],i,h=>absurd h (by simp)
 | a :: b :: r,0,_=>rfl
 | a :: b :: r,i + 1,h=>by
  show (J3o (b :: r)).getD i (0,0)=_;rw [along_at (b :: r) i (by simpa using h)];rfl
def spRefP:Sp:=fun vs H Q _=>∃ (q:Addr) (os:List Nat),vs=[.ref q]/\SqH H q (nV os)/\IsO os/\1<=os.length/\os.length<=24/\∀ H',Same H H'->Q .non H'
theorem scRefP:FnScope ["order"] ["order"] (J6 sRefP):=fS
theorem ok_refP {f fRF CB:Addr} {fd fdRF:FuncData}  (F:Fun K "refuse_pieces" "refuse_pieces" sRefP f fd) {t24:Tok} (hmp:mg "MOST_PIECES"=some (.int 24 t24))
  (GRF:FnOk P w K mg base (Exc1 P w) 2 fRF fdRF ["order","fewest","most"] (spRefOf CB)) (bRF:Binds K fdRF ["order","fewest","most"] []) (mRF:mg "refuse_order_of"=some (.ref fRF)) (kRF:keepIn K (.ref fRF)=true) :
  FnOk P w K mg base CX0 3 f fd ["order"] spRefP:=by
 refine F.ok scRefP (fun vs H Q E h=>?_) (fun cdv A outer s H vs Q E hr h=>?_)
 ·obtain ⟨q,os,rfl,_⟩:=h;rfl
 ·obtain ⟨q,os,rfl,hq,io,h1,h24,k⟩:=h;have hr2:Room 2 _:=rm hr;refine ⟨_,(J8 (Jv (Jb GRF hr2 rfl mRF kRF bRF .nil passF (pa_cons (pv 0) (pa_cons Je (pa_cons (pe_glob (v:=.int 24) rfl hmp ⟨_,rfl⟩) J2)))))),?_⟩;refine ⟨_,rfl,q,natI os,1,24,rfl,hq,by rw [J2r];omega,fun _ H' s'=>k H' s',fun c=>absurd ?_ c⟩;exact ⟨⟨os,rfl,by rw [J2r];exact io⟩,by rw [J2r];omega,by rw [J2r];omega⟩
def spLeftE:Sp:=fun vs H Q _=>∃ p:Nat,vs=[.int (p:Nat)]/\p<=100/\Q (.int (2 * p:Nat)) H
theorem scLeftE:FnScope ["piece"] ["piece"] (J6 sLeftE):=fS
theorem ok_leftE {f   : Addr} {fd  : FuncData}  (F : Fun K "left_end" "left_end" sLeftE f fd) 
 :
    FnOk P w K mg base CX0 1 f fd ["piece"] spLeftE := by
  refine F.ok scLeftE (fun vs H Q E h => ?_) (fun cdv A outer s H vs Q E hr h => ?_)
  · obtain ⟨p, rfl, _⟩ := h
    rfl
  · obtain ⟨p, rfl, hp, k⟩ := h
    refine ⟨_, (J8 (Ji (pe_op op_mul Je (pv 0)))), ?_⟩;have e : ((2 * p : Nat) : Int) = 2 * (p : Int) := by omega
    rw [e] at k;exact ⟨_, rfl, _, _, rfl, rfl, .inl ⟨by decide, by decide⟩, k⟩
def J5t:Sp:=fun vs H Q _=>∃ p:Nat,vs=[.int (p:Nat)]/\p<=100/\Q (.int (2 * p + 1:Nat)) H
theorem scRightE:FnScope ["piece"] ["piece"] (J6 sRightE):=fS
theorem ok_rightE {f   : Addr} {fd  : FuncData}  (F : Fun K "right_end" "right_end" sRightE f fd) 
 :
    FnOk P w K mg base CX0 1 f fd ["piece"] J5t := by
  refine F.ok scRightE (fun vs H Q E h => ?_) (fun cdv A outer s H vs Q E hr h => ?_)
  · obtain ⟨p, rfl, _⟩ := h
    rfl
  · obtain ⟨p, rfl, hp, k⟩ := h
    refine ⟨_, (J8 (Ji (pe_op J2g (pe_op op_mul Je (pv 0)) Je))), ?_⟩;have e : ((2 * p + 1 : Nat) : Int) = 2 * (p : Int) + 1 := by omega
    rw [e] at k;exact ⟨_, rfl, _, _, rfl, rfl, .inl ⟨by decide, by decide⟩, _, _, rfl, rfl, k⟩
def spMeetA:Sp:=fun vs H Q _=>∃ (q:Addr) (row:List Nat),vs=[.ref q]/\SqH H q (nV row)/\1<=row.length/\row.length<=24/\(∀ x∈row,x<=24)/\∀ l ys H',Same H H'->H' l=some (.lst ys)->PrsAt H' ys (J3o row)->Q (.ref l) H'
theorem scMeetA:FnScope ["row"] ["row"] (J6 sMeetA):=fS
theorem ok_meetA {f fLE fRE :Addr} {fd fdLE fdRE:FuncData}  (F:Fun K "meetings_along" "meetings_along" sMeetA f fd) (T:TxtR mg) (hzip:mg "zip"=none)
  (GLE:FnOk P w K mg base CX0 1 fLE fdLE ["piece"] spLeftE) (bLE:Binds K fdLE ["piece"] []) (mLE:mg "left_end"=some (.ref fLE)) (kLE:keepIn K (.ref fLE)=true)
  (GRE:FnOk P w K mg base CX0 1 fRE fdRE ["piece"] J5t) (bRE:Binds K fdRE ["piece"] []) (mRE:mg "right_end"=some (.ref fRE)) (kRE:keepIn K (.ref fRE)=true) :
  FnOk P w K mg base CX0 2 f fd ["row"] spMeetA:=by
 refine F.ok scMeetA (fun vs H Q E h=>?_) (fun cdv A outer s H vs Q E hr h=>?_)
 ·obtain ⟨q,row,rfl,_⟩:=h;rfl
 ·obtain ⟨q,row,rfl,hq,h1,h24,hle,k⟩:=h;have hr1:Room 1 _:=rm hr;refine ⟨_,(J8 (Ji (pe_lc2 (caps:=[]) (js:=[]) rfl (pi_zip rfl hzip (pa_cons (J3d sl_seq (pv 0) J5b (J5a (pe_un un_neg Je))) (pa_cons (J3d sl_seq (pv 0) (J5a Je) J5b) J2))) rfl (fun _ _ _ _=>J3u) (fun C fp s H=>(J4k (pa_cons (Jb GRE hr1 rfl mRE kRE bRE .nil pass0 (pa_cons (pv 0) J2)) (pa_cons (Jb GLE hr1 rfl mLE kLE bLE .nil pass0 (pa_cons (pv 1) J2)) J2)))) (by decide +kernel) (by decide +kernel) (by decide +kernel) (by intro p hp;cases hp)))),?_⟩;have cl:=cut_last row h1;have cf:cutV (nV row) (some 1) none=nV (row.drop 1):=cut_from row 1 h1;have ll:(nV row.dropLast).length=row.length - 1:=by rw [J1z,List.length_dropLast]
  have lt:(nV (row.drop 1)).length=(nV row.dropLast).length:=by rw [J1z,ll,length_drop]
  have lz:(nV row.dropLast).length<=sizeLine:=by rw [ll];exact Nat.le_of_lt (Jp (by omega))
  have g1:∀ i (v:V),(nV row.dropLast)[i]?=some v->i + 1 < row.length/\v=V.int (row.getD i 0:Nat)/\row.getD i 0<=24:=fun i v e=>by
   obtain ⟨a,b,_⟩:=nV_get e;rw [List.length_dropLast] at a;have e2:row.dropLast.getD i 0=row.getD i 0:=by
    rw [getD_eq_getElem?_getD,getD_eq_getElem?_getD,List.dropLast_eq_take,List.getElem?_take,if_pos a]
   rw [e2] at b;refine ⟨by omega,b,hle _ ?_⟩;rw [getD_eq_getElem?_getD,List.getElem?_eq_getElem (show i < row.length by omega)];exact List.getElem_mem _
  have g2:∀ i (v:V),(nV (row.drop 1))[i]?=some v->v=V.int (row.getD (i + 1) 0:Nat)/\row.getD (i + 1) 0<=24:=fun i v e=>by
   obtain ⟨a,b,_⟩:=nV_get e;rw [length_drop] at a;have e2:(row.drop 1).getD i 0=row.getD (i + 1) 0:=by
    rw [getD_eq_getElem?_getD,getD_eq_getElem?_getD,List.getElem?_drop,Nat.add_comm 1 i]
   rw [e2] at b;refine ⟨b,hle _ ?_⟩;rw [getD_eq_getElem?_getD,List.getElem?_eq_getElem (show i + 1 < row.length by omega)];exact List.getElem_mem _
  have fin:∀ (ys:List V) (d:Addr) (H':Hp),Same H H'->H' d=some (.lst ys)->Refs (fun q i=>H' q=some (pairO (2 * row.getD i 0 + 1,2 * row.getD (i + 1) 0))) ys (nV row.dropLast).length->Q (.ref d) H':=fun ys d H' s' h' r=>by
   refine k d ys H' s' h' ⟨by rw [r.len,ll,J36],fun i hi=>?_⟩;rw [J36] at hi;rw [along_at row i (by omega)];exact r.at_ i (by omega)
  rcases hq with hL | hT
  ·refine ⟨_,rfl,_,rfl,_,rfl,.inl ⟨q,_,rfl,SqL.of hL,fun a ha=>?_⟩⟩;rw [cl];have s1:=J4 (o:=.lst (nV row.dropLast)) ha;refine ⟨_,rfl,_,rfl,.inl ⟨q,_,rfl,SqL.of (s1 _ _ hL),fun b hb=>?_⟩⟩;rw [cf];have s2:=J4 (o:=.lst (nV (row.drop 1))) hb;refine ⟨a,b,rfl,.inr ⟨⟨_,SqL.of (s2 _ _ J0)⟩,⟨_,SqL.of J0⟩,fun d hd=>lc_zipL _ _ (fun H q i=>H q=some (pairO (2 * row.getD i 0 + 1,2 * row.getD (i + 1) 0))) (SqL.of (s2 _ _ J0)) (SqL.of J0) lt lz hd (fun H H' q i kd nd e=>kd _ _ e nd) (fun i v z ev ez H3 Qe s3 hd3 ke=>?_) fun ys H3 s3 hd3 r=>fin ys d H3 (s1.trans (s2.trans s3)) hd3 r⟩⟩;obtain ⟨_,rfl,n1⟩:=g1 i v ev;obtain ⟨rfl,n2⟩:=g2 i z ez;obtain ⟨ys,hd3⟩:=hd3;refine ⟨_,rfl,_,rfl,by omega,_,rfl,_,rfl,by omega,(by show 2<=sizeLine;decide),fun p hp=>ke p _ (J4 hp) (J7 hd3 hp).symm J0⟩
  ·refine ⟨_,rfl,_,rfl,_,rfl,.inr ⟨q,_,rfl,SqT.of hT,?_,fun a ha=>?_⟩⟩
   ·rw [J1z,sIx_m1 _ _ h1];omega
   rw [cl];have s1:=J4 (o:=.tup (nV row.dropLast)) ha;refine ⟨_,rfl,_,rfl,.inr ⟨q,_,rfl,SqT.of (s1 _ _ hT),?_,fun b hb=>?_⟩⟩
   ·rw [J1z,show (1:Int)=((1:Nat):Int) from rfl,HT.sIx_nat];omega
   rw [cf];have s2:=J4 (o:=.tup (nV (row.drop 1))) hb;refine ⟨a,b,rfl,.inl ⟨⟨_,SqT.of (s2 _ _ J0)⟩,⟨_,SqT.of J0⟩,fun d hd=>lc_zipT _ _ (fun H q i=>H q=some (pairO (2 * row.getD i 0 + 1,2 * row.getD (i + 1) 0))) (SqT.of (s2 _ _ J0)) (SqT.of J0) lt lz hd (fun H H' q i kd nd e=>kd _ _ e nd) (fun i v z ev ez H3 Qe s3 hd3 ke=>?_) fun ys H3 s3 hd3 r=>fin ys d H3 (s1.trans (s2.trans s3)) hd3 r⟩⟩;obtain ⟨_,rfl,n1⟩:=g1 i v ev;obtain ⟨rfl,n2⟩:=g2 i z ez;obtain ⟨ys,hd3⟩:=hd3;refine ⟨_,rfl,_,rfl,by omega,_,rfl,_,rfl,by omega,(by show 2<=sizeLine;decide),fun p hp=>ke p _ (J4 hp) (J7 hd3 hp).symm J0⟩
def spMeets:Sp:=fun vs H Q _=>∃ (q:Addr) (os:List Nat),vs=[.ref q]/\SqH H q (nV os)/\IsO os/\1<=os.length/\os.length<=24/\∀ l ys H',Same H H'->H' l=some (.lst ys)->PrsAt H' ys (J1y os)->Q (.ref l) H'
theorem scMeets:FnScope ["order","last","outer"] ["order"] (J6 sMeets):=fS
theorem ok_meets {f fLE fRE fMA :Addr} {fd fdLE fdRE fdMA:FuncData}  (F:Fun K "meetings" "meetings" sMeets f fd) (T:TxtR mg)
  (GLE:FnOk P w K mg base CX0 1 fLE fdLE ["piece"] spLeftE) (bLE:Binds K fdLE ["piece"] []) (mLE:mg "left_end"=some (.ref fLE)) (kLE:keepIn K (.ref fLE)=true)
  (GRE:FnOk P w K mg base CX0 1 fRE fdRE ["piece"] J5t) (bRE:Binds K fdRE ["piece"] []) (mRE:mg "right_end"=some (.ref fRE)) (kRE:keepIn K (.ref fRE)=true)
  (GMA:FnOk P w K mg base CX0 2 fMA fdMA ["row"] spMeetA) (bMA:Binds K fdMA ["row"] []) (mMA:mg "meetings_along"=some (.ref fMA)) (kMA:keepIn K (.ref fMA)=true) :
  FnOk P w K mg base CX0 3 f fd ["order"] spMeets:=by
 refine F.ok scMeets (fun vs H Q E h=>?_) (fun cdv A outer s H vs Q E hr h=>?_)
 ·obtain ⟨q,os,rfl,_⟩:=h;rfl
 ·obtain ⟨q,os,rfl,hq,io,h1,h24,k⟩:=h;have hr1:Room 1 _:=rm hr;have hr2:Room 2 _:=rm hr;refine ⟨_,(J1 (Jj (i:=1) scMeets.nd rfl (Or.inl rfl) (pe_op J64 (Jh Jc (by rfl) T.len boot_len (pa_cons (pv 0) J2)) Je))
   (J1 (Jj (i:=2) scMeets.nd rfl (Or.inl rfl) (J2p (pa_cons (J4k (pa_cons (Jb GLE hr1 rfl mLE kLE bLE .nil pass0 (pa_cons Je J2)) (pa_cons (Jb GLE hr1 rfl mLE kLE bLE .nil pass0 (pa_cons (pe_ix ix_seq (pv 0) Je (fun _ _=>rfl)) J2)) J2))) (pa_cons (J4k (pa_cons (Jb GRE hr1 rfl mRE kRE bRE .nil pass0 (pa_cons (pv 1) J2)) (pa_cons (Jb GRE hr1 rfl mRE kRE bRE .nil pass0 (pa_cons (pe_ix ix_seq (pv 0) (pv 1) (fun _ _=>rfl)) J2)) J2))) J2))))
   (J8 (Ji (pe_op op_cat (pe_op op_cat (Jb GMA hr2 rfl mMA kMA bMA .nil pass0 (pa_cons (Jd (Jw rfl) (by rfl) T.list boot_list (pa_cons (Jd J2x (by rfl) T.range PyProof.Rows.boot_range (pa_cons (Jh Jc (by rfl) T.len boot_len (pa_cons (pv 0) J2)) J2)) J2)) J2)) (Jb GMA hr2 rfl mMA kMA bMA .nil pass0 (pa_cons (pv 0) J2))) (pv 2)))))),?_⟩
  have ll:=J1z os;have hb:∀ x∈os,x<=24:=fun x hx=>by have:=io.lt x hx;omega
  have at_:∀ i,i < os.length->os.getD i 0<=24:=fun i h=>hb _ (by rw [getD_eq_getElem?_getD,List.getElem?_eq_getElem h];exact List.getElem_mem _)
  have ix:∀ (H':Hp) (i:Nat) (Qv:VK),Same H H'->i < os.length->Qv (V.int (os.getD i 0:Nat)) H'->rIx K (.ref q) (.int (i:Nat)) H' Qv:=fun H' i Qv s h z=>by
   rcases hq.same s with hL | hT
   ·exact .inl ⟨q,_,_,_,rfl,rfl,SqL.of hL,Jl (nV_at h),z⟩
   ·exact .inr (.inl ⟨q,_,_,_,rfl,rfl,SqT.of hT,Jl (nV_at h),z⟩)
  refine ⟨_,rfl,q,_,rfl,hq.sq,_,_,rfl,rfl,?_⟩;have e1:((nV os).length:Int) - 1=((os.length - 1:Nat):Int):=by rw [ll];omega
  dsimp only;rw [e1];refine ⟨0,rfl,by decide,_,rfl,ix H 0 _ (Same.refl _) h1 ⟨_,rfl,at_ 0 h1 |> (Nat.le_trans · (by decide)),(by show 2<=sizeLine;decide),fun p1 hp1=>?_⟩⟩;have s1:=J4 (o:=.tup [V.int ((2 * 0:Nat):Int),V.int ((2 * os.getD 0 0:Nat):Int)]) hp1;refine ⟨_,rfl,_,rfl,by omega,_,rfl,_,rfl,ix _ (os.length - 1) _ s1 (by omega) ⟨_,rfl,at_ _ (by omega) |> (Nat.le_trans · (by decide)),(by show 2<=sizeLine;decide),fun p2 hp2=>?_⟩⟩;have s2:=s1.trans (J4 (o:=.tup [V.int ((2 * (os.length - 1) + 1:Nat):Int),V.int ((2 * os.getD (os.length - 1) 0 + 1:Nat):Int)]) hp2);have hp1':=J4 (o:=.tup [V.int ((2 * (os.length - 1) + 1:Nat):Int),V.int ((2 * os.getD (os.length - 1) 0 + 1:Nat):Int)]) hp2 p1 _ J0;refine ⟨(by show 2<=sizeLine;decide),fun ol hol=>?_⟩;have s3:=s2.trans (J4 (o:=.lst [V.ref p1,V.ref p2]) hol);have PO:PrsAt _ [V.ref p1,V.ref p2] [(0,2 * os.getD 0 0),(2 * (os.length - 1) + 1,2 * os.getD (os.length - 1) 0 + 1)]:=⟨rfl,fun i hi=>by
   have hi:i=0\/i=1:=by have:i < 2:=hi;omega
   rcases hi with rfl | rfl
   ·exact ⟨p1,rfl,J4 (o:=.lst [V.ref p1,V.ref p2]) hol _ _ hp1'⟩
   ·exact ⟨p2,rfl,J4 (o:=.lst [V.ref p1,V.ref p2]) hol _ _ J0⟩⟩
  have hol':=J0 (H:=upd (upd H p1 (.tup [V.int ((2 * 0:Nat):Int),V.int ((2 * os.getD 0 0:Nat):Int)])) p2 (.tup [V.int ((2 * (os.length - 1) + 1:Nat):Int),V.int ((2 * os.getD (os.length - 1) 0 + 1:Nat):Int)])) (a:=ol) (o:=.lst [V.ref p1,V.ref p2]);generalize upd (upd (upd H p1 (.tup [V.int ((2 * 0:Nat):Int),V.int ((2 * os.getD 0 0:Nat):Int)])) p2 (.tup [V.int ((2 * (os.length - 1) + 1:Nat):Int),V.int ((2 * os.getD (os.length - 1) 0 + 1:Nat):Int)])) ol (.lst [V.ref p1,V.ref p2])=H3 at *;refine ⟨_,rfl,q,_,rfl,(hq.same s3).sq,_,rfl,fun r hr'=>⟨r,os.length,rfl,(by rw [<- ll];exact J0),by omega,fun rl hrl=>?_⟩⟩;have s4:=J4 (o:=.rng 0 ((nV os).length:Int)) hr';have s5:=s4.trans (J4 (o:=.lst (nV (List.range os.length))) hrl);refine ⟨rl,List.range os.length,rfl,.inl J0,by rw [length_range];exact h1,by rw [length_range];exact h24,fun x hx=>by have:=mem_range.mp hx;omega,fun l1 ys1 H5 s6 hl1 P1=>?_⟩;have s35:=s5.trans s6;refine ⟨_,rfl,q,os,rfl,hq.same (s3.trans s35),h1,h24,hb,fun l2 ys2 H6 s7 hl2 P2=>?_⟩;have L1:=P1.len;have L2:=P2.len;rw [J36] at L1 L2;rw [length_range] at L1;refine ⟨l1,l2,_,_,rfl,rfl,s7 _ _ hl1,hl2,Nat.le_of_lt (Jp (by omega)),fun l3 hl3=>?_⟩;have s8:=J4 (o:=.lst (ys1 ++ ys2)) hl3;refine ⟨_,rfl,l3,ol,_,_,rfl,rfl,J0,(s35.trans (s7.trans s8)) _ _ hol',Nat.le_of_lt (Jp (by rw [length_append];show _ + 2<=1000;omega)),fun l4 hl4=>?_⟩;have s9:=J4 (o:=.lst (ys1 ++ ys2 ++ [V.ref p1,V.ref p2])) hl4;refine k l4 _ _ (s3.trans (s35.trans (s7.trans (s8.trans s9)))) J0 ?_;exact ((P1.same (s7.trans (s8.trans s9))).app (P2.same (s8.trans s9))).app (PO.same (s35.trans (s7.trans (s8.trans s9))))
def spCornE:Sp:=fun vs H Q _=>∃ (q:Addr) (os:List Nat),vs=[.ref q]/\SqH H q (nV os)/\IsO os/\1<=os.length/\os.length<=24/\∀ l H',Same H H'->H' l=some (.lst (nV (cornO os)))->Q (.ref l) H'
theorem scCornE:FnScope ["order","least","one","two","kept","gone","firsts"] ["order"] (J6 sCornE):=fS
theorem ok_cornE {f fME :Addr} {fd fdME:FuncData}  (F:Fun K "corners_by_end" "corners_by_end" sCornE f fd) (T:TxtR mg) (hmin:mg "min"=none) (hmax:mg "max"=none) (hsorted:mg "sorted"=none) (hset:mg "set"=none)
  (GME:FnOk P w K mg base CX0 3 fME fdME ["order"] spMeets) (bME:Binds K fdME ["order"] []) (mME:mg "meetings"=some (.ref fME)) (kME:keepIn K (.ref fME)=true) :
  FnOk P w K mg base CX0 4 f fd ["order"] spCornE:=by
 refine F.ok scCornE (fun vs H Q E h=>?_) (fun cdv A outer s H vs Q E hr h=>?_)
 ·obtain ⟨q,os,rfl,_⟩:=h;rfl
 ·obtain ⟨q,os,rfl,hq,io,h1,h24,k⟩:=h;have hr3:Room 3 _:=rm hr;refine ⟨_,(J1 (Jj (i:=1) scCornE.nd rfl (Or.inl rfl) (Jd (Jw rfl) (by rfl) T.list boot_list (pa_cons (Jd J2x (by rfl) T.range PyProof.Rows.boot_range (pa_cons (pe_op op_mul Je (Jh Jc (by rfl) T.len boot_len (pa_cons (pv 0) J2))) J2)) J2)))
   (J1 (ps_for PassesOwn.never rfl (J5c (Jb GME hr3 rfl mME kME bME .nil pass0 (pa_cons (pv 0) J2))) (pg_tup rfl (J2o (J1w (i:=2) scCornE.nd rfl (Or.inl rfl)) (J2o (J1w (i:=3) scCornE.nd rfl (Or.inl rfl)) pgs_nil)))
    (J1 (Jj (i:=4) scCornE.nd rfl (Or.inr rfl) (Jh (call_min2 rfl) (by rfl) hmin boot_min (pa_cons (pe_ix ix_list (pv 1) (pv 2) (fun _ _=>rfl)) (pa_cons (pe_ix ix_list (pv 1) (pv 3) (fun _ _=>rfl)) J2))))
    (J1 (Jj (i:=5) scCornE.nd rfl (Or.inr rfl) (Jh (call_max2 rfl) (by rfl) hmax boot_max (pa_cons (pe_ix ix_list (pv 1) (pv 2) (fun _ _=>rfl)) (pa_cons (pe_ix ix_list (pv 1) (pv 3) (fun _ _=>rfl)) J2))))
    (J8 (ps_lc (i:=1) (caps:=["kept","gone"]) (js:=[4,5]) scCornE.nd rfl (Or.inl rfl) rfl (J5c (pv 1)) rfl (fun _ _ _ _=>J3u) (fun C fp s H=>(J4n (Jm op_eq (pv 0) (pv 2) (J14 _)) (pv 1) (pv 0))) (by decide +kernel) (by decide +kernel) (by decide +kernel) (by intro p hp;simp only [mem_cons,not_mem_nil,or_false] at hp;rcases hp with rfl | rfl <;> rfl))))))
   (J1 (Jj (i:=6) scCornE.nd rfl (Or.inr rfl) (pe_sset rfl rfl hsorted rfl hset (pa_cons (pv 1) J2)))
   (J8 (Ji (pe_lc (caps:=["firsts"]) (js:=[6]) rfl (J5c (pv 1)) rfl (fun _ _ _ _=>J3u) (fun C fp s H=>(pe_bmK K PySem.F.plainAttrs_list PySem.F.slot_list_index PySem.F.type_list_index (mt_indexLK K) (pv 1) (pa_cons (pv 0) J2))) (by decide +kernel) (by decide +kernel) (by decide +kernel) (by intro p hp;simp only [mem_cons,not_mem_nil,or_false] at hp;rcases hp with rfl;rfl))))))),?_⟩
  have ll:=J1z os;obtain ⟨id0,il0⟩:=J2t io h1;refine ⟨_,rfl,q,_,rfl,hq.sq,_,_,rfl,rfl,.inl ⟨by decide,by decide⟩,?_⟩;have e1:(2:Int) * ((nV os).length:Int)=((2 * os.length:Nat):Int):=by rw [ll];omega
  dsimp only;rw [e1];refine ⟨_,rfl,fun r hr'=>⟨r,2 * os.length,rfl,J0,by omega,fun la hla=>?_⟩⟩;have s1:=J4 (o:=.rng 0 ((2 * os.length:Nat):Int)) hr';have s2:=s1.trans (J4 (o:=.lst (nV (List.range (2 * os.length)))) hla);have hla':=J0 (H:=upd H r (.rng 0 ((2 * os.length:Nat):Int))) (a:=la) (o:=.lst (nV (List.range (2 * os.length))));refine ⟨_,rfl,q,os,rfl,hq.same s2,io,h1,h24,fun ml ys H3 s3 hml P3=>?_⟩;have s13:=s2.trans s3;have hla3:=s3 _ _ hla';have ml_lt:=J68 io h1;have eL:∀ i,((J1y os).take i |>.foldl meet1 (List.range (2 * os.length))).length=2 * os.length:=fun i=>by
   have:=(J4x ((J1y os).take i) (List.range (2 * os.length)) (J3h _) fun p hp=>by rw [length_range];exact ml_lt p (List.mem_of_mem_take hp)).2;rw [this,length_range]
  refine ⟨ml,rfl,⟨_,SqL.of hml⟩,for_list (K:=K) (a:=ml) (xs:=ys) (fun i σ Hw=>∃ (la:Addr) (v2 v3 v4 v5:Option V),σ=[some (.ref q),some (.ref la),v2,v3,v4,v5,none]/\Hw la=some (.lst (nV (((J1y os).take i).foldl meet1 (List.range (2 * os.length)))))/\Same H3 Hw)
   ⟨la,_,_,_,_,rfl,hla3,Same.refl _⟩ (fun i σ Hw _ ⟨_,_,_,_,_,_,_,sw⟩=>SqL.of (sw _ _ hml)) ?_ ?_⟩
  ·rintro i v σ Hw hv ⟨la,v2,v3,v4,v5,rfl,hl,sw⟩;have hi:i < ys.length:=(List.getElem?_eq_some_iff.mp hv).1;have hi2:i < (J1y os).length:=by rw [<- P3.len];exact hi
   obtain ⟨pa,ea,hpa⟩:=P3.at_ i hi2;obtain rfl:V.ref pa=v:=Option.some.inj (ea.symm.trans hv);obtain ⟨pr,epr⟩:∃ pr,pr=(J1y os).getD i (0,0):=⟨_,rfl⟩;rw [<- epr] at hpa;have epr2:(J1y os)[i]?=some pr:=by rw [epr,getD_eq_getElem?_getD,List.getElem?_eq_getElem hi2];rfl
   have etk:((J1y os).take (i + 1)).foldl meet1 (List.range (2 * os.length))=meet1 (((J1y os).take i).foldl meet1 (List.range (2 * os.length))) pr:=by
    rw [List.take_succ,epr2,List.foldl_append];rfl
   have lt:=ml_lt pr (mem_of_getElem? epr2);have eLi:=eL i;rw [etk];generalize ((J1y os).take i).foldl meet1 (List.range (2 * os.length))=L at hl eLi ⊢;have mn:∀ x y:Nat,(if ((y:Nat):Int) < ((x:Nat):Int) then ((y:Nat):Int) else ((x:Nat):Int))=((min x y:Nat):Int):=fun x y=>by split <;> omega
   have mx:∀ x y:Nat,(if ((y:Nat):Int) > ((x:Nat):Int) then ((y:Nat):Int) else ((x:Nat):Int))=((max x y:Nat):Int):=fun x y=>by split <;> omega
   have g1:atI (nV L) ((pr.1:Nat):Int)=some (V.int (L.getD pr.1 0:Nat)):=Jl (nV_at (by omega));have g2:atI (nV L) ((pr.2:Nat):Int)=some (V.int (L.getD pr.2 0:Nat)):=Jl (nV_at (by omega));refine ⟨pa,_,rfl,SqT.of (sw _ _ hpa),rfl,_,_,rfl,_,_,rfl,rfl,?_⟩;refine ⟨_,rfl,_,rfl,la,_,_,_,rfl,rfl,SqL.of hl,g1,_,rfl,_,rfl,la,_,_,_,rfl,rfl,SqL.of hl,g2,_,_,rfl,?_⟩;rw [mn];refine ⟨_,rfl,_,rfl,la,_,_,_,rfl,rfl,SqL.of hl,g1,_,rfl,_,rfl,la,_,_,_,rfl,rfl,SqL.of hl,g2,_,_,rfl,?_⟩;rw [mx];refine ⟨_,rfl,la,rfl,⟨_,SqL.of hl⟩,fun d hd=>lc_lst (fun (j:Nat)=>V.int (j:Int)) L (fun _=>true) (fun (j:Nat)=>V.int ((if j=max (L.getD pr.1 0) (L.getD pr.2 0) then min (L.getD pr.1 0) (L.getD pr.2 0) else j:Nat):Int)) (by rw [<- nV_eq];exact SqL.of hl) (by omega) hd
    (fun j _ H2 Qt _ k=>k H2 (Same.refl _)) (fun j hj H4 Qe _ s4 ke=>?_) (fun H4 s4 hd4=>?_)⟩
   ·refine ⟨_,rfl,_,rfl,rfl,_,rfl,?_⟩;by_cases c:j=max (L.getD pr.1 0) (L.getD pr.2 0)
    ·rw [if_pos c] at ke;exact iteDT (by rw [c]) ⟨_,rfl,ke _ (Same.refl _)⟩
    ·rw [if_neg c] at ke;exact iteD (vint_ne (by omega)) ⟨_,rfl,ke _ (Same.refl _)⟩
   ·rw [J21] at hd4;refine ⟨d,_,_,_,_,rfl,?_,sw.trans s4⟩;rw [hd4];unfold meet1;rw [nV_eq,map_map];rfl
  ·rintro σ H4 ⟨la,v2,v3,v4,v5,rfl,hl,sw⟩;have eall:((J1y os).take ys.length).foldl meet1 (List.range (2 * os.length))=J1e os:=by rw [P3.len,List.take_length];rfl
   rw [eall] at hl;refine ⟨_,rfl,la,natI (J1e os),rfl,SqL.of hl,by rw [J2r,il0];omega,fun l2 ns' hl2 n1 n2=>?_⟩;rw [fixL_uni id0 n1 n2];have s5:=J4 (o:=.lst (nV (fixL (J1e os)))) hl2;refine ⟨_,rfl,la,rfl,⟨_,SqL.of (s5 _ _ hl)⟩,fun d hd=>lc_lst (fun (j:Nat)=>V.int (j:Int)) (J1e os) (fun _=>true) (fun (j:Nat)=>V.int ((fixL (J1e os)).idxOf j:Nat)) (by rw [<- nV_eq];exact SqL.of (s5 _ _ hl)) (by omega) hd
    (fun j _ H2 Qt _ k=>k H2 (Same.refl _)) (fun j hj H6 Qe _ s6 ke=>?_) (fun H6 s6 hd6=>?_)⟩
   ·refine ⟨_,rfl,.inl ⟨rfl,_,SqL.of (s6 _ _ J0)⟩,_,rfl,l2,natI (fixL (J1e os)),(j:Int),rfl,rfl,SqL.of (s6 _ _ J0),J5f ((J2w id0 j).mpr hj),?_⟩;rw [J5l];exact ke _ (Same.refl _)
   ·rw [J21] at hd6;refine k d _ (s13.trans (sw.trans (s5.trans s6))) ?_;rw [hd6];unfold cornO;rw [nV_eq,map_map];rfl
def spCornN:Sp:=fun vs H Q _=>∃ (q:Addr) (os:List Nat),vs=[.ref q]/\SqH H q (nV os)/\IsO os/\1<=os.length/\os.length<=24/\∀ H',Same H H'->Q (.int ((fixL (J1e os)).length:Nat)) H'
theorem scCornN:FnScope ["order"] ["order"] (J6 sCornN):=fS
theorem ok_cornN {f fCE :Addr} {fd fdCE:FuncData}  (F:Fun K "number_of_corners" "number_of_corners" sCornN f fd) (hmax:mg "max"=none)
  (GCE:FnOk P w K mg base CX0 4 fCE fdCE ["order"] spCornE) (bCE:Binds K fdCE ["order"] []) (mCE:mg "corners_by_end"=some (.ref fCE)) (kCE:keepIn K (.ref fCE)=true) :
  FnOk P w K mg base CX0 5 f fd ["order"] spCornN:=by
 refine F.ok scCornN (fun vs H Q E h=>?_) (fun cdv A outer s H vs Q E hr h=>?_)
 ·obtain ⟨q,os,rfl,_⟩:=h;rfl
 ·obtain ⟨q,os,rfl,hq,io,h1,h24,k⟩:=h;have hr4:Room 4 _:=rm hr;refine ⟨_,(J8 (Ji (pe_op J2g (Jh (call_max rfl) (by rfl) hmax boot_max (pa_cons (Jb GCE hr4 rfl mCE kCE bCE .nil pass0 (pa_cons (pv 0) J2)) J2)) Je))),?_⟩;refine ⟨_,rfl,q,os,rfl,hq,io,h1,h24,fun l H1 s1 hl=>?_⟩;have lc:(cornO os).length=2 * os.length:=by unfold cornO;rw [length_map];exact (J2t io h1).2
  refine ⟨l,natI (cornO os),rfl,.inl (SqL.of hl),by rw [J2r];omega,fun M hM ha=>⟨_,_,rfl,rfl,?_⟩⟩;obtain ⟨m,hm,rfl⟩:=mem_map.mp hM;have e:=corn_max io h1 hm fun c hc=>by have:=ha _ (mem_map.mpr ⟨c,hc,rfl⟩);omega
  have e2:(m:Int) + 1=((fixL (J1e os)).length:Nat):=by omega
  dsimp only;rw [e2];exact k _ s1
def spHandles:Sp:=fun vs H Q _=>∃ (q:Addr) (os:List Nat),vs=[.ref q]/\SqH H q (nV os)/\IsO os/\1<=os.length/\os.length<=24/\∀ H',Same H H'->Q (.int (((os.length:Int) - ((fixL (J1e os)).length:Nat) + 1) / 2)) H'
theorem scHandles:FnScope ["order"] ["order"] (J6 J5y):=fS
theorem ok_handles {f fRP fCN :Addr} {fd fdRP fdCN:FuncData}  (F:Fun K "handles_of" "handles_of" J5y f fd) (T:TxtR mg)
  (GRP:FnOk P w K mg base CX0 3 fRP fdRP ["order"] spRefP) (bRP:Binds K fdRP ["order"] []) (mRP:mg "refuse_pieces"=some (.ref fRP)) (kRP:keepIn K (.ref fRP)=true)
  (GCN:FnOk P w K mg base CX0 5 fCN fdCN ["order"] spCornN) (bCN:Binds K fdCN ["order"] []) (mCN:mg "number_of_corners"=some (.ref fCN)) (kCN:keepIn K (.ref fCN)=true) :
  FnOk P w K mg base CX0 6 f fd ["order"] spHandles:=by
 refine F.ok scHandles (fun vs H Q E h=>?_) (fun cdv A outer s H vs Q E hr h=>?_)
 ·obtain ⟨q,os,rfl,_⟩:=h;rfl
 ·obtain ⟨q,os,rfl,hq,io,h1,h24,k⟩:=h;have hr3:Room 3 _:=rm hr;have hr5:Room 5 _:=rm hr;refine ⟨_,(J1 (Jv (Jb GRP hr3 rfl mRP kRP bRP .nil pass0 (pa_cons (pv 0) J2)))
   (J8 (Ji (pe_op op_fdiv (pe_op J2g (pe_op J64 (Jh Jc (by rfl) T.len boot_len (pa_cons (pv 0) J2)) (Jb GCN hr5 rfl mCN kCN bCN .nil pass0 (pa_cons (pv 0) J2))) Je) Je)))),?_⟩
  refine ⟨_,rfl,q,os,rfl,hq,io,h1,h24,fun H1 s1=>?_⟩;refine ⟨_,rfl,q,_,rfl,(hq.same s1).sq,_,rfl,q,os,rfl,hq.same s1,io,h1,h24,fun H2 s2=>?_⟩;refine ⟨_,_,rfl,rfl,_,_,rfl,rfl,_,_,rfl,rfl,⟨by decide,by decide⟩,?_⟩;have:=k _ (s1.trans s2);rw [J1z];exact this
def spCell (K:Frag):Sp:=fun vs H Q _=>∃ (a:Addr) (ns:List Int) (j:Nat),vs=[.ref a,.int j]/\SqL K H a (iV ns)/\Q (.int (cellN ns j)) H
theorem scCell:FnScope ["script","k"] ["script","k"] (J6 sCell):=fS
theorem ok_cell {f:Addr} {fd:FuncData} (F:Fun K "_law_cell" "_law_cell" sCell f fd) (T:TxtR mg):FnOk P w K mg base CX0 1 f fd ["script","k"] (spCell K):=by
 refine F.ok scCell (fun vs H Q E h=>?_) (fun cdv A outer s H vs Q E hr h=>?_)
 ·obtain ⟨a,ns,j,rfl,_⟩:=h;rfl
 ·obtain ⟨a,ns,j,rfl,hS,k⟩:=h;refine ⟨_,J1 (ps_if (Jm op_lt (pv 1) (Jh Jc (by rfl) T.len boot_len (pa_cons (pv 0) J2)) (J14 _)) (J8 (Ji (pe_ix ix_list (pv 0) (pv 1) (fun _ _=>rfl)))) J16) (J8 (Ji Je)),?_⟩;refine ⟨_,rfl,_,rfl,a,_,rfl,.inl hS,_,_,rfl,rfl,_,rfl,?_⟩;have hl:(iV ns).length=ns.length:=length_map ..;by_cases hj:j < ns.length
  ·refine iteDT (by rw [hl];lia) ?_;exact ⟨_,rfl,_,rfl,a,_,_,_,rfl,rfl,hS,Jl (J2h hj),k⟩
  ·refine iteD (by rw [hl];lia) ?_;have e:cellN ns j=0:=by
    unfold cellN;rw [getD_eq_getElem?_getD,getElem?_eq_none (by lia)];rfl
   rw [e] at k;exact k
theorem drawn_good (ns:List Int) {many:Nat} {top:Int} (h1:1<=many) (h2:many<=24) (h3:0 < top) (h4:top<=10 ^ 28):Good (drawL ns many top) (drawO ns many many):=by
 have hl:=drawL_len ns many top;refine ⟨by lia,by lia,fun a ha=>(drawL_mem h3 a ha).1,?_,by rw [hl];exact J3m ns many many⟩;have e1:=sum_le (drawL ns many top) fun a ha=>(drawL_mem h3 a ha).2;rw [hl] at e1;have e2:=mul_top h2 (Int.le_of_lt h3);have e3:(24:Int) * top<=10 ^ 30:=by
  have:(24:Int) * top<=24 * 10 ^ 28:=by lia
  have:(24:Int) * 10 ^ 28<=10 ^ 30:=by decide
  lia
 lia
def spDrawn2 (K:Frag):Sp:=fun vs H Q _=>∃ (a:Addr) (ns:List Int) (many:Nat) (top:Int),vs=[.ref a,.int many,.int top]/\SqL K H a (iV ns)/\1<=many/\many<=24/\0 < top/\
 ∀ p l o H',Same H H'->H' p=some (.tup [.ref l,.ref o])->H' l=some (.lst (iV (drawL ns many top)))->H' o=some (.lst (nV (drawO ns many many)))->Q (.ref p) H'
theorem scDrawn2:FnScope ["script","many","top","lengths","order","k"] ["script","many","top"] (J6 sDrawn2):=fS
theorem ok_drawn2 {f fC :Addr} {fd fdC:FuncData}  (F:Fun K "_law_drawn" "_law_drawn" sDrawn2 f fd) (T:TxtR mg)
  (GC:FnOk P w K mg base CX0 1 fC fdC ["script","k"] (spCell K)) (bC:Binds K fdC ["script","k"] []) (mC:mg "_law_cell"=some (.ref fC)) (kC:keepIn K (.ref fC)=true) :
  FnOk P w K mg base CX0 2 f fd ["script","many","top"] (spDrawn2 K):=by
 refine F.ok scDrawn2 (fun vs H Q E h=>?_) (fun cdv A outer s H vs Q E hr h=>?_)
 ·obtain ⟨a,ns,many,top,rfl,_⟩:=h;rfl
 ·obtain ⟨a,ns,many,top,rfl,hS,h1,h2,h3,k⟩:=h;have hr1:Room 1 _:=rm hr;refine ⟨_,(J1 (ps_lc (i:=3) (caps:=["script","top"]) (js:=[0,2]) scDrawn2.nd rfl (Or.inl rfl) rfl (pi_range1 rfl T.range (pa_cons (pv 1) J2)) rfl (fun _ _ _ _=>J3u) (fun C fp s H=>(pe_op J2g Je (pe_op op_mod (Jb GC hr1 rfl mC kC bC .nil pass0 (pa_cons (pv 1) (pa_cons (pe_op J2g Je (pv 0)) J2))) (pv 2)))) (by decide +kernel) (by decide +kernel) (by decide +kernel) (by intro p hp;simp only [mem_cons,not_mem_nil,or_false] at hp;rcases hp with rfl | rfl <;> rfl))
   (J1 (Jj (i:=4) scDrawn2.nd rfl (Or.inl rfl) (J2p J2))
   (J1 (ps_for PassesOwn.never rfl (pi_range1 rfl T.range (pa_cons (pv 1) J2)) (J1w (i:=5) scDrawn2.nd rfl (Or.inl rfl))
    (J8 (Jv (pe_bm PySem.F.plainAttrs_list PySem.F.slot_list_insert PySem.F.type_list_insert mt_insert (pv 4) (pa_cons (pe_op op_mod (Jb GC hr1 rfl mC kC bC .nil pass0 (pa_cons (pv 0) (pa_cons (pe_op J2g (pe_op J2g Je (pv 1)) (pv 5)) J2))) (pe_op J2g (pv 5) Je)) (pa_cons (pv 5) J2))))))
   (J8 (Ji (J4k (pa_cons (pv 3) (pa_cons (pv 4) J2)))))))),?_⟩
  refine ⟨_,rfl,(many:Int),rfl,by lia,by lia,fun d hd=>lc_rng 0 many (fun _=>true) (fun k=>V.int (1 + cellN ns (2 + k) % top)) (by lia) hd (fun i hi H Qt s kt=>kt H (Same.refl _)) (fun j hj H2 Qe _ s2 ke=>?_) (fun H1 s1 hd1=>?_)⟩
  ·have e:((2:Int) + (0 + (j:Int)))=((2 + j:Nat):Int):=by lia
   exact ⟨_,rfl,_,rfl,_,_,rfl,rfl,a,ns,2 + j,(by rw [<- e];rfl),s2.seq hS,_,rfl,_,_,rfl,rfl,h3,_,_,rfl,rfl,ke _ (Same.refl _)⟩
  rw [J21] at hd1;have eL:(List.range many).map (fun k=>V.int (1 + cellN ns (2 + k) % top))=iV (drawL ns many top):=by
   show _=(drawL ns many top).map V.int;unfold drawL;rw [map_map];rfl
  rw [eL] at hd1;refine ⟨Nat.zero_le _,fun ol hol=>?_⟩;refine ⟨_,rfl,(many:Int),rfl,by lia,by lia,for_range (lo:=0) (n:=many) (fun i σ H2=>∃ v,σ=[some (.ref a),some (.int many),some (.int top),some (.ref d),some (.ref ol),v]/\H2 ol=some (.lst (nV (drawO ns many i)))/\Same H1 H2)
   ⟨none,rfl,J0,J4 hol⟩ ?_ ?_⟩
  ·rintro i σ H2 hi ⟨v,rfl,ho,s2⟩;rw [Int.zero_add];obtain ⟨q1,q2⟩:=spotO_le ns many i;have e:((2:Int) + (many:Int) + (i:Int))=((2 + many + i:Nat):Int):=by lia
   have hlen:(nV (drawO ns many i)).length=i:=by rw [J1z,drawO_len]
   refine ⟨_,rfl,.inl ⟨rfl,_,SqL.of ho⟩,_,rfl,_,rfl,_,_,rfl,rfl,_,rfl,_,_,rfl,rfl,a,ns,2 + many + i,(by rw [<- e];rfl),(s1.trans s2).seq hS,_,rfl,_,_,rfl,rfl,_,_,rfl,rfl,(by lia),_,rfl,
    ol,_,spotO ns many i,V.int (i:Int),rfl,(by rw [q2]),ho,(by rw [hlen];exact q1),(by rw [hlen];exact Jp (by lia)),?_⟩
   refine ⟨_,rfl,?_,fun b o z=>?_⟩
   ·rw [J0,insV];rfl
   ·rw [J9 (J7 z hol)];exact s2 _ _ z
  ·rintro σ H2 ⟨v,rfl,ho,s2⟩;refine ⟨_,rfl,_,rfl,(by show 2<=sizeLine;decide),fun p hp=>?_⟩;have s4:=J4 (o:=.tup [.ref d,.ref ol]) hp;exact k p d ol _ (s1.trans (s2.trans s4)) J0 (s4 _ _ (s2 _ _ hd1)) (s4 _ _ ho)
def spLaw (K:Frag):Sp:=fun vs H Q _=>∃ (a:Addr) (ns:List Int),vs=[.ref a]/\SqL K H a (iV ns)/\ns.length<=63/\∀ H',Q (.bl true) H'
theorem rel_whole {ls:List Int} {os:List Nat} {ts:List Bool} (pm:os.Perm (List.range ls.length)):relO (J42 ls os ts)=os:=by
 show os.map (fun x=>(List.range ls.length).idxOf x)=os
 conv=>rhs;rw [<- map_id os]
 refine map_congr_left fun x hx=>?_;have hl:=mem_range.mp (pm.mem_iff.mp hx);exact idx_get nodup_range (getElem?_range hl)
theorem hand_rel {r:Rst} (h:r.Ok) (ne:r.top≠[]):(((relO r).length:Int) - ((fixL (J1e (relO r))).length:Nat) + 1) / 2=(hN r:Nat):=by
 obtain ⟨io,l⟩:=relO_ok h;have pos:=length_pos_iff.mpr ne;have e:=ends_gaps io (by lia);have t:=hN_two h;have e2:(fixL (J1e (relO r))).length=cnr r:=e;rw [e2,l];lia
theorem menu68 {m:Int} (h0:0<=m) (h1:m < 3):∃ top:Int,atI [V.int 3,V.int 60,V.int (10 ^ (6:Int).toNat)] m=some (V.int top)/\0 < top/\top<=10 ^ 28:=by
 have h:m=0\/m=1\/m=2:=by lia
 rcases h with rfl | rfl | rfl
 ·exact ⟨3,rfl,by decide,by decide⟩
 ·exact ⟨60,rfl,by decide,by decide⟩
 ·exact ⟨10 ^ (6:Int).toNat,rfl,by decide,by decide⟩
theorem rep_false (n:Nat):∀ j,(List.replicate n false).getD j false=false:=fun j=>by
 rw [getD_eq_getElem?_getD,List.getElem?_replicate];split <;> rfl
theorem scLaw:FnScope ["script","lead","many","drawn","chart","handles","last","k","rest","now"] ["script"] (J6 sLaw):=fS
theorem ok_law {f fC fD fCH fI fHA C CR CH:Addr} {fd fdC fdD fdCH fdI fdHA:FuncData} {cs:Kd->Addr} (F:Fun K "law" "law" sLaw f fd) (T:TxtR mg) (TR:TxtRest K CR) (TS:TxtS K cs) (TH:TxtCh K CH) (bI1:Binds K fdI ["self","lengths","order","turned"] [.none])
  (GC:FnOk P w K mg base CX0 1 fC fdC ["script","k"] (spCell K)) (bC:Binds K fdC ["script","k"] []) (mC:mg "_law_cell"=some (.ref fC)) (kC:keepIn K (.ref fC)=true)
  (GD:FnOk P w K mg base CX0 2 fD fdD ["script","many","top"] (spDrawn2 K)) (bD:Binds K fdD ["script","many","top"] []) (mD:mg "_law_drawn"=some (.ref fD)) (kD:keepIn K (.ref fD)=true)
  (MCH:Mk K CH fCH) (GCH:FnOk P w K mg base CX0 6 fCH fdCH ["self","line"] (spCInit C CR CH cs)) (bCH:Binds K fdCH ["self","line"] []) (mgCH:mg "Chart"=some (.ref CH))
  (MI:Mk K C fI) (GI:FnOk P w K mg base CX0 3 fI fdI ["self","lengths","order","turned"] (spInit C)) (bI:Binds K fdI ["self","lengths","order","turned"] []) (mgI:mg "Line"=some (.ref C))
  (GHA:FnOk P w K mg base CX0 6 fHA fdHA ["order"] spHandles) (bHA:Binds K fdHA ["order"] []) (mHA:mg "handles_of"=some (.ref fHA)) (kHA:keepIn K (.ref fHA)=true)
  (HW:∀ k,HasM P w K mg base CX0 1 "word" ["self"] (J39 k) (cs k)) :
  FnOk P w K mg base CX0 8 f fd ["script"] (spLaw K):=by
 refine F.ok scLaw (fun vs H Q E h=>?_) (fun cdv A outer s H vs Q E hr h=>?_)
 ·obtain ⟨a,ns,rfl,_⟩:=h;rfl
 ·obtain ⟨a,ns,rfl,hS,hn,k⟩:=h;have hr1:Room 1 _:=rm hr;have hr2:Room 2 _:=rm hr;have hr4:Room 4 _:=rm hr;have hr6:Room 6 _:=rm hr;have hr7:Room 7 _:=rm hr;refine ⟨_,(J1 (Jj (i:=1) scLaw.nd rfl (Or.inl rfl) (Jb GC hr1 rfl mC kC bC .nil pass0 (pa_cons (pv 0) (pa_cons Je J2))))
   (J1 (Jj (i:=2) scLaw.nd rfl (Or.inl rfl) (pe_op J2g Je (pe_op op_mod (pv 1) Je)))
   (J1 (Jj (i:=3) scLaw.nd rfl (Or.inl rfl) (Jb GD hr2 rfl mD kD bD .nil pass0 (pa_cons (pv 0) (pa_cons (pv 2) (pa_cons (pe_ix ix_list (J2p (pa_cons Je (pa_cons Je (pa_cons (pe_op op_pow Je Je) J2)))) (pe_op op_mod (pe_op op_fdiv (pv 1) Je) Je) (fun _ _=>rfl)) J2)))))
   (J1 (Jj (i:=4) scLaw.nd rfl (Or.inl rfl) (J1b MCH GCH hr7 rfl mgCH bCH .nil pass0 (pa_cons (J1b (dvs:=[.non]) MI GI hr4 rfl mgI bI1 (.cons rfl .nil) pass0 (pa_cons (pe_ix ix_tup (pv 3) Je (fun _ _=>rfl)) (pa_cons (pe_ix ix_tup (pv 3) Je (fun _ _=>rfl)) J2))) J2)))
   (J1 (Jj (i:=5) scLaw.nd rfl (Or.inl rfl) (Jb GHA hr6 rfl mHA kHA bHA .nil pass0 (pa_cons (pe_ix ix_tup (pv 3) Je (fun _ _=>rfl)) J2)))
   (J1 (ps_if (PW.pt (pw_or (Jm op_lt (Jh Jc (by rfl) T.len boot_len (pa_cons (Ja (pv 4) rfl) J2)) Je (J14 _)) (pw_or1 (Jm op_gt (pe_op J2g (Jh Jc (by rfl) T.len boot_len (pa_cons (Ja (pv 4) rfl) J2)) (pv 5)) (pv 2) (J14 _))))) (J8 (Ji pe_bl)) J16)
   (J1 (Jj (i:=6) scLaw.nd rfl (Or.inl rfl) (pv 5))
   (J1 (ps_for PassesOwn.never rfl (pi_range2 rfl T.range (pa_cons Je (pa_cons (pe_op J64 (Jh Jc (by rfl) T.len boot_len (pa_cons (Ja (pv 4) rfl) J2)) Je) J2))) (J1w (i:=7) scLaw.nd rfl (Or.inl rfl))
    (J1 (Jj (i:=8) scLaw.nd rfl (Or.inr rfl) (pe_ix ix_tup (Ja (pv 4) rfl) (pv 7) (fun _ _=>rfl)))
    (J1 (Jj (i:=9) scLaw.nd rfl (Or.inl rfl) (Jb GHA hr6 rfl mHA kHA bHA .nil pass0 (pa_cons (pe_lc (caps:=["rest"]) (js:=[8]) rfl (pi_tup (Ja (pv 8) rfl)) rfl (fun _ _ _ _=>J3u) (fun C fp s H=>(pe_bmT PySem.F.slot_tuple_index PySem.F.type_tuple_index mt_indexT (pe_flK K (pv 1)) (pa_cons (pv 0) J2))) (by decide +kernel) (by decide +kernel) (by decide +kernel) (by intro p hp;simp only [mem_cons,not_mem_nil,or_false] at hp;rcases hp with rfl;rfl)) J2)))
    (J1 (ps_if (PW.pt (pw_and (Jm op_ne (pv 9) (pv 6) (J14 _)) (pw_and1 (PW.pt (pw_or (Jm op_ne (pv 9) (pe_op J64 (pv 6) Je) (J14 _)) (pw_or1 (Jm op_ne (pe_methD0 (sp:=J39) (cls:=cs) (pe_ix ix_tup (Ja (pv 4) rfl) (pe_op J64 (pv 7) Je) (fun _ _=>rfl)) HW hr1 pass0) J4l (J14 _)))))))) (J8 (Ji pe_bl)) J16)
    (J8 (Jj (i:=6) scLaw.nd rfl (Or.inl rfl) (pv 9)))))))
   (J8 (Ji (pe_cmpR op_eq (pv 6) Je (J14 _)))))))))))),?_⟩
  obtain ⟨top,at1,t1,t2⟩:=menu68 (m:=cellN ns 0 / 8 % 3) (Int.emod_nonneg _ (by decide)) (Int.emod_lt_of_pos _ (by decide));have c0:0<=cellN ns 0 % 8:=Int.emod_nonneg _ (by decide);have c1:cellN ns 0 % 8 < 8:=Int.emod_lt_of_pos _ (by decide);obtain ⟨many,hm⟩:∃ many:Nat,1 + cellN ns 0 % 8=(many:Int):=⟨(1 + cellN ns 0 % 8).toNat,by lia⟩;refine ⟨_,rfl,a,ns,0,rfl,hS,?_⟩;refine ⟨_,rfl,_,_,rfl,rfl,(by show (0:Int) < 8;decide),_,_,rfl,rfl,?_⟩;dsimp only;rw [hm];refine ⟨_,rfl,_,rfl,_,_,rfl,rfl,⟨by decide,by decide,by decide⟩,(by show 3<=sizeLine;decide),fun me hme=>?_⟩;have s1:=J4 (o:=.lst [V.int 3,V.int 60,V.int (10 ^ (6:Int).toNat)]) hme;have hme1:=J0 (H:=H) (a:=me) (o:=.lst [V.int 3,V.int 60,V.int (10 ^ (6:Int).toNat)]);refine ⟨_,rfl,_,_,rfl,rfl,⟨by decide,by decide⟩,_,_,rfl,rfl,(by show (0:Int) < 3;decide),me,_,_,_,rfl,rfl,SqL.of hme1,at1,?_⟩;refine ⟨a,ns,many,top,rfl,s1.seq hS,by lia,by lia,t1,fun dp dl ol H2 s2 d0 d1 d2=>?_⟩;have G:=drawn_good ns (many:=many) (top:=top) (by lia) (by lia) t1 t2;have hll:=drawL_len ns many top;generalize drawL ns many top=ls at *;generalize drawO ns many many=os at *;obtain ⟨ts,ets⟩:∃ ts,ts=List.replicate ls.length false:=⟨_,rfl⟩;have hts:ts.length=ls.length:=by rw [ets];exact List.length_replicate
  refine ⟨_,rfl,dp,_,_,_,rfl,rfl,SqT.of d0,Jl (j:=0) rfl,_,rfl,dp,_,_,_,rfl,rfl,SqT.of d0,Jl (j:=1) rfl,fun x dx hx hdx hne=>?_⟩;have sx:=(J4 (o:=.own x) hdx).trans (J4 (l:=x) (o:=.ins C dx []) (by rw [J9 (Ne.symm hne)];exact hx));refine ⟨x,dx,dl,ol,.non,ls,os,ts,rfl,J0,.inl (sx _ _ d1),.inl (sx _ _ d2),G,⟨hts,.inl ⟨rfl,ets⟩⟩,fun H3 L kp=>⟨rfl,?_⟩⟩;have g2:=G.hi;have g1:=G.lo;have ok0:(J42 ls os ts).Ok:=whole_ok G.perm G.pos hts g2;have z0:(J42 ls os ts).size<=10 ^ 30:=by rw [ok0.size_sum];exact G.sum
  have s3:Same H2 H3:=fun b o e=>kp _ _ (sx _ _ e) (J7 e hx);intro xc dc hxc hdc hnc;have sc:=(J4 (o:=.own xc) hdc).trans (J4 (l:=xc) (o:=.ins CH dc []) (by rw [J9 (Ne.symm hnc)];exact hxc));refine ⟨xc,dc,x,ls,os,ts,rfl,J0,L.same sc,ok0,z0,g1,fun m H4 lg tp A0 kc=>⟨rfl,?_⟩⟩;have s4:Same H3 H4:=fun b o e=>kc _ _ (sc _ _ e) (J7 e hxc);have s24:=s3.trans s4;have cok0:Cok (J37 ls os ts):=whole_cok ok0 z0;have few:=cok0.few lg;obtain ⟨dq,fs,pr,ps,pt,pb,xr,xs,xt,xb,h0,⟨lL,lR,lS,lT,lB⟩,⟨h1,h2,h3,h4⟩,r1,r2,r3,r4⟩:=A0.ex;have hf0:∀ j,(J37 ls os ts).1.ts.getD j false=false:=fun j=>by
   show ts.getD j false=false;rw [ets];exact rep_false _ j
  have ne0:(J37 ls os ts).1.top≠[]:=fun e=>by
   have h:(List.range ls.length).length=0:=by rw [show List.range ls.length=[] from e];rfl
   rw [length_range] at h;lia
  have lt0:(J37 ls os ts).1.top.length=many:=by
   show (List.range ls.length).length=many;rw [length_range,hll]
  obtain ⟨m1,b1,b2,b3⟩:=bands_all cok0 hf0 lg tp ne0;rw [lt0] at b2;have er:relO (J37 ls os ts).1=os:=rel_whole G.perm;have eh:=hand_rel ok0 ne0;rw [er] at eh;obtain ⟨io0,lo0⟩:=relO_ok ok0;rw [er] at io0 lo0;have lo0:os.length=many:=lo0.trans lt0;have ts0:=fun k=>ts_at hf0 k;obtain ⟨p0,ep0⟩:∃ p0,p0=J37 ls os ts:=⟨_,rfl⟩;have eh:((os.length:Int) - ((fixL (J1e os)).length:Nat) + 1) / 2=(hN p0.1:Nat):=by rw [ep0];exact eh
  rw [<- ep0] at cok0 lg tp r1 r2 r3 r4 b1 b2 b3 ts0;have lb:xb.length=(bndN p0 m).length:=r4.len;refine ⟨_,rfl,dp,_,_,_,rfl,rfl,SqT.of (s24 _ _ d0),Jl (j:=1) rfl,ol,os,rfl,.inl (s24 _ _ d2),io0,by lia,by lia,fun H5 s5=>?_⟩;rw [eh];refine ⟨_,rfl,xc,CH,dq,fs,_,rfl,s5 _ _ h0,TH.cl,TH.nB,lB,pb,_,rfl,.inr (SqT.of (s5 _ _ h4)),_,_,rfl,rfl,_,rfl,iteD (by rw [lb];lia) ?_⟩;refine ⟨_,rfl,xc,CH,dq,fs,_,rfl,s5 _ _ h0,TH.cl,TH.nB,lB,pb,_,rfl,.inr (SqT.of (s5 _ _ h4)),_,rfl,_,_,rfl,rfl,_,rfl,_,_,rfl,rfl,_,rfl,iteD (by rw [lb];lia) ?_⟩;refine ⟨_,rfl,?_⟩;have lr:(xr.length:Int)=((m + 1:Nat):Int):=by rw [r1.len]
  refine ⟨_,rfl,xc,CH,dq,fs,_,rfl,s5 _ _ h0,TH.cl,TH.nR,lR,pr,_,rfl,.inr (SqT.of (s5 _ _ h1)),_,_,rfl,rfl,_,_,rfl,⟨by decide,by decide,by rw [lr];lia,by rw [lr];lia⟩,?_⟩;have en:((xr.length:Int) - 1 - 1).toNat=m - 1:=by rw [lr];lia
  rw [en];refine for_range (lo:=1) (n:=m - 1) (fun i σ Hw=>∃ (v7 v8 v9:Option V),σ=[some (.ref a),some (.int (cellN ns 0)),some (.int (many:Nat)),some (.ref dp),some (.ref xc),some (.int (hN p0.1:Nat)),some (.int (hN (chN p0 i).1:Nat)),v7,v8,v9]/\Same H5 Hw) ⟨none,none,none,rfl,Same.refl _⟩ ?_ ?_
  ·rintro i σ Hw hi ⟨v7,v8,v9,rfl,sw⟩;have e1:(1:Int) + (i:Int)=((i + 1:Nat):Int):=by lia
   rw [e1];have lgi:Long p0 (i + 1):=fun j hj=>lg j (by lia);have cok:=cok0.at_ lgi;have coki:=cok0.at_ (k:=i) fun j hj=>lg j (by lia);have nei:=lg (i + 1) (by lia);have hst:=(hN_step coki.ok (lg i (by lia)) (ts0 i)).1;have hst:hN (chN p0 (i + 1)).1=hN (chN p0 i).1\/(hN (chN p0 (i + 1)).1 + 1=hN (chN p0 i).1/\∃ a b,nextN (chN p0 i).1=.even a b):=hst;obtain ⟨yi,eyi,Ri⟩:=r1.at_ (i + 1) (by lia);have s5w:=s5.trans sw;have Ri:=Ri.same s5w;obtain ⟨si,esi,dsi,hsi⟩:=r2.at_ i (by lia);have h0w:=s5w _ _ h0;have h1w:=s5w _ _ h1;have h2w:=s5w _ _ h2;have hsiw:=s5w _ _ hsi;have hnow:=hand_rel cok.ok nei;obtain ⟨ior,lor⟩:=relO_ok cok.ok;have okr:=cok.ok;have posr:=length_pos_iff.mpr nei;have l24:(chN p0 (i + 1)).1.top.length<=24:=Nat.le_trans okr.row.len_le okr.few;generalize hr1:(chN p0 (i + 1)).1=r at *;obtain ⟨di,fi,it,ib,il,iu,i0,⟨i1,i2,i3,i4,i5⟩,o1,o2,o3,o4⟩:=Ri.ex;refine ⟨_,rfl,xc,CH,dq,fs,_,rfl,h0w,TH.cl,TH.nR,lR,_,rfl,pr,_,_,_,rfl,rfl,SqT.of h1w,Jl eyi,?_⟩;refine ⟨_,rfl,yi,CR,di,fi,_,rfl,i0,TR.cl,TR.nB,i2,ib,rfl,⟨_,SqT.of o2⟩,fun d hd=>lc_tup (fun (x:Nat)=>V.int (x:Int)) r.bot (fun _=>true) (fun x=>V.int (r.top.idxOf x:Nat)) (by rw [<- nV_eq];exact SqT.of o2) (by rw [okr.lens];lia) hd (fun x _ H Qt _ kt=>kt H (Same.refl _)) (fun x hx H6 Qe _ s6 ke=>?_) (fun H6 s6 hd6=>?_)⟩
   ·refine ⟨_,rfl,yi,CR,di,fi,_,rfl,s6 _ _ i0,TR.cl,TR.nT,i1,⟨it,_,rfl,s6 _ _ o1⟩,_,rfl,it,natI r.top,(x:Int),rfl,rfl,s6 _ _ o1,J5f (okr.perm.mem_iff.mp hx),?_⟩;rw [J5l];exact ke _ (Same.refl _)
   rw [J21] at hd6;have hd7:H6 d=some (.lst (nV (relO r))):=by
    rw [hd6,nV_eq];show _=some (HO.lst ((r.bot.map fun x=>r.top.idxOf x).map fun (n:Nat)=>V.int (n:Int)));rw [map_map];rfl
   refine ⟨d,relO r,rfl,.inl hd7,ior,by lia,by lia,fun H7 s7=>?_⟩;rw [hnow];have s57:=sw.trans (s6.trans s7);refine ⟨_,rfl,_,rfl,rfl,_,rfl,?_⟩;rcases hst with e | ⟨e,ea,eb,ev⟩
   ·rw [e];refine iteNS rfl ?_;exact ⟨_,rfl,_,_,_,rfl,s57⟩
   ·refine iteND (fun z=>by have:=V.int.inj z;lia) ?_;refine ⟨_,rfl,_,rfl,_,_,rfl,rfl,rfl,_,rfl,iteNS (congrArg V.int (by lia)) ?_⟩;have s7w:=s5w.trans (s6.trans s7);have ai:atI xs (((i + 1:Nat):Int) - 1)=some (V.ref si):=by
     rw [show ((i + 1:Nat):Int) - 1=(i:Int) by lia];exact Jl esi
    refine ⟨_,rfl,xc,CH,dq,fs,_,rfl,s7w _ _ h0,TH.cl,TH.nS,lS,_,rfl,_,_,rfl,rfl,ps,_,_,_,rfl,rfl,SqT.of (s7w _ _ h2),ai,si,kd (nextN (chN p0 i).1),dsi,stF (nextN (chN p0 i).1),rfl,s7w _ _ hsi,stF_no _ (by decide +kernel) (by decide +kernel) (by decide +kernel),si,rfl,rfl,_,rfl,iteNS (by rw [ev];rfl) ?_⟩;exact ⟨_,rfl,_,_,_,rfl,s57⟩
  ·rintro σ Hw ⟨v7,v8,v9,rfl,sw⟩;rw [b3];refine ⟨_,rfl,rfl,?_⟩;exact k _
end
end R68
namespace R68
open PySem L2 Rl
theorem dflt_binds {K:Frag} {x qual:Str} {st:Stmt} {f TD:Addr} {fd:FuncData} {cT:Value} {dT:Option Addr} {nT:Nat} {slT:Array (Option Value)} (F:FunD K x qual st f fd TD) (lT:K.lookup TD=some ⟨cT,dT,.seq #[.none] nT,slT⟩) (ps:List Str)
  (h0:∀ (kV doc pm:Value) (an:Option Addr) (cdv ct:Value) (us:List Value),us.length=ps.length->∃ k,bindArgs (fnOf x qual (J23 st) (J1i st) (J6 st) (.ref TD) kV doc pm an cdv ct) ⟨us,[]⟩=seqItems? (.ref TD) >>= k/\k (some #[.none])=pure (ps.zip us))
  (h1:∀ (kV doc pm:Value) (an:Option Addr) (cdv ct:Value) (us:List Value),(us ++ [Value.none]).length=ps.length->∃ k,bindArgs (fnOf x qual (J23 st) (J1i st) (J6 st) (.ref TD) kV doc pm an cdv ct) ⟨us,[]⟩=seqItems? (.ref TD) >>= k/\k (some #[.none])=pure (ps.zip (us ++ [Value.none]))) :
  Binds K fd ps []/\Binds K fd ps [.none]:=by
 obtain ⟨oc,od,kV,doc,pm,an,cdv,ct,osl,rfl,lk,hcd⟩:=F.ex;refine ⟨fun s us X hl=>?_,fun s us X hl=>?_⟩
 ·rw [append_nil] at hl ⊢;obtain ⟨k,e1,e2⟩:=h0 kV doc pm an cdv ct us hl;exact BindsTo.of_defaults (T:=TD) rfl (X _ _ lT) rfl e1 e2
 ·obtain ⟨k,e1,e2⟩:=h1 kV doc pm an cdv ct us hl;exact BindsTo.of_defaults (T:=TD) rfl (X _ _ lT) rfl e1 e2
def csOf (a b c d e f:Addr):Kd->Addr
 | .ho=>a | .ev=>b | .ov=>c | .un=>d | .os=>e | .us=>f
abbrev DfI (K:Frag) (x:Str) (st:Stmt) (f:Addr) (od an:Option Addr) (sl:Array (Option Value)) (oc kV dc pm cd ct:Value):Prop:=nsIn K mainGlobals x=some (some (.ref f))/\K.lookup f=some ⟨oc,od,.func (fnOf x x (J23 st) (J1i st) (J6 st) .none kV dc pm an cd ct),sl⟩/\codeIn K cd x=true/\keepIn K (.ref f)=true
abbrev MeI (K:Frag) (C:Addr) (x q:Str) (st:Stmt) (D:Value) (f:Addr) (od an:Option Addr) (sl:Array (Option Value)) (oc kV dc pm cd ct:Value):Prop:=findIn K (.ref C) x=some (some (.ref f))/\isFn K (.ref f)=true/\K.lookup f=some ⟨oc,od,.func (fnOf x q (J23 st) (J1i st) (J6 st) D kV dc pm an cd ct),sl⟩/\codeIn K cd q=true/\keepIn K (.ref f)=true
abbrev NaI (K:Frag) (x:Str) (C:Addr):Prop:=nsIn K mainGlobals x=some (some (.ref C))
abbrev NzI (K:Frag) (x:Str):Prop:=nsIn K mainGlobals x=some none
abbrev FiI (K:Frag) (C:Addr) (x:Str) (f:Addr):Prop:=findIn K (.ref C) x=some (some (.ref f))
abbrev FnI (K:Frag) (C:Addr) (x:Str):Prop:=findIn K (.ref C) x=some none
abbrev ClI (K:Frag) (C:Addr):Prop:=plainGet K C Str.empty=true/\hasDictIn K C=true/\plainOver K C=true/\findIn K (.ref C) "__setattr__"=some (some (.builtin "object.__setattr__"))
abbrev MkI (K:Frag) (C:Addr):Prop:=makesIn K C=true/\keepIn K (.ref C)=true
theorem dfn {K:Frag} {h:Heap} {mg:Str->Option Value} (X:K.In h) (G:h.Ns mainGlobals mg) {x:Str} {st:Stmt} {f:Addr} {od an:Option Addr} {sl:Array (Option Value)} {oc kV dc pm cd ct:Value} (d:DfI K x st f od an sl oc kV dc pm cd ct) :
  Fun K x x st f (fnOf x x (J23 st) (J1i st) (J6 st) .none kV dc pm an cd ct)/\mg x=some (.ref f)/\keepIn K (.ref f)=true:=⟨J18 d.2.1 d.2.2.1 d.2.2.2,mg_of X G d.1,d.2.2.2⟩
theorem clf {K:Frag} {C:Addr} (d:ClI K C):Cls K C:=⟨d.1,d.2.1,d.2.2.1,d.2.2.2⟩
theorem usOf0 {P:List PySem.Value → Prop} (h : P []) : ∀ us : List PySem.Value,us.length = 0 → P us := fun us e => by
  cases us with
  | nil => exact h
  | cons a l => cases e
theorem usS {P:List PySem.Value → Prop} {n : Nat} (h : ∀ a us,us.length = n → P (a :: us)) : ∀ us : List PySem.Value,us.length = n + 1 → P us := fun us e => by
  cases us with
  | nil => cases e
  | cons a l => exact h a l (Nat.succ.inj e)
theorem usOf1 {P:List PySem.Value → Prop} (h : ∀ a0,P [a0]) : ∀ us : List PySem.Value,us.length = 1 → P us := usS fun a => usOf0 (P := fun us => P (a :: us)) (h a)
theorem usOf2 {P:List PySem.Value → Prop} (h : ∀ a0 a1,P [a0,a1]) : ∀ us : List PySem.Value,us.length = 2 → P us := usS fun a => usOf1 (P := fun us => P (a :: us)) (h a)
theorem usOf3 {P:List PySem.Value → Prop} (h : ∀ a0 a1 a2,P [a0,a1,a2]) : ∀ us : List PySem.Value,us.length = 3 → P us := usS fun a => usOf2 (P := fun us => P (a :: us)) (h a)
theorem usOf4 {P:List PySem.Value → Prop} (h : ∀ a0 a1 a2 a3,P [a0,a1,a2,a3]) : ∀ us : List PySem.Value,us.length = 4 → P us := usS fun a => usOf3 (P := fun us => P (a :: us)) (h a)
theorem usOf5 {P:List PySem.Value → Prop} (h : ∀ a0 a1 a2 a3 a4,P [a0,a1,a2,a3,a4]) : ∀ us : List PySem.Value,us.length = 5 → P us := usS fun a => usOf4 (P := fun us => P (a :: us)) (h a)
theorem all_mk {l : PySem.W.OpenLaw} {w : World} {K : Frag} {h : Heap} {mg : Str -> Option Value} {fa  CBadOrder C CR CH CSt CHo CEv COv CUn COs CUs : Addr} (X : K.In h) (G : h.Ns mainGlobals mg) (hfa : mg "law" = some (.ref fa))
    {f0 f1 f2 f3 f4 f5 f6 f7 f8 f9 f10 f11 f12 f13 f14 f15 f16 f17 f18 f19 f20 f21 f22 f23 f24 f25 f26 f27 f28 f29 f30 f31 f_LI f_RI f_HI f_StI f_StL f_HoI f_HoW f_HoL f_HoB f_EvI f_EvW f_EvB f_OvI f_OvW f_OvB f_UnI f_UnW f_UnB f_OsI f_OsW f_OsL f_OsB f_UsI f_UsW f_UsL f_UsB : Addr} {od0 an0 od1 an1 od2 an2 od3 an3 od4 an4 od5 an5 od6 an6 od7 an7 od8 an8 od9 an9 od10 an10 od11 an11 od12 an12 od13 an13 od14 an14 od15 an15 od16 an16 od17 an17 od18 an18 od19 an19 od20 an20 od21 an21 od22 an22 od23 an23 od24 an24 od25 an25 od26 an26 od27 an27 od28 an28 od29 an29 od30 an30 od31 an31 od_LI an_LI od_RI an_RI od_HI an_HI od_StI an_StI od_StL an_StL od_HoI an_HoI od_HoW an_HoW od_HoL an_HoL od_HoB an_HoB od_EvI an_EvI od_EvW an_EvW od_EvB an_EvB od_OvI an_OvI od_OvW an_OvW od_OvB an_OvB od_UnI an_UnI od_UnW an_UnW od_UnB an_UnB od_OsI an_OsI od_OsW an_OsW od_OsL an_OsL od_OsB an_OsB od_UsI an_UsI od_UsW an_UsW od_UsL an_UsL od_UsB an_UsB : Option Addr} {sl0 sl1 sl2 sl3 sl4 sl5 sl6 sl7 sl8 sl9 sl10 sl11 sl12 sl13 sl14 sl15 sl16 sl17 sl18 sl19 sl20 sl21 sl22 sl23 sl24 sl25 sl26 sl27 sl28 sl29 sl30 sl31 sl_LI sl_RI sl_HI sl_StI sl_StL sl_HoI sl_HoW sl_HoL sl_HoB sl_EvI sl_EvW sl_EvB sl_OvI sl_OvW sl_OvB sl_UnI sl_UnW sl_UnB sl_OsI sl_OsW sl_OsL sl_OsB sl_UsI sl_UsW sl_UsL sl_UsB : Array (Option Value)} {oc0 kV0 dc0 pm0 cd0 ct0 oc1 kV1 dc1 pm1 cd1 ct1 oc2 kV2 dc2 pm2 cd2 ct2 oc3 kV3 dc3 pm3 cd3 ct3 oc4 kV4 dc4 pm4 cd4 ct4 oc5 kV5 dc5 pm5 cd5 ct5 oc6 kV6 dc6 pm6 cd6 ct6 oc7 kV7 dc7 pm7 cd7 ct7 oc8 kV8 dc8 pm8 cd8 ct8 oc9 kV9 dc9 pm9 cd9 ct9 oc10 kV10 dc10 pm10 cd10 ct10 oc11 kV11 dc11 pm11 cd11 ct11 oc12 kV12 dc12 pm12 cd12 ct12 oc13 kV13 dc13 pm13 cd13 ct13 oc14 kV14 dc14 pm14 cd14 ct14 oc15 kV15 dc15 pm15 cd15 ct15 oc16 kV16 dc16 pm16 cd16 ct16 oc17 kV17 dc17 pm17 cd17 ct17 oc18 kV18 dc18 pm18 cd18 ct18 oc19 kV19 dc19 pm19 cd19 ct19 oc20 kV20 dc20 pm20 cd20 ct20 oc21 kV21 dc21 pm21 cd21 ct21 oc22 kV22 dc22 pm22 cd22 ct22 oc23 kV23 dc23 pm23 cd23 ct23 oc24 kV24 dc24 pm24 cd24 ct24 oc25 kV25 dc25 pm25 cd25 ct25 oc26 kV26 dc26 pm26 cd26 ct26 oc27 kV27 dc27 pm27 cd27 ct27 oc28 kV28 dc28 pm28 cd28 ct28 oc29 kV29 dc29 pm29 cd29 ct29 oc30 kV30 dc30 pm30 cd30 ct30 oc31 kV31 dc31 pm31 cd31 ct31 oc_LI kV_LI dc_LI pm_LI cd_LI ct_LI oc_RI kV_RI dc_RI pm_RI cd_RI ct_RI oc_HI kV_HI dc_HI pm_HI cd_HI ct_HI oc_StI kV_StI dc_StI pm_StI cd_StI ct_StI oc_StL kV_StL dc_StL pm_StL cd_StL ct_StL oc_HoI kV_HoI dc_HoI pm_HoI cd_HoI ct_HoI oc_HoW kV_HoW dc_HoW pm_HoW cd_HoW ct_HoW oc_HoL kV_HoL dc_HoL pm_HoL cd_HoL ct_HoL oc_HoB kV_HoB dc_HoB pm_HoB cd_HoB ct_HoB oc_EvI kV_EvI dc_EvI pm_EvI cd_EvI ct_EvI oc_EvW kV_EvW dc_EvW pm_EvW cd_EvW ct_EvW oc_EvB kV_EvB dc_EvB pm_EvB cd_EvB ct_EvB oc_OvI kV_OvI dc_OvI pm_OvI cd_OvI ct_OvI oc_OvW kV_OvW dc_OvW pm_OvW cd_OvW ct_OvW oc_OvB kV_OvB dc_OvB pm_OvB cd_OvB ct_OvB oc_UnI kV_UnI dc_UnI pm_UnI cd_UnI ct_UnI oc_UnW kV_UnW dc_UnW pm_UnW cd_UnW ct_UnW oc_UnB kV_UnB dc_UnB pm_UnB cd_UnB ct_UnB oc_OsI kV_OsI dc_OsI pm_OsI cd_OsI ct_OsI oc_OsW kV_OsW dc_OsW pm_OsW cd_OsW ct_OsW oc_OsL kV_OsL dc_OsL pm_OsL cd_OsL ct_OsL oc_OsB kV_OsB dc_OsB pm_OsB cd_OsB ct_OsB oc_UsI kV_UsI dc_UsI pm_UsI cd_UsI ct_UsI oc_UsW kV_UsW dc_UsW pm_UsW cd_UsW ct_UsW oc_UsL kV_UsL dc_UsL pm_UsL cd_UsL ct_UsL oc_UsB kV_UsB dc_UsB pm_UsB cd_UsB ct_UsB : Value} {TD : Addr} {dT : Option Addr} {slT : Array (Option Value)} {cT : Value} {nT : Nat}
     {t_MOST_PIECES : Tok}
    (a_L : NaI K "Line" C) (a_R : NaI K "Rest" CR) (a_H : NaI K "Chart" CH) (a_St : NaI K "Step" CSt) (a_Ho : NaI K "Home" CHo) (a_Ev : NaI K "Even" CEv) (a_Ov : NaI K "Over" COv) (a_Un : NaI K "Under" CUn) (a_Os : NaI K "Overs" COs) (a_Us : NaI K "Unders" CUs) (d0 : DfI K "refuse_lengths" sRefL f0 od0 an0 sl0 oc0 kV0 dc0 pm0 cd0 ct0) (d1 : DfI K "refuse_order" sRefO f1 od1 an1 sl1 oc1 kV1 dc1 pm1 cd1 ct1) (d2 : DfI K "refuse_order_of" sRefOf f2 od2 an2 sl2 oc2 kV2 dc2 pm2 cd2 ct2) (d3 : DfI K "refuse_turned" sRefT f3 od3 an3 sl3 oc3 kV3 dc3 pm3 cd3 ct3) (d4 : DfI K "turns_told" sTold f4 od4 an4 sl4 oc4 kV4 dc4 pm4 cd4 ct4) (d5 : DfI K "first_places" sFirst f5 od5 an5 sl5 oc5 kV5 dc5 pm5 cd5 ct5) (d6 : DfI K "refuse_pieces" sRefP f6 od6 an6 sl6 oc6 kV6 dc6 pm6 cd6 ct6) (d7 : DfI K "left_end" sLeftE f7 od7 an7 sl7 oc7 kV7 dc7 pm7 cd7 ct7) (d8 : DfI K "right_end" sRightE f8 od8 an8 sl8 oc8 kV8 dc8 pm8 cd8 ct8) (d9 : DfI K "meetings_along" sMeetA f9 od9 an9 sl9 oc9 kV9 dc9 pm9 cd9 ct9) (d10 : DfI K "meetings" sMeets f10 od10 an10 sl10 oc10 kV10 dc10 pm10 cd10 ct10) (d11 : DfI K "corners_by_end" sCornE f11 od11 an11 sl11 oc11 kV11 dc11 pm11 cd11 ct11) (d12 : DfI K "number_of_corners" sCornN f12 od12 an12 sl12 oc12 kV12 dc12 pm12 cd12 ct12) (d13 : DfI K "handles_of" J5y f13 od13 an13 sl13 oc13 kV13 dc13 pm13 cd13 ct13) (d14 : DfI K "length_of" sLenOf f14 od14 an14 sl14 oc14 kV14 dc14 pm14 cd14 ct14) (d15 : DfI K "rest_of" sRestOf f15 od15 an15 sl15 oc15 kV15 dc15 pm15 cd15 ct15) (d16 : DfI K "without" J5x f16 od16 an16 sl16 oc16 kV16 dc16 pm16 cd16 ct16) (d17 : DfI K "letters_behind" J60 f17 od17 an17 sl17 oc17 kV17 dc17 pm17 cd17 ct17) (d18 : DfI K "put_beside" sPut f18 od18 an18 sl18 oc18 kV18 dc18 pm18 cd18 ct18) (d19 : DfI K "changed" J5z f19 od19 an19 sl19 oc19 kV19 dc19 pm19 cd19 ct19) (d20 : DfI K "shortened" sShort f20 od20 an20 sl20 oc20 kV20 dc20 pm20 cd20 ct20) (d21 : DfI K "turns_behind" sTurnsB f21 od21 an21 sl21 oc21 kV21 dc21 pm21 cd21 ct21) (d22 : DfI K "whole_times" sTimes f22 od22 an22 sl22 oc22 kV22 dc22 pm22 cd22 ct22) (d23 : DfI K "over_step" sOverS f23 od23 an23 sl23 oc23 kV23 dc23 pm23 cd23 ct23) (d24 : DfI K "under_step" sUnderS f24 od24 an24 sl24 oc24 kV24 dc24 pm24 cd24 ct24) (d25 : DfI K "next_step" sNext f25 od25 an25 sl25 oc25 kV25 dc25 pm25 cd25 ct25) (d26 : DfI K "first_towers" sFirstT f26 od26 an26 sl26 oc26 kV26 dc26 pm26 cd26 ct26) (d27 : DfI K "towers_behind" sTowB f27 od27 an27 sl27 oc27 kV27 dc27 pm27 cd27 ct27) (d28 : DfI K "bands_left" sBandsL f28 od28 an28 sl28 oc28 kV28 dc28 pm28 cd28 ct28) (d29 : DfI K "_law_cell" sCell f29 od29 an29 sl29 oc29 kV29 dc29 pm29 cd29 ct29) (d30 : DfI K "_law_drawn" sDrawn2 f30 od30 an30 sl30 oc30 kV30 dc30 pm30 cd30 ct30) (d31 : DfI K "law" sLaw f31 od31 an31 sl31 oc31 kV31 dc31 pm31 cd31 ct31) (me_LI : MeI K C "__init__" "Line.__init__" sInit (.ref TD) f_LI od_LI an_LI sl_LI oc_LI kV_LI dc_LI pm_LI cd_LI ct_LI) (lT : K.lookup TD = some ⟨cT, dT, .seq #[.none] nT, slT⟩) (me_RI : MeI K CR "__init__" "Rest.__init__" sRInit .none f_RI od_RI an_RI sl_RI oc_RI kV_RI dc_RI pm_RI cd_RI ct_RI) (me_HI : MeI K CH "__init__" "Chart.__init__" sChInit .none f_HI od_HI an_HI sl_HI oc_HI kV_HI dc_HI pm_HI cd_HI ct_HI) (me_StI : MeI K CSt "__init__" "Step.__init__" sStInit .none f_StI od_StI an_StI sl_StI oc_StI kV_StI dc_StI pm_StI cd_StI ct_StI) (me_StL : MeI K CSt "losers" "Step.losers" J4a .none f_StL od_StL an_StL sl_StL oc_StL kV_StL dc_StL pm_StL cd_StL ct_StL) (me_HoI : MeI K CHo "__init__" "Home.__init__" sHoInit .none f_HoI od_HoI an_HoI sl_HoI oc_HoI kV_HoI dc_HoI pm_HoI cd_HoI ct_HoI) (me_HoW : MeI K CHo "word" "Home.word" sHoWord .none f_HoW od_HoW an_HoW sl_HoW oc_HoW kV_HoW dc_HoW pm_HoW cd_HoW ct_HoW) (me_HoL : MeI K CHo "losers" "Home.losers" J4e .none f_HoL od_HoL an_HoL sl_HoL oc_HoL kV_HoL dc_HoL pm_HoL cd_HoL ct_HoL) (me_HoB : MeI K CHo "behind" "Home.behind" J4f .none f_HoB od_HoB an_HoB sl_HoB oc_HoB kV_HoB dc_HoB pm_HoB cd_HoB ct_HoB) (me_EvI : MeI K CEv "__init__" "Even.__init__" sEvInit .none f_EvI od_EvI an_EvI sl_EvI oc_EvI kV_EvI dc_EvI pm_EvI cd_EvI ct_EvI) (me_EvW : MeI K CEv "word" "Even.word" sEvWord .none f_EvW od_EvW an_EvW sl_EvW oc_EvW kV_EvW dc_EvW pm_EvW cd_EvW ct_EvW) (me_EvB : MeI K CEv "behind" "Even.behind" J4g .none f_EvB od_EvB an_EvB sl_EvB oc_EvB kV_EvB dc_EvB pm_EvB cd_EvB ct_EvB) (me_OvI : MeI K COv "__init__" "Over.__init__" sOvInit .none f_OvI od_OvI an_OvI sl_OvI oc_OvI kV_OvI dc_OvI pm_OvI cd_OvI ct_OvI) (me_OvW : MeI K COv "word" "Over.word" sOvWord .none f_OvW od_OvW an_OvW sl_OvW oc_OvW kV_OvW dc_OvW pm_OvW cd_OvW ct_OvW) (me_OvB : MeI K COv "behind" "Over.behind" J4b .none f_OvB od_OvB an_OvB sl_OvB oc_OvB kV_OvB dc_OvB pm_OvB cd_OvB ct_OvB) (me_UnI : MeI K CUn "__init__" "Under.__init__" sUnInit .none f_UnI od_UnI an_UnI sl_UnI oc_UnI kV_UnI dc_UnI pm_UnI cd_UnI ct_UnI) (me_UnW : MeI K CUn "word" "Under.word" sUnWord .none f_UnW od_UnW an_UnW sl_UnW oc_UnW kV_UnW dc_UnW pm_UnW cd_UnW ct_UnW) (me_UnB : MeI K CUn "behind" "Under.behind" J49 .none f_UnB od_UnB an_UnB sl_UnB oc_UnB kV_UnB dc_UnB pm_UnB cd_UnB ct_UnB) (me_OsI : MeI K COs "__init__" "Overs.__init__" sOsInit .none f_OsI od_OsI an_OsI sl_OsI oc_OsI kV_OsI dc_OsI pm_OsI cd_OsI ct_OsI) (me_OsW : MeI K COs "word" "Overs.word" sOsWord .none f_OsW od_OsW an_OsW sl_OsW oc_OsW kV_OsW dc_OsW pm_OsW cd_OsW ct_OsW) (me_OsL : MeI K COs "losers" "Overs.losers" J4c .none f_OsL od_OsL an_OsL sl_OsL oc_OsL kV_OsL dc_OsL pm_OsL cd_OsL ct_OsL) (me_OsB : MeI K COs "behind" "Overs.behind" J4d .none f_OsB od_OsB an_OsB sl_OsB oc_OsB kV_OsB dc_OsB pm_OsB cd_OsB ct_OsB) (me_UsI : MeI K CUs "__init__" "Unders.__init__" sUsInit .none f_UsI od_UsI an_UsI sl_UsI oc_UsI kV_UsI dc_UsI pm_UsI cd_UsI ct_UsI) (me_UsW : MeI K CUs "word" "Unders.word" sUsWord .none f_UsW od_UsW an_UsW sl_UsW oc_UsW kV_UsW dc_UsW pm_UsW cd_UsW ct_UsW) (me_UsL : MeI K CUs "losers" "Unders.losers" J47 .none f_UsL od_UsL an_UsL sl_UsL oc_UsL kV_UsL dc_UsL pm_UsL cd_UsL ct_UsL) (me_UsB : MeI K CUs "behind" "Unders.behind" J48 .none f_UsB od_UsB an_UsB sl_UsB oc_UsB kV_UsB dc_UsB pm_UsB cd_UsB ct_UsB) (pg_L : ClI K C) (mk_L : MkI K C) (n_L_lengths : FnI K C "lengths") (n_L_order : FnI K C "order") (n_L_turned : FnI K C "turned") (n_L_starts : FnI K C "starts") (n_L_laid : FnI K C "laid") (n_L_size : FnI K C "size") (pg_R : ClI K CR) (mk_R : MkI K CR) (n_R_top : FnI K CR "top") (n_R_bottom : FnI K CR "bottom") (n_R_lengths : FnI K CR "lengths") (n_R_turned : FnI K CR "turned") (n_R_size : FnI K CR "size") (pg_H : ClI K CH) (mk_H : MkI K CH) (n_H_line : FnI K CH "line") (n_H_rests : FnI K CH "rests") (n_H_steps : FnI K CH "steps") (n_H_towers : FnI K CH "towers") (n_H_bands : FnI K CH "bands") (pg_St : ClI K CSt) (pg_Ho : ClI K CHo) (mk_Ho : MkI K CHo) (n_Ho_winner : FnI K CHo "winner") (n_Ho_loser : FnI K CHo "loser") (n_Ho_times : FnI K CHo "times") (ih_Ev_losers : FiI K CEv "losers" f_StL) (pg_Ev : ClI K CEv) (mk_Ev : MkI K CEv) (n_Ev_winner : FnI K CEv "winner") (n_Ev_loser : FnI K CEv "loser") (n_Ev_times : FnI K CEv "times") (ih_Ov_losers : FiI K COv "losers" f_StL) (pg_Ov : ClI K COv) (mk_Ov : MkI K COv) (n_Ov_winner : FnI K COv "winner") (n_Ov_loser : FnI K COv "loser") (n_Ov_times : FnI K COv "times") (ih_Un_losers : FiI K CUn "losers" f_StL) (pg_Un : ClI K CUn) (mk_Un : MkI K CUn) (n_Un_winner : FnI K CUn "winner") (n_Un_loser : FnI K CUn "loser") (n_Un_times : FnI K CUn "times") (pg_Os : ClI K COs) (mk_Os : MkI K COs) (n_Os_winner : FnI K COs "winner") (n_Os_loser : FnI K COs "loser") (n_Os_times : FnI K COs "times") (pg_Us : ClI K CUs) (mk_Us : MkI K CUs) (n_Us_winner : FnI K CUs "winner") (n_Us_loser : FnI K CUs "loser") (n_Us_times : FnI K CUs "times") (z_len : NzI K "len") (z_min : NzI K "min") (z_max : NzI K "max") (z_sum : NzI K "sum") (z_sorted : NzI K "sorted") (z_list : NzI K "list") (z_range : NzI K "range") (z_tuple : NzI K "tuple") (z_enumerate : NzI K "enumerate") (z_ValueError : NzI K "ValueError") (z_zip : NzI K "zip") (z_set : NzI K "set") (v_MOST_PIECES : nsIn K mainGlobals "MOST_PIECES" = some (some (.int 24 t_MOST_PIECES))) (aBadOrder : nsIn K mainGlobals "BadOrder" = some (some (.ref CBadOrder))) (xBadOrder : excIn K CBadOrder bmV "ValueError.__new__" = true) (sbB : PySem.W.specialIn K (.ref CSt) "__getattribute__" = some (some (.builtin "type.__getattribute__"))) (rdB : readsIn K CSt (.type "type") = true) (fdB : findCls K (.ref CSt) (.type "type") "__init__" = some (.val (.ref f_StI)))
    : ∃ fd : FuncData, (∀ (s : Shared) (v : Value), BindsTo s fd ⟨[v], []⟩ [("script", v)]) /\ ∀ base : Heap, K.In base -> base.Ns mainGlobals mg -> FnOk l.prog w K mg base CX0 8 fa fd ["script"] (spLaw K) := by
  have e := hfa.symm.trans (mg_of X G d31.1);cases e;obtain ⟨F0, m0, k0⟩ := dfn X G d0;have b0 := F0.binds (ps := ["lengths"]) fun _ _ _ _ _ _ => usOf1 fun _ => rfl
  obtain ⟨F1, m1, k1⟩ := dfn X G d1;have b1 := F1.binds (ps := ["order", "pieces"]) fun _ _ _ _ _ _ => usOf2 fun _ _ => rfl
  obtain ⟨F2, m2, k2⟩ := dfn X G d2;have b2 := F2.binds (ps := ["order", "fewest", "most"]) fun _ _ _ _ _ _ => usOf3 fun _ _ _ => rfl
  obtain ⟨F3, m3, k3⟩ := dfn X G d3;have b3 := F3.binds (ps := ["turned", "pieces"]) fun _ _ _ _ _ _ => usOf2 fun _ _ => rfl
  obtain ⟨F4, m4, k4⟩ := dfn X G d4;have b4 := F4.binds (ps := ["turned", "pieces"]) fun _ _ _ _ _ _ => usOf2 fun _ _ => rfl
  obtain ⟨F5, m5, k5⟩ := dfn X G d5;have b5 := F5.binds (ps := ["lengths", "order"]) fun _ _ _ _ _ _ => usOf2 fun _ _ => rfl
  obtain ⟨F6, m6, k6⟩ := dfn X G d6;have b6 := F6.binds (ps := ["order"]) fun _ _ _ _ _ _ => usOf1 fun _ => rfl
  obtain ⟨F7, m7, k7⟩ := dfn X G d7;have b7 := F7.binds (ps := ["piece"]) fun _ _ _ _ _ _ => usOf1 fun _ => rfl
  obtain ⟨F8, m8, k8⟩ := dfn X G d8;have b8 := F8.binds (ps := ["piece"]) fun _ _ _ _ _ _ => usOf1 fun _ => rfl
  obtain ⟨F9, m9, k9⟩ := dfn X G d9;have b9 := F9.binds (ps := ["row"]) fun _ _ _ _ _ _ => usOf1 fun _ => rfl
  obtain ⟨F10, m10, k10⟩ := dfn X G d10;have b10 := F10.binds (ps := ["order"]) fun _ _ _ _ _ _ => usOf1 fun _ => rfl
  obtain ⟨F11, m11, k11⟩ := dfn X G d11;have b11 := F11.binds (ps := ["order"]) fun _ _ _ _ _ _ => usOf1 fun _ => rfl
  obtain ⟨F12, m12, k12⟩ := dfn X G d12;have b12 := F12.binds (ps := ["order"]) fun _ _ _ _ _ _ => usOf1 fun _ => rfl
  obtain ⟨F13, m13, k13⟩ := dfn X G d13;have b13 := F13.binds (ps := ["order"]) fun _ _ _ _ _ _ => usOf1 fun _ => rfl
  obtain ⟨F14, m14, k14⟩ := dfn X G d14;have b14 := F14.binds (ps := ["rest", "letters"]) fun _ _ _ _ _ _ => usOf2 fun _ _ => rfl
  obtain ⟨F15, m15, k15⟩ := dfn X G d15;have b15 := F15.binds (ps := ["line"]) fun _ _ _ _ _ _ => usOf1 fun _ => rfl
  obtain ⟨F16, m16, k16⟩ := dfn X G d16;have b16 := F16.binds (ps := ["row", "letter"]) fun _ _ _ _ _ _ => usOf2 fun _ _ => rfl
  obtain ⟨F17, m17, k17⟩ := dfn X G d17;have b17 := F17.binds (ps := ["row", "letter"]) fun _ _ _ _ _ _ => usOf2 fun _ _ => rfl
  obtain ⟨F18, m18, k18⟩ := dfn X G d18;have b18 := F18.binds (ps := ["row", "winner", "loser", "ahead"]) fun _ _ _ _ _ _ => usOf4 fun _ _ _ _ => rfl
  obtain ⟨F19, m19, k19⟩ := dfn X G d19;have b19 := F19.binds (ps := ["row", "letter", "entry"]) fun _ _ _ _ _ _ => usOf3 fun _ _ _ => rfl
  obtain ⟨F20, m20, k20⟩ := dfn X G d20;have b20 := F20.binds (ps := ["rest", "winner", "less"]) fun _ _ _ _ _ _ => usOf3 fun _ _ _ => rfl
  obtain ⟨F21, m21, k21⟩ := dfn X G d21;have b21 := F21.binds (ps := ["rest", "winner", "loser"]) fun _ _ _ _ _ _ => usOf3 fun _ _ _ => rfl
  obtain ⟨F22, m22, k22⟩ := dfn X G d22;have b22 := F22.binds (ps := ["rest", "winner", "row"]) fun _ _ _ _ _ _ => usOf3 fun _ _ _ => rfl
  obtain ⟨F23, m23, k23⟩ := dfn X G d23;have b23 := F23.binds (ps := ["rest", "winner", "loser"]) fun _ _ _ _ _ _ => usOf3 fun _ _ _ => rfl
  obtain ⟨F24, m24, k24⟩ := dfn X G d24;have b24 := F24.binds (ps := ["rest", "winner", "loser"]) fun _ _ _ _ _ _ => usOf3 fun _ _ _ => rfl
  obtain ⟨F25, m25, k25⟩ := dfn X G d25;have b25 := F25.binds (ps := ["rest"]) fun _ _ _ _ _ _ => usOf1 fun _ => rfl
  obtain ⟨F26, m26, k26⟩ := dfn X G d26;have b26 := F26.binds (ps := ["line"]) fun _ _ _ _ _ _ => usOf1 fun _ => rfl
  obtain ⟨F27, m27, k27⟩ := dfn X G d27;have b27 := F27.binds (ps := ["towers", "step", "rest", "behind"]) fun _ _ _ _ _ _ => usOf4 fun _ _ _ _ => rfl
  obtain ⟨F28, m28, k28⟩ := dfn X G d28;have b28 := F28.binds (ps := ["step", "rest", "behind", "towers"]) fun _ _ _ _ _ _ => usOf4 fun _ _ _ _ => rfl
  obtain ⟨F29, m29, k29⟩ := dfn X G d29;have b29 := F29.binds (ps := ["script", "k"]) fun _ _ _ _ _ _ => usOf2 fun _ _ => rfl
  obtain ⟨F30, m30, k30⟩ := dfn X G d30;have b30 := F30.binds (ps := ["script", "many", "top"]) fun _ _ _ _ _ _ => usOf3 fun _ _ _ => rfl
  obtain ⟨F31, m31, k31⟩ := dfn X G d31;have b31 := F31.binds (ps := ["script"]) fun _ _ _ _ _ _ => usOf1 fun _ => rfl
  have mg_L := mg_of X G a_L;have cl_L := clf pg_L;have F_LI : FunD K "__init__" "Line.__init__" sInit f_LI _ TD := ⟨⟨oc_LI, od_LI, kV_LI, dc_LI, pm_LI, an_LI, cd_LI, ct_LI, sl_LI, rfl, me_LI.2.2.1, me_LI.2.2.2.1⟩, me_LI.2.2.2.2⟩;obtain ⟨b_LI, b1_LI⟩ := dflt_binds F_LI lT ["self", "lengths", "order", "turned"] (fun _ _ _ _ _ _ us hl => match us, hl with | [_, _, _, _], _ => ⟨_, rfl, rfl⟩) (fun _ _ _ _ _ _ us hl => match us, (show us.length = 3 by simpa using hl) with | [_, _, _], _ => ⟨_, rfl, rfl⟩);have mg_R := mg_of X G a_R;have cl_R := clf pg_R;have F_RI := J18 me_RI.2.2.1 me_RI.2.2.2.1 me_RI.2.2.2.2;have b_RI := F_RI.binds (ps := ["self", "top", "bottom", "lengths", "turned"]) fun _ _ _ _ _ _ => usOf5 fun _ _ _ _ _ => rfl
  have mg_H := mg_of X G a_H;have cl_H := clf pg_H;have F_HI := J18 me_HI.2.2.1 me_HI.2.2.2.1 me_HI.2.2.2.2;have b_HI := F_HI.binds (ps := ["self", "line"]) fun _ _ _ _ _ _ => usOf2 fun _ _ => rfl
  have mg_St := mg_of X G a_St;have cl_St := clf pg_St;have F_StI := J18 me_StI.2.2.1 me_StI.2.2.2.1 me_StI.2.2.2.2;have b_StI := F_StI.binds (ps := ["self", "winner", "loser", "times"]) fun _ _ _ _ _ _ => usOf4 fun _ _ _ _ => rfl
  have F_StL := J18 me_StL.2.2.1 me_StL.2.2.2.1 me_StL.2.2.2.2;have b_StL := F_StL.binds (ps := ["self", "rest"]) fun _ _ _ _ _ _ => usOf2 fun _ _ => rfl
  have mg_Ho := mg_of X G a_Ho;have cl_Ho := clf pg_Ho;have F_HoI := J18 me_HoI.2.2.1 me_HoI.2.2.2.1 me_HoI.2.2.2.2;have b_HoI := F_HoI.binds (ps := ["self", "winner"]) fun _ _ _ _ _ _ => usOf2 fun _ _ => rfl
  have F_HoW := J18 me_HoW.2.2.1 me_HoW.2.2.2.1 me_HoW.2.2.2.2;have b_HoW := F_HoW.binds (ps := ["self"]) fun _ _ _ _ _ _ => usOf1 fun _ => rfl
  have F_HoL := J18 me_HoL.2.2.1 me_HoL.2.2.2.1 me_HoL.2.2.2.2;have b_HoL := F_HoL.binds (ps := ["self", "rest"]) fun _ _ _ _ _ _ => usOf2 fun _ _ => rfl
  have F_HoB := J18 me_HoB.2.2.1 me_HoB.2.2.2.1 me_HoB.2.2.2.2;have b_HoB := F_HoB.binds (ps := ["self", "rest"]) fun _ _ _ _ _ _ => usOf2 fun _ _ => rfl
  have mg_Ev := mg_of X G a_Ev;have cl_Ev := clf pg_Ev;have F_EvI := J18 me_EvI.2.2.1 me_EvI.2.2.2.1 me_EvI.2.2.2.2;have b_EvI := F_EvI.binds (ps := ["self", "winner", "loser"]) fun _ _ _ _ _ _ => usOf3 fun _ _ _ => rfl
  have F_EvW := J18 me_EvW.2.2.1 me_EvW.2.2.2.1 me_EvW.2.2.2.2;have b_EvW := F_EvW.binds (ps := ["self"]) fun _ _ _ _ _ _ => usOf1 fun _ => rfl
  have F_EvB := J18 me_EvB.2.2.1 me_EvB.2.2.2.1 me_EvB.2.2.2.2;have b_EvB := F_EvB.binds (ps := ["self", "rest"]) fun _ _ _ _ _ _ => usOf2 fun _ _ => rfl
  have mg_Ov := mg_of X G a_Ov;have cl_Ov := clf pg_Ov;have F_OvI := J18 me_OvI.2.2.1 me_OvI.2.2.2.1 me_OvI.2.2.2.2;have b_OvI := F_OvI.binds (ps := ["self", "winner", "loser"]) fun _ _ _ _ _ _ => usOf3 fun _ _ _ => rfl
  have F_OvW := J18 me_OvW.2.2.1 me_OvW.2.2.2.1 me_OvW.2.2.2.2;have b_OvW := F_OvW.binds (ps := ["self"]) fun _ _ _ _ _ _ => usOf1 fun _ => rfl
  have F_OvB := J18 me_OvB.2.2.1 me_OvB.2.2.2.1 me_OvB.2.2.2.2;have b_OvB := F_OvB.binds (ps := ["self", "rest"]) fun _ _ _ _ _ _ => usOf2 fun _ _ => rfl
  have mg_Un := mg_of X G a_Un;have cl_Un := clf pg_Un;have F_UnI := J18 me_UnI.2.2.1 me_UnI.2.2.2.1 me_UnI.2.2.2.2;have b_UnI := F_UnI.binds (ps := ["self", "winner", "loser"]) fun _ _ _ _ _ _ => usOf3 fun _ _ _ => rfl
  have F_UnW := J18 me_UnW.2.2.1 me_UnW.2.2.2.1 me_UnW.2.2.2.2;have b_UnW := F_UnW.binds (ps := ["self"]) fun _ _ _ _ _ _ => usOf1 fun _ => rfl
  have F_UnB := J18 me_UnB.2.2.1 me_UnB.2.2.2.1 me_UnB.2.2.2.2;have b_UnB := F_UnB.binds (ps := ["self", "rest"]) fun _ _ _ _ _ _ => usOf2 fun _ _ => rfl
  have mg_Os := mg_of X G a_Os;have cl_Os := clf pg_Os;have F_OsI := J18 me_OsI.2.2.1 me_OsI.2.2.2.1 me_OsI.2.2.2.2;have b_OsI := F_OsI.binds (ps := ["self", "winner", "times"]) fun _ _ _ _ _ _ => usOf3 fun _ _ _ => rfl
  have F_OsW := J18 me_OsW.2.2.1 me_OsW.2.2.2.1 me_OsW.2.2.2.2;have b_OsW := F_OsW.binds (ps := ["self"]) fun _ _ _ _ _ _ => usOf1 fun _ => rfl
  have F_OsL := J18 me_OsL.2.2.1 me_OsL.2.2.2.1 me_OsL.2.2.2.2;have b_OsL := F_OsL.binds (ps := ["self", "rest"]) fun _ _ _ _ _ _ => usOf2 fun _ _ => rfl
  have F_OsB := J18 me_OsB.2.2.1 me_OsB.2.2.2.1 me_OsB.2.2.2.2;have b_OsB := F_OsB.binds (ps := ["self", "rest"]) fun _ _ _ _ _ _ => usOf2 fun _ _ => rfl
  have mg_Us := mg_of X G a_Us;have cl_Us := clf pg_Us;have F_UsI := J18 me_UsI.2.2.1 me_UsI.2.2.2.1 me_UsI.2.2.2.2;have b_UsI := F_UsI.binds (ps := ["self", "winner", "times"]) fun _ _ _ _ _ _ => usOf3 fun _ _ _ => rfl
  have F_UsW := J18 me_UsW.2.2.1 me_UsW.2.2.2.1 me_UsW.2.2.2.2;have b_UsW := F_UsW.binds (ps := ["self"]) fun _ _ _ _ _ _ => usOf1 fun _ => rfl
  have F_UsL := J18 me_UsL.2.2.1 me_UsL.2.2.2.1 me_UsL.2.2.2.2;have b_UsL := F_UsL.binds (ps := ["self", "rest"]) fun _ _ _ _ _ _ => usOf2 fun _ _ => rfl
  have F_UsB := J18 me_UsB.2.2.1 me_UsB.2.2.2.1 me_UsB.2.2.2.2;have b_UsB := F_UsB.binds (ps := ["self", "rest"]) fun _ _ _ _ _ _ => usOf2 fun _ _ => rfl
  have T0 : Txt K mg := ⟨mg_none_of X G z_len, mg_none_of X G z_min, mg_none_of X G z_sum, mg_none_of X G z_sorted, mg_none_of X G z_list, mg_none_of X G z_range, mg_none_of X G z_tuple, ⟨_, mg_of X G v_MOST_PIECES⟩⟩;have T : TxtR mg := ⟨mg_none_of X G z_len, mg_none_of X G z_sum, mg_none_of X G z_tuple, mg_none_of X G z_list, mg_none_of X G z_range⟩;have TC : TxtC K mg C := ⟨cl_L, n_L_lengths, n_L_order, n_L_turned, n_L_starts, n_L_laid, n_L_size⟩;have TR : TxtRest K CR := ⟨cl_R, n_R_top, n_R_bottom, n_R_lengths, n_R_turned, n_R_size⟩;have TH : TxtCh K CH := ⟨cl_H, n_H_line, n_H_rests, n_H_steps, n_H_towers, n_H_bands⟩;have TBadOrder : TxtX K mg "BadOrder" CBadOrder := ⟨mg_of X G aBadOrder, xBadOrder⟩;have hcs : ∃ cs : Kd -> Addr, cs = csOf CHo CEv COv CUn COs CUs := ⟨_, rfl⟩;obtain ⟨cs, hcs⟩ := hcs;have TS : TxtS K cs := by
    subst hcs;exact ⟨fun k => match k with | .ho => cl_Ho | .ev => cl_Ev | .ov => cl_Ov | .un => cl_Un | .os => cl_Os | .us => cl_Us, fun k => match k with | .ho => n_Ho_winner | .ev => n_Ev_winner | .ov => n_Ov_winner | .un => n_Un_winner | .os => n_Os_winner | .us => n_Us_winner, fun k => match k with | .ho => n_Ho_loser | .ev => n_Ev_loser | .ov => n_Ov_loser | .un => n_Un_loser | .os => n_Os_loser | .us => n_Us_loser, fun k => match k with | .ho => n_Ho_times | .ev => n_Ev_times | .ov => n_Ov_times | .un => n_Un_times | .os => n_Os_times | .us => n_Us_times⟩
  have BM : BaseM K CSt "__init__" f_StI := ⟨sbB, rdB, fdB, me_StI.2.2.2.2⟩;have MHo : Mk K (cs .ho) f_HoI := by
    subst hcs;exact ⟨mk_Ho.1, me_HoI.1, me_HoI.2.1, mk_Ho.2⟩
  have m_Ho : mg "Home" = some (.ref (cs .ho)) := by
    subst hcs;exact mg_Ho
  have ClHo : Cls K (cs .ho) := TS.cl _;have Me_Ho_W : Meth K (cs .ho) "word" f_HoW := by
    subst hcs;exact ⟨me_HoW.1, me_HoW.2.1, me_HoW.2.2.2.2⟩
  have Me_Ho_L : Meth K (cs .ho) "losers" f_HoL := by
    subst hcs;exact ⟨me_HoL.1, me_HoL.2.1, me_HoL.2.2.2.2⟩
  have Me_Ho_B : Meth K (cs .ho) "behind" f_HoB := by
    subst hcs;exact ⟨me_HoB.1, me_HoB.2.1, me_HoB.2.2.2.2⟩
  have MEv : Mk K (cs .ev) f_EvI := by
    subst hcs;exact ⟨mk_Ev.1, me_EvI.1, me_EvI.2.1, mk_Ev.2⟩
  have m_Ev : mg "Even" = some (.ref (cs .ev)) := by
    subst hcs;exact mg_Ev
  have ClEv : Cls K (cs .ev) := TS.cl _;have Me_Ev_W : Meth K (cs .ev) "word" f_EvW := by
    subst hcs;exact ⟨me_EvW.1, me_EvW.2.1, me_EvW.2.2.2.2⟩
  have Me_Ev_L : Meth K (cs .ev) "losers" f_StL := by
    subst hcs;exact ⟨ih_Ev_losers, me_StL.2.1, me_StL.2.2.2.2⟩
  have Me_Ev_B : Meth K (cs .ev) "behind" f_EvB := by
    subst hcs;exact ⟨me_EvB.1, me_EvB.2.1, me_EvB.2.2.2.2⟩
  have MOv : Mk K (cs .ov) f_OvI := by
    subst hcs;exact ⟨mk_Ov.1, me_OvI.1, me_OvI.2.1, mk_Ov.2⟩
  have m_Ov : mg "Over" = some (.ref (cs .ov)) := by
    subst hcs;exact mg_Ov
  have ClOv : Cls K (cs .ov) := TS.cl _;have Me_Ov_W : Meth K (cs .ov) "word" f_OvW := by
    subst hcs;exact ⟨me_OvW.1, me_OvW.2.1, me_OvW.2.2.2.2⟩
  have Me_Ov_L : Meth K (cs .ov) "losers" f_StL := by
    subst hcs;exact ⟨ih_Ov_losers, me_StL.2.1, me_StL.2.2.2.2⟩
  have Me_Ov_B : Meth K (cs .ov) "behind" f_OvB := by
    subst hcs;exact ⟨me_OvB.1, me_OvB.2.1, me_OvB.2.2.2.2⟩
  have MUn : Mk K (cs .un) f_UnI := by
    subst hcs;exact ⟨mk_Un.1, me_UnI.1, me_UnI.2.1, mk_Un.2⟩
  have m_Un : mg "Under" = some (.ref (cs .un)) := by
    subst hcs;exact mg_Un
  have ClUn : Cls K (cs .un) := TS.cl _;have Me_Un_W : Meth K (cs .un) "word" f_UnW := by
    subst hcs;exact ⟨me_UnW.1, me_UnW.2.1, me_UnW.2.2.2.2⟩
  have Me_Un_L : Meth K (cs .un) "losers" f_StL := by
    subst hcs;exact ⟨ih_Un_losers, me_StL.2.1, me_StL.2.2.2.2⟩
  have Me_Un_B : Meth K (cs .un) "behind" f_UnB := by
    subst hcs;exact ⟨me_UnB.1, me_UnB.2.1, me_UnB.2.2.2.2⟩
  have MOs : Mk K (cs .os) f_OsI := by
    subst hcs;exact ⟨mk_Os.1, me_OsI.1, me_OsI.2.1, mk_Os.2⟩
  have m_Os : mg "Overs" = some (.ref (cs .os)) := by
    subst hcs;exact mg_Os
  have ClOs : Cls K (cs .os) := TS.cl _;have Me_Os_W : Meth K (cs .os) "word" f_OsW := by
    subst hcs;exact ⟨me_OsW.1, me_OsW.2.1, me_OsW.2.2.2.2⟩
  have Me_Os_L : Meth K (cs .os) "losers" f_OsL := by
    subst hcs;exact ⟨me_OsL.1, me_OsL.2.1, me_OsL.2.2.2.2⟩
  have Me_Os_B : Meth K (cs .os) "behind" f_OsB := by
    subst hcs;exact ⟨me_OsB.1, me_OsB.2.1, me_OsB.2.2.2.2⟩
  have MUs : Mk K (cs .us) f_UsI := by
    subst hcs;exact ⟨mk_Us.1, me_UsI.1, me_UsI.2.1, mk_Us.2⟩
  have m_Us : mg "Unders" = some (.ref (cs .us)) := by
    subst hcs;exact mg_Us
  have ClUs : Cls K (cs .us) := TS.cl _;have Me_Us_W : Meth K (cs .us) "word" f_UsW := by
    subst hcs;exact ⟨me_UsW.1, me_UsW.2.1, me_UsW.2.2.2.2⟩
  have Me_Us_L : Meth K (cs .us) "losers" f_UsL := by
    subst hcs;exact ⟨me_UsL.1, me_UsL.2.1, me_UsL.2.2.2.2⟩
  have Me_Us_B : Meth K (cs .us) "behind" f_UsB := by
    subst hcs;exact ⟨me_UsB.1, me_UsB.2.1, me_UsB.2.2.2.2⟩
  refine ⟨fnOf "law" "law" (J23 sLaw) (J1i sLaw) (J6 sLaw) .none kV31 dc31 pm31 an31 cd31 ct31, fun s v => .of_eq rfl, fun base _ _ => ?_⟩;have GF := ok_first (P := l.prog) (w := w) (base := base) F5 T;have GI := ok_init (P := l.prog) (w := w) (base := base) F_LI T0 TC (ok_refL F0 T0) b0 m0 k0 (ok_refO F1 T0) b1 m1 k1 (ok_told F4 T0 F3 b3 m3) b4 m4 k4 GF b5 m5 k5;have ML : Mk K C f_LI := ⟨mk_L.1, me_LI.1, me_LI.2.1, mk_L.2⟩;have GLn := ok_lenOf (P := l.prog) (w := w) (base := base) F14 T;have GRI := ok_rinit F_RI T TR GLn b14 m14 k14;have MR : Mk K CR f_RI := ⟨mk_R.1, me_RI.1, me_RI.2.1, mk_R.2⟩;have GRO := ok_restof F15 T TC MR GRI b_RI mg_R;have GBL := ok_behindL (P := l.prog) (w := w) (mg := mg) (base := base) F17;have bBL := b17;have mBL := m17;have kBL := k17;have GSI := ok_sinit (P := l.prog) (w := w) (mg := mg) (base := base) F_StI TS;have GHoI := ok_hoinit F_HoI BM mg_St GSI b_StI;have GEvI := ok_evinit F_EvI BM mg_St GSI b_StI;have GOvI := ok_ovinit F_OvI BM mg_St GSI b_StI;have GUnI := ok_uninit F_UnI BM mg_St GSI b_StI;have GOsI := ok_osinit F_OsI BM mg_St GSI b_StI;have GUsI := ok_usinit F_UsI BM mg_St GSI b_StI;have HW : ∀ k, HasM l.prog w K mg base CX0 1 "word" ["self"] (J39 k) (cs k) := fun k => match k with | .ho => ⟨_, _, ClHo, Me_Ho_W, ok_howord F_HoW, b_HoW⟩ | .ev => ⟨_, _, ClEv, Me_Ev_W, ok_evword F_EvW, b_EvW⟩ | .ov => ⟨_, _, ClOv, Me_Ov_W, ok_ovword F_OvW, b_OvW⟩ | .un => ⟨_, _, ClUn, Me_Un_W, ok_unword F_UnW, b_UnW⟩ | .os => ⟨_, _, ClOs, Me_Os_W, ok_osword F_OsW, b_OsW⟩ | .us => ⟨_, _, ClUs, Me_Us_W, ok_usword F_UsW, b_UsW⟩
  have HL : ∀ k, HasM l.prog w K mg base CX0 2 "losers" ["self", "rest"] (J1a cs CR k) (cs k) := fun k => match k with | .ho => ⟨_, _, ClHo, Me_Ho_L, ok_holosers F_HoL, b_HoL⟩ | .ev => ⟨_, _, ClEv, Me_Ev_L, J2q F_StL TS (.inl rfl), b_StL⟩ | .ov => ⟨_, _, ClOv, Me_Ov_L, J2q F_StL TS (.inr (.inl rfl)), b_StL⟩ | .un => ⟨_, _, ClUn, Me_Un_L, J2q F_StL TS (.inr (.inr rfl)), b_StL⟩ | .os => ⟨_, _, ClOs, Me_Os_L, ok_oslosers F_OsL TS TR GBL bBL mBL kBL, b_OsL⟩ | .us => ⟨_, _, ClUs, Me_Us_L, ok_uslosers F_UsL TS TR GBL bBL mBL kBL, b_UsL⟩
  have GWo := ok_without (P := l.prog) (w := w) (mg := mg) (base := base) F16;have GPu := ok_put F18 GWo b16 m16 k16;have GCh := ok_changed (P := l.prog) (w := w) (base := base) F19 T;have GSo := ok_short F20 TR GCh b19 m19 k19;have GTB := ok_turnsB F21 TR GCh b19 m19 k19;have HB : ∀ k, HasM l.prog w K mg base CX0 4 "behind" ["self", "rest"] (J1p cs CR k) (cs k) := fun k => match k with | .ho => ⟨_, _, ClHo, Me_Ho_B, ok_hobehind F_HoB TS TR GWo b16 m16 k16 GCh b19 m19 k19 MR GRI b_RI mg_R, b_HoB⟩ | .ev => ⟨_, _, ClEv, Me_Ev_B, ok_evbehind F_EvB TS TR GWo b16 m16 k16 GPu b18 m18 k18 GCh b19 m19 k19 GTB b21 m21 k21 MR GRI b_RI mg_R, b_EvB⟩ | .ov => ⟨_, _, ClOv, Me_Ov_B, ok_ovbehind F_OvB TS TR GPu b18 m18 k18 GSo b20 m20 k20 GTB b21 m21 k21 MR GRI b_RI mg_R, b_OvB⟩ | .un => ⟨_, _, ClUn, Me_Un_B, ok_unbehind F_UnB TS TR GPu b18 m18 k18 GSo b20 m20 k20 GTB b21 m21 k21 MR GRI b_RI mg_R, b_UnB⟩ | .os => ⟨_, _, ClOs, Me_Os_B, ok_osbehind F_OsB TS TR GLn b14 m14 k14 GSo b20 m20 k20 MR GRI b_RI mg_R HL, b_OsB⟩ | .us => ⟨_, _, ClUs, Me_Us_B, ok_usbehind F_UsB TS TR GLn b14 m14 k14 GSo b20 m20 k20 MR GRI b_RI mg_R HL, b_UsB⟩
  have GT := ok_times F22 TR GLn b14 m14 k14 GBL b17 m17 k17;have GO := ok_overs F23 TR GT b22 m22 k22 MOs GOsI b_OsI m_Os MOv GOvI b_OvI m_Ov;have GU := ok_unders F24 TR GT b22 m22 k22 MUs GUsI b_UsI m_Us MUn GUnI b_UnI m_Un;have GN := ok_next F25 TR MHo GHoI b_HoI m_Ho MEv GEvI b_EvI m_Ev GO b23 m23 k23 GU b24 m24 k24;have GFT := ok_firstT (P := l.prog) (w := w) (base := base) F26 T TC;have GTw := ok_towB (P := l.prog) (w := w) (base := base) F27 T (mg_none_of X G z_enumerate) TR TS HL;have GBa := ok_bandsL (P := l.prog) (w := w) (base := base) F28 TR TS HW;have GCI := ok_cinit F_HI T TR TS TH GRO b15 m15 k15 GFT b26 m26 k26 GN b25 m25 k25 HB GBa b28 m28 k28 GTw b27 m27 k27;have MH : Mk K CH f_HI := ⟨mk_H.1, me_HI.1, me_HI.2.1, mk_H.2⟩;have GC := ok_cell (P := l.prog) (w := w) (base := base) F29 T;have GRO := ok_refOE (P := l.prog) (w := w) (base := base) F1 T (mg_none_of X G z_sorted) TBadOrder;have GRF := ok_refOf F2 T TBadOrder GRO b1 m1 k1;have GRP := ok_refP F6 (mg_of X G v_MOST_PIECES) GRF b2 m2 k2;have GLE := ok_leftE (P := l.prog) (w := w) (mg := mg) (base := base) F7;have GRE := ok_rightE (P := l.prog) (w := w) (mg := mg) (base := base) F8;have GMA := ok_meetA F9 T (mg_none_of X G z_zip) GLE b7 m7 k7 GRE b8 m8 k8;have GME := ok_meets F10 T GLE b7 m7 k7 GRE b8 m8 k8 GMA b9 m9 k9;have GCE := ok_cornE F11 T (mg_none_of X G z_min) (mg_none_of X G z_max) (mg_none_of X G z_sorted) (mg_none_of X G z_set) GME b10 m10 k10;have GCN := ok_cornN F12 (mg_none_of X G z_max) GCE b11 m11 k11;have GHA := ok_handles F13 T GRP b6 m6 k6 GCN b12 m12 k12;have GD := ok_drawn2 F30 T GC b29 m29 k29;exact ok_law F31 T TR TS TH b1_LI GC b29 m29 k29 GD b30 m30 k30 MH GCI b_HI mg_H ML GI b_LI mg_L GHA b13 m13 k13 HW
theorem walk {l:PySem.W.OpenLaw} {q:Program} {loose:List Str} {XP:(Str->Option Value)->Heap->Prop} {YP:World->Heap->Prop} {d:DefRec} {K:Params->Frag} (hn:l.most=some 63) (hdf:d.params.defaults=[])
  (hY:∀ (w:World) (h:Heap),YP w h->(K w.params).In h)
  (F:∀ (w:World) (mg:Str->Option Value) (fa:Addr) (h:Heap),(K w.params).In h->h.Ns mainGlobals mg->mg d.name=some (.ref fa)->
   ∃ fd:FuncData,(∀ (s:Shared) (u:Value),BindsTo s fd ⟨[u],[]⟩ [("script",u)])/\∀ base:Heap,(K w.params).In base->base.Ns mainGlobals mg->FnOk l.prog w (K w.params) mg base CX0 8 fa fd ["script"] (spLaw (K w.params))) :
  PySem.W.WalkO q loose XP YP l.row.toRowW d [] (fun f vs=>PySem.call f vs) :=
 L2.walk_of (n:=63) (k:=8) (x:="script") (CX:=fun _=>CX0) (sp:=fun w=>spLaw (K w.params)) hn (by decide) hdf ⟨rfl,by decide,by decide⟩ hY F (fun _ _ a ns hl _ hS=>⟨a,ns,rfl,hS,hl,fun _=>rfl⟩) fun _ _ _ _ _ z=>z
end R68
open PySem PySem.W PyProof.Rows
namespace PySem.W.Fast
def tw6373249792229632989:=()
def tw3146476736111421828:=()
def tw414357953220637484:=()
def tw7202336200829447484:=()
def tw18302263267018863363:=()
def tw7037325570576750290:=()
def tw3348229167894520265:=()
def tw17095887789924170617:=()
def tw8962969463029100509:=()
def tw5783163369904926546:=()
def tw16130238234708367810:=()
def tw14933291470214321142:=()
def tw5260634001495080462:=()
def tw462243556825342876:=()
def tw8755150073849710596:=()
def tw13725863088774148500:=()
def tw2130429926529032696:=()
end PySem.W.Fast
namespace PySem.W.Fast
def tw12867050641339025215:=()
def tw4940482582563610557:=()
def tw7664308196304730034:=()
def tw2615840865083210724:=()
def tw2129365436444822525:=()
def tw9869830666854499327:=()
def tw15380003728323439622:=()
def tw2731676856381655055:=()
def tw8394432452866767278:=()
def tw2210358476612127442:=()
def tw6101227830340097282:=()
def tw12755713286663333283:=()
def tw2670753070418800958:=()
def tw16199181141641558404:=()
def tw1862436105861250038:=()
def tw1768493279168792887:=()
def tw302297013483897670:=()
def tw13431517632915716482:=()
def tw719088845954145784:=()
def tw13842758018233815987:=()
def tw9551876249087916031:=()
def tw192288810995753469:=()
def tw16704872290049240243:=()
def tw544365455096469396:=()
def tw5833902356179482449:=()
def tw13189932399911047403:=()
def tw11740917458171430056:=()
def tw18102619471655954419:=()
def tw17400531178954246241:=()
def tw12460003689619500399:=()
def tw13689874870845199509:=()
def tw12168282269251916941:=()
def tw16322738973992130320:=()
def tw13362753143509670561:=()
def tw8383442522035369159:=()
def tw9008359665548898532:=()
def tw9547137906682860053:=()
def tw4573140339263773121:=()
def tw17938856225498049865:=()
def tw9892924022570881046:=()
def tw18057099567100498052:=()
def tw3032555920620893681:=()
def tw12264486719975619682:=()
def tw1464538856429104230:=()
def tw7463683454755203447:=()
def tw17423524288034793725:=()
def tw14642597989866243847:=()
def tw11022671715216307407:=()
def tw2268036991560133691:=()
def tw3023843559003529704:=()
def tw13284644460594203548:=()
def tw3462426112167427354:=()
def tw3250792420432991057:=()
def tw6316903498607154960:=()
def tw2962755993032948183:=()
def tw13129951128272068859:=()
def tw5095992481119124497:=()
def tw11901438330021511451:=()
def tw17787694069814132512:=()
def tw17054991018895151848:=()
def tw4561717724806905835:=()
def tw17453700349642617588:=()
def tw1740907380691401420:=()
def tw16754624700253935144:=()
def tw13591224309294431447:=()
def tw3943752577651402208:=()
def tw9082433775327045704:=()
def tw11254235149728158712:=()
def tw17952517425557660287:=()
def tw17939604931946443228:=()
def tw11431872161624336354:=()
def tw9982844677630222113:=()
def tw13361876878053589097:=()
def tw3514965613918957390:=()
def tw11170330089197949154:=()
def tw11212000049026444342:=()
def tw18309596320420250948:=()
def tw11399424912980166288:=()
def tw17843105414806870148:=()
def tw13878484640401920744:=()
def tw15667511154934739579:=()
def tw15596268490147188424:=()
def tw11325106933662944624:=()
def tw11437800706259635868:=()
def tw2933082726557044503:=()
def tw1501432401533970400:=()
def tw18296013654964236575:=()
def tw14772506013918571991:=()
def tw15885824989133124151:=()
def tw3276621091077953474:=()
def tw2973858820715902296:=()
def tw8737185842203748559:=()
def tw5543706916359434594:=()
def tw1826386268378883753:=()
def tw12858905311033272728:=()
def tw3401852319805995752:=()
def tw16852622656926389635:=()
def tw16283673482293910571:=()
def tw8553675060958066999:=()
def tw2294594013036182755:=()
def tw15301085438627400066:=()
def tw10731259961647577579:=()
def tw11785799947228830102:=()
def tw16456115405422391974:=()
def tw1019594595002993263:=()
def tw4898649600575985881:=()
def tw14658134812545751395:=()
def tw17118362945366165852:=()
def tw5368592665915338685:=()
def tw15877693915295342072:=()
def tw3961202776302990918:=()
def tw8376148695962968325:=()
def tw1934621940990102121:=()
def tw8311298152559409754:=()
def tw2144809424498047209:=()
def tw16441524125505021997:=()
def tw13169722771133429433:=()
def tw11616688260708918316:=()
def tw787500520925355983:=()
def tw11371079339482013965:=()
def tw11813778145125680280:=()
def tw3361098836321416956:=()
def tw15125351869232654601:=()
def tw15822990820559992932:=()
def tw13888115901160644191:=()
def tw2442489617770039236:=()
def tw10072909298668611251:=()
def tw5941566779341745352:=()
def tw14228998177364425254:=()
def tw2747813029796313899:=()
def tw5144976874793371264:=()
def tw5923196877897878806:=()
def tw7410228889130634588:=()
def tw6697486128924155612:=()
def tw4760439499791713226:=()
def tw18184899900706831815:=()
def tw9134137363932469716:=()
def tw1033774250110087853:=()
def tw10231699054883263464:=()
def tw8503273552600509981:=()
def tw8058231379035111816:=()
def tw7687825462624725329:=()
def tw12910057679516944405:=()
def tw11099459352386936568:=()
def tw17864210245322071755:=()
def tw18011097398588163085:=()
def tw11659282763070187601:=()
def tw5763717710584316860:=()
def tw17812065501085948894:=()
def tw7844644994448479650:=()
def tw1536158381499036270:=()
def tw3516442680913893425:=()
def tw9034639227821716282:=()
def tw14380434940568563826:=()
def tw16368845096218667679:=()
def tw7061776635273194121:=()
def tw13290170652560150326:=()
def tw157628757393409171:=()
def tw11334873057033843126:=()
def tw6167185401092619478:=()
def tw3382440166163492615:=()
def tw15965666829563875268:=()
def tw3817051452965680860:=()
def tw3798686453526569251:=()
def tw16784913891101622592:=()
def tw17715473702474035701:=()
def tw816116063126621869:=()
def tw6152193877556319006:=()
def tw18074541887919990371:=()
def tw9587160409115529631:=()
def tw3249207217067444680:=()
def tw4397505851783868697:=()
def tw2789912481268752577:=()
def tw6540956891816634075:=()
def tw6059353349554470559:=()
def tw1140508972024111574:=()
def tw7786816768752859918:=()
def tw15150487518080268279:=()
def tw10169154986497896971:=()
def tw13281721763473453296:=()
def tw3170443570144417920:=()
def tw17349101674978062432:=()
def tw11218233710324812913:=()
def tw8358739518937794100:=()
def tw15980455415467288820:=()
def tw10072170390541652232:=()
def tw6811207241461672058:=()
def tw16694694030846195538:=()
def tw8951815931127259224:=()
def tw7273103990575393485:=()
def tw12161291417772679773:=()
def tw4607776867119790823:=()
def tw6314463489053210170:=()
def tw13193530531742403912:=()
def tw6392032922012189346:=()
def tw12710357454122281773:=()
def tw7432828708226350557:=()
def tw4536262056494850904:=()
def tw921494676394625829:=()
def tw18228664127904628306:=()
def tw15758265171530534493:=()
def tw10407517069154678629:=()
def tw14057887337773928394:=()
def tw16550512417640773742:=()
def tw12806723165277210869:=()
def tw15274587148699262111:=()
def tw18106519207243393922:=()
def tw6119542730941295016:=()
def tw5883358864981854125:=()
def tw3787059731362341941:=()
def tw8299039582266689535:=()
def tw16677296787717865485:=()
def tw9122437404579295629:=()
def tw10136996082611012691:=()
def tw10909243224825158472:=()
def tw801777189690788442:=()
def tw5837923775143941169:=()
def tw3449049587831696092:=()
def tw9369052912170946288:=()
def tw13608353606469766699:=()
def tw15914803657329141573:=()
def tw2710749520687087987:=()
def tw16369441864720667631:=()
def tw10866276680099002929:=()
def tw16298016193117003581:=()
def tw7901315303503625625:=()
def tw13729104591412647245:=()
def tw5125841514088562197:=()
def tw2796079311478969917:=()
def tw9290172858102490239:=()
def tw2606629630681470107:=()
def tw3333842825605034799:=()
def tw9834459036071763132:=()
def tw4975767747268186740:=()
def tw16161527042283853554:=()
def tw7002155999282937615:=()
def tw11165834753706093515:=()
def tw6262329643077232126:=()
def tw2398235030678816494:=()
def tw922990899863106266:=()
def tw14810266597600684348:=()
def tw17141718115163364122:=()
def tw3570635704945204310:=()
def tw8431404431758043578:=()
def tw2688225924962244269:=()
def tw15015075119651246684:=()
def tw9149337026244036436:=()
def tw362944262674668892:=()
def tw7931996949379515407:=()
def tw1350927506658533982:=()
def tw15392352260643421765:=()
def tw9583347525220445293:=()
def tw17866148283841253148:=()
def tw644800837818535037:=()
def tw10386177534859510267:=()
def tw12574404007789546301:=()
def tw3827086339888235263:=()
def tw7793664206981137580:=()
def tw3546142713390930716:=()
def tw17156611300283215960:=()
def tw17194746677002875577:=()
def tw1845320747156453454:=()
def tw12825488523381296014:=()
def tw13690191178697096119:=()
def tw3136067789869852603:=()
def tw5954626245032361113:=()
def tw17801872269848182767:=()
def tw17690477029726021695:=()
def tw3634560192738559613:=()
def tw15640475325629014869:=()
def tw2237951480401303854:=()
def tw17219264046547942915:=()
def tw8067064236218643913:=()
def tw18439689551868710669:=()
def tw12265950719408426734:=()
def tw8561384458980024523:=()
def tw5959295270072521446:=()
def tw11047800412628065440:=()
def tw16744844576430937122:=()
def tw7428255739726496722:=()
def tw15267642057577135122:=()
def tw14559452720618566189:=()
def tw10354599289604896517:=()
def tw4956597542565103572:=()
def tw10773613673857746544:=()
def tw7142702414388916164:=()
def tw3079859852731465057:=()
def tw2355847608860417741:=()
def tw16162322003083047707:=()
def tw3177437229641631310:=()
def tw14447487027070136360:=()
def tw9570599223875460709:=()
def tw4383307169170827519:=()
def tw12337727268325457045:=()
def tw7194940399131017061:=()
def tw8722166272236102833:=()
def tw6921341339282226532:=()
def tw5323845269344119875:=()
def tw17901344274212262856:=()
def tw5347662165969830140:=()
def tw13088289632217216661:=()
def tw3108994352075194128:=()
def tw11578618452796364601:=()
def tw18009730891796191216:=()
def tw4752730195585100025:=()
def tw7025231962540358783:=()
def tw6775334071875611328:=()
def tw828075442449330410:=()
def tw15226215811333936914:=()
def tw8358377303961423129:=()
def tw15311296316601138884:=()
def tw7144265225324783594:=()
def tw1953653832784284163:=()
def tw17452866367182082758:=()
def tw3174163104376191450:=()
def tw10860230375604933633:=()
def tw13433736535473816628:=()
def tw3996848036158809272:=()
def tw14254675979117459829:=()
def tw8800832351306167580:=()
def tw981262676907829358:=()
def tw2627158577020621137:=()
def tw657476345646966523:=()
def tw4226908527438878107:=()
def tw3927062608318103621:=()
def tw9900078179876361950:=()
def tw16599532057796256643:=()
def tw16874808000604471876:=()
def tw8211745038068444920:=()
def tw10400804705929188184:=()
def tw13352229745722971521:=()
def tw825196576773445886:=()
def tw17623563383944299763:=()
def tw898735895788028139:=()
def tw12507375379525676794:=()
def tw3901944734552500914:=()
def tw10171787564565918275:=()
def tw7492554854395552710:=()
def tw16489139600149964979:=()
def tw2538034217098608116:=()
def tw9573646853928217803:=()
def tw1719749364990341794:=()
def tw4759791960512423656:=()
def tw18412438513916551148:=()
def tw14174514330233186191:=()
def tw8080562976889417801:=()
def tw6859023031410484488:=()
def tw8923855194794746006:=()
def tw15004639619676154988:=()
def tw7532762738583508237:=()
def tw4076613082811620737:=()
def tw5943133924592014371:=()
def tw15906280507152832566:=()
def tw6199147407294188912:=()
def tw17027595503327465411:=()
def tw16764685142252615008:=()
def tw4106761200068194122:=()
def tw8594390147270579443:=()
def tw6717492668033879959:=()
def tw11082347636210017535:=()
def tw3912797898798449325:=()
def tw8640400210704250246:=()
def tw2122048865468438064:=()
def tw13589465342105465359:=()
def tw15995395365134452771:=()
def tw9174629813856727366:=()
def tw12998255608653073440:=()
def tw7254860837934495806:=()
def tw13380494503671237032:=()
def tw711466573384840655:=()
def tw2380918642657922785:=()
def tw10550996408994725697:=()
def tw7870233735574643361:=()
def tw13538641096842616527:=()
def tw11738134333085718143:=()
def tw12652047081333837690:=()
def tw12986534866717004929:=()
def tw14740127511635138910:=()
end PySem.W.Fast
set_option maxRecDepth 100000 in
set_option maxHeartbeats 0 in
theorem PySem.Challenge.cw_relaid_k68_whole_bands_and_handles_holds : PySem.Challenge.rw_relaid_k68_whole_bands_and_handles.Holds := by
  w_on; o_law; k_head; (case hw => w_witness2)
  k_fill
  refine R68.walk (l := PySem.Challenge.rw_relaid_k68_whole_bands_and_handles) rfl rfl (fun w h Y => PySem.W.kIn_of Y) ?F
  case F =>
    intro w mg fa h KX G hmg;refine' R68.all_mk KX G hmg ?a_L ?a_R ?a_H ?a_St ?a_Ho ?a_Ev ?a_Ov ?a_Un ?a_Os ?a_Us ?d0 ?d1 ?d2 ?d3 ?d4 ?d5 ?d6 ?d7 ?d8 ?d9 ?d10 ?d11 ?d12 ?d13 ?d14 ?d15 ?d16 ?d17 ?d18 ?d19 ?d20 ?d21 ?d22 ?d23 ?d24 ?d25 ?d26 ?d27 ?d28 ?d29 ?d30 ?d31 ?me_LI ?lT ?me_RI ?me_HI ?me_StI ?me_StL ?me_HoI ?me_HoW ?me_HoL ?me_HoB ?me_EvI ?me_EvW ?me_EvB ?me_OvI ?me_OvW ?me_OvB ?me_UnI ?me_UnW ?me_UnB ?me_OsI ?me_OsW ?me_OsL ?me_OsB ?me_UsI ?me_UsW ?me_UsL ?me_UsB ?pg_L ?mk_L ?n_L_lengths ?n_L_order ?n_L_turned ?n_L_starts ?n_L_laid ?n_L_size ?pg_R ?mk_R ?n_R_top ?n_R_bottom ?n_R_lengths ?n_R_turned ?n_R_size ?pg_H ?mk_H ?n_H_line ?n_H_rests ?n_H_steps ?n_H_towers ?n_H_bands ?pg_St ?pg_Ho ?mk_Ho ?n_Ho_winner ?n_Ho_loser ?n_Ho_times ?ih_Ev_losers ?pg_Ev ?mk_Ev ?n_Ev_winner ?n_Ev_loser ?n_Ev_times ?ih_Ov_losers ?pg_Ov ?mk_Ov ?n_Ov_winner ?n_Ov_loser ?n_Ov_times ?ih_Un_losers ?pg_Un ?mk_Un ?n_Un_winner ?n_Un_loser ?n_Un_times ?pg_Os ?mk_Os ?n_Os_winner ?n_Os_loser ?n_Os_times ?pg_Us ?mk_Us ?n_Us_winner ?n_Us_loser ?n_Us_times ?z_len ?z_min ?z_max ?z_sum ?z_sorted ?z_list ?z_range ?z_tuple ?z_enumerate ?z_ValueError ?z_zip ?z_set ?v_MOST_PIECES ?aBadOrder ?xBadOrder ?sbB ?rdB ?fdB
    case a_L | a_R | a_H | a_St | a_Ho | a_Ev | a_Ov | a_Un | a_Os | a_Us => (show _ = _; k_is)
    case d0 | d1 | d2 | d3 | d4 | d5 | d6 | d7 | d8 | d9 | d10 | d11 | d12 | d13 | d14 | d15 | d16 | d17 | d18 | d19 | d20 | d21 | d22 | d23 | d24 | d25 | d26 | d27 | d28 | d29 | d30 | d31 => (refine ⟨?_, ?_, ?_, ?_⟩; k_is; k_is; k_is; k_is)
    case me_LI => (refine ⟨?_, ?_, ?_, ?_, ?_⟩; k_is; k_is; k_is; k_is; k_is)
    case lT => k_is
    case me_RI | me_HI | me_StI | me_StL | me_HoI | me_HoW | me_HoL | me_HoB | me_EvI | me_EvW | me_EvB | me_OvI | me_OvW | me_OvB | me_UnI | me_UnW | me_UnB | me_OsI | me_OsW | me_OsL | me_OsB | me_UsI | me_UsW | me_UsL | me_UsB => (refine ⟨?_, ?_, ?_, ?_, ?_⟩; k_is; k_is; k_is; k_is; k_is)
    case pg_L => (refine ⟨?_, ?_, ?_, ?_⟩; k_is; k_is; k_is; k_is)
    case mk_L => (refine ⟨?_, ?_⟩; k_is; k_is)
    case n_L_lengths | n_L_order | n_L_turned | n_L_starts | n_L_laid | n_L_size => (show _ = _; k_is)
    case pg_R => (refine ⟨?_, ?_, ?_, ?_⟩; k_is; k_is; k_is; k_is)
    case mk_R => (refine ⟨?_, ?_⟩; k_is; k_is)
    case n_R_top | n_R_bottom | n_R_lengths | n_R_turned | n_R_size => (show _ = _; k_is)
    case pg_H => (refine ⟨?_, ?_, ?_, ?_⟩; k_is; k_is; k_is; k_is)
    case mk_H => (refine ⟨?_, ?_⟩; k_is; k_is)
    case n_H_line | n_H_rests | n_H_steps | n_H_towers | n_H_bands => (show _ = _; k_is)
    case pg_St | pg_Ho => (refine ⟨?_, ?_, ?_, ?_⟩; k_is; k_is; k_is; k_is)
    case mk_Ho => (refine ⟨?_, ?_⟩; k_is; k_is)
    case n_Ho_winner | n_Ho_loser | n_Ho_times | ih_Ev_losers => (show _ = _; k_is)
    case pg_Ev => (refine ⟨?_, ?_, ?_, ?_⟩; k_is; k_is; k_is; k_is)
    case mk_Ev => (refine ⟨?_, ?_⟩; k_is; k_is)
    case n_Ev_winner | n_Ev_loser | n_Ev_times | ih_Ov_losers => (show _ = _; k_is)
    case pg_Ov => (refine ⟨?_, ?_, ?_, ?_⟩; k_is; k_is; k_is; k_is)
    case mk_Ov => (refine ⟨?_, ?_⟩; k_is; k_is)
    case n_Ov_winner | n_Ov_loser | n_Ov_times | ih_Un_losers => (show _ = _; k_is)
    case pg_Un => (refine ⟨?_, ?_, ?_, ?_⟩; k_is; k_is; k_is; k_is)
    case mk_Un => (refine ⟨?_, ?_⟩; k_is; k_is)
    case n_Un_winner | n_Un_loser | n_Un_times => (show _ = _; k_is)
    case pg_Os => (refine ⟨?_, ?_, ?_, ?_⟩; k_is; k_is; k_is; k_is)
    case mk_Os => (refine ⟨?_, ?_⟩; k_is; k_is)
    case n_Os_winner | n_Os_loser | n_Os_times => (show _ = _; k_is)
    case pg_Us => (refine ⟨?_, ?_, ?_, ?_⟩; k_is; k_is; k_is; k_is)
    case mk_Us => (refine ⟨?_, ?_⟩; k_is; k_is)
    case n_Us_winner | n_Us_loser | n_Us_times | z_len | z_min | z_max | z_sum | z_sorted | z_list | z_range | z_tuple | z_enumerate | z_ValueError | z_zip | z_set => (show _ = _; k_is)
    case v_MOST_PIECES | aBadOrder => k_is
    case xBadOrder => k_exc
    case sbB | rdB | fdB => k_is
#print axioms PySem.Challenge.cw_relaid_k68_whole_bands_and_handles_holds
