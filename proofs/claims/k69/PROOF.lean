import PyProof.Rows.All
import Wide.All
import OpenK.AllK
import Wide.FinOn
import Lean
import PyProof.EqAt
import PyProof.EqKinds
import PyProof.TupleCall
import KE.KSortKey
import KE.KLam
import KE.KNestM
import PySem.Challenge.RW_relaid_k69_desk_deeds
open PySem.Heap (get?_push_of_some get?_push_size lt_size size_push)
open PySem.W (callWith_K codeIn emptyDict excIn exmOne fnOf hideAll hideAll_get hideAll_none instObj isFn isNs_of_in keepIn kia_one kitOne lookIn makesIn methodCall_KW methodObj mg_none_of mg_of nsIn of_hideAll plainGet plainGet_of plainOver specialIn takerIn takesIn)
open List (all_eq_true all_map append_nil cons_ne_nil drop_zero flatMap_cons flatten_cons foldl getD_eq_getElem?_getD getElem?_append_left getElem?_append_right getElem?_eq_none getElem?_map getElem?_set_self getElem_mem length_append length_cons length_drop length_dropLast length_map length_nil length_pos_iff length_range length_set length_take map_append map_cons map_drop map_map map_nil map_set map_take mem_append mem_append_right mem_cons mem_cons_of_mem mem_cons_self mem_map mem_of_mem_take mem_range mem_singleton nodup_cons not_mem_nil range_succ replicate_succ size_toArray sum_append sum_cons take_length take_succ)
open Array (getElem?_toList length_toList)
open PyProof.Rows (boot_all boot_int boot_isinstance boot_list boot_min boot_str boot_sum boot_tuple callWith_type1 part_short split_pos toString_length_le)
open PySem (boot_len intText? mem_of_lookup)
set_option Elab.async false
set_option linter.all false
set_option maxRecDepth 100000
set_option maxHeartbeats 4000000
namespace L2
open PySem PySem.Spec PyProof.Rows
abbrev Key:=Sum Int Str
def keyIs:Key->Value->Bool
 | .inl k,v=>Value.isInt k v
 | .inr x,v=>Value.isStrOf x v
def keyH (w:World):Key->Int
 | .inl k=>hashInt k
 | .inr x=>hashStr w x
theorem Jw:∀ {k:Key} {v:Value},keyIs k v=true->(∃ i t,k=Sum.inl i/\v=Value.int i t)\/(∃ x t,k=Sum.inr x/\v=Value.str x t)
 | .inl i,v,h=>by
  obtain ⟨t,e⟩:=Value.isInt_shape (k:=i) (v:=v) h;exact .inl ⟨i,t,rfl,e⟩
 | .inr x,v,h=>by
  obtain ⟨t,e⟩:=Value.isStrOf_shape (x:=x) (v:=v) h;exact .inr ⟨x,t,rfl,e⟩
theorem key_ll (a b:Int):decide ((Sum.inl a:Key)=Sum.inl b)=(a == b):=by
 by_cases e:a=b
 ·subst e;simp
 ·have h:¬ (Sum.inl a:Key)=Sum.inl b:=fun q=>e (Sum.inl.inj q);rw [decide_eq_false h];exact (beq_eq_false_iff_ne.mpr e).symm
theorem key_rr (a b:Str):decide ((Sum.inr a:Key)=Sum.inr b)=decide (a=b):=by
 by_cases e:a=b
 ·subst e;simp
 ·have h:¬ (Sum.inr a:Key)=Sum.inr b:=fun q=>e (Sum.inr.inj q);rw [decide_eq_false h,decide_eq_false e]
theorem key_lr (a:Int) (b:Str):decide ((Sum.inl a:Key)=Sum.inr b)=false:=decide_eq_false (fun q=>nomatch q)
theorem key_rl (a:Str) (b:Int):decide ((Sum.inr a:Key)=Sum.inl b)=false:=decide_eq_false (fun q=>nomatch q)
def mixKind (prog:Program) (w:World):PySem.KeyKind prog w Key where
 is:=keyIs
 hash:=keyH w
 inj:=fun v a b ha hb=>by
  rcases Jw ha with ⟨i,t,rfl,rfl⟩ | ⟨x,t,rfl,rfl⟩
  ·rcases Jw hb with ⟨j,u,rfl,e⟩ | ⟨y,u,rfl,e⟩
   ·injection e with e1 _;rw [e1]
   ·exact nomatch e
  ·rcases Jw hb with ⟨j,u,rfl,e⟩ | ⟨y,u,rfl,e⟩
   ·exact nomatch e
   ·injection e with e1 _;rw [e1]
 byValue:=fun k v h=>by
  rcases Jw h with ⟨i,t,rfl,rfl⟩ | ⟨x,t,rfl,rfl⟩ <;> rfl
 pyHash:=fun hv h=>by
  rcases Jw hv with ⟨i,t,rfl,rfl⟩ | ⟨x,t,rfl,rfl⟩
  ·exact wpAny_pyHash_int h
  ·exact wpAny_pyHash_str h
 eqBool:=fun hu hv h=>by
  rcases Jw hu with ⟨i,t,rfl,rfl⟩ | ⟨x,t,rfl,rfl⟩
  ·rcases Jw hv with ⟨j,u,rfl,rfl⟩ | ⟨y,u,rfl,rfl⟩
   ·rw [key_ll] at h;exact wpAny_eqBool_int h
   ·rw [key_lr] at h;exact SeqAt.EqAt.int_str i t y u _ _ _ _ h
  ·rcases Jw hv with ⟨j,u,rfl,rfl⟩ | ⟨y,u,rfl,rfl⟩
   ·rw [key_rl] at h;exact SeqAt.EqAt.str_int x t j u _ _ _ _ h
   ·rw [key_rr] at h;exact wpAny_eqBool_str h
 «strs»:=fun k x t v h=>by
  rcases Jw h with ⟨i,u,rfl,e⟩ | ⟨y,u,rfl,e⟩
  ·exact nomatch e
  ·injection e with e1 _
   subst e1;cases v <;> rfl
end L2
namespace L2
open PySem PySem.Spec PyProof.Rows
inductive V where
 | non | bl (b:Bool) | int (i:Int) | str (x:Str) | byt (b:Array UInt8) | flt (b:UInt64) | ref (a:Addr) | ty (n:String)
 deriving DecidableEq
def RelV:V->Value->Prop
 | .non,u=>u=Value.none
 | .bl b,u=>u=Value.bool b
 | .int i,u=>∃ t,u=Value.int i t
 | .str x,u=>∃ t,u=Value.str x t
 | .byt b,u=>∃ t,u=Value.bytes b t
 | .flt b,u=>∃ t,u=Value.float b t
 | .ref a,u=>u=Value.ref a
 | .ty n,u=>u=Value.type n
abbrev Vals:List V->List Value->Prop:=Paired RelV
theorem Vals.length {xs:List V} {us:List Value} (r:Vals xs us):xs.length=us.length:=Paired.length r
theorem Vals.get:∀ {xs:List V} {us:List Value} {i:Nat} {x:V},Vals xs us->xs[i]?=some x->∃ u,us[i]?=some u/\RelV x u
 | _,_,_,_,.nil,e=>by simp at e
 | _,_,0,_,.cons r _,e=>by simp at e;subst e;exact ⟨_,rfl,r⟩
 | _,_,i + 1,x,.cons _ t,e=>by
  obtain ⟨u,h1,h2⟩:=Vals.get (i:=i) (x:=x) t (by simpa using e);exact ⟨u,by simpa using h1,h2⟩
theorem Vals.set {x:V} {u:Value} (r:RelV x u):∀ {xs:List V} {us:List Value} (i:Nat),Vals xs us->Vals (xs.set i x) (us.set i u)
 | _,_,_,.nil=>.nil
 | _,_,0,.cons _ t=>.cons r t
 | _,_,i + 1,.cons q t=>.cons q (Vals.set r i t)
theorem Vals.append:∀ {xs ys:List V} {us ws:List Value},Vals xs us->Vals ys ws->Vals (xs ++ ys) (us ++ ws)
 | _,_,_,_,.nil,s=>s
 | _,_,_,_,.cons r t,s=>.cons r (Vals.append t s)
theorem Vals.take:∀ {xs:List V} {us:List Value} (n:Nat),Vals xs us->Vals (xs.take n) (us.take n)
 | _,_,0,_=>.nil
 | _,_,_ + 1,.nil=>.nil
 | _,_,n + 1,.cons r t=>.cons r (Vals.take n t)
theorem Vals.drop:∀ {xs:List V} {us:List Value} (n:Nat),Vals xs us->Vals (xs.drop n) (us.drop n)
 | _,_,0,r=>r
 | _,_,_ + 1,.nil=>.nil
 | _,_,n + 1,.cons _ t=>Vals.drop n t
def RelO:Option V->Option Value->Prop
 | some v,some u=>RelV v u
 | none,none=>True
 | _,_=>False
def KV {κ:Type}:List (κ × V)->List (κ × Value)->Prop:=Paired fun (p:κ × V) (q:κ × Value)=>p.1=q.1/\RelV p.2 q.2
def kV:Key->V
 | .inl i=>.int i
 | .inr x=>.str x
inductive HO where
  | lst (xs:List V)
  | tup (xs:List V)
  | dK (kvs:List (Key × V)) | dT (kvs:List (List Key × V))
  | set (S:Int->Bool) (n:Nat)
  | ins (C dx:Addr) (fs:List (Str × V))
  | own (x:Addr)
  | xd (fs:List (Str × V))
  | met (f x:Addr)
  | rng (lo hi:Int)
  | frz (o:Obj) (u:HO)
  | tbl (ps:Array Value)
  | ext (φ:Heap->Prop)
abbrev Hp:=Addr->Option HO
def upd (H:Hp) (a:Addr) (o:HO):Hp:=fun b=>if b=a then some o else H b
theorem J1 {H:Hp} {a:Addr} {o:HO}:upd H a o a=some o:=by unfold upd;rw [if_pos rfl]
theorem Je {H:Hp} {a b:Addr} {o:HO} (h:b≠a):upd H a o b=H b:=by unfold upd;rw [if_neg h]
theorem ne_of {H:Hp} {a b:Addr} {o u:HO} (h:H a=some o) (h':H b=some u) (d:o≠u):a≠b:=by
 intro e;subst e;rw [h] at h';exact d (Option.some.inj h')
theorem Ja {H:Hp} {a b:Addr} {o:HO} (h:H a=some o) (h':H b=none):a≠b:=by
 intro e;subst e;rw [h] at h';cases h'
section
variable (P:Program) (w:World)
def TupX (h:Heap) (a:Addr) (items:Array Value):Prop:=∃ o,h.get? a=some o/\(o.cls=.type "tuple"/\o.dict=none)/\∃ n,o.data=.seq items n
theorem TupX.tup {h:Heap} {a:Addr} {items:Array Value} (x:TupX h a items):IsTup h a items:=by obtain ⟨o,e,c,r⟩:=x;exact ⟨o,e,c.1,r⟩
theorem TupX.lt {h:Heap} {a:Addr} {items:Array Value} (x:TupX h a items):a < h.objs.size:=by obtain ⟨_,e,_⟩:=x;exact lt_size e
theorem TupX.new (h:Heap) (items:Array Value):TupX (h.push { cls:=.type "tuple",data:=.seq items }) h.objs.size items:=⟨_,get?_push_size _ rfl,⟨rfl,rfl⟩,_,rfl⟩
def ObjOk (H:Hp) (h:Heap) (a:Addr):HO->Prop
 | .lst xs=>xs.length<=sizeLine/\∃ (its:List Value) (n:Nat),Vals xs its/\h.get? a=some { cls:=.type "list",data:=.seq its.toArray n }
 | .tup xs=>xs.length<=sizeLine/\∃ its:List Value,Vals xs its/\TupX h a its.toArray
 | .dK kvs=>kvs.length<=sizeLine/\(a == sysModules)=false/\∃ vs,KV kvs vs/\h.DictOf (mixKind P w) a vs
 | .dT kvs=>kvs.length<=sizeLine/\(a == sysModules)=false/\∃ xs:List (List Key × Addr × Value),
   Paired (fun (p:List Key × V) (q:List Key × Addr × Value)=>p.1=q.1/\H q.2.1=some (.tup (p.1.map kV))/\RelV p.2 q.2.2) kvs xs/\
   ∃ o es ep,h.get? a=some o/\o.ExactDict/\o.data=.dict es ep/\es.toList=xs.map (entryOfKey (tupleKind (mixKind P w)))/\(xs.map (·.1)).Nodup
 | .set S n=>h.SetOf (intKind P w) a S n
 | .ins C dx fs=>H dx=some (.own a)/\fs.length<=1000/\dx≠a/\h.get? a=some (instObj C dx)/\
   ∃ mA,h.Ns1 dx mA/\(∀ f,RelO (fs.lookup f) (mA f))/\PySem.Within mA (fs.map (·.1))
 | .own _=>∃ o,h.get? a=some o
 | .xd fs=>∃ mA,h.Ns1 a mA/\∀ f,RelO (fs.lookup f) (mA f)
 | .rng lo hi=>∃ t u v,h.get? a=some { cls:=.type "range",data:=.fields #[.int lo t,.int hi u,.int 1 v] }
 | .frz o u=>h.get? a=some o/\ObjOk H h a u
 | .tbl ps=>h.get? a=some { cls:=.none,data:=.fields ps }
 | .met f x=>h.get? a=some (methodObj (.ref f) (.ref x))
 | .ext φ=>φ h/\(∃ o,h.get? a=some o)/\∀ h1 h2:Heap,φ h1->(∀ o,h1.get? a=some o->h2.get? a=some o)->φ h2
def HOk (H:Hp) (h:Heap):Prop:=∀ a o,H a=some o->ObjOk P w H h a o
end
section
variable {P:Program} {w:World} {H H':Hp} {h h':Heap} {a:Addr} {o:HO}
theorem ObjOk.lt (x:ObjOk P w H h a o):a < h.objs.size:=by
 cases o with
 | lst xs=>obtain ⟨_,_,_,_,e⟩:=x;exact lt_size e
 | tup xs=>obtain ⟨_,_,_,p⟩:=x;exact p.lt
 | dK kvs=>obtain ⟨_,_,_,_,o,_,_,e,_⟩:=x;exact lt_size e
 | dT kvs=>obtain ⟨_,_,_,_,o,_,_,e,_⟩:=x;exact lt_size e
 | set S n=>obtain ⟨o,_,_,_,e,_⟩:=x;exact lt_size e
 | ins C dx fs=>obtain ⟨_,_,_,e,_⟩:=x;exact lt_size e
 | own y=>obtain ⟨_,e⟩:=x;exact lt_size e
 | xd fs=>obtain ⟨_,⟨_,_,_,e,_⟩,_⟩:=x;exact lt_size e
 | rng lo hi=>obtain ⟨_,_,_,e⟩:=x;exact lt_size e
 | frz ob u=>obtain ⟨e,_⟩:=x;exact lt_size e
 | tbl ps=>exact lt_size (show h.get? a=some _ from x)
 | met f y=>exact lt_size (show h.get? a=some _ from x)
 | ext φ=>obtain ⟨_,⟨_,e⟩,_⟩:=x;exact lt_size e
theorem Paired.mapP {α β:Type} {F G:α->β->Prop}:∀ {l₁:List α} {l₂:List β},Paired F l₁ l₂->(∀ a b,F a b->G a b)->Paired G l₁ l₂
 | _,_,.nil,_=>.nil
 | _,_,.cons r t,f=>.cons (f _ _ r) (Paired.mapP t f)
theorem ObjOk.stay (x:ObjOk P w H h a o) (k:∀ b u,(b=a\/H b=some (.own a))->h.get? b=some u->h'.get? b=some u)
  (ho:∀ b,H b=some (.own a)->H' b=some (.own a)) (ht:∀ b xs,H b=some (.tup xs)->H' b=some (.tup xs)):ObjOk P w H' h' a o:=by
 induction o with
 | lst xs=>obtain ⟨z,its,n,r,e⟩:=x;exact ⟨z,its,n,r,k _ _ (.inl rfl) e⟩
 | tup xs=>obtain ⟨z,its,r,ob,e,c⟩:=x;exact ⟨z,its,r,ob,k _ _ (.inl rfl) e,c⟩
 | dK kvs=>obtain ⟨z,y,vs,r,ob,es,ep,e,c⟩:=x;exact ⟨z,y,vs,r,ob,es,ep,k _ _ (.inl rfl) e,c⟩
 | dT kvs =>
  obtain ⟨z,y,xs,r,ob,es,ep,e,c⟩:=x;exact ⟨z,y,xs,Paired.mapP r fun p q z=>⟨z.1,ht _ _ z.2.1,z.2.2⟩,ob,es,ep,k _ _ (.inl rfl) e,c⟩
 | set S n=>obtain ⟨ob,es,ep,t,e,c⟩:=x;exact ⟨ob,es,ep,t,k _ _ (.inl rfl) e,c⟩
 | ins C dx fs =>
  obtain ⟨d,z,ne,e,mA,⟨od,es,ep,e2,c⟩,r⟩:=x;exact ⟨ho _ d,z,ne,k _ _ (.inl rfl) e,mA,⟨od,es,ep,k _ _ (.inr d) e2,c⟩,r⟩
 | own y=>obtain ⟨ob,e⟩:=x;exact ⟨ob,k _ _ (.inl rfl) e⟩
 | xd fs=>obtain ⟨mA,⟨od,es,ep,e,c⟩,r⟩:=x;exact ⟨mA,⟨od,es,ep,k _ _ (.inl rfl) e,c⟩,r⟩
 | rng lo hi=>obtain ⟨t,u,v,e⟩:=x;exact ⟨t,u,v,k _ _ (.inl rfl) e⟩
 | frz ob u ih=>obtain ⟨e,q⟩:=x;exact ⟨k _ _ (.inl rfl) e,ih q⟩
 | tbl ps =>
  have e:h.get? a=some { cls:=.none,data:=.fields ps }:=x;show h'.get? a=some { cls:=.none,data:=.fields ps };exact k a _ (.inl rfl) e
 | met f y =>
  have e:h.get? a=some (methodObj (.ref f) (.ref y)):=x;show h'.get? a=some (methodObj (.ref f) (.ref y));exact k a _ (.inl rfl) e
 | ext φ=>obtain ⟨p,⟨o,e⟩,st⟩:=x;exact ⟨st _ _ p fun o q=>k _ _ (.inl rfl) q,⟨o,k _ _ (.inl rfl) e⟩,st⟩
theorem HOk.lt (x:HOk P w H h) (e:H a=some o):a < h.objs.size:=(x a o e).lt
theorem HOk.fresh (x:HOk P w H h) (e:h.objs.size<=a):H a=none:=by
 cases q:H a with
 | none=>rfl
 | some u=>exact absurd (Nat.lt_of_lt_of_le (x.lt q) e) (Nat.lt_irrefl _)
theorem HOk.kept (x:HOk P w H h) (k:∀ b u,h.get? b=some u->h'.get? b=some u):HOk P w H h':=fun a o e =>
 (x a o e).stay (fun b u _ q=>k b u q) (fun _ q=>q) fun _ _ q=>q
theorem HOk.laid (x:HOk P w H h) (k:∀ b u,h.get? b=some u->h'.get? b=some u) (hp:h.objs.size<=a) (new:ObjOk P w (upd H a o) h' a o):HOk P w (upd H a o) h':=fun b u e=>by
 have hn:=x.fresh hp;by_cases hb:b=a
 ·subst hb;rw [J1] at e;cases e;exact new
 ·rw [Je hb] at e;exact (x b u e).stay (fun c v _ q=>k c v q) (fun c q=>by rw [Je (Ja q hn)];exact q) fun c xs q=>by rw [Je (Ja q hn)];exact q
end
def Rd (H:Hp) (a:Addr) (u:HO):Prop:=H a=some u\/∃ o,H a=some (.frz o u)
theorem Rd.ok {P:Program} {w:World} {H:Hp} {h:Heap} {a:Addr} {u:HO} (r:Rd H a u) (x:HOk P w H h):ObjOk P w H h a u:=by
 rcases r with r | ⟨o,r⟩
 ·exact x a u r
 ·obtain ⟨_,q⟩:=x a _ r;exact q
def Mut:Option HO->Prop
 | some (.lst _)=>True
 | some (.dK _)=>True
 | some (.dT _)=>True
 | some (.set _ _)=>True
 | some (.ins _ _ _)=>True
 | some (.ext _)=>True
 | _=>False
section
variable {P:Program} {w:World} {H:Hp} {h h':Heap} {x e:Addr} {o':HO}
theorem HOk.write (ok:HOk P w H h) (mu:Mut (H x)) (he:e=x\/H e=some (.own x)) (k:∀ b u,b≠e->h.get? b=some u->h'.get? b=some u) (heo:∃ u,h'.get? e=some u)
  (new:ObjOk P w (upd H x o') h' x o'):HOk P w (upd H x o') h':=fun b u q=>by
 have nown:∀ c y,H c=some (.own y)->c≠x:=fun c y r z=>by subst z;rw [r] at mu;exact mu
 have ntup:∀ c xs,H c=some (.tup xs)->c≠x:=fun c xs r z=>by subst z;rw [r] at mu;exact mu
 by_cases hb:b=x
 ·subst hb;rw [J1] at q;cases q;exact new
 ·rw [Je hb] at q;by_cases hbe:b=e
  ·have q':H b=some (.own x):=by
    rcases he with z | z
    ·exact absurd (hbe.trans z) hb
    ·rw [hbe];exact z
   rw [q] at q';cases q';obtain ⟨v,hv⟩:=heo;exact ⟨v,by rw [hbe];exact hv⟩
  ·refine (ok b u q).stay (fun c v hc r=>k c v ?_ r) (fun c r=>by rw [Je (nown c b r)];exact r) fun c xs r=>by rw [Je (ntup c xs r)];exact r
   rcases hc with rfl | hc
   ·exact hbe
   ·rintro rfl;rcases he with z | z
    ·exact nown c b hc z
    ·rw [hc] at z;cases z;exact hb rfl
end
structure Un (fs ex:List Addr) (H H':Hp) (h h':Heap):Prop where
 keep:∀ b o,h.get? b=some o->H b=none->b ∉ fs->b ∉ ex->h'.get? b=some o
 slot:∀ b o,h.get? b=some o->H b=none->b∈fs->b ∉ ex->∃ sl,h'.get? b=some { o with slots:=sl }
 free:∀ b o,h.get? b=some o->H b=none->b ∉ ex->H' b=none
 there:∀ b o,h.get? b=some o->b ∉ ex->∃ o',h'.get? b=some o'
 tups:∀ b xs,H b=some (.tup xs)->H' b=some (.tup xs)
 frzs:∀ b o u,H b=some (.frz o u)->H' b=some (.frz o u)
 tbls:∀ b ps,H b=some (.tbl ps)->∃ more,H' b=some (.tbl (ps ++ more))
section
variable {fs fs' ex ex':List Addr} {H H1 H2:Hp} {h h1 h2 h':Heap} {a x e:Addr} {o:HO}
theorem Un.any (u:Un fs ex H H1 h h1) {b:Addr} {ob:Obj} (q:h.get? b=some ob) (n:H b=none) (hx:b ∉ ex):∃ sl,h1.get? b=some { ob with slots:=sl }:=by
 by_cases hb:b∈fs
 ·exact u.slot b ob q n hb hx
 ·exact ⟨ob.slots,u.keep b ob q n hb hx⟩
theorem Un.kept (k:∀ b u,h.get? b=some u->h'.get? b=some u):Un fs ex H H h h' :=
 ⟨fun b ob q _ _ _=>k b ob q,fun b ob q _ _ _=>⟨ob.slots,k b ob q⟩,fun _ _ _ n _=>n,fun b ob q _=>⟨ob,k b ob q⟩,fun _ _ q=>q,fun _ _ _ q=>q,fun _ ps q=>⟨#[],by rw [q];simp⟩⟩
theorem Un.refl:Un fs ex H H h h:=Un.kept fun _ _ q=>q
theorem Un.laid (k:∀ b u,h.get? b=some u->h'.get? b=some u) (hp:h.objs.size<=a) (hn:H a=none):Un fs ex H (upd H a o) h h' where
 keep:=fun b u q _ _ _=>k b u q
 slot:=fun b u q _ _ _=>⟨u.slots,k b u q⟩
 free:=fun b u q n _=>by rw [Je (Nat.ne_of_lt (Nat.lt_of_lt_of_le (lt_size q) hp))];exact n
 there:=fun b u q _=>⟨u,k b u q⟩
 tups:=fun b xs q=>by rw [Je (Ja q hn)];exact q
 frzs:=fun b u xs q=>by rw [Je (Ja q hn)];exact q
 tbls:=fun b ps q=>⟨#[],by rw [Je (Ja q hn),q];simp⟩
theorem Un.write (mu:Mut (H x)) (he:e=x\/H e=some (.own x)) (k:∀ b u,b≠e->h.get? b=some u->h'.get? b=some u) (heo:∃ u,h'.get? e=some u):Un fs ex H (upd H x o) h h':=by
 have hx:∀ b,H b=none->b≠x:=fun b n z=>by subst z;rw [n] at mu;exact mu
 have hb:∀ b,H b=none->b≠e:=fun b n z=>by
  subst z;rcases he with r | r
  ·exact hx b n r
  ·rw [n] at r;cases r
 have hm:∀ b u,H b=some u->¬ Mut (some u)->b≠x:=fun b u q nm z=>by subst z;rw [q] at mu;exact nm mu
 refine ⟨fun b u q n _ _=>k b u (hb b n) q,fun b u q n _ _=>⟨u.slots,k b u (hb b n) q⟩,fun b u q n _=>by rw [Je (hx b n)];exact n,fun b u q _=>?_,
  fun b xs q=>by rw [Je (hm b _ q fun z=>z)];exact q,fun b u xs q=>by rw [Je (hm b _ q fun z=>z)];exact q,fun b ps q=>⟨#[],by rw [Je (hm b _ q fun z=>z),q];simp⟩⟩
 by_cases hbe:b=e
 ·subst hbe;exact heo
 ·exact ⟨u,k b u hbe q⟩
end
def trk (h:Heap) (H:Hp):List Addr:=(List.range h.objs.size).filter fun a=>(H a).isSome
def hidT (h:Heap) (H:Hp):Heap:=hideAll h (trk h H)
theorem hidT_size (h:Heap) (H:Hp):(hidT h H).objs.size=h.objs.size:=PySem.W.hideAll_size _ _
theorem hidT_get {h:Heap} {H:Hp} {b:Addr} {o:Obj} (e:h.get? b=some o) (n:H b=none):(hidT h H).get? b=some o :=
 hideAll_get _ e fun hm=>by
  have q:(H b).isSome=true:=(List.mem_filter.mp hm).2;rw [n] at q;simp at q
theorem of_hidT {h:Heap} {H:Hp} {b:Addr} {o:Obj} (e:(hidT h H).get? b=some o):h.get? b=some o/\H b=none:=by
 have e':h.get? b=some o:=of_hideAll (trk h H) e;refine ⟨e',?_⟩
 cases q:H b with
 | none=>rfl
 | some x =>
  have hm:b∈trk h H:=List.mem_filter.mpr ⟨mem_range.mpr (lt_size e'),by simp [q]⟩;have z:(hidT h H).get? b=none:=hideAll_none (trk h H) hm;rw [z] at e;cases e
end L2
namespace L2
open PySem PySem.Spec PyProof.Rows
structure Mod (K:PySem.W.Frag) (mg:Str->Option Value) (base:Heap):Prop where
 kin:K.In base
 glob:base.Ns mainGlobals mg
 blt:∃ mb,base.Ns builtinsNs mb/\∀ x:Str,x≠"__name__"->mb x=bootBuiltins x
 nolimit:base.NoLimit
structure Cx where
 prog:Program
 w:World
 K:PySem.W.Frag
 mg:Str->Option Value
 base:Heap
 A:Around
 N:List Str
 s₀:Shared
 H₀:Hp
 env:Env
 outer:List Env
 stack:List Env
 ex:List Addr
 fn:Str->Bool
 calm:Bool
 pn:List (Addr × Obj)
 xe:Value->Shared->Prop
def frs (l:List Env):List Addr:=l.filterMap (·.frame)
abbrev Cx.fs (X:Cx):List Addr:=frs X.outer
def Vis (sc:Scope) (x:Str):Prop:=sc.names.lookup x=some .local\/sc.names.lookup x=some .cell\/sc.names.lookup x=some .free
def Loc (sc:Scope) (x:Str):Prop:=sc.names.lookup x=some .local\/sc.names.lookup x=some .cell
def Look (env:Env) (h:Heap) (m:Str->Option Value) (x:Str) (u:Value):Prop :=
 (env.kindOf x=some .local/\m x=some u)\/((env.kindOf x=some .cell\/env.kindOf x=some .free)/\∃ c,env.cells.lookup x=some c/\h.IsCell c (some u))
structure Cx.Ok (X:Cx):Prop where
 mod:Mod X.K X.mg X.base
 kind:X.env.scope.kind=.function
 glob:X.env.globals=mainGlobals
 blt:X.env.builtins=builtinsNs
 above:X.s₀.heap.objs.size<=X.env.locals
 inj:∀ x y c,X.env.cells.lookup x=some c->X.env.cells.lookup y=some c->x=y
 has:∀ x,(X.env.kindOf x=some .cell\/X.env.kindOf x=some .free)->∃ c,X.env.cells.lookup x=some c
 cab:∀ x c,X.fn x=true->X.env.cells.lookup x=some c->X.s₀.heap.objs.size<=c
 hd:X.calm=true->X.A.handled=none
 frames:X.A.frames=some X.stack
 stk:X.stack=X.outer\/(X.stack=X.env :: X.outer/\X.env.frame=some X.env.locals)
 exf:∀ b∈X.ex,b≠X.env.locals/\∀ x c,X.env.cells.lookup x=some c->c≠b
 bs:∀ b o,X.base.get? b=some o->X.s₀.heap.get? b=some o/\X.H₀ b=none
 bsz:X.base.objs.size<=X.s₀.heap.objs.size
 noex:∀ b o,X.base.get? b=some o->b ∉ X.ex
 exfs:∀ b∈X.ex,b ∉ X.fs
 funs:X.s₀.heap.FunFrames X.base X.outer
 frf:∀ b∈X.fs,X.H₀ b=none
structure Inv (X:Cx) (pins:List (Addr × Obj)) (σ:List (Option V)) (H:Hp) (s:Shared):Prop where
 ok:X.Ok
 os:s.os=X.s₀.os
 bare:AllBare s.gens
 base:Un X.fs X.ex X.H₀ H X.s₀.heap s.heap
 loc:∃ m,s.heap.Ns X.env.locals m/\∀ (i:Nat) (x:Str) (v:V),X.N[i]?=some x->σ[i]?=some (some v)->Vis X.env.scope x->∃ u,RelV v u/\Look X.env s.heap m x u
 cell:∀ x c,X.env.cells.lookup x=some c->∃ v,s.heap.IsCell c v
 free:H X.env.locals=none
 freeC:∀ x c,X.env.cells.lookup x=some c->H c=none
 pin:∀ p∈X.pn ++ pins,s.heap.get? p.1=some p.2/\H p.1=none/\p.1≠X.env.locals/\p.1 ∉ X.fs/\∀ v,p.2.data≠.cell v
 hok:HOk X.prog X.w H s.heap
 len:σ.length=X.N.length
section
variable {X:Cx} {pins:List (Addr × Obj)} {σ:List (Option V)} {H H':Hp} {s:Shared} {h':Heap}
theorem Cx.Ok.nofr (ok:X.Ok) {b:Addr} {o:Obj} (e:X.base.get? b=some o):b ∉ X.fs:=fun hb=>by
 have:=(ok.funs.mem hb).1;rw [e] at this;cases this
theorem Inv.bs (I:Inv X pins σ H s):∀ b o,X.base.get? b=some o->s.heap.get? b=some o/\H b=none:=fun b o e =>
 ⟨I.base.keep b o (I.ok.bs b o e).1 (I.ok.bs b o e).2 (I.ok.nofr e) (I.ok.noex b o e),I.base.free b o (I.ok.bs b o e).1 (I.ok.bs b o e).2 (I.ok.noex b o e)⟩
theorem Inv.bk (I:Inv X pins σ H s):∀ b o,X.base.get? b=some o->s.heap.get? b=some o:=fun b o e=>(I.bs b o e).1
theorem Inv.mod (I:Inv X pins σ H s):Mod X.K X.mg X.base:=I.ok.mod
theorem Inv.kIn (I:Inv X pins σ H s):X.K.In s.heap:=I.ok.mod.kin.keeps I.bk
theorem Inv.fr (I:Inv X pins σ H s):∃ m,Fr X.base X.env.locals s.heap m :=
 let ⟨m,hn,_⟩:=I.loc
 ⟨m,hn,I.bk,Nat.le_trans I.ok.bsz I.ok.above⟩
theorem Inv.lt (I:Inv X pins σ H s):X.env.locals < s.heap.objs.size:=by obtain ⟨_,hn,_⟩:=I.loc;exact hn.lt
theorem Inv.sz (I:Inv X pins σ H s):X.s₀.heap.objs.size<=s.heap.objs.size:=Nat.le_trans I.ok.above (Nat.le_of_lt I.lt)
theorem Inv.nofs (I:Inv X pins σ H s) {a:Addr} (h:s.heap.objs.size<=a):a ∉ X.fs:=fun hb=>by
 obtain ⟨_,o,ho,_⟩:=I.ok.funs.mem hb;exact absurd (Nat.lt_of_lt_of_le (lt_size ho) (Nat.le_trans I.sz h)) (Nat.lt_irrefl _)
theorem Inv.cne (I:Inv X pins σ H s):∀ x c,X.env.cells.lookup x=some c->c≠X.env.locals:=fun x c e z=>by
 obtain ⟨v,o,ho,hd⟩:=I.cell x c e;obtain ⟨m,⟨o',es,ep,ho',hd',_⟩,_⟩:=I.loc;rw [z,ho'] at ho;cases ho;rw [hd'] at hd;cases hd
theorem Inv.funs (I:Inv X pins σ H s):s.heap.FunFrames X.base X.outer:=by
 have all:∀ (l:List Env),(∀ b∈frs l,b∈X.fs)->X.s₀.heap.FunFrames X.base l->s.heap.FunFrames X.base l:=by
  intro l
  induction l with
  | nil=>intro _ _;trivial
  | cons env r ih =>
   intro hs hl;obtain ⟨hk,⟨L,o,hf,hn,ho,hd⟩,hr⟩:=hl;have hL:L∈X.fs:=hs L (by unfold frs;rw [List.filterMap_cons,hf];exact mem_cons_self);obtain ⟨sl,e⟩:=I.base.slot L o ho (I.ok.frf L hL) hL fun z=>I.ok.exfs L z hL;exact ⟨hk,⟨L,_,hf,hn,e,hd⟩,ih (fun b hb=>hs b (by unfold frs;rw [List.filterMap_cons,hf];exact mem_cons_of_mem _ hb)) hr⟩
 exact all X.outer (fun _ hb=>hb) I.ok.funs
theorem Inv.stack (I:Inv X pins σ H s):s.heap.FunFrames X.base X.stack:=by
 rcases I.ok.stk with e | ⟨e,hf⟩
 ·rw [e];exact I.funs
 ·rw [e];obtain ⟨m,hn,_⟩:=I.loc;refine .cons (by rw [I.ok.kind];decide) hf hn ?_ I.funs;exact Heap.get?_none_of_le (Nat.le_trans I.ok.bsz I.ok.above)
theorem Inv.stkSub (I:Inv X pins σ H s):∀ b∈frs X.stack,b∈X.env.locals :: X.fs:=fun b hb=>by
 rcases I.ok.stk with e | ⟨e,hf⟩
 ·rw [e] at hb;exact mem_cons_of_mem _ hb
 ·rw [e] at hb;unfold frs at hb;rw [List.filterMap_cons,hf] at hb;exact hb
theorem Inv.stkFree (I:Inv X pins σ H s):∀ b∈frs X.stack,H b=none:=fun b hb=>by
 rcases mem_cons.mp (I.stkSub b hb) with e | hb
 ·rw [e];exact I.free
 ·obtain ⟨_,o,ho,_⟩:=I.ok.funs.mem hb;exact I.base.free b o ho (I.ok.frf b hb) fun z=>I.ok.exfs b z hb
theorem Inv.step {g':Array GenState} {t':Nat} {d':Drawn} {ch:List Addr} (I:Inv X pins σ H s)
  (hch:∀ b∈ch,(b∈X.ex\/X.s₀.heap.objs.size<=b)/\b≠X.env.locals/\(∀ x c,X.env.cells.lookup x=some c->c≠b)/\∀ p∈X.pn ++ pins,p.1≠b)
  (keep:∀ b o,b≠X.env.locals->b ∉ X.fs->b ∉ ch->s.heap.get? b=some o->H b=none->h'.get? b=some o)
  (slot:∀ b o,b≠X.env.locals->b∈X.fs->b ∉ ch->s.heap.get? b=some o->H b=none->∃ sl,h'.get? b=some { o with slots:=sl }) (free:∀ b o,b ∉ ch->s.heap.get? b=some o->H b=none->H' b=none)
  (there:∀ b o,b ∉ ch->s.heap.get? b=some o->∃ o',h'.get? b=some o')
  (tups:∀ b xs,H b=some (.tup xs)->H' b=some (.tup xs)) (frzs:∀ b o u,H b=some (.frz o u)->H' b=some (.frz o u)) (tbls:∀ b ps,H b=some (.tbl ps)->∃ more,H' b=some (.tbl (ps ++ more)))
  (ns:∀ m,s.heap.Ns X.env.locals m->h'.Ns X.env.locals m) (hok:HOk X.prog X.w H' h') (hg:AllBare g') :
  Inv X pins σ H' { s with heap:=h',gens:=g',drawn:=d',toks:=t' }:=by
 have neL:∀ b o,X.s₀.heap.get? b=some o->b≠X.env.locals:=fun b o e=>Nat.ne_of_lt (Nat.lt_of_lt_of_le (lt_size e) I.ok.above);have neC:∀ b o,X.s₀.heap.get? b=some o->b ∉ X.ex->b ∉ ch:=fun b o e hx hb=>by
  rcases (hch b hb).1 with z | z
  ·exact hx z
  ·exact absurd (Nat.lt_of_lt_of_le (lt_size e) z) (Nat.lt_irrefl _)
 have cellK:∀ x c,X.env.cells.lookup x=some c->∀ v,s.heap.IsCell c v->h'.IsCell c v:=fun x c e v h9=>by
  obtain ⟨o,ho,hd⟩:=h9;have nch:c ∉ ch:=fun z=>(hch c z).2.2.1 x c e rfl;by_cases hc:c∈X.fs
  ·obtain ⟨sl,q⟩:=slot c o (I.cne x c e) hc nch ho (I.freeC x c e);exact ⟨_,q,hd⟩
  ·exact ⟨o,keep c o (I.cne x c e) hc nch ho (I.freeC x c e),hd⟩
 refine ⟨I.ok,I.os,hg,⟨fun b o e n hb hx=>?_,fun b o e n hb hx=>?_,fun b o e n hx=>?_,fun b o e hx=>?_,fun b xs e=>tups b xs (I.base.tups b xs e),fun b o xs e=>frzs b o xs (I.base.frzs b o xs e),fun b ps e=>?_⟩,?_,fun x c e=>?_,?_,fun x c e=>?_,fun p hp=>?_,hok,I.len⟩
 ·exact keep b o (neL b o e) hb (neC b o e hx) (I.base.keep b o e n hb hx) (I.base.free b o e n hx)
 ·obtain ⟨sl,e1⟩:=I.base.slot b o e n hb hx;obtain ⟨sl',e2⟩:=slot b _ (neL b o e) hb (neC b o e hx) e1 (I.base.free b o e n hx);exact ⟨sl',e2⟩
 ·obtain ⟨o',e1⟩:=I.base.there b o e hx;exact free b o' (neC b o e hx) e1 (I.base.free b o e n hx)
 ·obtain ⟨o',e1⟩:=I.base.there b o e hx;exact there b o' (neC b o e hx) e1
 ·obtain ⟨m1,e1⟩:=I.base.tbls b ps e;obtain ⟨m2,e2⟩:=tbls b _ e1;exact ⟨m1 ++ m2,by rw [e2,Array.append_assoc]⟩
 ·obtain ⟨m,hn,hl⟩:=I.loc;refine ⟨m,ns m hn,fun i x v e1 e2 e3=>?_⟩;obtain ⟨u,r,l⟩:=hl i x v e1 e2 e3;refine ⟨u,r,?_⟩;rcases l with l | ⟨k,c,e,z⟩
  ·exact .inl l
  ·exact .inr ⟨k,c,e,cellK x c e _ z⟩
 ·obtain ⟨v,z⟩:=I.cell x c e;exact ⟨v,cellK x c e v z⟩
 ·obtain ⟨m,⟨o,_,_,ho,_⟩,_⟩:=I.loc;exact free _ o (fun z=>(hch _ z).2.1 rfl) ho I.free
 ·obtain ⟨v,o,ho,hd⟩:=I.cell x c e;exact free c o (fun z=>(hch c z).2.2.1 x c e rfl) ho (I.freeC x c e)
 ·obtain ⟨e,n,ne,nf,d⟩:=I.pin p hp;have nch:p.1 ∉ ch:=fun z=>(hch p.1 z).2.2.2 p hp rfl;exact ⟨keep p.1 p.2 ne nf nch e n,free p.1 p.2 nch e n,ne,nf,d⟩
theorem Inv.un {t':Nat} (I:Inv X pins σ H s) (u:Un X.fs [] H H' s.heap h') (hok:HOk X.prog X.w H' h'):Inv X pins σ H' { s with heap:=h',toks:=t' }:=by
 obtain ⟨m,⟨o,es,ep,ho,r⟩,_⟩:=id I.loc;obtain ⟨sl,hL⟩:=u.any ho I.free (by simp);exact I.step (g':=s.gens) (d':=s.drawn) (ch:=[]) (fun _ z=>nomatch z) (fun b o _ hb _ e n=>u.keep b o e n hb (by simp)) (fun b o _ hb _ e n=>u.slot b o e n hb (by simp)) (fun b o _ e n=>u.free b o e n (by simp)) (fun b o _ e=>u.there b o e (by simp)) u.tups u.frzs u.tbls (fun m' hm=>by
  obtain ⟨o',es',ep',ho',r'⟩:=hm;rw [ho] at ho';cases ho';exact ⟨_,es',ep',hL,r'⟩) hok I.bare
theorem Inv.call {g':Array GenState} {t':Nat} {d':Drawn} {ch:List Addr} (I:Inv X pins σ H s) (u:Un (frs X.stack) ch H H' s.heap h') (hok:HOk X.prog X.w H' h') (hg:AllBare g')
  (hch:∀ b∈ch,(b∈X.ex\/X.s₀.heap.objs.size<=b)/\b≠X.env.locals/\(∀ x c,X.env.cells.lookup x=some c->c≠b)/\∀ p∈X.pn ++ pins,p.1≠b) :
  Inv X pins σ H' { s with heap:=h',gens:=g',drawn:=d',toks:=t' }:=by
 obtain ⟨m,⟨o,es,ep,ho,r⟩,_⟩:=id I.loc;obtain ⟨sl,hL⟩:=u.any ho I.free fun z=>(hch _ z).2.1 rfl;exact I.step (ch:=ch) hch (fun b o hL hb hc e n=>u.keep b o e n (fun z=>(mem_cons.mp (I.stkSub b z)).elim hL hb) hc) (fun b o _ _ hc e n=>u.any e n hc) (fun b o hc e n=>u.free b o e n hc) (fun b o hc e=>u.there b o e hc) u.tups u.frzs u.tbls (fun m' hm=>by
  obtain ⟨o',es',ep',ho',r'⟩:=hm;rw [ho] at ho';cases ho';exact ⟨_,es',ep',hL,r'⟩) hok hg
theorem Inv.turned {t':Nat} {it:Addr} (I:Inv X pins σ H s) (k:∀ b o,b≠it->s.heap.get? b=some o->h'.get? b=some o) (hn:H it=none) (hL:it≠X.env.locals)
  (h1:it∈X.ex\/X.s₀.heap.objs.size<=it) (h2:∀ x c,X.env.cells.lookup x=some c->c≠it) (h3:∀ p∈X.pn ++ pins,p.1≠it):Inv X pins σ H { s with heap:=h',toks:=t' }:=by
 have nit:∀ b u,H b=some u->b≠it:=fun b u e z=>by rw [z,hn] at e;cases e
 refine I.step (g':=s.gens) (d':=s.drawn) (ch:=[it]) (fun b hb=>?_) (fun b o _ _ hc e _=>k b o (fun z=>hc (by simp [z])) e) (fun b o _ _ hc e _=>⟨o.slots,k b o (fun z=>hc (by simp [z])) e⟩) (fun _ _ _ _ n=>n)
  (fun b o hc e=>⟨o,k b o (fun z=>hc (by simp [z])) e⟩) (fun _ _ e=>e) (fun _ _ _ e=>e) (fun b ps e=>⟨#[],by rw [e];simp⟩) (fun m hm=>?_) (fun b u e=>?_) I.bare
 ·have e:b=it:=by simpa using hb
  subst e;exact ⟨h1,hL,h2,h3⟩
 ·obtain ⟨o,es,ep,ho,r⟩:=hm;exact ⟨o,es,ep,k _ o (Ne.symm hL) ho,r⟩
 ·refine (I.hok b u e).stay (fun c v hc q=>k c v ?_ q) (fun _ q=>q) fun _ _ q=>q;rcases hc with z | z
  ·rw [z];exact nit b u e
  ·exact nit c _ z
theorem Inv.tok (I:Inv X pins σ H s) (t:Nat):Inv X pins σ H { s with toks:=t }:=I.un (h':=s.heap) (t':=t) Un.refl I.hok
theorem Inv.kept {t':Nat} (I:Inv X pins σ H s) (k:∀ b u,s.heap.get? b=some u->h'.get? b=some u):Inv X pins σ H { s with heap:=h',toks:=t' }:=I.un (Un.kept k) (I.hok.kept k)
theorem Inv.laid {a:Addr} {o:HO} {t':Nat} (I:Inv X pins σ H s) (k:∀ b u,s.heap.get? b=some u->h'.get? b=some u) (hp:s.heap.objs.size<=a) (new:ObjOk X.prog X.w (upd H a o) h' a o) :
  Inv X pins σ (upd H a o) { s with heap:=h',toks:=t' }:=I.un (Un.laid k hp (I.hok.fresh hp)) (I.hok.laid k hp new)
theorem Inv.write {x e:Addr} {o:HO} {t':Nat} (I:Inv X pins σ H s) (mu:Mut (H x)) (he:e=x\/H e=some (.own x)) (k:∀ b u,b≠e->s.heap.get? b=some u->h'.get? b=some u) (heo:∃ u,h'.get? e=some u)
  (new:ObjOk X.prog X.w (upd H x o) h' x o):Inv X pins σ (upd H x o) { s with heap:=h',toks:=t' }:=I.un (Un.write mu he k heo) (I.hok.write mu he k heo new)
theorem Inv.pins_of {pins':List (Addr × Obj)} (I:Inv X pins σ H s) (h:∀ p∈pins',s.heap.get? p.1=some p.2/\H p.1=none/\p.1≠X.env.locals/\p.1 ∉ X.fs/\∀ v,p.2.data≠.cell v):Inv X pins' σ H s :=
 ⟨I.ok,I.os,I.bare,I.base,I.loc,I.cell,I.free,I.freeC,fun p hp=>(mem_append.mp hp).elim (fun z=>I.pin p (List.mem_append_left _ z)) (h p),I.hok,I.len⟩
theorem J5h {N:List Str} (hN:N.Nodup) {i j:Nat} {x:Str} (a:N[i]?=some x) (b:N[j]?=some x):i=j:=by
 obtain ⟨h1,e1⟩:=List.getElem?_eq_some_iff.mp a;obtain ⟨h2,e2⟩:=List.getElem?_eq_some_iff.mp b;exact (List.getElem_inj hN).mp (e1.trans e2.symm)
theorem store_ok2 {M:Model} {A:Around} {E:Value->Shared->Prop} {i:Nat} {x:Str} {v:V} {u:Value} {Q:Unit->Shared->Prop} (I:Inv X pins σ H s) (hN:X.N.Nodup) (hi:X.N[i]?=some x) (hx:Loc X.env.scope x) (r:RelV v u)
  (h:∀ s',Inv X pins (σ.set i (some v)) H s'->(∃ a,Heap.SameBut a s.heap s'.heap/\(a=X.env.locals\/X.env.cells.lookup x=some a))->Q () s') (hf:X.fn x=true\/X.env.scope.names.lookup x=some .local:=by first | exact .inl rfl | exact .inr rfl | assumption):wpAny M A (storeName X.env x u) Q E s:=by
 obtain ⟨m,hn,hl⟩:=id I.loc;have hcls:(X.env.scope.kind == .class || (X.env.scope.kind == .module && X.env.locals != X.env.globals))=false:=by rw [I.ok.kind];rfl
 have hiσ:i < σ.length:=by rw [I.len];exact (List.getElem?_eq_some_iff.mp hi).1
 have cne:=I.cne;have tracked:∀ {a:Addr} {h':Heap},(∃ o,s.heap.get? a=some o/\H a=none)->Heap.SameBut a s.heap h'->HOk X.prog X.w H h':=fun {a h'} ha hs b ob e=>by
  obtain ⟨_,_,hfree⟩:=ha;refine (I.hok b ob e).stay (fun c w' hc q=>(hs.2 c ?_).trans q) (fun _ q=>q) fun _ _ q=>q;rintro rfl;rcases hc with rfl | hc
  ·rw [hfree] at e;cases e
  ·rw [hfree] at hc;cases hc
 rcases hx with hk | hk
 ·refine wpAny_storeName_local hk hn (fun h' hn' hs=>?_) hcls;obtain ⟨oL,_,_,hoL,_⟩:=id hn;refine h _ ⟨I.ok,I.os,I.bare,⟨fun b o e n hb hx=>?_,fun b o e n hb hx=>?_,I.base.free,fun b o e hx=>?_,I.base.tups,I.base.frzs,I.base.tbls⟩,⟨_,hn',fun j y v' e1 e2 e3=>?_⟩,fun y c e=>?_,I.free,I.freeC,fun p hp=>?_,tracked ⟨oL,hoL,I.free⟩ hs,by simpa using I.len⟩ ⟨_,hs,.inl rfl⟩
  ·exact (hs.2 b (Nat.ne_of_lt (Nat.lt_of_lt_of_le (lt_size e) I.ok.above))).trans (I.base.keep b o e n hb hx)
  ·obtain ⟨sl,e1⟩:=I.base.slot b o e n hb hx;exact ⟨sl,(hs.2 b (Nat.ne_of_lt (Nat.lt_of_lt_of_le (lt_size e) I.ok.above))).trans e1⟩
  ·obtain ⟨o',e1⟩:=I.base.there b o e hx;exact ⟨o',(hs.2 b (Nat.ne_of_lt (Nat.lt_of_lt_of_le (lt_size e) I.ok.above))).trans e1⟩
  ·by_cases hj:j=i
   ·subst hj;rw [hi] at e1;cases e1;rw [getElem?_set_self hiσ] at e2;cases e2;exact ⟨u,r,.inl ⟨hk,by simp⟩⟩
   ·rw [List.getElem?_set_ne (Ne.symm hj)] at e2;obtain ⟨u',r',q⟩:=hl j y v' e1 e2 e3;refine ⟨u',r',?_⟩;rcases q with ⟨k,e⟩ | ⟨k,c,e,z⟩
    ·refine .inl ⟨k,?_⟩;have:y≠x:=fun e=>hj (J5h hN e1 (e ▸ hi));simp [this,e]
    ·exact .inr ⟨k,c,e,z.sameBut hs (cne y c e)⟩
  ·obtain ⟨w',z⟩:=I.cell y c e;exact ⟨w',z.sameBut hs (cne y c e)⟩
  ·obtain ⟨e,n,ne,nf,d⟩:=I.pin p hp;exact ⟨(hs.2 p.1 ne).trans e,n,ne,nf,d⟩
 ·have hfn:X.fn x=true:=by
   rcases hf with z | z
   ·exact z
   ·rw [z] at hk;cases hk
  obtain ⟨c,hc⟩:=I.ok.has x (.inl hk);obtain ⟨w',z⟩:=I.cell x c hc;refine wpAny_storeName_cell I.ok.kind hk hc z (fun h' hc' hs=>?_);obtain ⟨oc,hoc,hocd⟩:=id z;refine h { s with heap:=h' } ⟨I.ok,I.os,I.bare,⟨fun b o e n hb hx=>?_,fun b o e n hb hx=>?_,I.base.free,fun b o e hx=>?_,I.base.tups,I.base.frzs,I.base.tbls⟩,⟨m,hn.sameBut hs (Ne.symm (cne x c hc)),fun j y v' e1 e2 e3=>?_⟩,fun y c' e=>?_,I.free,I.freeC,fun p hp=>?_,tracked ⟨oc,hoc,I.freeC x c hc⟩ hs,by simpa using I.len⟩ ⟨c,hs,.inr hc⟩
  ·exact (hs.2 b (Nat.ne_of_lt (Nat.lt_of_lt_of_le (lt_size e) (I.ok.cab x c hfn hc)))).trans (I.base.keep b o e n hb hx)
  ·obtain ⟨sl,e1⟩:=I.base.slot b o e n hb hx;exact ⟨sl,(hs.2 b (Nat.ne_of_lt (Nat.lt_of_lt_of_le (lt_size e) (I.ok.cab x c hfn hc)))).trans e1⟩
  ·obtain ⟨o',e1⟩:=I.base.there b o e hx;exact ⟨o',(hs.2 b (Nat.ne_of_lt (Nat.lt_of_lt_of_le (lt_size e) (I.ok.cab x c hfn hc)))).trans e1⟩
  ·by_cases hj:j=i
   ·subst hj;rw [hi] at e1;cases e1;rw [getElem?_set_self hiσ] at e2;cases e2;exact ⟨u,r,.inr ⟨.inl hk,c,hc,hc'⟩⟩
   ·rw [List.getElem?_set_ne (Ne.symm hj)] at e2;obtain ⟨u',r',q⟩:=hl j y v' e1 e2 e3;refine ⟨u',r',?_⟩;rcases q with q | ⟨k,c',e,z'⟩
    ·exact .inl q
    ·refine .inr ⟨k,c',e,z'.sameBut hs ?_⟩;rintro rfl;exact hj (J5h hN e1 (I.ok.inj _ _ _ e hc ▸ hi))
  ·by_cases hcc:c'=c
   ·subst hcc;exact ⟨_,hc'⟩
   ·obtain ⟨w2,z2⟩:=I.cell y c' e;exact ⟨w2,z2.sameBut hs hcc⟩
  ·obtain ⟨e,n,ne,nf,d⟩:=I.pin p hp;refine ⟨(hs.2 p.1 ?_).trans e,n,ne,nf,d⟩;intro q;rw [q,hoc] at e;have q':oc=p.2:=Option.some.inj e;exact d w' (by rw [<- q'];exact hocd)
theorem J52 {M:Model} {A:Around} {E:Value->Shared->Prop} {i:Nat} {x:Str} {v:V} {u:Value} {Q:Unit->Shared->Prop} (I:Inv X pins σ H s) (hN:X.N.Nodup) (hi:X.N[i]?=some x) (hx:Loc X.env.scope x) (r:RelV v u)
  (h:∀ s',Inv X pins (σ.set i (some v)) H s'->Q () s') (hf:X.fn x=true\/X.env.scope.names.lookup x=some .local:=by first | exact .inl rfl | exact .inr rfl | assumption):wpAny M A (storeName X.env x u) Q E s :=
 store_ok2 I hN hi hx r (fun s' I' _=>h s' I') hf
theorem Inv.call' {s':Shared} {ch:List Addr} (I:Inv X pins σ H s) (ho:s'.os=s.os) (u:Un (frs X.stack) ch H H' s.heap s'.heap) (hok:HOk X.prog X.w H' s'.heap) (hg:AllBare s'.gens)
  (hch:∀ b∈ch,(b∈X.ex\/X.s₀.heap.objs.size<=b)/\b≠X.env.locals/\(∀ x c,X.env.cells.lookup x=some c->c≠b)/\∀ p∈X.pn ++ pins,p.1≠b):Inv X pins σ H' s':=by
 obtain ⟨h',g',d',t',o'⟩:=s';have e:o'=s.os:=ho;subst e;exact I.call (g':=g') (t':=t') (d':=d') u hok hg hch
end
abbrev XK:=Value->Option Addr->Hp->Prop
abbrev St:=List (Option V)
abbrev VK:=V->Hp->Prop
abbrev TE:=St->Hp->VK->Prop
abbrev TT:=St->Hp->(Bool->Hp->Prop)->Prop
abbrev TA:=St->Hp->(List V->Hp->Prop)->Prop
structure Ends where
 nx:St->Hp->Prop
 rt:VK
 bk:St->Hp->Prop:=fun _ _=>False
 ct:St->Hp->Prop:=fun _ _=>False
abbrev TS:=Ends->St->Hp->Prop
def EP (X:Cx) (pins:List (Addr × Obj)) (σ:St) (Q:VK) (u:Value) (s':Shared):Prop:=∃ v H',Inv X pins σ H' s'/\RelV v u/\Q v H'
def TP (X:Cx) (pins:List (Addr × Obj)) (σ:St) (Q:Bool->Hp->Prop) (b:Bool) (s':Shared):Prop:=∃ H',Inv X pins σ H' s'/\Q b H'
def AP (X:Cx) (pins:List (Addr × Obj)) (σ:St) (Q:List V->Hp->Prop) (us:List Value) (s':Shared):Prop:=∃ vs H',Inv X pins σ H' s'/\Vals vs us/\Q vs H'
def SP (X:Cx) (pins:List (Addr × Obj)) (D:Ends) (f:Flow) (s':Shared):Prop :=
 match f with
 | .next=>∃ σ' H',Inv X pins σ' H' s'/\D.nx σ' H'
 | .brk=>∃ σ' H',Inv X pins σ' H' s'/\D.bk σ' H'
 | .cont=>∃ σ' H',Inv X pins σ' H' s'/\D.ct σ' H'
 | .ret u=>∃ v σ' H',Inv X pins σ' H' s'/\RelV v u/\D.rt v H'
def PE (X:Cx) (e:Expr) (t:TE):Prop :=
 ∀ (pins:List (Addr × Obj)) (s:Shared) (σ:St) (H:Hp) (Q:VK),Inv X pins σ H s->t σ H Q->wpAny (model X.prog X.w) X.A (eval e X.env) (EP X pins σ Q) X.xe s
def PT (X:Cx) (e:Expr) (t:TT):Prop :=
 ∀ (pins:List (Addr × Obj)) (s:Shared) (σ:St) (H:Hp) (Q:Bool->Hp->Prop),Inv X pins σ H s->t σ H Q->wpAny (model X.prog X.w) X.A (isTrue e X.env (eval e X.env)) (TP X pins σ Q) X.xe s
def PW (X:Cx) (e:Expr) (t:TT):Prop :=
 ∀ (whole:Sem Value) (pins:List (Addr × Obj)) (s:Shared) (σ:St) (H:Hp) (Q:Bool->Hp->Prop),Inv X pins σ H s->t σ H Q->wpAny (model X.prog X.w) X.A (isTrue e X.env whole) (TP X pins σ Q) X.xe s
theorem PW.pt {X:Cx} {e:Expr} {t:TT} (h:PW X e t):PT X e t:=h _
def PA (X:Cx) (es:List Expr) (t:TA):Prop :=
 ∀ (pos:Pos) (pins:List (Addr × Obj)) (s:Shared) (σ:St) (H:Hp) (Q:List V->Hp->Prop),Inv X pins σ H s->t σ H Q->wpAny (model X.prog X.w) X.A (spliced (backTo pos (starEach es X.env))) (AP X pins σ Q) X.xe s
def PS (X:Cx) (st:Stmt) (t:TS):Prop :=
 ∀ (pins:List (Addr × Obj)) (s:Shared) (σ:St) (H:Hp) (D:Ends),Inv X pins σ H s->t D σ H->wpAny (model X.prog X.w) X.A (exec st X.env) (SP X pins D) X.xe s
def PSs (X:Cx) (st:List Stmt) (t:TS):Prop :=
 ∀ (pins:List (Addr × Obj)) (s:Shared) (σ:St) (H:Hp) (D:Ends),Inv X pins σ H s->t D σ H->wpAny (model X.prog X.w) X.A (execs st X.env) (SP X pins D) X.xe s
theorem thn {α:Type} {t:Sem α} {Q Q':α->Shared->Prop} {M:Model} {A:Around} {E:Value->Shared->Prop} {s:Shared} (h:wpAny M A t Q E s) (hQ:∀ a s,Q a s->Q' a s):wpAny M A t Q' E s:=wpAny_mono h hQ fun _ _ x=>x
end L2
namespace L2
open PySem PySem.Spec PyProof.Rows
section
variable {X:Cx}
def tVar (i:Nat):TE:=fun σ H Q=>∃ v,σ[i]?=some (some v)/\Q v H
def tC (v:V):TE:=fun _ H Q=>Q v H
theorem pe_var {i:Nat} {x:Str} {pos:Pos} (hN:X.N[i]?=some x) (hv:Vis X.env.scope x) (hd:(x == ("__debug__":Str))=false:=by decide) (hcd:(x == ("__classdict__":Str))=false:=by decide):PE X (.Name x pos) (tVar i):=by
 intro pins s σ H Q I h;obtain ⟨v,e,h⟩:=h;obtain ⟨m,hn,hl⟩:=I.loc;obtain ⟨u,r,l⟩:=hl i x v hN e hv;have fin:EP X pins σ Q u s:=⟨v,H,I,r,h⟩;rcases l with ⟨hk,hm⟩ | ⟨hk,c,hc,hcell⟩
 ·exact wpAny_Name (wpAny_loadName_local I.ok.kind hk hn hm fin) hd
 ·rcases hk with hk | hk
  ·exact wpAny_Name (wpAny_loadName_cell I.ok.kind hk hc hcell fin) hd
  ·exact wpAny_Name (wpAny_loadName_free I.ok.kind hk hc hcell fin hcd) hd
theorem J7 {i j pos}:PE X (.Constant (.int i) j pos) (tC (.int i)):=fun _ _ _ H _ I h=>wpAny_Constant_int ⟨.int i,H,I.tok _,⟨_,rfl⟩,h⟩
theorem pe_bl {b j pos}:PE X (.Constant (.bool b) j pos) (tC (.bl b)):=fun _ _ _ H _ I h=>Constant_bool ⟨.bl b,H,I,rfl,h⟩
theorem J1e {j pos}:PE X (.Constant .none j pos) (tC .non):=fun _ _ _ H _ I h=>Constant_none ⟨.non,H,I,rfl,h⟩
theorem Jn {x j pos}:PE X (.Constant (.str x) j pos) (tC (.str x)):=fun _ _ _ H _ I h=>Calls.Constant_str ⟨.str x,H,I.tok _,⟨_,rfl⟩,h⟩
def Gl (X:Cx) (x:Str):Prop:=X.env.kindOf x=some .globalImplicit
theorem J3p {E:Value->Shared->Prop} {pins:List (Addr × Obj)} {s:Shared} {σ:St} {H:Hp} {x:Str} {u:Value} {pos:Pos} {Q:Value->Shared->Prop} (I:Inv X pins σ H s) (hg:Gl X x) (hm:X.mg x=some u) (h:Q u s)
  (hd:(x == ("__debug__":Str))=false:=by decide):wpAny (model X.prog X.w) X.A (eval (.Name x pos) X.env) Q E s :=
 Calls.Name_function_global I.ok.kind hg (Calls.loadGlobal_global (by rw [I.ok.glob];exact I.mod.glob.keeps I.bk) hm h) hd
theorem J5m {E:Value->Shared->Prop} {pins:List (Addr × Obj)} {s:Shared} {σ:St} {H:Hp} {x:Str} {u:Value} {pos:Pos} {Q:Value->Shared->Prop} (I:Inv X pins σ H s) (hg:Gl X x) (hm:X.mg x=none) (hv:bootBuiltins x=some u) (h:Q u s)
  (hn:x≠"__name__":=by decide) (hd:(x == ("__debug__":Str))=false:=by decide):wpAny (model X.prog X.w) X.A (eval (.Name x pos) X.env) Q E s:=by
 obtain ⟨mb,h1,h2⟩:=I.mod.blt;exact Calls.Name_function_global I.ok.kind hg (Calls.loadGlobal_builtin (by rw [I.ok.glob];exact I.mod.glob.keeps I.bk) hm (by rw [I.ok.blt];exact h1.keeps I.bk) ((h2 x hn).trans hv) h) hd
theorem J3m {x:Str} {v:V} {u:Value} {pos:Pos} (hg:Gl X x) (hm:X.mg x=some u) (r:RelV v u) (hd:(x == ("__debug__":Str))=false:=by decide):PE X (.Name x pos) (tC v) :=
 fun _ _ _ H _ I h=>J3p I hg hm ⟨v,H,I,r,h⟩ hd
theorem pe_bltn {x:Str} {v:V} {u:Value} {pos:Pos} (hg:Gl X x) (hm:X.mg x=none) (hv:bootBuiltins x=some u) (r:RelV v u) (hn:x≠"__name__":=by decide) (hd:(x == ("__debug__":Str))=false:=by decide):PE X (.Name x pos) (tC v) :=
 fun _ _ _ H _ I h=>J5m I hg hm hv ⟨v,H,I,r,h⟩ hn hd
variable {a b:Expr} {ta tb:TE} {pos:Pos}
def PC (X:Cx) (op:CmpOp) (a b:Expr) (t:TE):Prop :=
 ∀ (pins:List (Addr × Obj)) (s:Shared) (σ:St) (H:Hp) (Q:VK),Inv X pins σ H s->t σ H Q->
  wpAny (model X.prog X.w) X.A (eval a X.env) (fun v s₁=>wpAny (model X.prog X.w) X.A (eval b X.env) (fun u s₂=>wpAny (model X.prog X.w) X.A (compareOp op v u) (EP X pins σ Q) X.xe s₂) X.xe s₁) X.xe s
theorem nobehind (b:Expr) {op:CmpOp} (h:op≠.In) (h2:op≠.NotIn):behindInMarks op b=false:=by
 have e1:(op == CmpOp.In)=false:=by cases op <;> first | rfl | exact absurd rfl h
 have e2:(op == CmpOp.NotIn)=false:=by cases op <;> first | rfl | exact absurd rfl h2
 cases b <;> simp [behindInMarks,e1,e2]
def tIsN (ta:TE):TE:=fun σ H Q=>ta σ H fun x H1=>Q (.bl (decide (x=.non))) H1
theorem RelV.none_iff {x:V} {v:Value} (r:RelV x v):(v == Value.none)=decide (x=.non):=by
 cases x with
 | non=>cases r;rfl
 | bl _=>cases r;rfl
 | int _=>obtain ⟨t,rfl⟩:=r;rfl
 | str _=>obtain ⟨t,rfl⟩:=r;rfl
 | byt _=>obtain ⟨t,rfl⟩:=r;rfl
 | flt _=>obtain ⟨t,rfl⟩:=r;rfl
 | ref _=>cases r;rfl
 | ty _=>cases r;rfl
theorem pc_isN {j pos'} (ha:PE X a ta):PC X .Is a (.Constant .none j pos') (tIsN ta):=by
 intro pins s σ H Q I h;refine thn (ha pins s σ H _ I h) fun v s1 h9=>?_;obtain ⟨x,H1,I1,r1,q1⟩:=h9;exact Constant_none (is_none_gen ⟨.bl _,H1,I1,by rw [r1.none_iff];rfl,q1⟩)
def tB (t:TE):TT:=fun σ H Q=>t σ H fun x H1=>∃ c,x=.bl c/\Q c H1
theorem pt_cmp {op:CmpOp} {t:TE} (h:PC X op a b t) (h1:behindInMarks op b=false:=by first | exact nobehind _ (by decide) (by decide) | rfl):PT X (.Compare a [op] [b] pos) (tB t):=by
 intro pins s σ H Q I hw;refine wpAny_isTrue_Compare1 (thn (h pins s σ H _ I hw) fun v s1 h1=>thn h1 fun u s2 h2=>thn h2 fun c s3 h9=>?_) h1;obtain ⟨x,H1,I1,r1,q1⟩:=h9;obtain ⟨d,rfl,q⟩:=q1;cases r1;exact wpAny_truthy_bool ⟨H1,I1,q⟩
theorem J3d {e:Expr} {t:TE} (h:PE X e t) (he:∀ whole,isTrue e X.env whole=(do let v <- whole;standAt e.pos;holding [v] (truthy v)):=by intro _;rfl):PT X e (tB t):=by
 intro pins s σ H Q I hw;refine isTrue_plain (thn (h pins s σ H _ I hw) fun v s1 h9=>?_) (he _);obtain ⟨x,H1,I1,r1,q1⟩:=h9;obtain ⟨d,rfl,q⟩:=q1;cases r1;exact wpAny_truthy_bool ⟨H1,I1,q⟩
variable {tA tB':TT} {rest:List Expr}
def tAnd (t u:TT):TT:=fun σ H Q=>t σ H fun c H1=>if c=true then u σ H1 Q else Q false H1
def tOr (t u:TT):TT:=fun σ H Q=>t σ H fun c H1=>if c=true then Q true H1 else u σ H1 Q
def tNot (t:TT):TT:=fun σ H Q=>t σ H fun c H1=>Q (!c) H1
theorem J4r (ha:PT X a tA):PW X (.BoolOp .And [a] pos) tA:=by
 intro wh pins s σ H Q I h;refine isTrue_and (thn (ha pins s σ H Q I h) fun c s1 e=>?_)
 cases c with
 | true=>exact isTrue_and_nil e
 | false=>exact e
theorem J3c (ha:PT X a tA):PW X (.BoolOp .Or [a] pos) tA:=by
 intro wh pins s σ H Q I h;refine isTrue_or (thn (ha pins s σ H Q I h) fun c s1 e=>?_)
 cases c with
 | false=>exact isTrue_or_nil e
 | true=>exact e
theorem pw_and (ha:PT X a tA) (hb:PW X (.BoolOp .And (b :: rest) pos) tB'):PW X (.BoolOp .And (a :: b :: rest) pos) (tAnd tA tB'):=by
 intro wh pins s σ H Q I h;refine isTrue_and (thn (ha pins s σ H _ I h) fun c s1 h9=>?_);obtain ⟨H1,I1,q1⟩:=h9
 cases c with
 | true=>exact hb wh pins s1 σ H1 Q I1 q1
 | false=>exact ⟨H1,I1,q1⟩
theorem pw_or (ha:PT X a tA) (hb:PW X (.BoolOp .Or (b :: rest) pos) tB'):PW X (.BoolOp .Or (a :: b :: rest) pos) (tOr tA tB'):=by
 intro wh pins s σ H Q I h;refine isTrue_or (thn (ha pins s σ H _ I h) fun c s1 h9=>?_);obtain ⟨H1,I1,q1⟩:=h9
 cases c with
 | true=>exact ⟨H1,I1,q1⟩
 | false=>exact hb wh pins s1 σ H1 Q I1 q1
theorem pt_not (ha:PT X a tA):PT X (.UnaryOp .Not a pos) (tNot tA):=by
 intro pins s σ H Q I h;exact isTrue_not (ha pins s σ H (fun c H1=>Q (!c) H1) I h)
def tAndV (ta tb:TE):TE:=fun σ H Q=>ta σ H fun x H1=>∃ c,x=.bl c/\if c=true then tb σ H1 Q else Q (.bl false) H1
def tNotV (ta:TE):TE:=fun σ H Q=>ta σ H fun x H1=>∃ c,x=.bl c/\Q (.bl (!c)) H1
theorem pe_one {op} {t:TE} (h:PE X a t):PE X (.BoolOp op [a] pos) t:=fun pins s σ H Q I hw=>BoolOp_one (h pins s σ H Q I hw)
theorem J5e (ha:PE X a ta) (hb:PE X (.BoolOp .And (b :: rest) pos) tb):PE X (.BoolOp .And (a :: b :: rest) pos) (tAndV ta tb):=by
 intro pins s σ H Q I h;refine BoolOp_and (thn (ha pins s σ H _ I h) fun v s1 h9=>?_);obtain ⟨x,H1,I1,r1,q1⟩:=h9;obtain ⟨c,rfl,q1⟩:=q1;cases r1;refine wpAny_truthy_bool ?_
 cases c with
 | true=>exact hb pins s1 σ H1 Q I1 q1
 | false=>exact ⟨.bl false,H1,I1,rfl,q1⟩
theorem pe_not (ha:PE X a ta):PE X (.UnaryOp .Not a pos) (tNotV ta):=by
 intro pins s σ H Q I h;refine UnaryOp_ (thn (ha pins s σ H _ I h) fun v s1 h9=>?_);obtain ⟨x,H1,I1,r1,q1⟩:=h9;obtain ⟨c,rfl,q1⟩:=q1;cases r1;exact not_of (wpAny_truthy_bool ⟨.bl (!c),H1,I1,rfl,q1⟩)
def tIf (t:TT) (ta tb:TE):TE:=fun σ H Q=>t σ H fun c H1=>if c=true then ta σ H1 Q else tb σ H1 Q
theorem J2y {c:Expr} (hc:PT X c tA) (ha:PE X a ta) (hb:PE X b tb):PE X (.IfExp c a b pos) (tIf tA ta tb):=by
 intro pins s σ H Q I h;refine wpAny_IfExp (thn (hc pins s σ H _ I h) fun d s1 h9=>?_);obtain ⟨H1,I1,q1⟩:=h9
 cases d with
 | true=>exact ha pins s1 σ H1 Q I1 q1
 | false=>exact hb pins s1 σ H1 Q I1 q1
end
end L2
namespace L2
open PySem PySem.Spec PyProof.Rows
def SqL (K:PySem.W.Frag) (H:Hp) (a:Addr) (xs:List V):Prop :=
 Rd H a (.lst xs)\/
  ∃ (o:Obj) (its:Array Value) (n:Nat),K.lookup a=some o/\o.cls=.type "list"/\o.dict=none/\o.data=.seq its n/\its.size<=sizeLine/\Vals xs its.toList
def SqT (K:PySem.W.Frag) (H:Hp) (a:Addr) (xs:List V):Prop :=
 Rd H a (.tup xs)\/
  ∃ (o:Obj) (its:Array Value) (n:Nat),K.lookup a=some o/\o.cls=.type "tuple"/\o.data=.seq its n/\its.size<=sizeLine/\Vals xs its.toList
def absV:Value->Option V
 | .none=>some .non
 | .bool b=>some (.bl b)
 | .int i _=>some (.int i)
 | .str x _=>some (.str x)
 | .bytes b _=>some (.byt b)
 | .float b _=>some (.flt b)
 | .ref a=>some (.ref a)
 | .type n=>some (.ty n)
 | _=>none
theorem RelV.abs {x:V} {u:Value} (r:RelV x u):absV u=some x:=by
 cases x with
 | non=>cases r;rfl
 | bl _=>cases r;rfl
 | int _=>obtain ⟨t,rfl⟩:=r;rfl
 | str _=>obtain ⟨t,rfl⟩:=r;rfl
 | byt _=>obtain ⟨t,rfl⟩:=r;rfl
 | flt _=>obtain ⟨t,rfl⟩:=r;rfl
 | ref _=>cases r;rfl
 | ty _=>cases r;rfl
theorem RelV.inj {x y:V} {u:Value} (r:RelV x u) (q:RelV y u):x=y:=Option.some.inj (r.abs.symm.trans q.abs)
theorem Vals.inj:∀ {xs ys:List V} {us:List Value},Vals xs us->Vals ys us->xs=ys
 | _,_,_,.nil,.nil=>rfl
 | _,_,_,.cons r t,.cons r' t'=>by rw [r.inj r',Vals.inj t t']
section
variable {X:Cx} {pins:List (Addr × Obj)} {σ:St} {H:Hp} {s:Shared} {a:Addr} {xs ys:List V}
theorem SqL.of {K:PySem.W.Frag} (h:H a=some (.lst xs)):SqL K H a xs:=.inl (.inl h)
theorem SqT.of {K:PySem.W.Frag} (h:H a=some (.tup xs)):SqT K H a xs:=.inl (.inl h)
theorem Inv.list (I:Inv X pins σ H s) (h:SqL X.K H a xs):∃ its:List Value,Vals xs its/\PlainL s.heap a its.toArray/\xs.length<=sizeLine:=by
 rcases h with h | ⟨o,its,n,hk,hc,hd,hs,hz,r⟩
 ·obtain ⟨z,its,n,r,e⟩:=h.ok I.hok;exact ⟨its,r,⟨_,n,e,rfl,rfl,rfl⟩,z⟩
 ·refine ⟨its.toList,r,⟨o,n,I.kIn a o hk,hc,hd,by simpa using hs⟩,?_⟩;have e:=r.length;simp only [length_toList] at e;omega
theorem Inv.tuple (I:Inv X pins σ H s) (h:SqT X.K H a xs):∃ its:List Value,Vals xs its/\IsTup s.heap a its.toArray/\xs.length<=sizeLine:=by
 rcases h with h | ⟨o,its,n,hk,hc,hs,hz,r⟩
 ·obtain ⟨z,its,r,p⟩:=h.ok I.hok;exact ⟨its,r,p.tup,z⟩
 ·refine ⟨its.toList,r,⟨o,I.kIn a o hk,hc,n,by simpa using hs⟩,?_⟩;have e:=r.length;simp only [length_toList] at e;omega
theorem Inv.list_inj (I:Inv X pins σ H s) (h:SqL X.K H a xs) (h':SqL X.K H a ys):xs=ys:=by
 obtain ⟨its,r,⟨o,n,e,_,_,d⟩,_⟩:=I.list h;obtain ⟨its',r',⟨o',n',e',_,_,d'⟩,_⟩:=I.list h';rw [e] at e';cases e';rw [d] at d';injection d' with d1 _
 have:its=its':=by simpa using congrArg Array.toList d1
 subst this;exact r.inj r'
theorem Inv.tuple_inj (I:Inv X pins σ H s) (h:SqT X.K H a xs) (h':SqT X.K H a ys):xs=ys:=by
 obtain ⟨its,r,⟨o,e,_,n,d⟩,_⟩:=I.tuple h;obtain ⟨its',r',⟨o',e',_,n',d'⟩,_⟩:=I.tuple h';rw [e] at e';cases e';rw [d] at d';injection d' with d1 _
 have:its=its':=by simpa using congrArg Array.toList d1
 subst this;exact r.inj r'
end
abbrev Cx.wish (X:Cx) (E:Value->Shared->Prop):Cx:={ X with xe:=E }
abbrev Cx.nox (X:Cx):Cx:=X.wish fun _ _=>False
theorem Cx.Ok.wish {X:Cx} (ok:X.Ok) (E:Value->Shared->Prop):(X.wish E).Ok :=
 ⟨ok.mod,ok.kind,ok.glob,ok.blt,ok.above,ok.inj,ok.has,ok.cab,ok.hd,ok.frames,ok.stk,ok.exf,ok.bs,ok.bsz,ok.noex,ok.exfs,ok.funs,ok.frf⟩
theorem Cx.Ok.unwish {X:Cx} {E:Value->Shared->Prop} (ok:(X.wish E).Ok):X.Ok :=
 ⟨ok.mod,ok.kind,ok.glob,ok.blt,ok.above,ok.inj,ok.has,ok.cab,ok.hd,ok.frames,ok.stk,ok.exf,ok.bs,ok.bsz,ok.noex,ok.exfs,ok.funs,ok.frf⟩
section
variable {X:Cx} {pins:List (Addr × Obj)} {σ:St} {H:Hp} {s:Shared} {E:Value->Shared->Prop}
theorem Inv.wish (I:Inv X pins σ H s) (E:Value->Shared->Prop):Inv (X.wish E) pins σ H s:=⟨I.ok.wish E,I.os,I.bare,I.base,I.loc,I.cell,I.free,I.freeC,I.pin,I.hok,I.len⟩
theorem Inv.unwish (I:Inv (X.wish E) pins σ H s):Inv X pins σ H s:=⟨I.ok.unwish,I.os,I.bare,I.base,I.loc,I.cell,I.free,I.freeC,I.pin,I.hok,I.len⟩
theorem SP.unwish {D:Ends} {f:Flow} {s':Shared} (h:SP (X.wish E) pins D f s'):SP X pins D f s':=by
 cases f with
 | next=>obtain ⟨σ',H',I,q⟩:=h;exact ⟨σ',H',I.unwish,q⟩
 | brk=>obtain ⟨σ',H',I,q⟩:=h;exact ⟨σ',H',I.unwish,q⟩
 | cont=>obtain ⟨σ',H',I,q⟩:=h;exact ⟨σ',H',I.unwish,q⟩
 | ret u=>obtain ⟨v,σ',H',I,r,q⟩:=h;exact ⟨v,σ',H',I.unwish,r,q⟩
theorem PSs.nox {st:List Stmt} {t:TS} (h:PSs X.nox st t):PSs X st t:=fun pins s σ H D I hw =>
 wpAny_mono (h pins s σ H D (I.wish _) hw) (fun _ _ q=>q.unwish) fun _ _ z=>False.elim z
end
section
variable {X:Cx} {st:Stmt} {rest:List Stmt} {t u:TS} {e:Expr} {te:TE} {pos:Pos}
def tNext:TS:=fun D σ H=>D.nx σ H
def tSeq (t u:TS):TS:=fun D σ H=>t { D with nx:=u D } σ H
theorem Jh:PSs X [] tNext:=fun _ _ σ H _ I h=>wpAny_execs_nil ⟨σ,H,I,h⟩
theorem J2 (h1:PS X st t) (h2:PSs X rest u):PSs X (st :: rest) (tSeq t u):=by
 intro pins s σ H D I h;refine wpAny_execs_cons (thn (h1 pins s σ H { D with nx:=u D } I h) fun f s1 q=>?_)
 cases f with
 | next =>
  obtain ⟨σ',H',I',q⟩:=q;exact h2 pins s1 σ' H' D I' q
 | ret v=>exact q
 | brk=>exact q
 | cont=>exact q
theorem J6 (h1:PS X st t):PSs X [st] t:=by
 intro pins s σ H D I h;refine wpAny_execs_cons (thn (h1 pins s σ H D I h) fun f s1 q=>?_)
 cases f with
 | next=>exact wpAny_execs_nil q
 | ret v=>exact q
 | brk=>exact q
 | cont=>exact q
theorem Inv.quiet {pins:List (Addr × Obj)} {σ:St} {H:Hp} {s:Shared} (I:Inv X pins σ H s):interactive X.env=false:=by simp [interactive,I.ok.kind]
def tDrop (te:TE):TS:=fun D σ H=>te σ H fun _ H1=>D.nx σ H1
theorem J1o (he:PE X e te) (hs:swapsWith e none pos.line X.env=pure false:=by rfl):PS X (.Expr e pos) (tDrop te):=by
 intro pins s σ H D I h;exact wpAny_Expr_any (thn (he pins s σ H _ I h) fun v s1 h9=>by obtain ⟨x,H1,I1,r1,q1⟩:=h9;exact ⟨σ,H1,I1,q1⟩) I.quiet hs
def tRet (te:TE):TS:=fun D σ H=>te σ H D.rt
theorem Ji (he:PE X e te):PS X (.Return (some e) pos) (tRet te):=by
 intro pins s σ H D I h;exact wpAny_Return_some (thn (he pins s σ H _ I h) fun v s1 h9=>by obtain ⟨x,H1,I1,r1,q1⟩:=h9;exact ⟨x,σ,H1,I1,r1,q1⟩)
def tIfS (c:TT) (t u:TS):TS:=fun D σ H=>c σ H fun b H1=>if b=true then t D σ H1 else u D σ H1
theorem ps_if {c:Expr} {a b:List Stmt} {tc:TT} (hc:PT X c tc) (ha:PSs X a t) (hb:PSs X b u):PS X (.If c a b pos) (tIfS tc t u):=by
 intro pins s σ H D I h;refine wpAny_If (thn (hc pins s σ H _ I h) fun d s1 h9=>?_);obtain ⟨H1,I1,q1⟩:=h9
 cases d with
 | true=>exact ha pins s1 σ H1 D I1 q1
 | false=>exact hb pins s1 σ H1 D I1 q1
def tNever:TS:=fun _ _ _=>False
theorem J1j:PS X st tNever:=fun _ _ _ _ _ _ h=>h.elim
end
abbrev TG:=V->St->Hp->(St->Hp->Prop)->Prop
abbrev TGs:=List V->St->Hp->(St->Hp->Prop)->Prop
def PG (X:Cx) (target:Expr) (t:TG):Prop :=
 ∀ (pins:List (Addr × Obj)) (s:Shared) (σ:St) (H:Hp) (v:V) (u:Value) (Q:St->Hp->Prop),Inv X pins σ H s->RelV v u->t v σ H Q->
  wpAny (model X.prog X.w) X.A (assign target X.env u) (fun _ s'=>∃ σ' H',Inv X pins σ' H' s'/\Q σ' H') X.xe s
def PGs (X:Cx) (ts:List Expr) (t:TGs):Prop :=
 ∀ (pins:List (Addr × Obj)) (s:Shared) (σ:St) (H:Hp) (vs:List V) (us:List Value) (Q:St->Hp->Prop),Inv X pins σ H s->Vals vs us->t vs σ H Q->
  wpAny (model X.prog X.w) X.A (assignInOrder ((assignEach ts X.env).map (·.2)) us) (fun _ s'=>∃ σ' H',Inv X pins σ' H' s'/\Q σ' H') X.xe s
abbrev TSet:=V->V->V->Hp->(Hp->Prop)->Prop
def PSet (X:Cx) (t:TSet):Prop :=
 ∀ (pins:List (Addr × Obj)) (s:Shared) (σ:St) (H:Hp) (o i v:V) (ov iv u:Value) (Q:Hp->Prop),Inv X pins σ H s->RelV o ov->RelV i iv->RelV v u->t o i v H Q->
  wpAny (model X.prog X.w) X.A (setItem ov iv u) (fun _ s'=>∃ H',Inv X pins σ H' s'/\Q H') X.xe s
section
variable {X:Cx} {pos:Pos}
def gName (i:Nat):TG:=fun v σ H Q=>Q (σ.set i (some v)) H
theorem J10 {i:Nat} {x:Str} (hN:X.N.Nodup) (hi:X.N[i]?=some x) (hx:Loc X.env.scope x) (hf:X.fn x=true\/X.env.scope.names.lookup x=some .local:=by first | exact .inl rfl | exact .inr rfl | assumption):PG X (.Name x pos) (gName i):=by
 intro pins s σ H v u Q I r h;exact wpAny_assign_Name (J52 I hN hi hx r (fun s' I'=>⟨_,H,I',h⟩) hf)
def gNil:TGs:=fun vs σ H Q=>vs=[]/\Q σ H
def gCons (t:TG) (u:TGs):TGs:=fun vs σ H Q=>∃ v r,vs=v :: r/\t v σ H fun σ' H'=>u r σ' H' Q
theorem pgs_nil:PGs X [] gNil:=by
 intro pins s σ H vs us Q I r h;obtain ⟨e,h⟩:=h;subst e;cases r;exact assignInOrder_nil ⟨σ,H,I,h⟩
theorem J16 {e:Expr} {es:List Expr} {t:TG} {u:TGs} (h1:PG X e t) (h2:PGs X es u)
  (hs:(assignEach (e :: es) X.env).map (·.2)=assign e X.env :: (assignEach es X.env).map (·.2):=by rfl):PGs X (e :: es) (gCons t u):=by
 intro pins s σ H vs us Q I r h;obtain ⟨v,vr,e1,h⟩:=h;subst e1
 cases r with
 | cons r rr =>
  rw [hs];refine assignInOrder_cons (thn (h1 pins s σ H _ _ _ I r h) fun _ s1 h9=>?_);obtain ⟨σ1,H1,I1,q1⟩:=h9;exact h2 pins s1 σ1 H1 _ _ Q I1 rr q1
def gTup (K:PySem.W.Frag) (n:Nat) (t:TGs):TG:=fun v σ H Q=>∃ a xs,v=.ref a/\SqT K H a xs/\xs.length=n/\t xs σ H Q
theorem pg_tup {es:List Expr} {k:Nat} {t:TGs} {n:Nat} (hc:X.calm=true) (h:PGs X es t)
  (hn:(assignEach es X.env).length=n:=by rfl) (hst:(assignEach es X.env).findIdx? (·.1)=none:=by rfl):PG X (.Tuple es k pos) (gTup X.K n t):=by
 intro pins s σ H v u Q I r hw;obtain ⟨a,xs,e1,hq,hl,hw⟩:=hw;subst e1;cases r;obtain ⟨its,rv,ht,hz⟩:=I.tuple hq;refine assign_Tuple_tuple (I.ok.hd hc) ht (by simp [hn,<- hl,rv.length]) hst fun h' hx=>?_;have I1:Inv X pins σ H { s with heap:=h' }:=I.kept (t':=s.toks) fun b o e=>hx b o (Nat.ne_of_lt (lt_size e)) e;exact h pins _ σ H xs _ Q I1 (by simpa using rv) hw
def gSub (to ti:TE) (t:TSet):TG:=fun v σ H Q=>to σ H fun o H1=>ti σ H1 fun i H2=>t o i v H2 fun H3=>Q σ H3
theorem pg_sub {o i:Expr} {to ti:TE} {t:TSet} (ho:PE X o to) (hi:PE X i ti) (hs:PSet X t)
  (ha:∀ v,assign (.Subscript o i pos) X.env v=(do
   let ov <- holding [v] (eval o X.env);let iv <- holding [v,ov] (eval i X.env)
   standAt pos
   holding [v,ov,iv] (setItem ov iv v)
   release [v,ov,iv] []):=by intro _;rfl):PG X (.Subscript o i pos) (gSub to ti t):=by
 intro pins s σ H v u Q I r h;rw [ha];refine wpAny_bind (wpAny_holding (thn (ho pins s σ H _ I h) fun ov s1 h9=>?_));obtain ⟨x,H1,I1,r1,q1⟩:=h9;refine wpAny_bind (wpAny_holding (thn (hi pins s1 σ H1 _ I1 q1) fun iv s2 h9=>?_));obtain ⟨y,H2,I2,r2,q2⟩:=h9;refine wpAny_bind (wpAny_standAt (wpAny_bind (wpAny_holding (thn (hs pins s2 σ H2 x y v ov iv u _ I2 r1 r2 r q2) fun _ s3 h9=>?_))));obtain ⟨H3,I3,q3⟩:=h9;exact wpAny_release ⟨σ,H3,I3,q3⟩
def tAsg (te:TE) (g:TG):TS:=fun D σ H=>te σ H fun x H1=>g x σ H1 D.nx
theorem J40 {tg e:Expr} {te:TE} {g:TG} (he:PE X e te) (hg:PG X tg g) (hs:swapsWithSole [tg] e pos.line X.env=pure false:=by rfl) (hw:swappedStores [tg] e X.env=pure none:=by rfl)
  (h1:(assignEach [tg] X.env).map (·.2)=[assign tg X.env]:=by rfl):PS X (.Assign [tg] e pos) (tAsg te g):=by
 intro pins s σ H D I h;refine wpAny_Assign_stores (thn (he pins s σ H _ I h) fun v s1 h9=>?_) hs hw;obtain ⟨x,H1,I1,r1,q1⟩:=h9;rw [h1];exact thn (hg pins s1 σ H1 x v _ I1 r1 q1) fun _ s2 q=>q
theorem Jm {i:Nat} {x:Str} {e:Expr} {te:TE} {pos':Pos} (hN:X.N.Nodup) (hi:X.N[i]?=some x) (hx:Loc X.env.scope x) (he:PE X e te) (hs:swapsWith e (some (.Name x pos')) pos.line X.env=pure false:=by rfl) (hf:X.fn x=true\/X.env.scope.names.lookup x=some .local:=by first | exact .inl rfl | exact .inr rfl | assumption) :
  PS X (.Assign [.Name x pos'] e pos) (tAsg te (gName i)):=by
 intro pins s σ H D I h;refine wpAny_Assign_Name (thn (he pins s σ H _ I h) fun v s1 h9=>?_) hs;obtain ⟨y,H1,I1,r1,q1⟩:=h9;exact J52 I1 hN hi hx r1 (fun s2 I2=>⟨_,H1,I2,q1⟩) hf
end
section
variable {X:Cx} {pos:Pos}
def tWhile (c:TT) (tb:TS):TS:=fun D σ H=>∃ W:Nat->St->Hp->Prop,(∃ m,W m σ H)/\∀ m σ H,W m σ H->
 c σ H fun b H1=>if b=true then ∃ N:St->Hp->Prop,(∀ σ' H',N σ' H'->∃ m',m' < m/\W m' σ' H')/\tb { D with nx:=N,ct:=N,bk:=D.nx } σ H1 else D.nx σ H1
theorem ps_while {c:Expr} {body:List Stmt} {tc:TT} {tb:TS} (hp:PassesOwn (model X.prog X.w) X.A X.env X.xe) (hc:PT X c tc) (hb:PSs X body tb):PS X (.While c body [] pos) (tWhile tc tb):=by
 intro pins s σ H D I h;obtain ⟨W,⟨m0,w0⟩,turn⟩:=h;refine wpAny_While (codeAny_whileLoop (fun n s'=>∃ σ' H',Inv X pins σ' H' s'/\W n σ' H') ?_ m0 ⟨σ,H,I,w0⟩);rintro n s1 ⟨σ1,H1,I1,w1⟩;refine wpAny_passesOwn hp (thn (hc pins s1 σ1 H1 _ I1 (turn n σ1 H1 w1)) fun b s2 h9=>?_);obtain ⟨H2,I2,q2⟩:=h9
 cases b with
 | true =>
  obtain ⟨N,hN,q2⟩:=q2;rw [if_pos rfl];refine wpAny_passesOwn hp (thn (hb pins s2 σ1 H2 _ I2 q2) fun f s3 q3=>?_)
  cases f with
  | next =>
   obtain ⟨σ3,H3,I3,n3⟩:=q3;obtain ⟨m',hm,w3⟩:=hN σ3 H3 n3;exact ⟨m',hm,σ3,H3,I3,w3⟩
  | cont =>
   obtain ⟨σ3,H3,I3,n3⟩:=q3;obtain ⟨m',hm,w3⟩:=hN σ3 H3 n3;exact ⟨m',hm,σ3,H3,I3,w3⟩
  | brk=>exact q3
  | ret v=>exact q3
 | false =>
  rw [if_neg Bool.false_ne_true];exact wpAny_execs_nil ⟨σ1,H2,I2,q2⟩
end
structure It where
 go:Nat->Hp->Prop
 yld:Nat->Hp->V->Hp->Prop
 stop:Nat->Hp->Prop
def FpOk (X:Cx) (pins:List (Addr × Obj)) (H:Hp) (b:Addr):Prop :=
 H b=none/\b≠X.env.locals/\b ∉ X.fs/\(b∈X.ex\/X.s₀.heap.objs.size<=b)/\(∀ x c,X.env.cells.lookup x=some c->c≠b)/\∀ p∈X.pn ++ pins,p.1≠b
theorem Inv.fpOk {X:Cx} {pins:List (Addr × Obj)} {σ:St} {H H':Hp} {s:Shared} {b:Addr} (I:Inv X pins σ H s) (hb:s.heap.objs.size<=b) (hn:H' b=none):FpOk X pins H' b:=by
 refine ⟨hn,Nat.ne_of_gt (Nat.lt_of_lt_of_le I.lt hb),I.nofs hb,.inr (Nat.le_trans I.sz hb),fun x c e z=>?_,fun p hp z=>?_⟩
 ·obtain ⟨v,q⟩:=I.cell x c e;exact absurd (Nat.lt_of_lt_of_le q.lt (by rw [z];exact hb)) (Nat.lt_irrefl _)
 ·exact absurd (Nat.lt_of_lt_of_le (lt_size (I.pin p hp).1) (by rw [z];exact hb)) (Nat.lt_irrefl _)
structure Turn (P:Program) (w:World) (K:PySem.W.Frag) (tg:Expr) (J:It) (fp:List Addr) (it:Addr) (tn:Nat->Heap->Prop):Prop where
 mem:it∈fp
 obj:∀ i h,tn i h->∀ b∈fp,∃ o,h.get? b=some o/\∀ v,o.data≠.cell v
 keep:∀ i h h',tn i h->(∀ b∈fp,∀ o,h.get? b=some o->h'.get? b=some o)->tn i h'
 item:∀ (X:Cx),X.prog=P->X.w=w->X.K=K->X.calm=true->∀ (i:Nat) (pins:List (Addr × Obj)) (s:Shared) (σ:St) (H:Hp) (E:Value->Shared->Prop),Inv X pins σ H s->(∀ b∈fp,FpOk X pins H b)->tn i s.heap->J.go i H->
  wpAny (model P w) X.A (pyNext (.ref it)) (fun r s1=>∃ u,r=some u/\
   wpAny (model P w) X.A (letOwnedTupleGo tg (.ref it) u) (fun _ s2=>∃ x H',Inv X pins σ H' s2/\RelV x u/\J.yld i H x H'/\tn (i + 1) s2.heap/\∀ b∈fp,H' b=none) E s1) E s
 done:∀ (X:Cx),X.prog=P->X.w=w->X.K=K->X.calm=true->∀ (i:Nat) (pins:List (Addr × Obj)) (s:Shared) (σ:St) (H:Hp) (E:Value->Shared->Prop),Inv X pins σ H s->(∀ b∈fp,FpOk X pins H b)->tn i s.heap->J.stop i H->
  wpAny (model P w) X.A (pyNext (.ref it)) (fun r s1=>r=none/\Inv X pins σ H s1) E s
 self:∀ (A:Around) (i:Nat) (s:Shared) (Q:Value->Shared->Prop) (E:Value->Shared->Prop),tn i s.heap->Q (.ref it) s->wpAny (model P w) A (pyIter (.ref it)) Q E s
abbrev TI:=St->Hp->(It->Hp->Prop)->Prop
def PIE (X:Cx) (pins:List (Addr × Obj)) (σ:St) (tg:Expr) (R:It->Hp->Prop) (itv:Value) (s2:Shared):Prop :=
 ∃ (it:Addr) (fp:List Addr) (tn:Nat->Heap->Prop) (J:It) (H':Hp),itv=.ref it/\Inv X pins σ H' s2/\Turn X.prog X.w X.K tg J fp it tn/\tn 0 s2.heap/\(∀ b∈fp,FpOk X pins H' b)/\R J H'
def PI (X:Cx) (tg iter:Expr) (wi:TI):Prop :=
 ∀ (pins:List (Addr × Obj)) (s:Shared) (σ:St) (H:Hp) (R:It->Hp->Prop),Inv X pins σ H s->wi σ H R->
  wpAny (model X.prog X.w) X.A (eval iter X.env) (fun v s1=>wpAny (model X.prog X.w) X.A (pyIter v) (PIE X pins σ tg R) X.xe s1) X.xe s
theorem go_of {M : Model} {A : Around} {E : Value -> Shared -> Prop} {s : Shared} {tg : Expr} {it : Addr} {u : Value} {o : Obj} {n : String} {vs : Array Value} {Q : Unit -> Shared -> Prop} (ho : s.heap.get? it = some o) (hc : o.cls = .type n) (hd : o.data = .fields vs)
    (hn : ["enumerate", "zip", "dict_itemiterator", "dict_reverseitemiterator", "odict_iterator", "itertools.zip_longest", "itertools.pairwise"].contains n = false) (hQ : Q () s) : wpAny M A (letOwnedTupleGo tg (.ref it) u) Q E s := by
  unfold letOwnedTupleGo;cases tg <;> first
    | exact wpAny_pure hQ
    | (cases u <;> first
        | exact wpAny_pure hQ
        | (refine wpAny_bind (wpAny_load ho ?_)
           rw [hc, hd];show wpAny M A (if (["enumerate", "zip", "dict_itemiterator", "dict_reverseitemiterator", "odict_iterator", "itertools.zip_longest", "itertools.pairwise"].contains n && vs[0]? == some (rawInt _)) = true then _ else _) Q E s;rw [if_neg (by intro h; rw [hn, Bool.false_and] at h; cases h)];exact wpAny_pure hQ))
def Itl (K:PySem.W.Frag) (a:Addr):It :=
 ⟨fun i H=>∃ xs x,SqL K H a xs/\xs[i]?=some x,fun i H x H'=>H'=H/\∀ xs,SqL K H a xs->xs[i]?=some x,fun i H=>∃ xs,SqL K H a xs/\xs.length<=i⟩
def Itt (K:PySem.W.Frag) (a:Addr):It :=
 ⟨fun i H=>∃ xs x,SqT K H a xs/\xs[i]?=some x,fun i H x H'=>H'=H/\∀ xs,SqT K H a xs->xs[i]?=some x,fun i H=>∃ xs,SqT K H a xs/\xs.length<=i⟩
def Itr (lo:Int) (n:Nat):It:=⟨fun i _=>i < n,fun i H x H'=>H'=H/\x=.int (lo + i),fun i _=>n<=i⟩
theorem turn_list {P:Program} {w:World} {K:PySem.W.Frag} {tg:Expr} (a it:Addr):Turn P w K tg (Itl K a) [it] it (fun i h=>h.IsListIter it a i) where
 mem:=by simp
 obj:=fun i h st b hb=>by
  have e:b=it:=by simpa using hb
  subst e;obtain ⟨o,e,c,d⟩:=st;exact ⟨o,e,fun v z=>by rw [d] at z;cases z⟩
 keep:=fun i h h' st k=>st.at fun o e=>k it (by simp) o e
 item:=by
  intro X hP hw hK hc i pins s σ H E I hf st hg;subst hP hw hK;obtain ⟨xs,x,hq,hx⟩:=hg;obtain ⟨its,rv,p,hz⟩:=I.list hq;obtain ⟨u,hu,ru⟩:=rv.get hx;obtain ⟨f0,f1,f2,f3,f4,f5⟩:=hf it (by simp);refine wpAny_pyNext_list_item st p.isList (x:=u) (by simpa using hu) fun h' st' sb=>?_;have I1:Inv X pins σ H { s with heap:=h' }:=I.turned (t':=s.toks) (fun b o hb e=>(sb.2 b hb).trans e) f0 f1 f3 f4 f5;obtain ⟨o,e,c,d⟩:=id st';exact ⟨u,rfl,go_of (s:={ s with heap:=h' }) e c d (by decide) ⟨x,H,I1,ru,⟨rfl,fun ys hy=>by rw [I.list_inj hy hq];exact hx⟩,st',fun b hb=>(hf b hb).1⟩⟩
 done:=by
  intro X hP hw hK hc i pins s σ H E I hf st hg;subst hP hw hK;obtain ⟨xs,hq,hx⟩:=hg;obtain ⟨its,rv,p,hz⟩:=I.list hq;obtain ⟨f0,f1,f2,f3,f4,f5⟩:=hf it (by simp);have hl:=rv.length;exact wpAny_pyNext_list_end (I.ok.hd hc) st p.isList (by simp;omega) fun h' eb=>⟨rfl,I.turned (t':=s.toks) (fun b o hb e=>eb b o hb e) f0 f1 f3 f4 f5⟩
 self:=fun _ _ _ _ _ st h=>wpAny_pyIter_listiter st h
theorem turn_tuple {P:Program} {w:World} {K:PySem.W.Frag} {tg:Expr} (a it:Addr):Turn P w K tg (Itt K a) [it] it (fun i h=>h.IsTupleIter it a i) where
 mem:=by simp
 obj:=fun i h st b hb=>by
  have e:b=it:=by simpa using hb
  subst e;obtain ⟨o,e,c,d⟩:=st;exact ⟨o,e,fun v z=>by rw [d] at z;cases z⟩
 keep:=fun i h h' st k=>st.at fun o e=>k it (by simp) o e
 item:=by
  intro X hP hw hK hc i pins s σ H E I hf st hg;subst hP hw hK;obtain ⟨xs,x,hq,hx⟩:=hg;obtain ⟨its,rv,p,hz⟩:=I.tuple hq;obtain ⟨u,hu,ru⟩:=rv.get hx;obtain ⟨f0,f1,f2,f3,f4,f5⟩:=hf it (by simp);refine wpAny_pyNext_tuple_item st (show s.heap.IsTuple a its.toArray from p) (x:=u) (by simpa using hu) fun h' st' sb=>?_;have I1:Inv X pins σ H { s with heap:=h' }:=I.turned (t':=s.toks) (fun b o hb e=>(sb.2 b hb).trans e) f0 f1 f3 f4 f5;obtain ⟨o,e,c,d⟩:=id st';exact ⟨u,rfl,go_of (s:={ s with heap:=h' }) e c d (by decide) ⟨x,H,I1,ru,⟨rfl,fun ys hy=>by rw [I.tuple_inj hy hq];exact hx⟩,st',fun b hb=>(hf b hb).1⟩⟩
 done:=by
  intro X hP hw hK hc i pins s σ H E I hf st hg;subst hP hw hK;obtain ⟨xs,hq,hx⟩:=hg;obtain ⟨its,rv,p,hz⟩:=I.tuple hq;obtain ⟨f0,f1,f2,f3,f4,f5⟩:=hf it (by simp);have hl:=rv.length;exact wpAny_pyNext_tuple_end (I.ok.hd hc) st (show s.heap.IsTuple a its.toArray from p) (by simp;omega) fun h' eb=>⟨rfl,I.turned (t':=s.toks) (fun b o hb e=>eb b o hb e) f0 f1 f3 f4 f5⟩
 self:=fun _ _ _ _ _ st h=>wpAny_pyIter_tupleiter st h
theorem turn_range {P:Program} {w:World} {K:PySem.W.Frag} {tg:Expr} (it:Addr) (lo:Int) (n:Nat):Turn P w K tg (Itr lo n) [it] it (fun i h=>IsRangeIter h it (lo + (i:Nat) * 1) ((n:Int) - (i:Nat)) 1) where
 mem:=by simp
 obj:=fun i h st b hb=>by
  have e:b=it:=by simpa using hb
  subst e;exact ⟨_,st,fun v z=>by
   have z':Data.fields _=Data.cell v:=z;cases z'⟩
 keep:=fun i h h' st k=>k it (by simp) _ st
 item:=by
  intro X hP hw hK hc i pins s σ H E I hf st hg;subst hP hw hK;obtain ⟨f0,f1,f2,f3,f4,f5⟩:=hf it (by simp);have W:=Walks.range (prog:=X.prog) (w:=X.w) (I.ok.hd hc) it lo 1 n;refine W.item i s _ _ hg st fun v h' tk hv st' kk=>?_;obtain ⟨t,rfl⟩:=hv;have I1:Inv X pins σ H { s with heap:=h',toks:=tk }:=I.turned (fun b o hb e=>kk b o (by simpa using hb) e) f0 f1 f3 f4 f5;refine ⟨_,rfl,go_of (s:={ s with heap:=h',toks:=tk }) (n:="range_iterator") st' rfl rfl (by decide) ⟨.int (lo + i),H,I1,⟨t,?_⟩,⟨rfl,rfl⟩,st',fun b hb=>(hf b hb).1⟩⟩;rw [Int.mul_one]
 done:=by
  intro X hP hw hK hc i pins s σ H E I hf st hg;subst hP hw hK;obtain ⟨f0,f1,f2,f3,f4,f5⟩:=hf it (by simp);exact wpAny_pyNext_range_end (I.ok.hd hc) st (by have:n<=i:=hg;omega) fun h' eb=>⟨rfl,I.turned (t':=s.toks) (fun b o hb e=>eb b o hb e) f0 f1 f3 f4 f5⟩
 self:=fun _ _ _ _ _ st h=>wpAny_pyIter_rangeiter st h
end L2
namespace L2
open PySem PySem.Spec PyProof.Rows
section
variable {X:Cx} {tg:Expr}
def iList (K:PySem.W.Frag) (tl:TE):TI:=fun σ H R=>tl σ H fun x H1=>∃ a,x=.ref a/\(∃ xs,SqL K H1 a xs)/\R (Itl K a) H1
def iTup (K:PySem.W.Frag) (tl:TE):TI:=fun σ H R=>tl σ H fun x H1=>∃ a,x=.ref a/\(∃ xs,SqT K H1 a xs)/\R (Itt K a) H1
theorem J2i {l:Expr} {tl:TE} (hl:PE X l tl):PI X tg l (iList X.K tl):=by
 intro pins s σ H R I h;refine thn (hl pins s σ H _ I h) fun v s1 h9=>?_;obtain ⟨x,H1,I1,r1,q1⟩:=h9;obtain ⟨a,e,⟨xs,hq⟩,q⟩:=q1;subst e;cases r1;obtain ⟨its,rv,p,hz⟩:=I1.list hq;refine wpAny_pyIter_list p.isList ?_;refine ⟨s1.heap.objs.size,[s1.heap.objs.size],_,_,H1,rfl,I1.kept (t':=s1.toks) fun b o e=>get?_push_of_some _ e,turn_list a _,⟨_,get?_push_size _ rfl,rfl,rfl⟩,fun b hb=>?_,q⟩;have e:b=s1.heap.objs.size:=by simpa using hb
 subst e;exact I1.fpOk (Nat.le_refl _) (I1.hok.fresh (Nat.le_refl _))
theorem pi_tup {l:Expr} {tl:TE} (hl:PE X l tl):PI X tg l (iTup X.K tl):=by
 intro pins s σ H R I h;refine thn (hl pins s σ H _ I h) fun v s1 h9=>?_;obtain ⟨x,H1,I1,r1,q1⟩:=h9;obtain ⟨a,e,⟨xs,hq⟩,q⟩:=q1;subst e;cases r1;obtain ⟨its,rv,p,hz⟩:=I1.tuple hq;refine wpAny_pyIter_tuple (show s1.heap.IsTuple a its.toArray from p) ?_;refine ⟨s1.heap.objs.size,[s1.heap.objs.size],_,_,H1,rfl,I1.kept (t':=s1.toks) fun b o e=>get?_push_of_some _ e,turn_tuple a _,⟨_,get?_push_size _ rfl,rfl,rfl⟩,fun b hb=>?_,q⟩;have e:b=s1.heap.objs.size:=by simpa using hb
 subst e;exact I1.fpOk (Nat.le_refl _) (I1.hok.fresh (Nat.le_refl _))
theorem range_it {pins:List (Addr × Obj)} {σ:St} {H:Hp} {s:Shared} {R:It->Hp->Prop} {E:Value->Shared->Prop} {lo hi:Int} {t u v:Tok} {tk:Nat} (I:Inv X pins σ H s) (h1:-(2 ^ 62)<=lo) (h2:lo < 2 ^ 62) (h3:-(2 ^ 62)<=hi) (h4:hi < 2 ^ 62)
  (q:R (Itr lo (hi - lo).toNat) H):wpAny (model X.prog X.w) X.A (pyIter (.ref s.heap.objs.size)) (PIE X pins σ tg R) E { s with heap:=s.heap.push { cls:=.type "range",data:=.fields #[.int lo t,.int hi u,.int 1 v] },toks:=tk }:=by
 refine wpAny_pyIter_range (IsRange.new ..) (small_one h1 h2 h3 h4) ?_;have I1:Inv X pins σ H { s with heap:=s.heap.push { cls:=.type "range",data:=.fields #[.int lo t,.int hi u,.int 1 v] },toks:=tk }:=I.kept fun b o e=>get?_push_of_some _ e;refine ⟨(s.heap.push { cls:=.type "range",data:=.fields #[.int lo t,.int hi u,.int 1 v] }).objs.size,[(s.heap.push { cls:=.type "range",data:=.fields #[.int lo t,.int hi u,.int 1 v] }).objs.size],_,_,H,rfl,
  I1.kept (t':=tk) fun b o e=>get?_push_of_some _ e,turn_range _ lo (hi - lo).toNat,?_,fun b hb=>?_,q⟩
 ·have e1:lo + ((0:Nat):Int) * 1=lo:=by simp
  have e2:(((hi - lo).toNat:Nat):Int) - ((0:Nat):Int)=Builtin.Range.rangeSize lo hi 1:=by rw [rangeSize_one];split <;> omega
  show IsRangeIter _ _ (lo + ((0:Nat):Int) * 1) ((((hi - lo).toNat:Nat):Int) - ((0:Nat):Int)) 1;rw [e1,e2];exact get?_push_size _ rfl
 ·have e:b=(s.heap.push { cls:=.type "range",data:=.fields #[.int lo t,.int hi u,.int 1 v] }).objs.size:=by simpa using hb
  subst e;exact I1.fpOk (Nat.le_refl _) (I1.hok.fresh (Nat.le_refl _))
def iRng1 (ta:TA):TI:=fun σ H R=>ta σ H fun vs H1=>∃ j:Int,vs=[.int j]/\-(2 ^ 62)<=j/\j < 2 ^ 62/\R (Itr 0 j.toNat) H1
theorem J25 {a:Expr} {ta:TA} {p pos:Pos} (hg:Gl X "range") (hm:X.mg "range"=none) (ha:PA X [a] ta) (hs:starEach [a] X.env=[(false,eval a X.env)]:=by rfl):PI X tg (.Call (.Name "range" p) [a] [] pos) (iRng1 ta):=by
 intro pins s σ H R I h;refine Call_ (J5m I hg hm boot_range (callWith_type1 (thn (ha pos pins s σ H _ I h) fun us s1 h9=>?_) hs rfl));obtain ⟨vs,H1,I1,r1,q1⟩:=h9;obtain ⟨j,e,q1,q2,q⟩:=q1;subst e
 cases r1 with
 | cons r rr =>
  cases rr;obtain ⟨t,rfl⟩:=r;exact call_range_1 (range_it I1 (by omega) (by omega) q1 q2 (by simpa using q))
def tFor (wi:TI) (g:TG) (tb:TS):TS:=fun D σ H=>wi σ H fun J H1=>∃ W:Nat->Nat->St->Hp->Prop,(∃ m,W 0 m σ H1)/\∀ i m σ H,W i m σ H->
 (J.stop i H/\D.nx σ H)\/(J.go i H/\∃ N:St->Hp->Prop,(∀ σ' H',N σ' H'->∃ m',m' < m/\W (i + 1) m' σ' H')/\∀ x H',J.yld i H x H'->g x σ H' fun σ2 H2=>tb { D with nx:=N,ct:=N,bk:=D.nx } σ2 H2)
def pinsAt (fp:List Addr) (h:Heap):List (Addr × Obj):=fp.filterMap fun b=>(h.get? b).map fun o=>(b,o)
theorem J29 {fp:List Addr} {h:Heap} {b:Addr} {o:Obj} (hb:b∈fp) (e:h.get? b=some o):(b,o)∈pinsAt fp h:=List.mem_filterMap.mpr ⟨b,hb,by rw [e];rfl⟩
theorem of_pinsAt {fp:List Addr} {h:Heap} {p:Addr × Obj} (hp:p∈pinsAt fp h):p.1∈fp/\h.get? p.1=some p.2:=by
 obtain ⟨b,hb,e⟩:=List.mem_filterMap.mp hp
 cases q:h.get? b with
 | none=>rw [q] at e;cases e
 | some o =>
  rw [q] at e;have e':(b,o)=p:=Option.some.inj e;subst e';exact ⟨hb,q⟩
theorem Inv.pinned {pins:List (Addr × Obj)} {σ:St} {H:Hp} {s:Shared} {fp:List Addr} (I:Inv X pins σ H s) (hf:∀ b∈fp,FpOk X pins H b) (ho:∀ b∈fp,∃ o,s.heap.get? b=some o/\∀ v,o.data≠.cell v):Inv X (pins ++ pinsAt fp s.heap) σ H s :=
 I.pins_of fun p hp=>(mem_append.mp hp).elim (fun z=>I.pin p (mem_append_right _ z)) fun z=>by
  obtain ⟨hb,e⟩:=of_pinsAt z;obtain ⟨f0,f1,f2,_⟩:=hf p.1 hb;obtain ⟨o,e',d⟩:=ho p.1 hb;rw [e] at e';cases e';exact ⟨e,f0,f1,f2,d⟩
theorem Inv.unpinned {pins pl:List (Addr × Obj)} {σ:St} {H:Hp} {s:Shared} (I:Inv X (pins ++ pl) σ H s):Inv X pins σ H s:=I.pins_of fun p hp=>I.pin p (mem_append_right _ (List.mem_append_left _ hp))
theorem J4s {iter:Expr} {body:List Stmt} {wi:TI} {g:TG} {tb:TS} {pos:Pos} (hp:PassesOwn (model X.prog X.w) X.A X.env X.xe) (hc:X.calm=true) (hi:PI X tg iter wi) (hg:PG X tg g) (hb:PSs X body tb)
  (hs:∀ x,foldedSetIterable iter X.env x=pure x:=by intro _;rfl):PS X (.For tg iter body [] pos) (tFor wi g tb):=by
 intro pins s σ H D I h;refine wpAny_For (thn (hi pins s σ H _ I h) fun v s1 h1=>thn h1 fun itv s2 h2=>?_) hs;obtain ⟨it,fp,tn,J,H2,e,I2,T,st2,f2,W,⟨m0,w0⟩,turn⟩:=h2;subst e;have stat:∀ {H':Hp},(∀ b∈fp,H' b=none)->∀ b∈fp,FpOk X pins H' b:=fun hn b hb=>⟨hn b hb,(f2 b hb).2⟩;refine codeAny_forLoop_any (fun n s'=>∃ i σ' H',Inv X pins σ' H' s'/\tn i s'.heap/\(∀ b∈fp,H' b=none)/\W i n σ' H') ?_ m0 ⟨0,σ,H2,I2,st2,fun b hb=>(f2 b hb).1,w0⟩;rintro n s3 ⟨i,σ3,H3,I3,st3,fr3,w3⟩;rcases turn i n σ3 H3 w3 with ⟨stop,qn⟩ | ⟨go,N,hN,step⟩
 ·refine wpAny_passesOwn hp (thn (T.done X rfl rfl rfl hc i pins s3 σ3 H3 X.xe I3 (stat fr3) st3 stop) fun r s4 h9=>?_);obtain ⟨hr,I4⟩:=h9;subst hr;exact wpAny_execs_nil ⟨σ3,H3,I4,qn⟩
 ·refine wpAny_passesOwn hp (thn (T.item X rfl rfl rfl hc i pins s3 σ3 H3 X.xe I3 (stat fr3) st3 go) fun r s4 h9=>?_);obtain ⟨u,hr,h4⟩:=h9;subst hr;refine wpAny_passesOwn hp (thn h4 fun _ s5 h9=>?_);obtain ⟨x,H5,I5,r5,y5,st5,fr5⟩:=h9;have I5':=I5.pinned (stat fr5) (T.obj _ _ st5);refine wpAny_passesOwn hp (thn (hg _ s5 σ3 H5 x u _ I5' r5 (step x H5 y5)) fun _ s6 h9=>?_);obtain ⟨σ6,H6,I6,q6⟩:=h9;refine wpAny_passesOwn hp (thn (hb _ s6 σ6 H6 _ I6 q6) fun f s7 q7=>?_);have again:∀ {σ7:St} {H7:Hp},Inv X (pins ++ pinsAt fp s5.heap) σ7 H7 s7->N σ7 H7->∃ m,m < n/\∃ i σ' H',Inv X pins σ' H' s7/\tn i s7.heap/\(∀ b∈fp,H' b=none)/\W i m σ' H':=fun {σ7 H7} I7 n7=>by
   obtain ⟨m',hm,w7⟩:=hN σ7 H7 n7;refine ⟨m',hm,i + 1,σ7,H7,I7.unpinned,T.keep _ _ _ st5 fun b hb o e=>(I7.pin (b,o) (mem_append_right _ (mem_append_right _ (J29 hb e)))).1,fun b hb=>?_,w7⟩;obtain ⟨o,e,d⟩:=T.obj _ _ st5 b hb;exact (I7.pin (b,o) (mem_append_right _ (mem_append_right _ (J29 hb e)))).2.1
  cases f with
  | next=>obtain ⟨σ7,H7,I7,n7⟩:=q7;exact again I7 n7
  | cont=>obtain ⟨σ7,H7,I7,n7⟩:=q7;exact again I7 n7
  | brk=>obtain ⟨σ7,H7,I7,q7⟩:=q7;exact ⟨σ7,H7,I7.unpinned,q7⟩
  | ret v=>obtain ⟨x7,σ7,H7,I7,r7,q7⟩:=q7;exact ⟨x7,σ7,H7,I7.unpinned,r7,q7⟩
end
theorem for_list {K:PySem.W.Frag} {a:Addr} {xs:List V} {g:TG} {tb:TS} {D:Ends} {σ:St} {H:Hp} (Pv:Nat->St->Hp->Prop) (h0:Pv 0 σ H) (hl:∀ i σ H,i<=xs.length->Pv i σ H->SqL K H a xs)
  (hs:∀ i x σ H,xs[i]?=some x->Pv i σ H->g x σ H fun σ2 H2=>tb { D with nx:=Pv (i + 1),ct:=Pv (i + 1),bk:=D.nx } σ2 H2) (hd:∀ σ H,Pv xs.length σ H->D.nx σ H) :
  ∃ W:Nat->Nat->St->Hp->Prop,(∃ m,W 0 m σ H)/\∀ i m σ H,W i m σ H->
   ((Itl K a).stop i H/\D.nx σ H)\/((Itl K a).go i H/\∃ N:St->Hp->Prop,(∀ σ' H',N σ' H'->∃ m',m' < m/\W (i + 1) m' σ' H')/\∀ x H',(Itl K a).yld i H x H'->g x σ H' fun σ2 H2=>tb { D with nx:=N,ct:=N,bk:=D.nx } σ2 H2):=by
 refine ⟨fun i m σ H=>m=xs.length - i/\i<=xs.length/\Pv i σ H,⟨xs.length,by simp,Nat.zero_le _,h0⟩,?_⟩;rintro i m σ H ⟨rfl,hi,p⟩;have q:=hl i σ H hi p;by_cases hlt:i < xs.length
 ·refine .inr ⟨⟨xs,xs[i],q,by simp [hlt]⟩,Pv (i + 1),fun σ' H' p'=>⟨xs.length - (i + 1),by omega,rfl,hlt,p'⟩,fun x H' y=>?_⟩;obtain ⟨e,y⟩:=y;subst e;exact hs i x σ _ (y xs q) p
 ·have e:i=xs.length:=by omega
  subst e;exact .inl ⟨⟨xs,q,Nat.le_refl _⟩,hd σ H p⟩
theorem for_tup {K:PySem.W.Frag} {a:Addr} {xs:List V} {g:TG} {tb:TS} {D:Ends} {σ:St} {H:Hp} (Pv:Nat->St->Hp->Prop) (h0:Pv 0 σ H) (hl:∀ i σ H,i<=xs.length->Pv i σ H->SqT K H a xs)
  (hs:∀ i x σ H,xs[i]?=some x->Pv i σ H->g x σ H fun σ2 H2=>tb { D with nx:=Pv (i + 1),ct:=Pv (i + 1),bk:=D.nx } σ2 H2) (hd:∀ σ H,Pv xs.length σ H->D.nx σ H) :
  ∃ W:Nat->Nat->St->Hp->Prop,(∃ m,W 0 m σ H)/\∀ i m σ H,W i m σ H->
   ((Itt K a).stop i H/\D.nx σ H)\/((Itt K a).go i H/\∃ N:St->Hp->Prop,(∀ σ' H',N σ' H'->∃ m',m' < m/\W (i + 1) m' σ' H')/\∀ x H',(Itt K a).yld i H x H'->g x σ H' fun σ2 H2=>tb { D with nx:=N,ct:=N,bk:=D.nx } σ2 H2):=by
 refine ⟨fun i m σ H=>m=xs.length - i/\i<=xs.length/\Pv i σ H,⟨xs.length,by simp,Nat.zero_le _,h0⟩,?_⟩;rintro i m σ H ⟨rfl,hi,p⟩;have q:=hl i σ H hi p;by_cases hlt:i < xs.length
 ·refine .inr ⟨⟨xs,xs[i],q,by simp [hlt]⟩,Pv (i + 1),fun σ' H' p'=>⟨xs.length - (i + 1),by omega,rfl,hlt,p'⟩,fun x H' y=>?_⟩;obtain ⟨e,y⟩:=y;subst e;exact hs i x σ _ (y xs q) p
 ·have e:i=xs.length:=by omega
  subst e;exact .inl ⟨⟨xs,q,Nat.le_refl _⟩,hd σ H p⟩
theorem for_range {lo:Int} {n:Nat} {g:TG} {tb:TS} {D:Ends} {σ:St} {H:Hp} (Pv:Nat->St->Hp->Prop) (h0:Pv 0 σ H)
  (hs:∀ i σ H,i < n->Pv i σ H->g (.int (lo + i)) σ H fun σ2 H2=>tb { D with nx:=Pv (i + 1),ct:=Pv (i + 1),bk:=D.nx } σ2 H2) (hd:∀ σ H,Pv n σ H->D.nx σ H) :
  ∃ W:Nat->Nat->St->Hp->Prop,(∃ m,W 0 m σ H)/\∀ i m σ H,W i m σ H->
   ((Itr lo n).stop i H/\D.nx σ H)\/((Itr lo n).go i H/\∃ N:St->Hp->Prop,(∀ σ' H',N σ' H'->∃ m',m' < m/\W (i + 1) m' σ' H')/\∀ x H',(Itr lo n).yld i H x H'->g x σ H' fun σ2 H2=>tb { D with nx:=N,ct:=N,bk:=D.nx } σ2 H2):=by
 refine ⟨fun i m σ H=>m=n - i/\i<=n/\Pv i σ H,⟨n,by simp,Nat.zero_le _,h0⟩,?_⟩;rintro i m σ H ⟨rfl,hi,p⟩;by_cases hlt:i < n
 ·refine .inr ⟨hlt,Pv (i + 1),fun σ' H' p'=>⟨n - (i + 1),by omega,rfl,hlt,p'⟩,fun x H' y=>?_⟩;obtain ⟨e,y⟩:=y;subst e y;exact hs i σ _ hlt p
 ·have e:i=n:=by omega
  subst e;exact .inl ⟨Nat.le_refl _,hd σ H p⟩
end L2
namespace L2
open PySem PySem.Spec PyProof.Rows
abbrev R2:=V->V->Hp->VK->Prop
def OpR (X:Cx) (f:Value->Value->Sem Value) (r:R2):Prop :=
 ∀ (pins:List (Addr × Obj)) (s:Shared) (σ:St) (H:Hp) (x y:V) (v u:Value) (Q:VK),Inv X pins σ H s->RelV x v->RelV y u->r x y H Q->
  wpAny (model X.prog X.w) X.A (f v u) (EP X pins σ Q) X.xe s
def UnR (X:Cx) (f:Value->Sem Value) (r:V->Hp->VK->Prop):Prop :=
 ∀ (pins:List (Addr × Obj)) (s:Shared) (σ:St) (H:Hp) (x:V) (v:Value) (Q:VK),Inv X pins σ H s->RelV x v->r x H Q->
  wpAny (model X.prog X.w) X.A (f v) (EP X pins σ Q) X.xe s
def CallR (X:Cx) (f:Value) (r:List V->Hp->VK->Prop):Prop :=
 ∀ (pins:List (Addr × Obj)) (s:Shared) (σ:St) (H:Hp) (xs:List V) (us:List Value) (Q:VK),Inv X pins σ H s->Vals xs us->r xs H Q->
  wpAny (model X.prog X.w) X.A (call f us) (EP X pins σ Q) X.xe s
def tOp (r:R2) (ta tb:TE):TE:=fun σ H Q=>ta σ H fun x H1=>tb σ H1 fun y H2=>r x y H2 Q
def tUn (r:V->Hp->VK->Prop) (ta:TE):TE:=fun σ H Q=>ta σ H fun x H1=>r x H1 Q
def rI (C:Int->Int->Prop) (g:Int->Int->V):R2:=fun x y H Q=>∃ i j,x=.int i/\y=.int j/\C i j/\Q (g i j) H
def rI0 (g:Int->Int->V):R2:=fun x y H Q=>∃ i j,x=.int i/\y=.int j/\Q (g i j) H
def rU (g:Int->V):V->Hp->VK->Prop:=fun x H Q=>∃ i,x=.int i/\Q (g i) H
section
variable {X:Cx} {a b c:Expr} {ta tb tc:TE} {pos:Pos}
theorem binT (ha:PE X a ta) (hb:PE X b tb) {pins:List (Addr × Obj)} {s:Shared} {σ:St} {H:Hp} {R:V->V->Hp->Prop} (I:Inv X pins σ H s)
  (h:ta σ H fun x H1=>tb σ H1 fun y H2=>R x y H2) {Q:Value->Shared->Prop} {f:Value->Value->Sem Value}
  (hf:∀ v u s2 x y H2,Inv X pins σ H2 s2->RelV x v->RelV y u->R x y H2->wpAny (model X.prog X.w) X.A (f v u) Q X.xe s2) :
  wpAny (model X.prog X.w) X.A (eval a X.env) (fun v s₁=>wpAny (model X.prog X.w) X.A (eval b X.env) (fun u s₂=>wpAny (model X.prog X.w) X.A (f v u) Q X.xe s₂) X.xe s₁) X.xe s:=by
 refine thn (ha pins s σ H _ I h) fun v s1 h9=>?_;obtain ⟨x,H1,I1,r1,q1⟩:=h9;refine thn (hb pins s1 σ H1 _ I1 q1) fun u s2 h9=>?_;obtain ⟨y,H2,I2,r2,q2⟩:=h9;exact hf v u s2 x y H2 I2 r1 r2 q2
theorem pe_op {op:Operator} {r:R2} (ho:OpR X (binaryOp op) r) (ha:PE X a ta) (hb:PE X b tb):PE X (.BinOp a op b pos) (tOp r ta tb):=by
 intro pins s σ H Q I h;exact wpAny_BinOp (binT ha hb I h fun v u s2 x y H2 I2 rx ry q=>ho pins s2 σ H2 x y v u Q I2 rx ry q)
theorem pe_un {op:UnaryOp} {r:V->Hp->VK->Prop} (ho:UnR X (unaryOp op) r) (ha:PE X a ta):PE X (.UnaryOp op a pos) (tUn r ta):=by
 intro pins s σ H Q I h;exact UnaryOp_ (thn (ha pins s σ H _ I h) fun v s1 h9=>by obtain ⟨x,H1,I1,r1,q1⟩:=h9;exact ho pins s1 σ H1 x v Q I1 r1 q1)
theorem opI {f:Value->Value->Sem Value} {C:Int->Int->Prop} {g:Int->Int->Int}
  (rule:∀ (i j:Int) (t u:Tok) (s:Shared) (Q:Value->Shared->Prop) (E:Value->Shared->Prop),C i j->Q (.int (g i j) s.toks) { s with toks:=s.toks + 1 }->wpAny (model X.prog X.w) X.A (f (.int i t) (.int j u)) Q E s) :
  OpR X f (rI C fun i j=>.int (g i j)):=by
 intro pins s σ H x y v u Q I rx ry h;obtain ⟨i,j,rfl,rfl,hc,q⟩:=h;obtain ⟨t,rfl⟩:=rx;obtain ⟨t',rfl⟩:=ry;exact rule i j t t' s _ _ hc ⟨.int (g i j),H,I.tok _,⟨_,rfl⟩,q⟩
theorem opI0 {f:Value->Value->Sem Value} {g:Int->Int->Int}
  (rule:∀ (i j:Int) (t u:Tok) (s:Shared) (Q:Value->Shared->Prop) (E:Value->Shared->Prop),Q (.int (g i j) s.toks) { s with toks:=s.toks + 1 }->wpAny (model X.prog X.w) X.A (f (.int i t) (.int j u)) Q E s) :
  OpR X f (rI0 fun i j=>.int (g i j)):=by
 intro pins s σ H x y v u Q I rx ry h;obtain ⟨i,j,rfl,rfl,q⟩:=h;obtain ⟨t,rfl⟩:=rx;obtain ⟨t',rfl⟩:=ry;exact rule i j t t' s _ _ ⟨.int (g i j),H,I.tok _,⟨_,rfl⟩,q⟩
theorem opB0 {f:Value->Value->Sem Value} {g:Int->Int->Bool}
  (rule:∀ (i j:Int) (t u:Tok) (s:Shared) (Q:Value->Shared->Prop) (E:Value->Shared->Prop),Q (.bool (g i j)) s->wpAny (model X.prog X.w) X.A (f (.int i t) (.int j u)) Q E s) :
  OpR X f (rI0 fun i j=>.bl (g i j)):=by
 intro pins s σ H x y v u Q I rx ry h;obtain ⟨i,j,rfl,rfl,q⟩:=h;obtain ⟨t,rfl⟩:=rx;obtain ⟨t',rfl⟩:=ry;exact rule i j t t' s _ _ ⟨.bl (g i j),H,I,rfl,q⟩
def CDiv (i j:Int):Prop:=0 < j/\j < 1073741824
def CPow (i j:Int):Prop:=0<=j/\j<=1000000/\i.natAbs < 2 ^ 64
def CMul (i j:Int):Prop:=(-(2 ^ 64) < i/\i < 2 ^ 64)\/(-(2 ^ 64) < j/\j < 2 ^ 64)
theorem CMul.ok {i j:Int} (h:CMul i j):IntMulOk i j:=by
 rcases h with ⟨h1,h2⟩ | ⟨h1,h2⟩
 ·exact .of_left (intBits_le_64 h1 h2)
 ·exact .of_right (intBits_le_64 h1 h2)
theorem two_pow_nn (k:Nat):(0:Int)<=2 ^ k:=by
 rw [two_pow_cast];exact Int.natCast_nonneg _
theorem Jv:OpR X (binaryOp .Add) (rI0 fun i j=>.int (i + j)):=opI0 fun _ _ _ _ _ _ _ q=>add_int q
theorem J4t:OpR X (binaryOp .Sub) (rI0 fun i j=>.int (i - j)):=opI0 fun _ _ _ _ _ _ _ q=>sub_int q
theorem op_mul:OpR X (binaryOp .Mult) (rI CMul fun i j=>.int (i * j)):=opI fun _ _ _ _ _ _ _ hc q=>mul_int q hc.ok
theorem J4u:OpR X (binaryOp .FloorDiv) (rI CDiv fun i j=>.int (i / j)):=opI fun i j _ _ _ _ _ hc q=>by
 have h1:(0:Int) < j:=hc.1;have h2:j < 1073741824:=hc.2;exact floordiv_int (by omega) (by rw [Int.fdiv_eq_ediv_of_nonneg i (by omega)];exact q) (.inl (PyProof.noPylong_small (by omega)))
theorem J1f:OpR X (binaryOp .Mod) (rI (fun _ j=>0 < j) fun i j=>.int (i % j)):=opI fun i j _ _ _ _ _ hc q=>by
 have h1:(0:Int) < j:=hc;exact mod_int' (by omega) (by rw [Int.fmod_eq_emod_of_nonneg i (by omega)];exact q)
theorem J5f:OpR X (binaryOp .Pow) (rI CPow fun i j=>.int (i ^ j.toNat)):=opI fun _ _ _ _ _ _ _ hc q=>pow_int_small hc.1 hc.2.1 hc.2.2 q
theorem op_shr:OpR X (binaryOp .RShift) (rI (fun _ j=>0<=j) fun i j=>.int (i / 2 ^ j.toNat)):=opI fun i j _ _ _ _ _ hc q =>
 rshift_int hc (by rw [Int.fdiv_eq_ediv_of_nonneg i (two_pow_nn _)];exact q)
theorem unI {f:Value->Sem Value} {g:Int->Int}
  (rule:∀ (i:Int) (t:Tok) (s:Shared) (Q:Value->Shared->Prop) (E:Value->Shared->Prop),Q (.int (g i) s.toks) { s with toks:=s.toks + 1 }->wpAny (model X.prog X.w) X.A (f (.int i t)) Q E s) :
  UnR X f (rU fun i=>.int (g i)):=by
 intro pins s σ H x v Q I rx h;obtain ⟨i,rfl,q⟩:=h;obtain ⟨t,rfl⟩:=rx;exact rule i t s _ _ ⟨.int (g i),H,I.tok _,⟨_,rfl⟩,q⟩
theorem un_neg:UnR X (unaryOp .USub) (rU fun i=>.int (-i)):=unI fun _ _ _ _ _ q=>neg_int q
end
def scal:V->V->Bool
 | .non,.non=>true | .non,.int _=>true | .int _,.non=>true | .non,.bl _=>true | .bl _,.non=>true | .non,.str _=>true | .str _,.non=>true
 | .int _,.int _=>true | .bl _,.bl _=>true | .str _,.str _=>true | .byt _,.byt _=>true
 | .int _,.str _=>true | .str _,.int _=>true | .bl _,.str _=>true | .str _,.bl _=>true
 | _,_=>false
def rEq:R2:=fun x y H Q=>scal x y=true/\Q (.bl (decide (x=y))) H
def rNe:R2:=fun x y H Q=>scal x y=true/\Q (.bl (!decide (x=y))) H
theorem dec_int {i j:Int}:decide (V.int i=V.int j)=(i == j):=by
 rw [Bool.eq_iff_iff];simp
theorem dec_bl {i j:Bool}:decide (V.bl i=V.bl j)=(i == j):=by
 rw [Bool.eq_iff_iff];simp
theorem dec_str {i j:Str}:decide (V.str i=V.str j)=(i == j):=by
 rw [Bool.eq_iff_iff];simp
theorem dec_byt {i j:Array UInt8}:decide (V.byt i=V.byt j)=(i.toList == j.toList):=by
 rw [Bool.eq_iff_iff];cases i;cases j;simp
section
variable {X:Cx} {a b c:Expr} {ta tb tc:TE} {pos:Pos}
theorem Jy {pins:List (Addr × Obj)} {σ:St} {H:Hp} {s:Shared} {Q:VK} {k k':Bool} (I:Inv X pins σ H s) (q:Q (.bl k) H) (e:k=k'):EP X pins σ Q (.bool k') s:=by
 subst e;exact ⟨.bl k,H,I,rfl,q⟩
theorem op_eq:OpR X (compareOp .Eq) rEq:=by
 intro pins s σ H x y v u Q I rx ry h;obtain ⟨hs,q⟩:=h
 cases x with
 | non =>
  cases rx
  cases y with
  | non=>cases ry;exact PySem.EqNone.eq_none_none (Jy I q (by simp))
  | bl j=>cases ry;exact PySem.EqNone.eq_none_bool (Jy I q (by simp))
  | int j=>obtain ⟨t',rfl⟩:=ry;exact PySem.EqNone.eq_none_int (Jy I q (by simp))
  | str j=>obtain ⟨t',rfl⟩:=ry;exact PySem.EqNone.eq_none_str (Jy I q (by simp))
  | _=>exact absurd (show false=true from hs) Bool.false_ne_true
 | bl i =>
  cases rx
  cases y with
  | non=>cases ry;exact PySem.EqNone.eq_bool_none (Jy I q (by simp))
  | bl j=>cases ry;exact eq_bool (Jy I q dec_bl)
  | str j=>obtain ⟨t',rfl⟩:=ry;exact PySem.EqMixed.eq_bool_str (Jy I q (by simp))
  | _=>exact absurd (show false=true from hs) Bool.false_ne_true
 | int i =>
  obtain ⟨t,rfl⟩:=rx
  cases y with
  | non=>cases ry;exact PySem.EqNone.eq_int_none (Jy I q (by simp))
  | int j=>obtain ⟨t',rfl⟩:=ry;exact eq_int (Jy I q dec_int)
  | str j=>obtain ⟨t',rfl⟩:=ry;exact PySem.EqMixed.eq_int_str (Jy I q (by simp))
  | _=>exact absurd (show false=true from hs) Bool.false_ne_true
 | str i =>
  obtain ⟨t,rfl⟩:=rx
  cases y with
  | non=>cases ry;exact PySem.EqNone.eq_str_none (Jy I q (by simp))
  | bl j=>cases ry;exact PySem.EqMixed.eq_str_bool (Jy I q (by simp))
  | int j=>obtain ⟨t',rfl⟩:=ry;exact PySem.EqMixed.eq_str_int (Jy I q (by simp))
  | str j=>obtain ⟨t',rfl⟩:=ry;exact eq_str (Jy I q dec_str)
  | _=>exact absurd (show false=true from hs) Bool.false_ne_true
 | byt i =>
  obtain ⟨t,rfl⟩:=rx
  cases y with
  | byt j=>obtain ⟨t',rfl⟩:=ry;exact PySem.W.eq_bytes (Jy I q dec_byt)
  | _=>exact absurd (show false=true from hs) Bool.false_ne_true
 | _=>cases y <;> exact absurd (show false=true from hs) Bool.false_ne_true
theorem op_ne:OpR X (compareOp .NotEq) rNe:=by
 intro pins s σ H x y v u Q I rx ry h;obtain ⟨hs,q⟩:=h
 cases x with
 | non =>
  cases rx
  cases y with
  | non=>cases ry;exact PySem.EqNone.ne_none_none (Jy I q (by simp))
  | bl j=>cases ry;exact PySem.EqNone.ne_none_bool (Jy I q (by simp))
  | int j=>obtain ⟨t',rfl⟩:=ry;exact PySem.EqNone.ne_none_int (Jy I q (by simp))
  | str j=>obtain ⟨t',rfl⟩:=ry;exact PySem.EqNone.ne_none_str (Jy I q (by simp))
  | _=>exact absurd (show false=true from hs) Bool.false_ne_true
 | bl i =>
  cases rx
  cases y with
  | non=>cases ry;exact PySem.EqNone.ne_bool_none (Jy I q (by simp))
  | bl j=>cases ry;exact ne_bool (Jy I q (congrArg not dec_bl))
  | str j=>obtain ⟨t',rfl⟩:=ry;exact PySem.EqMixed.ne_bool_str (Jy I q (by simp))
  | _=>exact absurd (show false=true from hs) Bool.false_ne_true
 | int i =>
  obtain ⟨t,rfl⟩:=rx
  cases y with
  | non=>cases ry;exact PySem.EqNone.ne_int_none (Jy I q (by simp))
  | int j=>obtain ⟨t',rfl⟩:=ry;exact ne_int (Jy I q (congrArg not dec_int))
  | str j=>obtain ⟨t',rfl⟩:=ry;exact PySem.EqMixed.ne_int_str (Jy I q (by simp))
  | _=>exact absurd (show false=true from hs) Bool.false_ne_true
 | str i =>
  obtain ⟨t,rfl⟩:=rx
  cases y with
  | non=>cases ry;exact PySem.EqNone.ne_str_none (Jy I q (by simp))
  | bl j=>cases ry;exact PySem.EqMixed.ne_str_bool (Jy I q (by simp))
  | int j=>obtain ⟨t',rfl⟩:=ry;exact PySem.EqMixed.ne_str_int (Jy I q (by simp))
  | str j=>obtain ⟨t',rfl⟩:=ry;exact ne_str (Jy I q (congrArg not dec_str))
  | _=>exact absurd (show false=true from hs) Bool.false_ne_true
 | byt i =>
  obtain ⟨t,rfl⟩:=rx
  cases y with
  | byt j=>obtain ⟨t',rfl⟩:=ry;exact PySem.W.ne_bytes (Jy I q (congrArg not dec_byt))
  | _=>exact absurd (show false=true from hs) Bool.false_ne_true
 | _=>cases y <;> exact absurd (show false=true from hs) Bool.false_ne_true
theorem op_lt:OpR X (compareOp .Lt) (rI0 fun i j=>.bl (decide (i < j))):=opB0 fun _ _ _ _ _ _ _ q=>lt_int q
theorem op_le:OpR X (compareOp .LtE) (rI0 fun i j=>.bl (decide (i<=j))):=opB0 fun _ _ _ _ _ _ _ q=>le_int q
theorem op_gt:OpR X (compareOp .Gt) (rI0 fun i j=>.bl (decide (j < i))):=opB0 fun _ _ _ _ _ _ _ q=>gt_int q
theorem op_ge:OpR X (compareOp .GtE) (rI0 fun i j=>.bl (decide (j<=i))):=opB0 fun _ _ _ _ _ _ _ q=>ge_int q
theorem op_in_str:OpR X (compareOp .In) (fun x y H Q=>∃ i j,x=.str i/\y=.str j/\Q (.bl (!(Builtin.Str.occurrences j i 0 j.length 1).isEmpty)) H):=by
 intro pins s σ H x y v u Q I rx ry h;obtain ⟨i,j,rfl,rfl,q⟩:=h;obtain ⟨t,rfl⟩:=rx;obtain ⟨t',rfl⟩:=ry;exact in_str (Jy I q rfl)
theorem op_isN:OpR X (compareOp .Is) (fun x y H Q=>y=.non/\Q (.bl (decide (x=.non))) H):=by
 intro pins s σ H x y v u Q I rx ry h;obtain ⟨rfl,q⟩:=h;cases ry;refine is_none_gen (Jy I q ?_);cases x <;> first
  | (cases rx;rfl)
  | (obtain ⟨t,rfl⟩:=rx;rfl)
theorem op_notN:OpR X (compareOp .IsNot) (fun x y H Q=>y=.non/\Q (.bl (!decide (x=.non))) H):=by
 intro pins s σ H x y v u Q I rx ry h;obtain ⟨rfl,q⟩:=h;cases ry;refine isnot_none_gen (Jy I q ?_);cases x <;> first
  | (cases rx;rfl)
  | (obtain ⟨t,rfl⟩:=rx;rfl)
theorem Jg (b:Expr) {op:CmpOp} (h:op≠.In:=by decide) (h2:op≠.NotIn:=by decide):behindInMarks op b=false:=by
 have e1:(op == CmpOp.In)=false:=by cases op <;> first | rfl | exact absurd rfl h
 have e2:(op == CmpOp.NotIn)=false:=by cases op <;> first | rfl | exact absurd rfl h2
 cases b <;> simp [behindInMarks,e1,e2]
theorem J2k {op:CmpOp} {r:R2} (ho:OpR X (compareOp op) r) (ha:PE X a ta) (hb:PE X b tb) (hm:behindInMarks op b=false):PE X (.Compare a [op] [b] pos) (tOp r ta tb):=by
 intro pins s σ H Q I h;exact wpAny_Compare1 (binT ha hb I h fun v u s2 x y H2 I2 rx ry q=>ho pins s2 σ H2 x y v u Q I2 rx ry q) hm
def tTest (t:TE):TT:=fun σ H Q=>t σ H fun x H'=>∃ k,x=.bl k/\Q k H'
theorem Jc {op:CmpOp} {r:R2} (ho:OpR X (compareOp op) r) (ha:PE X a ta) (hb:PE X b tb) (hm:behindInMarks op b=false):PT X (.Compare a [op] [b] pos) (tTest (tOp r ta tb)):=by
 intro pins s σ H Q I h;refine wpAny_isTrue_Compare1 (thn (ha pins s σ H _ I h) fun v s1 h9=>?_) hm;obtain ⟨x,H1,I1,r1,q1⟩:=h9;refine thn (hb pins s1 σ H1 _ I1 q1) fun u s2 h9=>?_;obtain ⟨y,H2,I2,r2,q2⟩:=h9;refine thn (ho pins s2 σ H2 x y v u _ I2 r1 r2 q2) fun c s3 h9=>?_;obtain ⟨z,H3,I3,r3,k,e,q3⟩:=h9;subst e;cases r3;exact wpAny_truthy_bool ⟨H3,I3,q3⟩
theorem J5l:(sizeLine:Nat) < 2 ^ 63:=by rw [sizeLine_eq];decide
theorem Jp:OpR X (binaryOp .Add) (fun x y H Q=>∃ i j,x=.str i/\y=.str j/\i.length + j.length<=sizeLine/\Q (.str (i ++ j)) H):=by
 intro pins s σ H x y v u Q I rx ry h;obtain ⟨i,j,rfl,rfl,hz,q⟩:=h;obtain ⟨t,rfl⟩:=rx;obtain ⟨t',rfl⟩:=ry;exact add_str (fun t' tk=>⟨.str (i ++ j),H,I.tok _,⟨_,rfl⟩,q⟩) hz
theorem vals1 {x:V} {us:List Value} (r:Vals [x] us):∃ u,us=[u]/\RelV x u:=by
 cases r with
 | cons r1 r2=>cases r2;exact ⟨_,rfl,r1⟩
theorem vals2 {x y:V} {us:List Value} (r:Vals [x,y] us):∃ u w',us=[u,w']/\RelV x u/\RelV y w':=by
 cases r with
 | cons r1 r2 =>
  cases r2 with
  | cons r3 r4=>cases r4;exact ⟨_,_,rfl,r1,r3⟩
theorem call_min2 (hc:X.calm=true):CallR X (.builtin "min") (fun xs H Q=>∃ i j,xs=[.int i,.int j]/\Q (.int (if j < i then j else i)) H):=by
 intro pins s σ H xs us Q I r h;obtain ⟨i,j,rfl,q⟩:=h;obtain ⟨u,w',rfl,⟨t,rfl⟩,⟨t',rfl⟩⟩:=vals2 r;refine min_two_ints (I.ok.hd hc) fun h' tk k=>⟨_,H,I.kept k,?_,q⟩;by_cases hj:j < i
 ·rw [if_pos hj,if_pos hj];exact ⟨_,rfl⟩
 ·rw [if_neg hj,if_neg hj];exact ⟨_,rfl⟩
theorem call_int1:CallR X (.type "int") (fun xs H Q=>(∃ i,xs=[.int i]/\Q (.int i) H)\/∃ k,xs=[.bl k]/\Q (.int (if k then 1 else 0)) H):=by
 intro pins s σ H xs us Q I r h;rcases h with ⟨i,rfl,q⟩ | ⟨k,rfl,q⟩
 ·obtain ⟨u,rfl,t,rfl⟩:=vals1 r;exact call_int_int ⟨.int i,H,I,⟨_,rfl⟩,q⟩
 ·obtain ⟨u,rfl,r1⟩:=vals1 r;cases r1;exact call_int_bool ⟨.int (if k then 1 else 0),H,I.tok _,⟨_,rfl⟩,q⟩
theorem Jr:CallR X (.type "str") (fun xs H Q=>∃ i,xs=[.int i]/\i.natAbs.log2 < 1920/\Q (.str (toString i)) H):=by
 intro pins s σ H xs us Q I r h;obtain ⟨i,rfl,hz,q⟩:=h;obtain ⟨u,rfl,t,rfl⟩:=vals1 r;exact PySem.P.str_of_int hz ⟨.str _,H,I.tok _,⟨_,rfl⟩,q⟩
end
end L2
namespace L2
open PySem PySem.Spec PyProof.Rows
structure ObjM (h:Heap) (x dx C:Addr) (mA:Str->Option Value):Prop where
 obj:h.get? x=some (instObj C dx)
 ns:h.Ns1 dx mA
 ne:dx≠x
theorem lookIn_ns {h:Heap} {dx:Addr} {mA:Str->Option Value} (n:h.Ns1 dx mA):∃ od,h.get? dx=some od/\∀ name,lookIn name od=some (mA name):=by
 obtain ⟨o,es,ep,ho,hd,hk,_,hm⟩:=n;refine ⟨o,ho,fun name=>?_⟩;have e:=hm name;unfold nsFind findBy at e;rw [<- Array.find?_toList] at e;unfold lookIn;rw [hd];dsimp only;split
 ·rename_i y q;rw [q] at e;exact congrArg some e
 ·rename_i q;rw [q] at e;have a:es.toList.any (·.refKey)=false:=by
   rw [List.any_eq_false];intro y hy;obtain ⟨z,t,hkey⟩:=hk y (Array.mem_toList_iff.mp hy);simp [DictEntry.refKey,hkey]
  have a':¬ es.toList.any (·.refKey)=true:=by rw [a];exact Bool.false_ne_true
  rw [if_neg a'];exact congrArg some e
theorem ObjM.look {h:Heap} {x dx C:Addr} {mA:Str->Option Value} (I:ObjM h x dx C mA):∃ od,PySem.W.InstAt h x (instObj C dx) C (some od)/\∀ name,lookIn name od=some (mA name) :=
 let ⟨od,ho,hl⟩:=lookIn_ns I.ns
 ⟨od,⟨I.obj,rfl,rfl,ho⟩,hl⟩
section
variable {prog:Program} {w:World} {A:Around} {E:Value->Shared->Prop} {s:Shared} {K:PySem.W.Frag} {x dx C f:Addr} {mA:Str->Option Value} {name:Str} {v:Value}
theorem get_map {expr:Bool} {Q:Value->Shared->Prop} (X:K.In s.heap) (I:ObjM s.heap x dx C mA) (hg:plainGet K C name=true) (hh:PySem.W.hasDictIn K C=true)
  (ha:PySem.W.findIn K (.ref C) name=some none) (hv:mA name=some v) (hv':PySem.W.handedIn v=true) (h:Q v { s with toks:=s.toks + 1 }) :
  wpAny (model prog w) A (getAttr (.ref x) name expr) Q E s:=by
 obtain ⟨od,J,hl⟩:=I.look;exact PySem.W.get_value X J (plainGet_of hg).1 (PySem.W.findObj_own hh ha rfl (by rw [hl,hv])) hv' h
theorem get_meth {pl:Sem Bool} {Q:Value × List Value->Shared->Prop} (X:K.In s.heap) (I:ObjM s.heap x dx C mA) (hg:plainGet K C name=true)
  (hf:PySem.W.findIn K (.ref C) name=some (some (.ref f))) (ht:isFn K (.ref f)=true) (hv:mA name=none) (h:Q (.ref f,[.ref x]) s) :
  wpAny (model prog w) A (getMethod (.ref x) name pl) Q E s:=by
 obtain ⟨od,J,hl⟩:=I.look;exact PySem.W.method_fn X J (plainGet_of hg).1 (plainGet_of hg).2 hf (beq_iff_eq.mp ht) (by show (lookIn name od).map (·.isSome)=some false;rw [hl,hv];rfl) h
theorem set_map {ns:List Str} {Q:Unit->Shared->Prop} (X:K.In s.heap) (I:ObjM s.heap x dx C mA)
  (hs:PySem.W.findIn K (.ref C) "__setattr__"=some (some (.builtin "object.__setattr__"))) (hp:plainOver K C=true) (ht:takerIn K C name=some none) (hh:PySem.W.hasDictIn K C=true)
  (hw:PySem.Within mA ns) (hsz:ns.length<=sizeLine)
  (h:∀ h',ObjM h' x dx C (fun y=>if y=name then some v else mA y)->Heap.SameBut dx s.heap h'->Q () { s with heap:=h',toks:=s.toks + 2 }) :
  wpAny (model prog w) A (setAttr (.ref x) name v) Q E s:=by
 obtain ⟨od,J,hl⟩:=I.look;refine PySem.W.set_plain X J hs (PySem.W.osa_open (s:={ s with toks:=s.toks + 1 }) (r:=none) X J hp ht fun b=>?_);obtain ⟨cd,hc,hd'⟩:=PySem.W.any_some hh;have hx:s.heap.get? x=some ⟨.ref C,some dx,.plain,#[]⟩:=I.obj;refine wpAny_bind (wpAny_pure (wpAny_bind (wpAny_bind (wpAny_loadPart hx (wpAny_bind (PySem.W.Looks.here (s:={ s with toks:=s.toks + 1 }) (PySem.W.looks_clsIn X hc) ?_))))));rw [hd'];refine wpAny_pure (a:=some dx) (wpAny_bind (wpAny_pure (wpAny_bind ?_)));refine wpAny_nsSet1 (s:={ s with toks:=s.toks + 1 }) I.ns fun h' hn2 hs2=>?_;obtain ⟨oD,esD,epD,hoD,hdD,hcD⟩:=hn2.count (PySem.Within.cons name v hw);refine wpAny_bind (wpAny_lookBehind hoD (by rw [hdD];exact pastItsLine_dict (Nat.le_trans hcD (by rw [length_cons];omega))) ?_);exact wpAny_pure (h _ ⟨(hs2.2 _ (Ne.symm I.ne)).trans I.obj,hn2,I.ne⟩ hs2)
theorem make_map {R:Result->Shared->Prop} {vs:List Value} {kw:List (Str × Value)} (X:K.In s.heap) (hm:makesIn K C=true)
  (hi:PySem.W.findIn K (.ref C) "__init__"=some (some (.ref f))) (hf:PySem.W.typeIn K (.ref f)=some (.type "function"))
  (h:codeAny (model prog w) (A.under (.builtin "type.__call__" ⟨.ref C :: vs,kw⟩)) (.call (.ref f) ⟨.ref (s.heap.objs.size + 1) :: vs,kw⟩) (PySem.W.InitBack (s.heap.objs.size + 1) R)
   { s with heap:=(s.heap.push emptyDict).push (instObj C s.heap.objs.size) }) :
  codeAny (model prog w) A (.call (.ref C) ⟨vs,kw⟩) R s:=by
 obtain ⟨hh,g,d,t,os⟩:=s;exact PySem.W.make_core (PySem.W.makes_of X hm) (PySem.W.looks_findIn X hi) (fun self=>PySem.W.bind_fn X self hf) (.inl rfl) h
end
def putF (f:Str) (v:V):List (Str × V)->List (Str × V)
 | []=>[(f,v)]
 | (g,x) :: r=>if g=f then (g,v) :: r else (g,x) :: putF f v r
theorem J1u (f g:Str) (v:V):∀ fs:List (Str × V),(putF f v fs).lookup g=if g=f then some v else fs.lookup g
 | []=>by
  show List.lookup g [(f,v)]=_;by_cases h:g=f
  ·have hb:(g == f)=true:=beq_iff_eq.mpr h;simp only [List.lookup,hb,if_pos h]
  ·have hb:(g == f)=false:=beq_eq_false_iff_ne.mpr h;simp only [List.lookup,hb,if_neg h]
 | (k,x) :: r=>by
  have ih:=J1u f g v r;rw [show putF f v ((k,x) :: r)=(if k=f then (k,v) :: r else (k,x) :: putF f v r) from rfl];by_cases hk:k=f
  ·rw [if_pos hk];by_cases h:g=k
   ·have hb:(g == k)=true:=beq_iff_eq.mpr h;simp only [List.lookup,hb,if_pos (h.trans hk)]
   ·have hb:(g == k)=false:=beq_eq_false_iff_ne.mpr h;simp only [List.lookup,hb,if_neg (fun e:g=f=>h (e.trans hk.symm))]
  ·rw [if_neg hk];by_cases h:g=k
   ·have hb:(g == k)=true:=beq_iff_eq.mpr h;simp only [List.lookup,hb,if_neg (fun e:g=f=>hk (h.symm.trans e))]
   ·have hb:(g == k)=false:=beq_eq_false_iff_ne.mpr h;simp only [List.lookup,hb];exact ih
theorem J47 (f:Str) (v:V):∀ fs:List (Str × V),f∈(putF f v fs).map (·.1)/\∀ g,g∈fs.map (·.1)->g∈(putF f v fs).map (·.1)
 | []=>⟨by simp [putF],fun g h=>by simp at h⟩
 | (k,x) :: r=>by
  obtain ⟨i1,i2⟩:=J47 f v r;rw [show putF f v ((k,x) :: r)=(if k=f then (k,v) :: r else (k,x) :: putF f v r) from rfl];by_cases hk:k=f
  ·rw [if_pos hk];subst hk;exact ⟨by simp,fun g h=>by simpa using h⟩
  ·rw [if_neg hk];refine ⟨?_,fun g h=>?_⟩
   ·rw [map_cons];exact mem_cons_of_mem _ i1
   ·rw [map_cons] at h ⊢;rcases mem_cons.mp h with e | e
    ·exact mem_cons.mpr (.inl e)
    ·exact mem_cons_of_mem _ (i2 g e)
theorem J12 (f:Str) (v:V):∀ fs:List (Str × V),(putF f v fs).length<=fs.length + 1
 | []=>by simp [putF]
 | (k,x) :: r=>by
  have ih:=J12 f v r;rw [show putF f v ((k,x) :: r)=(if k=f then (k,v) :: r else (k,x) :: putF f v r) from rfl];by_cases hk:k=f
  ·rw [if_pos hk,length_cons,length_cons];omega
  ·rw [if_neg hk,length_cons,length_cons];omega
theorem RelO.some_of {v:V} {o:Option Value} (r:RelO (some v) o):∃ u,o=some u/\RelV v u:=by
 cases o with
 | none=>exact (show False from r).elim
 | some u=>exact ⟨u,rfl,r⟩
theorem RelO.none_of {o:Option Value} (r:RelO none o):o=none:=by
 cases o with
 | none=>rfl
 | some u=>exact (show False from r).elim
theorem handed_of {v:V} {u:Value} (r:RelV v u):PySem.W.handedIn u=true:=by
 cases v with
 | non=>cases (show u=Value.none from r);rfl
 | bl b=>cases (show u=Value.bool b from r);rfl
 | int i=>obtain ⟨t,e⟩:=(show ∃ t,u=Value.int i t from r);cases e;rfl
 | str x=>obtain ⟨t,e⟩:=(show ∃ t,u=Value.str x t from r);cases e;rfl
 | byt b=>obtain ⟨t,e⟩:=(show ∃ t,u=Value.bytes b t from r);cases e;rfl
 | flt b=>obtain ⟨t,e⟩:=(show ∃ t,u=Value.float b t from r);cases e;rfl
 | ref a=>cases (show u=Value.ref a from r);rfl
 | ty n=>cases (show u=Value.type n from r);rfl
section
variable {P:Program} {w:World} {H H':Hp} {h h':Heap} {a C dx:Addr} {fs fs':List (Str × V)}
theorem ins_get (hok:HOk P w H h) (e:H a=some (.ins C dx fs)):∃ mA,ObjM h a dx C mA/\(∀ f,RelO (fs.lookup f) (mA f))/\PySem.Within mA (fs.map (·.1))/\fs.length<=1000/\H dx=some (.own a):=by
 obtain ⟨d,z,ne,ob,mA,n,r,q⟩:=(show ObjOk P w H h a (.ins C dx fs) from hok a _ e);exact ⟨mA,⟨ob,n,ne⟩,r,q,z,d⟩
end
structure Cls (K:PySem.W.Frag) (C:Addr):Prop where
 pg:plainGet K C Str.empty=true
 hd:PySem.W.hasDictIn K C=true
 po:plainOver K C=true
 sa:PySem.W.findIn K (.ref C) "__setattr__"=some (some (.builtin "object.__setattr__"))
theorem Cls.get {K:PySem.W.Frag} {C:Addr} (c:Cls K C) (f:Str):plainGet K C f=true:=c.pg
def NoAttr (K:PySem.W.Frag) (C:Addr) (f:Str):Prop:=PySem.W.findIn K (.ref C) f=some none
theorem NoAttr.taker {K:PySem.W.Frag} {C:Addr} {f:Str} (n:NoAttr K C f):takerIn K C f=some none:=by
 unfold takerIn;rw [show PySem.W.findIn K (.ref C) f=some none from n];rfl
structure Meth (K:PySem.W.Frag) (C:Addr) (m:Str) (f:Addr):Prop where
 at_:PySem.W.findIn K (.ref C) m=some (some (.ref f))
 fn:isFn K (.ref f)=true
 kp:keepIn K (.ref f)=true
section
variable {X:Cx} {pins:List (Addr × Obj)} {σ:St} {H:Hp} {s:Shared} {a C dx:Addr} {fs:List (Str × V)} {f:Str} {v:V} {A:Around} {E:Value->Shared->Prop}
theorem getattr_ok {b:Bool} {Q:Value->Shared->Prop} (I:Inv X pins σ H s) (e:H a=some (.ins C dx fs)) (c:Cls X.K C) (n:NoAttr X.K C f) (l:fs.lookup f=some v)
  (h:∀ u s',Inv X pins σ H s'->RelV v u->Q u s'):wpAny (model X.prog X.w) A (getAttr (.ref a) f b) Q E s:=by
 obtain ⟨mA,O,r,_,_,_⟩:=ins_get I.hok e;obtain ⟨u,hu,ru⟩:=RelO.some_of (v:=v) (o:=mA f) (by rw [<- l];exact r f);exact get_map I.kIn O (c.get f) c.hd n hu (handed_of ru) (h u _ (I.tok _) ru)
theorem J34 {m:Str} {g:Addr} {pl:Sem Bool} {Q:Value × List Value->Shared->Prop} (I:Inv X pins σ H s) (e:H a=some (.ins C dx fs)) (c:Cls X.K C) (k:Meth X.K C m g) (l:fs.lookup m=none)
  (h:Q (.ref g,[.ref a]) s):wpAny (model X.prog X.w) A (getMethod (.ref a) m pl) Q E s:=by
 obtain ⟨mA,O,r,_,_,_⟩:=ins_get I.hok e;have hn:mA m=none:=RelO.none_of (by rw [<- l];exact r m);exact get_meth I.kIn O (c.get m) k.at_ k.fn hn h
theorem setattr_ok {y:V} {u:Value} {Q:Unit->Shared->Prop} (I:Inv X pins σ H s) (e:H a=some (.ins C dx fs)) (c:Cls X.K C) (n:NoAttr X.K C f) (hl:fs.length < 1000) (ry:RelV y u)
  (h:∀ s',Inv X pins σ (upd H a (.ins C dx (putF f y fs))) s'->Q () s'):wpAny (model X.prog X.w) A (setAttr (.ref a) f u) Q E s:=by
 obtain ⟨mA,O,r,wi,_,ho⟩:=ins_get I.hok e;have hz:(fs.map (·.1)).length<=sizeLine:=by rw [length_map,sizeLine_eq];omega
 refine set_map I.kIn O c.sa c.po n.taker c.hd wi hz fun h' O' sb=>h _ ?_;have hd:∃ o,h'.get? dx=some o:=by obtain ⟨o,_,_,e',_⟩:=O'.ns;exact ⟨o,e'⟩
 refine I.write (x:=a) (e:=dx) (by rw [e];exact True.intro) (.inr ho) (fun b q hb z=>(sb.2 b hb).trans z) hd ?_;refine ⟨by rw [Je O.ne];exact ho,?_,O.ne,O'.obj,_,O'.ns,fun g=>?_,fun g hg=>?_⟩
 ·have:=J12 f y fs;omega
 ·show RelO ((putF f y fs).lookup g) (if g=f then some u else mA g);rw [J1u];by_cases q:g=f
  ·rw [if_pos q,if_pos q];exact ry
  ·rw [if_neg q,if_neg q];exact r g
 ·by_cases q:g=f
  ·rw [q];exact (J47 f y fs).1
  ·refine (J47 f y fs).2 g (wi g fun z=>hg ?_);show (if g=f then some u else mA g)=none;rw [if_neg q];exact z
theorem Inv.made (I:Inv X pins σ H s):Inv X pins σ (upd (upd H s.heap.objs.size (.own (s.heap.objs.size + 1))) (s.heap.objs.size + 1) (.ins C s.heap.objs.size []))
  { s with heap:=(s.heap.push emptyDict).push (instObj C s.heap.objs.size) }:=by
 have e1:(s.heap.push emptyDict).get? s.heap.objs.size=some emptyDict:=get?_push_size s.heap rfl;have e2:((s.heap.push emptyDict).push (instObj C s.heap.objs.size)).get? (s.heap.objs.size + 1)=some (instObj C s.heap.objs.size):=by
  have:=get?_push_size (s.heap.push emptyDict) (o:=instObj C s.heap.objs.size) rfl;rwa [size_push] at this
 have e3:(s.heap.push emptyDict).Ns s.heap.objs.size (fun _=>none):=⟨emptyDict,#[],_,e1,rfl,(fun e he=>absurd he (by simp)),fun _=>rfl⟩;have I1:=I.laid (a:=s.heap.objs.size) (o:=.own (s.heap.objs.size + 1)) (h':=s.heap.push emptyDict) (t':=s.toks) (fun b u q=>get?_push_of_some _ q) (Nat.le_refl _) ⟨_,e1⟩;refine I1.laid (a:=s.heap.objs.size + 1) (o:=.ins C s.heap.objs.size []) (t':=s.toks) (fun b u q=>get?_push_of_some _ q) (Nat.le_of_eq (size_push _ _)) ?_;have ne:s.heap.objs.size≠s.heap.objs.size + 1:=Nat.ne_of_lt (Nat.lt_succ_self _);refine ⟨by rw [Je ne,J1],Nat.zero_le _,ne,e2,fun _=>none,(Heap.Ns1.of_empty e3).at fun o q=>get?_push_of_some _ q,fun _=>True.intro,fun y hy=>absurd rfl hy⟩
theorem attr_of {prog:Program} {w:World} {env:Env} {e:Expr} {f:Str} {pos:Pos} {s:Shared} {Q:Value->Shared->Prop} (hb:attributeBase e f env (eval e env)=eval e env)
  (h:wpAny (model prog w) A (eval e env) (fun o s₁=>wpAny (model prog w) A (getAttr o f true) Q E s₁) E s):wpAny (model prog w) A (eval (.Attribute e f pos) env) Q E s :=
 Attribute_any_ h (by rw [arm_eval_Attribute,hb])
end
def tFld (K:PySem.W.Frag) (ta:TE) (f:Str):TE:=fun σ H Q=>ta σ H fun x H1=>∃ a C dx fs v,x=.ref a/\H1 a=some (.ins C dx fs)/\Cls K C/\NoAttr K C f/\fs.lookup f=some v/\Q v H1
def sFld (K:PySem.W.Frag) (ta tv:TE) (f:Str):TS:=fun D σ H=>tv σ H fun y H1=>ta σ H1 fun x H2=>∃ a C dx fs,x=.ref a/\H2 a=some (.ins C dx fs)/\Cls K C/\NoAttr K C f/\fs.length < 1000/\
 D.nx σ (upd H2 a (.ins C dx (putF f y fs)))
section
variable {X:Cx} {o e value:Expr} {f:Str} {pos pos' tpos:Pos} {ta tv:TE}
theorem Jq (he:PE X e ta) (hb:attributeBase e f X.env (eval e X.env)=eval e X.env):PE X (.Attribute e f pos) (tFld X.K ta f):=by
 intro pins s σ H Q I h;refine attr_of hb (thn (he pins s σ H _ I h) fun u s1 h9=>?_);obtain ⟨x,H1,I1,rx,a,C,dx,fs,v,ex,ea,c,n,l,q⟩:=h9;subst ex;obtain rfl:u=Value.ref a:=rx;exact getattr_ok I1 ea c n l fun u' s2 I2 ru=>⟨v,H1,I2,ru,q⟩
theorem J3z (ha:PE X o ta) (hv:PE X value tv) (hs:swapsWith value (some (.Attribute o f pos')) pos.line X.env=pure false):PS X (.Assign [.Attribute o f pos'] value pos) (sFld X.K ta tv f):=by
 intro pins s σ H D I h;refine plainObj_wpAny_Assign_Attribute (thn (hv pins s σ H _ I h) fun u s1 h9=>?_) hs;obtain ⟨y,H1,I1,ry,q⟩:=h9;refine thn (ha pins s1 σ H1 _ I1 q) fun ov s2 h9=>?_;obtain ⟨x,H2,I2,rx,a,C,dx,fs,ex,ea,c,n,l,q2⟩:=h9;subst ex;obtain rfl:ov=Value.ref a:=rx;exact setattr_ok I2 ea c n l ry fun s3 I3=>⟨σ,_,I3,q2⟩
end
section
variable {X:Cx} {pins:List (Addr × Obj)} {σ:St} {H:Hp} {s:Shared} {A:Around} {E:Value->Shared->Prop} {Q:Value->Shared->Prop} {c:Value} {b:Bool}
inductive TyOf (K:PySem.W.Frag) (H:Hp):V->Value->Prop where
 | non:TyOf K H .non (.type "NoneType")
 | bl (x:Bool):TyOf K H (.bl x) (.type "bool")
 | int (i:Int):TyOf K H (.int i) (.type "int")
 | str (x:Str):TyOf K H (.str x) (.type "str")
 | flt (x:UInt64):TyOf K H (.flt x) (.type "float")
 | lst {a:Addr} {xs:List V} (e:H a=some (.lst xs)):TyOf K H (.ref a) (.type "list")
 | frz {a:Addr} {o:Obj} {xs:List V} (e:H a=some (.frz o (.lst xs))):TyOf K H (.ref a) (.type "list")
 | tup {a:Addr} {xs:List V} (e:H a=some (.tup xs)):TyOf K H (.ref a) (.type "tuple")
 | dK {a:Addr} {kvs:List (Key × V)} (e:H a=some (.dK kvs)):TyOf K H (.ref a) (.type "dict")
 | dT {a:Addr} {kvs:List (List Key × V)} (e:H a=some (.dT kvs)):TyOf K H (.ref a) (.type "dict")
 | ins {a C dx:Addr} {fs:List (Str × V)} (e:H a=some (.ins C dx fs)) (cl:Cls K C) (ha:PySem.W.findIn K (.ref C) "__class__"=some (some (.builtin "object.__class__")))
   (hn:specialIn K (.builtin "object.__class__") "__get__"=some (some (.builtin "getset_descriptor.__get__"))) (htk:takesIn K (.builtin "object.__class__")=some true)
   (hm:PySem.W.mroIn K C (.type "object")=some true):TyOf K H (.ref a) (.ref C)
theorem isinst_ok {x:V} {u t:Value} (I:Inv X pins σ H s) (rx:RelV x u) (ty:TyOf X.K H x t) (e:kitOne X.K t c=some b) (h:∀ tk,Q (.bool b) { s with toks:=tk }) :
  wpAny (model X.prog X.w) A (call (.builtin "isinstance") [u,c]) Q E s:=by
 cases ty with
 | non=>cases (show u=Value.none from rx);exact kia_one PySem.W.kitx_none I.kIn True.intro e (fun z=>nomatch z) h
 | bl y=>cases (show u=Value.bool y from rx);exact kia_one PySem.W.kitx_bool I.kIn True.intro e (fun z=>nomatch z) h
 | int i=>obtain ⟨t,q⟩:=(show ∃ t,u=Value.int i t from rx);cases q;exact kia_one PySem.W.kitx_int I.kIn True.intro e (fun z=>nomatch z) h
 | str y=>obtain ⟨t,q⟩:=(show ∃ t,u=Value.str y t from rx);cases q;exact kia_one PySem.W.kitx_str I.kIn True.intro e (fun z=>nomatch z) h
 | flt y=>obtain ⟨t,q⟩:=(show ∃ t,u=Value.float y t from rx);cases q;exact kia_one PySem.W.kitx_float I.kIn True.intro e (fun z=>nomatch z) h
 | @lst a xs ea =>
  cases (show u=Value.ref a from rx);obtain ⟨_,_,n,_,h1⟩:=(show ObjOk X.prog X.w H s.heap a (.lst xs) from I.hok a _ ea);exact kia_one PySem.W.kitx_list I.kIn ⟨_,h1,rfl⟩ e (fun z=>nomatch z) h
 | @frz a ob xs ea =>
  cases (show u=Value.ref a from rx);obtain ⟨_,_,_,n,_,h1⟩:=(show ObjOk X.prog X.w H s.heap a (.frz ob (.lst xs)) from I.hok a _ ea);exact kia_one PySem.W.kitx_list I.kIn ⟨_,h1,rfl⟩ e (fun z=>nomatch z) h
 | @tup a xs ea =>
  cases (show u=Value.ref a from rx);obtain ⟨_,_,_,p⟩:=(show ObjOk X.prog X.w H s.heap a (.tup xs) from I.hok a _ ea);obtain ⟨o,h1,h2,_⟩:=p;exact kia_one PySem.W.kitx_tuple I.kIn ⟨o,h1,h2.1⟩ e (fun z=>nomatch z) h
 | @dK a kvs ea =>
  cases (show u=Value.ref a from rx);obtain ⟨_,_,vs,_,p⟩:=(show ObjOk X.prog X.w H s.heap a (.dK kvs) from I.hok a _ ea);obtain ⟨o,es,ep,h1,h2,_⟩:=p;exact kia_one PySem.W.kitx_dict I.kIn ⟨o,h1,h2.1⟩ e (fun z=>nomatch z) h
 | @dT a kvs ea =>
  cases (show u=Value.ref a from rx);obtain ⟨_,_,xs,_,o,es,ep,h1,h2,_⟩:=(show ObjOk X.prog X.w H s.heap a (.dT kvs) from I.hok a _ ea);exact kia_one PySem.W.kitx_dict I.kIn ⟨o,h1,h2.1⟩ e (fun z=>nomatch z) h
 | @ins a C dx fs ea cl ha hn htk hm =>
  cases (show u=Value.ref a from rx);obtain ⟨mA,O,_⟩:=ins_get I.hok ea;obtain ⟨od,J,_⟩:=O.look;exact kia_one (PySem.W.kitx_own (cl.get _) cl.hd ha hn htk hm) I.kIn J e (fun z=>nomatch z) h
end
end L2
namespace L2
open PySem PySem.Spec PyProof.Rows
structure Room (k:Nat) (A:Around):Prop where
 hd:A.handled=none
 dp:A.depth + 3 * k + 5 < recursionLimit
 un:A.units + 16 * k + 200 < cLine
theorem Room.mono {j k:Nat} {A:Around} (r:Room k A) (h:j<=k):Room j A:=⟨r.hd,by have:=r.dp;omega,by have:=r.un;omega⟩
theorem rm {j k:Nat} {A:Around} (r:Room k A) (h:j<=k:=by decide) : Room j A:=r.mono h
theorem Room.deeper {k:Nat} {A:Around} (r:Room (k + 1) A) (env:Env):Room k (A.deeper env) :=
 ⟨r.hd,by have:=r.dp;show A.depth + 1 + 3 * k + 5 < _;omega,by have:=r.un;show A.units + 3 + 16 * k + 200 < _;omega⟩
theorem Room.in1 {k:Nat} {A:Around} (r:Room (k + 1) A):Room k A.in1 :=
 ⟨r.hd,by have:=r.dp;show A.depth + 3 * k + 5 < _;omega,by have:=r.un;show A.units + 1 + 16 * k + 200 < _;omega⟩
theorem make_depth {A:Around} {C:Addr} {us:List Value} {kw:List (Str × Value)}:(A.under (.builtin "type.__call__" ⟨.ref C :: us,kw⟩)).depth=A.depth + 1:=by
 first | rfl | simp [Around.under,Code.weight,Code.isCreation,Code.isGuard,Code.isCaller,Code.frames,Code.isFrame,guardIds]
theorem make_units {A:Around} {C:Addr} {us:List Value} {kw:List (Str × Value)}:(A.under (.builtin "type.__call__" ⟨.ref C :: us,kw⟩)).units=A.units + 1:=by
 first | rfl | simp [Around.under,Code.cUnits,Code.frames,Code.isFrame]
theorem Room.make {k:Nat} {A:Around} (r:Room (k + 1) A) (C:Addr) (us:List Value) (kw:List (Str × Value)):Room k (A.under (.builtin "type.__call__" ⟨.ref C :: us,kw⟩)) :=
 ⟨r.hd,by have:=r.dp;rw [make_depth];omega,by have:=r.un;rw [make_units];omega⟩
theorem Room.depth {k:Nat} {A:Around} (r:Room k A):A.depth < recursionLimit:=by have:=r.dp;omega
theorem Room.units0 {k:Nat} {A:Around} (r:Room k A):A.units < cLine:=by have:=r.un;omega
def tNil:TA:=fun _ H Q=>Q [] H
def tCons (ta:TE) (tr:TA):TA:=fun σ H Q=>ta σ H fun x H1=>tr σ H1 fun xs H2=>Q (x :: xs) H2
section
variable {X:Cx} {e:Expr} {es:List Expr} {te:TE} {t:TA} {pos:Pos}
theorem J4:PA X [] tNil:=fun _ _ _ _ H Q I h=>Calls.spliced_nil ⟨[],H,I,.nil,h⟩
theorem J0 (ha:PE X e te) (hr:PA X es t) (hs:starEach (e :: es) X.env=(false,eval e X.env) :: starEach es X.env:=by rfl):PA X (e :: es) (tCons te t):=by
 intro pos pins s σ H Q I h;rw [hs];show wpAny _ _ (spliced ((false,eval e X.env) :: backTo pos (starEach es X.env))) _ _ s;refine Calls.spliced_cons (thn (ha pins s σ H _ I h) fun u s1 h9=>?_);obtain ⟨x,H1,I1,r1,q1⟩:=h9;exact thn (hr pos pins s1 σ H1 _ I1 q1) fun us s2 h9=>by obtain ⟨xs,H2,I2,r2,q2⟩:=h9;exact ⟨x :: xs,H2,I2,.cons r1 r2,q2⟩
def tTup (t:TA):TE:=fun σ H Q=>t σ H fun xs H1=>xs.length<=sizeLine/\∀ p,H1 p=none->Q (.ref p) (upd H1 p (.tup xs))
def tLst (t:TA):TE:=fun σ H Q=>t σ H fun xs H1=>xs.length<=sizeLine/\∀ p,H1 p=none->Q (.ref p) (upd H1 p (.lst xs))
theorem J1w {x1} (h:PA X es t):PE X (.Tuple es x1 pos) (tTup t):=by
 intro pins s σ H Q I hq;refine wpAny_Tuple_spliced (thn (h pos pins s σ H _ I hq) fun us s1 h9=>?_);obtain ⟨xs,H1,I1,r,z,q⟩:=h9;refine ⟨by rw [<- r.length];exact z,?_⟩;have hf:H1 s1.heap.objs.size=none:=I1.hok.fresh (Nat.le_refl _);refine ⟨.ref s1.heap.objs.size,upd H1 s1.heap.objs.size (.tup xs),I1.laid (t':=s1.toks) (fun b u e=>get?_push_of_some _ e) (Nat.le_refl _) ?_,rfl,q _ hf⟩;exact ⟨z,us,r,⟨_,get?_push_size _ rfl,⟨rfl,rfl⟩,_,rfl⟩⟩
theorem J14 (h:PA X es t):PE X (.List es pos) (tLst t):=by
 intro pins s σ H Q I hq;refine wpAny_List_spliced (thn (h pos pins s σ H _ I hq) fun us s1 h9=>?_);obtain ⟨xs,H1,I1,r,z,q⟩:=h9;refine ⟨by rw [<- r.length];exact z,?_⟩;have hf:H1 s1.heap.objs.size=none:=I1.hok.fresh (Nat.le_refl _);refine ⟨.ref s1.heap.objs.size,upd H1 s1.heap.objs.size (.lst xs),I1.laid (t':=s1.toks) (fun b u e=>get?_push_of_some _ e) (Nat.le_refl _) ?_,rfl,q _ hf⟩;exact ⟨z,us,0,r,get?_push_size _ rfl⟩
end
abbrev Sp:=List V->Hp->VK->XK->Prop
abbrev CXT:=List Env->Hp->Shared->XK->Value->Shared->Prop
structure Env0 (P:Program) (w:World) (K:PySem.W.Frag) (mg:Str->Option Value) (base:Heap) (A:Around) (outer:List Env) (s:Shared) (H:Hp):Prop where
 frames:A.frames=some outer
 mod:Mod K mg base
 bs:∀ b o,base.get? b=some o->s.heap.get? b=some o/\H b=none
 bsz:base.objs.size<=s.heap.objs.size
 funs:s.heap.FunFrames base outer
 frf:∀ b∈frs outer,H b=none
 hok:HOk P w H s.heap
 bare:AllBare s.gens
def CE (outer:List Env) (P:Program) (w:World) (H:Hp) (s:Shared) (Q:VK) (u:Value) (s':Shared):Prop :=
 ∃ v H',s'.os=s.os/\AllBare s'.gens/\Un (frs outer) [] H H' s.heap s'.heap/\HOk P w H' s'.heap/\RelV v u/\Q v H'
def CR (CX:CXT) (outer:List Env) (P:Program) (w:World) (H:Hp) (s:Shared) (Q:VK) (E:XK) (r:Result) (s':Shared):Prop :=
 match r with
 | .ok (.ret u)=>CE outer P w H s Q u s'
 | .ok _=>False
 | .error e=>CX outer H s E e s'
structure FnOk (P:Program) (w:World) (K:PySem.W.Frag) (mg:Str->Option Value) (base:Heap) (CX:CXT) (k:Nat) (f:Addr) (fd:FuncData) (ps:List Str) (sp:Sp):Prop where
 len:∀ vs H Q E,sp vs H Q E->vs.length=ps.length
 run:∀ (A:Around) (outer:List Env) (s:Shared) (H:Hp) (args:Args) (us:List Value) (vs:List V) (Q:VK) (E:XK),Room k A->Env0 P w K mg base A outer s H->BindsTo s fd args (ps.zip us)->Vals vs us->sp vs H Q E->
  codeAny (model P w) A (.call (.ref f) args) (CR CX outer P w H s Q E) s
theorem Env0.make {P:Program} {w:World} {K:PySem.W.Frag} {mg:Str->Option Value} {base:Heap} {A:Around} {outer:List Env} {s:Shared} {H:Hp} (e:Env0 P w K mg base A outer s H) (C:Addr) (us:List Value) (kw:List (Str × Value)) :
  Env0 P w K mg base (A.under (.builtin "type.__call__" ⟨.ref C :: us,kw⟩)) outer s H:=⟨by first | exact e.frames | (simpa [Around.under,Code.envs,Code.isFrame,pushEnvs] using e.frames),e.mod,e.bs,e.bsz,e.funs,e.frf,e.hok,e.bare⟩
theorem Env0.in1 {P:Program} {w:World} {K:PySem.W.Frag} {mg:Str->Option Value} {base:Heap} {A:Around} {outer:List Env} {s:Shared} {H:Hp} (e:Env0 P w K mg base A outer s H) :
  Env0 P w K mg base A.in1 outer s H:=⟨e.frames,e.mod,e.bs,e.bsz,e.funs,e.frf,e.hok,e.bare⟩
section
variable {X:Cx} {pins:List (Addr × Obj)} {σ:St} {H:Hp} {s s':Shared}
theorem Inv.env0 (I:Inv X pins σ H s):Env0 X.prog X.w X.K X.mg X.base X.A X.stack s H :=
 ⟨I.ok.frames,I.ok.mod,I.bs,Nat.le_trans I.ok.bsz I.sz,I.stack,I.stkFree,I.hok,I.bare⟩
theorem Inv.after {Q:VK} {u:Value} (I:Inv X pins σ H s) (h:CE X.stack X.prog X.w H s Q u s'):EP X pins σ Q u s':=by
 obtain ⟨v,H',os,bare,un,hok,r,q⟩:=h;obtain ⟨hh,g,d,t,os'⟩:=s';obtain rfl:os'=s.os:=os;exact ⟨v,H',I.call (h':=hh) (g':=g) (d':=d) (t':=t) (ch:=[]) un hok bare (fun b z=>absurd z (by simp)),r,q⟩
end
def tCall (sp:Sp) (dvs:List V) (E:XK) (t:TA):TE:=fun σ H Q=>t σ H fun vs H1=>sp (vs ++ dvs) H1 Q E
def tMake (C:Addr) (sp:Sp) (dvs:List V) (E:XK) (t:TA):TE:=fun σ H Q=>t σ H fun vs H1=>∀ x dx,H1 x=none->H1 dx=none->dx≠x->
 sp (.ref x :: (vs ++ dvs)) (upd (upd H1 dx (.own x)) x (.ins C dx [])) (fun v H2=>v=.non/\Q (.ref x) H2) E
def Binds (K:PySem.W.Frag) (fd:FuncData) (ps:List Str) (ds:List Value):Prop :=
 ∀ (s:Shared) (us:List Value),K.In s.heap->(us ++ ds).length=ps.length->BindsTo s fd ⟨us,[]⟩ (ps.zip (us ++ ds))
theorem Binds.all {K:PySem.W.Frag} {fd:FuncData} {ps:List Str} (h:∀ us:List Value,us.length=ps.length->bindArgs fd ⟨us,[]⟩=pure (ps.zip us)):Binds K fd ps []:=fun s us _ hl=>by
 rw [append_nil] at hl ⊢;exact .of_eq (h us hl)
def J3a (CX:CXT) (X:Cx) (E:XK):Prop:=∀ (pins:List (Addr × Obj)) (σ:St) (H:Hp) (s:Shared) (e:Value) (s':Shared),Inv X pins σ H s->CX X.stack H s E e s'->X.xe e s'
section
variable {X:Cx} {CX:CXT} {k:Nat} {f C:Addr} {fd:FuncData} {ps:List Str} {sp:Sp} {dvs:List V} {ds:List Value} {E:XK} {x m:Str} {p pos apos:Pos} {e o:Expr} {es:List Expr} {ta:TE} {t:TA}
theorem run_fn {pins:List (Addr × Obj)} {σ:St} {H:Hp} {s:Shared} {Q:VK} {us:List Value} {vs:List V} (F:FnOk X.prog X.w X.K X.mg X.base CX k f fd ps sp) (hr:Room k X.A) (hb:Binds X.K fd ps ds) (hd:Vals dvs ds) (hx:J3a CX X E)
  (I:Inv X pins σ H s) (r:Vals vs us) (h:sp (vs ++ dvs) H Q E):wpAny (model X.prog X.w) X.A (call (.ref f) us) (EP X pins σ Q) X.xe s:=by
 have r2:Vals (vs ++ dvs) (us ++ ds):=r.append hd;have hl:(us ++ ds).length=ps.length:=by rw [<- r2.length];exact F.len _ _ _ _ h
 refine wpAny_call (codeAny_mono (F.run X.A X.stack s H ⟨us,[]⟩ (us ++ ds) (vs ++ dvs) Q E hr I.env0 (hb s us I.kIn hl) r2 h) fun r s' hq=>?_)
 cases r with
 | error e=>exact hx pins σ H s e s' I hq
 | ok fl =>
  cases fl with
  | ret u=>exact I.after hq
  | next=>exact False.elim hq
  | brk=>exact False.elim hq
  | cont=>exact False.elim hq
theorem Jk (F:FnOk X.prog X.w X.K X.mg X.base CX k f fd ps sp) (hr:Room k X.A) (hg:Gl X x) (hm:X.mg x=some (.ref f)) (hk:keepIn X.K (.ref f)=true) (hb:Binds X.K fd ps ds) (hd:Vals dvs ds) (hx:J3a CX X E)
  (ha:PA X (e :: es) t) (hdb:(x == ("__debug__":Str))=false:=by decide) (he:starEach (e :: es) X.env=(false,eval e X.env) :: starEach es X.env:=by rfl) (hpl:(backTo pos (starEach es X.env)).any (·.1)=false:=by rfl) :
  PE X (.Call (.Name x p) (e :: es) [] pos) (tCall sp dvs E t):=by
 intro pins s σ H Q I h;refine wpAny_Call_Name_kw (J3p I hg hm ?_ hdb);refine callWith_K (h₀:=X.base) I.ok.mod.kin hk (thn (ha pos pins s σ H _ I h) fun us s1 h9=>?_) he hpl;obtain ⟨vs,H1,I1,r,q⟩:=h9;refine ⟨I1.kIn,?_⟩;exact run_fn F hr hb hd hx I1 r q
structure Mk (K:PySem.W.Frag) (C f:Addr):Prop where
 makes:makesIn K C=true
 init:PySem.W.findIn K (.ref C) "__init__"=some (some (.ref f))
 fn:isFn K (.ref f)=true
 kp:keepIn K (.ref C)=true
theorem run_make {pins:List (Addr × Obj)} {σ:St} {H:Hp} {s:Shared} {Q:VK} {us:List Value} {vs:List V} (M:Mk X.K C f) (F:FnOk X.prog X.w X.K X.mg X.base CX k f fd ps sp) (hr:Room (k + 1) X.A) (hb:Binds X.K fd ps ds) (hd:Vals dvs ds)
  (hx:J3a CX X E) (I:Inv X pins σ H s) (r:Vals vs us)
  (h:∀ x dx,H x=none->H dx=none->dx≠x->sp (.ref x :: (vs ++ dvs)) (upd (upd H dx (.own x)) x (.ins C dx [])) (fun v H2=>v=.non/\Q (.ref x) H2) E) :
  wpAny (model X.prog X.w) X.A (call (.ref C) us) (EP X pins σ Q) X.xe s:=by
 have hq:=h (s.heap.objs.size + 1) s.heap.objs.size (I.hok.fresh (Nat.le_succ _)) (I.hok.fresh (Nat.le_refl _)) (Nat.ne_of_lt (Nat.lt_succ_self _));have I2:=Inv.made (C:=C) I;have r2:Vals (V.ref (s.heap.objs.size + 1) :: (vs ++ dvs)) (Value.ref (s.heap.objs.size + 1) :: (us ++ ds)):=.cons rfl (r.append hd);have hl:(Value.ref (s.heap.objs.size + 1) :: us ++ ds).length=ps.length:=by
  have e:=r2.length;rw [F.len _ _ _ _ hq] at e;exact e.symm
 refine wpAny_call (make_map (f:=f) I.kIn M.makes M.init (beq_iff_eq.mp M.fn) (codeAny_mono (F.run _ X.stack _ _ ⟨Value.ref (s.heap.objs.size + 1) :: us,[]⟩ (Value.ref (s.heap.objs.size + 1) :: (us ++ ds)) _ _ E (hr.make C us [])
  (I2.env0.make C us []) (hb _ (Value.ref (s.heap.objs.size + 1) :: us) I2.kIn hl) r2 hq) fun r s' hq'=>?_))
 cases r with
 | error e=>exact hx pins σ _ _ e s' I2 hq'
 | ok fl =>
  cases fl with
  | ret u =>
   obtain ⟨v,H',I3,rv,ev,q3⟩:=I2.after hq';subst ev;exact ⟨rv,⟨V.ref (s.heap.objs.size + 1),H',I3,rfl,q3⟩⟩
  | next=>exact False.elim hq'
  | brk=>exact False.elim hq'
  | cont=>exact False.elim hq'
theorem J2j (M:Mk X.K C f) (F:FnOk X.prog X.w X.K X.mg X.base CX k f fd ps sp) (hr:Room (k + 1) X.A) (hg:Gl X x) (hm:X.mg x=some (.ref C)) (hb:Binds X.K fd ps ds) (hd:Vals dvs ds) (hx:J3a CX X E)
  (ha:PA X (e :: es) t) (hdb:(x == ("__debug__":Str))=false:=by decide) (he:starEach (e :: es) X.env=(false,eval e X.env) :: starEach es X.env:=by rfl) (hpl:(backTo pos (starEach es X.env)).any (·.1)=false:=by rfl) :
  PE X (.Call (.Name x p) (e :: es) [] pos) (tMake C sp dvs E t):=by
 intro pins s σ H Q I h;refine wpAny_Call_Name_kw (J3p I hg hm ?_ hdb);refine callWith_K (h₀:=X.base) I.ok.mod.kin M.kp (thn (ha pos pins s σ H _ I h) fun us s1 h9=>?_) he hpl;obtain ⟨vs,H1,I1,r,q⟩:=h9;refine ⟨I1.kIn,?_⟩;exact run_make M F hr hb hd hx I1 r q
end
structure FnScope (N P:List Str) (sc:Scope):Prop where
 kind:sc.kind=.function
 co:sc.isCoroutine=false
 gen:sc.isGenerator=false
 nd:N.Nodup
 pre:N.take P.length=P
 par:∀ x∈P,sc.names.lookup x=some .local\/sc.names.lookup x=some .cell
 nofree:∀ y∈sc.names,y.2≠.free
theorem fS {N P:List Str} {sc:Scope} (a:sc.kind=.function:=by rfl) (b:sc.isCoroutine=false:=by rfl) (c:sc.isGenerator=false:=by rfl) (d:N.Nodup:=by decide +kernel) (e:N.take P.length=P:=by rfl) (f:∀ x∈P,sc.names.lookup x=some .local\/sc.names.lookup x=some .cell:=by decide +kernel) (g:∀ y∈sc.names,y.2≠.free:=by decide +kernel) : FnScope N P sc:=⟨a,b,c,d,e,f,g⟩
theorem bindL_out {kindOf:Str->Option NameKind} {x:Str}:∀ {binds:List (Str × Value)} {m:Str->Option Value},(∀ v,(x,v) ∉ binds)->bindL kindOf binds m x=m x
 | [],_,_=>rfl
 | (n,v) :: r,m,h=>by
  unfold bindL;rw [bindL_out fun w hw=>h w (mem_cons_of_mem _ hw)];split
  ·have:x≠n:=by rintro rfl;exact h v mem_cons_self
   simp [this]
  ·rfl
theorem bindC_out {kindOf:Str->Option NameKind} {x:Str}:∀ {binds:List (Str × Value)} {m:Str->Option Value},(∀ v,(x,v) ∉ binds)->bindC kindOf binds m x=m x
 | [],_,_=>rfl
 | (n,v) :: r,m,h=>by
  unfold bindC;rw [bindC_out fun w hw=>h w (mem_cons_of_mem _ hw)];split
  ·rfl
  ·have:x≠n:=by rintro rfl;exact h v mem_cons_self
   simp [this]
theorem bindL_get {kindOf:Str->Option NameKind} {x:Str} {v:Value}:∀ {P:List Str} {vs:List Value} {i:Nat} {m:Str->Option Value},P.Nodup->P[i]?=some x->vs[i]?=some v->kindOf x=some .local->
  bindL kindOf (P.zip vs) m x=some v
 | [],_,_,_,_,h,_,_=>by simp at h
 | _ :: _,[],_,_,_,_,h,_=>by simp at h
 | p :: P,w :: vs,0,m,nd,h1,h2,hk=>by
  simp at h1 h2;subst h1;subst h2;show bindL kindOf ((p,w) :: P.zip vs) m p=_;unfold bindL;rw [bindL_out fun v hv=>(nodup_cons.mp nd).1 (List.of_mem_zip hv).1,if_pos hk];simp
 | p :: P,w :: vs,i + 1,m,nd,h1,h2,hk=>by
  show bindL kindOf ((p,w) :: P.zip vs) m x=_;unfold bindL;exact bindL_get (i:=i) (nodup_cons.mp nd).2 (by simpa using h1) (by simpa using h2) hk
theorem bindC_get {kindOf:Str->Option NameKind} {x:Str} {v:Value}:∀ {P:List Str} {vs:List Value} {i:Nat} {m:Str->Option Value},P.Nodup->P[i]?=some x->vs[i]?=some v->kindOf x≠some .local->
  bindC kindOf (P.zip vs) m x=some v
 | [],_,_,_,_,h,_,_=>by simp at h
 | _ :: _,[],_,_,_,_,h,_=>by simp at h
 | p :: P,w :: vs,0,m,nd,h1,h2,hk=>by
  simp at h1 h2;subst h1;subst h2;show bindC kindOf ((p,w) :: P.zip vs) m p=_;unfold bindC;rw [bindC_out fun v hv=>(nodup_cons.mp nd).1 (List.of_mem_zip hv).1,if_neg hk];simp
 | p :: P,w :: vs,i + 1,m,nd,h1,h2,hk=>by
  show bindC kindOf ((p,w) :: P.zip vs) m x=_;unfold bindC;exact bindC_get (i:=i) (nodup_cons.mp nd).2 (by simpa using h1) (by simpa using h2) hk
def start (N:List Str) (vs:List V):St:=vs.map some ++ List.replicate (N.length - vs.length) none
def cxOf (CX:CXT) (P:Program) (w:World) (K:PySem.W.Frag) (mg:Str->Option Value) (base:Heap) (N:List Str) (qual:Str) (scope:Scope) (f:Addr) (cd:Value) (A:Around) (outer:List Env) (s:Shared) (H:Hp) (E:XK):Cx where
 prog:=P
 w:=w
 K:=K
 mg:=mg
 base:=base
 A:=A.deeper (envOfC qual scope s.heap.objs.size f cd)
 N:=N
 s₀:=s
 H₀:=H
 env:=envOfC qual scope s.heap.objs.size f cd
 outer:=outer
 stack:=envOfC qual scope s.heap.objs.size f cd :: outer
 ex:=[]
 calm:=true
 fn:=fun _=>true
 pn:=[]
 xe:=fun e s'=>wpAny (model P w) (A.deeper (envOfC qual scope s.heap.objs.size f cd)) (leaving (envOfC qual scope s.heap.objs.size f cd) e) (fun _ s''=>CX outer H s E e s'') (fun e' s''=>CX outer H s E e' s'') s'
theorem cell_has {sc:Scope} {n:Nat} {x:Str} (h:sc.names.lookup x=some .cell):∃ c,(cellsFrom n sc.names []).lookup x=some c:=by
 have q:=PySem.W.cellsFrom_some sc.names n [] (.inl h);exact Option.isSome_iff_exists.mp q
theorem inv_start {CX:CXT} {P:Program} {w:World} {K:PySem.W.Frag} {mg:Str->Option Value} {base:Heap} {N ps:List Str} {qual:Str} {scope:Scope} {f:Addr} {cd:Value} {A:Around} {outer:List Env} {s s1:Shared} {H:Hp} {E:XK} {us:List Value} {vs:List V}
  (S:FnScope N ps scope) (hd:A.handled=none) (e0:Env0 P w K mg base A outer s H) (hl:vs.length=ps.length) (r:Vals vs us)
  (x:InCallC s s.heap.objs.size (bindL (envOfC qual scope s.heap.objs.size f cd).kindOf (ps.zip us) fun _=>none) (cellsFrom (s.heap.objs.size + 1) scope.names []) (bindC (envOfC qual scope s.heap.objs.size f cd).kindOf (ps.zip us) fun _=>none) s1) :
  Inv (cxOf CX P w K mg base N qual scope f cd A outer s H E) [] (start N vs) H s1:=by
 have hpl:ps.length<=N.length:=by have:=congrArg List.length S.pre;rw [length_take] at this;omega
 obtain ⟨h1,tk,rfl,hk⟩:=x.done;have noA:∀ b:Addr,b ∉ (cxOf CX P w K mg base N qual scope f cd A outer s H E).ex:=fun b z=>absurd (show b∈([]:List Addr) from z) (by simp);refine ⟨⟨e0.mod,S.kind,rfl,rfl,Nat.le_refl _,fun y z c h1 h2=>?_,fun y hy=>?_,fun y c _ h=>?_,fun _=>hd,Around.frames_deeper e0.frames,.inr ⟨rfl,rfl⟩,fun b z=>absurd z (noA b),e0.bs,e0.bsz,fun b _ _=>noA b,fun b z=>absurd z (noA b),e0.funs,e0.frf⟩,
  rfl,e0.bare,Un.kept hk,⟨_,x.toInCall.ns,fun i y v h1 h2 h3=>?_⟩,fun y c h=>⟨_,x.cell y c h⟩,e0.hok.fresh (Nat.le_refl _),fun y c h=>?_,fun p hp=>absurd (show p∈([]:List (Addr × Obj)) from hp) (by simp),e0.hok.kept hk,?_⟩
 ·exact name_of_addr x.apart (mem_of_lookup h1) (mem_of_lookup h2)
 ·have hy:scope.names.lookup y=some .cell\/scope.names.lookup y=some .free:=hy;rcases hy with hy | hy
  ·exact cell_has hy
  ·exact absurd rfl (S.nofree _ (mem_of_lookup hy))
 ·exact Nat.le_of_lt (x.above y c (mem_of_lookup h))
 ·have hi:i < vs.length:=by
   unfold start at h2;by_cases hi:i < vs.length
   ·exact hi
   ·rw [getElem?_append_right (by simpa using hi)] at h2;rw [List.getElem?_replicate] at h2;split at h2 <;> cases h2
  have ha:vs[i]?=some v:=by
   unfold start at h2;rw [getElem?_append_left (by simpa using hi),getElem?_map] at h2
   cases e:vs[i]? with
   | none=>rw [e] at h2;cases h2
   | some a=>rw [e] at h2;cases h2;rfl
  obtain ⟨u,hu,rv⟩:=r.get ha;have hp:ps[i]?=some y:=by
   rw [<- S.pre,List.getElem?_take_of_lt (by omega)];exact h1
  have ndP:ps.Nodup:=by rw [<- S.pre];exact S.nd.sublist (List.take_sublist _ _)
  refine ⟨u,rv,?_⟩;rcases S.par y (List.mem_of_getElem? hp) with k | k
  ·exact .inl ⟨k,bindL_get ndP hp hu k⟩
  ·obtain ⟨c,e⟩:=cell_has (n:=s.heap.objs.size + 1) k;refine .inr ⟨.inl k,c,e,?_⟩;have q:=x.cell y c e;rw [bindC_get ndP hp hu (by show scope.names.lookup y≠_;rw [k];decide)] at q;exact q
 ·exact e0.hok.fresh (Nat.le_of_lt (x.above y c (mem_of_lookup h)))
 ·unfold start;show _=N.length;rw [length_append,length_map,List.length_replicate];omega
theorem fn_of {CX:CXT} {P:Program} {w:World} {K:PySem.W.Frag} {mg:Str->Option Value} {base:Heap} {k:Nat} {f:Addr} {name qual:Str} {params:Arguments} {body:List Stmt} {scope:Scope} {dV kV doc pm cdv ct oc:Value} {an od:Option Addr}
  {osl:Array (Option Value)} {N ps:List Str} {sp:Sp} (lk:K.lookup f=some ⟨oc,od,.func (fnOf name qual params body scope dV kV doc pm an cdv ct),osl⟩) (hcd:codeIn K cdv qual=true) (S:FnScope N ps scope)
  (len:∀ vs H Q E,sp vs H Q E->vs.length=ps.length)
  (hbody:∀ (A:Around) (outer:List Env) (s:Shared) (H:Hp) (vs:List V) (Q:VK) (E:XK),Room k (A.deeper (envOfC qual scope s.heap.objs.size f cdv))->sp vs H Q E->
   ∃ t,PSs (cxOf CX P w K mg base N qual scope f cdv A outer s H E) body t/\t { nx:=fun _ H'=>Q .non H',rt:=Q } (start N vs) H) :
  FnOk P w K mg base CX (k + 1) f (fnOf name qual params body scope dV kV doc pm an cdv ct) ps sp:=by
 refine ⟨len,fun A outer s H args us vs Q E hr e0 hb r hsp=>?_⟩;have hl:=len _ _ _ _ hsp;have KX:K.In s.heap:=e0.mod.kin.keeps fun b o e=>(e0.bs b o e).1;have lim:s.heap.NoLimit:=e0.mod.nolimit.keeps fun b o e=>(e0.bs b o e).1;have hkind:∀ y∈ps.zip us,scope.names.lookup y.1=some .local\/(scope.names.lookup y.1=some .cell/\((cellsFrom (s.heap.objs.size + 1) scope.names []).lookup y.1).isSome=true):=fun h9 hy=>by
  obtain ⟨n,v⟩:=h9;rcases S.par n (List.of_mem_zip hy).1 with q | q
  ·exact .inl q
  ·exact .inr ⟨q,PySem.W.cellsFrom_some _ _ _ (.inl q)⟩
 refine codeAny_call_function hr.depth (KX _ _ lk) rfl S.co S.gen rfl (PySem.W.codeRec_of KX hcd) (hb _ _ _ _ ?_);refine wpAny_newFunctionEnv_cells S.kind hkind fun env he s1 x=>?_;subst he;refine ⟨lim.keeps x.toInCall.keep,codeAny_func ?_⟩;obtain ⟨t,ht,hq⟩:=hbody A outer s H vs Q E (hr.deeper _) hsp;have I:Inv (cxOf CX P w K mg base N qual scope f cdv A outer s H E) [] (start N vs) H s1:=inv_start S hr.hd e0 hl r x;refine wpAny_mono (ht [] s1 (start N vs) H _ I hq) (fun fl s' hs=>?_) fun e s' hs=>hs;have fin:∀ {σ':St} {H':Hp} {v:V} {u:Value},Inv (cxOf CX P w K mg base N qual scope f cdv A outer s H E) [] σ' H' s'->RelV v u->Q v H'->CE outer P w H s Q u s' :=
  fun {σ' H' v u} J rv q=>⟨v,H',J.os,J.bare,J.base,J.hok,rv,q⟩
 cases fl with
 | ret u =>
  obtain ⟨v,σ',H',J,rv,q⟩:=hs;exact fin J rv q
 | next =>
  obtain ⟨σ',H',J,q⟩:=hs;exact fin (v:=V.non) (u:=Value.none) J rfl q
 | brk =>
  obtain ⟨_,_,_,q⟩:=hs;exact False.elim q
 | cont =>
  obtain ⟨_,_,_,q⟩:=hs;exact False.elim q
end L2
namespace L2
open PySem PySem.Spec PyProof.Rows
section
variable {X:Cx} {x:Str} {p pos:Pos} {e:Expr} {es:List Expr} {t:TA} {id T:String} {r:List V->Hp->VK->Prop}
def tCB (r:List V->Hp->VK->Prop) (t:TA):TE:=fun σ H Q=>t σ H fun vs H1=>r vs H1 Q
theorem Jb (hc:CallR X (.builtin id) r) (hg:Gl X x) (hm:X.mg x=none) (hv:bootBuiltins x=some (.builtin id)) (ha:PA X (e :: es) t) (hn:x≠"__name__":=by decide) (hdb:(x == ("__debug__":Str))=false:=by decide)
  (he:starEach (e :: es) X.env=(false,eval e X.env) :: starEach es X.env:=by rfl) (hpl:(backTo pos (starEach es X.env)).any (·.1)=false:=by rfl):PE X (.Call (.Name x p) (e :: es) [] pos) (tCB r t):=by
 intro pins s σ H Q I h;refine wpAny_Call_Name_kw (J5m I hg hm hv ?_ hn hdb);exact PyProof.Rows.callWith_builtin1 (thn (ha pos pins s σ H _ I h) fun us s1 h9=>by obtain ⟨vs,H1,I1,r1,q1⟩:=h9;exact hc pins s1 σ H1 vs us Q I1 r1 q1) he hpl
theorem Jj (hc:CallR X (.type T) r) (hg:Gl X x) (hm:X.mg x=none) (hv:bootBuiltins x=some (.type T)) (ha:PA X (e :: es) t) (hn:x≠"__name__":=by decide) (hdb:(x == ("__debug__":Str))=false:=by decide)
  (he:starEach (e :: es) X.env=(false,eval e X.env) :: starEach es X.env:=by rfl) (hpl:(backTo pos (starEach es X.env)).any (·.1)=false:=by rfl):PE X (.Call (.Name x p) (e :: es) [] pos) (tCB r t):=by
 intro pins s σ H Q I h;refine wpAny_Call_Name_kw (J5m I hg hm hv ?_ hn hdb);exact callWith_type1 (thn (ha pos pins s σ H _ I h) fun us s1 h9=>by obtain ⟨vs,H1,I1,r1,q1⟩:=h9;exact hc pins s1 σ H1 vs us Q I1 r1 q1) he hpl
end
end L2
namespace HT
open PySem PyProof.Rows
section
variable {prog:Program} {w:World} {A:Around} {E:Value->Shared->Prop} {s:Shared}
theorem cat_tup {t b:Addr} {vs ws:List Value} {Q:Value->Shared->Prop} (ht:IsTup s.heap t vs.toArray) (hb:IsTup s.heap b ws.toArray) (hv:vs≠[])
  (h1:ws=[]->Q (.ref t) s) (h2:ws≠[]->Q (.ref s.heap.objs.size) { s with heap:=s.heap.push { cls:=.type "tuple",data:=.seq (vs ++ ws).toArray } })
  (hsz:vs.length + ws.length<=sizeLine):wpAny (model prog w) A (binaryOp .Add (.ref t) (.ref b)) Q E s:=by
 obtain ⟨⟨cls,dd,data,sl⟩,ho,hc,n,hd⟩:=id ht;obtain ⟨⟨cls2,dd2,data2,sl2⟩,ho2,hc2,n2,hd2⟩:=id hb;simp only at hc hd hc2 hd2;subst hc hd hc2 hd2;have e:vs.toArray ++ ws.toArray=(vs ++ ws).toArray:=by simp
 by_cases hw:ws=[]
 ·exact concat_meets ⟨_,ho,rfl⟩ ⟨_,ho2,rfl⟩ noFill_tuple_add seq_tuple_add PySem.F.slot_tuple_add PySem.F.entry_tuple_add (PySem.F.args_tuple_add_2 _ _)
   (tuple_addW1 t b vs.toArray ws.toArray n n2 dd dd2 sl sl2 (by simpa using hv) (by simp [hw])) ⟨ho,ho2,h1 hw⟩
 ·refine concat_meets ⟨_,ho,rfl⟩ ⟨_,ho2,rfl⟩ noFill_tuple_add seq_tuple_add PySem.F.slot_tuple_add PySem.F.entry_tuple_add (PySem.F.args_tuple_add_2 _ _)
   (tuple_addW2 t b vs.toArray ws.toArray n n2 dd dd2 sl sl2 (by simpa using hv) (by simpa using hw) (by rw [size_toArray,size_toArray];exact hsz)) ⟨ho,ho2,?_⟩
  rw [e];exact h2 hw
def sIx (n d:Nat):Option Int->Nat
 | none=>d
 | some v=>if v < 0 then (v + (n:Int)).toNat else min v.toNat n
theorem sIx_none (n d:Nat):sIx n d none=d:=rfl
theorem sIx_nat (n d k:Nat):sIx n d (some (k:Int))=min k n:=by
 show (if (k:Int) < 0 then ((k:Int) + (n:Int)).toNat else min (k:Int).toNat n)=min k n;rw [if_neg (by omega),Int.toNat_natCast]
theorem sIx_le (n d:Nat) (hd:d<=n) (o:Option Int):sIx n d o<=n:=by
 cases o with
 | none=>exact hd
 | some v =>
  show (if v < 0 then (v + (n:Int)).toNat else min v.toNat n)<=n;by_cases hv:v < 0
  ·rw [if_pos hv];omega
  ·rw [if_neg hv];exact Nat.min_le_right _ _
theorem clip_eq (v:Int) (n d:Nat):(if v < 0 then max (v + (n:Int)) 0 else min v (n:Int))=((sIx n d (some v):Nat):Int):=by
 show (if v < 0 then max (v + (n:Int)) 0 else min v (n:Int))=(((if v < 0 then (v + (n:Int)).toNat else min v.toNat n):Nat):Int);by_cases hv:v < 0
 ·simp only [if_pos hv];omega
 ·simp only [if_neg hv];omega
theorem adjust_gen (lo hi:Option Int) (n:Nat):Builtin.Slice.sliceAdjust lo hi 1 (n:Int)=(((sIx n 0 lo:Nat):Int),((sIx n n hi:Nat):Int)):=by
 have h1:¬ ((1:Int) < 0):=by omega
 unfold Builtin.Slice.sliceAdjust;simp only [h1,if_false];refine Prod.ext ?_ ?_
 ·cases lo with
  | none=>rfl
  | some v=>exact clip_eq v n 0
 ·cases hi with
  | none=>rfl
  | some v=>exact clip_eq v n n
theorem places_gen (i j:Nat):Builtin.Slice.slicePlaces (i:Int) (j:Int) 1=j - i:=by
 unfold Builtin.Slice.slicePlaces;have h1:(1:Int) > 0:=by omega
 simp only [h1,if_true,Int.ediv_one];split <;> omega
theorem J4l {v:Value} {o:Option Int} {Q:Option Int->Shared->Prop} (p:IsPart v o) (h:Q o s):wpAny (model prog w) A (Builtin.Slice.slicePartIndex v) Q E s:=by
 cases p with
 | none=>exact slicePart_none h
 | int i t=>exact slicePart_int h
theorem J1m {sl:Addr} {vl vu:Value} {lo hi:Option Int} {n:Nat} {Q:Int × Int × Nat->Shared->Prop} (hs:s.heap.IsSliceOf sl vl vu .none) (pl:IsPart vl lo) (pu:IsPart vu hi)
  (h:Q (((sIx n 0 lo:Nat):Int),1,sIx n n hi - sIx n 0 lo) s):wpAny (model prog w) A (Builtin.Slice.sliceApplied (.ref sl) (pure (n:Int))) Q E s:=by
 obtain ⟨os,hos,hcs,hds⟩:=id hs;unfold Builtin.Slice.sliceApplied Builtin.Slice.sliceFields;refine wpAny_bind (wpAny_bind (wpAny_field hos hds (x:=vl) rfl (wpAny_bind (wpAny_field hos hds (x:=vu) rfl (wpAny_bind (wpAny_field hos hds (x:=.none) rfl (wpAny_pure ?_)))))));refine wpAny_bind (slicePart_none ?_);show wpAny _ _ (if ((1:Int) == 0)=true then _ else _) _ _ s;rw [if_neg (by decide)];refine wpAny_bind (J4l pl (wpAny_bind (J4l pu (wpAny_bind (wpAny_pure ?_)))));show wpAny _ _ (match Builtin.Slice.sliceAdjust lo hi 1 (n:Int) with | (lo,hi)=>pure (lo,(1:Int),Builtin.Slice.slicePlaces lo hi 1)) _ _ s;rw [adjust_gen lo hi n];show wpAny _ _ (pure (((sIx n 0 lo:Nat):Int),(1:Int),Builtin.Slice.slicePlaces ((sIx n 0 lo:Nat):Int) ((sIx n n hi:Nat):Int) 1)) _ _ s;rw [places_gen];exact wpAny_pure h
theorem pick_gen (xs:Array Value) (i k:Nat):((List.range k).filterMap fun (m:Nat)=>xs[((i:Int) + (m:Int) * 1).toNat]?).toArray=((xs.toList.drop i).take k).toArray:=by
 have e:(fun (m:Nat)=>xs[((i:Int) + (m:Int) * 1).toNat]?)=fun m=>xs[i + m]?:=by
  funext m
  have:((i:Int) + (m:Int) * 1).toNat=i + m:=by omega
  rw [this]
 rw [e];have:=pick_run xs i k;rw [List.filterMap_map] at this;have e2:((fun x=>xs[x]?) ∘ fun x=>i + x)=fun m=>xs[i + m]?:=rfl;rw [e2] at this;rw [this]
theorem getItem_tuple_cut {t sl:Addr} {items:Array Value} {vl vu:Value} {lo hi:Option Int} {Q:Value->Shared->Prop} (ht:IsTup s.heap t items) (hs:s.heap.IsSliceOf sl vl vu .none) (pl:IsPart vl lo) (pu:IsPart vu hi)
  (hw:¬ (sIx items.size 0 lo=0/\sIx items.size items.size hi=items.size))
  (h:Q (.ref s.heap.objs.size) { s with heap:=s.heap.push { cls:=.type "tuple",data:=.seq ((items.toList.drop (sIx items.size 0 lo)).take (sIx items.size items.size hi - sIx items.size 0 lo)).toArray } })
  (hsz:items.size<=sizeLine):wpAny (model prog w) A (getItem (.ref t) (.ref sl)) Q E s:=by
 have htake:sizeOk (.seq ((items.toList.drop (sIx items.size 0 lo)).take (sIx items.size items.size hi - sIx items.size 0 lo)).toArray):=by
  show ((items.toList.drop (sIx items.size 0 lo)).take (sIx items.size items.size hi - sIx items.size 0 lo)).toArray.size<=sizeLine;rw [size_toArray,length_take,length_drop,length_toList];omega
 have hj:sIx items.size items.size hi<=items.size:=sIx_le _ _ (Nat.le_refl _) hi;obtain ⟨os,hos,hcs,hds⟩:=id hs;have hTs:s.TypeIs (.ref sl) "slice":=⟨os,hos,hcs⟩;unfold getItem
 try with_reducible refine wpAny_holding ?_
 first | refine wpAny_bind (wpAny_pure ?_) | skip
 refine wpAny_bind (wpAny_sequenceKey ht.typeIs (by decide) ?_);refine wpAny_bind (wpAny_callSpecial?_slot (name:=Str.ofString "__getitem__") ht.typeIs PyProof.Rows.slot_tuple_getitem
  (wpAny_call_entry PyProof.Rows.slot_tuple_getitem ht.typeIs entry_tuple_getitem ?_ (args_tuple_getitem _ _)))
 show wpAny _ _ (Builtin.Tuple.tupleItemsOf (.ref t) >>= _) _ _ s;refine wpAny_bind (tupleItemsOf_ ht ?_);refine wpAny_bind (wpAny_typeOf hTs ?_);rw [if_pos (by decide)];refine wpAny_bind (J1m hs pl pu ?_);have hno:¬ ((((sIx items.size 0 lo:Nat):Int) == 0 && (1:Int) == 1 && (sIx items.size items.size hi - sIx items.size 0 lo) == items.size)=true):=by
  intro q;rw [Bool.and_eq_true,Bool.and_eq_true] at q;have q1:((sIx items.size 0 lo:Nat):Int)=0:=eq_of_beq q.1.1;have q2:sIx items.size items.size hi - sIx items.size 0 lo=items.size:=eq_of_beq q.2;exact hw ⟨by omega,by omega⟩
 show wpAny _ _ (if (((sIx items.size 0 lo:Nat):Int) == 0 && (1:Int) == 1 && (sIx items.size items.size hi - sIx items.size 0 lo) == items.size)=true then _ else _) _ _ s;rw [if_neg hno,pick_gen]
 first
  | exact wpAny_bind (m:=Builtin.Tuple.tupleExact _) (wpAny_newObj_type (wpAny_pure ⟨_,rfl,wpAny_pure h⟩) htake)
  | exact wpAny_bind (m:=Builtin.Tuple.tupleExact _) (wpAny_newObj_type (wpAny_bind (wpAny_pure (wpAny_pure ⟨_,rfl,wpAny_pure h⟩))) htake)
  | exact wpAny_bind (wpAny_bind (m:=Builtin.Tuple.tupleExact _) (wpAny_newObj_type (wpAny_pure (wpAny_pure ⟨_,rfl,wpAny_pure h⟩)) htake))
  | exact wpAny_bind (wpAny_bind (m:=Builtin.Tuple.tupleExact _) (wpAny_newObj_type (wpAny_pure ⟨_,rfl,wpAny_pure h⟩) htake))
end
end HT
namespace L2
open PySem PySem.Spec PyProof.Rows
abbrev TO:=St->Hp->(Option Int->Hp->Prop)->Prop
def PO (X:Cx) (e:Option Expr) (t:TO):Prop :=
 ∀ (pins:List (Addr × Obj)) (s:Shared) (σ:St) (H:Hp) (Q:Option Int->Hp->Prop),Inv X pins σ H s->t σ H Q->
  wpAny (model X.prog X.w) X.A (evalPart e X.env) (fun u s'=>∃ o H',Inv X pins σ H' s'/\IsPart u o/\Q o H') X.xe s
def tNoPart:TO:=fun _ H Q=>Q none H
def tPart (t:TE):TO:=fun σ H Q=>t σ H fun x H1=>∃ i,x=.int i/\Q (some i) H1
theorem J1g {ns:List Int}:∀ {us:List Value},Vals (ns.map V.int) us->IntsAre us ns:=by
 induction ns with
 | nil=>intro us r;rw [map_nil] at r;cases r;exact .nil
 | cons n ns ih =>
  intro us r;rw [map_cons] at r
  cases r with
  | cons r1 r2 =>
   obtain ⟨t,e⟩:=r1;subst e;exact .cons n t (ih r2)
section
variable {X:Cx} {e:Expr} {te:TE} {lo hi:Option Expr} {tl th:TO} {pos p2:Pos}
theorem Jz:PO X none tNoPart:=by
 intro pins s σ H Q I h;rw [evalPart_none];exact wpAny_pure ⟨none,H,I,.none,h⟩
theorem Js (h:PE X e te):PO X (some e) (tPart te):=by
 intro pins s σ H Q I hw;rw [evalPart_some];refine thn (h pins s σ H _ I hw) fun u s1 h9=>?_;obtain ⟨x,H1,I1,r1,q1⟩:=h9;obtain ⟨i,rfl,q⟩:=q1;obtain ⟨t,rfl⟩:=r1;exact ⟨some i,H1,I1,.int i t,q⟩
def SlR (X:Cx) (r:V->Option Int->Option Int->Hp->VK->Prop):Prop :=
 ∀ (pins:List (Addr × Obj)) (s:Shared) (σ:St) (H:Hp) (x:V) (v vl vu:Value) (lo hi:Option Int) (sl:Addr) (Q:VK),Inv X pins σ H s->RelV x v->s.heap.IsSliceOf sl vl vu .none->IsPart vl lo->IsPart vu hi->r x lo hi H Q->
  ∃ T id,typeLookup (.type T) "__getitem__"=pure (some (.builtin id))/\s.TypeIs v T/\wpAny (model X.prog X.w) X.A (getItem v (.ref sl)) (EP X pins σ Q) X.xe s
def tSl (r:V->Option Int->Option Int->Hp->VK->Prop) (te:TE) (tl th:TO):TE:=fun σ H Q=>te σ H fun x H1=>tl σ H1 fun l H2=>th σ H2 fun u H3=>r x l u H3 Q
theorem Jo {r:V->Option Int->Option Int->Hp->VK->Prop} (hr:SlR X r) (he:PE X e te) (hl:PO X lo tl) (hu:PO X hi th):PE X (.Subscript e (.Slice lo hi none p2) pos) (tSl r te tl th):=by
 intro pins s σ H Q I h;refine Subscript_ (thn (he pins s σ H _ I h) fun v s1 h9=>?_);obtain ⟨x,H1,I1,r1,q1⟩:=h9;refine wpAny_Slice (thn (hl pins s1 σ H1 _ I1 q1) fun vl s2 h9=>?_);obtain ⟨l,H2,I2,pl,q2⟩:=h9;refine thn (hu pins s2 σ H2 _ I2 q2) fun vu s3 h9=>?_;obtain ⟨u,H3,I3,pu,q3⟩:=h9;rw [evalPart_none];refine wpAny_pure ?_;have I4:Inv X pins σ H3 { s3 with heap:=s3.heap.push { cls:=.type "slice",data:=.fields #[vl,vu,.none] } }:=I3.kept (t':=s3.toks) fun b ob q=>get?_push_of_some _ q;obtain ⟨T,id,hT,ht,hg⟩:=hr pins { s3 with heap:=s3.heap.push { cls:=.type "slice",data:=.fields #[vl,vu,.none] } } σ H3 x v vl vu l u s3.heap.objs.size Q I4 r1 (Heap.IsSliceOf.new ..) pl pu q3;show wpAny (model X.prog X.w) X.A (subscriptTail e (.Slice lo hi none p2) v (.ref s3.heap.objs.size)) (EP X pins σ Q) X.xe { s3 with heap:=s3.heap.push { cls:=.type "slice",data:=.fields #[vl,vu,.none] } };exact tail_any (ops:=[.ref s3.heap.objs.size,v]) ht hT hg (by with_unfolding_all rfl)
def cutV (xs:List V) (lo hi:Option Int):List V:=(xs.drop (HT.sIx xs.length 0 lo)).take (HT.sIx xs.length xs.length hi - HT.sIx xs.length 0 lo)
theorem J3r (xs:List V) (lo hi:Option Int):(cutV xs lo hi).length<=xs.length:=by
 unfold cutV;rw [length_take,length_drop];omega
def rSlT (K:PySem.W.Frag):V->Option Int->Option Int->Hp->VK->Prop:=fun x lo hi H Q=>∃ a xs,x=.ref a/\SqT K H a xs/\
 ¬ (HT.sIx xs.length 0 lo=0/\HT.sIx xs.length xs.length hi=xs.length)/\∀ p,H p=none->Q (.ref p) (upd H p (.tup (cutV xs lo hi)))
theorem sl_tup:SlR X (rSlT X.K):=by
 intro pins s σ H x v vl vu lo hi sl Q I rx hs pl pu h;obtain ⟨a,xs,rfl,hx,hw,q⟩:=h;cases rx;obtain ⟨its,r,ht,hz⟩:=I.tuple hx;have hlen:its.toArray.size=xs.length:=by rw [size_toArray];exact r.length.symm
 refine ⟨"tuple",_,PyProof.Rows.slot_tuple_getitem.lookup,ht.typeIs,?_⟩;refine HT.getItem_tuple_cut ht hs pl pu (by rw [hlen];exact hw) ?_ (by rw [hlen];exact hz);rw [hlen];refine ⟨.ref s.heap.objs.size,_,I.laid (t':=s.toks) (o:=.tup (cutV xs lo hi)) (fun b ob q=>get?_push_of_some _ q) (Nat.le_refl _) ?_,rfl,q _ (I.hok.fresh (Nat.le_refl _))⟩;exact ⟨Nat.le_trans (J3r xs lo hi) hz,_,(r.drop (HT.sIx xs.length 0 lo)).take (HT.sIx xs.length xs.length hi - HT.sIx xs.length 0 lo),TupX.new _ _⟩
def rCatT (K:PySem.W.Frag):R2:=fun x y H Q=>∃ a b xs ys,x=.ref a/\y=.ref b/\SqT K H a xs/\SqT K H b ys/\xs≠[]/\xs.length + ys.length<=sizeLine/\
 (ys=[]->Q (.ref a) H)/\(ys≠[]->∀ p,H p=none->Q (.ref p) (upd H p (.tup (xs ++ ys))))
theorem Vals.nil_iff {xs:List V} {us:List Value} (r:Vals xs us):us=[]↔xs=[]:=by
 cases r with
 | nil=>simp
 | cons _ _=>simp
theorem op_catT:OpR X (binaryOp .Add) (rCatT X.K):=by
 intro pins s σ H x y v u Q I rx ry h;obtain ⟨a,b,xs,ys,rfl,rfl,ha,hb,hx,hz,q1,q2⟩:=h;cases rx;cases ry;obtain ⟨its,r1,p1,_⟩:=I.tuple ha;obtain ⟨its2,r2,p2,_⟩:=I.tuple hb;refine HT.cat_tup p1 p2 (fun z=>hx (r1.nil_iff.mp z)) (fun z=>⟨.ref a,H,I,rfl,q1 (r2.nil_iff.mp z)⟩) (fun z=>?_) (by rw [<- r1.length,<- r2.length];exact hz);refine ⟨.ref s.heap.objs.size,_,I.laid (t':=s.toks) (o:=.tup (xs ++ ys)) (fun b ob q=>get?_push_of_some _ q) (Nat.le_refl _) ?_,rfl,q2 (fun w=>z (r2.nil_iff.mpr w)) _ (I.hok.fresh (Nat.le_refl _))⟩;exact ⟨by rw [length_append];exact hz,_,r1.append r2,TupX.new _ _⟩
end
end L2
namespace L2
open PySem PySem.Spec PyProof.Rows
def ixN (n:Nat) (i:Int):Option Nat:=if 0<=i then (if i < n then some i.toNat else none) else if -(n:Int)<=i then some (i + n).toNat else none
def atI {α:Type} (xs:List α) (i:Int):Option α:=(ixN xs.length i).bind fun j=>xs[j]?
theorem ixN_seq {n:Nat} {i:Int} {j:Nat} (h:ixN n i=some j):seqIndex? i n=some j/\j < n/\-(n:Int)<=i/\i < n:=by
 unfold ixN at h;by_cases h0:0<=i
 ·rw [if_pos h0] at h;by_cases h1:i < n
  ·rw [if_pos h1] at h;have e:i.toNat=j:=Option.some.inj h;exact ⟨by rw [seqIndex_of h0 h1,e],by omega,by omega,h1⟩
  ·rw [if_neg h1] at h;cases h
 ·rw [if_neg h0] at h;by_cases h1:-(n:Int)<=i
  ·rw [if_pos h1] at h;have e:(i + n).toNat=j:=Option.some.inj h;exact ⟨by rw [seqIndex_neg (by omega) h1,e],by omega,h1,by omega⟩
  ·rw [if_neg h1] at h;cases h
theorem atI_get {α:Type} {xs:List α} {i:Int} {v:α} (h:atI xs i=some v):∃ j,seqIndex? i xs.length=some j/\xs[j]?=some v/\j < xs.length/\-(xs.length:Int)<=i/\i < xs.length:=by
 unfold atI at h
 cases e:ixN xs.length i with
 | none=>rw [e] at h;cases h
 | some j =>
  rw [e] at h;obtain ⟨h1,h2,h3,h4⟩:=ixN_seq e;exact ⟨j,h1,h,h2,h3,h4⟩
theorem Jd {α:Type} {xs:List α} {j:Nat} {v:α} (h:xs[j]?=some v):atI xs (j:Int)=some v:=by
 have hj:j < xs.length:=(List.getElem?_eq_some_iff.mp h).1;have e:ixN xs.length (j:Int)=some j:=by
  unfold ixN;rw [if_pos (by omega),if_pos (by omega)];simp
 unfold atI;rw [e];exact h
theorem atI_last {α:Type} (xs:List α) (v:α):atI (xs ++ [v]) (-1)=some v:=by
 have hl:(xs ++ [v]).length=xs.length + 1:=by simp
 have e:ixN (xs ++ [v]).length (-1)=some xs.length:=by
  unfold ixN;rw [hl,if_neg (by decide),if_pos (by omega)]
  congr 1
  omega
 unfold atI;rw [e];show (xs ++ [v])[xs.length]?=some v;simp
def PlainIx (b:Expr):Prop:=∀ o i,subscripted b false o i=operate [o,i] (getItem o i)
def IxR (X:Cx) (r:R2):Prop :=
 ∀ (value slice:Expr) (pins:List (Addr × Obj)) (s:Shared) (σ:St) (H:Hp) (x y:V) (v u:Value) (Q:VK),Inv X pins σ H s->RelV x v->RelV y u->r x y H Q->
  subscripted slice false v u=operate [v,u] (getItem v u)->wpAny (model X.prog X.w) X.A (subscriptTail value slice v u) (EP X pins σ Q) X.xe s
def MtR (X:Cx) (id:String) (r:V->List V->Hp->VK->Prop):Prop :=
 ∀ (pins:List (Addr × Obj)) (s:Shared) (σ:St) (H:Hp) (x:V) (xs:List V) (v:Value) (us:List Value) (Q:VK),Inv X pins σ H s->RelV x v->Vals xs us->r x xs H Q->
  wpAny (model X.prog X.w) X.A (call (.builtin id) (v :: us)) (EP X pins σ Q) X.xe s
section
variable {X:Cx} {a b:Expr} {ta tb:TE} {pos:Pos}
theorem pe_ix {r:R2} (hr:IxR X r) (ha:PE X a ta) (hb:PE X b tb) (hs:PlainIx b):PE X (.Subscript a b pos) (tOp r ta tb):=by
 intro pins s σ H Q I h;exact Subscript_ (binT ha hb I h fun v u s2 x y H2 I2 rx ry q=>hr a b pins s2 σ H2 x y v u Q I2 rx ry q (hs _ _))
def rIxL (K:PySem.W.Frag):R2:=fun x y H Q=>∃ p xs i v,x=.ref p/\y=.int i/\SqL K H p xs/\atI xs i=some v/\Q v H
def rIxT (K:PySem.W.Frag):R2:=fun x y H Q=>∃ p xs i v,x=.ref p/\y=.int i/\SqT K H p xs/\atI xs i=some v/\Q v H
def rIxS:R2:=fun x y H Q=>∃ z i c,x=.str z/\y=.int i/\z.length<=sizeLine/\atI z.cps.toList i=some c/\Q (.str ⟨#[c]⟩) H
theorem Jf:IxR X (rIxL X.K):=by
 intro value slice pins s σ H x y v u Q I rx ry h hs;obtain ⟨p,xs,i,z,rfl,rfl,hq,he,q⟩:=h;cases rx;obtain ⟨t,rfl⟩:=ry;obtain ⟨its,r,pl,hz⟩:=I.list hq;obtain ⟨j,h1,h2,h3,h4,h5⟩:=atI_get he;obtain ⟨w,ew,rw'⟩:=r.get h2;have hl:=r.length;have hn:=J5l;have fin:EP X pins σ Q w s:=⟨z,H,I,rw',q⟩;by_cases h0:0<=i
 ·have hj:i.toNat=j:=by
   rw [seqIndex_of h0 h5] at h1;exact Option.some.inj h1
  exact item_listR pl.isList h0 (by omega) (by rw [hj];simpa using ew) fin hs
 ·have hj:(i + (its.toArray.size:Int)).toNat=j:=by
   rw [seqIndex_neg (by omega) h4] at h1;rw [size_toArray,<- hl];exact Option.some.inj h1
  exact subscriptTail_builtinR (x:=w) pl.isList.typeIs slot_list_getitem.lookup
   (wpAny_getItem_list_neg (Q:=fun r s'=>r=w/\EP X pins σ Q r s') pl.isList (by omega) (by rw [size_toArray] <;> omega) (by omega) (by rw [hj];simpa using ew) ⟨rfl,fin⟩) hs
theorem J1z:IxR X (rIxT X.K):=by
 intro value slice pins s σ H x y v u Q I rx ry h hs;obtain ⟨p,xs,i,z,rfl,rfl,hq,he,q⟩:=h;cases rx;obtain ⟨t,rfl⟩:=ry;obtain ⟨its,r,pl,hz⟩:=I.tuple hq;obtain ⟨j,h1,h2,h3,h4,h5⟩:=atI_get he;obtain ⟨w,ew,rw'⟩:=r.get h2;have hl:=r.length;have hn:=J5l;have fin:EP X pins σ Q w s:=⟨z,H,I,rw',q⟩;exact subscriptTail_builtinR (x:=w) pl.typeIs slot_tuple_getitem.lookup
  (getItem_tuple (j:=j) (Q:=fun r s'=>r=w/\EP X pins σ Q r s') pl (by omega) (by omega) (by rw [size_toArray,<- hl];exact h1) (by simpa using ew) ⟨rfl,fin⟩) hs
theorem ix_str:IxR X rIxS:=by
 intro value slice pins s σ H x y v u Q I rx ry h hs;obtain ⟨z,i,c,rfl,rfl,hz,he,q⟩:=h;obtain ⟨t,rfl⟩:=rx;obtain ⟨t',rfl⟩:=ry;obtain ⟨j,h1,h2,h3,h4,h5⟩:=atI_get he;have hl:z.cps.toList.length=z.length:=by simp [Str.length]
 rw [hl] at h1 h4 h5;have hn:=J5l;exact tail_any (typeIs_str s z t) slot_str_getitem.lookup (getItem_str (c:=c) (by
  have e1:decide (i < -(2 ^ 63:Int))=false:=decide_eq_false (by omega);have e2:decide (i>=2 ^ 63)=false:=decide_eq_false (by omega);rw [e1,e2,Bool.or_false]) (by rw [h1];simpa using h2) ⟨.str ⟨#[c]⟩,H,I.tok _,⟨_,rfl⟩,q⟩) hs
theorem mapSeq_set (its:List Value) (n j:Nat) (u:Value):Obj.mapSeq (·.setIfInBounds j u) { cls:=.type "list",data:=.seq its.toArray n }={ cls:=.type "list",data:=.seq (its.set j u).toArray n }:=by
 simp [Obj.mapSeq]
theorem Inv.lst {pins:List (Addr × Obj)} {σ:St} {H:Hp} {s:Shared} {p:Addr} {xs:List V} (I:Inv X pins σ H s) (h:H p=some (.lst xs)) :
  ∃ (its:List Value) (n:Nat),Vals xs its/\s.heap.get? p=some { cls:=.type "list",data:=.seq its.toArray n }/\xs.length<=sizeLine:=by
 obtain ⟨z,its,n,r,e⟩:=I.hok p _ h;exact ⟨its,n,r,e,z⟩
theorem Inv.lstUpd {pins:List (Addr × Obj)} {σ:St} {H:Hp} {s:Shared} {p:Addr} {xs ys:List V} {its its':List Value} {n n':Nat} {f:Obj->Obj} (I:Inv X pins σ H s) (h:H p=some (.lst xs))
  (ho:s.heap.get? p=some { cls:=.type "list",data:=.seq its.toArray n }) (hf:f { cls:=.type "list",data:=.seq its.toArray n }={ cls:=.type "list",data:=.seq its'.toArray n' }) (r:Vals ys its') (hz:ys.length<=sizeLine) (t:Nat) :
  Inv X pins σ (upd H p (.lst ys)) { s with heap:=s.heap.update p f,toks:=t }:=by
 have e:(s.heap.update p f).get? p=some { cls:=.type "list",data:=.seq its'.toArray n' }:=by
  rw [Heap.get?_update_self f ho (by rw [hf] <;> rfl),hf]
 refine I.write (x:=p) (e:=p) (by rw [h];trivial) (.inl rfl) (fun b u hb q=>(Heap.get?_update_other _ _ (Ne.symm hb)).trans q) ⟨_,e⟩ ?_;exact ⟨hz,its',n',r,e⟩
def rSetL:V->V->V->Hp->(Hp->Prop)->Prop:=fun o i v H Q=>∃ p xs k j,o=.ref p/\i=.int k/\H p=some (.lst xs)/\ixN xs.length k=some j/\Q (upd H p (.lst (xs.set j v)))
theorem J2c:PSet X rSetL:=by
 intro pins s σ H o i v ov iv u Q I ro ri rv h;obtain ⟨p,xs,k,j,rfl,rfl,hp,hj,q⟩:=h;cases ro;obtain ⟨t,rfl⟩:=ri;obtain ⟨its,n,r,ho,hz⟩:=I.lst hp;obtain ⟨h1,h2,h3,h4⟩:=ixN_seq hj;have hl:=r.length;have hn:=J5l;have I':Inv X pins σ (upd H p (.lst (xs.set j v))) { s with heap:=s.heap.update p (Obj.mapSeq (·.setIfInBounds j u)) } :=
  I.lstUpd hp ho (mapSeq_set its n j u) (r.set rv j) (by rw [length_set];exact hz) s.toks
 by_cases h0:0<=k
 ·have hk:k.toNat=j:=by
   rw [seqIndex_of h0 h4] at h1;exact Option.some.inj h1
  exact PySem.W.ki_setAt ho h0 (by omega) (by rw [size_toArray,<- hl];exact h4) (by rw [hk];exact ⟨_,I',q⟩)
 ·have hk:(k + (its.toArray.size:Int)).toNat=j:=by
   rw [seqIndex_neg (by omega) h3] at h1;rw [size_toArray,<- hl];exact Option.some.inj h1
  exact PySem.W.ki_setBack ho (by omega) (by rw [size_toArray,<- hl];exact h3) (by omega) (by rw [hk];exact ⟨_,I',q⟩)
theorem J57 (lo hi:Option Int) (n:Nat):(sliceBounds lo hi none n).1=((HT.sIx n 0 lo:Nat):Int)/\(sliceBounds lo hi none n).2.1=((HT.sIx n n hi:Nat):Int)/\(sliceBounds lo hi none n).2.2=1:=by
 refine ⟨?_,?_,rfl⟩
 ·cases lo with
  | none=>simp [sliceBounds,HT.sIx]
  | some i =>
   simp only [sliceBounds,HT.sIx,Option.getD_none,show (1:Int) > 0 by decide,if_true];by_cases h:i < 0
   ·simp only [h,if_true] <;> omega
   ·simp only [h,if_false] <;> omega
 ·cases hi with
  | none=>simp [sliceBounds,HT.sIx]
  | some i =>
   simp only [sliceBounds,HT.sIx,Option.getD_none,show (1:Int) > 0 by decide,if_true];by_cases h:i < 0
   ·simp only [h,if_true] <;> omega
   ·simp only [h,if_false] <;> omega
theorem J4k (its:List Value) (lo hi:Option Int):slicePick its.toArray lo hi none=((its.drop (HT.sIx its.length 0 lo)).take (HT.sIx its.length its.length hi - HT.sIx its.length 0 lo)).toArray:=by
 obtain ⟨h1,h2,h3⟩:=J57 lo hi its.toArray.size;unfold slicePick;rw [h1,h2,h3];simp only [sliceRange_one,pick_run,size_toArray] <;> rfl
def rSlL (K:PySem.W.Frag):V->Option Int->Option Int->Hp->VK->Prop:=fun x lo hi H Q=>∃ a xs,x=.ref a/\SqL K H a xs/\∀ p,H p=none->Q (.ref p) (upd H p (.lst (cutV xs lo hi)))
theorem J11:SlR X (rSlL X.K):=by
 intro pins s σ H x v vl vu lo hi sl Q I rx hs pl pu h;obtain ⟨a,xs,rfl,hx,q⟩:=h;cases rx;obtain ⟨its,r,ht,hz⟩:=I.list hx;have hlen:=r.length;refine ⟨"list",_,slot_list_getitem.lookup,ht.isList.typeIs,?_⟩;refine wpAny_getItem_list_slice ht.isList hs pl pu .none (by simp) ?_ (by rw [size_toArray] <;> omega);rw [J4k,<- hlen];refine ⟨.ref s.heap.objs.size,_,I.laid (t':=s.toks) (o:=.lst (cutV xs lo hi)) (fun b ob q=>get?_push_of_some _ q) (Nat.le_refl _) ?_,rfl,q _ (I.hok.fresh (Nat.le_refl _))⟩;exact ⟨Nat.le_trans (J3r xs lo hi) hz,_,0,(r.drop (HT.sIx xs.length 0 lo)).take (HT.sIx xs.length xs.length hi - HT.sIx xs.length 0 lo),get?_push_size _ rfl⟩
def flatV:V->Bool
 | .non=>true
 | .bl _=>true
 | .int _=>true
 | .str _=>true
 | _=>false
def eqV:V->V->Bool
 | .non,.non=>true
 | .bl a,.bl b=>a == b
 | .bl a,.int b=>(if a then 1 else 0) == b
 | .int a,.bl b=>a == (if b then 1 else 0)
 | .int a,.int b=>a == b
 | .str a,.str b=>a == b
 | _,_=>false
theorem eqAt_V {A:Around} {s:Shared} {y x:V} {u v:Value} (ry:RelV y u) (rx:RelV x v) (fy:flatV y=true) (fx:flatV x=true):SeqAt.EqAt A s u v (eqV y x):=by
 cases y with
 | non =>
  cases ry
  cases x with
  | non=>cases rx;exact SeqAt.EqAt.same _
  | bl b=>cases rx;exact SeqAt.EqAt.none_bool b
  | int b=>obtain ⟨t,rfl⟩:=rx;exact SeqAt.EqAt.none_int b t
  | str b=>obtain ⟨t,rfl⟩:=rx;exact SeqAt.EqAt.none_str b t
  | _=>exact absurd (show false=true from fx) Bool.false_ne_true
 | bl a =>
  cases ry
  cases x with
  | non=>cases rx;exact SeqAt.EqAt.bool_none a
  | bl b=>cases rx;exact SeqAt.EqAt.bool_bool a b
  | int b=>obtain ⟨t,rfl⟩:=rx;exact SeqAt.EqAt.bool_int a b t
  | str b=>obtain ⟨t,rfl⟩:=rx;exact SeqAt.EqAt.bool_str a b t
  | _=>exact absurd (show false=true from fx) Bool.false_ne_true
 | int a =>
  obtain ⟨t',rfl⟩:=ry
  cases x with
  | non=>cases rx;exact SeqAt.EqAt.int_none a t'
  | bl b=>cases rx;exact SeqAt.EqAt.int_bool a t' b
  | int b=>obtain ⟨t,rfl⟩:=rx;exact SeqAt.EqAt.int_int a t' b t
  | str b=>obtain ⟨t,rfl⟩:=rx;exact SeqAt.EqAt.int_str a t' b t
  | _=>exact absurd (show false=true from fx) Bool.false_ne_true
 | str a =>
  obtain ⟨t',rfl⟩:=ry
  cases x with
  | non=>cases rx;exact SeqAt.EqAt.str_none a t'
  | bl b=>cases rx;exact SeqAt.EqAt.str_bool a t' b
  | int b=>obtain ⟨t,rfl⟩:=rx;exact SeqAt.EqAt.str_int a t' b t
  | str b=>obtain ⟨t,rfl⟩:=rx;exact SeqAt.EqAt.str_str a t' b t
  | _=>exact absurd (show false=true from fx) Bool.false_ne_true
 | _=>exact absurd (show false=true from fy) Bool.false_ne_true
def eqU (x:V) (u:Value):Bool:=match u with
 | .none=>eqV .non x
 | .bool b=>eqV (.bl b) x
 | .int i _=>eqV (.int i) x
 | .str z _=>eqV (.str z) x
 | _=>false
theorem eqU_of {x y:V} {u:Value} (r:RelV y u) (f:flatV y=true):eqU x u=eqV y x:=by
 cases y with
 | non=>cases r;rfl
 | bl b=>cases r;rfl
 | int i=>obtain ⟨t,rfl⟩:=r;rfl
 | str z=>obtain ⟨t,rfl⟩:=r;rfl
 | _=>exact absurd (show false=true from f) Bool.false_ne_true
theorem any_eqU {x:V}:∀ {xs:List V} {us:List Value},Vals xs us->xs.all flatV=true->us.any (eqU x)=xs.any fun y=>eqV y x
 | _,_,.nil,_=>rfl
 | y :: xs,u :: us,.cons r t,f=>by
  rw [List.all_cons,Bool.and_eq_true] at f;rw [List.any_cons,List.any_cons,eqU_of r f.1,any_eqU t f.2]
theorem J5k {A:Around} {s:Shared} {x:V} {v:Value} (rx:RelV x v) (fx:flatV x=true):∀ {xs:List V} {us:List Value},Vals xs us->xs.all flatV=true->∀ u∈us,SeqAt.EqAt A s u v (eqU x u)
 | _,_,.nil,_=>fun u hu=>by cases hu
 | y :: xs,u :: us,.cons r t,f=>fun u' hu=>by
  rw [List.all_cons,Bool.and_eq_true] at f;rcases mem_cons.mp hu with rfl | hu
  ·rw [eqU_of r f.1];exact eqAt_V r rx f.1 fx
  ·exact J5k rx fx t f.2 u' hu
def inV (x:V) (xs:List V):Bool:=xs.any fun y=>eqV y x
def rIn (K:PySem.W.Frag) (neg:Bool):R2:=fun x y H Q=>∃ p xs,y=.ref p/\(SqL K H p xs\/SqT K H p xs)/\flatV x=true/\xs.all flatV=true/\Q (.bl (if neg then !inV x xs else inV x xs)) H
theorem J41:OpR X (compareOp .In) (rIn X.K false):=by
 intro pins s σ H x y v u Q I rx ry h;obtain ⟨p,xs,rfl,hq,fx,fs,q⟩:=h;cases ry;rcases hq with hq | hq
 ·obtain ⟨its,r,pl,hz⟩:=I.list hq;refine SeqAt.in_listAt (eqU x) pl.isList (fun w hw=>J5k rx fx r fs w (by simpa using hw)) ⟨.bl _,H,I,rfl,?_⟩;rw [show its.toArray.any (eqU x)=its.any (eqU x) by simp,any_eqU r fs];exact q
 ·obtain ⟨its,r,pl,hz⟩:=I.tuple hq;refine SeqAt.in_tupleAt (eqU x) pl (fun w hw=>J5k rx fx r fs w (by simpa using hw)) ⟨.bl _,H,I,rfl,?_⟩;rw [show its.toArray.any (eqU x)=its.any (eqU x) by simp,any_eqU r fs];exact q
theorem J8:CallR X (.builtin "len") (fun xs H Q=>∃ p ys,xs=[.ref p]/\(SqL X.K H p ys\/SqT X.K H p ys)/\Q (.int ys.length) H):=by
 intro pins s σ H xs us Q I r h;obtain ⟨p,ys,rfl,hq,q⟩:=h;obtain ⟨u,rfl,rx⟩:=vals1 r;cases rx;have hn:=J5l;rcases hq with hq | hq
 ·obtain ⟨its,r',pl,hz⟩:=I.list hq;have hlen:=r'.length;exact Calls.call_len_list pl.isList (by simp only [size_toArray] <;> omega) ⟨.int ys.length,H,I.tok _,⟨s.toks + 1,by rw [size_toArray,hlen]⟩,q⟩
 ·obtain ⟨its,r',pl,hz⟩:=I.tuple hq;have hlen:=r'.length;exact len_tuple pl (by simp only [size_toArray] <;> omega) ⟨.int ys.length,H,I.tok _,⟨s.toks + 1,by rw [size_toArray,hlen]⟩,q⟩
theorem J5p:CallR X (.builtin "len") (fun xs H Q=>∃ z,xs=[.str z]/\z.length<=sizeLine/\Q (.int z.length) H):=by
 intro pins s σ H xs us Q I r h;obtain ⟨z,rfl,hz,q⟩:=h;obtain ⟨u,rfl,t,rfl⟩:=vals1 r;have hn:=J5l;exact len_str (by omega) ⟨.int z.length,H,I.tok _,⟨_,rfl⟩,q⟩
theorem J39:CallR X (.type "list") (fun xs H Q=>∃ p ys,xs=[.ref p]/\(SqL X.K H p ys\/SqT X.K H p ys)/\∀ l,H l=none->Q (.ref l) (upd H l (.lst ys))):=by
 intro pins s σ H xs us Q I r h;obtain ⟨p,ys,rfl,hq,q⟩:=h;obtain ⟨u,rfl,rx⟩:=vals1 r;cases rx;have fin:∀ (its:List Value),Vals ys its->ys.length<=sizeLine->∀ (h':Heap) (c':Nat),(∀ b o',s.heap.get? b=some o'->h'.get? b=some o')->
   h'.get? s.heap.objs.size=some { cls:=.type "list",dict:=none,data:=.seq its.toArray c',slots:=#[] }->EP X pins σ Q (.ref s.heap.objs.size) { s with heap:=h' }:=fun its r' hz h' c' kp e =>
  ⟨.ref s.heap.objs.size,_,I.laid (t':=s.toks) kp (Nat.le_refl _) (show ObjOk X.prog X.w _ h' _ (.lst ys) from ⟨hz,its,c',r',e⟩),rfl,q _ (I.hok.fresh (Nat.le_refl _))⟩
 rcases hq with hq | hq
 ·obtain ⟨its,r',pl,hz⟩:=I.list hq;have hlen:=r'.length;obtain ⟨o,ho,hc,n,hd⟩:=pl.isList;exact call_list_seq p (.inl rfl) ho hc hd (fun h' c' kp e=>fin its r' hz h' c' kp e) (by simp only [size_toArray] <;> omega)
 ·obtain ⟨its,r',pl,hz⟩:=I.tuple hq;have hlen:=r'.length;obtain ⟨o,ho,hc,n,hd⟩:=pl;exact call_list_seq p (.inr rfl) ho hc hd (fun h' c' kp e=>fin its r' hz h' c' kp e) (by simp only [size_toArray] <;> omega)
theorem J50:CallR X (.type "tuple") (fun xs H Q=>∃ p ys,xs=[.ref p]/\((SqL X.K H p ys/\∀ l,H l=none->Q (.ref l) (upd H l (.tup ys)))\/(SqT X.K H p ys/\Q (.ref p) H))):=by
 intro pins s σ H xs us Q I r h;obtain ⟨p,ys,rfl,h⟩:=h;obtain ⟨u,rfl,rx⟩:=vals1 r;cases rx;rcases h with ⟨hq,q⟩ | ⟨hq,q⟩
 ·obtain ⟨its,r',pl,hz⟩:=I.list hq;have hlen:=r'.length;refine call_tuple_list pl.isList (fun h' kp=>?_) (by simp only [size_toArray] <;> omega);have I1:Inv X pins σ H { s with heap:=h' }:=I.kept (t':=s.toks) kp;have I2:Inv X pins σ (upd H h'.objs.size (.tup ys)) { s with heap:=h'.push { cls:=.type "tuple",data:=.seq its.toArray } } :=
   I1.laid (t':=s.toks) (fun b o e=>get?_push_of_some _ e) (Nat.le_refl _) (show ObjOk X.prog X.w _ _ _ (.tup ys) from ⟨hz,its,r',TupX.new _ _⟩)
  exact ⟨.ref h'.objs.size,_,I2,rfl,q _ (I1.hok.fresh (Nat.le_refl _))⟩
 ·obtain ⟨its,r',pl,hz⟩:=I.tuple hq;exact call_tuple_same pl ⟨.ref p,H,I,rfl,q⟩
def tyV (K:PySem.W.Frag) (T:String) (x:V) (H:Hp):Prop:=match x with
 | .str _=>T="str"
 | .int _=>T="int"
 | .ref p=>(T="list"/\∃ xs,SqL K H p xs)\/(T="tuple"/\∃ o,K.lookup p=some o/\o.cls=.type "tuple"/\o.dict=none)\/
   (T="dict"/\((∃ kvs,H p=some (.dK kvs))\/∃ kvs,H p=some (.dT kvs)))\/(T="set"/\∃ S n,H p=some (.set S n))
 | _=>False
theorem tyV_is {pins:List (Addr × Obj)} {σ:St} {H:Hp} {s:Shared} {T:String} {x:V} {v:Value} (I:Inv X pins σ H s) (r:RelV x v) (ty:tyV X.K T x H) :
  s.TypeIs v T/\∀ a,v=.ref a->∃ ob,s.heap.get? a=some ob/\ob.dict=none:=by
 cases x with
 | str z =>
  obtain ⟨t,rfl⟩:=r;cases (show T="str" from ty);exact ⟨typeIs_str s z t,fun _ e=>nomatch e⟩
 | int i =>
  obtain ⟨t,rfl⟩:=r;cases (show T="int" from ty);exact ⟨typeIs_int s i t,fun _ e=>nomatch e⟩
 | ref p =>
  cases r;rcases ty with ⟨rfl,xs,hq⟩ | ⟨rfl,o,hk,hc,hd⟩ | ⟨rfl,hk⟩ | ⟨rfl,S,n,hk⟩
  ·obtain ⟨its,_,pl,_⟩:=I.list hq;refine ⟨pl.isList.typeIs,fun a e=>?_⟩;cases e;obtain ⟨o,n,e,c,hd,_⟩:=pl;exact ⟨o,e,hd⟩
  ·refine ⟨⟨o,I.kIn p o hk,hc⟩,fun a e=>?_⟩;cases e;exact ⟨o,I.kIn _ o hk,hd⟩
  ·have z:∃ o,s.heap.get? p=some o/\o.ExactDict:=by
    rcases hk with ⟨kvs,hk⟩ | ⟨kvs,hk⟩
    ·obtain ⟨_,_,_,_,o,_,_,e,ex,_⟩:=I.hok p _ hk;exact ⟨o,e,ex⟩
    ·obtain ⟨_,_,_,_,o,_,_,e,ex,_⟩:=I.hok p _ hk;exact ⟨o,e,ex⟩
   obtain ⟨o,e,ex⟩:=z;refine ⟨⟨o,e,ex.1⟩,fun a e2=>?_⟩;cases e2;exact ⟨o,e,ex.2.1⟩
  ·obtain ⟨o,_,_,_,e,ex,_⟩:=I.hok p _ hk;refine ⟨⟨o,e,ex.1⟩,fun a e2=>?_⟩;cases e2;exact ⟨o,e,ex.2.1⟩
 | _=>exact False.elim ty
def tBM0 (K:PySem.W.Frag) (T:String) (r:V->List V->Hp->VK->Prop) (to:TE):TE:=fun σ H Q=>to σ H fun x H1=>tyV K T x H1/\r x [] H1 Q
def tBM (K:PySem.W.Frag) (T:String) (r:V->List V->Hp->VK->Prop) (to:TE) (t:TA):TE:=fun σ H Q=>to σ H fun x H1=>tyV K T x H1/\t σ H1 fun xs H2=>r x xs H2 Q
variable {o e:Expr} {es:List Expr} {to:TE} {t:TA} {name:Str} {apos cpos:Pos} {T id:String} {r:V->List V->Hp->VK->Prop}
theorem pe_bm0 (pa:PlainAttrs T) (slot:Slot T name id) (hty:typeOf (.builtin id)=pure (.type "method_descriptor")) (hm:MtR X id r) (ho:PE X o to)
  (hbase:attributeBase o name X.env (eval o X.env)=eval o X.env:=by rfl) (hline:(apos.endLine == cpos.line)=true:=by rfl):PE X (.Call (.Attribute o name apos) [] [] cpos) (tBM0 X.K T r to):=by
 intro pins s σ H Q I h;refine wpAny_Call_method0_late hbase hline (thn (ho pins s σ H _ I h) fun v s1 h9=>?_);obtain ⟨x,H1,I1,r1,ty,q1⟩:=h9;obtain ⟨h1,h2⟩:=tyV_is I1 r1 ty;exact ⟨T,id,pa,slot,hty,h1,h2,Calls.callWith_builtin rfl (PySem.evalArgs_none (hm pins s1 σ H1 x [] v [] Q I1 r1 .nil q1))⟩
theorem pe_bm (pa:PlainAttrs T) (slot:Slot T name id) (hty:typeOf (.builtin id)=pure (.type "method_descriptor")) (hm:MtR X id r) (ho:PE X o to) (ha:PA X (e :: es) t)
  (hbase:attributeBase o name X.env (eval o X.env)=eval o X.env:=by rfl)
  (hfew:((backTo cpos (starEach (e :: es) X.env)).all (fun x=>!x.1) && (backToKw cpos (keywordEach [] X.env)).all (fun x=>x.1.isSome)
   && decide ((e :: es).length + ([]:List Keyword).length + (if ([]:List Keyword).isEmpty then 0 else 1) < 30))=true:=by rfl)
  (hline:(apos.endLine == cpos.line)=true:=by rfl) (hs:starEach (e :: es) X.env=(false,eval e X.env) :: starEach es X.env:=by rfl) (hplain:(backTo cpos (starEach es X.env)).any (·.1)=false:=by rfl) :
  PE X (.Call (.Attribute o name apos) (e :: es) [] cpos) (tBM X.K T r to t):=by
 intro pins s σ H Q I h;refine wpAny_Call_method_late hbase hfew hline rfl (thn (ho pins s σ H _ I h) fun v s1 h9=>?_);obtain ⟨x,H1,I1,r1,ty,q1⟩:=h9;obtain ⟨h1,h2⟩:=tyV_is I1 r1 ty;refine ⟨T,id,pa,slot,hty,h1,h2,?_⟩;have hA:=ha cpos pins s1 σ H1 _ I1 q1;rw [hs] at hA ⊢;refine Calls.callWith_builtin (by show (false || (backTo cpos (starEach es X.env)).any (·.1))=false;rw [hplain] <;> rfl) (Calls.evalArgs_plain ?_);exact thn hA fun us s2 h9=>by obtain ⟨vs,H2,I2,r2,q2⟩:=h9;exact hm pins s2 σ H2 x vs v us Q I2 r1 r2 q2
end
end L2
namespace L2
open PySem PySem.Spec PyProof.Rows
def MtM (X:Cx) (id:String) (r:V->List V->Hp->VK->Prop):Prop :=
 ∀ (pins:List (Addr × Obj)) (s:Shared) (σ:St) (H:Hp) (x:V) (xs:List V) (v:Value) (us:List Value) (Q:VK),Inv X pins σ H s->RelV x v->Vals xs us->r x xs H Q->
  wpAny (model X.prog X.w) X.A (call (.builtin id) (v :: us)) (EP X pins σ Q) X.xe s
theorem Vals.one:∀ {x:V} {us:List Value},Vals [x] us->∃ u,us=[u]/\RelV x u:=fun r=>vals1 r
theorem Vals.two:∀ {x y:V} {us:List Value},Vals [x,y] us->∃ u v,us=[u,v]/\RelV x u/\RelV y v:=fun r=>vals2 r
theorem Vals.zero:∀ {us:List Value},Vals [] us->us=[]
 | _,.nil=>rfl
theorem Vals.dropLast {xs:List V} {us:List Value} (h:Vals xs us):Vals xs.dropLast us.dropLast:=by
 induction h with
 | nil=>exact .nil
 | cons r t ih =>
  cases t with
  | nil=>exact .nil
  | cons q t'=>exact .cons r ih
theorem Vals.rep {xs:List V} {us:List Value} (h:Vals xs us):∀ k:Nat,Vals (List.replicate k xs).flatten (List.replicate k us).flatten
 | 0=>.nil
 | k + 1=>by
  rw [replicate_succ,replicate_succ,flatten_cons,flatten_cons];exact Vals.append h (Vals.rep h k)
theorem erase_last {α:Type} (l:List α):l.eraseIdx (l.length - 1)=l.dropLast:=by
 induction l with
 | nil=>rfl
 | cons a r ih =>
  cases r with
  | nil=>rfl
  | cons b r =>
   have e:(a :: b :: r).length - 1=((b :: r).length - 1) + 1:=by
    have h1:(a :: b :: r).length=r.length + 2:=rfl;have h2:(b :: r).length=r.length + 1:=rfl;omega
   rw [e,List.eraseIdx_cons_succ,ih]
   all_goals rfl
theorem J4c (its:List Value):∀ (k:Nat) (acc:List Value),
  foldl (fun x1 x2=>x1 ++ x2) acc.toArray (List.replicate k its.toArray)=(acc ++ (List.replicate k its).flatten).toArray
 | 0,acc=>by simp
 | k + 1,acc=>by
  have e:acc.toArray ++ its.toArray=(acc ++ its).toArray:=by simp
  have e2:(acc ++ its) ++ (List.replicate k its).flatten=acc ++ (List.replicate (k + 1) its).flatten:=by
   rw [replicate_succ,flatten_cons,List.append_assoc]
  rw [<- e2,<- J4c its k (acc ++ its),<- e,replicate_succ,List.foldl_cons]
section
variable {X:Cx} {pins:List (Addr × Obj)} {σ:St} {H:Hp} {s:Shared} {l b:Addr} {xs ys zs:List V}
theorem Inv.lset {its its':List Value} {n:Nat} {f:Array Value->Array Value} {t':Nat} (I:Inv X pins σ H s) (hH:H l=some (.lst xs))
  (e:s.heap.get? l=some { cls:=.type "list",data:=.seq its.toArray n }) (hf:f its.toArray=its'.toArray) (hv:Vals ys its') (hz:ys.length<=sizeLine) :
  Inv X pins σ (upd H l (.lst ys)) { s with heap:=s.heap.update l (Obj.mapSeq f),toks:=t' }:=by
 have q:=PySem.IsL.update e f;rw [hf] at q;refine I.write (x:=l) (e:=l) (by rw [hH];exact trivial) (.inl rfl) (fun b' u hb hu=>(Heap.get?_update_other s.heap (Obj.mapSeq f) (Ne.symm hb)).trans hu) ⟨_,q⟩ ?_;exact ⟨hz,its',_,hv,q⟩
theorem Inv.lnew {its:List Value} {t':Nat} (I:Inv X pins σ H s) (hv:Vals ys its) (hz:ys.length<=sizeLine) :
  Inv X pins σ (upd H s.heap.objs.size (.lst ys)) { s with heap:=s.heap.push { cls:=.type "list",data:=.seq its.toArray },toks:=t' } :=
 I.laid (fun _ _ q=>get?_push_of_some _ q) (Nat.le_refl _) ⟨hz,its,0,hv,get?_push_size _ rfl⟩
theorem Inv.fresh (I:Inv X pins σ H s):H s.heap.objs.size=none:=I.hok.fresh (Nat.le_refl _)
theorem Inv.lstM (I:Inv X pins σ H s) (hH:H l=some (.lst xs)):xs.length<=sizeLine/\∃ (its:List Value) (n:Nat),Vals xs its/\xs.length=its.length/\s.heap.get? l=some { cls:=.type "list",data:=.seq its.toArray n }:=by
 obtain ⟨z,its,n,r,e⟩:=I.hok l _ hH;exact ⟨z,its,n,r,r.length,e⟩
theorem notLongL {n:Nat} (h:n<=sizeLine):Builtin.List.listTooLong n=false:=by
 unfold Builtin.List.listTooLong;exact decide_eq_false (by omega)
end
section
variable {X:Cx}
def rAppend:V->List V->Hp->VK->Prop:=fun x vs H Q=>∃ l xs y,x=.ref l/\vs=[y]/\H l=some (.lst xs)/\xs.length < sizeLine/\Q .non (upd H l (.lst (xs ++ [y])))
theorem J2p:MtM X "list.append" rAppend:=by
 intro pins s σ H x vs v us Q I rx rv h;obtain ⟨l,xs,y,rfl,rfl,hH,hz,q⟩:=h;cases rx;obtain ⟨u,rfl,ru⟩:=rv.one;obtain ⟨z,its,n,r,hl,e⟩:=I.lstM hH;refine call_meets F.slot_list_append ⟨_,e,rfl⟩ F.entry_list_append (F.args_list_append_2 _ _) (PySem.list_append l its.toArray n u (by rw [size_toArray];omega)) ⟨e,?_⟩;refine ⟨.non,_,I.lset (its':=its ++ [u]) hH e (by simp) (r.append (.cons ru .nil)) ?_,rfl,q⟩;rw [length_append,List.length_singleton];omega
def rExtend:V->List V->Hp->VK->Prop:=fun x vs H Q=>∃ l b xs zs,x=.ref l/\vs=[.ref b]/\H l=some (.lst xs)/\H b=some (.lst zs)/\xs.length + zs.length<=sizeLine/\Q .non (upd H l (.lst (xs ++ zs)))
theorem mt_extend:MtM X "list.extend" rExtend:=by
 intro pins s σ H x vs v us Q I rx rv h;obtain ⟨l,b,xs,zs,rfl,rfl,hH,hB,hz,q⟩:=h;cases rx;obtain ⟨u,rfl,ru⟩:=rv.one;cases ru;obtain ⟨z,its,n,r,hl,e⟩:=I.lstM hH;obtain ⟨z2,its2,n2,r2,hl2,e2⟩:=I.lstM hB;have hsz:its.toArray.size + its2.toArray.size<=sizeLine:=by rw [size_toArray,size_toArray];omega
 have hlong:¬ (!its.toArray.isEmpty && Builtin.List.listTooLong (its.toArray.size + its2.toArray.size))=true:=by
  rw [notLongL hsz,Bool.and_false];exact Bool.false_ne_true
 refine call_meets F.slot_list_extend ⟨_,e,rfl⟩ F.entry_list_extend (F.args_list_extend_2 _ _)
  (AutoSeq1.list_extend_list_list_0 l its.toArray n b its2.toArray n2 hlong (by rw [size_toArray];omega) (by omega)) ⟨e,e2,?_⟩
 refine ⟨.non,_,I.lset (its':=its ++ its2) hH e (by simp) (r.append r2) ?_,rfl,q⟩;rw [length_append];omega
def rPop:V->List V->Hp->VK->Prop:=fun x vs H Q=>∃ l xs y,x=.ref l/\vs=[]/\H l=some (.lst xs)/\xs[xs.length - 1]?=some y/\Q y (upd H l (.lst xs.dropLast))
theorem mt_pop:MtM X "list.pop" rPop:=by
 intro pins s σ H x vs v us Q I rx rv h;obtain ⟨l,xs,y,rfl,rfl,hH,hy,q⟩:=h;cases rx;have hus:=rv.zero;subst hus;obtain ⟨z,its,n,r,hl,e⟩:=I.lstM hH;obtain ⟨u,hu,ru⟩:=r.get hy;have hy':its.toArray[its.toArray.size - 1]?=some u:=by
  show its.toArray[its.length - 1]?=some u;rw [<- getElem?_toList,<- hl];exact hu
 refine call_meets F.slot_list_pop ⟨_,e,rfl⟩ F.entry_list_pop (F.args_list_pop_1 _) (MeetsSeq.list_pop_last l its.toArray n u hy' (by rw [size_toArray];omega)) ⟨e,?_⟩;refine ⟨y,_,I.lset (its':=its.dropLast) hH e ?_ r.dropLast ?_,ru,q⟩
 ·show its.toArray.eraseIdxIfInBounds (its.toArray.size - 1)=its.dropLast.toArray;rw [size_toArray,List.eraseIdxIfInBounds_toArray,erase_last]
 ·rw [length_dropLast];omega
def rCat:R2:=fun x y H Q=>∃ l b xs zs,x=.ref l/\y=.ref b/\H l=some (.lst xs)/\H b=some (.lst zs)/\xs.length + zs.length<=sizeLine/\∀ p,H p=none->Q (.ref p) (upd H p (.lst (xs ++ zs)))
theorem J27:OpR X (binaryOp .Add) rCat:=by
 intro pins s σ H x y v u Q I rx ry h;obtain ⟨l,b,xs,zs,rfl,rfl,hH,hB,hz,q⟩:=h;cases rx;cases ry;obtain ⟨z,its,n,r,hl,e⟩:=I.lstM hH;obtain ⟨z2,its2,n2,r2,hl2,e2⟩:=I.lstM hB;refine PySem.P.add_list e e2 ?_ (by rw [size_toArray,size_toArray];omega);have ea:its.toArray ++ its2.toArray=(its ++ its2).toArray:=by simp
 rw [ea];exact ⟨.ref _,_,I.lnew (t':=s.toks) (r.append r2) (by rw [length_append];omega),rfl,q _ I.fresh⟩
def rRep:R2:=fun x y H Q=>∃ l k xs,x=.ref l/\y=.int k/\H l=some (.lst xs)/\-(2 ^ 63)<=k/\k < 2 ^ 63/\xs.length * k.toNat<=sizeLine/\
 ∀ p,H p=none->Q (.ref p) (upd H p (.lst (List.replicate k.toNat xs).flatten))
theorem len_rep {α:Type} (xs:List α) (k:Nat):(List.replicate k xs).flatten.length=k * xs.length:=by
 induction k with
 | zero=>simp
 | succ k ih=>rw [replicate_succ,flatten_cons,length_append,ih,Nat.succ_mul,Nat.add_comm]
theorem op_rep:OpR X (binaryOp .Mult) rRep:=by
 intro pins s σ H x y v u Q I rx ry h;obtain ⟨l,k,xs,rfl,rfl,hH,h1,h2,hz,q⟩:=h;cases rx;obtain ⟨t,rfl⟩:=ry;obtain ⟨z,its,n,r,hl,e⟩:=I.lstM hH;have hlen:its.toArray.size * k.toNat<=sizeLine:=by rw [size_toArray,<- hl];exact hz
 have hcap:¬ its.toArray.size * k.toNat > (2 ^ 63 - 1) / 8:=by
  have:(sizeLine:Nat)<=(2 ^ 63 - 1) / 8:=by decide
  omega
 have hfit:¬ (!Builtin.List.listFitsIndex k)=true:=by
  rw [fitsIndex_both h1 h2];exact Bool.false_ne_true
 have hlong:¬ Builtin.List.listTooLong (its.toArray.size * k.toNat)=true:=by
  rw [notLongL hlen];exact Bool.false_ne_true
 have hnew:foldl (fun x1 x2=>x1 ++ x2) #[] (List.replicate (if its.toArray.isEmpty=true then 0 else k.toNat) its.toArray)=(List.replicate k.toNat its).flatten.toArray:=by
  have f0:∀ m:Nat,foldl (fun x1 x2=>x1 ++ x2) #[] (List.replicate m its.toArray)=(List.replicate m its).flatten.toArray:=fun m=>by
   have:=J4c its m [];rw [List.nil_append] at this;exact this
  rw [f0]
  cases its with
  | nil=>simp
  | cons a r'=>rw [if_neg (by simp)]
 refine wpAny_binaryOp_repeat_ref (T:="list") (U:="int") (by decide) ⟨_,e,rfl⟩ (fun s'=>typeIs_int s' k t) noFill_list_mul F.fills_int_mul F.slot_int_rmul repeat_list F.slot_int_index.lookup
  (call_meets F.slot_int_rmul (typeIs_int s k t) F.entry_int_rmul (F.args_int_rmul_2 _ _) (int___rmul___int_list k t l its.toArray n)
   ⟨e,rfl,⟨_,e,rfl⟩,call_meets F.slot_list_mul ⟨_,e,rfl⟩ F.entry_list_mul (F.args_list_mul_2 _ _) (AutoListH.list___mul___list_int_3 l its.toArray n k t hfit hcap hlong) ⟨e,?_⟩⟩)
 rw [hnew];exact ⟨.ref _,_,I.lnew (t':=s.toks) (r.rep k.toNat) (by rw [len_rep,Nat.mul_comm];exact hz),rfl,q _ I.fresh⟩
end
section
variable {prog:Program} {w:World} {A:Around} {E:Value->Shared->Prop} {s:Shared}
set_option maxRecDepth 100000 in
end
end L2
namespace Att
open PySem PySem.W PySem.Calls PyProof.Rows
theorem J3h {P:Params} {h:Heap}:∀ (ns:List Int) (vs:List Value),WellAll P h vs (ns.map WData.int)->IntsAre vs ns:=by
 intro ns
 induction ns with
 | nil =>
  intro vs w;rw [map_nil] at w;cases w;exact .nil
 | cons n ns ih =>
  intro vs w;rw [map_cons] at w
  cases w with
  | cons a b =>
   cases a;exact .cons _ _ (ih _ b)
theorem script_of {l:OpenLaw} {n:Nat} (hn:l.most=some n) {P:Params} {h:Heap} {args:List WData} {vals:List Value}
  (hpre:l.row.toRowW.claim.pre args=true) (hwl:WellAll P h vals args) :
  ∃ a vs ns,vals=[Value.ref a]/\args=[WData.list (ns.map WData.int)]/\h.get? a=some { cls:=.type "list",data:=.seq vs.toArray }/\IntsAre vs ns/\ns.length<=n:=by
 have hsh:WShape.hasAll [] args [.list .int]=true:=(pre_splitW hpre).1;have hc:l.pre.holds [] { args:=args }=true:=(pre_splitW hpre).2;obtain ⟨d,r,rfl,h1,h2⟩:=hasAllW_cons hsh;obtain rfl:=hasAllW_nil h2;obtain ⟨xs,rfl,h3⟩:=hasW_list h1;obtain ⟨ns,rfl⟩:=items_int h3;have hlen:ns.length<=n:=by
  unfold OpenLaw.pre at hc;have h4:(WTm.not (.lt (.lit (.int (n:Int))) (.len (.arg 0)))).holds [] { args:=[.list (ns.map .int)] }=true:=by
   have h4:=(holds_andW hc).1;rw [hn] at h4;exact h4
  have h5:=condW_of h4 (w_not (w_lt w_lit (w_len_list (w_arg rfl))));rw [length_map] at h5;refine Nat.le_of_not_lt fun q=>?_;have q':(n:Int) < ((ns.length:Nat):Int):=by omega
  first
   | (rw [decide_eq_true q'] at h5;exact absurd h5 (by decide))
   | (simp at h5;omega)
 cases hwl with
 | cons w1 w2 =>
  cases w2
  cases w1 with
  | list ho hall=>exact ⟨_,_,ns,rfl,rfl,ho,J3h ns _ hall,hlen⟩
theorem post_true (l:OpenLaw) (args:List WData):l.row.toRowW.claim.post args (.bool true) args=true :=
 postW_of (r:=l.row.toRowW) (X:=(true == true))
  (show WShape.has [] (.bool true) .bool=true by first | rfl | decide | simp [WShape.has,WShape.arms,WShape.armsAll])
  (show (WTm.eq .res (.lit (.bool true))).value [] { args:=args,res:=some (.bool true),after:=args }=some (.bool (true == true)) from w_eq_bool (w_res rfl) w_lit) rfl
theorem attach_call {l:OpenLaw} {n:Nat} {q:Program} {loose:List Str} {XP:(Str->Option Value)->Heap->Prop} {YP:World->Heap->Prop} {d:DefRec}
  (hn:l.most=some n) (hdf:d.params.defaults=[])
  (call:∀ (w:World) (s₀ s₁:Shared) (mg mb:Str->Option Value) (fa:Addr) (o:Obj) (pm cd doc:Value) (a:Addr) (vs:List Value) (ns:List Int),
   Ground q loose [] XP w s₀ mg mb s₁.heap->YP w s₁.heap->
   s₁.heap.get? fa=some o->o.data=.func (docDef d.name d.params d.body d.scope pm cd doc)->s₁.heap.CodeRec cd d.name->mg d.name=some (.ref fa)->
   s₁.heap.get? a=some { cls:=.type "list",data:=.seq vs.toArray }->IntsAre vs ns->ns.length<=n->s₁.gens=#[]->
   codeAny (model l.prog w) callerA (.call (.ref fa) ⟨[.ref a],[]⟩) (fun r s'=>r=.ok (.ret (.bool true))/\OldK s₁.heap s'.heap/\s'.os=s₁.os/\AllBare s'.gens) s₁) :
  WalkO q loose XP YP l.row.toRowW d [] (fun f vs=>PySem.call f vs):=by
 intro w s₀ s₁ mg mb G Y fa o pm cd doc dV kV ho hd hcd hD hmg hg args vals as hpre hlay hrd hwl hlo;obtain rfl:dV=.none:=Dflts.none hD hdf;obtain rfl:kV=.none:=Dflts.noKw hD;obtain ⟨a,vs,ns,rfl,rfl,hobj,hints,hlen⟩:=script_of hn hpre hwl;refine enter_call (codeAny_mono (call w s₀ s₁ mg mb fa o pm cd doc a vs ns G Y ho (fd_plain hd) hcd hmg hobj hints hlen hg) fun r s' hq=>?_);obtain ⟨rfl,h2,h3,h4⟩:=hq;exact ⟨.inl ⟨.bool true,.bool true,[],rfl,fun _=>rfl,.bool true,post_true l _,fun _=>⟨List.Pairwise.nil,fun _ hm=>(nomatch hm)⟩⟩,h2,h3,h4⟩
end Att
namespace L2
open PySem PySem.Spec PyProof.Rows
theorem J3t:∀ {vs:List Value} {ns:List Int},IntsAre vs ns->Vals (ns.map V.int) vs
 | _,_,.nil=>.nil
 | _,_,.cons n t h=>.cons ⟨t,rfl⟩ (J3t h)
def Only (H:Hp):Prop:=∀ b,H b=none\/∃ o xs,H b=some (.frz o (.lst xs))
theorem law_call {P:Program} {w:World} {K:PySem.W.Frag} {mg mb:Str->Option Value} {CX:CXT} {k:Nat} {fa a:Addr} {fd:FuncData} {x:Str} {sp:Sp} {s₁:Shared} {vs:List Value} {ns:List Int}
  (KX:K.In s₁.heap) (hns:s₁.heap.Ns mainGlobals mg) (hb:s₁.heap.Ns builtinsNs mb) (hbb:∀ x:Str,x≠"__name__"->mb x=bootBuiltins x) (hlim:s₁.heap.NoLimit) (hg:s₁.gens=#[])
  (ha:s₁.heap.get? a=some { cls:=.type "list",data:=.seq vs.toArray }) (hi:IntsAre vs ns) (hl:ns.length<=sizeLine) (hr:Room k callerA)
  (F:∀ base:Heap,K.In base->base.Ns mainGlobals mg->FnOk P w K mg base CX k fa fd [x] sp) (hbind:∀ (s:Shared) (u:Value),BindsTo s fd ⟨[u],[]⟩ [(x,u)])
  (hsp:∀ H:Hp,Only H->SqL K H a (ns.map V.int)->sp [.ref a] H (fun v _=>v=.bl true) fun _ _ _=>False)
  (hCX:∀ H e s',CX [] H s₁ (fun _ _ _=>False) e s'->False) :
  codeAny (model P w) callerA (.call (.ref fa) ⟨[.ref a],[]⟩) (fun r s'=>r=.ok (.ret (.bool true))/\OldK s₁.heap s'.heap/\s'.os=s₁.os/\AllBare s'.gens) s₁:=by
 have rv:=J3t hi;have lenV:=hi.length;have core:∀ H:Hp,Only H->SqL K H a (ns.map V.int)->HOk P w H s₁.heap->(∀ b,H b≠none->b=a)->(H a≠none->K.lookup a=none)->
   codeAny (model P w) callerA (.call (.ref fa) ⟨[.ref a],[]⟩) (fun r s'=>r=.ok (.ret (.bool true))/\OldK s₁.heap s'.heap/\s'.os=s₁.os/\AllBare s'.gens) s₁:=by
  intro H hO hS hok hA hK;have base_of:∀ {b:Addr} {o:Obj},s₁.heap.get? b=some o->H b=none->(hidT s₁.heap H).get? b=some o:=fun e n=>hidT_get e n;have noA:∀ {b:Addr} {o:Obj} {es:Array DictEntry} {ep:Nat},s₁.heap.get? b=some o->o.data=.dict es ep->H b=none:=fun {b o es ep} e d=>by
   cases q:H b with
   | none=>rfl
   | some u =>
    have e':b=a:=hA b (by rw [q];simp);subst e';rw [ha] at e;cases e;have d':Data.seq vs.toArray _=Data.dict es ep:=d;cases d'
  have nsK:∀ {b:Addr} {m:Str->Option Value},s₁.heap.Ns b m->(hidT s₁.heap H).Ns b m:=fun {b m} h9=>by obtain ⟨o,es,ep,e,d,r⟩:=h9;exact ⟨o,es,ep,base_of e (noA e d),d,r⟩
  have hKb:K.In (hidT s₁.heap H):=fun b o e=>base_of (KX b o e) (by
   cases q:H b with
   | none=>rfl
   | some u =>
    have e':b=a:=hA b (by rw [q];simp);subst e';rw [hK (by rw [q];simp)] at e;cases e)
  have hM:Mod K mg (hidT s₁.heap H):=⟨hKb,nsK hns,⟨mb,nsK hb,hbb⟩,by obtain ⟨mc,h1,h2⟩:=hlim;exact ⟨mc,nsK h1,h2⟩⟩;have e0:Env0 P w K mg (hidT s₁.heap H) callerA [] s₁ H:=⟨rfl,hM,fun b o e=>of_hidT e,Nat.le_of_eq (hidT_size _ _),trivial,fun b hb=>absurd (show b∈([]:List Addr) from hb) (by simp),hok,.of_eq hg⟩;refine codeAny_mono ((F _ hKb (nsK hns)).run callerA [] s₁ H ⟨[.ref a],[]⟩ [.ref a] [.ref a] _ _ hr e0 (hbind s₁ (.ref a)) (.cons rfl .nil) (hsp H hO hS)) fun r s' h=>?_
  cases r with
  | error e=>exact (hCX H e s' h).elim
  | ok fl =>
   cases fl with
   | next=>exact False.elim h
   | brk=>exact False.elim h
   | cont=>exact False.elim h
   | ret u =>
    obtain ⟨v,H',os,bare,un,hok',r',q⟩:=h;have q':v=.bl true:=q;subst q';obtain rfl:u=Value.bool true:=r';refine ⟨rfl,OldK.of_keep fun b o e=>?_,os,bare⟩
    cases q:H b with
    | none=>exact un.keep b o e q (by intro z;exact absurd (show b∈([]:List Addr) from z) (by simp)) (by simp)
    | some u =>
     rcases hO b with z | ⟨ob,xs,z⟩
     ·rw [q] at z;cases z
     ·have z2:=un.frzs b ob _ z;obtain ⟨e1,_⟩:=hok b _ z;obtain ⟨e2,_⟩:=hok' b _ z2;rw [e] at e1;cases e1;exact e2
 cases hk:K.lookup a with
 | some o =>
  have e:=KX a o hk;rw [ha] at e;cases e;refine core (fun _=>none) (fun _=>.inl rfl) (.inr ⟨_,vs.toArray,_,hk,rfl,rfl,rfl,by rw [size_toArray,lenV];exact hl,by simpa using rv⟩) (fun b u z=>by have z':(none:Option HO)=some u:=z;cases z') (fun b z=>absurd rfl z) fun z=>absurd rfl z
 | none =>
  refine core (fun b=>if b=a then some (.frz { cls:=.type "list",data:=.seq vs.toArray } (.lst (ns.map V.int))) else none) (fun b=>?_) (.inl (.inr ⟨{ cls:=.type "list",data:=.seq vs.toArray },if_pos rfl⟩)) (fun b u z=>?_) (fun b z=>?_) fun _=>hk
  ·by_cases hb:b=a
   ·exact .inr ⟨_,_,if_pos hb⟩
   ·exact .inl (if_neg hb)
  ·by_cases hb:b=a
   ·have z':=(if_pos hb).symm.trans z;cases z';subst hb;exact ⟨ha,by rw [length_map];exact hl,vs,_,rv,ha⟩
   ·have z':=(if_neg hb).symm.trans z;cases z'
  ·by_cases hb:b=a
   ·exact hb
   ·exact absurd (if_neg hb) z
end L2
namespace L2
open PySem PySem.Spec PyProof.Rows
theorem walk_of {l:PySem.W.OpenLaw} {n k:Nat} {q:Program} {loose:List Str} {XP:(Str->Option Value)->Heap->Prop} {YP:World->Heap->Prop} {d:DefRec} {K:Params->PySem.W.Frag} {CX:World->CXT} {sp:World->Sp} {x:Str}
  (hn:l.most=some n) (hn2:n<=sizeLine) (hdf:d.params.defaults=[]) (hr:Room k callerA)
  (hY:∀ (w:World) (h:Heap),YP w h->(K w.params).In h)
  (F:∀ (w:World) (mg:Str->Option Value) (fa:Addr) (h:Heap),(K w.params).In h->h.Ns mainGlobals mg->mg d.name=some (.ref fa)->
   ∃ fd:FuncData,(∀ (s:Shared) (u:Value),BindsTo s fd ⟨[u],[]⟩ [(x,u)])/\
    ∀ base:Heap,(K w.params).In base->base.Ns mainGlobals mg->FnOk l.prog w (K w.params) mg base (CX w) k fa fd [x] (sp w))
  (hsp:∀ (w:World) (H:Hp) (a:Addr) (ns:List Int),ns.length<=n->Only H->SqL (K w.params) H a (ns.map V.int)->sp w [.ref a] H (fun v _=>v=.bl true) fun _ _ _=>False)
  (hCX:∀ (w:World) (H:Hp) (s:Shared) (e:Value) (s':Shared),CX w [] H s (fun _ _ _=>False) e s'->False) :
  PySem.W.WalkO q loose XP YP l.row.toRowW d [] (fun f vs=>PySem.call f vs):=by
 refine Att.attach_call hn hdf fun w s₀ s₁ mg mb fa o pm cd doc a vs ns G Y ho hd hcd hmg hobj hints hlen hg=>?_;have KX:=hY w _ Y;obtain ⟨fd,hb,hF⟩:=F w mg fa _ KX G.T.g hmg;exact law_call KX G.T.g G.T.b G.T.builtins G.T.nolimit hg hobj hints (Nat.le_trans hlen hn2) hr hF hb (fun H hO hS=>hsp w H a ns hlen hO hS) fun H e s'=>hCX w H s₁ e s'
end L2
namespace L2
open PySem PySem.Spec PyProof.Rows
def J32 (s:Stmt) (j:Nat):Stmt:=match s with
 | .ClassDef _ _ _ body _ _ _ _ _ _ _=>body.getD j (.Pass ⟨0,0,0,0⟩)
 | _=>.Pass ⟨0,0,0,0⟩
def J1q (s:Stmt):Arguments:=match s with
 | .FunctionDef _ a _ _ _ _ _ _ _ _=>a
 | _=>{ posonlyargs:=[],args:=[],vararg:=none,kwonlyargs:=[],kw_defaults:=[],kwarg:=none,defaults:=[] }
def J19 (s:Stmt):List Stmt:=match s with
 | .FunctionDef _ _ b _ _ _ _ _ _ _=>b
 | _=>[]
def J9 (s:Stmt):Scope:=match s with
 | .FunctionDef _ _ _ _ _ _ sc _ _ _=>sc
 | _=>{ kind:=.function,names:=[],isGenerator:=false,isCoroutine:=false }
abbrev CX0:CXT:=fun _ _ _ _ _ _=>False
abbrev E0:XK:=fun _ _ _=>False
theorem pass0 {X:Cx}:J3a CX0 X E0:=fun _ _ _ _ _ _ _ h=>h.elim
structure Fun (K:PySem.W.Frag) (x qual:Str) (st:Stmt) (f:Addr) (fd:FuncData):Prop where
 ex:∃ (oc:Value) (od:Option Addr) (kV doc pm:Value) (an:Option Addr) (cdv ct:Value) (osl:Array (Option Value)),
  fd=fnOf x qual (J1q st) (J19 st) (J9 st) .none kV doc pm an cdv ct/\K.lookup f=some ⟨oc,od,.func fd,osl⟩/\codeIn K cdv qual=true
 kp:keepIn K (.ref f)=true
section
variable {P:Program} {w:World} {K:PySem.W.Frag} {mg:Str->Option Value} {base:Heap}
theorem Fun.ok {x qual:Str} {st:Stmt} {f:Addr} {fd:FuncData} {N ps:List Str} {k:Nat} {sp:Sp} (F:Fun K x qual st f fd) (S:FnScope N ps (J9 st)) (len:∀ vs H Q E,sp vs H Q E->vs.length=ps.length)
  (hbody:∀ (cdv:Value) (A:Around) (outer:List Env) (s:Shared) (H:Hp) (vs:List V) (Q:VK) (E:XK),Room k (A.deeper (envOfC qual (J9 st) s.heap.objs.size f cdv))->sp vs H Q E->
   ∃ t,PSs (cxOf CX0 P w K mg base N qual (J9 st) f cdv A outer s H E).nox (J19 st) t/\t { nx:=fun _ H'=>Q .non H',rt:=Q } (start N vs) H):FnOk P w K mg base CX0 (k + 1) f fd ps sp:=by
 obtain ⟨oc,od,kV,doc,pm,an,cdv,ct,osl,rfl,lk,hcd⟩:=F.ex;refine fn_of lk hcd S len fun A outer s H vs Q E hr hsp=>?_;obtain ⟨t,h,q⟩:=hbody cdv A outer s H vs Q E hr hsp;exact ⟨t,h.nox,q⟩
theorem Fun.binds {x qual:Str} {st:Stmt} {f:Addr} {fd:FuncData} {ps:List Str} (F:Fun K x qual st f fd)
  (h:∀ (kV doc pm:Value) (an:Option Addr) (cdv ct:Value) (us:List Value),us.length=ps.length->bindArgs (fnOf x qual (J1q st) (J19 st) (J9 st) .none kV doc pm an cdv ct) ⟨us,[]⟩=pure (ps.zip us)):Binds K fd ps []:=by
 obtain ⟨oc,od,kV,doc,pm,an,cdv,ct,osl,rfl,lk,hcd⟩:=F.ex;exact .all (h kV doc pm an cdv ct)
theorem J5o {x qual:Str} {st:Stmt} {f:Addr} {oc:Value} {od an:Option Addr} {osl:Array (Option Value)} {kV doc pm cdv ct:Value} (l:K.lookup f=some ⟨oc,od,.func (fnOf x qual (J1q st) (J19 st) (J9 st) .none kV doc pm an cdv ct),osl⟩)
  (c:codeIn K cdv qual=true) (k:keepIn K (.ref f)=true):Fun K x qual st f (fnOf x qual (J1q st) (J19 st) (J9 st) .none kV doc pm an cdv ct):=⟨⟨oc,od,kV,doc,pm,an,cdv,ct,osl,rfl,l,c⟩,k⟩
end
theorem Ju {n:Nat} (h:n<=1000):n < sizeLine:=Nat.lt_of_le_of_lt h (by decide)
section
variable {X:Cx}
theorem pv (i:Nat) {x:Str} {pos:Pos} (hN:X.N[i]?=some x:=by rfl) (hv:Vis X.env.scope x:=by first | exact Or.inl rfl | exact Or.inr (Or.inl rfl) | exact Or.inr (Or.inr rfl)) (hd:(x == ("__debug__":Str))=false:=by decide)
  (hcd:(x == ("__classdict__":Str))=false:=by decide):PE X (.Name x pos) (tVar i):=pe_var hN hv hd hcd
end
theorem iteF {A B:Prop} (h:B):if false=true then A else B:=by
 rw [if_neg Bool.false_ne_true];exact h
theorem iteT {A B:Prop} (h:A):if true=true then A else B:=by
 rw [if_pos rfl];exact h
theorem iteNS {c A B:Prop} [Decidable c] (hc:c) (h:B):if (!decide c)=true then A else B:=by
 rw [decide_eq_true hc];exact iteF h
def Same (H H':Hp):Prop:=∀ b o,H b=some o->H' b=some o
theorem Same.refl (H:Hp):Same H H:=fun _ _ h=>h
theorem Same.trans {H H1 H2:Hp} (a:Same H H1) (b:Same H1 H2):Same H H2:=fun c o h=>b c o (a c o h)
theorem Same.free {H H':Hp} (e:Same H H') {l:Addr} (h:H' l=Option.none):H l=Option.none:=by
 cases q:H l with
 | none=>rfl
 | some o =>
  rw [e l o q] at h;cases h
theorem Same.seq {K:PySem.W.Frag} {H H':Hp} {a:Addr} {xs:List V} (e:Same H H') (h:SqL K H a xs):SqL K H' a xs:=by
 rcases h with (h | ⟨o,h⟩) | h
 ·exact .inl (.inl (e _ _ h))
 ·exact .inl (.inr ⟨o,e _ _ h⟩)
 ·exact .inr h
end L2
namespace L2
open PySem PySem.Spec PyProof.Rows
abbrev Cx.block (X:Cx) (N:List Str) (scope:Scope) (cl:List (Str × Addr)) (C:Addr) (fp:List Addr) (s:Shared) (H:Hp):Cx :=
 { X with N:=N,s₀:=s,H₀:=H,env:=compEnvC scope cl C X.env,outer:=X.stack,stack:=X.stack,ex:=fp,fn:=fun _=>false,pn:=[],xe:=fun _ _=>False }
theorem J3l {env:Env}:∀ {names:List (Str × NameKind)} {x:Str} {k:NameKind},(names.map fun (n,k)=>if (k == NameKind.free && env.scope.kind == .function && env.kindOf n == some .cell) then (n,NameKind.cell) else (n,k)).lookup x=some k->
  k=.cell\/k=.free->(∀ p∈names,p.2≠.cell)->∃ p∈names,p.1=x/\p.2=.free
 | [],_,_,h,_,_=>by simp at h
 | (n,q) :: r,x,k,h,hk,hc=>by
  have ih:=@J3l env r x k;have hq:q≠.cell:=hc (n,q) mem_cons_self;rw [map_cons] at h;by_cases hx:x=n
  ·subst hx;by_cases e:(q == NameKind.free && env.scope.kind == .function && env.kindOf x == some .cell)=true
   ·simp only [Bool.and_eq_true] at e;exact ⟨(x,q),mem_cons_self,rfl,by simpa using e.1.1⟩
   ·have e2:List.lookup x ((x,q) :: List.map (fun (n,k)=>if (k == NameKind.free && env.scope.kind == .function && env.kindOf n == some .cell) then (n,NameKind.cell) else (n,k)) r)=some k:=by
     simpa only [e,if_false,Bool.false_eq_true] using h
    rw [List.lookup_cons_self] at e2;cases e2;rcases hk with hk | hk
    ·exact absurd hk hq
    ·exact ⟨(x,q),mem_cons_self,rfl,hk⟩
  ·have hb:(x == n)=false:=by simpa using hx
   have h':(List.map (fun (n,k)=>if (k == NameKind.free && env.scope.kind == .function && env.kindOf n == some .cell) then (n,NameKind.cell) else (n,k)) r).lookup x=some k:=by
    by_cases e:(q == NameKind.free && env.scope.kind == .function && env.kindOf n == some .cell)=true
    ·simp only [e,if_true,List.lookup_cons,hb] at h;exact h
    ·simp only [e,if_false,Bool.false_eq_true,List.lookup_cons,hb] at h;exact h
   obtain ⟨p,hp,e1,e2⟩:=ih h' hk fun p hp=>hc p (mem_cons_of_mem _ hp);exact ⟨p,mem_cons_of_mem _ hp,e1,e2⟩
def capv (σ:St) (js:List Nat):St:=js.map fun j=>(σ[j]?).join
theorem capv_get {σ:St} {js:List Nat} {k:Nat} {v:V} (h:(capv σ js)[k]?=some (some v)):∃ j,js[k]?=some j/\σ[j]?=some (some v):=by
 unfold capv at h;rw [getElem?_map] at h
 cases e:js[k]? with
 | none=>rw [e] at h;cases h
 | some j =>
  rw [e] at h;refine ⟨j,rfl,?_⟩
  cases e2:σ[j]? with
  | none=>rw [Option.map_some,e2] at h;cases h
  | some o=>rw [Option.map_some,e2] at h;exact congrArg some (Option.some.inj h)
section
variable {X:Cx} {elt iter:Expr} {x y:Str} {px py:Pos} {scope:Scope} {cl:List (Str × Addr)} {pos spos:Pos} {wi:TI} {te:TE} {caps:List Str} {js:List Nat} {i:Nat}
theorem block_ok {pins:List (Addr × Obj)} {σ:St} {H:Hp} {s:Shared} {C:Addr} {fp:List Addr} (I:Inv X pins σ H s) (hC:s.heap.objs.size<=C) (f2:∀ b∈fp,FpOk X pins H b) (fl:∀ b∈fp,b < s.heap.objs.size)
  (hkind:scope.kind=.function) (hcell:∀ p∈scope.names,p.2≠.cell) (hsub:∀ p∈cl,X.env.cells.lookup p.1=some p.2) (hhas:∀ p∈scope.names,p.2=.free->∃ c,cl.lookup p.1=some c) :
  (X.block (x :: caps) scope cl C fp s H).Ok where
 mod:=I.ok.mod
 kind:=hkind
 glob:=I.ok.glob
 blt:=I.ok.blt
 above:=hC
 inj:=fun a b c h1 h2=>I.ok.inj a b c (hsub _ (mem_of_lookup h1)) (hsub _ (mem_of_lookup h2))
 has:=fun a h=>by
  have h':(∃ k,(relabel scope X.env).names.lookup a=some k/\(k=.cell\/k=.free)):=by
   rcases h with h | h
   ·exact ⟨_,h,.inl rfl⟩
   ·exact ⟨_,h,.inr rfl⟩
  obtain ⟨k,h1,hk⟩:=h';obtain ⟨p,hp,e1,e2⟩:=J3l h1 hk hcell;rw [<- e1];exact hhas p hp e2
 cab:=fun _ _ h=>nomatch h
 hd:=I.ok.hd
 frames:=I.ok.frames
 stk:=.inl rfl
 exf:=fun b hb=>⟨Nat.ne_of_lt (Nat.lt_of_lt_of_le (fl b hb) hC),fun a c e=>(f2 b hb).2.2.2.2.1 a c (hsub _ (mem_of_lookup e))⟩
 bs:=I.bs
 bsz:=Nat.le_trans I.ok.bsz I.sz
 noex:=fun b o e hb=>by
  rcases (f2 b hb).2.2.2.1 with z | z
  ·exact I.ok.noex b o e z
  ·exact absurd (Nat.lt_of_lt_of_le (lt_size e) (Nat.le_trans I.ok.bsz z)) (Nat.lt_irrefl _)
 exfs:=fun b hb z=>by
  rcases mem_cons.mp (I.stkSub b z) with e | e
  ·exact (f2 b hb).2.1 e
  ·exact (f2 b hb).2.2.1 e
 funs:=I.stack
 frf:=I.stkFree
end
section
variable {X:Cx}
def rInsert:V->List V->Hp->VK->Prop:=fun x vs H Q=>∃ (l:Addr) (xs:List V) (k:Nat) (y:V),x=.ref l/\vs=[.int k,y]/\H l=some (.lst xs)/\k<=xs.length/\xs.length < sizeLine/\Q .non (upd H l (.lst (xs.take k ++ y :: xs.drop k)))
theorem mt_insert:MtM X "list.insert" rInsert:=by
 intro pins s σ H x vs v us Q I rx rv h;obtain ⟨l,xs,k,y,rfl,rfl,hH,hk,hz,q⟩:=h;cases rx;obtain ⟨u1,u2,rfl,⟨t,rfl⟩,r2⟩:=rv.two;obtain ⟨z,its,n,r,hl,e⟩:=I.lstM hH;have hn:=J5l;obtain ⟨x,hx⟩:∃ x:Int,x=(k:Int):=⟨_,rfl⟩;rw [<- hx];have hfit:¬ (!Builtin.List.listFitsIndex x)=true:=by
  rw [fitsIndex_both (by omega) (by omega)];exact Bool.false_ne_true
 have hsz:its.toArray.size<=sizeLine:=by rw [size_toArray,<- hl];exact z
 refine call_meets F.slot_list_insert ⟨_,e,rfl⟩ F.entry_list_insert (F.args_list_insert_3 _ _ _) (PySem.AutoSeq1.list_insert_list_int_val_1 l its.toArray n x t u2 hfit hsz) ⟨e,?_⟩;refine ⟨.non,_,I.lset (its':=its.take k ++ u2 :: its.drop k) hH e ?_ ((r.take k).append (.cons r2 (r.drop k))) ?_,rfl,q⟩
 ·have e1:(if x < 0 then (x + (its.toArray.size:Int)).toNat else min x.toNat its.toArray.size)=k:=by
   rw [if_neg (by omega),size_toArray];omega
  dsimp only;rw [e1];apply Array.ext';simp;rw [List.take_of_length_le (by rw [length_drop];exact Nat.le_refl _)]
 ·rw [length_append,length_cons,length_take,length_drop];omega
end
section
variable {X:Cx}
abbrev SqI (K:PySem.W.Frag) (H:Hp) (p:Addr) (xs:List V):Prop:=SqL K H p xs\/SqT K H p xs
theorem J49 {its:List Value} {ns:List Int} (hi:IntsAre its ns):∃ xs:Array (Int × Tok),its.toArray=intItems xs/\preSum (numAt xs) xs.size=ns.sum/\ns=xs.toList.map (·.1):=by
 obtain ⟨xs,hx⟩:=hi.allInts.items;have e1:ns=xs.toList.map (·.1):=by
  rw [<- nums_intItems,<- hx];exact (show numsOf its.toArray.toList=ns from hi.numsOf).symm
 refine ⟨xs,hx,?_,e1⟩;rw [preSum_eq,List.take_of_length_le (by simp),e1]
theorem J21 (hc:X.calm=true):CallR X (.builtin "sum") (fun xs H Q=>∃ (p:Addr) (ns:List Int),xs=[.ref p]/\SqI X.K H p (ns.map V.int)/\Q (.int ns.sum) H):=by
 intro pins s σ H xs us Q I r h;obtain ⟨p,ns,rfl,hq,q⟩:=h;obtain ⟨u,rfl,rx⟩:=vals1 r;cases rx;have hh:=I.ok.hd hc;rcases hq with hq | hq
 ·obtain ⟨its,r',pl,hz⟩:=I.list hq;obtain ⟨xs,hx,e2,_⟩:=J49 (J1g r');refine sum_intListG hh (hx ▸ pl.isList) fun h' tk t' hk=>?_;rw [e2];exact ⟨.int ns.sum,H,I.kept hk,⟨t',rfl⟩,q⟩
 ·obtain ⟨its,r',pl,hz⟩:=I.tuple hq;obtain ⟨xs,hx,e2,_⟩:=J49 (J1g r');refine PySem.W.ktm_sumG hh (hx ▸ (show s.heap.IsTuple p its.toArray from pl)) fun h' tk t' hk=>?_;rw [e2];exact ⟨.int ns.sum,H,I.kept hk,⟨t',rfl⟩,q⟩
theorem J5j {prog:Program} {w:World} {A:Around} {E:Value->Shared->Prop} {s:Shared} {l:Addr} {xs:Array (Int × Tok)} {Q:Value->Shared->Prop} (hh:A.handled=none) (ht:s.heap.IsTuple l (intItems xs)) (hne:0 < xs.size)
  (h:∀ v h' tk,(intItems xs)[argBest (fun i j=>decide (numAt xs i < numAt xs j)) (xs.size - 1)]?=some v->(∀ b o,s.heap.get? b=some o->h'.get? b=some o)->Q v { s with heap:=h',toks:=tk }) :
  wpAny (model prog w) A (call (.builtin "min") [.ref l]) Q E s:=by
 obtain ⟨o,ho,hc,n,hd⟩:=id ht;have hne':l≠s.heap.objs.size:=Nat.ne_of_lt (lt_size ho);refine call_min_walk (wpAny_pyIter_tuple ht ?_);refine ⟨s.heap.objs.size,_,_,_,_,_,_,rfl,Walks.tuple (A:=A.in1) hh _ l hne' (intItems xs),⟨⟨_,get?_push_size _ rfl,rfl,rfl⟩,ht.at fun o e=>get?_push_of_some _ e⟩,fun b hb=>?_,by simpa [intItems] using hne,CmpOf.ints_lt (numAt xs) (fun _ _=>intItems_at),fun v h' tk hP hk=>?_⟩
 ·rcases mem_cons.mp hb with rfl | hb
  ·exact lt_size (get?_push_size _ rfl)
  ·obtain rfl:=mem_singleton.mp hb;exact lt_size (get?_push_of_some _ ho)
 ·refine h v h' tk (by simpa [intItems] using hP) fun b o e=>hk b o (fun hb=>absurd (lt_size e) ((mem_singleton.mp hb) ▸ Nat.lt_irrefl _)) (get?_push_of_some _ e)
theorem best_min {ns:List Int} {xs:Array (Int × Tok)} (hns:ns=xs.toList.map (·.1)) (hsz:0 < xs.size) :
  numAt xs (argBest (fun i j=>decide (numAt xs i < numAt xs j)) (xs.size - 1))∈ns/\∀ a∈ns,numAt xs (argBest (fun i j=>decide (numAt xs i < numAt xs j)) (xs.size - 1))<=a:=by
 obtain ⟨h1,h2⟩:=argBest_lt (numAt xs) (xs.size - 1);refine ⟨?_,fun a ha=>?_⟩
 ·rw [hns,numAt_eq];exact getD_mem (by rw [length_map,length_toList];omega)
 ·rw [hns] at ha;obtain ⟨j,hj,rfl⟩:=mem_getD ha;rw [length_map,length_toList] at hj;rw [<- numAt_eq];exact h2 j (by omega)
theorem call_min (hc:X.calm=true):CallR X (.builtin "min") (fun xs H Q=>∃ (p:Addr) (ns:List Int),xs=[.ref p]/\SqI X.K H p (ns.map V.int)/\0 < ns.length/\∀ M,M∈ns->(∀ a∈ns,M<=a)->Q (.int M) H):=by
 intro pins s σ H xs us Q I r h;obtain ⟨p,ns,rfl,hq,hne,q⟩:=h;obtain ⟨u,rfl,rx⟩:=vals1 r;cases rx;have hh:=I.ok.hd hc;rcases hq with hq | hq
 ·obtain ⟨its,r',pl,hz⟩:=I.list hq;obtain ⟨xs,hx,_,e1⟩:=J49 (J1g r');have hsz:0 < xs.size:=by rw [e1,length_map,length_toList] at hne;exact hne
  refine min_intList hh (hx ▸ pl.isList) hsz fun v h' tk hv hk=>?_;obtain ⟨t,rfl⟩:=intItems_at hv;obtain ⟨b1,b2⟩:=best_min e1 hsz;exact ⟨.int _,H,I.kept hk,⟨t,rfl⟩,q _ b1 b2⟩
 ·obtain ⟨its,r',pl,hz⟩:=I.tuple hq;obtain ⟨xs,hx,_,e1⟩:=J49 (J1g r');have hsz:0 < xs.size:=by rw [e1,length_map,length_toList] at hne;exact hne
  refine J5j hh (hx ▸ (show s.heap.IsTuple p its.toArray from pl)) hsz fun v h' tk hv hk=>?_;obtain ⟨t,rfl⟩:=intItems_at hv;obtain ⟨b1,b2⟩:=best_min e1 hsz;exact ⟨.int _,H,I.kept hk,⟨t,rfl⟩,q _ b1 b2⟩
end
end L2
namespace L2
open PySem PySem.Spec PyProof.Rows
section
variable {prog:Program} {w:World} {A:Around} {E:Value->Shared->Prop} {s:Shared}
theorem J4z {l:Addr} {vs:List Value} {Q:List Value->Shared->Prop} (hl:s.heap.IsTuple l vs.toArray)
  (h:Q vs { s with heap:=(s.heap.push (seqObj "list" #[] 0)).update s.heap.objs.size (Obj.mapSeq (· ++ vs.toArray)) }) (hsz:vs.length<=sizeLine) :
  wpAny (model prog w) A (collect (.ref l)) Q E s:=by
 obtain ⟨o,ho,hc,n,hd⟩:=id hl;unfold collect;refine wpAny_bind (wpAny_runValue (codeAny_builtin entry_proto_collect' ?_));show wpAny _ _ (do again (.builtin "list.__iadd__" ⟨[<- newList [],.ref l],[]⟩)) _ _ s;refine wpAny_bind (wpAny_newList (wpAny_pure ⟨Code.quiet_builtin _ (by decide +kernel),codeAny_builtin entry_list_iadd' ?_⟩));show wpAny _ _ (Builtin.List.listExtendWith (.ref s.heap.objs.size) (.ref l) (.ref s.heap.objs.size)) _ _ { s with heap:=s.heap.push (seqObj "list" #[] 0) };unfold Builtin.List.listExtendWith;have ho':(s.heap.push (seqObj "list" #[] 0)).get? l=some o:=get?_push_of_some _ ho;refine wpAny_bind (wpAny_typeOf (T:="tuple") ⟨o,ho',hc⟩ ?_);have ht:(Value.type "tuple" == Value.type "tuple")=true:=by rfl
 rw [if_pos (by rw [ht];simp)];refine wpAny_bind (listItems_at ho' hd ?_);refine wpAny_bind (listItems_at (xs:=#[]) (n:=0) (get?_push_size _ rfl) rfl ?_);rw [if_neg (by simp)];refine wpAny_bind (listUpdate_at (xs:=#[]) (n:=0) (get?_push_size _ rfl) rfl ?_ (Nat.zero_le _) (by show (#[] ++ vs.toArray).size<=sizeLine + 1;simp only [Array.size_append,size_toArray,length_nil];omega));refine wpAny_pure ?_;show wpAny (model prog w) A (do
   let o <- load s.heap.objs.size
   match o.data with
   | .seq xs _=>pure xs.toList
   | _=>unsupported "internal:collect") Q E { s with heap:=(s.heap.push (seqObj "list" #[] 0)).update s.heap.objs.size (Obj.mapSeq (· ++ vs.toArray)) }
 refine wpAny_bind (wpAny_load (get?_update_seq (get?_push_size _ rfl) _) ?_);show wpAny _ _ (pure ((#[]:Array Value) ++ vs.toArray).toList) Q E _;rw [show ((#[]:Array Value) ++ vs.toArray).toList=vs by simp];exact wpAny_pure h
theorem J56 {l:Addr} {vs:List Value} {ns:List Int} {Q:Value->Shared->Prop} (hl:s.heap.IsTuple l vs.toArray) (hI:IntsAre vs ns) (h64:vs.length < 64)
  (h:∀ (out:Array Value) (ns':List Int),IntsAre out.toList ns'->ns'.Perm ns->ns'.Pairwise (·<=·)->Q (.ref (s.heap.objs.size + 1)) { s with heap:=sortedAll s.heap vs out }) :
  wpAny (model prog w) A (call (.builtin "sorted") [.ref l]) Q E s:=by
 refine Calls.call_function_entry kind_sorted plain_sorted entry_sorted (args_sorted1 _) ?_;unfold Builtin.«sorted»;refine wpAny_bind (m:=checkCount "sorted" 1 1 _) (wpAny_pure ?_);refine wpAny_bind (J4z hl ?_ (Nat.le_of_lt (Nat.lt_of_lt_of_le h64 (by rw [sizeLine_eq];decide))));refine wpAny_bind (wpAny_newList ?_);have hsz:((s.heap.push (seqObj "list" #[] 0)).update s.heap.objs.size (Obj.mapSeq (· ++ vs.toArray))).objs.size=s.heap.objs.size + 1:=by
  rw [Heap.size_update,size_push']
 have hoL:(((s.heap.push (seqObj "list" #[] 0)).update s.heap.objs.size (Obj.mapSeq (· ++ vs.toArray))).push (seqObj "list" vs.toArray 0)).get? (s.heap.objs.size + 1)=some (seqObj "list" vs.toArray 0):=by
  rw [<- hsz];exact get?_push_size _ rfl
 show wpAny _ _ _ _ _ { s with heap:=((s.heap.push (seqObj "list" #[] 0)).update s.heap.objs.size (Obj.mapSeq (· ++ vs.toArray))).push (seqObj "list" vs.toArray 0) };rw [hsz];refine wpAny_bind (wpAny_holding (wpAny_call_entry slot_list_sort ⟨_,hoL,rfl⟩ entry_list_sort (list_sort_tree hoL hI h64 fun out ns' a1 a2 a3=>⟨_,rfl,?_⟩) (args_list_sort _)));exact wpAny_pure ⟨_,rfl,h out ns' a1 a2 a3⟩
end
section
variable {X:Cx}
theorem call_sorted:CallR X (.builtin "sorted") (fun xs H Q=>∃ (p:Addr) (ns:List Int),xs=[.ref p]/\SqI X.K H p (ns.map V.int)/\ns.length < 64/\∀ l (ns':List Int),H l=none->ns'.Perm ns->ns'.Pairwise (·<=·)->Q (.ref l) (upd H l (.lst (ns'.map V.int)))):=by
 intro pins s σ H xs us Q I r h;obtain ⟨p,ns,rfl,hq,h64,q⟩:=h;obtain ⟨u,rfl,rx⟩:=vals1 r;cases rx;have fin:∀ (its:List Value) (out:Array Value) (ns':List Int),IntsAre out.toList ns'->ns'.Perm ns->ns'.Pairwise (·<=·)->EP X pins σ Q (.ref (s.heap.objs.size + 1)) { s with heap:=sortedAll s.heap its out }:=fun its out ns' a1 a2 a3=>by
  obtain ⟨e,he⟩:=sortedAll_at s.heap its out;have hz:(ns'.map V.int).length<=sizeLine:=by
   rw [length_map,a2.length_eq];exact Nat.le_of_lt (Ju (by omega))
  refine ⟨.ref _,_,I.laid (t':=s.toks) (a:=s.heap.objs.size + 1) (o:=.lst (ns'.map V.int)) (fun b o e=>sortedAll_old e) (Nat.le_succ _) ⟨hz,out.toList,e,J3t a1,he⟩,rfl,q _ ns' (I.hok.fresh (Nat.le_succ _)) a2 a3⟩
 rcases hq with hq | hq
 ·obtain ⟨its,r',pl,hz⟩:=I.list hq;have hl:=r'.length;rw [length_map] at hl;exact sorted_ints pl.isList (J1g r') (by omega) (fin its)
 ·obtain ⟨its,r',pl,hz⟩:=I.tuple hq;have hl:=r'.length;rw [length_map] at hl;exact J56 (show s.heap.IsTuple p its.toArray from pl) (J1g r') (by omega) (fin its)
theorem call_rng:CallR X (.type "range") (fun xs H Q=>∃ j:Int,xs=[.int j]/\∀ r,H r=none->Q (.ref r) (upd H r (.rng 0 j))):=by
 intro pins s σ H xs us Q I r h;obtain ⟨j,rfl,q⟩:=h;obtain ⟨u,rfl,t,rfl⟩:=vals1 r;refine call_range_1 ?_;exact ⟨.ref s.heap.objs.size,_,I.laid (o:=.rng 0 j) (fun b o e=>get?_push_of_some _ e) (Nat.le_refl _) ⟨_,_,_,get?_push_size _ rfl⟩,rfl,q _ (I.hok.fresh (Nat.le_refl _))⟩
theorem J4h {f:Nat->Int}:∀ {n:Nat} {us:List Value},us.length=n->(∀ (i:Nat) (v:Value),us[i]?=some v->∃ t,v=Value.int (f i) t)->Vals ((List.range n).map fun i=>V.int (f i)) us:=by
 intro n us hl h
 induction n generalizing f us with
 | zero=>cases us with
  | nil=>exact .nil
  | cons a r=>simp at hl
 | succ n ih=>cases us with
  | nil=>simp at hl
  | cons a r =>
   obtain ⟨t,e⟩:=h 0 a rfl;subst e;rw [List.range_succ_eq_map,map_cons,map_map];exact .cons ⟨t,rfl⟩ (ih (f:=fun i=>f (i + 1)) (by simpa using hl) fun i v e=>h (i + 1) v (by simpa using e))
theorem J2l (hc:X.calm=true):CallR X (.type "list") (fun xs H Q=>∃ (r:Addr) (n:Nat),xs=[.ref r]/\H r=some (.rng 0 (n:Int))/\n<=1000/\∀ l,H l=none->Q (.ref l) (upd H l (.lst (((List.range n).map fun (i:Nat)=>(i:Int)).map V.int)))):=by
 intro pins s σ H xs us Q I r h;obtain ⟨p,n,rfl,hq,hn,q⟩:=h;simp only [map_map,Function.comp_def] at q;obtain ⟨u,rfl,rx⟩:=vals1 r;cases rx;obtain ⟨t,u,v,e⟩:=I.hok p _ hq;refine call_list_range (I.ok.hd hc) (show IsRange s.heap p 0 (n:Int) 1 t u v from e) (small_one (by omega) (by omega) (by omega) (by omega)) (by rw [rangeSize_one];split <;> omega) (n:=n) (by omega) fun h' tk acc' c' hk hS' hacc=>?_;have hv:Vals ((List.range n).map fun (i:Nat)=>V.int (i:Int)) acc'.toList:=J4h (by rw [length_toList];exact hacc.1) fun i v e=>by
  obtain ⟨t,rfl⟩:=hacc.2 i v (by simpa using e);exact ⟨t,by simp⟩
 refine ⟨.ref s.heap.objs.size,_,I.laid (o:=.lst ((List.range n).map fun (i:Nat)=>V.int (i:Int))) hk (Nat.le_refl _) ⟨?_,acc'.toList,c',hv,by simpa using hS'⟩,rfl,q _ (I.hok.fresh (Nat.le_refl _))⟩;rw [length_map,length_range];exact Nat.le_of_lt (Ju hn)
def Kin (xs ys:List V):Prop:=∀ a∈xs,∀ b∈ys,flatV a=true/\flatV b=true/\eqV a b=decide (a=b)
theorem Kin.ints (ns ms:List Int):Kin (ns.map V.int) (ms.map V.int):=fun a ha b hb=>by
 obtain ⟨i,_,rfl⟩:=mem_map.mp ha;obtain ⟨j,_,rfl⟩:=mem_map.mp hb;refine ⟨rfl,rfl,?_⟩;show (i == j)=decide (V.int i=V.int j);by_cases e:i=j
 ·subst e;simp
 ·rw [decide_eq_false (fun h=>e (V.int.inj h))];simpa using e
def eAt (xs ys:List V) (j:Nat):Bool:=match xs[j]?,ys[j]? with
 | some a,some b=>eqV a b
 | _,_=>true
theorem all_eAt {xs ys:List V} (hl:xs.length=ys.length) (hk:Kin xs ys):((List.range xs.length).all (eAt xs ys))=decide (xs=ys):=by
 rw [Bool.eq_iff_iff,all_eq_true,decide_eq_true_iff];constructor
 ·intro h;apply List.ext_getElem?;intro j;by_cases hj:j < xs.length
  ·have h1:xs[j]?=some xs[j]:=List.getElem?_eq_getElem hj;have h2:ys[j]?=some (ys[j]'(hl ▸ hj)):=List.getElem?_eq_getElem (hl ▸ hj);have:=h j (mem_range.mpr hj);unfold eAt at this;rw [h1,h2] at this;have k:=(hk _ (getElem_mem hj) _ (getElem_mem (hl ▸ hj))).2.2;have this:eqV xs[j] (ys[j]'(hl ▸ hj))=true:=this;rw [k,decide_eq_true_iff] at this;rw [h1,h2,this]
  ·rw [getElem?_eq_none (by omega),getElem?_eq_none (by omega)]
 ·rintro rfl j hj;have hj':=mem_range.mp hj;unfold eAt;rw [List.getElem?_eq_getElem hj'];have k:=(hk _ (getElem_mem hj') _ (getElem_mem hj')).2.2;show eqV _ _=true;rw [k];simp
theorem eAt_at {A:Around} {s:Shared} {xs ys:List V} {its its2:List Value} (r:Vals xs its) (r2:Vals ys its2) (hk:Kin xs ys) (j:Nat) (h1:j < its.toArray.size) (h2:j < its2.toArray.size):SeqAt.EqAt A s its.toArray[j] its2.toArray[j] (eAt xs ys j):=by
 have l1:=r.length;have l2:=r2.length;rw [size_toArray] at h1 h2;have g1:xs[j]?=some (xs[j]'(by omega)):=List.getElem?_eq_getElem (by omega);have g2:ys[j]?=some (ys[j]'(by omega)):=List.getElem?_eq_getElem (by omega);obtain ⟨u,e1,ru⟩:=r.get g1;obtain ⟨v,e2,rv⟩:=r2.get g2;have e1':its.toArray[j]=u:=by
  have:=List.getElem?_eq_getElem h1;rw [e1] at this;simpa using (Option.some.inj this).symm
 have e2':its2.toArray[j]=v:=by
  have:=List.getElem?_eq_getElem h2;rw [e2] at this;simpa using (Option.some.inj this).symm
 obtain ⟨f1,f2,_⟩:=hk _ (getElem_mem (by omega:j < xs.length)) _ (getElem_mem (by omega:j < ys.length));unfold eAt;rw [g1,g2,e1',e2'];exact eqAt_V ru rv f1 f2
def rNeL (K:PySem.W.Frag):R2:=fun x y H Q=>∃ p q xs ys,x=.ref p/\y=.ref q/\SqL K H p xs/\SqL K H q ys/\Kin xs ys/\Q (.bl (!decide (xs=ys))) H
theorem op_neL (hu:X.A.units < cLine):OpR X (compareOp .NotEq) (rNeL X.K):=by
 intro pins s σ H x y v u Q I rx ry h;obtain ⟨p,q,xs,ys,rfl,rfl,hp,hq,hk,hQ⟩:=h;cases rx;cases ry;obtain ⟨its,r,pl,_⟩:=I.list hp;obtain ⟨its2,r2,pl2,_⟩:=I.list hq;have l1:=r.length;have l2:=r2.length;by_cases hl:xs.length=ys.length
 ·refine SeqAt.RcNeAt.lists pl.isList pl2.isList (by rw [size_toArray,size_toArray];omega) hu (fun j h1 h2=>eAt_at r r2 hk j h1 h2) _ _ _ _ ?_;rw [size_toArray,<- l1,all_eAt hl hk];exact ⟨.bl _,H,I,rfl,hQ⟩
 ·refine SeqAt.RcNeAt.lists_lengths pl.isList pl2.isList (by rw [size_toArray,size_toArray];simp;omega) hu _ _ _ _ ?_;rw [decide_eq_false (fun e=>hl (congrArg List.length e))] at hQ;exact ⟨.bl true,H,I,rfl,hQ⟩
theorem J2g {f:Value} (hf:f=.builtin "isinstance"):CallR X f (fun xs H Q=>∃ (x c:V) (t cv:Value) (b:Bool),xs=[x,c]/\RelV c cv/\(∀ v,RelV c v->v=cv)/\TyOf X.K H x t/\kitOne X.K t cv=some b/\Q (.bl b) H):=by
 subst hf;intro pins s σ H xs us Q I r h;obtain ⟨x,c,t,cv,b,rfl,rc,uc,ty,e,q⟩:=h;obtain ⟨u,v,rfl,ru,rv⟩:=vals2 r;obtain rfl:=uc v rv;exact isinst_ok I ru ty e fun tk=>⟨.bl b,H,I.tok tk,rfl,q⟩
end
end L2
namespace L2
open PySem PySem.Spec PyProof.Rows
theorem J2z:fillsNumberSlot (.type "tuple") "mul"=pure false :=
 PySem.fillsNumberSlot_seq (id:="tuple.__mul__") (r:=some (.builtin "tuple.__rmul__")) F.slot_tuple_mul.lookup (by decide +kernel) F.slot_tuple_rmul.lookup (by decide +kernel)
theorem J5c:seqRepeat? (.type "tuple")=pure (some (.builtin "tuple.__mul__")):=by
 unfold seqRepeat?;rw [PySem.seqSlot_of (T:="tuple") (name:="__mul__") (id:="tuple.__mul__") F.slot_tuple_mul.lookup (by decide +kernel),PySem.seqSlot_of (T:="tuple") (name:="__rmul__") (id:="tuple.__rmul__") F.slot_tuple_rmul.lookup (by decide +kernel)];rfl
theorem J4a (a:Int) (t:Tok) (l:Addr) (items:Array Value) (n:Nat) (dd:Option Addr) (sl:Array (Option Value)) :
  Meets (Builtin.«int.__rmul__» ⟨[.int a t,.ref l],[]⟩) (fun _ R s=>s.heap.get? l=some { cls:=.type "tuple",dict:=dd,data:=.seq items n,slots:=sl }/\R (.ok (.ret Value.notImplemented)) s) :=
 .of_wp fun prog w A R s h=>by obtain ⟨hp,g,d,tk,os⟩:=s;obtain ⟨hl,h⟩:=h;wp_walk;exact ⟨_,rfl,h⟩
theorem tuple_mulW1 (l:Addr) (items:Array Value) (n:Nat) (dd:Option Addr) (sl:Array (Option Value)) (t:Tok) :
  Meets (Builtin.«tuple.__mul__» ⟨[.ref l,.int 1 t],[]⟩) (fun _ R s=>s.heap.get? l=some { cls:=.type "tuple",dict:=dd,data:=.seq items n,slots:=sl }/\R (.ok (.ret (.ref l))) { s with heap:=s.heap,toks:=s.toks }) :=
 .of_wp fun prog w A R s h=>by
  obtain ⟨hp,g,d,tk,os⟩:=s;obtain ⟨hl,h⟩:=h;have f1:=AutoSeq1.idx_int;have f2:=AutoSeq1.sub_tuple_tuple
  wp_walk using AutoSeq1.wpAny_loadPart' hl;exact ⟨_,rfl,h⟩
theorem tuple_mulWn (l:Addr) (items:Array Value) (n:Nat) (dd:Option Addr) (sl:Array (Option Value)) (k:Int) (t:Tok) (h1:1 < k) (h2:k < 2 ^ 63) (hne:items.isEmpty=false) (hsz:items.size * k.toNat<=sizeLine) :
  Meets (Builtin.«tuple.__mul__» ⟨[.ref l,.int k t],[]⟩) (fun _ R s=>s.heap.get? l=some { cls:=.type "tuple",dict:=dd,data:=.seq items n,slots:=sl }/\
   R (.ok (.ret (.ref s.heap.objs.size))) { s with heap:=s.heap.push { cls:=.type "tuple",data:=.seq ((List.replicate k.toNat items).foldl (· ++ ·) #[]) },toks:=s.toks }) :=
 .of_wp fun prog w A R s h=>by
  obtain ⟨hp,g,d,tk,os⟩:=s;obtain ⟨hl,h⟩:=h;have f1:=AutoSeq1.idx_int;have f2:=AutoSeq1.sub_tuple_tuple;have c1:¬ (decide (k < -(2 ^ 63)) || decide (k>=2 ^ 63))=true:=by simp;omega
  have c2:¬ (items.isEmpty || k == 1)=true:=by rw [hne];simp;omega
  have c3:¬ (decide (k<=0) || items.isEmpty)=true:=by rw [hne];simp;omega
  have ek:(items.size:Int) * k=((items.size * k.toNat:Nat):Int):=by
   rw [Int.natCast_mul,Int.toNat_of_nonneg (by omega)]
  have hs0:(sizeLine:Nat)<=(2 ^ 63 - 1) / 8:=by decide
  have c4:¬ ((items.size:Int) * k > (2 ^ 63 - 1) / 8):=by rw [ek];omega
  have c5:¬ Builtin.Tuple.tupleTooMany ((items.size:Int) * k)=true:=by
   unfold Builtin.Tuple.tupleTooMany;rw [ek,decide_eq_true_iff];omega
  have hsz2:((List.replicate k.toNat items).foldl (· ++ ·) #[]).size<=sizeLine:=by
   rw [AutoSeq1.size_joined];simp;rw [Nat.mul_comm];exact hsz
  wp_walk using AutoSeq1.wpAny_loadPart' hl
  refine wpAny_ite_false (decide_eq_false c1) ?_
  wp_walk using AutoSeq1.wpAny_loadPart' hl
  refine wpAny_ite_false (decide_eq_false c2) ?_;refine wpAny_ite_false (decide_eq_false c3) ?_;refine wpAny_ite_false (decide_eq_false c4) ?_;refine wpAny_ite_false (decide_eq_false c5) ?_
  wp_walk using AutoSeq1.wpAny_loadPart' hl
  exact ⟨_,rfl,h⟩
section
variable {X:Cx}
def rRepT:R2:=fun x y H Q=>∃ (l:Addr) (k:Int) (xs:List V),x=.ref l/\y=.int k/\H l=some (.tup xs)/\xs≠[]/\1<=k/\k < 2 ^ 63/\xs.length * k.toNat<=sizeLine/\(k=1->Q (.ref l) H)/\(1 < k->∀ p,H p=none->Q (.ref p) (upd H p (.tup (List.replicate k.toNat xs).flatten)))
theorem op_repT:OpR X (binaryOp .Mult) rRepT:=by
 intro pins s σ H x y v u Q I rx ry h;obtain ⟨l,k,xs,rfl,rfl,hH,hne,h1,h2,hz,q1,q2⟩:=h;cases rx;obtain ⟨t,rfl⟩:=ry;obtain ⟨its,r,pl,hz'⟩:=I.tuple (SqT.of hH);obtain ⟨⟨cls,dd,data,sl⟩,ho,hc,n,hd⟩:=id pl;simp only at hc hd;subst hc hd;have hl:=r.length;refine wpAny_binaryOp_repeat_ref (T:="tuple") (U:="int") (by decide) ⟨_,ho,rfl⟩ (fun s'=>typeIs_int s' k t) J2z F.fills_int_mul F.slot_int_rmul J5c F.slot_int_index.lookup
  (call_meets F.slot_int_rmul (typeIs_int s k t) F.entry_int_rmul (F.args_int_rmul_2 _ _) (J4a k t l its.toArray n dd sl) ⟨ho,rfl,⟨_,ho,rfl⟩,?_⟩)
 by_cases e:k=1
 ·subst e;exact call_meets F.slot_tuple_mul ⟨_,ho,rfl⟩ F.entry_tuple_mul (F.args_tuple_mul_2 _ _) (tuple_mulW1 l its.toArray n dd sl t) ⟨ho,⟨.ref l,H,I,rfl,q1 rfl⟩⟩
 ·have hni:its.toArray.isEmpty=false:=by
   cases its with
   | nil=>exact absurd (List.length_eq_zero_iff.mp (by simpa using hl)) hne
   | cons a r'=>rfl
  refine call_meets F.slot_tuple_mul ⟨_,ho,rfl⟩ F.entry_tuple_mul (F.args_tuple_mul_2 _ _) (tuple_mulWn l its.toArray n dd sl k t (by omega) h2 hni (by rw [size_toArray,<- hl];exact hz)) ⟨ho,?_⟩;have hnew:foldl (fun x1 x2=>x1 ++ x2) #[] (List.replicate k.toNat its.toArray)=(List.replicate k.toNat its).flatten.toArray:=by
   have:=J4c its k.toNat [];rw [List.nil_append] at this;exact this
  rw [hnew];refine ⟨.ref _,_,I.laid (t':=s.toks) (o:=.tup (List.replicate k.toNat xs).flatten) (fun b ob q=>get?_push_of_some _ q) (Nat.le_refl _) ⟨?_,_,r.rep k.toNat,⟨_,get?_push_size _ rfl,⟨rfl,rfl⟩,_,rfl⟩⟩,rfl,q2 (by omega) _ (I.hok.fresh (Nat.le_refl _))⟩;rw [len_rep,Nat.mul_comm];exact hz
end
section
variable {X:Cx}
@[irreducible] def rTup (K:PySem.W.Frag):List V->Hp->VK->Prop:=fun xs H Q=>∃ p ys,xs=[.ref p]/\((SqL K H p ys/\∀ l,H l=none->Q (.ref l) (upd H l (.tup ys)))\/(SqT K H p ys/\Q (.ref p) H))
theorem J38:CallR X (.type "tuple") (rTup X.K):=by
 unfold rTup;exact J50
end
end L2
namespace L2
open PySem PySem.Spec PyProof.Rows
section
variable {prog:Program} {w:World} {A:Around} {E:Value->Shared->Prop} {z:Shared}
theorem J3f {nu tu:Addr} {j:Nat} {xs:Array Value} {y:Value} {Q:Value->Shared->Prop} (hn:z.heap.IsTupleIter nu tu j) (ht:z.heap.IsTuple tu xs) (hy:xs[j]?=some y)
  (hQ:∀ g,g.IsTupleIter nu tu (j + 1)->Heap.SameBut nu z.heap g->Q y { z with heap:=g }):wpAny (model prog w) A (Builtin.SmallTypes.nextOf (.ref nu)) Q E z:=by
 obtain ⟨on,hon,cn,dn⟩:=id hn;obtain ⟨ot,hot,_,nt,dt⟩:=ht;unfold Builtin.SmallTypes.nextOf;refine wpAny_bind (wpAny_callSpecial?_slot (name:=Str.ofString "__next__") hn.typeIs F.slot_tuple_iterator_next (wpAny_call_entry F.slot_tuple_iterator_next hn.typeIs F.entry_tuple_iterator_next ?_ (F.args_tuple_iterator_next_1 _)));show wpAny _ _ (field (.ref nu) 0 >>= _) _ _ z;refine wpAny_bind (wpAny_field hon dn (x:=.ref tu) rfl ?_);show wpAny _ _ (if (Value.ref tu == Value.none)=true then _ else _) _ _ z;rw [if_neg (show ¬ ((Value.ref tu == Value.none)=true) from Bool.false_ne_true)];show wpAny _ _ (field (.ref nu) 1 >>= _) _ _ z;refine wpAny_bind (wpAny_field hon dn (x:=.int j 0) rfl ?_);show wpAny _ _ (seqItems? (.ref tu) >>= _) _ _ z;refine wpAny_bind (wpAny_seqItems hot dt ?_);simp only [Int.toNat_natCast,hy];refine wpAny_bind (wpAny_setField hon dn (by simp) (wpAny_pure ⟨y,rfl,wpAny_pure (hQ _ ?_ (Heap.SameBut.update ..))⟩));exact ⟨_,Heap.get?_update_self _ hon (Obj.isFreed_of_fields (Obj.data_mapFields dn _)),(Obj.cls_mapFields ..).trans cn,by rw [Obj.data_mapFields dn];simp [rawInt]⟩
theorem J43 {nu tu:Addr} {j:Nat} {xs:Array Value} {Q:Value->Shared->Prop} (hh:A.handled=none) (hn:z.heap.IsTupleIter nu tu j) (ht:z.heap.IsTuple tu xs) (hy:xs[j]?=none)
  (hE:∀ g e,Heap.ExtBut nu z.heap g->(∃ o,g.get? e=some o/\o.cls=.type "StopIteration")->E (.ref e) { z with heap:=g }):wpAny (model prog w) A (Builtin.SmallTypes.nextOf (.ref nu)) Q E z:=by
 obtain ⟨on,hon,cn,dn⟩:=id hn;obtain ⟨ot,hot,_,nt,dt⟩:=ht;unfold Builtin.SmallTypes.nextOf;refine wpAny_bind (wpAny_callSpecial?_slot (name:=Str.ofString "__next__") hn.typeIs F.slot_tuple_iterator_next (wpAny_call_entry F.slot_tuple_iterator_next hn.typeIs F.entry_tuple_iterator_next ?_ (F.args_tuple_iterator_next_1 _)));show wpAny _ _ (field (.ref nu) 0 >>= _) _ _ z;refine wpAny_bind (wpAny_field hon dn (x:=.ref tu) rfl ?_);show wpAny _ _ (if (Value.ref tu == Value.none)=true then _ else _) _ _ z;rw [if_neg (show ¬ ((Value.ref tu == Value.none)=true) from Bool.false_ne_true)];show wpAny _ _ (field (.ref nu) 1 >>= _) _ _ z;refine wpAny_bind (wpAny_field hon dn (x:=.int j 0) rfl ?_);show wpAny _ _ (seqItems? (.ref tu) >>= _) _ _ z;refine wpAny_bind (wpAny_seqItems hot dt ?_);simp only [Int.toNat_natCast,hy];refine wpAny_bind (wpAny_rule (wpAny_bind (wpAny_setField hon dn (by simp) ?_)));show wpAny _ _ (newExc (.type "StopIteration") [] >>= _) _ _ _;refine wpAny_bind ?_;simp only [newExc,newTuple];refine wpAny_bind (wpAny_newObj_type ?_ (by size_fits));refine wpAny_bind (m:=firstArgMember _ _) (wpAny_of_eq (a:=Value.none) (by first | rfl | (simp only [firstArgMember];rfl)) ?_);refine wpAny_newObj_type ?_ (by size_fits);simp only [raiseNew];refine wpAny_bind (wpAny_handled ?_)
 first | rw [show A.in1.handled=none from hh] | rw [hh]
 refine wpAny_bind (wpAny_pure (wpAny_throw ?_));exact hE _ _ (((Heap.SameBut.update ..).extBut.push _).push _) ⟨_,get?_push_size _ rfl,rfl⟩
theorem enum_turn {en nu:Addr} {j:Nat} {y old:Value} {St:Heap->Prop} {Q:Value->Shared->Prop} (he:IsEnum z.heap en nu j old) (hne:en≠nu) (keepSt:∀ g g':Heap,St g->(∀ o,g.get? nu=some o->g'.get? nu=some o)->St g')
  (NX:∀ (A':Around) (E':Value->Shared->Prop) (Q':Value->Shared->Prop),(∀ g,St g->Heap.SameBut nu z.heap g->Q' y { z with heap:=g })->wpAny (model prog w) A' (Builtin.SmallTypes.nextOf (.ref nu)) Q' E' z)
  (hQ:∀ g,IsEnumOut g en nu ((j:Int) + 1) y z.heap.objs.size->St g->g.get? z.heap.objs.size=some { cls:=.type "tuple",data:=.seq #[.int j z.toks,y] }->g.objs.size=z.heap.objs.size + 1->
   (∀ b o,b≠en->b≠nu->z.heap.get? b=some o->g.get? b=some o)->Q (.ref z.heap.objs.size) { z with heap:=g,toks:=z.toks + 1 }) :
  wpAny (model prog w) A (Builtin.«enumerate.__next__» ⟨[.ref en],[]⟩) (fun fin s'=>∃ v,fin=.done (.ret v)/\Q v s') E z:=by
 obtain ⟨hp,gg,d,tk,os⟩:=z;show wpAny _ _ (field (.ref en) 2 >>= _) _ _ _;refine wpAny_bind (wpAny_field he rfl (x:=.ref nu) rfl (wpAny_bind (NX _ _ _ fun g₁ st₁ sb₁=>?_)));have sb₁:Heap.SameBut nu hp g₁:=sb₁;have e₁:IsEnum g₁ en nu j old:=(sb₁.2 en hne).trans he;show wpAny _ _ (field (.ref en) 3 >>= _) _ _ ⟨g₁,gg,d,tk,os⟩;refine wpAny_bind (wpAny_field e₁ rfl (x:=rawInt j) rfl ?_);show wpAny _ _ (field (.ref en) 4 >>= _) _ _ ⟨g₁,gg,d,tk,os⟩;refine wpAny_bind (wpAny_field e₁ rfl (x:=.none) rfl ?_);show wpAny _ _ (mkInt j >>= _) _ _ ⟨g₁,gg,d,tk,os⟩;refine wpAny_bind (wpAny_mkInt ?_);show wpAny _ _ (setField (.ref en) 3 (rawInt ((j:Int) + 1)) >>= _) _ _ ⟨g₁,gg,d,tk + 1,os⟩;refine wpAny_bind (wpAny_setField_rec e₁ (by simp) fun g₂ e₂ sb₂=>?_);have sb₂:Heap.SameBut en g₁ g₂:=sb₂;have e₂:IsEnum g₂ en nu ((j:Int) + 1) old:=e₂;show wpAny _ _ (setField (.ref en) 4 .none >>= _) _ _ ⟨g₂,gg,d,tk + 1,os⟩;refine wpAny_bind (wpAny_setField_rec e₂ (by simp) fun g₃ e₃ sb₃=>?_);have sb₃:Heap.SameBut en g₂ g₃:=sb₃;have e₃:IsEnum g₃ en nu ((j:Int) + 1) old:=e₃;show wpAny _ _ (newTuple [.int j tk,y] >>= _) _ _ ⟨g₃,gg,d,tk + 1,os⟩;refine wpAny_bind (wpAny_newTuple ?_);have st₃:St g₃:=keepSt _ _ st₁ fun o e=>sb₃.extBut _ _ (Ne.symm hne) (sb₂.extBut _ _ (Ne.symm hne) e);have e₄:IsEnum (g₃.push { cls:=.type "tuple",data:=.seq #[.int j tk,y] }) en nu ((j:Int) + 1) old:=get?_push_of_some _ e₃;have st₄:St (g₃.push { cls:=.type "tuple",data:=.seq #[.int j tk,y] }):=keepSt _ _ st₃ fun o e=>get?_push_of_some _ e;have hz:g₃.objs.size=hp.objs.size:=by rw [sb₃.1,sb₂.1,sb₁.1]
 have hel:en < hp.objs.size:=lt_size he;have t₄:(g₃.push { cls:=.type "tuple",data:=.seq #[.int j tk,y] }).get? hp.objs.size=some { cls:=.type "tuple",data:=.seq #[.int j tk,y] }:=by rw [<- hz];exact get?_push_size _ rfl
 have z₄:(g₃.push { cls:=.type "tuple",data:=.seq #[.int j tk,y] }).objs.size=hp.objs.size + 1:=by rw [size_push,hz]
 have k₄:∀ b o,b≠en->b≠nu->hp.get? b=some o->(g₃.push { cls:=.type "tuple",data:=.seq #[.int j tk,y] }).get? b=some o:=fun b o h1 h2 e =>
  get?_push_of_some _ (sb₃.extBut b o h1 (sb₂.extBut b o h1 (sb₁.extBut b o h2 e)))
 generalize g₃.push { cls:=.type "tuple",data:=.seq #[.int j tk,y] }=g₄ at e₄ st₄ t₄ z₄ k₄;show wpAny _ _ (Builtin.SmallTypes.ownedTupleIsFree (.ref en) >>= _) _ _ ⟨g₄,gg,d,tk + 1,os⟩;rw [hz];refine wpAny_bind ?_
 ·unfold Builtin.SmallTypes.ownedTupleIsFree;refine wpAny_bind (wpAny_field e₄ rfl (x:=.none) rfl (wpAny_pure ?_));simp only [if_true];refine wpAny_bind (wpAny_rule (wpAny_bind (wpAny_field e₄ rfl (x:=old) rfl (wpAny_bind (wpAny_setField_rec e₄ (by simp) fun g₅ e₅ sb₅=>?_)))));have sb₅:Heap.SameBut en g₄ g₅:=sb₅;have e₅:IsEnum g₅ en nu ((j:Int) + 1) y:=e₅;show wpAny _ _ (Builtin.SmallTypes.ownedTupleHandOut (.ref en) (.ref hp.objs.size) >>= _) _ _ ⟨g₅,gg,d,tk + 1,os⟩;refine wpAny_bind ?_
  ·unfold Builtin.SmallTypes.ownedTupleHandOut;refine wpAny_bind (wpAny_setField_rec e₅ (by simp) fun g₆ e₆ sb₆=>?_);have sb₆:Heap.SameBut en g₅ g₆:=sb₆;have e₆:IsEnumOut g₆ en nu ((j:Int) + 1) y hp.objs.size:=e₆;refine wpAny_setField_rec e₆ (by simp) fun g₇ e₇ sb₇=>?_;have sb₇:Heap.SameBut en g₆ g₇:=sb₇;have e₇:IsEnumOut g₇ en nu ((j:Int) + 1) y hp.objs.size:=e₇;have up:∀ b o,b≠en->g₄.get? b=some o->g₇.get? b=some o:=fun b o h1 e=>sb₇.extBut b o h1 (sb₆.extBut b o h1 (sb₅.extBut b o h1 e));exact wpAny_bind (wpAny_letGo (wpAny_pure ⟨_,rfl,hQ g₇ e₇ (keepSt _ _ st₄ fun o e=>up _ _ (Ne.symm hne) e) (up _ _ (Nat.ne_of_gt hel) t₄) (by rw [sb₇.1,sb₆.1,sb₅.1,z₄]) fun b o h1 h2 e=>up b o h1 (k₄ b o h1 h2 e)⟩))
theorem enumT_item {en nu tu:Addr} {j:Nat} {xs:Array Value} {y old:Value} {Q:Option Value->Shared->Prop} (he:IsEnum z.heap en nu j old) (hn:z.heap.IsTupleIter nu tu j) (ht:z.heap.IsTuple tu xs) (hy:xs[j]?=some y) (hne:en≠nu)
  (hQ:∀ g,IsEnumOut g en nu ((j:Int) + 1) y z.heap.objs.size->g.IsTupleIter nu tu (j + 1)->g.get? z.heap.objs.size=some { cls:=.type "tuple",data:=.seq #[.int j z.toks,y] }->g.objs.size=z.heap.objs.size + 1->
   (∀ b o,b≠en->b≠nu->z.heap.get? b=some o->g.get? b=some o)->Q (some (.ref z.heap.objs.size)) { z with heap:=g,toks:=z.toks + 1 }) :
  wpAny (model prog w) A (pyNext (.ref en)) Q E z:=by
 have hT:z.TypeIs (.ref en) "enumerate":=⟨_,he,rfl⟩;unfold pyNext;exact wpAny_bind (wpAny_attempt (wpAny_callSpecial?_slot (name:=Str.ofString "__next__") hT F.slot_enumerate_next (wpAny_call_entry F.slot_enumerate_next hT F.entry_enumerate_next
   (enum_turn (St:=fun g=>g.IsTupleIter nu tu (j + 1)) he hne (fun g g' st k=>let ⟨o,ho,r⟩:=st;⟨o,k o ho,r⟩) (fun A' E' Q' h=>J3f hn ht hy h) fun g a b c d k=>wpAny_pure (hQ g a b c d k)) (F.args_enumerate_next_1 _))))
theorem enumT_end {en nu tu:Addr} {j:Nat} {xs:Array Value} {old:Value} {Q:Option Value->Shared->Prop} (hh:A.handled=none) (he:IsEnum z.heap en nu j old) (hn:z.heap.IsTupleIter nu tu j) (ht:z.heap.IsTuple tu xs) (hy:xs[j]?=none)
  (hQ:∀ g,Heap.ExtBut nu z.heap g->Q none { z with heap:=g }):wpAny (model prog w) A (pyNext (.ref en)) Q E z:=by
 have hT:z.TypeIs (.ref en) "enumerate":=⟨_,he,rfl⟩;unfold pyNext;refine wpAny_bind (wpAny_attempt (wpAny_callSpecial?_slot (name:=Str.ofString "__next__") hT F.slot_enumerate_next (wpAny_call_entry F.slot_enumerate_next hT F.entry_enumerate_next ?_ (F.args_enumerate_next_1 _))));show wpAny _ _ (field (.ref en) 2 >>= _) _ _ _;refine wpAny_bind (wpAny_field he rfl (x:=.ref nu) rfl (wpAny_bind (J43 hh hn ht hy fun g x he' hx'=>?_)));obtain ⟨o,ho,hc⟩:=hx';exact wpAny_bind (wpAny_isInstance (T:="StopIteration") (b:=true) ⟨o,ho,hc⟩ isSubtype_stop (wpAny_pure (hQ _ he')))
theorem enum_newT (l:Addr) (xs:Array Value) (n:Nat) (dct:Option Addr) (sl:Array (Option Value)) :
  Meets (Builtin.«enumerate.__new__» ⟨[.type "enumerate",.ref l],[]⟩) (fun _ R s=>s.heap.get? l=some { cls:=.type "tuple",dict:=dct,data:=.seq xs n,slots:=sl }/\
   R (.ok (.ret (.ref (s.heap.push { cls:=.type "tuple_iterator",data:=.fields #[.ref l,.int 0 0] }).objs.size)))
    { s with heap:=(s.heap.push { cls:=.type "tuple_iterator",data:=.fields #[.ref l,.int 0 0] }).push { cls:=.type "enumerate",data:=.fields #[.none,.bool false,.ref s.heap.objs.size,rawInt 0,.none,.none] } }) :=
 .of_wp fun prog w A R s h=>by
  obtain ⟨hp,g,d,tk,os⟩:=s;obtain ⟨hl,h⟩:=h;have hsub:=sub_enumerate;have hTT:Heap.IsTuple (Shared.heap ⟨hp,g,d,tk,os⟩) l xs:=⟨_,hl,rfl,n,rfl⟩
  wp_walk using AutoSeq1.wpAny_loadPart' hl
  refine wpAny_stack_any fun st=>wpAny_pure ?_;split
  ·rename_i c _ _ _ _ _;cases (c == Value.type "enumerate") <;> (wp_walk using AutoSeq1.wpAny_loadPart' hl,wpAny_pyIter_tuple hTT;exact ⟨_,rfl,h⟩)
  ·(wp_walk using AutoSeq1.wpAny_loadPart' hl,wpAny_pyIter_tuple hTT;exact ⟨_,rfl,h⟩)
theorem call_enumT {l:Addr} {xs:Array Value} {Q:Value->Shared->Prop} (hL:z.heap.IsTuple l xs)
  (h:∀ g,IsEnum g (z.heap.objs.size + 1) z.heap.objs.size 0 .none->g.IsTupleIter z.heap.objs.size l 0->g.objs.size=z.heap.objs.size + 2->(∀ b o,z.heap.get? b=some o->g.get? b=some o)->Q (.ref (z.heap.objs.size + 1)) { z with heap:=g }) :
  wpAny (model prog w) A (call (.type "enumerate") [.ref l]) Q E z:=by
 obtain ⟨⟨c,dct,dt,sl⟩,hl,hc,n,hd⟩:=hL;have hc:c=.type "tuple":=hc;have hd:dt=.seq xs n:=hd;subst hc hd;refine callType_new F.called_enumerate (by decide) (F.typeCall_enumerate_1 _) (F.newCall_enumerate_1 _) (fun obj=>F.args_object_init_2 obj _) F.entry_enumerate_new (enum_newT l xs n dct sl) ⟨hl,?_⟩;have hz:(z.heap.push { cls:=.type "tuple_iterator",data:=.fields #[.ref l,.int 0 0] }).objs.size=z.heap.objs.size + 1:=size_push ..;show _/\_;rw [hz];have he:IsEnum ((z.heap.push { cls:=.type "tuple_iterator",data:=.fields #[.ref l,.int 0 0] }).push { cls:=.type "enumerate",data:=.fields #[.none,.bool false,.ref z.heap.objs.size,rawInt 0,.none,.none] }) (z.heap.objs.size + 1) z.heap.objs.size 0 .none:=by
  have q:=get?_push_size (z.heap.push { cls:=.type "tuple_iterator",data:=.fields #[.ref l,.int 0 0] }) (o:={ cls:=.type "enumerate",data:=.fields #[.none,.bool false,.ref z.heap.objs.size,rawInt 0,.none,.none] }) rfl;rw [hz] at q;exact q
 exact ⟨⟨_,he,rfl⟩,h _ he ⟨_,get?_push_of_some _ (get?_push_size _ rfl),rfl,rfl⟩ (by rw [size_push,hz]) fun b o q=>get?_push_of_some _ (get?_push_of_some _ q)⟩
end
section
variable {X:Cx} {pins:List (Addr × Obj)} {σ:St} {H:Hp} {s:Shared} {h':Heap}
theorem Inv.turned2 {t':Nat} {en nu p:Addr} {o:HO} (I:Inv X pins σ H s) (k:∀ b u,b≠en->b≠nu->s.heap.get? b=some u->h'.get? b=some u) (f1:FpOk X pins H en) (f2:FpOk X pins H nu) (hp:s.heap.objs.size<=p)
  (he:∃ u,h'.get? en=some u) (hu:∃ u,h'.get? nu=some u) (new:ObjOk X.prog X.w (upd H p o) h' p o):Inv X pins σ (upd H p o) { s with heap:=h',toks:=t' }:=by
 have hn:H p=none:=I.hok.fresh hp;have lt:∀ b u,s.heap.get? b=some u->b≠p:=fun b u e=>Nat.ne_of_lt (Nat.lt_of_lt_of_le (lt_size e) hp);have ne1:∀ b u,H b=some u->b≠en:=fun b u e z=>by rw [z,f1.1] at e;cases e
 have ne2:∀ b u,H b=some u->b≠nu:=fun b u e z=>by rw [z,f2.1] at e;cases e
 have nc:∀ b,b ∉ [en,nu]->b≠en/\b≠nu:=fun b hb=>⟨fun z=>hb (by simp [z]),fun z=>hb (by simp [z])⟩;refine I.step (g':=s.gens) (d':=s.drawn) (ch:=[en,nu]) (fun b hb=>?_) (fun b u _ _ hc e _=>k b u (nc b hc).1 (nc b hc).2 e) (fun b u _ _ hc e _=>⟨u.slots,k b u (nc b hc).1 (nc b hc).2 e⟩) (fun b u hc e n=>by rw [Je (lt b u e)];exact n)
  (fun b u hc e=>⟨u,k b u (nc b hc).1 (nc b hc).2 e⟩) (fun b xs e=>by rw [Je (Ja e hn)];exact e) (fun b u v e=>by rw [Je (Ja e hn)];exact e) (fun b ps e=>⟨#[],by rw [Je (Ja e hn),e];simp⟩) (fun m hm=>?_) (fun b u e=>?_) I.bare
 ·have hb:b=en\/b=nu:=by simpa using hb
  rcases hb with rfl | rfl
  ·exact ⟨f1.2.2.2.1,f1.2.1,f1.2.2.2.2.1,f1.2.2.2.2.2⟩
  ·exact ⟨f2.2.2.2.1,f2.2.1,f2.2.2.2.2.1,f2.2.2.2.2.2⟩
 ·obtain ⟨ob,es,ep,ho,r⟩:=hm;exact ⟨ob,es,ep,k _ ob (Ne.symm f1.2.1) (Ne.symm f2.2.1) ho,r⟩
 ·by_cases hb:b=p
  ·subst hb;rw [J1] at e;cases e;exact new
  ·rw [Je hb] at e;refine (I.hok b u e).stay (fun c v hc q=>k c v ?_ ?_ q) (fun c q=>by rw [Je (Ja q hn)];exact q) fun c xs q=>by rw [Je (Ja q hn)];exact q
   ·rcases hc with q | q
    ·rw [q];exact ne1 b u e
    ·exact ne1 c _ q
   ·rcases hc with q | q
    ·rw [q];exact ne2 b u e
    ·exact ne2 c _ q
end
def Ite (K:PySem.W.Frag) (a:Addr):It :=
 ⟨fun i H=>∃ xs x,SqT K H a xs/\xs[i]?=some x,fun i H v H'=>∃ p x,v=.ref p/\H p=none/\H'=upd H p (.tup [.int (i:Int),x])/\∀ xs,SqT K H a xs->xs[i]?=some x,fun i H=>∃ xs,SqT K H a xs/\xs.length<=i⟩
theorem turn_enum {P:Program} {w:World} {K:PySem.W.Frag} {elts:List Expr} {kk:Nat} {tp:Pos} (a en nu:Addr) (hne:en≠nu):Turn P w K (.Tuple elts kk tp) (Ite K a) [en,nu] en (fun i h=>(∃ old,IsEnum h en nu (i:Int) old)/\h.IsTupleIter nu a i) where
 mem:=by simp
 obj:=fun i h st b hb=>by
  obtain ⟨⟨old,e1⟩,o,e2,_,d2⟩:=st;have hb:b=en\/b=nu:=by simpa using hb
  rcases hb with rfl | rfl
  ·exact ⟨_,e1,fun v z=>by
    have z':Data.fields _=Data.cell v:=z;cases z'⟩
  ·exact ⟨_,e2,fun v z=>by rw [d2] at z;cases z⟩
 keep:=fun i h h' st k=>by
  obtain ⟨⟨old,e1⟩,o,e2,r⟩:=st;exact ⟨⟨old,k en (by simp) _ e1⟩,o,k nu (by simp) _ e2,r⟩
 item:=by
  intro X hP hw hK hc i pins s σ H E I hf st hg;subst hP hw hK;obtain ⟨⟨old,e1⟩,e2⟩:=st;obtain ⟨xs,x,hq,hx⟩:=hg;obtain ⟨its,r,pl,hz⟩:=I.tuple hq;obtain ⟨u,hu,ru⟩:=r.get hx;have f1:=hf en (by simp);have f2:=hf nu (by simp);refine enumT_item e1 e2 (show s.heap.IsTuple a its.toArray from pl) (y:=u) (by simpa using hu) hne fun g o1 n1 t1 z1 k1=>?_;refine ⟨_,rfl,?_⟩;have he:en < s.heap.objs.size:=lt_size e1;refine wpAny_letOwnedTupleGo_enum o1 fun g2 e3 sb=>?_;have sb:Heap.SameBut en g g2:=sb;have n2:g2.IsTupleIter nu a (i + 1):=n1.extBut sb.extBut (Ne.symm hne);have kk2:∀ b o,b≠en->b≠nu->s.heap.get? b=some o->g2.get? b=some o:=fun b o h1 h2 e=>(sb.2 b h1).trans (k1 b o h1 h2 e);have t2:g2.get? s.heap.objs.size=some { cls:=.type "tuple",data:=.seq #[.int i s.toks,u] }:=(sb.2 _ (Nat.ne_of_gt he)).trans t1;obtain ⟨on,hon,_⟩:=id n2;have J:=I.turned2 (t':=s.toks + 1) (o:=.tup [.int (i:Int),x]) (p:=s.heap.objs.size) kk2 f1 f2 (Nat.le_refl _) ⟨_,e3⟩ ⟨_,hon⟩
   ⟨(by show 2<=sizeLine;decide),[.int i s.toks,u],.cons ⟨_,rfl⟩ (.cons ru .nil),⟨_,t2,⟨rfl,rfl⟩,_,rfl⟩⟩
  have hfr:H s.heap.objs.size=none:=I.hok.fresh (Nat.le_refl _);have cast:((i + 1:Nat):Int)=(i:Int) + 1:=by omega
  refine ⟨.ref s.heap.objs.size,_,J,rfl,⟨_,x,rfl,hfr,rfl,fun ys hy=>?_⟩,⟨⟨u,by rw [cast];exact e3⟩,n2⟩,fun b hb=>?_⟩
  ·rw [<- I.tuple_inj hq hy];exact hx
  ·have hbl:b < s.heap.objs.size:=by
    have hb:b=en\/b=nu:=by simpa using hb
    rcases hb with rfl | rfl
    ·exact he
    ·obtain ⟨o,ho,_⟩:=e2;exact lt_size ho
   rw [Je (Nat.ne_of_lt hbl)];exact (hf b hb).1
 done:=by
  intro X hP hw hK hc i pins s σ H E I hf st hg;subst hP hw hK;obtain ⟨⟨old,e1⟩,e2⟩:=st;obtain ⟨xs,hq,hl⟩:=hg;obtain ⟨its,r,pl,hz⟩:=I.tuple hq;obtain ⟨f0,f1,f2,f3,f4,f5⟩:=hf nu (by simp);refine enumT_end (I.ok.hd hc) e1 e2 (show s.heap.IsTuple a its.toArray from pl) (by have:=r.length;simp;omega) fun g eb=>⟨rfl,I.turned (t':=s.toks) (fun b o hb e=>eb b o hb e) f0 f1 f3 f4 f5⟩
 self:=fun A i s Q E st h=>by
  obtain ⟨⟨old,e1⟩,_⟩:=st;exact wpAny_pyIter_enum e1 h
section
variable {X:Cx}
def iEnum (K:PySem.W.Frag) (ta:TA):TI:=fun σ H R=>ta σ H fun vs H1=>∃ a,vs=[.ref a]/\(∃ xs,SqT K H1 a xs)/\R (Ite K a) H1
theorem pi_enum {elts:List Expr} {kk:Nat} {tp:Pos} {a:Expr} {ta:TA} {p pos:Pos} (hg:Gl X "enumerate") (hm:X.mg "enumerate"=none) (ha:PA X [a] ta) (hs:starEach [a] X.env=[(false,eval a X.env)]:=by rfl):PI X (.Tuple elts kk tp) (.Call (.Name "enumerate" p) [a] [] pos) (iEnum X.K ta):=by
 intro pins s σ H R I h;refine Call_ (J5m I hg hm boot_enumerate (callWith_type1 (thn (ha pos pins s σ H _ I h) fun us s1 h9=>?_) hs rfl));obtain ⟨vs,H1,I1,r1,q1⟩:=h9;obtain ⟨a,e,⟨xs,hq⟩,q⟩:=q1;subst e;obtain ⟨u,rfl,ru⟩:=vals1 r1;cases ru;obtain ⟨its,r,pl,hz⟩:=I1.tuple hq;refine call_enumT (show s1.heap.IsTuple a its.toArray from pl) fun g e1 e2 z1 k1=>?_;have I2:Inv X pins σ H1 { s1 with heap:=g }:=I1.kept (t':=s1.toks) k1;refine wpAny_pyIter_enum e1 ?_;refine ⟨_,_,_,_,H1,rfl,I2,turn_enum a _ _ (Nat.succ_ne_self _),⟨⟨.none,e1⟩,e2⟩,fun b hb=>?_,q⟩;have hb:b=s1.heap.objs.size + 1\/b=s1.heap.objs.size:=by simpa using hb
 have hbs:s1.heap.objs.size<=b:=by
  rcases hb with e | e
  ·rw [e];exact Nat.le_succ _
  ·rw [e];exact Nat.le_refl _
 exact I1.fpOk hbs (I1.hok.fresh hbs)
theorem for_enum {K:PySem.W.Frag} {a:Addr} {xs:List V} {g:TG} {tb:TS} {D:Ends} {σ:St} {H:Hp} (Pv:Nat->St->Hp->Prop) (h0:Pv 0 σ H) (hl:∀ i σ H,i<=xs.length->Pv i σ H->SqT K H a xs)
  (hs:∀ i x σ H p,xs[i]?=some x->Pv i σ H->H p=none->g (.ref p) σ (upd H p (.tup [.int (i:Int),x])) fun σ2 H2=>tb { D with nx:=Pv (i + 1),ct:=Pv (i + 1),bk:=D.nx } σ2 H2) (hd:∀ σ H,Pv xs.length σ H->D.nx σ H) :
  ∃ W:Nat->Nat->St->Hp->Prop,(∃ m,W 0 m σ H)/\∀ i m σ H,W i m σ H->
   ((Ite K a).stop i H/\D.nx σ H)\/((Ite K a).go i H/\∃ N:St->Hp->Prop,(∀ σ' H',N σ' H'->∃ m',m' < m/\W (i + 1) m' σ' H')/\∀ x H',(Ite K a).yld i H x H'->g x σ H' fun σ2 H2=>tb { D with nx:=N,ct:=N,bk:=D.nx } σ2 H2):=by
 refine ⟨fun i m σ H=>m=xs.length - i/\i<=xs.length/\Pv i σ H,⟨xs.length,by simp,Nat.zero_le _,h0⟩,?_⟩;rintro i m σ H ⟨rfl,hi,p⟩;have q:=hl i σ H hi p;by_cases hlt:i < xs.length
 ·refine .inr ⟨⟨xs,xs[i],q,by simp [hlt]⟩,Pv (i + 1),fun σ' H' p'=>⟨xs.length - (i + 1),by omega,rfl,hlt,p'⟩,fun v H' y=>?_⟩;obtain ⟨pp,x,rfl,hn,rfl,y⟩:=y;exact hs i x σ H pp (y xs q) p hn
 ·have e:i=xs.length:=by omega
  subst e;exact .inl ⟨⟨xs,q,Nat.le_refl _⟩,hd σ H p⟩
end
end L2
namespace L2
open PySem PySem.Spec PyProof.Rows
end L2
namespace L2
open PySem PySem.Spec PyProof.Rows
def bmV:List Value:=[.type "ValueError",.type "Exception",.type "BaseException",.type "object"]
theorem ObjOk.has {P:Program} {w:World} {H:Hp} {h:Heap} {a:Addr} {o:HO} (x:ObjOk P w H h a o):∃ u,h.get? a=some u:=by
 cases o with
 | lst xs=>obtain ⟨_,_,_,_,e⟩:=x;exact ⟨_,e⟩
 | tup xs=>obtain ⟨_,_,_,ob,e,_⟩:=x;exact ⟨_,e⟩
 | dK kvs=>obtain ⟨_,_,_,_,o,_,_,e,_⟩:=x;exact ⟨_,e⟩
 | dT kvs=>obtain ⟨_,_,_,_,o,_,_,e,_⟩:=x;exact ⟨_,e⟩
 | set S n=>obtain ⟨o,_,_,_,e,_⟩:=x;exact ⟨_,e⟩
 | ins C dx fs=>obtain ⟨_,_,_,e,_⟩:=x;exact ⟨_,e⟩
 | own y=>exact x
 | xd fs=>obtain ⟨_,⟨_,_,_,e,_⟩,_⟩:=x;exact ⟨_,e⟩
 | rng lo hi=>obtain ⟨_,_,_,e⟩:=x;exact ⟨_,e⟩
 | frz ob u=>obtain ⟨e,_⟩:=x;exact ⟨_,e⟩
 | tbl ps=>exact ⟨_,(show h.get? a=some _ from x)⟩
 | met f y=>exact ⟨_,(show h.get? a=some _ from x)⟩
 | ext φ=>obtain ⟨_,e,_⟩:=x;exact e
theorem HOk.over {P:Program} {w:World} {H:Hp} {h h' B:Heap} (ok:HOk P w H h) (t:∀ b o,H b=some o->∃ u,B.get? b=some u) (k:B.StaysIn h) (k':B.StaysIn h'):HOk P w H h':=fun b u e=>by
 refine (ok b u e).stay (fun c v hc q=>?_) (fun _ q=>q) fun _ _ q=>q;have hc':∃ x,B.get? c=some x:=by
  rcases hc with z | z
  ·rw [z];exact t b u e
  ·exact t c _ z
 obtain ⟨x,hx⟩:=hc';have:=k c x hx;rw [q] at this;cases this;exact k' c _ hx
def Exc1 (P:Program) (w:World):CXT:=fun outer H s E e s'=>∃ (ea:Addr) (cls:Value) (H':Hp) (B:Heap) (a0:Value),e=.ref ea/\s'.os=s.os/\AllBare s'.gens/\Heap.FlyingW B outer ea cls a0 s'.heap/\
 Un (frs outer) [] H H' s.heap s'.heap/\HOk P w H' s'.heap/\H' ea=none/\s.heap.get? ea=none/\(∀ b o,H' b=some o->∃ u,B.get? b=some u)/\(∀ b u,s.heap.get? b=some u->b ∉ frs outer->∃ v,B.get? b=some v)/\E cls none H'
section
variable {P:Program} {w:World} {K:PySem.W.Frag} {mg:Str->Option Value} {base:Heap} {N:List Str} {qual:Str} {scope:Scope} {f:Addr} {cd:Value} {A:Around} {outer:List Env} {s0:Shared} {H0:Hp} {E:XK} {pins:List (Addr × Obj)} {σ:St} {H:Hp} {s:Shared}
theorem J5i {h B:Heap} {l:List Env} (x:h.FunFrames B l) {b:Addr} (hb:b∈frs l):∃ o,h.get? b=some o/\∀ vs,o.data≠.fields vs:=(x.mem hb).2
theorem J4b {b:Addr} {env:Env} {L:Addr} (hf:env.frame=some L) {l:List Env}:b∈frs (env :: l)↔b=L\/b∈frs l:=by
 unfold frs;rw [List.filterMap_cons,hf];simp
theorem xe_made {ea:Addr} {cls:Value} {args:List Value} {h':Heap} (I:Inv (cxOf (Exc1 P w) P w K mg base N qual scope f cd A outer s0 H0 E) pins σ H s) (hx:Heap.MadeExcOf s.heap h' ea cls args) (q:E cls none H) :
  (cxOf (Exc1 P w) P w K mg base N qual scope f cd A outer s0 H0 E).xe (.ref ea) { s with heap:=h' }:=by
 have fr:s.heap.FunFrames base (envOfC qual scope s0.heap.objs.size f cd :: outer):=I.stack;have hin:∀ env∈(envOfC qual scope s0.heap.objs.size f cd :: outer),∀ b,env.frame=some b->b∈frs (envOfC qual scope s0.heap.objs.size f cd :: outer):=fun env he b hb=>List.mem_filterMap.mpr ⟨env,he,hb⟩;have fl:∀ {b:Addr},b∈frs (envOfC qual scope s0.heap.objs.size f cd :: outer)↔b=s0.heap.objs.size\/b∈frs outer:=J4b rfl;have inB:∀ b u,s.heap.get? b=some u->b ∉ frs (envOfC qual scope s0.heap.objs.size f cd :: outer)->(hideAll s.heap (frs (envOfC qual scope s0.heap.objs.size f cd :: outer))).get? b=some u:=fun b u e n=>hideAll_get _ e n;have nL:∀ b u,s0.heap.get? b=some u->b≠s0.heap.objs.size:=fun b u e=>Nat.ne_of_lt (lt_size e);have nf:∀ b u,s0.heap.get? b=some u->b ∉ frs outer->b ∉ frs (envOfC qual scope s0.heap.objs.size f cd :: outer):=fun b u e n z=>(fl.mp z).elim (nL b u e) n;refine wpAny_leaves_madeW (base:=hideAll s.heap (frs (envOfC qual scope s0.heap.objs.size f cd :: outer))) (h:=s.heap) (L:=s0.heap.objs.size) I.ok.frames rfl (fun b o z=>of_hideAll _ z) (PySem.W.funFrames_hide fr hin) hx fun h'' t fly tup nt ups=>?_;have up:∀ b o,s.heap.get? b=some o->b∈frs (envOfC qual scope s0.heap.objs.size f cd :: outer)->∃ sl,h''.get? b=some { o with slots:=sl }:=fun b o e hb=>by
  obtain ⟨o',e',nd⟩:=J5i fr hb;rw [e] at e';cases e';exact ups b o (hx.keeps b o e) nd
 have there:∀ b o,s.heap.get? b=some o->∃ o',h''.get? b=some o':=fun b o e=>by
  by_cases hb:b∈frs (envOfC qual scope s0.heap.objs.size f cd :: outer)
  ·obtain ⟨sl,z⟩:=up b o e hb;exact ⟨_,z⟩
  ·exact ⟨o,fly.1 b o (inB b o e hb)⟩
 have trk:∀ b o,H b=some o->∃ u,(hideAll s.heap (frs (envOfC qual scope s0.heap.objs.size f cd :: outer))).get? b=some u:=fun b o e=>by
  obtain ⟨u,hu⟩:=(I.hok b o e).has;refine ⟨u,inB b u hu fun z=>?_⟩;have:=I.stkFree b z;rw [e] at this;cases this
 refine ⟨ea,cls,H,_,_,rfl,I.os,I.bare,fly,⟨fun b o e n hb _=>?_,fun b o e n hb _=>?_,fun b o e n hb=>I.base.free b o e n hb,fun b o e _=>?_,I.base.tups,I.base.frzs,I.base.tbls⟩,I.hok.over trk (fun b o z=>of_hideAll _ z) fly.1,?_,?_,trk,fun b u e n=>?_,q⟩
 ·exact fly.1 b o (inB b o (I.base.keep b o e n hb (by simp [cxOf])) (nf b o e hb))
 ·obtain ⟨sl,e1⟩:=I.base.slot b o e n hb (by simp [cxOf]);obtain ⟨sl',e2⟩:=up b _ e1 (fl.mpr (.inr hb));exact ⟨sl',e2⟩
 ·obtain ⟨o',e1⟩:=I.base.there b o e (by simp [cxOf]);exact there b o' e1
 ·cases z:H ea with
  | none=>rfl
  | some o =>
   obtain ⟨u,hu⟩:=(I.hok ea o z).has;have hnew:=hx.new;rw [hu] at hnew;cases hnew
 ·cases z:s0.heap.get? ea with
  | none=>rfl
  | some o =>
   obtain ⟨o',e1⟩:=I.base.there ea o z (by simp [cxOf]);have hnew:=hx.new;rw [e1] at hnew;cases hnew
 ·obtain ⟨o',e1⟩:=I.base.there b u e (by simp [cxOf]);exact ⟨o',inB b o' e1 (nf b u e n)⟩
theorem pass1:J3a (Exc1 P w) (cxOf (Exc1 P w) P w K mg base N qual scope f cd A outer s0 H0 E) E:=by
 rintro pins σ H s e s' I ⟨ea,cls,H',B,a0,rfl,os,bare,fly,un,hok,hea,new,trk,inB,q⟩;have fl:∀ {b:Addr},b∈frs (envOfC qual scope s0.heap.objs.size f cd :: outer)↔b=s0.heap.objs.size\/b∈frs outer:=J4b rfl;have nf:∀ b u,s0.heap.get? b=some u->b ∉ frs outer->b ∉ frs (envOfC qual scope s0.heap.objs.size f cd :: outer):=fun b u e n z=>(fl.mp z).elim (Nat.ne_of_lt (lt_size e)) n;have fly0:Heap.FlyingW B (envOfC qual scope s0.heap.objs.size f cd :: outer) ea cls a0 s'.heap:=fly;have un:Un (frs (envOfC qual scope s0.heap.objs.size f cd :: outer)) [] H H' s.heap s'.heap:=un;have inB:∀ b u,s.heap.get? b=some u->b ∉ frs (envOfC qual scope s0.heap.objs.size f cd :: outer)->∃ v,B.get? b=some v:=inB;refine wpAny_leaves_onW (L:=s0.heap.objs.size) I.ok.frames rfl fly0 fun h'' fly2 ups=>?_;have stay:∀ b o,s.heap.get? b=some o->b ∉ frs (envOfC qual scope s0.heap.objs.size f cd :: outer)->∀ o',s'.heap.get? b=some o'->h''.get? b=some o':=fun b o e n o' e'=>by
  obtain ⟨v,hv⟩:=inB b o e n;have:=fly0.1 b v hv;rw [e'] at this;cases this;exact fly2.1 b _ hv
 refine ⟨ea,cls,H',B,a0,rfl,os.trans I.os,bare,fly2,⟨fun b o e n hb _=>?_,fun b o e n hb _=>?_,fun b o e n _=>?_,fun b o e _=>?_,fun b xs e=>un.tups b xs (I.base.tups b xs e),fun b o u e=>un.frzs b o u (I.base.frzs b o u e),fun b ps e=>?_⟩,hok.over trk fly0.1 fly2.1,hea,?_,trk,fun b u e n=>?_,q⟩
 ·have e1:=I.base.keep b o e n hb (by simp [cxOf]);have n1:=I.base.free b o e n (by simp [cxOf]);exact stay b o e1 (nf b o e hb) o (un.keep b o e1 n1 (nf b o e hb) (by simp))
 ·obtain ⟨sl,e1⟩:=I.base.slot b o e n hb (by simp [cxOf]);have n1:=I.base.free b o e n (by simp [cxOf]);obtain ⟨sl',e2⟩:=un.slot b _ e1 n1 (fl.mpr (.inr hb)) (by simp);obtain ⟨o',e3,nd⟩:=J5i fly0.2.2.1 (fl.mpr (.inr hb));rw [e2] at e3;cases e3;obtain ⟨sl'',e4⟩:=ups b _ e2 nd;exact ⟨sl'',e4⟩
 ·obtain ⟨o',e1⟩:=I.base.there b o e (by simp [cxOf]);exact un.free b o' e1 (I.base.free b o e n (by simp [cxOf])) (by simp)
 ·obtain ⟨o',e1⟩:=I.base.there b o e (by simp [cxOf]);obtain ⟨o2,e2⟩:=un.there b o' e1 (by simp);by_cases hb:b∈frs outer
  ·obtain ⟨o3,e3,nd⟩:=J5i fly0.2.2.1 (fl.mpr (.inr hb));obtain ⟨sl,e4⟩:=ups b o3 e3 nd;exact ⟨_,e4⟩
  ·exact ⟨o2,stay b o' e1 (nf b o e hb) o2 e2⟩
 ·obtain ⟨m1,e1⟩:=I.base.tbls b ps e;obtain ⟨m2,e2⟩:=un.tbls b _ e1;exact ⟨m1 ++ m2,by rw [e2,Array.append_assoc]⟩
 ·cases z:s0.heap.get? ea with
  | none=>rfl
  | some o =>
   obtain ⟨o',e1⟩:=I.base.there ea o z (by simp [cxOf]);rw [e1] at new;cases new
 ·obtain ⟨o',e1⟩:=I.base.there b u e (by simp [cxOf]);exact inB b o' e1 (nf b u e n)
theorem passF {X:Cx}:J3a (Exc1 P w) X E0:=by
 rintro pins σ H s e s' I ⟨_,_,_,_,_,_,_,_,_,_,_,_,_,_,_,q⟩;exact False.elim q
theorem exc_obj {h:Heap} {C:Addr} {bmB:List Value} {nid:String} (X:K.In h) (q:excIn K C bmB nid=true) :
  ∃ bm N nm qn bs hdct sn sub ab col dd k0 k1 k2 k3 k5 mN,h.get? C=some (excClassObj nm qn C N bs bm hdct sn sub ab col dd k0 k1 k2 k3 k5 nid)/\h.Ns N mN/\mN "__init__"=none/\OwnTail h bmB bm:=by
 unfold excIn at q;split at q
 ·rename_i dd cdd sl ho;split at q
  ·rename_i C' bm k0 k1 k2 k3 n k5 hm hs;simp only [Bool.and_eq_true,beq_iff_eq,Bool.not_eq_true'] at q;obtain ⟨⟨⟨⟨⟨rfl,rfl⟩,q1⟩,q2⟩,q3⟩,q4⟩:=q;obtain ⟨nm,bs,mro,ns,qn,hd,sn,sub,ab,col,del⟩:=cdd;dsimp only at hm q1 q3 q4;subst hm q1;obtain ⟨l⟩:=sl;simp only at hs;subst hs;exact ⟨bm,ns,nm,qn,bs,hd,sn,sub,ab,col,dd,k0,k1,k2,k3,k5,_,X _ _ ho,.of_isNs (isNs_of_in X q3),PySem.W.nsMap_none_of_in X q3 q4,PySem.W.tail_of_in X q2⟩
  ·cases q
 ·cases q
theorem ps_raise {x:Str} {C:Addr} {msg:Str} {j:Nat} {p1 np cpos pos:Pos} (hg:Gl (cxOf (Exc1 P w) P w K mg base N qual scope f cd A outer s0 H0 E) x) (hm:mg x=some (.ref C)) (q:excIn K C bmV "ValueError.__new__"=true) (hdb:(x == ("__debug__":Str))=false:=by decide) :
  PS (cxOf (Exc1 P w) P w K mg base N qual scope f cd A outer s0 H0 E) (.Raise (some (.Call (.Name x np) [.Constant (.str msg) j p1] [] cpos)) none pos) (fun D σ H=>E (.ref C) none H):=by
 intro pins s σ H D I h;obtain ⟨bm,NN,nm,qn,bs,hdct,sn,sub,ab,col,dd,k0,k1,k2,k3,k5,mN,hC,hN,hni,T⟩:=exc_obj (I.ok.mod.kin) q;refine wpAny_Raise_call_subT (C:=C) (nm:=nm) (q:=qn) (N:=NN) (bs:=bs) (bm:=bm) (hdct:=hdct) (sn:=sn) (sub:=sub) (ab:=ab) (col:=col) (dd:=dd) (k0:=k0) (k1:=k1) (k2:=k2) (k3:=k3) (k5:=k5)
  PySem.F.excBase_ValueError (mN:=mN) (T.hasType PySem.F.excBase_ValueError.hasBase) (I.ok.hd rfl) rfl hni (J3p I hg hm ⟨rfl,?_⟩ hdb)
 refine Calls.evalArgs_plain (thn ((J0 (Jn (X:=cxOf (Exc1 P w) P w K mg base N qual scope f cd A outer s0 H0 E)) J4) cpos pins s σ H (fun vs H'=>H'=H/\vs.length=1) I ⟨rfl,rfl⟩) fun us s2 h9=>?_);obtain ⟨vs,H2,I2,r,e2,e3⟩:=h9;subst e2;have hl:us.length<=sizeLine:=by rw [<- r.length,e3];decide
 exact ⟨rfl,hl,I2.bk _ _ hC,hN.keeps I2.bk,T.keeps I2.bk,fun h' e hm=>xe_made I2 hm h⟩
end
theorem ps_nox {X:Cx} {st:Stmt} {t:TS} (h:PS X.nox st t):PS X st t:=fun pins s σ H D I hw =>
 wpAny_mono (h pins s σ H D (I.wish _) hw) (fun _ _ z=>z.unwish) fun _ _ z=>False.elim z
end L2
namespace L2
open PySem PySem.Spec PyProof.Rows
def Cx.caught (X:Cx) (ea:Addr):Cx:={ X with A:=X.A.mark (some (.ref ea)),calm:=false,xe:=fun _ _=>False }
def Ends.unset (D:Ends) (i:Nat):Ends:={ nx:=fun σ H=>D.nx (σ.set i none) H,rt:=D.rt,bk:=fun σ H=>D.bk (σ.set i none) H,ct:=fun σ H=>D.ct (σ.set i none) H }
section
variable {X:Cx} {pins:List (Addr × Obj)} {σ:St} {H:Hp} {s:Shared} {ea:Addr}
theorem Cx.Ok.caught (ok:X.Ok) (ea:Addr):(X.caught ea).Ok :=
 ⟨ok.mod,ok.kind,ok.glob,ok.blt,ok.above,ok.inj,ok.has,ok.cab,(fun z=>Bool.noConfusion z),ok.frames,ok.stk,ok.exf,ok.bs,ok.bsz,ok.noex,ok.exfs,ok.funs,ok.frf⟩
theorem Inv.caught (I:Inv X pins σ H s) (ea:Addr):Inv (X.caught ea) pins σ H s:=⟨I.ok.caught ea,I.os,I.bare,I.base,I.loc,I.cell,I.free,I.freeC,I.pin,I.hok,I.len⟩
theorem Inv.uncaught (I:Inv (X.caught ea) pins σ H s) (ok:X.Ok):Inv X pins σ H s:=⟨ok,I.os,I.bare,I.base,I.loc,I.cell,I.free,I.freeC,I.pin,I.hok,I.len⟩
theorem J2m {M:Model} {A:Around} {E:Value->Shared->Prop} {i:Nat} {x:Str} {pos:Pos} {Q:Unit->Shared->Prop} (I:Inv X pins σ H s) (hN:X.N.Nodup) (hi:X.N[i]?=some x) (hk:X.env.scope.names.lookup x=some .local)
  (h:∀ s',Inv X pins (σ.set i none) H s'->Q () s'):wpAny M A (do bindName X.env x .none;unbindBehindTheSuite X.env x pos) Q E s:=by
 obtain ⟨m,hn,hl⟩:=id I.loc;have hcls:(X.env.scope.kind == .class || (X.env.scope.kind == .module && X.env.locals != X.env.globals))=false:=by rw [I.ok.kind];rfl
 have hiσ:i < σ.length:=by rw [I.len];exact (List.getElem?_eq_some_iff.mp hi).1
 have cne:=I.cne;obtain ⟨oL,_,_,hoL,_⟩:=id hn;refine wpAny_nameGoes_keeps hk hn hcls fun h' v hn' hs=>?_;have nL:∀ b o,X.s₀.heap.get? b=some o->b≠X.env.locals:=fun b o e=>Nat.ne_of_lt (Nat.lt_of_lt_of_le (lt_size e) I.ok.above);refine h _ ⟨I.ok,I.os,I.bare,⟨fun b o e n hb hx=>?_,fun b o e n hb hx=>?_,I.base.free,fun b o e hx=>?_,I.base.tups,I.base.frzs,I.base.tbls⟩,⟨_,hn',fun j y v' e1 e2 e3=>?_⟩,fun y c e=>?_,I.free,I.freeC,fun p hp=>?_,fun b ob e=>?_,by simpa using I.len⟩
 ·exact (hs.2 b (nL b o e)).trans (I.base.keep b o e n hb hx)
 ·obtain ⟨sl,e1⟩:=I.base.slot b o e n hb hx;exact ⟨sl,(hs.2 b (nL b o e)).trans e1⟩
 ·obtain ⟨o',e1⟩:=I.base.there b o e hx;exact ⟨o',(hs.2 b (nL b o e)).trans e1⟩
 ·by_cases hj:j=i
  ·subst hj;rw [getElem?_set_self hiσ] at e2;cases e2
  ·rw [List.getElem?_set_ne (Ne.symm hj)] at e2;obtain ⟨u',r',q⟩:=hl j y v' e1 e2 e3;refine ⟨u',r',?_⟩;rcases q with ⟨k,e⟩ | ⟨k,c,e,z⟩
   ·refine .inl ⟨k,?_⟩;have:y≠x:=fun e=>hj (J5h hN e1 (e ▸ hi));simp [this,e]
   ·exact .inr ⟨k,c,e,z.sameBut hs (cne y c e)⟩
 ·obtain ⟨w',z⟩:=I.cell y c e;exact ⟨w',z.sameBut hs (cne y c e)⟩
 ·obtain ⟨e,n,ne,nf,d⟩:=I.pin p hp;exact ⟨(hs.2 p.1 ne).trans e,n,ne,nf,d⟩
 ·refine (I.hok b ob e).stay (fun c w' hc q=>(hs.2 c ?_).trans q) (fun _ q=>q) fun _ _ q=>q;rintro rfl;have hfree:=I.free;rcases hc with z | hc
  ·rw [<- z,hfree] at e;cases e
  ·rw [hfree] at hc;cases hc
variable {i:Nat} {n cx:Str} {c:Value} {b₀:Stmt} {suite:List Stmt} {hpos np:Pos} {tb:Addr->TS} {D:Ends}
end
theorem Fun.okX {P:Program} {w:World} {K:PySem.W.Frag} {mg:Str->Option Value} {base:Heap} {x qual:Str} {st:Stmt} {f:Addr} {fd:FuncData} {N ps:List Str} {k:Nat} {sp:Sp} (F:Fun K x qual st f fd) (S:FnScope N ps (J9 st)) (len:∀ vs H Q E,sp vs H Q E->vs.length=ps.length)
  (hbody:∀ (cdv:Value) (A:Around) (outer:List Env) (s:Shared) (H:Hp) (vs:List V) (Q:VK) (E:XK),Room k (A.deeper (envOfC qual (J9 st) s.heap.objs.size f cdv))->sp vs H Q E->
   ∃ t,PSs (cxOf (Exc1 P w) P w K mg base N qual (J9 st) f cdv A outer s H E) (J19 st) t/\t { nx:=fun _ H'=>Q .non H',rt:=Q } (start N vs) H):FnOk P w K mg base (Exc1 P w) (k + 1) f fd ps sp:=by
 obtain ⟨oc,od,kV,doc,pm,an,cdv,ct,osl,rfl,lk,hcd⟩:=F.ex;exact fn_of lk hcd S len fun A outer s H vs Q E hr hsp=>hbody cdv A outer s H vs Q E hr hsp
end L2
namespace L2
open PySem PySem.Spec PyProof.Rows
structure XCls (K:PySem.W.Frag) (D:Addr):Prop where
 ga:PySem.W.findIn K (.ref D) "__getattribute__"=some (some (.builtin "BaseException.__getattribute__"))
 no:PySem.W.findIn K (.ref D) "__getattr__"=some none
 cl:PySem.W.findIn K (.ref D) "__class__"=some (some (.builtin "object.__class__"))
 get:specialIn K (.builtin "object.__class__") "__get__"=some (some (.builtin "getset_descriptor.__get__"))
 tk:takesIn K (.builtin "object.__class__")=some true
 mo:PySem.W.mroIn K D (.type "object")=some true
 mb:PySem.W.mroIn K D (.type "BaseException")=some true
 hd:PySem.W.hasDictIn K D=true
section
open PySem.W
variable {prog:Program} {w:World} {A:Around} {E:Value->Shared->Prop} {K:Frag} {x D:Addr} {hh:Heap} {g:Array GenState} {d:Drawn} {t:Nat} {os:OsState}
theorem x_find {M:Model} (X:K.In hh) (W:XCls K D):Looks M hh (Builtin.ObjectAttr.find (.ref x) (.ref D) "__class__") (.bind (.builtin "getset_descriptor.__get__") (.builtin "object.__class__")):=by
 have e1:=looks_findIn (M:=M) X W.cl;have e2:Looks M hh (Builtin.ObjectAttr.getOf (some (.builtin "object.__class__"))) (some (.builtin "getset_descriptor.__get__")):=looks_specialIn X W.get;have e3:=looks_takesIn (M:=M) X W.tk;have e4:Looks M hh (Builtin.ObjectAttr.dataDescriptor? (some (.builtin "object.__class__")) (some (.builtin "getset_descriptor.__get__"))) (some (.builtin "getset_descriptor.__get__",.builtin "object.__class__")):=e3.andThen .now;exact e1.andThen (e2.andThen (e4.andThen (Looks.tag .now)))
theorem x_get {R:Result->Shared->Prop} {tp:Value} (X:K.In hh) (W:XCls K D) (p:∃ o,hh.get? x=some o/\o.cls=.ref D) (h:R (.ok (.ret (.ref D))) ⟨hh,g,d,t,os⟩) :
  codeAny (model prog w) A (.call (.builtin "getset_descriptor.__get__") ⟨[.builtin "object.__class__",.ref x,tp],[]⟩) R ⟨hh,g,d,t,os⟩:=by
 obtain ⟨o,p1,p2⟩:=p;have L0:Looks (model prog w) hh (typeOf (.ref x)) (.ref D):=p2 ▸ (Looks.ld p1).andThen .now;have L1:=looks_mroIn (M:=model prog w) X W.mo;have ck:=KF.slot_gs.check (M:=model prog w) (A:=A);refine codeAny_call_builtin KF.slot_gs.plain KF.entry_gs ?_;refine KF.slot_gs.check _ _ _ _ _ _ _ _ KF.type_class (KF.args_gs ..) ?_;unfold Builtin.«getset_descriptor.__get__»;unfold Builtin.Getset_descriptor.descrGet;rw [dga_obj];apply wpAny_bind;apply wpAny_pure;unfold Builtin.Getset_descriptor.descrGetter Builtin.Getset_descriptor.descrCheckInstance;unfold Builtin.Getset_descriptor.descrNameAndClass isInstance;simp only [KF.owner_class]
 repeat lk
 refine ⟨Code.quiet_builtin _ (by decide +kernel),?_⟩;refine codeAny_builtin KF.entry_class ?_;unfold Builtin.«object.__class__»;unfold shownTypeOf
 repeat lk
 exact h
theorem x_class {Q:Option Value->Shared->Prop} (X:K.In hh) (W:XCls K D) (p:∃ o,hh.get? x=some o/\o.cls=.ref D) (h:Q (some (.ref D)) ⟨hh,g,d,t + 1,os⟩) :
  wpAny (model prog w) A (getAttr? (.ref x) "__class__") Q E ⟨hh,g,d,t,os⟩:=by
 have p':=p;obtain ⟨o,p1,p2⟩:=p';have L0:Looks (model prog w) hh (typeOf (.ref x)) (.ref D):=p2 ▸ (Looks.ld p1).andThen .now;have L1:=looks_findIn (M:=model prog w) X W.ga;have L2:=looks_findIn (M:=model prog w) X W.no;have L3:=x_find (x:=x) (M:=model prog w) X W;have L4:=looks_mroIn (M:=model prog w) X W.mb;have gb:=PySem.F.attrBase_ValueError.ga.bind (.ref x);unfold getAttr? getAttrBy?;unfold getAttrBy;apply wpAny_bind;apply wpAny_mkText;apply wpAny_bind;apply wpAny_attempt;apply wpAny_holding;apply wpAny_bind;refine L0.at ?_;apply wpAny_bind;refine L1.at ?_;have nb:(Value.builtin "BaseException.__getattribute__" == Value.builtin "object.__getattribute__")=false:=by decide +kernel
 show wpAny _ _ (if (onTheHeap (Value.ref D) && Value.builtin "BaseException.__getattribute__" == Value.builtin "object.__getattribute__")=true then _ else _) _ _ _;rw [nb,Bool.and_false,if_neg Bool.false_ne_true];unfold getAttrByItsOwn hookBefore;apply wpAny_bind;show wpAny _ _ (if onTheHeap (Value.ref D)=true then _ else _) _ _ _;rw [if_pos (show onTheHeap (Value.ref D)=true from rfl)];refine L2.at ?_;apply wpAny_bind;apply wpAny_attempt;apply wpAny_holding;unfold callGetattribute;rw [Bool.false_and,if_neg Bool.false_ne_true];unfold boundAndCalled;rw [gb];apply wpAny_bind;apply wpAny_pure;refine wpAny_call (codeAny_call_builtin PySem.F.attrBase_ValueError.ga.plain PySem.F.entry_bexc_ga ?_);have hk:builtinKind "BaseException.__getattribute__"=some .slot:=by decide +kernel
 have hs:splitId "BaseException.__getattribute__"=some ("BaseException","__getattribute__"):=by decide +kernel
 have ha:=PySem.F.args_bexc_ga (.ref x) (.str "__class__" t);have L5:Looks (model prog w) hh (isInstance (.ref x) (.type "BaseException")) true:=L0.andThen L4;simp only [checkBuiltinCall,hk,hs];apply wpAny_bind;refine L5.at ?_
 repeat (first | assumption | wp_step)
 rw [p2];have e2:Looks (model prog w) hh (Builtin.ObjectAttr.getOf (some (.builtin "object.__class__"))) (some (.builtin "getset_descriptor.__get__")):=looks_specialIn X W.get;have e3:=looks_takesIn (M:=model prog w) X W.tk;have e4:Looks (model prog w) hh (Builtin.ObjectAttr.dataDescriptor? (some (.builtin "object.__class__")) (some (.builtin "getset_descriptor.__get__"))) (some (.builtin "getset_descriptor.__get__",.builtin "object.__class__")):=e3.andThen .now;refine (looks_findIn (M:=model prog w) X W.cl).at ?_;apply wpAny_bind;refine e2.at ?_;apply wpAny_bind;refine e4.at ?_
 repeat (first | assumption | wp_step)
 refine x_get X W p ?_
 repeat (first | assumption | wp_step)
theorem x_isType {M:Model} (X:K.In hh) (W:XCls K D):Looks M hh (isType (.ref D)) true:=by
 obtain ⟨cd,hc,_⟩:=any_some W.hd;unfold clsIn at hc;split at hc
 next ho =>
  intro A' Q' E' s' k q;unfold isType loadHead;apply wpAny_bind;exact wpAny_loadPart (k _ _ (X _ _ ho)) (wpAny_pure q)
 next=>cases hc
theorem kitx_exc (W:XCls K D):KitX K (.ref x) (.ref D) (fun h=>∃ o,h.get? x=some o/\o.cls=.ref D) where
 ty:=fun _ _ _ h9=>by obtain ⟨_,p1,p2⟩:=h9;exact p2 ▸ (Looks.ld p1).andThen .now
 it:=fun _ _ X _=>x_isType X W
 ne:=fun h tp dd its n sl X htp=>by
  obtain ⟨cd,hc,_⟩:=any_some W.hd;apply Bool.eq_false_iff.mpr;intro q;cases beq_iff_eq.mp q;unfold clsIn at hc;split at hc
  next ho=>have z:=X _ _ ho;rw [htp] at z;cases z
  next=>cases hc
 ca:=fun {_ _ _ _ _ s} X p k=>by
  obtain ⟨h0,g0,d0,t0,o0⟩:=s;exact x_class X W p k
end
theorem boolsAre:∀ {bs:List Bool} {us:List Value},Vals (bs.map V.bl) us->us=bs.map Value.bool
 | [],us,r=>by cases r;rfl
 | b :: bs,us,r=>by
  cases r with
  | cons r1 r2 =>
   cases (show _=Value.bool b from r1);rw [boolsAre r2];rfl
end L2
namespace L2
open PySem PySem.Spec PyProof.Rows
end L2
namespace L2
open PySem PySem.Spec PyProof.Rows
def PTs (X:Cx) (ifs:List Expr) (t:TT):Prop :=
 ∀ (pins:List (Addr × Obj)) (s:Shared) (σ:St) (H:Hp) (Q:Bool->Hp->Prop),Inv X pins σ H s->t σ H Q->
  wpAny (model X.prog X.w) X.A (forIn ifs true fun c r=>if r=true then do let ok <- isTrue c X.env (eval c X.env);pure (ForInStep.yield ok) else pure (ForInStep.yield r)) (TP X pins σ Q) X.xe s
def tYes:TT:=fun _ H Q=>Q true H
theorem J1l {X:Cx}:PTs X [] tYes:=fun _ s σ H Q I h=>wpAny_tests_nil ⟨H,I,h⟩
theorem pts_one {X:Cx} {c:Expr} {t:TT} (h:PT X c t):PTs X [c] t:=fun pins s σ H Q I q=>wpAny_tests_one (h pins s σ H Q I q)
theorem J20 {prog:Program} {w:World} {A:Around} {R:Result->Shared->Prop} {s:Shared} {elt target iter:Expr} {ifs:List Expr} {scope:Scope} {pos:Pos} {it acc:Value} {env:Env} (J:Nat->Shared->Prop)
  (turn:∀ n s,J n s->wpAny (model prog w) A (pyNext it) (fun r s₁=>match r with
   | none=>R (.ok .next) s₁
   | some v=>wpAny (model prog w) A (letOwnedTupleGo target it v) (fun _ s₁'=>wpAny (model prog w) A (assign target env v) (fun _ s₂ =>
     wpAny (model prog w) A (forIn ifs true fun c r=>if r=true then do let ok <- isTrue c env (eval c env);pure (ForInStep.yield ok) else pure (ForInStep.yield r)) (fun ok s₃ =>
      if ok=true then wpAny (model prog w) A (eval elt env) (fun x s₄ =>
       wpAny (model prog w) A (call (.builtin "list.append") [acc,x]) (fun _ s₅=>∃ m,m < n/\J m s₅) (fun _ _=>False) s₄) (fun _ _=>False) s₃
      else ∃ m,m < n/\J m s₃) (fun _ _=>False) s₂) (fun _ _=>False) s₁') (fun _ _=>False) s₁) (fun _ _=>False) s)
  (n:Nat) (h:J n s):codeAny (model prog w) A (.compLoop (.ListComp elt [⟨target,iter,ifs,0⟩] scope pos) 0 it acc env) R s:=by
 refine codeAny_loop rfl J (fun n s hI=>?_) n h;show wpAny _ _ ((compTurn (.ListComp elt [⟨target,iter,ifs,0⟩] scope pos) 0 it acc env).onRaise (fun x=>do noteFrame x env;theTreesLotGoes x)) _ _ s;refine wpAny_noted ?_;rw [compTurn_list];refine wpAny_bind (wpAny_standAt (wpAny_bind (wpAny_mono (turn n s hI) (fun r s₁ h₁=>?_) fun _ _ h'=>False.elim h')))
 cases r with
 | none=>exact wpAny_pure h₁
 | some v =>
  refine wpAny_bind (wpAny_mono h₁ (fun _ s₁' h₁'=>?_) fun _ _ h'=>False.elim h');refine wpAny_bind (wpAny_mono h₁' (fun _ s₂ h₂=>wpAny_bind (wpAny_mono h₂ (fun ok s₃ h₃=>?_) fun _ _ h'=>False.elim h')) fun _ _ h'=>False.elim h')
  cases ok with
  | false=>exact wpAny_pure ⟨rfl,h₃⟩
  | true =>
   exact wpAny_bind (wpAny_bind (wpAny_mono h₃ (fun x s₄ h₄=>wpAny_bind (wpAny_mono h₄ (fun _ s₅ h₅=>wpAny_pure (wpAny_pure ⟨rfl,h₅⟩)) fun _ _ h'=>False.elim h')) fun _ _ h'=>False.elim h'))
def LCW (J:It) (tc:TT) (te:TE) (σ:St) (js:List Nat) (Q:VK) (H1:Hp) (d:Addr):Prop:=∃ W:Nat->Nat->List V->Hp->Prop,(∃ m,W 0 m [] (upd H1 d (.lst [])))/\
 ∀ i m ys H2,W i m ys H2->H2 d=some (.lst ys)/\((J.stop i H2/\Q (.ref d) H2)\/(J.go i H2/\ys.length < sizeLine/\∀ v H3,J.yld i H2 v H3->
  tc (some v :: capv σ js) H3 fun b H4=>if b=true then te (some v :: capv σ js) H4 fun y H5=>H5 d=some (.lst ys)/\∃ m',m' < m/\W (i + 1) m' (ys ++ [y]) (upd H5 d (.lst (ys ++ [y])))
   else ∃ m',m' < m/\W (i + 1) m' ys H4))
def tLC (wi:TI) (tc:TT) (te:TE) (js:List Nat):TE:=fun σ H Q=>wi σ H fun J H1=>∀ d,H1 d=none->LCW J tc te σ js Q H1 d
section
variable {X:Cx} {elt iter:Expr} {ifs:List Expr} {x y:Str} {px py:Pos} {scope:Scope} {cl:List (Str × Addr)} {pos spos:Pos} {wi:TI} {tc:TT} {te:TE} {caps:List Str} {js:List Nat} {i:Nat}
theorem comp_core {p0:Pos} {use:Option (Value->Sem Unit)} {QV:Value->Shared->Prop} {Q:VK} {pins:List (Addr × Obj)} {s:Shared} {σ:St} {H:Hp} (hc:X.calm=true) (hp:PI X (.Name x px) iter wi)
  (he:∀ (C:Addr) (fp:List Addr) (s:Shared) (H:Hp),PE (X.block (x :: caps) scope cl C fp s H) elt te)
  (ht:∀ (C:Addr) (fp:List Addr) (s:Shared) (H:Hp),PTs (X.block (x :: caps) scope cl C fp s H) ifs tc)
  (hcell:∀ p∈scope.names,p.2≠.cell) (hnames:∀ p∈scope.names,p.2=.local->scope.names.lookup p.1=some .local) (hnd:(x :: caps).Nodup)
  (hsub:∀ p∈cl,X.env.cells.lookup p.1=some p.2) (hhas:∀ p∈scope.names,p.2=.free->∃ c,cl.lookup p.1=some c) (hlen:caps.length=js.length)
  (hcaps:∀ (k:Nat) (c:Str),caps[k]?=some c->∃ (j:Nat) (a:Addr),js[k]?=some j/\X.N[j]?=some c/\X.env.scope.names.lookup c=some .cell/\cl.lookup c=some a/\(relabel scope X.env).names.lookup c=some .cell)
  (hclos:closureFor scope X.env=pure cl) (hkind:scope.kind=.function) (hx:scope.names.lookup x=some .local) (hs:∀ v,foldedSetIterable iter X.env v=pure v)
  (I:Inv X pins σ H s) (h:tLC wi tc te js σ H Q)
  (fin:∀ (d:Addr) (H':Hp) (s5:Shared) (C:Addr),Inv X pins σ H' s5->Q (.ref d) H'->(∃ m,s5.heap.Ns C m)->FpOk X pins H' C->compPost (model X.prog X.w) X.A X.xe use QV (.ref d) C (.ok .next) s5) :
  wpAny (model X.prog X.w) X.A (comprehension (.ListComp elt [⟨.Name x px,iter,ifs,0⟩] scope pos) scope X.env p0 (newList []) false (eval iter X.env) use) QV X.xe s:=by
 refine wpAny_comprehension_free (cl:=cl) (use:=use) (Q:=QV) rfl hs hclos hkind hnames (thn (hp pins s σ H _ I h) fun v s1 h1=>thn h1 fun itv s2 h2=>?_);obtain ⟨it,fp,tn,J,H2,e,I2,T,st2,f2,h3⟩:=h2;subst e;have hfr:H2 s2.heap.objs.size=none:=I2.hok.fresh (Nat.le_refl _);obtain ⟨W,⟨m0,w0⟩,hW⟩:=h3 s2.heap.objs.size hfr;refine wpAny_newObj_type (wpAny_newFunctionEnv hcell (by intro y hy;simp at hy) (fun h₁ hns₁ hsb₁=>?_) hkind);dsimp only at hns₁ hsb₁ ⊢;generalize hH2:s2.heap.push { cls:=.type "list",dict:=none,data:=.seq ([]:List Value).toArray }=G at hns₁ hsb₁ ⊢;have hC:G.objs.size=s2.heap.objs.size + 1:=by rw [<- hH2,size_push]
 have hDC:s2.heap.objs.size≠G.objs.size:=by rw [hC];exact Nat.ne_of_lt (Nat.lt_succ_self _)
 have hCle:s2.heap.objs.size<=G.objs.size:=by rw [hC];exact Nat.le_succ _
 have old:∀ b o,s2.heap.get? b=some o->h₁.get? b=some o:=fun b o e=>hsb₁.extBut b o (by rw [hC];exact Nat.ne_of_lt (Nat.lt_succ_of_lt (lt_size e))) (get?_push_of_some _ (hH2 ▸ get?_push_of_some _ e));have hacc:h₁.get? s2.heap.objs.size=some { cls:=.type "list",dict:=none,data:=.seq ([]:List Value).toArray }:=hsb₁.extBut _ _ hDC (get?_push_of_some _ (hH2 ▸ get?_push_size _ rfl));have fl:∀ b∈fp,b < s2.heap.objs.size:=fun b hb=>by
  obtain ⟨o,e,_⟩:=T.obj _ _ st2 b hb;exact lt_size e
 have hDf:s2.heap.objs.size ∉ fp:=fun hm=>Nat.lt_irrefl _ (fl _ hm);have hok1:HOk X.prog X.w (upd H2 s2.heap.objs.size (.lst [])) h₁:=I2.hok.laid old (Nat.le_refl _) ⟨Nat.zero_le _,[],0,.nil,hacc⟩;have IY0:∀ tk,Inv (X.block (x :: caps) scope cl G.objs.size fp s2 H2) [] (none :: capv σ js) (upd H2 s2.heap.objs.size (.lst [])) { s2 with heap:=h₁,toks:=tk }:=fun tk=>by
  refine ⟨block_ok I2 hCle f2 fl hkind hcell hsub hhas,rfl,I2.bare,Un.laid old (Nat.le_refl _) hfr,⟨_,hns₁,fun k z v e1 e2 e3=>?_⟩,fun z c e=>?_,?_,fun z c e=>?_,fun p hp=>absurd hp (by simp),hok1,?_⟩
  ·cases k with
   | zero=>simp at e2
   | succ k =>
    have e1':caps[k]?=some z:=by simpa using e1
    have e2':(capv σ js)[k]?=some (some v):=by simpa using e2
    obtain ⟨j,a,q1,q2,q3,q4,q5⟩:=hcaps k z e1';obtain ⟨j',r1,r2⟩:=capv_get e2';rw [q1] at r1;cases r1;obtain ⟨m,hm,hl⟩:=I2.loc;obtain ⟨u,ru,lu⟩:=hl j z v q2 r2 (.inr (.inl q3));refine ⟨u,ru,.inr ⟨.inl q5,a,q4,?_⟩⟩;rcases lu with ⟨k1,_⟩ | ⟨_,c,ec,o,ho,hd⟩
    ·have k1':X.env.scope.names.lookup z=some .local:=k1;rw [q3] at k1';cases k1'
    ·have:=hsub _ (mem_of_lookup q4);rw [ec] at this;cases this;exact ⟨o,old _ _ ho,hd⟩
  ·obtain ⟨v,o,ho,hd⟩:=I2.cell z c (hsub _ (mem_of_lookup e));exact ⟨v,o,old _ _ ho,hd⟩
  ·show upd H2 s2.heap.objs.size (.lst []) G.objs.size=none;rw [Je hDC.symm];exact I2.hok.fresh hCle
  ·have ec:=hsub _ (mem_of_lookup e);obtain ⟨v,o,ho,hd⟩:=I2.cell z c ec;rw [Je (Nat.ne_of_lt (lt_size ho))];exact I2.freeC z c ec
  ·show (none :: capv σ js).length=(x :: caps).length;unfold capv;simp [hlen]
 have stat:∀ {H':Hp},(∀ b∈fp,H' b=none)->∀ b∈fp,FpOk (X.block (x :: caps) scope cl G.objs.size fp s2 H2) [] H' b:=fun hn b hb =>
  ⟨hn b hb,Nat.ne_of_lt (Nat.lt_of_lt_of_le (fl b hb) hCle),(block_ok (x:=x) (caps:=caps) I2 hCle f2 fl hkind hcell hsub hhas).exfs b hb,.inl hb,fun z c e=>(f2 b hb).2.2.2.2.1 z c (hsub _ (mem_of_lookup e)),fun p hp=>absurd hp (by simp)⟩
 have hxl:(relabel scope X.env).names.lookup x=some .local:=lookup_relabel_local hx;have loop:∀ tk,codeAny (model X.prog X.w) X.A (.compLoop (.ListComp elt [⟨.Name x px,iter,ifs,0⟩] scope pos) 0 (.ref it) (.ref s2.heap.objs.size) (compEnvC scope cl G.objs.size X.env))
   (compPost (model X.prog X.w) X.A X.xe use QV (.ref s2.heap.objs.size) G.objs.size) { s2 with heap:=h₁,toks:=tk }:=fun tk=>by
  refine J20 (fun m s'=>∃ (k:Nat) (o:Option V) (ys:List V) (H':Hp),Inv (X.block (x :: caps) scope cl G.objs.size fp s2 H2) [] (o :: capv σ js) H' s'/\tn k s'.heap/\(∀ b∈fp,H' b=none)/\W k m ys H') ?_ m0
   ⟨0,none,[],_,IY0 tk,T.keep _ _ _ st2 fun b hb o e=>old b o e,fun b hb=>by
    rw [Je (show b≠s2.heap.objs.size from fun e=>hDf (by rw [<- e];exact hb))];exact (f2 b hb).1,w0⟩
  rintro m s3 ⟨k,o,ys,H',I3,st3,fr3,w3⟩;obtain ⟨hd,hW3⟩:=hW k m ys H' w3;rcases hW3 with ⟨stop,q⟩ | ⟨go,hz,step⟩
  ·refine thn (T.done (X.block (x :: caps) scope cl G.objs.size fp s2 H2) rfl rfl rfl hc k [] s3 _ _ (fun _ _=>False) I3 (stat fr3) st3 stop) fun r s4 h9=>?_;obtain ⟨hr,I4⟩:=h9;subst hr;have J5:Inv X pins σ H' s4:=I2.call' (ch:=fp) I4.os I4.base I4.hok I4.bare fun b hb=>⟨(f2 b hb).2.2.2.1,(f2 b hb).2.1,(f2 b hb).2.2.2.2.1,(f2 b hb).2.2.2.2.2⟩;exact fin _ H' s4 _ J5 q (by obtain ⟨m,q,_⟩:=I4.loc;exact ⟨m,q⟩) (I2.fpOk hCle I4.free)
  ·refine thn (T.item (X.block (x :: caps) scope cl G.objs.size fp s2 H2) rfl rfl rfl hc k [] s3 _ _ (fun _ _=>False) I3 (stat fr3) st3 go) fun r s4 h9=>?_;obtain ⟨u,hr,h4⟩:=h9;subst hr;refine thn h4 fun _ s5 h9=>?_;obtain ⟨v,H5,I5,r5,y5,st5,fr5⟩:=h9;have I5':=I5.pinned (stat fr5) (T.obj _ _ st5);have stp:=step v H5 y5;refine thn (J10 (X:=X.block (x :: caps) scope cl G.objs.size fp s2 H2) (i:=0) (pos:=px) hnd rfl (.inl hxl) (.inr hxl) _ s5 _ _ _ u
    (fun σ' H'=>σ'=some v :: capv σ js/\H'=H5) I5' r5 ⟨rfl,rfl⟩) fun _ s6 h9=>?_
   obtain ⟨σ6,H6,I6,q6⟩:=h9;obtain ⟨rfl,rfl⟩:=q6;refine thn (ht _ _ _ _ _ s6 _ _ _ I6 stp) fun ok s7 h9=>?_;obtain ⟨H7,I7,q7⟩:=h9;have back:∀ {s8:Shared} {H8:Hp} {o8:Option V} {ys8:List V} {m':Nat},Inv (X.block (x :: caps) scope cl G.objs.size fp s2 H2) ([] ++ pinsAt fp s5.heap) (o8 :: capv σ js) H8 s8->m' < m->W (k + 1) m' ys8 H8->
     ∃ m',m' < m/\∃ (k:Nat) (o:Option V) (ys:List V) (H':Hp),Inv (X.block (x :: caps) scope cl G.objs.size fp s2 H2) [] (o :: capv σ js) H' s8/\tn k s8.heap/\(∀ b∈fp,H' b=none)/\W k m' ys H':=fun {s8 H8 o8 ys8 m'} I8 hm w8=>by
    refine ⟨m',hm,k + 1,o8,ys8,H8,I8.unpinned,T.keep _ _ _ st5 fun b hb o e=>(I8.pin (b,o) (mem_append_right _ (mem_append_right _ (J29 hb e)))).1,fun b hb=>?_,w8⟩;obtain ⟨o,e,d⟩:=T.obj _ _ st5 b hb;exact (I8.pin (b,o) (mem_append_right _ (mem_append_right _ (J29 hb e)))).2.1
   cases ok with
   | false =>
    have q7':∃ m',m' < m/\W (k + 1) m' ys H7:=by
     have:=q7;rwa [if_neg (by decide)] at this
    obtain ⟨m',hm,w8⟩:=q7';exact back I7 hm w8
   | true =>
    have q7':te (some v :: capv σ js) H7 fun y H5=>H5 s2.heap.objs.size=some (.lst ys)/\∃ m',m' < m/\W (k + 1) m' (ys ++ [y]) (upd H5 s2.heap.objs.size (.lst (ys ++ [y]))):=by
     have:=q7;rwa [if_pos rfl] at this
    refine (show wpAny _ _ _ _ _ _ from thn (he _ _ _ _ _ s7 _ _ _ I7 q7') fun u8 s8 h9=>?_);obtain ⟨v8,H8,I8,r8,hd8,m',hm,w8⟩:=h9;refine thn (J2p (X:=X.block (x :: caps) scope cl G.objs.size fp s2 H2) _ s8 _ _ (.ref s2.heap.objs.size) [v8] (.ref s2.heap.objs.size) [u8]
     (fun _ H'=>H'=upd H8 s2.heap.objs.size (.lst (ys ++ [v8]))) I8 rfl (.cons r8 .nil) ⟨s2.heap.objs.size,_,v8,rfl,rfl,hd8,hz,rfl⟩) fun _ s9 h9=>?_
    obtain ⟨_,H9,I9,_,q9⟩:=h9;subst q9;exact back I9 hm w8
 have st1:tn 0 h₁:=T.keep _ _ _ st2 fun b hb o e=>old b o e;exact codeAny_compStart_list (loop _) (T.self X.A 0 _ _ _ st1 (loop _))
def capsOk (X:Cx) (scope:Scope) (cl:List (Str × Addr)) (caps:List Str) (js:List Nat):Bool :=
 (caps.zip js).all fun q=>X.N[q.2]? == some q.1 && X.env.scope.names.lookup q.1 == some .cell && (cl.lookup q.1).isSome && (relabel scope X.env).names.lookup q.1 == some .cell
theorem capsOk.get (hlen:caps.length=js.length) (h:capsOk X scope cl caps js=true):∀ (k:Nat) (c:Str),caps[k]?=some c->∃ (j:Nat) (a:Addr),js[k]?=some j/\X.N[j]?=some c/\X.env.scope.names.lookup c=some .cell/\cl.lookup c=some a/\(relabel scope X.env).names.lookup c=some .cell:=fun k c hk=>by
 have hkl:k < caps.length:=(List.getElem?_eq_some_iff.mp hk).1;have hj:js[k]?=some (js[k]'(hlen ▸ hkl)):=List.getElem?_eq_getElem (hlen ▸ hkl);have hm:(c,js[k]'(hlen ▸ hkl))∈caps.zip js:=by
  refine List.mem_iff_getElem?.mpr ⟨k,?_⟩;rw [List.getElem?_zip_eq_some];exact ⟨hk,hj⟩
 have:=all_eq_true.mp h _ hm;simp only [Bool.and_eq_true,beq_iff_eq] at this;obtain ⟨⟨⟨q1,q2⟩,q3⟩,q4⟩:=this;obtain ⟨a,ha⟩:=Option.isSome_iff_exists.mp q3;exact ⟨_,a,hj,q1,q2,ha,q4⟩
def freeOk (scope:Scope) (cl:List (Str × Addr)):Bool:=scope.names.all fun p=>p.2 != .free || (cl.lookup p.1).isSome
theorem freeOk.get (h:freeOk scope cl=true):∀ p∈scope.names,p.2=.free->∃ c,cl.lookup p.1=some c:=fun p hp' e=>by
 have:=all_eq_true.mp h p hp';rw [e] at this;exact Option.isSome_iff_exists.mp (by simpa using this)
theorem pe_lc (hc:X.calm=true) (hp:PI X (.Name x px) iter wi) (hclos:closureFor scope X.env=pure cl)
  (ht:∀ (C:Addr) (fp:List Addr) (s:Shared) (H:Hp),PTs (X.block (x :: caps) scope cl C fp s H) ifs tc)
  (he:∀ (C:Addr) (fp:List Addr) (s:Shared) (H:Hp),PE (X.block (x :: caps) scope cl C fp s H) elt te)
  (hcell:∀ p∈scope.names,p.2≠.cell) (hnames:∀ p∈scope.names,p.2=.local->scope.names.lookup p.1=some .local) (hnd:(x :: caps).Nodup)
  (hsub:∀ p∈cl,X.env.cells.lookup p.1=some p.2)
  (hhas:freeOk scope cl=true:=by rfl) (hlen:caps.length=js.length:=by rfl) (hcaps:capsOk X scope cl caps js=true:=by rfl)
  (hkind:scope.kind=.function:=by rfl) (hx:scope.names.lookup x=some .local:=by rfl) (hs:∀ v,foldedSetIterable iter X.env v=pure v:=by intro _;rfl) :
  PE X (.ListComp elt [⟨.Name x px,iter,ifs,0⟩] scope pos) (tLC wi tc te js):=by
 intro pins s σ H Q I h;rw [eval_ListComp];refine comp_core (use:=none) hc hp he ht hcell hnames hnd hsub (freeOk.get hhas) hlen (capsOk.get hlen hcaps) hclos hkind hx hs I h fun d H' s5 C J5 q hC fp=>?_;obtain ⟨m,nsC⟩:=hC;exact ⟨m,nsC,fun h' hs'=>⟨.ref d,H',J5.turned (h':=h') (t':=s5.toks) (it:=C) (fun b o hb e=>(hs'.2 b hb).trans e) fp.1 fp.2.1 fp.2.2.2.1 fp.2.2.2.2.1 fp.2.2.2.2.2,rfl,q⟩⟩
def tSetLC (t:TE) (i:Nat):TS:=fun D σ H=>t σ H fun v H'=>D.nx (σ.set i (some v)) H'
theorem ps_lc (hN:X.N.Nodup) (hi:X.N[i]?=some y) (hy:Loc X.env.scope y) (hc:X.calm=true) (hp:PI X (.Name x px) iter wi) (hclos:closureFor scope X.env=pure cl)
  (ht:∀ (C:Addr) (fp:List Addr) (s:Shared) (H:Hp),PTs (X.block (x :: caps) scope cl C fp s H) ifs tc)
  (he:∀ (C:Addr) (fp:List Addr) (s:Shared) (H:Hp),PE (X.block (x :: caps) scope cl C fp s H) elt te)
  (hcell:∀ p∈scope.names,p.2≠.cell) (hnames:∀ p∈scope.names,p.2=.local->scope.names.lookup p.1=some .local) (hnd:(x :: caps).Nodup)
  (hsub:∀ p∈cl,X.env.cells.lookup p.1=some p.2)
  (hhas:freeOk scope cl=true:=by rfl) (hlen:caps.length=js.length:=by rfl) (hcaps:capsOk X scope cl caps js=true:=by rfl)
  (hf:X.fn y=true\/X.env.scope.names.lookup y=some .local:=by first | exact .inl rfl | exact .inr rfl | assumption)
  (hsw:swapsWith (.ListComp elt [⟨.Name x px,iter,ifs,0⟩] scope pos) (some (.Name y py)) spos.line X.env=pure true:=by rfl)
  (hkind:scope.kind=.function:=by rfl) (hx:scope.names.lookup x=some .local:=by rfl) (hs:∀ v,foldedSetIterable iter X.env v=pure v:=by intro _;rfl) :
  PS X (.Assign [.Name y py] (.ListComp elt [⟨.Name x px,iter,ifs,0⟩] scope pos) spos) (tSetLC (tLC wi tc te js) i):=by
 intro pins s σ H D I h;rw [exec_Assign_Name_used _ _ _ _ hsw];refine wpAny_bind (wpAny_standAt (wpAny_bind ?_));show wpAny _ X.A (do let _ <- comprehension (.ListComp elt [⟨.Name x px,iter,ifs,0⟩] scope pos) scope X.env _ (newList []) false (eval iter X.env) (some (assign (.Name y py) X.env))) _ _ s;refine wpAny_bind (wpAny_mono (comp_core (use:=some (assign (.Name y py) X.env)) (QV:=fun _ s'=>SP X pins D .next s') hc hp he ht hcell hnames hnd hsub (freeOk.get hhas) hlen (capsOk.get hlen hcaps) hclos hkind hx hs I h fun d H' s5 C J5 q hC fp=>?_)
  (fun _ s' hq=>wpAny_pure (wpAny_pure hq)) fun _ _ e=>e)
 obtain ⟨mC,nsC⟩:=hC;show wpAny _ X.A (assign (.Name y py) X.env (.ref d)) _ _ s5;refine wpAny_assign_Name ?_;refine store_ok2 J5 hN hi hy (v:=.ref d) rfl (fun s6 I6 keep6=>?_) hf;obtain ⟨a,sa,ha⟩:=keep6;have aC:a≠C:=by
  rcases ha with e | e
  ·rw [e];exact Ne.symm fp.2.1
  ·exact fp.2.2.2.2.1 y a e
 exact ⟨mC,nsC.sameBut sa (Ne.symm aC),fun h' hs'=>⟨_,H',I6.turned (h':=h') (t':=s6.toks) (it:=C) (fun b o hb e=>(hs'.2 b hb).trans e) fp.1 fp.2.1 fp.2.2.2.1 fp.2.2.2.2.1 fp.2.2.2.2.2,q⟩⟩
end
theorem lc_over {J:It} {H1:Hp} {tc:TT} {te:TE} {σ:St} {js:List Nat} {Q:VK} {d:Addr} (n:Nat) (g:Nat->Bool) (f:Nat->V) (hd:H1 d=none) (hn:n<=1000)
  (hgo:∀ i H,i < n->Same H1 H->J.go i H) (hst:∀ H,Same H1 H->J.stop n H) (vv:Nat->V) (hy:∀ i H v H',i < n->Same H1 H->J.yld i H v H'->H'=H/\v=vv i)
  (hs:∀ i H Qt,i < n->Same H1 H->(∀ H',Same H H'->Qt (g i) H')->tc (some (vv i) :: capv σ js) H Qt)
  (he:∀ i H Qe,i < n->g i=true->Same H1 H->(∀ H',Same H H'->Qe (f i) H')->te (some (vv i) :: capv σ js) H Qe)
  (hq:∀ H',Same H1 H'->H' d=some (.lst (((List.range n).filter g).map f))->Q (.ref d) H') :
  ∃ W:Nat->Nat->List V->Hp->Prop,(∃ m,W 0 m [] (upd H1 d (.lst [])))/\
   ∀ i m ys H2,W i m ys H2->H2 d=some (.lst ys)/\((J.stop i H2/\Q (.ref d) H2)\/(J.go i H2/\ys.length < sizeLine/\∀ v H3,J.yld i H2 v H3->
    tc (some v :: capv σ js) H3 fun b H4=>if b=true then te (some v :: capv σ js) H4 fun y H5=>H5 d=some (.lst ys)/\∃ m',m' < m/\W (i + 1) m' (ys ++ [y]) (upd H5 d (.lst (ys ++ [y])))
     else ∃ m',m' < m/\W (i + 1) m' ys H4)):=by
 have s0:∀ o,Same H1 (upd H1 d o):=fun o b u e=>by rw [Je (Ja e hd)];exact e
 refine ⟨fun i m ys H=>m=n - i/\i<=n/\ys=((List.range i).filter g).map f/\Same H1 H/\H d=some (.lst ys),⟨n,rfl,Nat.zero_le _,rfl,s0 _,J1⟩,?_⟩;rintro i m ys H2 ⟨rfl,hi,rfl,sm,h2⟩;refine ⟨h2,?_⟩;by_cases hlt:i < n
 ·refine .inr ⟨hgo i H2 hlt sm,?_,fun v H3 y3=>?_⟩
  ·have h1:(((List.range i).filter g).map f).length<=i:=by
    rw [length_map];exact Nat.le_trans (List.length_filter_le _ _) (by rw [length_range];exact Nat.le_refl _)
   exact Ju (by omega)
  ·obtain ⟨rfl,rfl⟩:=hy i H2 v H3 hlt sm y3;refine hs i H3 _ hlt sm fun H4 s4=>?_
   cases hg:g i with
   | false =>
    rw [if_neg (by decide)];refine ⟨n - (i + 1),by omega,rfl,hlt,?_,sm.trans s4,s4 _ _ h2⟩;rw [range_succ,List.filter_append,map_append];simp [hg]
   | true =>
    rw [if_pos rfl];refine he i H4 _ hlt hg (sm.trans s4) fun H5 s5=>⟨s5 _ _ (s4 _ _ h2),n - (i + 1),by omega,rfl,hlt,?_,?_,J1⟩
    ·rw [range_succ,List.filter_append,map_append];simp [hg]
    ·intro b u e;rw [Je (Ja e hd)];exact s5 _ _ (s4 _ _ (sm _ _ e))
 ·have e:i=n:=by omega
  subst e;exact .inl ⟨hst H2 sm,hq H2 sm h2⟩
theorem Same.tup {K:PySem.W.Frag} {H H':Hp} {a:Addr} {xs:List V} (e:Same H H') (h:SqT K H a xs):SqT K H' a xs:=by
 rcases h with (h | ⟨o,h⟩) | h
 ·exact .inl (.inl (e _ _ h))
 ·exact .inl (.inr ⟨o,e _ _ h⟩)
 ·exact .inr h
theorem pick_all {α:Type} (G:α->Bool) (F:α->V):∀ xs:List α,
  ((List.range xs.length).filter fun i=>match xs[i]? with | some v=>G v | none=>false).map (fun i=>match xs[i]? with | some v=>F v | none=>V.non)=(xs.filter G).map F
 | []=>rfl
 | a :: r=>by
  have ih:=pick_all G F r;rw [length_cons,List.range_succ_eq_map,List.filter_cons,List.filter_map,List.filter_cons];have e:(fun i=>match (a :: r)[i]? with | some v=>G v | none=>false) ∘ Nat.succ=fun i=>match r[i]? with | some v=>G v | none=>false:=by
   funext i;simp
  have e2:(fun i=>match (a :: r)[i]? with | some v=>F v | none=>V.non) ∘ Nat.succ=fun i=>match r[i]? with | some v=>F v | none=>V.non:=by
   funext i;simp
  rw [e]
  cases hg:G a with
  | true =>
   simp only [List.getElem?_cons_zero,hg,if_true,map_cons,map_map];rw [e2,ih]
  | false =>
   simp only [List.getElem?_cons_zero,hg,Bool.false_eq_true,if_false,map_map];rw [e2,ih]
section
variable {α:Type} {K:PySem.W.Frag} {a:Addr} {H1:Hp} {tc:TT} {te:TE} {σ:St} {js:List Nat} {Q:VK} {d:Addr}
theorem lc_seq {J:It} (e:α->V) (xs:List α) (G:α->Bool) (F:α->V) (hn:xs.length<=1000) (hd:H1 d=none)
  (hgo:∀ i H,i < xs.length->Same H1 H->J.go i H) (hst:∀ H,Same H1 H->J.stop xs.length H) (hy:∀ i H v H',i < xs.length->Same H1 H->J.yld i H v H'->H'=H/\(xs.map e)[i]?=some v)
  (hs:∀ v∈xs,∀ H Qt,Same H1 H->(∀ H',Same H H'->Qt (G v) H')->tc (some (e v) :: capv σ js) H Qt)
  (he:∀ v∈xs,∀ H Qe,G v=true->Same H1 H->(∀ H',Same H H'->Qe (F v) H')->te (some (e v) :: capv σ js) H Qe)
  (hq:∀ H',Same H1 H'->H' d=some (.lst ((xs.filter G).map F))->Q (.ref d) H'):LCW J tc te σ js Q H1 d:=by
 have at_:∀ i,i < xs.length->∃ v,xs[i]?=some v/\v∈xs:=fun i hi=>⟨_,List.getElem?_eq_getElem hi,getElem_mem hi⟩
 refine lc_over xs.length (fun i=>match xs[i]? with | some v=>G v | none=>false) (fun i=>match xs[i]? with | some v=>F v | none=>V.non) hd hn hgo hst (fun i=>((xs.map e)[i]?).getD .non)
  (fun i H v H' hi s y=>?_) (fun i H Qt hi s k=>?_) (fun i H Qe hi hg s k=>?_) (fun H' s h=>?_)
 ·obtain ⟨e1,e2⟩:=hy i H v H' hi s y;exact ⟨e1,by rw [e2];rfl⟩
 ·obtain ⟨v,e1,hv⟩:=at_ i hi
  rw [getElem?_map,e1];refine hs v hv H Qt s fun H' s'=>?_;have:=k H' s';rw [e1] at this;exact this
 ·obtain ⟨v,e1,hv⟩:=at_ i hi
  rw [e1] at hg;rw [getElem?_map,e1];refine he v hv H Qe hg s fun H' s'=>?_;have:=k H' s';rw [e1] at this;exact this
 ·rw [pick_all] at h;exact hq H' s h
theorem lc_tup (e:α->V) (xs:List α) (G:α->Bool) (F:α->V) (hx:SqT K H1 a (xs.map e)) (hn:xs.length<=1000) (hd:H1 d=none)
  (hs:∀ v∈xs,∀ H Qt,Same H1 H->(∀ H',Same H H'->Qt (G v) H')->tc (some (e v) :: capv σ js) H Qt)
  (he:∀ v∈xs,∀ H Qe,G v=true->Same H1 H->(∀ H',Same H H'->Qe (F v) H')->te (some (e v) :: capv σ js) H Qe)
  (hq:∀ H',Same H1 H'->H' d=some (.lst ((xs.filter G).map F))->Q (.ref d) H'):LCW (Itt K a) tc te σ js Q H1 d :=
 lc_seq e xs G F hn hd (fun i H hi s=>⟨_,_,s.tup hx,by rw [getElem?_map,List.getElem?_eq_getElem hi];rfl⟩) (fun H s=>⟨_,s.tup hx,by rw [length_map];exact Nat.le_refl _⟩)
  (fun i H v H' hi s y=>⟨y.1,y.2 _ (s.tup hx)⟩) hs he hq
theorem lc_lst (e:α->V) (xs:List α) (G:α->Bool) (F:α->V) (hx:SqL K H1 a (xs.map e)) (hn:xs.length<=1000) (hd:H1 d=none)
  (hs:∀ v∈xs,∀ H Qt,Same H1 H->(∀ H',Same H H'->Qt (G v) H')->tc (some (e v) :: capv σ js) H Qt)
  (he:∀ v∈xs,∀ H Qe,G v=true->Same H1 H->(∀ H',Same H H'->Qe (F v) H')->te (some (e v) :: capv σ js) H Qe)
  (hq:∀ H',Same H1 H'->H' d=some (.lst ((xs.filter G).map F))->Q (.ref d) H'):LCW (Itl K a) tc te σ js Q H1 d :=
 lc_seq e xs G F hn hd (fun i H hi s=>⟨_,_,s.seq hx,by rw [getElem?_map,List.getElem?_eq_getElem hi];rfl⟩) (fun H s=>⟨_,s.seq hx,by rw [length_map];exact Nat.le_refl _⟩)
  (fun i H v H' hi s y=>⟨y.1,y.2 _ (s.seq hx)⟩) hs he hq
theorem lc_rng (lo:Int) (n:Nat) (G:Nat->Bool) (F:Nat->V) (hn:n<=1000) (hd:H1 d=none)
  (hs:∀ i,i < n->∀ H Qt,Same H1 H->(∀ H',Same H H'->Qt (G i) H')->tc (some (.int (lo + i)) :: capv σ js) H Qt)
  (he:∀ i,i < n->∀ H Qe,G i=true->Same H1 H->(∀ H',Same H H'->Qe (F i) H')->te (some (.int (lo + i)) :: capv σ js) H Qe)
  (hq:∀ H',Same H1 H'->H' d=some (.lst (((List.range n).filter G).map F))->Q (.ref d) H'):LCW (Itr lo n) tc te σ js Q H1 d :=
 lc_over n G F hd hn (fun i H hi _=>hi) (fun H _=>Nat.le_refl _) (fun i=>.int (lo + i)) (fun i H v H' hi _ y=>y) (fun i H Qt hi s k=>hs i hi H Qt s k) (fun i H Qe hi hg s k=>he i hi H Qe hg s k) hq
end
theorem Jt {α:Type} (xs:List α):xs.filter (fun _=>true)=xs:=List.filter_eq_self.mpr fun _ _=>rfl
theorem pe_ixr {X:Cx} {a b:Expr} {pos:Pos} {ta tb:TE} {r:R2} (hr:IxR X r) (ha:PE X a ta) (hb:PE X b tb) (hs:PlainIx b:=by intro _ _;rfl):PE X (.Subscript a b pos) (tOp r ta tb):=pe_ix hr ha hb hs
end L2
namespace L2
open PySem PySem.Spec PyProof.Rows
section
variable {X:Cx}
def rEqT (K:PySem.W.Frag):R2:=fun x y H Q=>∃ p q xs ys,x=.ref p/\y=.ref q/\SqT K H p xs/\SqT K H q ys/\Kin xs ys/\Q (.bl (decide (xs=ys))) H
theorem tup_all {xs ys:List V} {its its2:List Value} (l1:xs.length=its.length) (l2:ys.length=its2.length) (hk:Kin xs ys) :
  ((List.range (min its.toArray.size its2.toArray.size)).all (eAt xs ys) && its.toArray.size == its2.toArray.size)=decide (xs=ys):=by
 rw [size_toArray,size_toArray,<- l1,<- l2];by_cases hl:xs.length=ys.length
 ·rw [hl,Nat.min_self,<- hl,all_eAt hl hk];simp
 ·rw [decide_eq_false (fun e=>hl (congrArg List.length e)),show (xs.length == ys.length)=false from by simpa using hl,Bool.and_false]
theorem op_eqT (hu:X.A.units < cLine):OpR X (compareOp .Eq) (rEqT X.K):=by
 intro pins s σ H x y v u Q I rx ry h;obtain ⟨p,q,xs,ys,rfl,rfl,hp,hq,hk,hQ⟩:=h;cases rx;cases ry;obtain ⟨its,r,pl,_⟩:=I.tuple hp;obtain ⟨its2,r2,pl2,_⟩:=I.tuple hq;refine SeqAt.eq_tupleAt (show s.heap.IsTuple p its.toArray from pl) (show s.heap.IsTuple q its2.toArray from pl2) hu (fun j h1 h2=>eAt_at r r2 hk j h1 h2) ?_;rw [tup_all r.length r2.length hk];exact ⟨.bl _,H,I,rfl,hQ⟩
theorem bools_at {bs:List Bool} {i:Nat} {v:Value} (h:((bs.map Value.bool).toArray)[i]?=some v):v=Value.bool (bs.getD i false):=by
 rw [List.getElem?_toArray,getElem?_map] at h
 cases e:bs[i]? with
 | none=>rw [e] at h;cases h
 | some b =>
  rw [e] at h;rw [getD_eq_getElem?_getD,e];exact (Option.some.inj h).symm
theorem truth_bools {prog:Program} {w:World} {A:Around} (bs:List Bool):TruthOf prog w A (fun i v=>((bs.map Value.bool).toArray)[i]?=some v) (fun i=>bs.getD i false):=by
 intro i v s Q E hP h;rw [bools_at hP];exact wpAny_truthy_bool h
theorem range_all (bs:List Bool):((List.range bs.length).all fun i=>bs.getD i false)=bs.all id:=by
 have e:(List.range bs.length).map (fun i=>bs.getD i false)=bs:=by
  apply List.ext_getElem
  ·simp
  ·intro n h1 h2;simp [List.getElem?_eq_getElem h2]
 conv=>rhs;rw [<- e]
 rw [all_map];rfl
theorem J5q (hc:X.calm=true):CallR X (.builtin "all") (fun xs H Q=>∃ (p:Addr) (bs:List Bool),xs=[.ref p]/\SqL X.K H p (bs.map V.bl)/\Q (.bl (bs.all id)) H):=by
 intro pins s σ H xs us Q I r h;obtain ⟨p,bs,rfl,hq,q⟩:=h;obtain ⟨u,rfl,rx⟩:=vals1 r;cases rx;obtain ⟨its,r',pl,hz⟩:=I.list hq;obtain rfl:=boolsAre r';have hl:=pl.isList;obtain ⟨o,ho,_⟩:=id hl;have hne':p≠s.heap.objs.size:=Nat.ne_of_lt (lt_size ho);refine call_all_walk (wpAny_pyIter_list hl ⟨s.heap.objs.size,_,_,_,_,_,_,rfl,Walks.list (A:=X.A.in1) (I.ok.hd hc) _ p hne' _,⟨⟨_,get?_push_size _ rfl,rfl,rfl⟩,hl.at fun o e=>get?_push_of_some _ e⟩,truth_bools bs,fun h' tk hk=>?_⟩);rw [size_toArray,length_map,range_all];exact ⟨.bl _,H,I.kept (fun b o e=>hk b o (fun hb=>absurd (lt_size e) ((mem_singleton.mp hb) ▸ Nat.lt_irrefl _)) (get?_push_of_some _ e)),rfl,q⟩
end
def HasM (P:Program) (w:World) (K:PySem.W.Frag) (mg:Str->Option Value) (base:Heap) (CX:CXT) (k:Nat) (m:Str) (ps:List Str) (sp:Sp) (C:Addr):Prop :=
 ∃ f fd,Cls K C/\Meth K C m f/\FnOk P w K mg base CX k f fd ps sp/\Binds K fd ps []
def tMethD {ι:Type} (m:Str) (cls:ι->Addr) (sp:ι->Sp) (E:XK) (ta:TE) (t:TA):TE:=fun σ H Q=>ta σ H fun x H1=>∃ a k dx fs,x=.ref a/\H1 a=some (.ins (cls k) dx fs)/\fs.lookup m=none/\
 t σ H1 fun vs H2=>sp k (x :: vs) H2 Q E
section
variable {X:Cx} {CX:CXT} {k:Nat} {f:Addr} {fd:FuncData} {ps:List Str} {ι:Type} {cls:ι->Addr} {sp:ι->Sp} {spB:Sp} {dvs:List V} {ds:List Value} {E:XK} {x m b:Str} {p pos apos:Pos} {e o:Expr} {es:List Expr} {ta:TE} {t:TA} {B:Addr} {mc:Value}
theorem pe_methD {pl:Sem Bool} (he:PE X o ta) (hM:∀ i,HasM X.prog X.w X.K X.mg X.base CX k m ps (sp i) (cls i)) (hr:Room k X.A) (hx:J3a CX X E) (ha:PA X (e :: es) t)
  (hst:starEach (e :: es) X.env=(false,eval e X.env) :: starEach es X.env:=by rfl) (hpl:(backTo pos (starEach es X.env)).any (·.1)=false:=by rfl)
  (ht:eval (.Call (.Attribute o m apos) (e :: es) [] pos) X.env=(do
   let ov <- eval o X.env
   standAt apos.atName
   let (f,first) <- holding [ov] (getMethod ov m pl)
   callWith pos f first (backTo pos (starEach (e :: es) X.env)) (backToKw pos (keywordEach [] X.env))):=by rfl) :
  PE X (.Call (.Attribute o m apos) (e :: es) [] pos) (tMethD m cls sp E ta t):=by
 intro pins s σ H Q I h;refine methodCall_KW (pl:=pl) (thn (he pins s σ H _ I h) fun u s1 h9=>?_) ht;obtain ⟨x,H1,I1,rx,a,i,dx,fs,ex,ea,l,q⟩:=h9;subst ex;obtain rfl:u=Value.ref a:=rx;obtain ⟨f,fd,c,hm,F,hb⟩:=hM i;refine J34 I1 ea c hm l ?_;refine callWith_K (first:=[.ref a]) (h₀:=X.base) I.ok.mod.kin hm.kp (thn (ha pos pins s1 σ H1 _ I1 q) fun us s2 h9=>?_) hst hpl;obtain ⟨vs,H2,I2,r,q2⟩:=h9;refine ⟨I2.kIn,?_⟩;exact run_fn (us:=.ref a :: us) (vs:=.ref a :: vs) (dvs:=[]) F hr hb .nil hx I2 (.cons rfl r) (by rw [append_nil];exact q2)
theorem J26 {pl:Sem Bool} (he:PE X o ta) (hM:∀ i,HasM X.prog X.w X.K X.mg X.base CX k m ps (sp i) (cls i)) (hr:Room k X.A) (hx:J3a CX X E)
  (ht:eval (.Call (.Attribute o m apos) [] [] pos) X.env=(do
   let ov <- eval o X.env
   standAt apos.atName
   let (f,first) <- holding [ov] (getMethod ov m pl)
   callWith pos f first (backTo pos (starEach [] X.env)) (backToKw pos (keywordEach [] X.env))):=by rfl) :
  PE X (.Call (.Attribute o m apos) [] [] pos) (tMethD m cls sp E ta tNil):=by
 intro pins s σ H Q I h;refine methodCall_KW (pl:=pl) (thn (he pins s σ H _ I h) fun u s1 h9=>?_) ht;obtain ⟨x,H1,I1,rx,a,i,dx,fs,ex,ea,l,q⟩:=h9;subst ex;obtain rfl:u=Value.ref a:=rx;obtain ⟨f,fd,c,hm,F,hb⟩:=hM i;refine J34 I1 ea c hm l ?_;exact PySem.W.callWith_K0 (first:=[.ref a]) I1.kIn hm.kp (run_fn (us:=[.ref a]) (vs:=[.ref a]) (dvs:=[]) F hr hb .nil hx I1 (.cons rfl .nil) q)
end
def Its (lo c:Int) (n:Nat):It:=⟨fun i _=>i < n,fun i H x H'=>H'=H/\x=.int (lo + (i:Nat) * c),fun i _=>n<=i⟩
theorem J4i {P:Program} {w:World} {K:PySem.W.Frag} {tg:Expr} (nu:Addr) (lo c:Int) (n:Nat):Turn P w K tg (Its lo c n) [nu] nu (fun i h=>IsRangeIter h nu (lo + (i:Nat) * c) ((n:Int) - (i:Nat)) c) where
 mem:=by simp
 obj:=fun i h st b hb=>by
  obtain rfl:b=nu:=by simpa using hb
  exact ⟨_,st,fun v z=>by
   have q:Data.fields _=Data.cell v:=z;cases q⟩
 keep:=fun i h h' st k=>k nu (by simp) _ st
 item:=by
  intro X hP hw hK hc i pins s σ H E I hf st hg;subst hP hw hK;obtain ⟨f0,f1,f2,f3,f4,f5⟩:=hf nu (by simp);refine (Walks.range (prog:=X.prog) (w:=X.w) (I.ok.hd hc) nu lo c n).item i s _ _ hg st fun v h' tk hv st' kk=>?_;obtain ⟨t,rfl⟩:=hv;have J:Inv X pins σ H { s with heap:=h',toks:=tk }:=I.turned (fun b o hb e=>kk b o (by simpa using hb) e) f0 f1 f3 f4 f5;exact ⟨_,rfl,go_of (s:={ s with heap:=h',toks:=tk }) (n:="range_iterator") st' rfl rfl (by decide) ⟨.int (lo + (i:Nat) * c),H,J,⟨t,rfl⟩,⟨rfl,rfl⟩,st',fun b hb=>(hf b hb).1⟩⟩
 done:=by
  intro X hP hw hK hc i pins s σ H E I hf st hg;subst hP hw hK;obtain ⟨f0,f1,f2,f3,f4,f5⟩:=hf nu (by simp);have hg:n<=i:=hg;exact wpAny_pyNext_range_end (I.ok.hd hc) st (by omega) fun h' eb=>⟨rfl,I.turned (t':=s.toks) (fun b o hb e=>eb b o hb e) f0 f1 f3 f4 f5⟩
 self:=fun _ _ _ _ _ st h=>wpAny_pyIter_rangeiter st h
theorem J1d {c:Int} (hc:0 < c) (a b:Int):Builtin.Range.rangeSize a b c=if a < b then (b - a - 1) / c + 1 else 0:=by
 unfold Builtin.Range.rangeSize;rw [if_pos (show c > 0 from hc)]
theorem steps_small {a b c:Int} (ha:0<=a) (ha':a<=1000) (hb:-1<=b) (hb':b<=1000) (hc:0 < c) (hc':c<=1000):Builtin.Range.small a b c=true:=by
 unfold Builtin.Range.small;rw [J1d hc];have h1:0<=(if a < b then (b - a - 1) / c + 1 else 0)/\(if a < b then (b - a - 1) / c + 1 else 0)<=1001:=by
  split
  ·have h0:0<=(b - a - 1) / c:=Int.ediv_nonneg (by omega) (by omega);have h2:(b - a - 1) / c<=b - a - 1:=Int.ediv_le_self _ (by omega);omega
  ·omega
 generalize (if a < b then (b - a - 1) / c + 1 else 0)=n at *;have h3:n * c<=1001 * 1000:=Int.mul_le_mul h1.2 hc' (by omega) (by decide);have h4:0<=n * c:=Int.mul_nonneg h1.1 (by omega);simp only [Builtin.Range.rangeFitsLong,Bool.and_eq_true,Bool.or_eq_true,decide_eq_true_eq,beq_iff_eq,show c > 0 from hc,if_true];refine ⟨?_,?_⟩ <;> omega
def iSteps (ta:TA):TI:=fun σ H R=>ta σ H fun vs H1=>∃ a b c:Int,vs=[.int a,.int b,.int c]/\(0<=a/\a<=1000/\-1<=b/\b<=1000/\0 < c/\c<=1000)/\R (Its a c (Builtin.Range.rangeSize a b c).toNat) H1
section
variable {X:Cx} {tg:Expr}
theorem pi_steps {a b c:Expr} {ta:TA} {p pos:Pos} (hg:Gl X "range") (hm:X.mg "range"=none) (ha:PA X [a,b,c] ta) (hs:starEach [a,b,c] X.env=[(false,eval a X.env),(false,eval b X.env),(false,eval c X.env)]:=by rfl) (hs2:starEach [b,c] X.env=[(false,eval b X.env),(false,eval c X.env)]:=by rfl) :
  PI X tg (.Call (.Name "range" p) [a,b,c] [] pos) (iSteps ta):=by
 intro pins s σ H R I h;refine Call_ (J5m I hg hm boot_range (callWith_type1 (thn (ha pos pins s σ H _ I h) fun us s1 h9=>?_) (by rw [hs,hs2]) (by rw [hs2];rfl)));obtain ⟨vs,H1,I1,r1,q1⟩:=h9;obtain ⟨i,j,c,e,⟨q1,q2,q3,q4,q5,q6⟩,q⟩:=q1;subst e
 cases r1 with
 | cons r rr =>
  cases rr with
  | cons r' rr =>
   cases rr with
   | cons r'' rr =>
    cases rr;obtain ⟨t,rfl⟩:=r;obtain ⟨t',rfl⟩:=r';obtain ⟨t'',rfl⟩:=r'';refine call_range_3 (by omega) ?_ (Or.inl (PyProof.noPylong_small (by omega)));have I2:Inv X pins σ H1 { s1 with heap:=s1.heap.push { cls:=.type "range",data:=.fields #[.int i t,.int j t',.int c t''] },toks:=s1.toks }:=I1.kept fun b o e=>get?_push_of_some _ e;refine wpAny_pyIter_range (IsRange.new ..) (steps_small q1 q2 q3 q4 q5 q6) ?_;refine ⟨(s1.heap.push { cls:=.type "range",data:=.fields #[.int i t,.int j t',.int c t''] }).objs.size,[(s1.heap.push { cls:=.type "range",data:=.fields #[.int i t,.int j t',.int c t''] }).objs.size],_,_,H1,rfl,
     I2.kept (t':=s1.toks) fun b o e=>get?_push_of_some _ e,J4i _ i c (Builtin.Range.rangeSize i j c).toNat,?_,fun b hb=>?_,q⟩
    ·have e1:i + ((0:Nat):Int) * c=i:=by simp
     have e2:(((Builtin.Range.rangeSize i j c).toNat:Nat):Int) - ((0:Nat):Int)=Builtin.Range.rangeSize i j c:=by
      have:0<=Builtin.Range.rangeSize i j c:=by
       rw [J1d q5];split
       ·have:=Int.ediv_nonneg (show 0<=j - i - 1 by omega) (show 0<=c by omega);omega
       ·omega
      omega
     show IsRangeIter _ _ (i + ((0:Nat):Int) * c) ((((Builtin.Range.rangeSize i j c).toNat:Nat):Int) - ((0:Nat):Int)) c;rw [e1,e2];exact get?_push_size _ rfl
    ·obtain rfl:b=(s1.heap.push { cls:=.type "range",data:=.fields #[.int i t,.int j t',.int c t''] }).objs.size:=by simpa using hb
     exact I2.fpOk (Nat.le_refl _) (I2.hok.fresh (Nat.le_refl _))
end
theorem lc_stp {H1:Hp} {tc:TT} {te:TE} {σ:St} {js:List Nat} {Q:VK} {d:Addr} (lo c:Int) (n:Nat) (F:Nat->V) (hn:n<=1000) (hd:H1 d=none)
  (hs:∀ i,i < n->∀ H Qt,Same H1 H->(∀ H',Same H H'->Qt true H')->tc (some (.int (lo + (i:Nat) * c)) :: capv σ js) H Qt)
  (he:∀ i,i < n->∀ H Qe,Same H1 H->(∀ H',Same H H'->Qe (F i) H')->te (some (.int (lo + (i:Nat) * c)) :: capv σ js) H Qe)
  (hq:∀ H',Same H1 H'->H' d=some (.lst ((List.range n).map F))->Q (.ref d) H'):LCW (Its lo c n) tc te σ js Q H1 d :=
 lc_over n (fun _=>true) F hd hn (fun i H hi _=>hi) (fun H _=>Nat.le_refl _) (fun i=>.int (lo + (i:Nat) * c)) (fun i H v H' hi _ y=>y) (fun i H Qt hi s k=>hs i hi H Qt s k) (fun i H Qe hi _ s k=>he i hi H Qe s k)
  (fun H' s h=>hq H' s (by rw [Jt] at h;exact h))
theorem steps_lt {a b c:Int} (hc:0 < c) {i:Nat} (h:i < (Builtin.Range.rangeSize a b c).toNat):a + (i:Int) * c < b:=by
 rw [J1d hc] at h;split at h
 ·have h1:(i:Int)<=(b - a - 1) / c:=by omega
  have h2:=Int.mul_le_of_le_ediv hc h1;omega
 ·simp at h
theorem steps_few {a b c:Int} (hc:0 < c):(Builtin.Range.rangeSize a b c).toNat<=(b - a).toNat:=by
 rw [J1d hc];split
 ·have h0:0<=(b - a - 1) / c:=Int.ediv_nonneg (by omega) (by omega);have h2:(b - a - 1) / c<=b - a - 1:=Int.ediv_le_self _ (by omega);omega
 ·simp
end L2
namespace L2
open PySem PySem.Spec PyProof.Rows
section
variable {X:Cx}
theorem ix_listK (K:PySem.W.Frag) (h:X.K=K:=by rfl):IxR X (rIxL K):=by subst h;exact Jf
theorem call_sumK (K:PySem.W.Frag) (hc:X.calm=true:=by rfl) (h:X.K=K:=by rfl):CallR X (.builtin "sum") (fun xs H Q=>∃ (p:Addr) (ns:List Int),xs=[.ref p]/\SqI K H p (ns.map V.int)/\Q (.int ns.sum) H):=by subst h;exact J21 hc
theorem J51 (K:PySem.W.Frag) (h:X.K=K:=by rfl):CallR X (.builtin "len") (fun xs H Q=>∃ p ys,xs=[.ref p]/\(SqL K H p ys\/SqT K H p ys)/\Q (.int ys.length) H):=by subst h;exact J8
theorem op_inK (K:PySem.W.Frag) (h:X.K=K:=by rfl):OpR X (compareOp .In) (rIn K false):=by subst h;exact J41
end
end L2
namespace L2
open PySem PySem.Spec PyProof.Rows
section
variable {X:Cx}
theorem vals_strs:∀ {ys:List Str} {its:List Value},Vals (ys.map V.str) its->∃ l:List (Str × Tok),l.map (·.1)=ys/\its=strValues l
 | [],_,.nil=>⟨[],rfl,rfl⟩
 | y :: ys,_,.cons r t=>by
  obtain ⟨k,rfl⟩:=r;obtain ⟨l,e1,e2⟩:=vals_strs t;subst e1 e2;exact ⟨(y,k) :: l,rfl,rfl⟩
def rJoin:V->List V->Hp->VK->Prop:=fun x xs H Q=>∃ (sep:Str) (p:Addr) (ys:List Str),x=.str sep/\xs=[.ref p]/\H p=some (.lst (ys.map V.str))/\sep.length<=16/\(ys.map (·.length)).sum + ys.length<=1048576/\Q (.str (Txt.join sep ys)) H
theorem mt_join:MtR X "str.join" rJoin:=by
 intro pins s σ H x xs v us Q I rx rv h;obtain ⟨sep,p,ys,rfl,rfl,hH,hs,hw,q⟩:=h;obtain ⟨t,rfl⟩:=rx;obtain ⟨u,rfl,ru⟩:=rv.one;obtain rfl:u=Value.ref p:=ru;obtain ⟨z,its,n,r,hl,e⟩:=I.lstM hH;obtain ⟨l,e1,e2⟩:=vals_strs r;subst e2;exact SC.join (l:=l) ⟨_,e,rfl,_,rfl⟩ e1 (joinOk_of_weight hw hs) (fun t' k=>⟨.str _,H,I.tok _,⟨_,rfl⟩,q⟩)
def tFS (c d:Str) (ta tb:TE):TE:=fun σ H Q=>ta σ H fun x H1=>∃ i,x=.str i/\i.length<=1048576/\tb σ H1 fun y H2=>∃ j,y=.str j/\j.length<=1048576/\Q (.str (Str.empty ++ i ++ c ++ j ++ d)) H2
theorem pe_fs {a b:Expr} {ta tb:TE} {c d:Str} {k1 k2:Nat} {p1 p2 p3 p4 pos:Pos} (ha:PE X a ta) (hb:PE X b tb) (hc:c.length + d.length<=1000) :
  PE X (.JoinedStr [.FormattedValue a (-1) none p1,.Constant (.str c) k1 p2,.FormattedValue b (-1) none p3,.Constant (.str d) k2 p4] pos) (tFS c d ta tb):=by
 intro pins s σ H Q I h;have hz:sizeLine=16777216:=sizeLine_eq;refine wpAny_JoinedStr ?_;show wpAny _ _ (eval (.FormattedValue a (-1) none p1) X.env) _ X.xe s;refine wpAny_FormattedValue_plain (thn (ha pins s σ H _ I h) fun v s1 h9=>?_);obtain ⟨x,H1,I1,r1,q1⟩:=h9;obtain ⟨i,rfl,hi,q1⟩:=q1;obtain ⟨t,rfl⟩:=r1;have key:∀ (s2:Shared) (t:Tok),Inv X pins σ H1 s2->∃ y t',(Value.str i t)=.str y t'/\(Str.empty ++ y).length<=sizeLine/\Joins (model X.prog X.w) X.A X.xe (evalEach [.Constant (.str c) k1 p2,.FormattedValue b (-1) none p3,.Constant (.str d) k2 p4] X.env) (Str.empty ++ y) (fun out s₁=>out.length<=sizeLine/\EP X pins σ Q (.str out s₁.toks) { s₁ with toks:=s₁.toks + 1 }) s2:=by
  intro s2 t I2;have l0:(Str.empty ++ i).length<=1048576:=by rw [strLen_append];show 0 + i.length<=_;omega
  refine ⟨i,t,rfl,by omega,?_⟩;show wpAny _ _ (eval (.Constant (.str c) k1 p2) X.env) _ X.xe s2;refine Calls.Constant_str ?_;have I3:=I2.tok (s2.toks + 1);have l1:(Str.empty ++ i ++ c).length<=1048576 + 1000:=by rw [strLen_append];omega
  refine ⟨c,_,rfl,by omega,?_⟩;show wpAny _ _ (eval (.FormattedValue b (-1) none p3) X.env) _ X.xe _;refine wpAny_FormattedValue_plain (thn (hb pins _ σ H1 _ I3 q1) fun v2 s3 h9=>?_);obtain ⟨y,H2,I4,r2,q2⟩:=h9;obtain ⟨j,rfl,hj,q2⟩:=q2;obtain ⟨t2,rfl⟩:=r2;have key2:∀ (s4:Shared) (t:Tok),Inv X pins σ H2 s4->∃ y t',(Value.str j t)=.str y t'/\(Str.empty ++ i ++ c ++ y).length<=sizeLine/\Joins (model X.prog X.w) X.A X.xe (evalEach [.Constant (.str d) k2 p4] X.env) (Str.empty ++ i ++ c ++ y) (fun out s₁=>out.length<=sizeLine/\EP X pins σ Q (.str out s₁.toks) { s₁ with toks:=s₁.toks + 1 }) s4:=by
   intro s4 t I5;have l2:(Str.empty ++ i ++ c ++ j).length<=2 * 1048576 + 1000:=by rw [strLen_append];omega
   refine ⟨j,t,rfl,by omega,?_⟩;show wpAny _ _ (eval (.Constant (.str d) k2 p4) X.env) _ X.xe s4;refine Calls.Constant_str ?_;have l3:(Str.empty ++ i ++ c ++ j ++ d).length<=2 * 1048576 + 2000:=by rw [strLen_append];omega
   refine ⟨d,_,rfl,by omega,?_⟩;exact ⟨by omega,.str _,H2,(I5.tok _).tok _,⟨_,rfl⟩,q2⟩
  exact wpAny_formatField_str (key2 _ _ I4) (key2 _ _ (I4.tok _)) (by omega)
 exact wpAny_formatField_str (key _ _ I1) (key _ _ (I1.tok _)) (by omega)
end
end L2
namespace L2
open PySem PySem.Spec PyProof.Rows
end L2
namespace L2
open PySem PyProof.Rows
theorem for_its {lo c:Int} {n:Nat} {g:TG} {tb:TS} {D:Ends} {σ:St} {H:Hp} (Pv:Nat->St->Hp->Prop) (h0:Pv 0 σ H)
  (hs:∀ (i:Nat) σ H,i < n->Pv i σ H->g (.int (lo + (i:Nat) * c)) σ H fun σ2 H2=>tb { D with nx:=Pv (i + 1),ct:=Pv (i + 1),bk:=D.nx } σ2 H2) (hd:∀ σ H,Pv n σ H->D.nx σ H) :
  ∃ W:Nat->Nat->St->Hp->Prop,(∃ m,W 0 m σ H)/\∀ i m σ H,W i m σ H->
   ((Its lo c n).stop i H/\D.nx σ H)\/((Its lo c n).go i H/\∃ N:St->Hp->Prop,(∀ σ' H',N σ' H'->∃ m',m' < m/\W (i + 1) m' σ' H')/\∀ x H',(Its lo c n).yld i H x H'->g x σ H' fun σ2 H2=>tb { D with nx:=N,ct:=N,bk:=D.nx } σ2 H2):=by
 refine ⟨fun i m σ H=>m=n - i/\i<=n/\Pv i σ H,⟨_,rfl,Nat.zero_le _,h0⟩,?_⟩;rintro i m σ H ⟨rfl,hi,p⟩;by_cases hlt:i < n
 ·refine .inr ⟨hlt,Pv (i + 1),fun σ' H' p'=>⟨_,by omega,rfl,hlt,p'⟩,fun x H' y=>?_⟩;obtain ⟨e,y⟩:=y;subst e y;exact hs i σ _ hlt p
 ·obtain rfl:i=n:=by omega
  exact .inl ⟨Nat.le_refl _,hd σ H p⟩
end L2
namespace L2
open PySem PyProof.Rows
theorem J53 {a b c:Int} (ha:0<=a) (ha':a<=1000) (hb:-1000<=b) (hb':b<=1000) (hc:0 < c) (hc':c<=1000):Builtin.Range.small a b c=true:=by
 unfold Builtin.Range.small;rw [J1d hc];have h1:0<=(if a < b then (b - a - 1) / c + 1 else 0)/\(if a < b then (b - a - 1) / c + 1 else 0)<=1001:=by
  split
  ·have h0:0<=(b - a - 1) / c:=Int.ediv_nonneg (by omega) (by omega);have h2:(b - a - 1) / c<=b - a - 1:=Int.ediv_le_self _ (by omega);omega
  ·omega
 generalize (if a < b then (b - a - 1) / c + 1 else 0)=n at *;have h3:n * c<=1001 * 1000:=Int.mul_le_mul h1.2 hc' (by omega) (by decide);have h4:0<=n * c:=Int.mul_nonneg h1.1 (by omega);simp only [Builtin.Range.rangeFitsLong,Bool.and_eq_true,Bool.or_eq_true,decide_eq_true_eq,beq_iff_eq,show c > 0 from hc,if_true];refine ⟨?_,?_⟩ <;> omega
def iSteps2 (ta:TA):TI:=fun σ H R=>ta σ H fun vs H1=>∃ a b c:Int,vs=[.int a,.int b,.int c]/\(0<=a/\a<=1000/\-1000<=b/\b<=1000/\0 < c/\c<=1000)/\R (Its a c (Builtin.Range.rangeSize a b c).toNat) H1
section
variable {X:Cx} {tg:Expr}
theorem pi_steps2 {a b c:Expr} {ta:TA} {p pos:Pos} (hg:Gl X "range") (hm:X.mg "range"=none) (ha:PA X [a,b,c] ta) (hs:starEach [a,b,c] X.env=[(false,eval a X.env),(false,eval b X.env),(false,eval c X.env)]:=by rfl) (hs2:starEach [b,c] X.env=[(false,eval b X.env),(false,eval c X.env)]:=by rfl) :
  PI X tg (.Call (.Name "range" p) [a,b,c] [] pos) (iSteps2 ta):=by
 intro pins s σ H R I h;refine Call_ (J5m I hg hm boot_range (callWith_type1 (thn (ha pos pins s σ H _ I h) fun us s1 h9=>?_) (by rw [hs,hs2]) (by rw [hs2];rfl)));obtain ⟨vs,H1,I1,r1,q1⟩:=h9;obtain ⟨i,j,c,e,⟨q1,q2,q3,q4,q5,q6⟩,q⟩:=q1;subst e
 cases r1 with
 | cons r rr =>
  cases rr with
  | cons r' rr =>
   cases rr with
   | cons r'' rr =>
    cases rr;obtain ⟨t,rfl⟩:=r;obtain ⟨t',rfl⟩:=r';obtain ⟨t'',rfl⟩:=r'';refine call_range_3 (by omega) ?_ (Or.inl (PyProof.noPylong_small (by omega)));have I2:Inv X pins σ H1 { s1 with heap:=s1.heap.push { cls:=.type "range",data:=.fields #[.int i t,.int j t',.int c t''] },toks:=s1.toks }:=I1.kept fun b o e=>get?_push_of_some _ e;refine wpAny_pyIter_range (IsRange.new ..) (J53 q1 q2 q3 q4 q5 q6) ?_;refine ⟨(s1.heap.push { cls:=.type "range",data:=.fields #[.int i t,.int j t',.int c t''] }).objs.size,[(s1.heap.push { cls:=.type "range",data:=.fields #[.int i t,.int j t',.int c t''] }).objs.size],_,_,H1,rfl,
     I2.kept (t':=s1.toks) fun b o e=>get?_push_of_some _ e,J4i _ i c (Builtin.Range.rangeSize i j c).toNat,?_,fun b hb=>?_,q⟩
    ·have e1:i + ((0:Nat):Int) * c=i:=by simp
     have e2:(((Builtin.Range.rangeSize i j c).toNat:Nat):Int) - ((0:Nat):Int)=Builtin.Range.rangeSize i j c:=by
      have:0<=Builtin.Range.rangeSize i j c:=by
       rw [J1d q5];split
       ·have:=Int.ediv_nonneg (show 0<=j - i - 1 by omega) (show 0<=c by omega);omega
       ·omega
      omega
     show IsRangeIter _ _ (i + ((0:Nat):Int) * c) ((((Builtin.Range.rangeSize i j c).toNat:Nat):Int) - ((0:Nat):Int)) c;rw [e1,e2];exact get?_push_size _ rfl
    ·obtain rfl:b=(s1.heap.push { cls:=.type "range",data:=.fields #[.int i t,.int j t',.int c t''] }).objs.size:=by simpa using hb
     exact I2.fpOk (Nat.le_refl _) (I2.hok.fresh (Nat.le_refl _))
end
end L2
namespace L2
open PySem PySem.Spec PyProof.Rows
end L2
namespace L2
open PySem PySem.Spec PyProof.Rows
def SafeT {α:Type}:Sem α->Prop
 | .pure _=>True
 | .raise _=>True
 | .unsupported _=>True
 | .finish _=>True
 | .rule _ k=>∀ u,SafeT (k u)
 | .at _ k=>∀ u,SafeT (k u)
 | .load _ _ k=>∀ o,SafeT (k o)
 | .update _ _ f k=>(∀ o,(f o).dict=o.dict)/\∀ u,SafeT (k u)
 | .alloc _ k=>∀ a,SafeT (k a)
 | .loadIfAlive _ k=>∀ o,SafeT (k o)
 | .point _ k=>∀ u,SafeT (k u)
 | .register _ _=>True
 | .fresh k=>∀ t,SafeT (k t)
 | .ask k=>∀ x,SafeT (k x)
 | .choose _ _ k=>∀ n,SafeT (k n)
 | .os _ _ k=>∀ r,SafeT (k r)
 | .call _ _ _ _ _=>False
 | .handled _ k=>∀ v,SafeT (k v)
 | .newGen _ k=>∀ n,SafeT (k n)
 | .genState _ k=>∀ x,SafeT (k x)
 | .resume _ _ _ _=>False
 | .yield _ _ _ _=>True
 | .stack k=>∀ l,SafeT (k l)
 | .fork _ _=>True
 | .thread k=>∀ n,SafeT (k n)
 | .await _ _ _ _ _=>True
def DictsStay (h h':Heap):Prop:=∀ (a:Addr) (o:Obj),h.objs[a]?=some o->∃ o':Obj,h'.objs[a]?=some o'/\o'.dict=o.dict
theorem DictsStay.refl (h:Heap):DictsStay h h:=fun a o e=>⟨o,e,rfl⟩
theorem DictsStay.trans {h h' h'':Heap} (x:DictsStay h h') (y:DictsStay h' h''):DictsStay h h'':=fun a o e=>by
 obtain ⟨o',e',d'⟩:=x a o e;obtain ⟨o2,e2,d2⟩:=y a o' e';exact ⟨o2,e2,d2.trans d'⟩
theorem DictsStay.push (h:Heap) (o:Obj):DictsStay h (h.push o):=fun a u e=>by
 refine ⟨u,?_,rfl⟩;show (h.objs.push o)[a]?=some u;have hlt:a < h.objs.size:=(Array.getElem?_eq_some_iff.mp e).1;rw [Array.getElem?_push_lt hlt];rw [Array.getElem?_eq_getElem hlt] at e;exact e
theorem DictsStay.update (h:Heap) (b:Addr) {f:Obj->Obj} (hf:∀ o,(f o).dict=o.dict):DictsStay h (h.update b f):=fun a u e=>by
 show ∃ o',(h.objs.modify b f)[a]?=some o'/\o'.dict=u.dict;rw [Array.getElem?_modify];by_cases c:b=a
 ·rw [if_pos c,e];exact ⟨f u,rfl,hf u⟩
 ·rw [if_neg c];exact ⟨u,e,rfl⟩
theorem Jl {α β:Type} {f:α->Sem β} (hf:∀ a,SafeT (f a)):∀ {m:Sem α},SafeT m->SafeT (m.bind f):=by
 intro m
 induction m with
 | pure a=>intro _;exact hf a
 | raise e=>intro _;trivial
 | unsupported w=>intro _;trivial
 | finish e=>intro _;trivial
 | rule t k ih=>intro h u;exact ih u (h u)
 | «at» p k ih=>intro h u;exact ih u (h u)
 | load a p k ih=>intro h u;exact ih u (h u)
 | update a p g k ih=>intro h;exact ⟨h.1,fun u=>ih u (h.2 u)⟩
 | alloc o k ih=>intro h u;exact ih u (h u)
 | loadIfAlive a k ih=>intro h u;exact ih u (h u)
 | point l k ih=>intro h u;exact ih u (h u)
 | register a k ih=>intro _;trivial
 | fresh k ih=>intro h u;exact ih u (h u)
 | ask k ih=>intro h u;exact ih u (h u)
 | choose s n k ih=>intro h u;exact ih u (h u)
 | os r l k ih=>intro h u;exact ih u (h u)
 | call c hh g l k ih=>intro h;exact h.elim
 | handled o k ih=>intro h u;exact ih u (h u)
 | newGen c k ih=>intro h u;exact ih u (h u)
 | genState g k ih=>intro h u;exact ih u (h u)
 | resume g r l k ih=>intro h;exact h.elim
 | yield v g l k ih=>intro _;trivial
 | stack k ih=>intro h u;exact ih u (h u)
 | fork c k ih=>intro _;trivial
 | thread k ih=>intro h u;exact ih u (h u)
 | await a t ti l k ih=>intro _;trivial
theorem safe_wp {α:Type} {M:Model} {Γ:PySem.Ctx} {Q:α->Pos->Shared->Prop} {E:Value->Pos->Shared->Prop}:∀ {m:Sem α},SafeT m->∀ (p:Pos) (s:Shared),Sem.wp M Γ m Q E p s->
  Sem.wp M Γ m (fun a p' s'=>Q a p' s'/\DictsStay s.heap s'.heap) (fun e p' s'=>E e p' s'/\DictsStay s.heap s'.heap) p s:=by
 intro m
 induction m with
 | pure a=>intro _ p s h;exact ⟨h,.refl _⟩
 | raise e=>intro _ p s h;exact ⟨h,.refl _⟩
 | unsupported w=>intro _ p s h;exact h
 | finish e=>intro _ p s h;exact h
 | rule t k ih=>intro sf p s h;exact ih () (sf ()) p s h
 | «at» p' k ih=>intro sf p s h;exact ih () (sf ()) p' s h
 | load a p' k ih=>intro sf p s h;obtain ⟨o,e,h⟩:=h;exact ⟨o,e,ih o (sf o) p s h⟩
 | update a p' g k ih =>
  intro sf p s h;refine ⟨h.1,?_⟩;have st:DictsStay s.heap (s.heap.update a g):=.update _ _ sf.1;exact Sem.wp_mono M Γ _ (fun _ _ _ x=>⟨x.1,st.trans x.2⟩) (fun _ _ _ x=>⟨x.1,st.trans x.2⟩) p _ (ih () (sf.2 ()) p _ h.2)
 | alloc o k ih =>
  intro sf p s h;have st:DictsStay s.heap (s.heap.push o):=.push _ _;exact Sem.wp_mono M Γ _ (fun _ _ _ x=>⟨x.1,st.trans x.2⟩) (fun _ _ _ x=>⟨x.1,st.trans x.2⟩) p _ (ih _ (sf _) p _ h)
 | loadIfAlive a k ih=>intro sf p s h;exact ih _ (sf _) p s h
 | point l k ih=>intro sf p s h;exact ih () (sf ()) p s h
 | register a k ih=>intro _ p s h;exact h
 | fresh k ih=>intro sf p s h;exact ih _ (sf _) p _ h
 | ask k ih=>intro sf p s h;exact ih _ (sf _) p s h
 | choose src n k ih=>intro sf p s h;exact ⟨h.1,ih _ (sf _) p _ h.2⟩
 | os r l k ih=>intro sf p s h;exact ih _ (sf _) p _ h
 | call c hh g l k ih=>intro sf;exact sf.elim
 | handled o k ih=>intro sf p s h;exact ih _ (sf _) p s h
 | newGen c k ih=>intro sf p s h;exact ih _ (sf _) p _ h
 | genState g k ih=>intro sf p s h;obtain ⟨st,e,h⟩:=h;exact ⟨st,e,ih _ (sf _) p s h⟩
 | resume g r l k ih=>intro sf;exact sf.elim
 | yield v g l k ih=>intro _ p s h;exact h
 | stack k ih=>intro sf p s h;exact ih _ (sf _) p s h
 | fork c k ih=>intro _ p s h;exact h
 | thread k ih=>intro sf p s h;exact ih _ (sf _) p s h
 | await a t ti l k ih=>intro _ p s h;exact h
theorem J2w {α:Type} {M:Model} {A:Around} {m:Sem α} {Q:α->Shared->Prop} {E:Value->Shared->Prop} {s:Shared} (sf:SafeT m) (h:wpAny M A m Q E s) :
  wpAny M A m (fun a s'=>Q a s'/\DictsStay s.heap s'.heap) (fun e s'=>E e s'/\DictsStay s.heap s'.heap) s:=fun Γ p hΓ=>safe_wp sf p s (h Γ p hΓ)
theorem J1c {α:Type} (w:String):SafeT (unsupported w:Sem α):=trivial
theorem J4o (v:Value):SafeT (fieldsOf v):=by
 unfold fieldsOf
 cases v with
 | ref a =>
  refine Jl (m:=load a) (fun o=>?_) (fun _=>trivial);cases o.data <;> first | exact trivial | exact J1c _
 | _=>exact J1c _
theorem J24 (v:Value) (i:Nat):SafeT (field v i):=by
 unfold field;refine Jl (m:=fieldsOf v) (fun vs=>?_) (J4o v);cases vs[i]? <;> first | exact trivial | exact J1c _
theorem J4f (f:Array Value->Array Value) (o:Obj):(Obj.mapFields f o).dict=o.dict:=by
 unfold Obj.mapFields;obtain ⟨c,d,dt,sl⟩:=o;cases dt <;> rfl
theorem J1n (v:Value) (i:Nat) (x:Value):SafeT (setField v i x):=by
 unfold setField
 cases v with
 | ref a =>
  unfold updateField;refine Jl (m:=load a) (fun o=>?_) (fun _=>trivial)
  cases o.data with
  | fields vs =>
   show SafeT (if i < vs.size then _ else _);split
   ·refine ⟨fun o=>?_,fun _=>trivial⟩;exact J4f _ o
   ·exact J1c _
  | _=>exact J1c _
 | _=>exact J1c _
theorem J1i (e:Value) (f:Option Addr):SafeT (setFlight e f):=by
 unfold setFlight;refine Jl (m:=field e 1) (fun tb=>?_) (J24 e 1);show SafeT (if (tb != Value.none)=true then _ else _);split
 ·exact J1n _ _ _
 ·exact trivial
theorem J2t:SafeT stack:=fun _=>trivial
theorem J3v:SafeT frameEnvs:=by
 unfold frameEnvs;refine Jl (m:=stack) ?_ J2t;intro l;exact trivial
theorem J3b (f:Addr) (b:Bool):SafeT (entryPlaceOf f b):=by
 unfold entryPlaceOf;refine Jl (m:=stack) ?_ J2t;intro acts;dsimp only;split
 ·exact trivial
 ·exact trivial
theorem safe_behind (env:Env) (outer:List Env):SafeT (behindIsImport env outer):=by
 unfold behindIsImport;split
 ·exact trivial
 split
 ·exact trivial
 refine Jl (m:=field env.code 12) ?_ (J24 _ _);intro v;exact trivial
theorem safe_under:SafeT underTheClaimsCaller:=by
 unfold underTheClaimsCaller;refine Jl (m:=stack) ?_ J2t;intro l;exact trivial
theorem safe_kept (env:Env) (b:Bool) (outer:List Env):SafeT (keptBack env b outer):=by
 unfold keptBack;split
 ·split
  ·exact trivial
  refine Jl (m:=underTheClaimsCaller) ?_ safe_under;intro v;exact trivial
 ·exact trivial
theorem J4m:∀ l:List Env,SafeT (readyFrames l)
 | []=>trivial
 | env :: outer=>by
  unfold readyFrames;split
  ·rename_i f _;refine Jl (m:=load f) ?_ (fun _=>trivial);intro o;split
   ·exact trivial
   refine Jl (m:=behindIsImport env outer) ?_ (safe_behind _ _);intro b;refine Jl (m:=keptBack env b outer) ?_ (safe_kept _ _ _);intro v;refine Jl (m:=update f _) ?_ ⟨fun o=>rfl,fun _=>trivial⟩;intro _;exact J4m outer
  ·exact J1c _
theorem J2v:∀ l:List Env,SafeT (frameObject l)
 | []=>trivial
 | env :: outer=>by
  unfold frameObject;refine Jl (m:=readyFrames (env :: outer)) ?_ (J4m _);intro _;exact trivial
theorem J58 (env:Env):SafeT (PySem.frameOf env):=by
 unfold PySem.frameOf;refine Jl (m:=frameEnvs) ?_ J3v;intro l;refine Jl (m:=frameObject _) ?_ (J2v _);intro o
 cases o with
 | some f=>exact trivial
 | none=>exact J1c _
theorem J4n (a b c d e:Value) (pl:List Value):SafeT (EntryCells.newEntry a b c d e pl):=by
 unfold EntryCells.newEntry newFields newObj;generalize ([a,b,c,d,e] ++ if pl.isEmpty=true then List.replicate 6 Value.none else pl).toArray=vs;have hn:SafeT (newObjAsIs (.type "traceback") (.fields vs)):=by
  unfold newObjAsIs;intro x;exact trivial
 dsimp only;split
 ·refine Jl (m:=unsupported _) ?_ (J1c _);intro _;exact hn
 ·exact hn
theorem J23 (e:Value) (env:Env):SafeT (noteFrame e env):=by
 unfold noteFrame;split
 ·rename_i f _;refine Jl (m:=field e 1) ?_ (J24 _ _);intro head;have last:SafeT (do
    let a <- PySem.frameOf env;let b <- entryPlaceOf f (head != Value.none);let c <- EntryCells.newEntry head a Value.none (rawInt ↑f) Value.none b
    setField e 1 c):=by
   refine Jl (m:=PySem.frameOf env) ?_ (J58 env);intro a;refine Jl (m:=entryPlaceOf f _) ?_ (J3b _ _);intro b;refine Jl (m:=EntryCells.newEntry head a Value.none (rawInt ↑f) Value.none b) ?_ (J4n _ _ _ _ _ _);intro c;exact J1n _ _ _
  dsimp only;split
  ·refine Jl (m:=field head 3) ?_ (J24 _ _);intro v;split
   ·exact trivial
   ·refine Jl (m:=setField head 3 Value.none) ?_ (J1n _ _ _);intro _;exact last
  ·exact last
 ·exact J1c _
theorem J2u (e:Value) (env:Env):SafeT (leaving env e):=by
 unfold leaving;refine Jl (m:=noteFrame e env) ?_ (J23 e env);intro _;exact J1i e none
end L2
namespace L2
open PySem PySem.Spec PyProof.Rows PySem.W PySem.Builtin PySem.Builtin.ObjectAttr
def onlyV:List Value->Bool
 | .ref _ :: r=>onlyV r
 | l=>l == bmV
def overV (K:Frag) (C:Addr):Bool:=(clsIn K C).any fun cd=>onlyV cd.mro
theorem J2x (self:Value):∀ {l:List Value},onlyV l=true->refuseLoop self "__setattr__" l=pure ()
 | [],e=>by cases e
 | .ref c :: r,e=>by rw [refuseLoop_ref];exact J2x self e
 | .type n :: r,e=>by
  have e':(Value.type n :: r)=bmV:=eq_of_beq e;rw [e'];exact PySem.F.store_ValueError.passes self
 | .none :: r,e=>by cases e
 | .ellipsis :: r,e=>by cases e
 | .notImplemented :: r,e=>by cases e
 | .bool _ :: r,e=>by cases e
 | .int _ _ :: r,e=>by cases e
 | .float _ _ :: r,e=>by cases e
 | .str _ _ :: r,e=>by cases e
 | .bytes _ _ :: r,e=>by cases e
 | .builtin _ :: r,e=>by cases e
theorem onlyV_has:∀ {l:List Value},onlyV l=true->l.contains (.type "object")=true
 | [],e=>by cases e
 | .ref c :: r,e=>by rw [List.contains_cons,onlyV_has (l:=r) e,Bool.or_true]
 | .type n :: r,e=>by
  have e':(Value.type n :: r)=bmV:=eq_of_beq e;rw [e'];decide
 | .none :: r,e=>by cases e
 | .ellipsis :: r,e=>by cases e
 | .notImplemented :: r,e=>by cases e
 | .bool _ :: r,e=>by cases e
 | .int _ _ :: r,e=>by cases e
 | .float _ _ :: r,e=>by cases e
 | .str _ _ :: r,e=>by cases e
 | .bytes _ _ :: r,e=>by cases e
 | .builtin _ :: r,e=>by cases e
section
variable {prog:Program} {w:World} {A:Around} {E:Value->Shared->Prop} {s:Shared} {K:Frag} {x C:Addr} {R:Result->Shared->Prop}
theorem osa_openV {ox:Obj} {od:Option Obj} {name:Str} {tk:Tok} {v:Value} (X:K.In s.heap) (I:InstAt s.heap x ox C od) (hp:overV K C=true) (ha:findIn K (.ref C) name=some none)
  (h:wpAny (model prog w) A.in1 (storeInOwnDict (.ref x) (.ref C) (.str name tk) name v false)
   (fun fin s'=>match fin with | .done f=>R (.ok f) s' | .again c'=>c'.quiet=true/\codeAny (model prog w) A c' R s') (fun e s'=>R (.error e) s') s) :
  codeAny (model prog w) A (.call (.builtin "object.__setattr__") ⟨[.ref x,.str name tk,v],[]⟩) R s:=by
 have SF:=PySem.F.store_object;obtain ⟨cd,hc,ho⟩:=any_some hp;have ne:cd.mro.isEmpty=false:=by cases q:cd.mro with | nil=>rw [q] at ho;cases ho | cons _ _=>rfl
 have sub:Looks (model prog w) s.heap (isInstance (.ref x) (.type "object")) true:=I.type.andThen (looks_mroIn X (by unfold mroIn;rw [hc,Option.bind_some,if_neg (by rw [ne];decide),onlyV_has ho]));refine codeAny_call_builtin SF.slot.plain SF.entry (@check_slot (model prog w) _ _ s "object.__setattr__" "object" "__setattr__" (.ref x) [.str name tk,v] [] _ SF.kind SF.split sub (SF.args (.ref x) (.str name tk) v) ?_);have hm:Looks (model prog w) s.heap (mroOf (.ref C)) cd.mro:=(looks_clsIn X hc).andThen .now;rw [osa_eq,refuse_eq];refine wpAny_bind (wpAny_bind (I.type.here (wpAny_bind (hm.here ?_))));rw [J2x _ ho];refine wpAny_pure (wpAny_bind (I.type.here (wpAny_bind ((looks_findIn X ha).here (wpAny_bind (wpAny_pure ?_))))));exact h
theorem set_new {ox:Obj} {name:Str} {v:Value} {Q:Unit->Shared->Prop} (X:K.In s.heap) (I:InstAt s.heap x ox C none) (hdn:ox.dict=none) {vs:Array Value} (hfd:ox.data=.fields vs)
  (hs:findIn K (.ref C) "__setattr__"=some (some (.builtin "object.__setattr__"))) (hp:overV K C=true) (ha:findIn K (.ref C) name=some none) (hh:hasDictIn K C=true)
  (h:∀ h' tk,h'.get? x=some { ox with dict:=some s.heap.objs.size }->h'.Ns1 s.heap.objs.size (fun y=>if y=name then some v else none)->(∀ b o,b≠x->s.heap.get? b=some o->h'.get? b=some o)->Q () { s with heap:=h',toks:=tk }) :
  wpAny (model prog w) A (setAttr (.ref x) name v) Q E s:=by
 refine set_plain X I hs (osa_openV (s:={ s with toks:=s.toks + 1 }) X I hp ha ?_);obtain ⟨cd,hc,hd'⟩:=any_some hh;have hx:s.heap.get? x=some ox:=I.at_;obtain ⟨_,hcl,hno,_⟩:=I;obtain ⟨oc,odi,oda,osl⟩:=ox;dsimp only at hcl hdn hno hfd h;subst hcl hdn hfd;unfold storeInOwnDict;refine wpAny_bind (wpAny_pure (wpAny_bind (wpAny_bind (wpAny_loadPart hx (wpAny_bind (Looks.here (s:={ s with toks:=s.toks + 1 }) (looks_clsIn X hc) ?_))))));rw [hd'];have hx1:(s.heap.push { cls:=.type "dict",data:=.dict #[] }).get? x=some ⟨.ref C,none,.fields vs,osl⟩:=get?_push_of_some _ hx;have hxs:x≠s.heap.objs.size:=Nat.ne_of_lt (lt_size hx);rw [if_neg (by decide)];dsimp only;rw [if_neg (by simp [typeHasDict])];refine wpAny_bind (wpAny_alloc' ?_);refine wpAny_bind (wpAny_update' hx1 ?_);refine wpAny_pure ?_;have hgd:((s.heap.push { cls:=.type "dict",data:=.dict #[] }).update x fun o=>{ cls:=o.cls,dict:=some s.heap.objs.size,data:=o.data,slots:=o.slots }).get? s.heap.objs.size=some { cls:=.type "dict",data:=.dict #[] } :=
  (Heap.get?_update_ne _ _ _ _ hxs.symm).trans (Heap.get?_push_at rfl rfl)
 have hnd:((s.heap.push { cls:=.type "dict",data:=.dict #[] }).update x fun o=>{ cls:=o.cls,dict:=some s.heap.objs.size,data:=o.data,slots:=o.slots }).Ns s.heap.objs.size (fun _=>none) :=
  ⟨_,#[],_,hgd,rfl,fun e he=>absurd he (by simp),fun _=>rfl⟩
 show wpAny _ _ (storeInDict s.heap.objs.size (.str name _) name v) _ _ _;unfold storeInDict newKeyGuard;refine wpAny_bind (wpAny_pure (wpAny_bind (wpAny_nsSet1 (Heap.Ns1.of_empty hnd) fun h' hn' hs'=>?_)));obtain ⟨oD,esD,epD,hoD,hdD,hcD⟩:=hn'.count (Within.cons name v Within.nil);refine wpAny_bind (wpAny_lookBehind hoD (by rw [hdD];exact pastItsLine_dict (Nat.le_trans hcD (by rw [length_cons,length_nil,sizeLine_eq];omega))) ?_);refine wpAny_pure (h h' _ ?_ hn' fun b o hb e=>?_)
 ·exact (hs'.2 x hxs).trans (Heap.get?_update_self _ hx1 rfl)
 ·exact (hs'.2 b (Nat.ne_of_lt (lt_size e))).trans ((Heap.get?_update_ne _ _ _ _ hb).trans (get?_push_of_some _ e))
end
end L2
namespace L2
open PySem PySem.Spec PyProof.Rows PySem.W
section
variable {prog:Program} {w:World} {A:Around} {E:Value->Shared->Prop} {K:Frag} {x D:Addr} {ox:Obj} {od:Option Obj} {hh:Heap} {g:Array GenState} {d:Drawn} {t:Nat} {os:OsState} {name:Str} {expr:Bool} {v:Value}
theorem x_attr {Q:Value->Shared->Prop} (X:K.In hh) (W:XCls K D) (I:InstAt hh x ox D od) {cd:ClassData} (hn:findIn K (.ref D) name=some none) (hc:clsIn K D=some cd) (ho:ownOf cd od name=some (some v)) (hv:handedIn v=true) (h:Q v ⟨hh,g,d,t + 1,os⟩) :
  wpAny (model prog w) A (getAttr (.ref x) name expr) Q E ⟨hh,g,d,t,os⟩:=by
 have L0:=I.type (M:=model prog w);have L1:=looks_findIn (M:=model prog w) X W.ga;have L2:=looks_findIn (M:=model prog w) X W.no;have L3:=looks_findIn (M:=model prog w) X hn;have L6:=looks_own (M:=model prog w) X I hc ho;have L4:=looks_mroIn (M:=model prog w) X W.mb;have gb:=PySem.F.attrBase_ValueError.ga.bind (.ref x);unfold getAttr getAttrBy;refine wpAny_bind (wpAny_mkText (wpAny_holding (wpAny_bind (L0.at (wpAny_bind (L1.at ?_))))));have nb:(Value.builtin "BaseException.__getattribute__" == Value.builtin "object.__getattribute__")=false:=by decide +kernel
 show wpAny _ _ (if (onTheHeap (Value.ref D) && Value.builtin "BaseException.__getattribute__" == Value.builtin "object.__getattribute__")=true then _ else _) _ _ _;rw [nb,Bool.and_false,if_neg Bool.false_ne_true];unfold getAttrByItsOwn hookBefore;apply wpAny_bind;show wpAny _ _ (if onTheHeap (Value.ref D)=true then _ else _) _ _ _;rw [if_pos (show onTheHeap (Value.ref D)=true from rfl)];refine L2.at ?_;apply wpAny_bind;apply wpAny_attempt;apply wpAny_holding;unfold callGetattribute;rw [show onTheHeap (Value.builtin "BaseException.__getattribute__")=false from rfl,Bool.and_false,if_neg Bool.false_ne_true];unfold boundAndCalled;rw [gb];apply wpAny_bind;apply wpAny_pure;refine wpAny_call (codeAny_call_builtin PySem.F.attrBase_ValueError.ga.plain PySem.F.entry_bexc_ga ?_);have hk:builtinKind "BaseException.__getattribute__"=some .slot:=by decide +kernel
 have hs:splitId "BaseException.__getattribute__"=some ("BaseException","__getattribute__"):=by decide +kernel
 have ha:=PySem.F.args_bexc_ga (.ref x) (.str name t);have L5:Looks (model prog w) hh (isInstance (.ref x) (.type "BaseException")) true:=L0.andThen L4;have p1:=I.at_;have p2:=I.cls;simp only [checkBuiltinCall,hk,hs];apply wpAny_bind;refine L5.at ?_
 repeat (first | assumption | wp_step)
 rw [p2];refine L3.at ?_;apply wpAny_bind;apply wpAny_pure;apply wpAny_bind;apply wpAny_pure;unfold Builtin.ObjectAttr.ownThenClass;apply wpAny_bind;refine L6.at ?_;refine wpAny_bind (wpAny_rule (wpAny_pure (wpAny_pure ?_)));show wpAny _ _ (handedOut v) _ _ _;rw [handedOut_of hv];exact wpAny_pure h
end
end L2
namespace L2
open PySem PySem.Spec PyProof.Rows
section
variable {prog:Program} {w:World} {A:Around} {E:Value->Shared->Prop} {h:Heap} {g:Array GenState} {d:Drawn} {t:Nat} {os:OsState}
variable {nm q:Str} {C N:Addr} {bs bm bmB:List Value} {hdct:Bool} {sn:List Str} {sub:List Value} {ab:Bool} {col:Option Bool} {dd:Option Addr} {k0 k1 k2 k3 k5:Option Value} {B newId initId:String}
theorem typeCallI (F:ExcBaseFacts B newId initId bmB) (T:OwnTail h bmB bm) {mN:Str->Option Value} {rest:List Value} {fI:Addr} {oI:Obj} {Q:PySem.Fin->Shared->Prop}
  (hC:h.get? C=some (excClassObj nm q C N bs bm hdct sn sub ab col dd k0 k1 k2 k3 k5 newId)) (hn:h.Ns N mN) (hi:mN "__init__"=some (.ref fI)) (hfI:h.get? fI=some oI) (hfc:oI.cls=.type "function")
  (hq:wpAny (model prog w) A (call (.ref fI) (.ref (h.objs.size + 1) :: rest)) (fun r s'=>r=.none/\Q (.done (.ret (.ref (h.objs.size + 1)))) s') E
   ⟨(h.push { cls:=.type "tuple",data:=.seq rest.toArray }).push { cls:=.ref C,data:=.fields #[.ref h.objs.size,.none,.none,.none,.bool false,.none] },g,d,t,os⟩) (hrest:rest.length<=sizeLine) :
  wpAny (model prog w) A (Builtin.«type.__call__» ⟨.ref C :: rest,[]⟩) Q E ⟨h,g,d,t,os⟩:=by
 repeat (first | with_reducible refine wpAny_loadPart_at hC ?_ | with_reducible refine wpAny_madeBy_exc hC ?_ | wp_step)
 refine codeAny_call_builtin_code (Code.quiet_builtin _ F.quiet) (wpAny_check_new_subT F T hC ?_);refine codeAny_exc_new_subT F T hC ?_ hrest;show wpAny _ _ _ _ _ _;have kp:∀ b o,h.get? b=some o->((h.push { cls:=.type "tuple",data:=.seq rest.toArray }).push { cls:=.ref C,data:=.fields #[.ref h.objs.size,.none,.none,.none,.bool false,.none] }).get? b=some o :=
  fun b o e=>get?_push_of_some _ (get?_push_of_some _ e)
 have hC1:=kp _ _ hC;have hfI1:=kp _ _ hfI;have hn1:=hn.keeps kp;have hget:((h.push { cls:=.type "tuple",data:=.seq rest.toArray }).push { cls:=.ref C,data:=.fields #[.ref h.objs.size,.none,.none,.none,.bool false,.none] }).get? (h.objs.size + 1)=some
   { cls:=.ref C,data:=.fields #[.ref h.objs.size,.none,.none,.none,.bool false,.none] }:=Heap.get?_push_at (by rw [size_push]) rfl
 have hcC:(Value.ref C :: bm).contains (.ref C)=true:=by simp
 have T1:=T.keeps kp;unfold isInstance
 repeat (first | with_reducible refine wpAny_loadPart_at hget ?_ | (with_reducible refine wpAny_isSubtype_exc hC1 ?_;rw [hcC]) | wp_step)
 show wpAny _ _ (typeLookup (.ref C) _) _ _ _;refine wpAny_typeLookup_tail hC1 hn1 T1 F.mroIs F.init.lookup ?_;rw [hi];refine wpAny_holding (wpAny_bind ?_);unfold bindSpecial;refine wpAny_bind (wpAny_typeOf (T:="function") ⟨_,hfI1,hfc⟩ ?_);rw [if_pos (by decide)];refine wpAny_pure (wpAny_bind (wpAny_mono hq (fun r s' hr=>?_) fun _ _ x=>x));obtain ⟨rfl,hQ⟩:=hr
 wp_walk
 exact hQ
theorem callI (F:ExcBaseFacts B newId initId bmB) (T:OwnTail h bmB bm) {mN:Str->Option Value} {rest:List Value} {fI:Addr} {oI:Obj} {Q:Value->Shared->Prop}
  (hC:h.get? C=some (excClassObj nm q C N bs bm hdct sn sub ab col dd k0 k1 k2 k3 k5 newId)) (hn:h.Ns N mN) (hi:mN "__init__"=some (.ref fI)) (hfI:h.get? fI=some oI) (hfc:oI.cls=.type "function")
  (hq:wpAny (model prog w) (A.under (.builtin "type.__call__" ⟨.ref C :: rest,[]⟩)) (call (.ref fI) (.ref (h.objs.size + 1) :: rest)) (fun r s'=>r=.none/\Q (.ref (h.objs.size + 1)) s') E
   ⟨(h.push { cls:=.type "tuple",data:=.seq rest.toArray }).push { cls:=.ref C,data:=.fields #[.ref h.objs.size,.none,.none,.none,.bool false,.none] },g,d,t,os⟩) (hrest:rest.length<=sizeLine) :
  wpAny (model prog w) A (call (.ref C) rest) Q E ⟨h,g,d,t,os⟩:=by
 have f1:=tc_lookup;have f2:=tc_bind (.ref C);have hT:(⟨h,g,d,t,os⟩:Shared).TypeIs (.ref C) "type":=⟨_,hC,rfl⟩;refine wpAny_call (codeAny_of_tree ?_);show wpAny _ _ (callAny (.ref C) _) _ _ _
 repeat (any_goals (first | assumption | with_reducible refine wpAny_loadPart_at hC ?_ | wp_step))
 refine ⟨rfl,?_⟩;exact codeAny_call_builtin_at (Code.quiet_builtin _ (by decide +kernel)) entry_typeCall (wpAny_check_type_call_sub hC (typeCallI F T hC hn hi hfI hfc hq hrest))
end
end L2
namespace L2
open PySem PySem.Spec PyProof.Rows
abbrev excData (t:Addr):Data:=.fields #[.ref t,.none,.none,.none,.bool false,.none]
def excN (a C t:Addr):HO:=.ext fun h=>h.get? a=some { cls:=.ref C,data:=excData t }
def excD (a C t dx:Addr):HO:=.ext fun h=>h.get? a=some { cls:=.ref C,dict:=some dx,data:=excData t }
section
variable {X:Cx} {pins:List (Addr × Obj)} {σ:St} {H:Hp} {s:Shared} {h':Heap}
theorem Inv.store2 {x dx:Addr} {ox od:HO} {φ:Heap->Prop} {t':Nat} (I:Inv X pins σ H s) (hx:H x=some (.ext φ)) (k:∀ b u,b≠x->s.heap.get? b=some u->h'.get? b=some u) (hxo:∃ u,h'.get? x=some u)
  (hp:s.heap.objs.size<=dx) (newx:ObjOk X.prog X.w (upd (upd H dx od) x ox) h' x ox) (newd:ObjOk X.prog X.w (upd (upd H dx od) x ox) h' dx od):Inv X pins σ (upd (upd H dx od) x ox) { s with heap:=h',toks:=t' }:=by
 have hdx:H dx=none:=I.hok.fresh hp;have nx:∀ b,H b=none->b≠x:=fun b n z=>by rw [z,hx] at n;cases n
 have ne:∀ b u,H b=some u->(∀ ψ,u≠.ext ψ)->b≠x/\b≠dx:=fun b u e q=>⟨fun z=>by rw [z,hx] at e;cases e;exact q _ rfl,fun z=>by rw [z,hdx] at e;cases e⟩;have st:∀ b u,H b=some u->(∀ ψ,u≠.ext ψ)->upd (upd H dx od) x ox b=some u:=fun b u e q=>by
  obtain ⟨n1,n2⟩:=ne b u e q;rw [Je n1,Je n2];exact e
 refine I.un ⟨fun b u q n _ _=>k b u (nx b n) q,fun b u q n _ _=>⟨u.slots,k b u (nx b n) q⟩,fun b u q n _=>?_,fun b u q _=>?_,fun b xs q=>st b _ q (fun _ z=>nomatch z),fun b u xs q=>st b _ q (fun _ z=>nomatch z),fun b ps q=>⟨#[],by rw [st b _ q (fun _ z=>nomatch z)];simp⟩⟩ fun b u e=>?_
 ·rw [Je (nx b n),Je (Nat.ne_of_lt (Nat.lt_of_lt_of_le (lt_size q) hp))];exact n
 ·by_cases c:b=x
  ·subst c;exact hxo
  ·exact ⟨u,k b u c q⟩
 ·by_cases c:b=x
  ·subst c;rw [J1] at e;cases e;exact newx
  ·rw [Je c] at e;by_cases c2:b=dx
   ·subst c2;rw [J1] at e;cases e;exact newd
   ·rw [Je c2] at e;refine (I.hok b u e).stay (fun c' v hc q=>k c' v ?_ q) (fun c' q=>st c' _ q (fun _ z=>nomatch z)) fun c' xs q=>st c' _ q (fun _ z=>nomatch z);rcases hc with z | z
    ·rw [z];exact c
    ·exact (ne c' _ z (fun _ z=>nomatch z)).1
def off (H:Hp) (x:Addr):Hp:=fun b=>if b=x then none else H b
theorem off_ne {H:Hp} {x b:Addr} (h:b≠x):off H x b=H b:=if_neg h
theorem J5g {H:Hp} {x:Addr}:off H x x=none:=if_pos rfl
theorem Inv.drop {x:Addr} {φ:Heap->Prop} (I:Inv X pins σ H s) (hx:H x=some (.ext φ)) (hn:X.s₀.heap.get? x=none):Inv X pins σ (off H x) s:=by
 have st:∀ b u,H b=some u->(∀ ψ,u≠.ext ψ)->off H x b=some u:=fun b u e q=>by
  rw [off_ne (fun z=>by rw [z,hx] at e;cases e;exact q _ rfl)];exact e
 have fr:∀ b,H b=none->off H x b=none:=fun b e=>by
  by_cases c:b=x
  ·rw [c];exact J5g
  ·rw [off_ne c];exact e
 exact ⟨I.ok,I.os,I.bare,⟨I.base.keep,I.base.slot,fun b o e n he=>fr b (I.base.free b o e n he),I.base.there,fun b xs q=>st b _ (I.base.tups b xs q) (fun _ z=>nomatch z),fun b o u q=>st b _ (I.base.frzs b o u q) (fun _ z=>nomatch z),
  fun b ps q=>by obtain ⟨m,e⟩:=I.base.tbls b ps q;exact ⟨m,st b _ e (fun _ z=>nomatch z)⟩⟩,I.loc,I.cell,fr _ I.free,fun y c e=>fr _ (I.freeC y c e),fun p hp=>by obtain ⟨a,b,c⟩:=I.pin p hp;exact ⟨a,fr _ b,c⟩,
  fun b u e=>by
   by_cases c:b=x
   ·rw [c,J5g] at e;cases e
   ·rw [off_ne c] at e;exact (I.hok b u e).stay (fun c' v _ q=>q) (fun c' q=>st c' _ q (fun _ z=>nomatch z)) fun c' xs q=>st c' _ q (fun _ z=>nomatch z),I.len⟩
end
structure XNew (K:PySem.W.Frag) (C:Addr) (f:Str):Prop where
 sa:PySem.W.findIn K (.ref C) "__setattr__"=some (some (.builtin "object.__setattr__"))
 ov:overV K C=true
 no:PySem.W.findIn K (.ref C) f=some none
 hd:PySem.W.hasDictIn K C=true
def sFldN (K:PySem.W.Frag) (ta tv:TE) (f:Str):TS:=fun D σ H=>tv σ H fun y H1=>ta σ H1 fun x H2=>∃ a C t,x=.ref a/\H2 a=some (excN a C t)/\XNew K C f/\∀ dx,H2 dx=none->D.nx σ (upd (upd H2 dx (.xd [(f,y)])) a (excD a C t dx))
theorem ps_fldN {X:Cx} {o value:Expr} {ta tv:TE} {f:Str} {pos pos':Pos} (ha:PE X o ta) (hv:PE X value tv) (hs:swapsWith value (some (.Attribute o f pos')) pos.line X.env=pure false):PS X (.Assign [.Attribute o f pos'] value pos) (sFldN X.K ta tv f):=by
 intro pins s σ H D I h;refine plainObj_wpAny_Assign_Attribute (thn (hv pins s σ H _ I h) fun u s1 h9=>?_) hs;obtain ⟨y,H1,I1,ry,q⟩:=h9;refine thn (ha pins s1 σ H1 _ I1 q) fun ov s2 h9=>?_;obtain ⟨x,H2,I2,rx,a,C,t,ex,ea,c,q2⟩:=h9;subst ex;obtain rfl:ov=Value.ref a:=rx;have hob:s2.heap.get? a=some { cls:=.ref C,data:=excData t }:=(I2.hok a _ ea).1;refine set_new I2.kIn ⟨hob,rfl,rfl,trivial⟩ rfl rfl c.sa c.ov c.no c.hd fun h' tk hx' hn' kp=>?_;have hdx:=I2.hok.fresh (Nat.le_refl s2.heap.objs.size);have nad:s2.heap.objs.size≠a:=fun z=>by rw [z,ea] at hdx;cases hdx
 refine ⟨σ,_,Inv.store2 I2 ea kp ⟨_,hx'⟩ (Nat.le_refl _) ?_ ?_,q2 _ hdx⟩
 ·exact ⟨hx',⟨_,hx'⟩,fun h1 h2 e k=>k _ e⟩
 ·refine ⟨_,hn',fun g=>?_⟩;show RelO (List.lookup g [(f,y)]) (if g=f then some u else none);by_cases c:g=f
  ·have hb:(g == f)=true:=beq_iff_eq.mpr c;simp only [List.lookup,hb,if_pos c];exact ry
  ·have hb:(g == f)=false:=beq_eq_false_iff_ne.mpr c;simp only [List.lookup,hb,if_neg c];exact trivial
section
variable {M:Model} {A:Around} {E:Value->Shared->Prop} {env:Env} {nm q:Str} {C N:Addr} {bs bm:List Value} {hdct:Bool} {sn:List Str} {sub:List Value} {ab:Bool} {col:Option Bool} {dd:Option Addr} {k0 k1 k2 k3 k5:Option Value} {newId:String}
theorem raiseStmtI {s:Shared} {x:Sem Value} {Q:Flow->Shared->Prop} (hbase:bm.contains (.type "BaseException")=true) (hh:A.handled=none)
  (h:wpAny M A x (fun v s1=>∃ e t dx,v=.ref e/\s1.heap.get? C=some (excClassObj nm q C N bs bm hdct sn sub ab col dd k0 k1 k2 k3 k5 newId)/\
   s1.heap.get? e=some { cls:=.ref C,dict:=some dx,data:=.fields #[.ref t,.none,.none,.none,.bool false,.none] }/\E (.ref e) s1) E s) :
  wpAny M A (raiseStmt env (some x) none) Q E s:=by
 have hcB:(Value.ref C :: bm).contains (.type "BaseException")=true:=by rw [List.contains_cons,hbase,Bool.or_true]
 unfold raiseStmt;refine wpAny_bind (wpAny_mono h (fun v s1 h1=>?_) fun _ _ x=>x);obtain ⟨e,t,dx,rfl,hC,he,hE⟩:=h1;obtain ⟨hp,g,d,tk,os⟩:=s1
 repeat (first | with_reducible refine wpAny_loadPart_at he ?_ | with_reducible refine wpAny_loadPart_at hC ?_ | (with_reducible refine wpAny_isSubtype_exc hC ?_;rw [hcB]) | wp_step)
 exact wpAny_raiseNew_none hh hE
end
end L2
namespace L2
open PySem PySem.Spec PyProof.Rows
def Exc2 (P:Program) (w:World):CXT:=fun outer H s E e s'=>∃ od:Option Addr,Exc1 P w outer H s (fun cls _ H'=>E cls od H') e s'/\∀ ea,e=.ref ea->∃ ob,s'.heap.get? ea=some ob/\ob.dict=od
theorem get_objs {h:Heap} {a:Addr} {o:Obj} (e:h.get? a=some o):h.objs[a]?=some o:=by
 unfold Heap.get? at e;split at e
 ·cases e
 ·exact e
theorem DictsStay.at_ {h h':Heap} {a:Addr} {o o':Obj} (d:DictsStay h h') (e:h.get? a=some o) (e':h'.get? a=some o'):o'.dict=o.dict:=by
 obtain ⟨u,e1,e2⟩:=d a o (get_objs e);rw [get_objs e'] at e1;cases e1;exact e2
section
variable {P:Program} {w:World} {K:PySem.W.Frag} {mg:Str->Option Value} {base:Heap} {N:List Str} {qual:Str} {scope:Scope} {f:Addr} {cd:Value} {A:Around} {outer:List Env} {s0:Shared} {H0:Hp} {E E':XK} {pins:List (Addr × Obj)} {σ:St} {H:Hp} {s:Shared}
theorem inv_cx {CX CX':CXT} (I:Inv (cxOf CX P w K mg base N qual scope f cd A outer s0 H0 E) pins σ H s):Inv (cxOf CX' P w K mg base N qual scope f cd A outer s0 H0 E') pins σ H s:=(I.wish _).unwish (X:=cxOf CX' P w K mg base N qual scope f cd A outer s0 H0 E') (E:=(cxOf CX P w K mg base N qual scope f cd A outer s0 H0 E).xe)
theorem Exc1.there {e:Value} {s1 s2:Shared} (x:Exc1 P w outer H s E e s1) {ea:Addr} (h:e=.ref ea):∃ ob,s1.heap.get? ea=some ob:=by
 obtain ⟨ea',cls,H',B,a0,rfl,_,_,fly,_⟩:=x;cases h;obtain ⟨ob,e,_⟩:=fly.there;exact ⟨ob,e⟩
theorem pass1F {e:Value} {s':Shared} (I:Inv (cxOf (Exc1 P w) P w K mg base N qual scope f cd A outer s0 H0 E) pins σ H s) (x:Exc1 P w (envOfC qual scope s0.heap.objs.size f cd :: outer) H s E e s') :
  wpAny (model P w) (A.deeper (envOfC qual scope s0.heap.objs.size f cd)) (leaving (envOfC qual scope s0.heap.objs.size f cd) e) (fun _ s''=>Exc1 P w outer H0 s0 E e s'') (fun _ _=>False) s':=by
 obtain ⟨ea,cls,H',B,a0,rfl,os,bare,fly,un,hok,hea,new,trk,inB,q⟩:=x;have fl:∀ {b:Addr},b∈frs (envOfC qual scope s0.heap.objs.size f cd :: outer)↔b=s0.heap.objs.size\/b∈frs outer:=J4b rfl;have nf:∀ b u,s0.heap.get? b=some u->b ∉ frs outer->b ∉ frs (envOfC qual scope s0.heap.objs.size f cd :: outer):=fun b u e n z=>(fl.mp z).elim (Nat.ne_of_lt (lt_size e)) n;have fly0:Heap.FlyingW B (envOfC qual scope s0.heap.objs.size f cd :: outer) ea cls a0 s'.heap:=fly;have un:Un (frs (envOfC qual scope s0.heap.objs.size f cd :: outer)) [] H H' s.heap s'.heap:=un;have inB:∀ b u,s.heap.get? b=some u->b ∉ frs (envOfC qual scope s0.heap.objs.size f cd :: outer)->∃ v,B.get? b=some v:=inB;refine wpAny_leaves_onW (L:=s0.heap.objs.size) I.ok.frames rfl fly0 fun h'' fly2 ups=>?_;have stay:∀ b o,s.heap.get? b=some o->b ∉ frs (envOfC qual scope s0.heap.objs.size f cd :: outer)->∀ o',s'.heap.get? b=some o'->h''.get? b=some o':=fun b o e n o' e'=>by
  obtain ⟨v,hv⟩:=inB b o e n;have:=fly0.1 b v hv;rw [e'] at this;cases this;exact fly2.1 b _ hv
 refine ⟨ea,cls,H',B,a0,rfl,os.trans I.os,bare,fly2,⟨fun b o e n hb _=>?_,fun b o e n hb _=>?_,fun b o e n _=>?_,fun b o e _=>?_,fun b xs e=>un.tups b xs (I.base.tups b xs e),fun b o u e=>un.frzs b o u (I.base.frzs b o u e),fun b ps e=>?_⟩,hok.over trk fly0.1 fly2.1,hea,?_,trk,fun b u e n=>?_,q⟩
 ·have e1:=I.base.keep b o e n hb (by simp [cxOf]);have n1:=I.base.free b o e n (by simp [cxOf]);exact stay b o e1 (nf b o e hb) o (un.keep b o e1 n1 (nf b o e hb) (by simp))
 ·obtain ⟨sl,e1⟩:=I.base.slot b o e n hb (by simp [cxOf]);have n1:=I.base.free b o e n (by simp [cxOf]);obtain ⟨sl',e2⟩:=un.slot b _ e1 n1 (fl.mpr (.inr hb)) (by simp);obtain ⟨o',e3,nd⟩:=J5i fly0.2.2.1 (fl.mpr (.inr hb));rw [e2] at e3;cases e3;obtain ⟨sl'',e4⟩:=ups b _ e2 nd;exact ⟨sl'',e4⟩
 ·obtain ⟨o',e1⟩:=I.base.there b o e (by simp [cxOf]);exact un.free b o' e1 (I.base.free b o e n (by simp [cxOf])) (by simp)
 ·obtain ⟨o',e1⟩:=I.base.there b o e (by simp [cxOf]);obtain ⟨o2,e2⟩:=un.there b o' e1 (by simp);by_cases hb:b∈frs outer
  ·obtain ⟨o3,e3,nd⟩:=J5i fly0.2.2.1 (fl.mpr (.inr hb));obtain ⟨sl,e4⟩:=ups b o3 e3 nd;exact ⟨_,e4⟩
  ·exact ⟨o2,stay b o' e1 (nf b o e hb) o2 e2⟩
 ·obtain ⟨m1,e1⟩:=I.base.tbls b ps e;obtain ⟨m2,e2⟩:=un.tbls b _ e1;exact ⟨m1 ++ m2,by rw [e2,Array.append_assoc]⟩
 ·cases z:s0.heap.get? ea with
  | none=>rfl
  | some o =>
   obtain ⟨o',e1⟩:=I.base.there ea o z (by simp [cxOf]);rw [e1] at new;cases new
 ·obtain ⟨o',e1⟩:=I.base.there b u e (by simp [cxOf]);exact inB b o' e1 (nf b u e n)
theorem pass2:J3a (Exc2 P w) (cxOf (Exc2 P w) P w K mg base N qual scope f cd A outer s0 H0 E) E:=by
 rintro pins σ H s e s' I ⟨od,x,hd⟩;have x0:=x;obtain ⟨ea,cls,H',B,a0,rfl,_⟩:=x0;have q:=pass1F (E:=fun cls _ H'=>E cls od H') (inv_cx I) x;obtain ⟨ob,hob,hdo⟩:=hd ea rfl;refine wpAny_mono (J2w (J2u (.ref ea) _) q) (fun _ s2 h2=>⟨od,h2.1,fun ea' he=>?_⟩) fun _ _ z=>z.1.elim;cases he;obtain ⟨ob2,e2⟩:=Exc1.there (s2:=s2) h2.1 rfl;exact ⟨ob2,e2,(h2.2.at_ hob e2).trans hdo⟩
theorem xe_made2 {ea:Addr} {oe:Obj} {vs:Array Value} {a0:Value} (I:Inv (cxOf (Exc2 P w) P w K mg base N qual scope f cd A outer s0 H0 E) pins σ H s) (he:s.heap.get? ea=some oe) (hd:oe.data=.fields vs) (h1:vs[1]?=some .none) (h0:vs[0]?=some a0)
  (hea:H ea=none) (hnew:s0.heap.get? ea=none) (q:E oe.cls oe.dict H):(cxOf (Exc2 P w) P w K mg base N qual scope f cd A outer s0 H0 E).xe (.ref ea) s:=by
 have fr:s.heap.FunFrames base (envOfC qual scope s0.heap.objs.size f cd :: outer):=I.stack;have hin:∀ env∈(envOfC qual scope s0.heap.objs.size f cd :: outer),∀ b,env.frame=some b->b∈ea :: frs (envOfC qual scope s0.heap.objs.size f cd :: outer):=fun env he b hb=>mem_cons_of_mem _ (List.mem_filterMap.mpr ⟨env,he,hb⟩);have fl:∀ {b:Addr},b∈frs (envOfC qual scope s0.heap.objs.size f cd :: outer)↔b=s0.heap.objs.size\/b∈frs outer:=J4b rfl;have inB:∀ b u,s.heap.get? b=some u->b≠ea->b ∉ frs (envOfC qual scope s0.heap.objs.size f cd :: outer)->(hideAll s.heap (ea :: frs (envOfC qual scope s0.heap.objs.size f cd :: outer))).get? b=some u:=fun b u e n1 n=>hideAll_get _ e fun z=>(mem_cons.mp z).elim n1 n;have nL:∀ b u,s0.heap.get? b=some u->b≠s0.heap.objs.size:=fun b u e=>Nat.ne_of_lt (lt_size e);have nE:∀ b u,s0.heap.get? b=some u->b≠ea:=fun b u e z=>by rw [z,hnew] at e;cases e
 have nf:∀ b u,s0.heap.get? b=some u->b ∉ frs outer->b ∉ frs (envOfC qual scope s0.heap.objs.size f cd :: outer):=fun b u e n z=>(fl.mp z).elim (nL b u e) n;refine wpAny_mono (J2w (J2u (.ref ea) _) (wpAny_leaving_firstW (base:=hideAll s.heap (ea :: frs (envOfC qual scope s0.heap.objs.size f cd :: outer))) (Q:=fun _ s2=>∃ h',s2={ s with heap:=h' }/\Heap.LeftW (hideAll s.heap (ea :: frs (envOfC qual scope s0.heap.objs.size f cd :: outer))) (envOfC qual scope s0.heap.objs.size f cd :: outer) ea oe.cls a0 s.heap h')
  (E:=fun _ _=>False) I.ok.frames (PySem.W.funFrames_hide fr hin) rfl he (fun b o z=>of_hideAll _ z) (hideAll_none _ (mem_cons_self ..)) hd h1 h0 fun h' hL=>⟨h',rfl,hL⟩)) (fun _ s2 h2=>?_) fun _ _ z=>z.1.elim
 obtain ⟨⟨h'',rfl,k1,⟨_,_,k2⟩,k3,k4⟩,ds⟩:=h2;have fly:Heap.FlyingW (hideAll s.heap (ea :: frs (envOfC qual scope s0.heap.objs.size f cd :: outer))) outer ea oe.cls a0 h'':=⟨k1,hideAll_none _ (mem_cons_self ..),k2,k3⟩;have up:∀ b o,s.heap.get? b=some o->b∈frs (envOfC qual scope s0.heap.objs.size f cd :: outer)->∃ sl,h''.get? b=some { o with slots:=sl }:=fun b o e hb=>by
  obtain ⟨o',e',nd⟩:=J5i fr hb;rw [e] at e';cases e';exact k4 b o e nd
 have there:∀ b o,s.heap.get? b=some o->b≠ea->∃ o',h''.get? b=some o':=fun b o e ne=>by
  by_cases hb:b∈frs (envOfC qual scope s0.heap.objs.size f cd :: outer)
  ·obtain ⟨sl,z⟩:=up b o e hb;exact ⟨_,z⟩
  ·exact ⟨o,fly.1 b o (inB b o e ne hb)⟩
 have trk:∀ b o,H b=some o->∃ u,(hideAll s.heap (ea :: frs (envOfC qual scope s0.heap.objs.size f cd :: outer))).get? b=some u:=fun b o e=>by
  obtain ⟨u,hu⟩:=(I.hok b o e).has;refine ⟨u,inB b u hu (fun z=>by rw [z,hea] at e;cases e) fun z=>?_⟩;have:=I.stkFree b z;rw [e] at this;cases this
 refine ⟨oe.dict,⟨ea,oe.cls,H,_,a0,rfl,I.os,I.bare,fly,⟨fun b o e n hb _=>?_,fun b o e n hb _=>?_,fun b o e n hb=>I.base.free b o e n hb,fun b o e _=>?_,I.base.tups,I.base.frzs,I.base.tbls⟩,I.hok.over trk (fun b o z=>of_hideAll _ z) fly.1,hea,hnew,trk,fun b u e n=>?_,q⟩,fun ea' hz=>?_⟩
 ·exact fly.1 b o (inB b o (I.base.keep b o e n hb (by simp [cxOf])) (nE b o e) (nf b o e hb))
 ·obtain ⟨sl,e1⟩:=I.base.slot b o e n hb (by simp [cxOf]);obtain ⟨sl',e2⟩:=up b _ e1 (fl.mpr (.inr hb));exact ⟨sl',e2⟩
 ·obtain ⟨o',e1⟩:=I.base.there b o e (by simp [cxOf]);exact there b o' e1 (nE b o e)
 ·obtain ⟨o',e1⟩:=I.base.there b u e (by simp [cxOf]);exact ⟨o',inB b o' e1 (nE b u e) (nf b u e n)⟩
 ·cases hz;obtain ⟨ob2,e2,_⟩:=fly.there;exact ⟨ob2,e2,ds.at_ he e2⟩
end
end L2
namespace L2
open PySem PySem.Spec PyProof.Rows
def excInI (K:PySem.W.Frag) (C:Addr) (bmB:List Value) (newId:String) (fI:Addr):Bool:=match K.lookup C with
 | some ⟨.type "type",_,.cls cd,sl⟩=>(match cd.mro,sl.toList with
  | .ref C' :: bm,[_,_,_,_,some (.builtin n),_]=>C' == C && n == newId && !cd.hasDel && PySem.W.tailIn K bmB bm && PySem.W.nsOkIn K cd.ns && nsIn K cd.ns "__init__" == some (some (.ref fI))
  | _,_=>false)
 | _=>false
theorem ns_some {K:PySem.W.Frag} {h:Heap} {N:Addr} {m:Str->Option Value} {n:Str} {v:Value} (X:K.In h) (G:h.Ns N m) (e:nsIn K N n=some (some v)):m n=some v:=by
 obtain ⟨o,es,ep,ho,hd,_,hf⟩:=G;unfold nsIn at e;split at e
 ·rename_i c d es' n' sl q;have:=X _ _ q;rw [ho] at this;cases this;cases hd;split at e
  ·rename_i x he;rw [<- hf];unfold nsFind findBy;rw [<- Array.find?_toList,he];exact Option.some.inj e
  ·split at e <;> cases e
 ·cases e
theorem exc_objI {K:PySem.W.Frag} {h:Heap} {C fI:Addr} {bmB:List Value} {nid:String} (X:K.In h) (q:excInI K C bmB nid fI=true) :
  ∃ bm N nm qn bs hdct sn sub ab col dd k0 k1 k2 k3 k5 mN,h.get? C=some (excClassObj nm qn C N bs bm hdct sn sub ab col dd k0 k1 k2 k3 k5 nid)/\h.Ns N mN/\mN "__init__"=some (.ref fI)/\OwnTail h bmB bm:=by
 unfold excInI at q;split at q
 ·rename_i dd cdd sl ho;split at q
  ·rename_i C' bm k0 k1 k2 k3 n k5 hm hs;simp only [Bool.and_eq_true,beq_iff_eq,Bool.not_eq_true'] at q;obtain ⟨⟨⟨⟨⟨rfl,rfl⟩,q1⟩,q2⟩,q3⟩,q4⟩:=q;obtain ⟨nm,bs,mro,ns,qn,hd,sn,sub,ab,col,del⟩:=cdd;dsimp only at hm q1 q3 q4;subst hm q1;obtain ⟨l⟩:=sl;simp only at hs;subst hs;exact ⟨bm,ns,nm,qn,bs,hd,sn,sub,ab,col,dd,k0,k1,k2,k3,k5,_,X _ _ ho,.of_isNs (isNs_of_in X q3),ns_some X (.of_isNs (isNs_of_in X q3)) q4,PySem.W.tail_of_in X q2⟩
  ·cases q
 ·cases q
def spXInit (C:Addr) (f:Str):Sp:=fun vs H Q _=>∃ (a t:Addr) (y:V),vs=[.ref a,y]/\H a=some (excN a C t)/\∀ dx,H dx=none->Q .non (upd (upd H dx (.xd [(f,y)])) a (excD a C t dx))
end L2
namespace L2
open PySem PySem.Spec PyProof.Rows
def excX (ea:Addr) (cls:Value) (od:Option Addr):HO:=.ext fun h=>∃ o vs,h.get? ea=some o/\o.cls=cls/\o.dict=od/\o.data=.fields vs
section
variable {X:Cx} {pins:List (Addr × Obj)} {σ:St} {H:Hp} {s:Shared} {ea:Addr}
theorem land2 {od:Option Addr} {s1:Shared} {H':Hp} {B:Heap} {cls a0:Value} {h':Heap} (I:Inv X pins σ H s) (ho:s1.os=s.os) (bare:AllBare s1.gens) (fly:Heap.FlyingW B X.stack ea cls a0 s1.heap)
  (un:Un (frs X.stack) [] H H' s.heap s1.heap) (hok:HOk X.prog X.w H' s1.heap) (hea:H' ea=none) (new:s.heap.get? ea=none) (trk:∀ b o,H' b=some o->∃ u,B.get? b=some u)
  (inB:∀ b u,s.heap.get? b=some u->b ∉ frs X.stack->∃ v,B.get? b=some v) (fly':Heap.FlyingW B X.stack ea cls a0 h') (up:s1.heap.UpToSlots h') (hdd:∃ ob,h'.get? ea=some ob/\ob.dict=od) :
  Inv X pins σ (upd H' ea (excX ea cls od)) { s1 with heap:=h' }:=by
 have neE:∀ b o,s.heap.get? b=some o->b≠ea:=fun b o e z=>by rw [z,new] at e;cases e
 have slots:∀ b o,b∈frs X.stack->s1.heap.get? b=some o->∃ sl,h'.get? b=some { o with slots:=sl }:=fun b o hb e=>by
  obtain ⟨o',e',nd⟩:=J5i fly.2.2.1 hb;rw [e] at e';cases e';exact up b o e nd
 have stay:∀ b o,s.heap.get? b=some o->b ∉ frs X.stack->∀ o',s1.heap.get? b=some o'->h'.get? b=some o':=fun b o e n o' e'=>by
  obtain ⟨v,hv⟩:=inB b o e n;have:=fly.1 b v hv;rw [e'] at this;cases this;exact fly'.1 b _ hv
 refine I.call' (s':={ s1 with heap:=h' }) (ch:=[]) ho ⟨fun b o e n hb _=>?_,fun b o e n hb _=>?_,fun b o e n _=>?_,fun b o e _=>?_,fun b xs e=>?_,fun b o u e=>?_,fun b ps e=>?_⟩ (fun b u e=>?_) bare (fun _ z=>nomatch z)
 ·exact stay b o e hb o (un.keep b o e n hb (by simp))
 ·obtain ⟨sl,e1⟩:=un.slot b o e n hb (by simp);obtain ⟨sl',e2⟩:=slots b _ hb e1;exact ⟨sl',e2⟩
 ·rw [Je (neE b o e)];exact un.free b o e n (by simp)
 ·obtain ⟨o',e1⟩:=un.there b o e (by simp);by_cases hb:b∈frs X.stack
  ·obtain ⟨sl,e2⟩:=slots b o' hb e1;exact ⟨_,e2⟩
  ·exact ⟨o',stay b o e hb o' e1⟩
 ·have q:=un.tups b xs e;rw [Je (Ja q hea)];exact q
 ·have q:=un.frzs b o u e;rw [Je (Ja q hea)];exact q
 ·obtain ⟨m,q⟩:=un.tbls b ps e;exact ⟨m,by rw [Je (Ja q hea)];exact q⟩
 ·have hok2:=hok.over trk fly.1 fly'.1;by_cases hb:b=ea
  ·subst hb;rw [J1] at e;cases e;obtain ⟨oe,vs,_,_,_,e1,⟨e2,_⟩,e3,_⟩:=fly'.2.2.2;obtain ⟨ob,e4,e5⟩:=hdd;rw [e1] at e4;cases e4;exact ⟨⟨oe,vs,e1,e2,e5,e3⟩,⟨oe,e1⟩,fun h1 h2 ⟨o1,v1,z1,z2⟩ k=>⟨o1,v1,k o1 z1,z2⟩⟩
  ·rw [Je hb] at e;exact (hok2 b u e).stay (fun c v _ q=>q) (fun c q=>by rw [Je (Ja q hea)];exact q) fun c xs q=>by rw [Je (Ja q hea)];exact q
def xCatch2 (K:PySem.W.Frag) (c:Value) (i:Nat) (tb:Addr->TS) (D:Ends) (σ:St):XK:=fun cls od H2=>exmOne K cls c=some true/\∀ ea,H2 ea=none->tb ea (D.unset i) (σ.set i (some (.ref ea))) (upd H2 ea (excX ea cls od))
variable {i:Nat} {n cx:Str} {c:Value} {b₀:Stmt} {suite:List Stmt} {hpos np:Pos} {tb:Addr->TS} {D:Ends}
theorem caught_at2 {e:Value} {s1:Shared} (hst:X.stack=X.env :: X.outer) (hfr:X.env.frame=some X.env.locals) (hgC:Gl X cx) (hmC:X.mg cx=some c) (hN:X.N.Nodup) (hi:X.N[i]?=some n) (hk:X.env.scope.names.lookup n=some .local)
  (hb:∀ ea,PSs (X.caught ea) (b₀ :: suite) (tb ea)) (I:Inv X pins σ H s) (x:Exc2 X.prog X.w X.stack H s (xCatch2 X.K c i tb D σ) e s1) (hdb:(cx == ("__debug__":Str))=false:=by decide) :
  wpAny (model X.prog X.w) X.A (noteFrame e X.env) (fun _ s₂=>wpAny (model X.prog X.w) X.A (setFlight e none) (fun _ s₃=>wpAny (model X.prog X.w) X.A (handleBy e X.env [.ExceptHandler (some (.Name cx np)) (some n) (b₀ :: suite) hpos]) (SP X pins D) X.xe s₃) X.xe s₂) X.xe s1:=by
 obtain ⟨od,x,hd⟩:=x;obtain ⟨ea,cls,H',B,a0,rfl,os,bare,fly,un,hok,hea,new,trk,inB,hx,q⟩:=x;obtain ⟨ob,hob,hdo⟩:=hd ea rfl;have fr:X.A.frames=some (X.env :: X.outer):=by rw [<- hst];exact I.ok.frames
 have fly':Heap.FlyingW B (X.env :: X.outer) ea cls a0 s1.heap:=by rw [<- hst];exact fly
 refine wpAny_mono (J2w (J23 (.ref ea) X.env) (wpAny_looks_onW (Q:=fun _ s2=>∃ h2,s2={ s1 with heap:=h2 }/\Heap.HeldW B (X.env :: X.outer) ea cls a0 X.env.locals h2/\s1.heap.UpToSlots h2) (E:=fun _ _=>False) fr hfr fly' fun h2 held up2=>⟨h2,rfl,held,up2⟩)) (fun _ s2 h2=>?_) fun _ _ z=>z.1.elim;obtain ⟨⟨h2,rfl,held,up2⟩,ds2⟩:=h2;refine wpAny_mono (J2w (J1i (.ref ea) none) (wpAny_landsW (s:={ s1 with heap:=h2 }) (Q:=fun _ s3=>∃ h3,s3={ s1 with heap:=h3 }/\Heap.FlyingW B (X.env :: X.outer) ea cls a0 h3/\h2.UpToSlots h3) (E:=fun _ _=>False) held fun h3 fly3 up3=>⟨h3,rfl,fly3,up3⟩)) (fun _ s3 h3=>?_) fun _ _ z=>z.1.elim;obtain ⟨⟨h3,rfl,fly3,up3⟩,ds3⟩:=h3;have fly3':Heap.FlyingW B X.stack ea cls a0 h3:=by rw [hst];exact fly3
 have dd3:∃ ob,h3.get? ea=some ob/\ob.dict=od:=by
  obtain ⟨ob3,e3,_⟩:=fly3.there;exact ⟨ob3,e3,((ds2.trans ds3).at_ hob e3).trans hdo⟩
 have I3:Inv X pins σ (upd H' ea (excX ea cls od)) { s1 with heap:=h3 }:=land2 I os bare fly un hok hea new trk inB fly3' (up2.trans up3) dd3;refine wpAny_handleBy_cons (codeAny_handlers_test ?_) (by intro q;cases q);refine J3p (X:=X.caught ea) (I3.caught ea) hgC hmC ?_ hdb;have LT:PySem.W.Looks (model X.prog X.w) h3 (typeOf (.ref ea)) cls:=by
  obtain ⟨ob,e1,e2⟩:=fly3.there;exact e2 ▸ (PySem.W.Looks.ld e1).andThen .now
 refine (PySem.W.exm_one (M:=model X.prog X.w) I3.kIn LT hx).here ?_;refine codeAny_handlers_suite_as ?_;refine wpAny_mono (J2w (J1i (.ref ea) none) (lands_againW (s:={ s1 with heap:=h3 }) (Q:=fun _ s4=>∃ h4,s4={ s1 with heap:=h4 }/\Heap.FlyingW B (X.env :: X.outer) ea cls a0 h4/\h3.UpToSlots h4) (E:=fun _ _=>False) fly3 fun h4 fly4 up4=>⟨h4,rfl,fly4,up4⟩)) (fun _ s4 h4=>?_) fun _ _ z=>z.1.elim;obtain ⟨⟨h4,rfl,fly4,up4⟩,ds4⟩:=h4;have fly4':Heap.FlyingW B X.stack ea cls a0 h4:=by rw [hst];exact fly4
 have dd4:∃ ob,h4.get? ea=some ob/\ob.dict=od:=by
  obtain ⟨ob4,e4,_⟩:=fly4.there;exact ⟨ob4,e4,(((ds2.trans ds3).trans ds4).at_ hob e4).trans hdo⟩
 have I4:Inv X pins σ (upd H' ea (excX ea cls od)) { s1 with heap:=h4 }:=land2 I os bare fly un hok hea new trk inB fly4' ((up2.trans up3).trans up4) dd4;refine J52 (X:=X.caught ea) (I4.caught ea) hN hi (.inl hk) (v:=.ref ea) rfl (fun s5 I5=>?_) (.inr hk);refine wpAny_mono (hb ea pins s5 _ _ (D.unset i) I5 (q ea hea)) (fun fl s6 z=>?_) fun _ _ z=>False.elim z
 cases fl with
 | next=>obtain ⟨σ',H2,I6,q6⟩:=z;exact J2m (I6.uncaught I.ok) hN hi hk fun s7 I7=>⟨_,H2,I7,q6⟩
 | brk=>obtain ⟨σ',H2,I6,q6⟩:=z;exact J2m (I6.uncaught I.ok) hN hi hk fun s7 I7=>⟨_,H2,I7,q6⟩
 | cont=>obtain ⟨σ',H2,I6,q6⟩:=z;exact J2m (I6.uncaught I.ok) hN hi hk fun s7 I7=>⟨_,H2,I7,q6⟩
 | ret u=>obtain ⟨v,σ',H2,I6,r6,q6⟩:=z;exact J2m (I6.uncaught I.ok) hN hi hk fun s7 I7=>⟨v,_,H2,I7,r6,q6⟩
end
end L2
namespace L2
open PySem PySem.Spec PyProof.Rows
section
variable {X:Cx} {k:Nat} {ps:List Str} {ι:Type} {cls:ι->Addr} {sp:ι->Sp} {m n cx:Str} {i:Nat} {p pos apos cpos epos hpos np:Pos} {o e:Expr} {es:List Expr} {ta:TE} {t:TA} {c:Value} {b₀:Stmt} {suite:List Stmt} {tb:Addr->TS}
def tTrym2 {ι:Type} (K:PySem.W.Frag) (m:Str) (cls:ι->Addr) (sp:ι->Sp) (c:Value) (i:Nat) (ta:TE) (t:TA) (tb:Addr->TS):TS:=fun D σ H=>ta σ H fun x H1=>∃ a j dx fs,x=.ref a/\H1 a=some (.ins (cls j) dx fs)/\fs.lookup m=none/\
 t σ H1 fun vs H2=>sp j (x :: vs) H2 (fun _ H3=>D.nx σ H3) (xCatch2 K c i tb D σ)
theorem ps_trym2 {pl:Sem Bool} (ho:PE X.nox o ta) (hM:∀ i,HasM X.prog X.w X.K X.mg X.base (Exc2 X.prog X.w) k m ps (sp i) (cls i)) (hr:Room k X.A)
  (ha:PA X.nox (e :: es) t) (hst:X.stack=X.env :: X.outer) (hfr:X.env.frame=some X.env.locals) (hgC:Gl X cx) (hmC:X.mg cx=some c) (hN:X.N.Nodup) (hi:X.N[i]?=some n) (hkn:X.env.scope.names.lookup n=some .local)
  (hsu:∀ ea,PSs (X.caught ea) (b₀ :: suite) (tb ea)) (hdbC:(cx == ("__debug__":Str))=false:=by decide) (hs:swapsWith (.Call (.Attribute o m apos) (e :: es) [] cpos) none epos.line X.env=pure false:=by rfl)
  (he:starEach (e :: es) X.env=(false,eval e X.env) :: starEach es X.env:=by rfl) (hpl:(backTo cpos (starEach es X.env)).any (·.1)=false:=by rfl)
  (ht:eval (.Call (.Attribute o m apos) (e :: es) [] cpos) X.env=(do
   let ov <- eval o X.env
   standAt apos.atName
   let (f,first) <- holding [ov] (getMethod ov m pl)
   callWith cpos f first (backTo cpos (starEach (e :: es) X.env)) (backToKw cpos (keywordEach [] X.env))):=by rfl) :
  PS X (.Try [.Expr (.Call (.Attribute o m apos) (e :: es) [] cpos) epos] [.ExceptHandler (some (.Name cx np)) (some n) (b₀ :: suite) hpos] [] [] pos) (tTrym2 X.K m cls sp c i ta t tb):=by
 intro pins s σ H D I h;refine wpAny_Try_except (wpAny_execs_cons (wpAny_Expr_any ?_ I.quiet hs));refine methodCall_KW (pl:=pl) (wpAny_mono (ho pins s σ H _ (I.wish _) h) (fun u s1 hh=>?_) fun _ _ z=>False.elim z) ht;obtain ⟨x,H1,I1,rx,a,j,dx,fs,ex,ea,l,q⟩:=hh;subst ex;obtain rfl:u=Value.ref a:=rx;obtain ⟨f,fd,cc,hm,F,hb⟩:=hM j;have I1':=I1.unwish;refine J34 I1' ea cc hm l ?_;refine callWith_K (first:=[.ref a]) (h₀:=X.base) I.ok.mod.kin hm.kp (wpAny_mono (ha cpos pins s1 σ H1 _ I1 q) (fun us s2 hh=>?_) fun _ _ z=>False.elim z) he hpl;obtain ⟨vs,H2,I2,r,q2⟩:=hh;have I2:=I2.unwish;refine ⟨I2.kIn,?_⟩;have r2:Vals (.ref a :: vs) (.ref a :: us):=.cons rfl r;have hl:((Value.ref a :: us) ++ ([]:List Value)).length=ps.length:=by rw [append_nil,<- r2.length];exact F.len _ _ _ _ q2
 refine wpAny_call (codeAny_mono (F.run X.A X.stack s2 H2 ⟨.ref a :: us,[]⟩ (.ref a :: us) (.ref a :: vs) _ _ hr I2.env0 (by have:=hb s2 (.ref a :: us) I2.kIn hl;rwa [append_nil] at this) r2 q2) fun r s' hq=>?_)
 cases r with
 | error e=>exact caught_at2 hst hfr hgC hmC hN hi hkn hsu I2 hq hdbC
 | ok fl =>
  cases fl with
  | ret u =>
   obtain ⟨v,H3,I3,_,q3⟩:=I2.after hq;exact wpAny_execs_nil (wpAny_execs_nil (show SP X pins D .next s' from ⟨σ,H3,I3,q3⟩))
  | next=>exact False.elim hq
  | brk=>exact False.elim hq
  | cont=>exact False.elim hq
end
end L2
namespace L2
open PySem PySem.Spec PyProof.Rows
section
variable {P:Program} {w:World} {K:PySem.W.Frag} {mg:Str->Option Value} {base:Heap} {N:List Str} {qual:Str} {scope:Scope} {f:Addr} {cd:Value} {A:Around} {outer:List Env} {s0:Shared} {H0:Hp} {E:XK}
theorem ps_raiseE {x:Str} {C fI:Addr} {fd:FuncData} {ps:List Str} {fl:Str} {k:Nat} {e:Expr} {ta:TA} {np cpos pos:Pos} (hg:Gl (cxOf (Exc2 P w) P w K mg base N qual scope f cd A outer s0 H0 E) x) (hm:mg x=some (.ref C)) (q:excInI K C bmV "ValueError.__new__" fI=true)
  (hf:isFn K (.ref fI)=true) (F:FnOk P w K mg base CX0 k fI fd ps (spXInit C fl)) (hr:Room (k + 1) (cxOf (Exc2 P w) P w K mg base N qual scope f cd A outer s0 H0 E).A) (hb:Binds K fd ps [])
  (ha:PA (cxOf (Exc2 P w) P w K mg base N qual scope f cd A outer s0 H0 E) [e] ta) (hst:starEach [e] (cxOf (Exc2 P w) P w K mg base N qual scope f cd A outer s0 H0 E).env=(false,eval e (cxOf (Exc2 P w) P w K mg base N qual scope f cd A outer s0 H0 E).env) :: starEach [] (cxOf (Exc2 P w) P w K mg base N qual scope f cd A outer s0 H0 E).env:=by rfl)
  (hdb:(x == ("__debug__":Str))=false:=by decide) :
  PS (cxOf (Exc2 P w) P w K mg base N qual scope f cd A outer s0 H0 E) (.Raise (some (.Call (.Name x np) [e] [] cpos)) none pos) (fun D σ H=>ta σ H fun vs H1=>∃ y,vs=[y]/\∀ dx,H1 dx=none->E (.ref C) (some dx) (upd H1 dx (.xd [(fl,y)]))):=by
 intro pins s σ H D I h;obtain ⟨bm,NN,nm,qn,bs,hdct,sn,sub,ab,col,dd,k0,k1,k2,k3,k5,mN,hC,hN,hi,T⟩:=exc_objI (I.ok.mod.kin) q;rw [arm_exec_Raise];refine wpAny_bind (wpAny_standAt (raiseStmtI (C:=C) (nm:=nm) (q:=qn) (N:=NN) (bs:=bs) (bm:=bm) (hdct:=hdct) (sn:=sn) (sub:=sub) (ab:=ab) (col:=col) (dd:=dd) (k0:=k0) (k1:=k1) (k2:=k2) (k3:=k3) (k5:=k5) (newId:="ValueError.__new__") (T.hasType PySem.F.excBase_ValueError.hasBase) (I.ok.hd rfl) ?_));refine wpAny_bind (wpAny_mono (wpAny_Call_ofName (J3p I hg hm ?_ hdb)) (fun v s3 h3=>wpAny_bind (wpAny_standAt (wpAny_pure h3))) fun _ _ x=>x);unfold callWith;have hA:=ha cpos pins s σ H (fun vs H'=>∃ y,vs=[y]/\∀ dx,H' dx=none->E (.ref C) (some dx) (upd H' dx (.xd [(fl,y)]))) I h;rw [hst] at hA ⊢;refine wpAny_bind (wpAny_holding (wpAny_mono (Q:=fun a s2=>a.kw=[]/\∃ u y H2,a.pos=[u]/\RelV y u/\Inv (cxOf (Exc2 P w) P w K mg base N qual scope f cd A outer s0 H0 E) pins σ H2 s2/\∀ dx,H2 dx=none->E (.ref C) (some dx) (upd H2 dx (.xd [(fl,y)])))
  (Calls.evalArgs_plain (thn hA fun us s2 ⟨vs,H2,I2,r,q2⟩=>?_)) (fun a s2 h2=>wpAny_bind (wpAny_standAt ?_)) fun _ _ x=>x))
 ·obtain ⟨y,rfl,e3⟩:=q2;obtain ⟨u,rfl,ru⟩:=r.one;exact ⟨rfl,u,y,H2,rfl,ru,I2,e3⟩
 obtain ⟨apos,akw⟩:=a;obtain ⟨hkw,u,y,H2,hap,ru,I2,kE⟩:=h2;obtain rfl:akw=[]:=hkw;obtain rfl:apos=[u]:=hap;simp only [show (backTo cpos ((false,eval e (cxOf (Exc2 P w) P w K mg base N qual scope f cd A outer s0 H0 E).env) :: starEach [] (cxOf (Exc2 P w) P w K mg base N qual scope f cd A outer s0 H0 E).env)).any (·.1)=false from rfl];have hC2:=I2.bk _ _ hC;have hN2:=hN.keeps I2.bk;have T2:=T.keeps I2.bk;obtain ⟨oI,hoI,hcI⟩:∃ oI,s2.heap.get? fI=some oI/\oI.cls=.type "function":=by
  have h1:(K.lookup fI).map (·.cls)=some (.type "function"):=beq_iff_eq.mp hf
  cases hl:K.lookup fI with
  | none=>rw [hl] at h1;cases h1
  | some o =>
   rw [hl] at h1;exact ⟨o,I2.kIn _ _ hl,Option.some.inj h1⟩
 obtain ⟨hp,g,d,tk,os⟩:=s2;refine wpAny_bind (wpAny_keeperOf_exc hC2 ?_);have kp:∀ b o,hp.get? b=some o->((hp.push { cls:=.type "tuple",data:=.seq [u].toArray }).push { cls:=.ref C,data:=.fields #[.ref hp.objs.size,.none,.none,.none,.bool false,.none] }).get? b=some o :=
  fun b o e=>get?_push_of_some _ (get?_push_of_some _ e)
 have hget:((hp.push { cls:=.type "tuple",data:=.seq [u].toArray }).push { cls:=.ref C,data:=.fields #[.ref hp.objs.size,.none,.none,.none,.bool false,.none] }).get? (hp.objs.size + 1)=some
   { cls:=.ref C,data:=.fields #[.ref hp.objs.size,.none,.none,.none,.bool false,.none] }:=Heap.get?_push_at (by rw [size_push]) rfl
 have fresh:H2 (hp.objs.size + 1)=none:=I2.hok.fresh (Nat.le_succ _);have I3:=Inv.laid (a:=hp.objs.size + 1) (o:=excN (hp.objs.size + 1) C hp.objs.size) (t':=tk) I2 kp (Nat.le_succ _) ⟨hget,⟨_,hget⟩,fun h1 h2 e k=>k _ e⟩;have hnew:s0.heap.get? (hp.objs.size + 1)=none:=by
  cases z:s0.heap.get? (hp.objs.size + 1) with
  | none=>rfl
  | some o =>
   obtain ⟨o',e1⟩:=I2.base.there _ o z (by simp [cxOf]);exact absurd (lt_size e1) (Nat.not_lt.mpr (Nat.le_succ _))
 refine wpAny_bind (callI PySem.F.excBase_ValueError T2 hC2 hN2 hi hoI hcI ?_ (by show 1<=sizeLine;rw [sizeLine_eq];decide));have hsp:spXInit C fl [V.ref (hp.objs.size + 1),y] (upd H2 (hp.objs.size + 1) (excN (hp.objs.size + 1) C hp.objs.size)) (fun v H'=>v=.non/\∃ dx,upd H2 (hp.objs.size + 1) (excN (hp.objs.size + 1) C hp.objs.size) dx=none/\
   H'=upd (upd (upd H2 (hp.objs.size + 1) (excN (hp.objs.size + 1) C hp.objs.size)) dx (.xd [(fl,y)])) (hp.objs.size + 1) (excD (hp.objs.size + 1) C hp.objs.size dx)) E0:=⟨_,_,y,rfl,J1,fun dx hdx=>⟨rfl,dx,hdx,rfl⟩⟩
 have r2:Vals [V.ref (hp.objs.size + 1),y] [Value.ref (hp.objs.size + 1),u]:=.cons rfl (.cons ru .nil);have hl:([Value.ref (hp.objs.size + 1),u] ++ ([]:List Value)).length=ps.length:=(F.len _ _ _ _ hsp);refine wpAny_call (codeAny_mono (F.run _ (cxOf (Exc2 P w) P w K mg base N qual scope f cd A outer s0 H0 E).stack _ _ ⟨[Value.ref (hp.objs.size + 1),u],[]⟩ [Value.ref (hp.objs.size + 1),u] _ _ E0 (hr.make C [u] []) (I3.env0.make C [u] []) (hb _ [Value.ref (hp.objs.size + 1),u] I3.kIn hl) r2 hsp) fun r s' hq=>?_)
 cases r with
 | error e=>exact False.elim hq
 | ok fw =>
  cases fw with
  | ret v =>
   obtain ⟨v',H',I4,rv,ev,dx,hdx,eH⟩:=I3.after hq;subst ev;refine ⟨rv,wpAny_bind (wpAny_holding (wpAny_point (wpAny_pure ?_)))⟩;have ne:dx≠hp.objs.size + 1:=fun z=>by rw [z,J1] at hdx;cases hdx
   have h4:H' (hp.objs.size + 1)=some (excD (hp.objs.size + 1) C hp.objs.size dx):=by rw [eH];exact J1
   have he:=(I4.hok _ _ h4).1;have I5:=I4.drop h4 hnew;have eo:off H' (hp.objs.size + 1)=upd H2 dx (.xd [(fl,y)]):=by
    funext b
    by_cases c:b=hp.objs.size + 1
    ·rw [c,J5g,Je (Ne.symm ne),fresh]
    ·rw [off_ne c,eH,Je c];by_cases c2:b=dx
     ·rw [c2,J1,J1]
     ·rw [Je c2,Je c,Je c2]
   rw [eo] at I5;rw [Je ne] at hdx;refine ⟨_,_,dx,rfl,I4.bk _ _ hC,he,?_⟩;exact xe_made2 I5 he rfl rfl rfl (by rw [Je (Ne.symm ne)];exact fresh) hnew (kE dx hdx)
  | next=>exact False.elim hq
  | brk=>exact False.elim hq
  | cont=>exact False.elim hq
end
end L2
namespace Rl
def cellN (ns:List Int) (k:Nat):Int:=ns.getD k 0
def insAt (xs:List Nat) (i y:Nat):List Nat:=xs.take i ++ y :: xs.drop i
theorem insAt_perm (xs:List Nat) (i y:Nat):(insAt xs i y).Perm (y :: xs):=by
 unfold insAt;have h:(xs.take i ++ y :: xs.drop i).Perm (y :: (xs.take i ++ xs.drop i)):=List.perm_middle;rwa [List.take_append_drop] at h
theorem sum_le {b:Int}:∀ (xs:List Int),(∀ a∈xs,a<=b)->xs.sum<=(xs.length:Int) * b
 | [],_=>by simp
 | x :: xs,h=>by
  have h1:=h x mem_cons_self;have h2:=sum_le xs fun a ha=>h a (mem_cons_of_mem _ ha);rw [sum_cons,length_cons];have e:(((xs.length + 1:Nat):Int)) * b=(xs.length:Int) * b + b:=by
   rw [Int.natCast_add,Int.add_mul];simp
  omega
theorem mul_top {n:Nat} {b:Int} (hn:n<=24) (hb:0<=b):(n:Int) * b<=24 * b:=Int.mul_le_mul_of_nonneg_right (by omega) hb
def sumsF (ls:List Int) (os:List Nat):Nat->List Int × Int
 | 0=>(List.replicate ls.length 0,0)
 | i + 1=>((sumsF ls os i).1.set (os.getD i 0) (sumsF ls os i).2,(sumsF ls os i).2 + ls.getD (os.getD i 0) 0)
theorem J2n (ls:List Int) (os:List Nat):∀ i,(sumsF ls os i).1.length=ls.length
 | 0=>by simp [sumsF]
 | i + 1=>by
  show ((sumsF ls os i).1.set _ _).length=_;rw [length_set];exact J2n ls os i
def firsts (ls:List Int) (os:List Nat):List Int:=(sumsF ls os os.length).1
theorem J35 (ls:List Int) (os:List Nat):(firsts ls os).length=ls.length:=J2n ls os _
theorem J3k:∀ {xs ys:List Int},xs.Perm ys->xs.Pairwise (·<=·)->ys.Pairwise (·<=·)->xs=ys
 | [],ys,h,_,_=>(List.Perm.nil_eq h)
 | x :: xs,[],h,_,_=>absurd h.length_eq (by simp)
 | x :: xs,y :: ys,h,hx,hy=>by
  have hx':=List.pairwise_cons.mp hx;have hy':=List.pairwise_cons.mp hy;have m1:x∈y :: ys:=h.mem_iff.mp mem_cons_self;have m2:y∈x :: xs:=h.mem_iff.mpr mem_cons_self;have e:x=y:=by
   rcases mem_cons.mp m1 with e | m1
   ·exact e
   ·rcases mem_cons.mp m2 with e | m2
    ·exact e.symm
    ·have a:=hx'.1 y m2;have b:=hy'.1 x m1;omega
  subst e;rw [J3k h.cons_inv hx'.2 hy'.2]
def natI (os:List Nat):List Int:=os.map fun (n:Nat)=>(n:Int)
theorem J5d (n:Nat):(natI (List.range n)).Pairwise (·<=·):=by
 unfold natI;rw [List.pairwise_map];exact List.pairwise_lt_range.imp fun h=>by omega
theorem J55 {os:List Nat} {n:Nat} {ns':List Int} (hp:os.Perm (List.range n)) (h1:ns'.Perm (natI os)) (h2:ns'.Pairwise (·<=·)):ns'=natI (List.range n) :=
 J3k (h1.trans (hp.map _)) h2 (J5d n)
end Rl
namespace Rl
def J15 (ls:List Int) (os:List Nat) (i:Nat):Int:=(sumsF ls os i).2
theorem J17 (ls:List Int) (os:List Nat):J15 ls os 0=0:=rfl
theorem J1h (ls:List Int) (os:List Nat) (i:Nat):J15 ls os (i + 1)=J15 ls os i + ls.getD (os.getD i 0) 0:=rfl
structure Ord (ls:List Int) (os:List Nat):Prop where
 pos:∀ a∈ls,1<=a
 perm:os.Perm (List.range ls.length)
theorem Ord.range {ls:List Int} {os:List Nat} (h:Ord ls os):Ord ls (List.range ls.length):=⟨h.pos,List.Perm.refl _⟩
theorem Ord.len {ls:List Int} {os:List Nat} (h:Ord ls os):os.length=ls.length:=by rw [h.perm.length_eq,length_range]
theorem Ord.nodup {ls:List Int} {os:List Nat} (h:Ord ls os):os.Nodup:=h.perm.nodup_iff.mpr List.nodup_range
theorem getD_memN {os:List Nat} {i:Nat} (h:i < os.length):os.getD i 0∈os:=by
 rw [getD_eq_getElem?_getD,List.getElem?_eq_getElem h];exact getElem_mem h
theorem J13 {ls:List Int} {i:Nat} (h:i < ls.length):ls.getD i 0∈ls:=by
 rw [getD_eq_getElem?_getD,List.getElem?_eq_getElem h];exact getElem_mem h
theorem Ord.lt {ls:List Int} {os:List Nat} (h:Ord ls os) {i:Nat} (hi:i < ls.length):os.getD i 0 < ls.length :=
 mem_range.mp (h.perm.mem_iff.mp (getD_memN (by rw [h.len];exact hi)))
theorem Ord.one {ls:List Int} {os:List Nat} (h:Ord ls os) {j:Nat} (hj:j < ls.length):1<=ls.getD j 0:=h.pos _ (J13 hj)
theorem Ord.inj {ls:List Int} {os:List Nat} (h:Ord ls os) {i j:Nat} (hi:i < ls.length) (hj:j < ls.length) (e:os.getD i 0=os.getD j 0):i=j:=by
 rw [getD_eq_getElem?_getD,getD_eq_getElem?_getD,List.getElem?_eq_getElem (by rw [h.len];exact hi),List.getElem?_eq_getElem (by rw [h.len];exact hj)] at e;exact (List.getElem_inj h.nodup).mp e
theorem Ord.onto {ls:List Int} {os:List Nat} (h:Ord ls os) {j:Nat} (hj:j < ls.length):∃ i,i < ls.length/\os.getD i 0=j:=by
 obtain ⟨i,hi,e⟩:=List.getElem_of_mem (h.perm.mem_iff.mpr (mem_range.mpr hj));refine ⟨i,by rw [<- h.len];exact hi,?_⟩;rw [getD_eq_getElem?_getD,List.getElem?_eq_getElem hi];exact e
theorem Ord.step {ls:List Int} {os:List Nat} (h:Ord ls os) {i:Nat} (hi:i < ls.length):J15 ls os i < J15 ls os (i + 1):=by
 have:=h.one (h.lt hi);rw [J1h];lia
theorem Ord.mono {ls:List Int} {os:List Nat} (h:Ord ls os) {i:Nat}:∀ {k:Nat},i<=k->k<=ls.length->J15 ls os i<=J15 ls os k
 | 0,h1,_=>by rw [Nat.le_zero.mp h1];exact Int.le_refl _
 | k + 1,h1,h2=>by
  by_cases e:i=k + 1
  ·rw [e];exact Int.le_refl _
  ·have a:=h.mono (i:=i) (k:=k) (by lia) (by lia);have b:=h.step (i:=k) (by lia);lia
theorem set_get (f:List Int) (p q:Nat) (v:Int) (hp:p < f.length):(f.set p v).getD q 0=if q=p then v else f.getD q 0:=by
 rw [getD_eq_getElem?_getD,getD_eq_getElem?_getD];by_cases e:q=p
 ·subst e;rw [getElem?_set_self hp,if_pos rfl];rfl
 ·rw [List.getElem?_set_ne (Ne.symm e),if_neg e]
theorem Ord.at {ls:List Int} {os:List Nat} (h:Ord ls os) {i:Nat}:∀ {k:Nat},i < k->k<=ls.length->(sumsF ls os k).1.getD (os.getD i 0) 0=J15 ls os i
 | 0,h1,_=>absurd h1 (Nat.not_lt_zero _)
 | k + 1,h1,h2=>by
  show ((sumsF ls os k).1.set (os.getD k 0) (sumsF ls os k).2).getD (os.getD i 0) 0=_;rw [set_get _ _ _ _ (by rw [J2n];exact h.lt (by lia))];by_cases e:i=k
  ·subst e;rw [if_pos rfl];rfl
  ·rw [if_neg (fun q=>e (h.inj (by lia) (by lia) q))];exact h.at (by lia) (by lia)
theorem Ord.first {ls:List Int} {os:List Nat} (h:Ord ls os) {i:Nat} (hi:i < ls.length):(firsts ls os).getD (os.getD i 0) 0=J15 ls os i:=by
 unfold firsts;rw [h.len];exact h.at hi (Nat.le_refl _)
theorem J44 (ls:List Int):(List.range ls.length).map (fun j=>ls.getD j 0)=ls:=by
 apply List.ext_getElem?;intro k;rw [getElem?_map];by_cases hk:k < ls.length
 ·rw [List.getElem?_range hk,List.getElem?_eq_getElem hk];show some (ls.getD k 0)=_;rw [getD_eq_getElem?_getD,List.getElem?_eq_getElem hk];rfl
 ·rw [getElem?_eq_none (by simpa using hk),getElem?_eq_none (by lia)];rfl
theorem J3s (ls:List Int) (os:List Nat):∀ i,i<=os.length->J15 ls os i=((os.take i).map fun j=>ls.getD j 0).sum
 | 0,_=>by simp [J17]
 | i + 1,h=>by
  rw [J1h,J3s ls os i (by lia),take_succ,List.getElem?_eq_getElem (by lia)];simp only [Option.toList_some,map_append,map_cons,map_nil,sum_append,sum_cons,List.sum_nil];rw [getD_eq_getElem?_getD (l:=os),List.getElem?_eq_getElem (by lia)];simp
theorem perm_sum {xs ys:List Int} (h:xs.Perm ys):xs.sum=ys.sum:=by
 induction h with
 | nil=>rfl
 | cons x _ ih=>rw [sum_cons,sum_cons,ih]
 | swap x y l=>rw [sum_cons,sum_cons,sum_cons,sum_cons];lia
 | trans _ _ a b=>exact a.trans b
theorem Ord.whole {ls:List Int} {os:List Nat} (h:Ord ls os):J15 ls os ls.length=ls.sum:=by
 rw [J3s ls os _ (by rw [h.len];exact Nat.le_refl _),List.take_of_length_le (by rw [h.len];exact Nat.le_refl _)];have p:(os.map fun j=>ls.getD j 0).Perm ((List.range ls.length).map fun j=>ls.getD j 0):=h.perm.map _;rw [perm_sum p,J44]
def Lies (fs ls:List Int) (x:Int) (j:Nat):Prop:=j < ls.length/\fs.getD j 0<=x/\x < fs.getD j 0 + ls.getD j 0
theorem J36 {S:Nat->Int} {x:Int}:∀ (k:Nat),S 0<=x->x < S k->∃ i,i < k/\S i<=x/\x < S (i + 1)
 | 0,h0,h1=>by lia
 | k + 1,h0,h1=>by
  by_cases e:x < S k
  ·obtain ⟨i,hi,q⟩:=J36 k h0 e;exact ⟨i,by lia,q⟩
  ·exact ⟨k,by lia,by lia,h1⟩
theorem Ord.lies {ls:List Int} {os:List Nat} (h:Ord ls os) {i:Nat} {x:Int} (hi:i < ls.length) (h1:J15 ls os i<=x) (h2:x < J15 ls os (i + 1)):Lies (firsts ls os) ls x (os.getD i 0):=by
 refine ⟨h.lt hi,?_,?_⟩
 ·rw [h.first hi];exact h1
 ·rw [h.first hi];rw [J1h] at h2;exact h2
theorem Ord.lies_of {ls:List Int} {os:List Nat} (h:Ord ls os) {j:Nat} {x:Int} (q:Lies (firsts ls os) ls x j):∃ i,i < ls.length/\os.getD i 0=j/\J15 ls os i<=x/\x < J15 ls os (i + 1):=by
 obtain ⟨hj,q1,q2⟩:=q;obtain ⟨i,hi,e⟩:=h.onto hj;subst e;rw [h.first hi] at q1 q2;exact ⟨i,hi,rfl,q1,by rw [J1h];exact q2⟩
theorem Ord.exists {ls:List Int} {os:List Nat} (h:Ord ls os) {x:Int} (h0:0<=x) (h1:x < ls.sum):∃ j,Lies (firsts ls os) ls x j:=by
 obtain ⟨i,hi,a,b⟩:=J36 (S:=J15 ls os) ls.length (by rw [J17];exact h0) (by rw [h.whole];exact h1);exact ⟨_,h.lies hi a b⟩
theorem Ord.unique {ls:List Int} {os:List Nat} (h:Ord ls os) {x:Int} {j k:Nat} (a:Lies (firsts ls os) ls x j) (b:Lies (firsts ls os) ls x k):j=k:=by
 obtain ⟨i,hi,rfl,a1,a2⟩:=h.lies_of a;obtain ⟨i',hi',rfl,b1,b2⟩:=h.lies_of b;have:i=i':=by
  by_cases e:i < i'
  ·have:=h.mono (i:=i + 1) (k:=i') e (by lia);lia
  ·by_cases e':i' < i
   ·have:=h.mono (i:=i' + 1) (k:=i) e' (by lia);lia
   ·lia
 rw [this]
theorem Ord.inside {ls:List Int} {os:List Nat} (h:Ord ls os) {x:Int} {j:Nat} (a:Lies (firsts ls os) ls x j):0<=x/\x < ls.sum:=by
 obtain ⟨i,hi,rfl,a1,a2⟩:=h.lies_of a;have b1:=h.mono (i:=0) (k:=i) (Nat.zero_le _) (by lia);have b2:=h.mono (i:=i + 1) (k:=ls.length) (by lia) (Nat.le_refl _);rw [h.whole] at b2;rw [J17] at b1;lia
end Rl
namespace Rl
end Rl
namespace Rl
def mixN (c:Int):Nat->Int
 | 0=>1 + c % 1000000006
 | k + 1=>mixN c k * 48271 % 2147483647
theorem mixN_small (c:Int):∀ k,0<=mixN c k/\mixN c k < 2147483647
 | 0=>by
  have h1:=Int.emod_nonneg c (show (1000000006:Int)≠0 by decide);have h2:=Int.emod_lt_of_pos c (show (0:Int) < 1000000006 by decide);unfold mixN;omega
 | k + 1=>by
  unfold mixN;exact ⟨Int.emod_nonneg _ (by decide),Int.emod_lt_of_pos _ (by decide)⟩
def spotS (c:Int) (k:Nat):Nat:=(mixN c (k + 1) % ((k:Int) + 1)).toNat
theorem spotS_le (c:Int) (k:Nat):spotS c k<=k/\((spotS c k:Nat):Int)=mixN c (k + 1) % ((k:Int) + 1):=by
 unfold spotS;have h1:=Int.emod_nonneg (mixN c (k + 1)) (show (k:Int) + 1≠0 by omega);have h2:=Int.emod_lt_of_pos (mixN c (k + 1)) (show (0:Int) < (k:Int) + 1 by omega);omega
def shufO (c:Int) (ys:List Nat):Nat->List Nat
 | 0=>[]
 | k + 1=>insAt (shufO c ys k) (spotS c k) (ys.getD k 0)
theorem J2s (c:Int) (ys:List Nat):∀ k,k<=ys.length->(shufO c ys k).Perm (ys.take k)
 | 0,_=>List.Perm.refl _
 | k + 1,h=>by
  have ih:=J2s c ys k (by omega);have e:ys.take (k + 1)=ys.take k ++ [ys.getD k 0]:=by
   rw [List.take_add_one,getD_eq_getElem?_getD,List.getElem?_eq_getElem (by omega)];rfl
  rw [e];unfold shufO;refine (insAt_perm _ _ _).trans ?_;refine (List.Perm.cons _ ih).trans ?_;exact (List.perm_append_singleton _ _).symm
theorem shufO_len (c:Int) (ys:List Nat) (k:Nat) (h:k<=ys.length):(shufO c ys k).length=k:=by
 rw [(J2s c ys k h).length_eq,length_take];omega
theorem shufO_all (c:Int) (ys:List Nat):(shufO c ys ys.length).Perm ys:=by
 have:=J2s c ys ys.length (Nat.le_refl _);rwa [take_length] at this
theorem range_getDN {n k:Nat} (h:k < n):(List.range n).getD k 0=k:=by
 rw [getD_eq_getElem?_getD,List.getElem?_range h];rfl
end Rl
namespace Rl
end Rl
namespace Rl
end Rl
namespace Rl
end Rl
namespace Rl
def nS (f:Nat->Nat) (row:List Nat):Nat:=(row.map f).sum
end Rl
namespace Rl
end Rl
namespace Rl
end Rl
namespace Rl
end Rl
namespace Rl
end Rl
namespace Rl
end Rl
namespace Rl
end Rl
namespace Rl
end Rl
namespace Rl
end Rl
namespace Rl
end Rl
namespace Rl
end Rl
namespace Rl
def cutO (j:Nat) (t:Bool) (o:Nat):List Nat:=if o < j then [o] else if j < o then [o + 1] else if t=true then [o + 1,o] else [o,o + 1]
def cutLs (ls:List Int) (j:Nat) (a:Int):List Int:=ls.take j ++ [a,ls.getD j 0 - a] ++ ls.drop (j + 1)
def cutOs (os:List Nat) (j:Nat) (t:Bool):List Nat:=os.flatMap (cutO j t)
def cutTs (ts:List Bool) (j:Nat):List Bool:=ts.take (j + 1) ++ ts.drop j
def layOs (os:List Nat) (i j:Nat):List Nat:=(os.filter fun o=>!decide (o=i)).take j ++ i :: (os.filter fun o=>!decide (o=i)).drop j
theorem J4y (j:Nat):∀ n,(List.range n).flatMap (cutO j false)=if n<=j then List.range n else List.range (n + 1)
 | 0=>by rw [if_pos (Nat.zero_le _)];rfl
 | n + 1=>by
  rw [range_succ,List.flatMap_append,J4y j n];simp only [flatMap_cons,List.flatMap_nil,append_nil];unfold cutO;by_cases c:n<=j
  ·rw [if_pos c];by_cases c2:n < j
   ·rw [if_pos c2,if_pos (by omega)]
   ·have e:n=j:=by omega
    subst e;rw [if_neg (by omega),if_neg (by omega),if_neg (by decide),if_neg (by omega),range_succ (n:=n + 1),range_succ (n:=n),List.append_assoc];rfl
  ·rw [if_neg c,if_neg (by omega),if_pos (by omega),if_neg (by omega),<- range_succ,range_succ (n:=n + 1)]
theorem perm_flat {f g:Nat->List Nat} (h:∀ a,(f a).Perm (g a)):∀ l:List Nat,(l.flatMap f).Perm (l.flatMap g)
 | []=>List.Perm.refl _
 | a :: l=>by rw [flatMap_cons,flatMap_cons];exact (h a).append (perm_flat h l)
theorem cutOs_perm {os:List Nat} {n j:Nat} {t:Bool} (h:os.Perm (List.range n)) (hj:j < n):(cutOs os j t).Perm (List.range (n + 1)):=by
 have p1:(cutOs os j t).Perm ((List.range n).flatMap (cutO j t)):=h.flatMap_right _;have p2:((List.range n).flatMap (cutO j t)).Perm ((List.range n).flatMap (cutO j false)):=perm_flat (fun a=>by
  unfold cutO;split
  ·exact List.Perm.refl _
  ·split
   ·exact List.Perm.refl _
   ·split
    ·exact List.Perm.swap _ _ _
    ·exact List.Perm.refl _) _
 have e:=J4y j n;rw [if_neg (by omega)] at e;rw [e] at p2;exact p1.trans p2
theorem J31 {os:List Nat} {n i j:Nat} (h:os.Perm (List.range n)) (hi:i < n):(layOs os i j).Perm (List.range n):=by
 have nd:os.Nodup:=h.nodup_iff.mpr List.nodup_range;have hm:i∈os:=h.mem_iff.mpr (mem_range.mpr hi);have p1:(layOs os i j).Perm (i :: (os.filter fun o=>!decide (o=i))):=by
  unfold layOs;refine List.perm_middle.trans ?_;rw [List.take_append_drop]
 refine (p1.trans ?_).trans h;refine (List.perm_ext_iff_of_nodup ?_ nd).mpr fun x=>?_
 ·rw [nodup_cons];exact ⟨fun z=>by simp at z,nd.filter _⟩
 ·rw [mem_cons,List.mem_filter];constructor
  ·rintro (rfl | h)
   ·exact hm
   ·exact h.1
  ·intro hx;by_cases c:x=i
   ·exact .inl c
   ·exact .inr ⟨hx,by simp [c]⟩
theorem lay_len {os:List Nat} {n i:Nat} (h:os.Perm (List.range n)) (hi:i < n):(os.filter fun o=>!decide (o=i)).length + 1=n:=by
 have:=(J31 (j:=0) h hi).length_eq;unfold layOs at this;rw [List.take_zero,drop_zero,List.nil_append,length_cons,length_range] at this;exact this
theorem J3u (ls:List Int) {j:Nat} (h:j < ls.length):ls.sum=(ls.take j).sum + (ls.getD j 0 + (ls.drop (j + 1)).sum):=by
 have e:ls=ls.take j ++ ls.getD j 0 :: ls.drop (j + 1):=by
  rw [getD_eq_getElem?_getD,List.getElem?_eq_getElem h];show ls=ls.take j ++ ls[j] :: ls.drop (j + 1);rw [<- List.drop_eq_getElem_cons h,List.take_append_drop]
 have:=congrArg List.sum e;rw [sum_append,sum_cons] at this;exact this
theorem cutLs_sum (ls:List Int) {j:Nat} (h:j < ls.length) (a:Int):(cutLs ls j a).sum=ls.sum:=by
 rw [J3u ls h];unfold cutLs;simp only [sum_append,sum_cons,List.sum_nil];omega
theorem J2b (ls:List Int) {j:Nat} (h:j < ls.length) (a:Int):(cutLs ls j a).length=ls.length + 1:=by
 unfold cutLs;simp only [length_append,length_take,length_drop,length_cons,length_nil];omega
theorem cutTs_len (ts:List Bool) {j:Nat} (h:j < ts.length):(cutTs ts j).length=ts.length + 1:=by
 unfold cutTs;simp only [length_append,length_take,length_drop];omega
theorem cutTs_eq (ts:List Bool) {j:Nat} (h:j < ts.length):ts.take j ++ [ts.getD j false] ++ ts.drop j=cutTs ts j:=by
 unfold cutTs;rw [take_succ,getD_eq_getElem?_getD,List.getElem?_eq_getElem h];rfl
theorem set_sum (ls:List Int) {j:Nat} (h:j < ls.length) (a:Int):(ls.set j a).sum=ls.sum - ls.getD j 0 + a:=by
 have e1:=J3u ls h;have e2:=J3u (ls.set j a) (j:=j) (by rw [length_set];exact h);rw [List.take_set_of_le (Nat.le_refl _),List.drop_set_of_lt (show j < j + 1 by omega)] at e2;have e3:(ls.set j a).getD j 0=a:=by rw [getD_eq_getElem?_getD,getElem?_set_self h];rfl
 omega
theorem set_split {α:Type} (xs:List α) {j:Nat} (h:j < xs.length) (a:α):xs.take j ++ [a] ++ xs.drop (j + 1)=xs.set j a:=by
 rw [List.set_eq_take_append_cons_drop,if_pos h,List.append_assoc];rfl
noncomputable def pcL (ls:List Int) (x:Int):Nat:=by
 classical exact if h:∃ j,Lies (firsts ls (List.range ls.length)) ls x j then h.choose else 0
theorem pcL_eq {ls:List Int} {os:List Nat} (O:Ord ls os) {x:Int} {j:Nat} (q:Lies (firsts ls (List.range ls.length)) ls x j):pcL ls x=j:=by
 unfold pcL;have h:∃ j,Lies (firsts ls (List.range ls.length)) ls x j:=⟨j,q⟩;rw [dif_pos h];exact O.range.unique h.choose_spec q
abbrev T3:=List Int × List Nat × List Bool
noncomputable def cutR (ls:List Int) (os:List Nat) (ts:List Bool) (x:Int):Option T3 :=
 if ls.sum<=x\/x∈firsts ls (List.range ls.length)\/ls.length=24 then none else some (cutLs ls (pcL ls x) (x - (firsts ls (List.range ls.length)).getD (pcL ls x) 0),cutOs os (pcL ls x) (ts.getD (pcL ls x) false),cutTs ts (pcL ls x))
def turnR (ls:List Int) (os:List Nat) (ts:List Bool) (i:Int):Option T3:=if (ls.length:Int)<=i then none else some (ls,os,ts.set i.toNat (!ts.getD i.toNat false))
def layR (ls:List Int) (os:List Nat) (ts:List Bool) (i j:Int):Option T3:=if (ls.length:Int)<=i\/(ls.length:Int)<=j then none else some (ls,layOs os i.toNat j.toNat,ts)
def longR (ls:List Int) (os:List Nat) (ts:List Bool) (i l:Int):Option T3:=if (ls.length:Int)<=i\/l=0\/10 ^ 30 < ls.sum - ls.getD i.toNat 0 + l then none else some (ls.set i.toNat l,os,ts)
end Rl
namespace HT
open PySem PySem.Spec PyProof.Rows L2
section
variable {prog:Program} {w:World} {A:Around} {E:Value->Shared->Prop} {s:Shared}
theorem cat_tup0 {t b:Addr} {ws:List Value} {Q:Value->Shared->Prop} (ht:IsTup s.heap t ([]:List Value).toArray) (hb:IsTup s.heap b ws.toArray) (h:Q (.ref b) s):wpAny (model prog w) A (binaryOp .Add (.ref t) (.ref b)) Q E s:=by
 obtain ⟨⟨cls,dd,data,sl⟩,ho,hc,n,hd⟩:=id ht;obtain ⟨⟨cls2,dd2,data2,sl2⟩,ho2,hc2,n2,hd2⟩:=id hb;simp only at hc hd hc2 hd2;subst hc hd hc2 hd2;exact concat_meets ⟨_,ho,rfl⟩ ⟨_,ho2,rfl⟩ noFill_tuple_add seq_tuple_add PySem.F.slot_tuple_add PySem.F.entry_tuple_add (PySem.F.args_tuple_add_2 _ _)
   (tuple_addW0 t b _ ws.toArray n n2 dd dd2 sl sl2 (by simp)) ⟨ho,ho2,h⟩
theorem getItem_tuple_whole {t sl:Addr} {items:Array Value} {vl vu:Value} {lo hi:Option Int} {Q:Value->Shared->Prop} (ht:IsTup s.heap t items) (hs:s.heap.IsSliceOf sl vl vu .none) (pl:IsPart vl lo) (pu:IsPart vu hi)
  (hw:sIx items.size 0 lo=0/\sIx items.size items.size hi=items.size) (h:Q (.ref t) s):wpAny (model prog w) A (getItem (.ref t) (.ref sl)) Q E s:=by
 obtain ⟨os,hos,hcs,hds⟩:=id hs;have hTs:s.TypeIs (.ref sl) "slice":=⟨os,hos,hcs⟩;unfold getItem
 try with_reducible refine wpAny_holding ?_
 first | refine wpAny_bind (wpAny_pure ?_) | skip
 refine wpAny_bind (wpAny_sequenceKey ht.typeIs (by decide) ?_);refine wpAny_bind (wpAny_callSpecial?_slot (name:=Str.ofString "__getitem__") ht.typeIs PyProof.Rows.slot_tuple_getitem
  (wpAny_call_entry PyProof.Rows.slot_tuple_getitem ht.typeIs entry_tuple_getitem ?_ (args_tuple_getitem _ _)))
 show wpAny _ _ (Builtin.Tuple.tupleItemsOf (.ref t) >>= _) _ _ s;refine wpAny_bind (tupleItemsOf_ ht ?_);refine wpAny_bind (wpAny_typeOf hTs ?_);rw [if_pos (by decide)];refine wpAny_bind (J1m hs pl pu ?_);have hyes:((((sIx items.size 0 lo:Nat):Int) == 0 && (1:Int) == 1 && (sIx items.size items.size hi - sIx items.size 0 lo) == items.size)=true):=by
  rw [hw.1,hw.2];simp
 show wpAny _ _ (if (((sIx items.size 0 lo:Nat):Int) == 0 && (1:Int) == 1 && (sIx items.size items.size hi - sIx items.size 0 lo) == items.size)=true then _ else _) _ _ s;rw [if_pos hyes];refine wpAny_bind ?_;refine wpAny_bind (m:=typeOf _) (wpAny_typeOf ht.typeIs (wpAny_pure ?_));rw [if_pos (by decide)]
 first
  | exact wpAny_bind (wpAny_rule (wpAny_pure ⟨_,rfl,wpAny_pure h⟩))
  | exact wpAny_pure ⟨_,rfl,wpAny_pure h⟩
  | exact wpAny_bind (wpAny_pure (wpAny_pure ⟨_,rfl,wpAny_pure h⟩))
end
end HT
namespace L2
open PySem PySem.Spec PyProof.Rows
section
variable {X:Cx}
theorem same_updA {H:Hp} {l:Addr} {o:HO} (h:H l=none):Same H (upd H l o):=fun b u e=>by
 rw [Je (fun z=>by rw [z,h] at e;cases e)];exact e
def rCatA:R2:=fun x y H Q=>∃ a b xs ys,x=.ref a/\y=.ref b/\H a=some (.tup xs)/\H b=some (.tup ys)/\xs.length + ys.length<=sizeLine/\∀ p H',Same H H'->H' p=some (.tup (xs ++ ys))->Q (.ref p) H'
theorem op_catA:OpR X (binaryOp .Add) rCatA:=by
 intro pins s σ H x y v u Q I rx ry h;obtain ⟨a,b,xs,ys,rfl,rfl,ha,hb,hz,q⟩:=h;by_cases c:xs=[]
 ·subst c;cases rx;cases ry;obtain ⟨its,r1,p1,_⟩:=I.tuple (SqT.of ha);obtain ⟨its2,r2,p2,_⟩:=I.tuple (SqT.of hb);cases r1.nil_iff.mpr rfl;exact HT.cat_tup0 p1 p2 ⟨.ref b,H,I,rfl,q b H (Same.refl _) hb⟩
 ·refine op_catT pins s σ H _ _ v u Q I rx ry ⟨a,b,xs,ys,rfl,rfl,SqT.of ha,SqT.of hb,c,hz,fun e=>?_,fun e p hp=>q p _ (same_updA hp) J1⟩;subst e;exact q a H (Same.refl _) (by rw [append_nil];exact ha)
def rSlA:V->Option Int->Option Int->Hp->VK->Prop:=fun x lo hi H Q=>∃ a xs,x=.ref a/\H a=some (.tup xs)/\∀ p H',Same H H'->H' p=some (.tup (cutV xs lo hi))->Q (.ref p) H'
theorem sl_tupA:SlR X rSlA:=by
 intro pins s σ H x v vl vu lo hi sl Q I rx hs pl pu h;obtain ⟨a,xs,rfl,hx,q⟩:=h;by_cases c:HT.sIx xs.length 0 lo=0/\HT.sIx xs.length xs.length hi=xs.length
 ·cases rx;obtain ⟨its,r,ht,hz⟩:=I.tuple (SqT.of hx);have hlen:its.toArray.size=xs.length:=by rw [size_toArray];exact r.length.symm
  refine ⟨"tuple",_,PyProof.Rows.slot_tuple_getitem.lookup,ht.typeIs,?_⟩;have e:cutV xs lo hi=xs:=by
   unfold cutV;rw [c.1,c.2,drop_zero,Nat.sub_zero,take_length]
  exact HT.getItem_tuple_whole ht hs pl pu (by rw [hlen];exact c) ⟨.ref a,H,I,rfl,q a H (Same.refl _) (by rw [e];exact hx)⟩
 ·exact sl_tup pins s σ H _ v vl vu lo hi sl Q I rx hs pl pu ⟨a,xs,rfl,SqT.of hx,c,fun p hp=>q p _ (same_updA hp) J1⟩
end
end L2
namespace L2
open PySem PySem.Spec PyProof.Rows
theorem call_isany2 {X:Cx} {f:Value} (hf:f=.builtin "isinstance"):CallR X f (fun xs H Q=>∃ (ea D:Addr) (od:Option Addr) (c:V) (cv:Value) (b:Bool),xs=[.ref ea,c]/\RelV c cv/\(∀ v,RelV c v->v=cv)/\H ea=some (excX ea (.ref D) od)/\XCls X.K D/\kitOne X.K (.ref D) cv=some b/\Q (.bl b) H):=by
 subst hf;intro pins s σ H xs us Q I r h;obtain ⟨ea,D,od,c,cv,b,rfl,rc,uc,e,W,kb,q⟩:=h;obtain ⟨u,v,rfl,ru,rv⟩:=vals2 r;cases (show u=Value.ref ea from ru);obtain rfl:=uc v rv;obtain ⟨o,vs,e1,e2,_⟩:=(I.hok ea _ e).1;exact kia_one (kitx_exc W) I.kIn ⟨o,e1,e2⟩ kb (fun z=>nomatch z) fun tk=>⟨.bl b,H,I.tok tk,rfl,q⟩
structure XFld (K:PySem.W.Frag) (D:Addr) (f:Str):Prop where
 w:XCls K D
 no:PySem.W.findIn K (.ref D) f=some none
 hd:PySem.W.hasDictIn K D=true
def tFldX (K:PySem.W.Frag) (ta:TE) (f:Str):TE:=fun σ H Q=>ta σ H fun x H1=>∃ ea D dx fs v,x=.ref ea/\H1 ea=some (excX ea (.ref D) (some dx))/\H1 dx=some (.xd fs)/\XFld K D f/\fs.lookup f=some v/\Q v H1
theorem pe_fldX {X:Cx} {e:Expr} {ta:TE} {f:Str} {pos:Pos} (he:PE X e ta) (hb:attributeBase e f X.env (eval e X.env)=eval e X.env):PE X (.Attribute e f pos) (tFldX X.K ta f):=by
 intro pins s σ H Q I h;refine attr_of hb (thn (he pins s σ H _ I h) fun u s1 h9=>?_);obtain ⟨x,H1,I1,rx,ea,D,dx,fs,v,ex,ea1,ed,c,l,q⟩:=h9;subst ex;obtain rfl:u=Value.ref ea:=rx;obtain ⟨o,vs,e1,e2,e3,e4⟩:=(I1.hok ea _ ea1).1;obtain ⟨mA,hn,r⟩:=(show ∃ mA,s1.heap.Ns1 dx mA/\∀ f,RelO (fs.lookup f) (mA f) from I1.hok dx _ ed);obtain ⟨u,hu,ru⟩:=RelO.some_of (v:=v) (o:=mA f) (by rw [<- l];exact r f);obtain ⟨od,hod,hl⟩:=lookIn_ns hn;obtain ⟨cd,hc,hh⟩:=PySem.W.any_some c.hd;obtain ⟨h0,g0,d0,t0,o0⟩:=s1;refine x_attr (od:=some od) (cd:=cd) I1.kIn c.w ⟨e1,e2,?_,?_⟩ c.no hc (v:=u) ?_ (handed_of ru) ⟨v,H1,I1.tok _,ru,q⟩
 ·unfold PySem.W.notCls;rw [e4]
 ·rw [e3];exact hod
 ·unfold PySem.W.ownOf;rw [if_pos hh];show lookIn f od=_;rw [hl,hu]
theorem Fun.okX2 {P:Program} {w:World} {K:PySem.W.Frag} {mg:Str->Option Value} {base:Heap} {x qual:Str} {st:Stmt} {f:Addr} {fd:FuncData} {N ps:List Str} {k:Nat} {sp:Sp} (F:Fun K x qual st f fd) (S:FnScope N ps (J9 st)) (len:∀ vs H Q E,sp vs H Q E->vs.length=ps.length)
  (hbody:∀ (cdv:Value) (A:Around) (outer:List Env) (s:Shared) (H:Hp) (vs:List V) (Q:VK) (E:XK),Room k (A.deeper (envOfC qual (J9 st) s.heap.objs.size f cdv))->sp vs H Q E->
   ∃ t,PSs (cxOf (Exc2 P w) P w K mg base N qual (J9 st) f cdv A outer s H E) (J19 st) t/\t { nx:=fun _ H'=>Q .non H',rt:=Q } (start N vs) H):FnOk P w K mg base (Exc2 P w) (k + 1) f fd ps sp:=by
 obtain ⟨oc,od,kV,doc,pm,an,cdv,ct,osl,rfl,lk,hcd⟩:=F.ex;exact fn_of lk hcd S len fun A outer s H vs Q E hr hsp=>hbody cdv A outer s H vs Q E hr hsp
end L2
namespace PySem
namespace F
end F
end PySem
namespace L2
open PySem PyProof.Rows
end L2
namespace L2
open PySem PySem.Spec PyProof.Rows
section
variable {X:Cx}
theorem strs_vals:∀ (l:List (Str × Tok)),Vals ((l.map (·.1)).map V.str) (strValues l)
 | []=>.nil
 | p :: r=>.cons ⟨p.2,rfl⟩ (strs_vals r)
def rSplit:V->List V->Hp->VK->Prop:=fun x xs H Q=>∃ (z y:Str),x=.str z/\xs=[.str y]/\(y.length == 0)=false/\z.length + 2<=sizeLine/\∀ d,H d=none->Q (.ref d) (upd H d (.lst ((Txt.split z y).map V.str)))
theorem J2d:MtR X "str.split" rSplit:=by
 intro pins s σ H x xs v us Q I rx rv h;obtain ⟨z,y,rfl,rfl,hy,hz,q⟩:=h;obtain ⟨t,rfl⟩:=rx;obtain ⟨u,rfl,ru⟩:=rv.one;obtain ⟨t',rfl⟩:=ru;have fin:∀ (l:List (Str × Tok)) (k:Nat),l.map (·.1)=Txt.split z y->EP X pins σ Q (.ref s.heap.objs.size) { s with heap:=s.heap.push { cls:=.type "list",data:=.seq (strValues l).toArray },toks:=k }:=fun l k e=>by
  refine ⟨.ref s.heap.objs.size,_,I.laid (t':=k) (o:=.lst ((Txt.split z y).map V.str)) (fun b ob q=>get?_push_of_some _ q) (Nat.le_refl _) ⟨?_,strValues l,0,?_,get?_push_size _ rfl⟩,rfl,q _ (I.hok.fresh (Nat.le_refl _))⟩
  ·rw [length_map];exact Nat.le_trans (split_le z y) hz
  ·rw [<- e];exact strs_vals l
 have hn:(Builtin.Str.partsBetween z (Builtin.Str.occurrences z y 0 z.length (z.length + 1)) y.length).length<=sizeLine:=by
  have e1:=StrLaws.occ_length_le z y 0 z.length (z.length + 1);rw [length_partsBetween];omega
 cases h1:(decide (z.length < y.length) || decide (Builtin.Str.strKind z < Builtin.Str.strKind y))
 ·cases hf:(Builtin.Str.occurrences z y 0 z.length (z.length + 1)).isEmpty
  ·refine call_meets PySem.F.slot_str_split (typeIs_str _ _ _) PySem.F.entry_str_split (PySem.F.args_str_split_2 _ _) (meets_str_split_sep z y t t' h1 hy hf (by omega) hn) ?_;show wants _ _ _ { s with toks:=_,heap:=s.heap.push { cls:=.type "list",data:=.seq (strsFrom s.toks (Builtin.Str.partsBetween z (Builtin.Str.occurrences z y 0 z.length (z.length + 1)) y.length)).toArray } };rw [strsFrom_eq];exact fin (numbered s.toks _) _ ((numbered_texts _ _).trans ((if_neg (ne_true_of_eq_false h1)).trans (if_neg (ne_true_of_eq_false hf))).symm)
  ·exact call_meets PySem.F.slot_str_split (typeIs_str _ _ _) PySem.F.entry_str_split (PySem.F.args_str_split_2 _ _) (meets_str_split_not_found z y t t' h1 hy hf)
    (fin [(z,t)] s.toks ((if_neg (ne_true_of_eq_false h1)).trans (if_pos hf)).symm)
 ·exact call_meets PySem.F.slot_str_split (typeIs_str _ _ _) PySem.F.entry_str_split (PySem.F.args_str_split_2 _ _) (meets_str_split_cannot_occur z y t t' h1)
   (fin [(z,t)] s.toks (if_pos h1).symm)
def rEnds:V->List V->Hp->VK->Prop:=fun x xs H Q=>∃ (z y:Str),x=.str z/\xs=[.str y]/\Q (.bl (0 + y.length<=z.length && Builtin.Str.subAt z y (z.length - y.length))) H
theorem mt_ends:MtR X "str.endswith" rEnds:=by
 intro pins s σ H x xs v us Q I rx rv h;obtain ⟨z,y,rfl,rfl,q⟩:=h;obtain ⟨t,rfl⟩:=rx;obtain ⟨u,rfl,ru⟩:=rv.one;obtain ⟨t',rfl⟩:=ru;exact call_gives PySem.F.slot_str_endswith (typeIs_str _ _ _) PySem.F.entry_str_endswith (PySem.F.args_str_endswith_2 _ _) (gives_str_endswith z y t t') (show EP X pins σ Q (.bool _) s from ⟨.bl _,H,I,rfl,q⟩)
def rSlS:V->Option Int->Option Int->Hp->VK->Prop:=fun x lo hi H Q=>∃ z,x=.str z/\z.length<=sizeLine/\Q (.str (Txt.slice z lo hi)) H
theorem sl_str:SlR X rSlS:=by
 intro pins s σ H x v vl vu lo hi sl Q I rx hs pl pu h;obtain ⟨z,rfl,hz,q⟩:=h;obtain ⟨t,rfl⟩:=rx;refine ⟨"str",_,PySem.F.slot_str_getitem.lookup,typeIs_str _ _ _,?_⟩;obtain ⟨o,e1,e2,e3⟩:=hs;have fin:∀ t' k,EP X pins σ Q (.str (Txt.slice z lo hi) t') { s with toks:=k }:=fun t' k=>⟨.str _,H,I.tok _,⟨_,rfl⟩,q⟩
 cases pl with
 | none=>cases pu with
  | none=>exact wpAny_getItem_str_slice (l:=none) (u:=none) (st:=none) ⟨o,e1,e2,e3⟩ rfl (post_val_or_str ⟨Nat.le_trans (Txt.slice_le z _ _) hz,fin⟩)
  | int j uj=>exact wpAny_getItem_str_slice (l:=none) (u:=some (j,uj)) (st:=none) ⟨o,e1,e2,e3⟩ rfl (post_val_or_str ⟨Nat.le_trans (Txt.slice_le z _ _) hz,fin⟩)
 | int i ui=>cases pu with
  | none=>exact wpAny_getItem_str_slice (l:=some (i,ui)) (u:=none) (st:=none) ⟨o,e1,e2,e3⟩ rfl (post_val_or_str ⟨Nat.le_trans (Txt.slice_le z _ _) hz,fin⟩)
  | int j uj=>exact wpAny_getItem_str_slice (l:=some (i,ui)) (u:=some (j,uj)) (st:=none) ⟨o,e1,e2,e3⟩ rfl (post_val_or_str ⟨Nat.le_trans (Txt.slice_le z _ _) hz,fin⟩)
theorem J4g:CallR X (.type "int") (fun xs H Q=>∃ z n,xs=[.str z]/\intText? z=some n/\z.length<=640/\Q (.int n) H):=by
 intro pins s σ H xs us Q I rv h;obtain ⟨z,n,rfl,hn,hl,q⟩:=h;obtain ⟨u,rfl,ru⟩:=rv.one;obtain ⟨t',rfl⟩:=ru;exact PySem.W.KIN.call_text hn hl ⟨.int n,H,I.tok _,⟨_,rfl⟩,q⟩
def tFI (c:Str) (ta:TE):TE:=fun σ H Q=>ta σ H fun x H1=>∃ i:Int,x=.int i/\i.natAbs < 10 ^ 40/\Q (.str (Str.empty ++ Str.ofString (toString i) ++ c)) H1
theorem pe_fi {a:Expr} {ta:TE} {c:Str} {k1:Nat} {p1 p2 pos:Pos} (ha:PE X a ta) (hc:c.length<=1000) :
  PE X (.JoinedStr [.FormattedValue a (-1) none p1,.Constant (.str c) k1 p2] pos) (tFI c ta):=by
 intro pins s σ H Q I h;have hz:sizeLine=16777216:=sizeLine_eq;refine wpAny_JoinedStr ?_;show wpAny _ _ (eval (.FormattedValue a (-1) none p1) X.env) _ X.xe s;refine wpAny_FormattedValue_plain (thn (ha pins s σ H _ I h) fun v s1 h9=>?_);obtain ⟨x,H1,I1,r1,q1⟩:=h9;obtain ⟨i,rfl,hi,q1⟩:=q1;obtain ⟨t,rfl⟩:=r1;have li:(Str.ofString (toString i)).length<=1048576:=by
  have:(Str.ofString (toString i)).length<=41:=by
   rw [PySem.ofString_length];exact int_text_length_le10 (by decide) hi
  omega
 have hi:i.natAbs.log2 < 1920:=by
  by_cases hz:i.natAbs=0
  ·rw [hz];decide
  ·refine (Nat.log2_lt hz).mpr (Nat.lt_trans hi ?_);decide +kernel
 refine wpAny_formatField_int hi ?_;have l0:(Str.empty ++ Str.ofString (toString i)).length<=1048576:=by rw [strLen_append];show 0 + (Str.ofString (toString i)).length<=_;omega
 refine ⟨Str.ofString (toString i),_,rfl,by omega,?_⟩;show wpAny _ _ (eval (.Constant (.str c) k1 p2) X.env) _ X.xe _;refine Calls.Constant_str ?_;have l1:(Str.empty ++ Str.ofString (toString i) ++ c).length<=1048576 + 1000:=by rw [strLen_append];omega
 refine ⟨c,_,rfl,by omega,?_⟩;exact ⟨by omega,.str _,H1,((I1.tok _).tok _).tok _,⟨_,rfl⟩,q1⟩
end
def Itz (z:Str):It:=⟨fun i _=>i < z.cps.size,fun i H x H'=>H'=H/\∃ c,z.cps[i]?=some c/\x=.str ⟨#[c]⟩,fun i _=>i=z.cps.size⟩
theorem turn_str {P:Program} {w:World} {K:PySem.W.Frag} {tg:Expr} (z:Str) (t:Tok) (it:Addr) {n:String} (hn:["enumerate","zip","dict_itemiterator","dict_reverseitemiterator","odict_iterator","itertools.zip_longest","itertools.pairwise"].contains n=false)
  (W:∀ A':Around,A'.handled=none->Walks P w A' it [it] [it] z.cps.size (SignAt z) (fun i h=>h.IsStrIter it n z t i)) (S:∀ (A:Around) (i:Nat) (s:Shared) (Q:Value->Shared->Prop) (E:Value->Shared->Prop),s.heap.IsStrIter it n z t i->Q (.ref it) s->wpAny (model P w) A (pyIter (.ref it)) Q E s) :
  Turn P w K tg (Itz z) [it] it (fun i h=>h.IsStrIter it n z t i) where
 mem:=by simp
 obj:=fun i h st b hb=>by
  have e:b=it:=by simpa using hb
  subst e;obtain ⟨o,e,c,d⟩:=st;exact ⟨o,e,fun v z=>by rw [d] at z;cases z⟩
 keep:=fun i h h' st k=>by obtain ⟨o,e,r⟩:=st;exact ⟨o,k it (by simp) o e,r⟩
 item:=by
  intro X hP hw hK hc i pins s σ H E I hf st hg;subst hP hw hK;obtain ⟨f0,f1,f2,f3,f4,f5⟩:=hf it (by simp);refine (W X.A (I.ok.hd hc)).item i s _ _ hg st fun v h' tk hv st' kk=>?_;obtain ⟨c,u,hcp,rfl⟩:=hv;have I1:Inv X pins σ H { s with heap:=h',toks:=tk }:=I.turned (fun b o hb e=>kk b o (by simpa using hb) e) f0 f1 f3 f4 f5;obtain ⟨o,e,c1,d⟩:=id st';exact ⟨_,rfl,go_of (s:={ s with heap:=h',toks:=tk }) e c1 d hn ⟨.str ⟨#[c]⟩,H,I1,⟨u,rfl⟩,⟨rfl,c,hcp,rfl⟩,st',fun b hb=>(hf b hb).1⟩⟩
 done:=by
  intro X hP hw hK hc i pins s σ H E I hf st hg;subst hP hw hK;obtain ⟨f0,f1,f2,f3,f4,f5⟩:=hf it (by simp);have hg:i=z.cps.size:=hg;subst hg;exact (W X.A (I.ok.hd hc)).done s _ _ st fun h' tk kk=>⟨rfl,I.turned (fun b o hb e=>kk b o (by simpa using hb) e) f0 f1 f3 f4 f5⟩
 self:=fun A i s Q E st h=>S A i s Q E st h
def iStr (tl:TE):TI:=fun σ H R=>tl σ H fun x H1=>∃ z,x=.str z/\R (Itz z) H1
theorem pi_str {X:Cx} {tg l:Expr} {tl:TE} (hl:PE X l tl):PI X tg l (iStr tl):=by
 intro pins s σ H R I h;refine thn (hl pins s σ H _ I h) fun v s1 h9=>?_;obtain ⟨x,H1,I1,r1,q1⟩:=h9;obtain ⟨z,e,q⟩:=q1;subst e;obtain ⟨t,rfl⟩:=r1;have new:∀ (ob:Obj),∀ b∈[s1.heap.objs.size],FpOk X pins H1 b:=fun ob b hb=>by
  have e:b=s1.heap.objs.size:=by simpa using hb
  subst e;exact I1.fpOk (Nat.le_refl _) (I1.hok.fresh (Nat.le_refl _))
 cases ha:z.cps.all (· < 128)
 ·exact wpAny_pyIter_wide ha ⟨s1.heap.objs.size,[s1.heap.objs.size],_,_,H1,rfl,I1.kept (t':=s1.toks) fun b o e=>get?_push_of_some _ e,turn_str z t _ (n:="str_iterator") (by decide) (fun A' hA=>Walks.strWide hA _ z t) (fun _ _ _ _ _ st h=>wpAny_pyIter_striter_wide st h),⟨_,get?_push_size _ rfl,rfl,rfl⟩,new default,q⟩
 ·exact wpAny_pyIter_ascii ha ⟨s1.heap.objs.size,[s1.heap.objs.size],_,_,H1,rfl,I1.kept (t':=s1.toks) fun b o e=>get?_push_of_some _ e,turn_str z t _ (n:="str_ascii_iterator") (by decide) (fun A' hA=>Walks.strAscii hA _ z t) (fun _ _ _ _ _ st h=>wpAny_pyIter_striter_ascii st h),⟨_,get?_push_size _ rfl,rfl,rfl⟩,new default,q⟩
section
variable {H1:Hp} {tc:TT} {te:TE} {σ:St} {js:List Nat} {Q:VK} {d:Addr}
theorem lc_str (z:Str) (G:Nat->Bool) (F:Nat->V) (hn:z.length<=1000) (hd:H1 d=none)
  (hs:∀ c∈z.cps.toList,∀ H Qt,Same H1 H->(∀ H',Same H H'->Qt (G c) H')->tc (some (.str ⟨#[c]⟩) :: capv σ js) H Qt)
  (he:∀ c∈z.cps.toList,∀ H Qe,G c=true->Same H1 H->(∀ H',Same H H'->Qe (F c) H')->te (some (.str ⟨#[c]⟩) :: capv σ js) H Qe)
  (hq:∀ H',Same H1 H'->H' d=some (.lst ((z.cps.toList.filter G).map F))->Q (.ref d) H'):LCW (Itz z) tc te σ js Q H1 d:=by
 have hl:z.cps.toList.length=z.cps.size:=length_toList;have hn:z.cps.size<=1000:=hn;refine lc_seq (fun c:Nat=>V.str ⟨#[c]⟩) z.cps.toList G F (by rw [hl];exact hn) hd (fun i H hi s=>by rw [hl] at hi;exact hi) (fun H s=>hl) (fun i H v H' hi s y=>?_) hs he hq;obtain ⟨e,c,hc,rfl⟩:=y;refine ⟨e,?_⟩;rw [getElem?_map];have:z.cps.toList[i]?=some c:=by simpa using hc
 rw [this];rfl
end
end L2
namespace Rl
open PySem
theorem J4x {c:Nat}:∀ {a a' b b':List Nat},c ∉ a->c ∉ a'->a ++ c :: b=a' ++ c :: b'->a=a'/\b=b'
 | [],[],_,_,_,_,e=>⟨rfl,(List.cons.inj e).2⟩
 | [],y :: ys,_,_,_,h',e=>absurd (mem_cons.mpr (.inl (List.cons.inj e).1)) h'
 | x :: xs,[],_,_,h,_,e=>absurd (mem_cons.mpr (.inl (List.cons.inj e).1.symm)) h
 | x :: xs,y :: ys,_,_,h,h',e=>by
  obtain ⟨e1,e2⟩:=List.cons.inj e;obtain ⟨q1,q2⟩:=J4x (fun m=>h (mem_cons_of_mem _ m)) (fun m=>h' (mem_cons_of_mem _ m)) e2;exact ⟨by rw [e1,q1],q2⟩
theorem J1v (a b:Str):(a ++ b).cps.toList=a.cps.toList ++ b.cps.toList:=by
 rw [Str.cps_append,Array.toList_append]
theorem J2r {a b:Str} (h:a.cps.toList=b.cps.toList):a=b:=Str.ext' (Array.toList_inj.mp h)
theorem J2a (c:Nat) (x y:Str) (r:List Str):(Str.join ⟨#[c]⟩ (x :: y :: r)).cps.toList=x.cps.toList ++ c :: (Str.join ⟨#[c]⟩ (y :: r)).cps.toList:=by
 show (x ++ ⟨#[c]⟩ ++ Str.join ⟨#[c]⟩ (y :: r)).cps.toList=_;rw [J1v,J1v,List.append_assoc];rfl
theorem join_inj (c:Nat):∀ {ps qs:List Str},ps≠[]->qs≠[]->(∀ p∈ps,c ∉ p.cps.toList)->(∀ p∈qs,c ∉ p.cps.toList)->Str.join ⟨#[c]⟩ ps=Str.join ⟨#[c]⟩ qs->ps=qs
 | [],_,h,_,_,_,_=>absurd rfl h
 | _ :: _,[],_,h,_,_,_=>absurd rfl h
 | [x],[y],_,_,_,_,e=>by rw [show x=y from e]
 | [x],y :: z :: r,_,_,hx,_,e=>by
  have e1:=congrArg (fun s=>s.cps.toList) e;rw [J2a] at e1;have e1:x.cps.toList=y.cps.toList ++ c :: (Str.join ⟨#[c]⟩ (z :: r)).cps.toList:=e1;exact absurd (by rw [e1];exact mem_append_right _ (mem_cons_self ..)) (hx x (mem_cons_self ..))
 | x :: y :: r,[z],_,_,_,hz,e=>by
  have e1:=congrArg (fun s=>s.cps.toList) e;rw [J2a] at e1;have e1:x.cps.toList ++ c :: (Str.join ⟨#[c]⟩ (y :: r)).cps.toList=z.cps.toList:=e1;exact absurd (by rw [<- e1];exact mem_append_right _ (mem_cons_self ..)) (hz z (mem_cons_self ..))
 | x :: y :: r,x' :: y' :: r',_,_,h,h',e=>by
  have e1:=congrArg (fun s=>s.cps.toList) e;rw [J2a,J2a] at e1;obtain ⟨q1,q2⟩:=J4x (h x (mem_cons_self ..)) (h' x' (mem_cons_self ..)) e1;have:=join_inj c (cons_ne_nil y r) (cons_ne_nil y' r') (fun p hp=>h p (mem_cons_of_mem _ hp)) (fun p hp=>h' p (mem_cons_of_mem _ hp)) (J2r q2);rw [J2r q1,this]
theorem J4j (c:Nat) {ps:List Str} (h:ps≠[]) (hf:∀ p∈ps,c ∉ p.cps.toList):Txt.split (Txt.join ⟨#[c]⟩ ps) ⟨#[c]⟩=ps:=by
 have e:Txt.join ⟨#[c]⟩ ps=Str.join ⟨#[c]⟩ ps:=StrLaws.glued_eq_join ..;rw [e];refine join_inj c (fun q=>?_) h (StrLaws.split_free _ c) hf (StrLaws.join_split _ _);have:=split_pos (Str.join ⟨#[c]⟩ ps) ⟨#[c]⟩;rw [q] at this;exact absurd this (by decide)
theorem J28 {n:Int} (h:0<=n):(Str.ofString (toString n)).cps.toList=(Nat.toDigits 10 n.toNat).map Char.toNat:=by
 obtain ⟨m,rfl⟩:=Int.eq_ofNat_of_zero_le h;exact PySem.W.KIN.signs_num m
theorem J18 {n:Int} (h:0<=n):∀ c∈(Str.ofString (toString n)).cps.toList,48<=c/\c<=57:=by
 intro c hc;rw [J28 h] at hc;obtain ⟨ch,hch,e⟩:=mem_map.mp hc;have r:=PyProof.Rows.digit_range (Nat.isDigit_of_mem_toDigits (by decide) (by decide) hch);rw [<- e];exact r
theorem digits_ne (m:Nat):Nat.toDigits 10 m≠[]:=by
 intro e;have h:=PySem.toDigits_len_ge 10 m;rw [e] at h;exact absurd h (by decide)
theorem num_ne {n:Int} (h:0<=n):(Str.ofString (toString n)).cps.toList≠[]:=by
 rw [J28 h];intro e;exact digits_ne _ (List.map_eq_nil_iff.mp e)
theorem J1t {n:Int} (h:0<=n) (h1:n < 10 ^ 40):intText? (Str.ofString (toString n))=some n:=by
 have hl:(Str.ofString (toString n)).length<=40:=toString_length_le h (by decide) h1;have e:=PySem.intText_digits (J18 h) (num_ne h) (Nat.le_trans hl (by decide));rw [J28 h,PySem.W.KIN.val_back] at e;rw [e,Int.toNat_of_nonneg h]
theorem num_inj {n m:Int} (h:0<=n) (h':0<=m) (h1:n < 10 ^ 40) (h1':m < 10 ^ 40) (e:Str.ofString (toString n)=Str.ofString (toString m)):n=m:=by
 have:=J1t h h1;rw [e,J1t h' h1'] at this;exact (Option.some.inj this).symm
theorem digit_zero:∀ d:Nat,d < 10->d≠0->(Nat.digitChar d).toNat≠48:=by decide
theorem J4v (m:Nat):m≠0->∃ c r,Nat.toDigits 10 m=c :: r/\c.toNat≠48:=by
 induction m using Nat.strongRecOn with
 | _ m ih =>
  intro h0;by_cases h:m < 10
  ·exact ⟨_,[],Nat.toDigits_of_lt_base h,digit_zero m h h0⟩
  ·have hm:m % 10 < 10:=Nat.mod_lt m (by decide);have t:Nat.toDigits 10 (m / 10) ++ Nat.toDigits 10 (m % 10)=Nat.toDigits 10 (10 * (m / 10) + m % 10):=Nat.toDigits_append_toDigits (by decide) (by omega) hm;rw [Nat.div_add_mod] at t;obtain ⟨c,r,e,q⟩:=ih (m / 10) (by omega) (by omega);exact ⟨c,r ++ Nat.toDigits 10 (m % 10),by rw [<- t,e];rfl,q⟩
end Rl
namespace L2
open PySem PySem.Spec PyProof.Rows
end L2
namespace L2
open PySem PySem.Spec PyProof.Rows
end L2
namespace L2
open PySem PySem.Spec PySem.Calls PyProof.Rows PySem.W
end L2
namespace L2
open PySem PySem.Spec PySem.Calls PyProof.Rows PySem.W
end L2
namespace L2
open PySem PySem.Spec PySem.Calls PyProof.Rows PySem.W
end L2
namespace L2
open PySem PySem.Spec PySem.Calls PyProof.Rows PySem.W
end L2
namespace R69
open PySem L2 Rl
def top (i:Nat):Stmt:=PySem.Challenge.pw_relaid_k69_desk_deeds.main.body.getD i (.Pass ⟨0,0,0,0⟩)
abbrev sHold:Stmt:=top 10
abbrev sAt:Stmt:=top 11
abbrev sRefL:Stmt:=top 14
abbrev sRefO:Stmt:=top 15
abbrev sRefT:Stmt:=top 16
abbrev sTold:Stmt:=top 17
abbrev sFirst:Stmt:=top 18
abbrev sWord:Stmt:=top 22
abbrev J59:Stmt:=top 23
abbrev sIsNum:Stmt:=top 24
abbrev sNoT:Stmt:=top 25
abbrev sLenRow:Stmt:=top 26
abbrev J5b:Stmt:=top 27
abbrev J5a:Stmt:=top 28
abbrev sRead:Stmt:=top 29
abbrev sNumT:Stmt:=top 32
abbrev sNumsC:Stmt:=top 34
abbrev sCut:Stmt:=top 35
abbrev sTurnA:Stmt:=top 36
abbrev sLaidAt:Stmt:=top 37
abbrev sMadeL:Stmt:=top 38
abbrev sLineB:Stmt:=top 39
abbrev sCell:Stmt:=top 43
abbrev sWhole:Stmt:=top 44
abbrev sShuf:Stmt:=top 45
abbrev sDrawn:Stmt:=top 46
abbrev sTextL:Stmt:=top 47
abbrev sLCut:Stmt:=top 48
abbrev sDue:Stmt:=top 49
abbrev sLRow:Stmt:=top 50
abbrev J3w:Stmt:=top 51
abbrev sStands:Stmt:=top 52
abbrev sLaw:Stmt:=top 53
abbrev sInit:Stmt:=J32 (top 19) 0
abbrev sBRInit:Stmt:=J32 (top 8) 0
abbrev sDInit:Stmt:=J32 (top 41) 0
abbrev sDDo:Stmt:=J32 (top 41) 1
abbrev sDUnl:Stmt:=J32 (top 41) 3
abbrev sDLeft:Stmt:=J32 (top 41) 4
abbrev sDText:Stmt:=J32 (top 41) 5
abbrev iV (ns:List Int):List V:=ns.map V.int
abbrev nV (os:List Nat):List V:=(natI os).map V.int
abbrev bV (bs:List Bool):List V:=bs.map V.bl
def SqH (H:Hp) (p:Addr) (xs:List V):Prop:=H p=some (.lst xs)\/H p=some (.tup xs)
theorem SqH.sq {K:PySem.W.Frag} {H:Hp} {p:Addr} {xs:List V} (h:SqH H p xs):SqL K H p xs\/SqT K H p xs:=h.elim (fun h=>.inl (SqL.of h)) fun h=>.inr (SqT.of h)
theorem SqH.same {H H':Hp} {p:Addr} {xs:List V} (h:SqH H p xs) (s:Same H H'):SqH H' p xs:=h.elim (fun h=>.inl (s _ _ h)) fun h=>.inr (s _ _ h)
theorem J3 {H:Hp} {l:Addr} {o:HO} (h:H l=none):Same H (upd H l o):=fun b u e=>by rw [Je (Ja e h)];exact e
theorem iteD {c A B:Prop} [Decidable c] (hc:¬ c) (h:B):if decide c=true then A else B:=by
 rw [decide_eq_false hc];exact iteF h
theorem iteDT {c A B:Prop} [Decidable c] (hc:c) (h:A):if decide c=true then A else B:=by
 rw [decide_eq_true hc];exact iteT h
theorem iteBT {c:Bool} {A B:Prop} (h:c=true) (q:A):if c=true then A else B:=by rw [if_pos h];exact q
theorem iteBF {c:Bool} {A B:Prop} (h:¬ c=true) (q:B):if c=true then A else B:=by rw [if_neg h];exact q
theorem iteND {c A B:Prop} [Decidable c] (hc:¬ c) (h:A):if (!decide c)=true then A else B:=by
 rw [decide_eq_false hc];exact iteT h
theorem J3y {K:PySem.W.Frag} {H:Hp} {p:Addr} {xs:List V} {Q:VK} (h:SqH H p xs) (k:∀ l H',Same H H'->H' l=some (.tup xs)->Q (.ref l) H'):rTup K [V.ref p] H Q:=by
 unfold rTup;rcases h with h | h
 ·exact ⟨p,xs,rfl,.inl ⟨SqL.of h,fun l hl=>k l _ (J3 hl) J1⟩⟩
 ·exact ⟨p,xs,rfl,.inr ⟨SqT.of h,k p H (Same.refl _) h⟩⟩
theorem vint_ne {i j:Int} (h:i≠j):¬ V.int i=V.int j:=fun e=>h (V.int.inj e)
theorem J3q {n o:Nat} (h:o < n):ixN n (o:Int)=some o:=by
 unfold ixN;rw [if_pos (by omega),if_pos (by omega)];simp
theorem J1k {ns:List Int} {j:Nat} (h:j < ns.length):(iV ns)[j]?=some (V.int (ns.getD j 0)):=by
 rw [getElem?_map,List.getElem?_eq_getElem h,getD_eq_getElem?_getD,List.getElem?_eq_getElem h];rfl
theorem iV_set (ns:List Int) (j:Nat) (z:Int):(iV ns).set j (V.int z)=iV (ns.set j z):=by
 show (ns.map V.int).set j (V.int z)=(ns.set j z).map V.int;rw [map_set]
theorem nV_get {os:List Nat} {j:Nat} {y:V} (h:(nV os)[j]?=some y):j < os.length/\y=V.int (os.getD j 0:Nat)/\os.getD j 0∈os:=by
 have hj:j < os.length:=by
  have:=(List.getElem?_eq_some_iff.mp h).1;simpa [natI] using this
 refine ⟨hj,?_,?_⟩
 ·rw [getElem?_map] at h;unfold natI at h;rw [getElem?_map,List.getElem?_eq_getElem hj] at h;rw [getD_eq_getElem?_getD,List.getElem?_eq_getElem hj];exact (Option.some.inj h).symm
 ·rw [getD_eq_getElem?_getD,List.getElem?_eq_getElem hj];exact getElem_mem hj
theorem flat_zero (n:Nat):(List.replicate n [V.int 0]).flatten=iV (List.replicate n 0):=by
 induction n with
 | zero=>rfl
 | succ n ih=>rw [replicate_succ,flatten_cons,ih,replicate_succ];rfl
theorem flat_false (n:Nat):(List.replicate n [V.bl false]).flatten=bV (List.replicate n false):=by
 induction n with
 | zero=>rfl
 | succ n ih=>rw [replicate_succ,flatten_cons,ih,replicate_succ];rfl
theorem J3n {f:Str} {v:V} {fs:List (Str × V)}:(putF f v fs).lookup f=some v:=by rw [J1u,if_pos rfl]
theorem lk_ne {f g:Str} {v:V} {fs:List (Str × V)} (h:¬ g=f):(putF f v fs).lookup g=fs.lookup g:=by rw [J1u,if_neg h]
theorem len_iV (ls:List Int):(iV ls).length=ls.length:=length_map ..
def KeepX (x:Addr) (H H':Hp):Prop:=∀ b o,H b=some o->b≠x->H' b=some o
theorem KeepX.of {x:Addr} {H H':Hp} (s:Same H H'):KeepX x H H':=fun b o e _=>s b o e
theorem KeepX.trans {x:Addr} {H H1 H2:Hp} (a:KeepX x H H1) (b:KeepX x H1 H2):KeepX x H H2:=fun c o e n=>b c o (a c o e n) n
theorem KeepX.upd {x:Addr} {H:Hp} {o:HO}:KeepX x H (upd H x o):=fun b u e n=>by rw [Je n];exact e
theorem KeepX.sqH {x p:Addr} {H H':Hp} {xs:List V} (k:KeepX x H H') (h:SqH H p xs) (n:p≠x):SqH H' p xs:=h.elim (fun h=>.inl (k _ _ h n)) fun h=>.inr (k _ _ h n)
theorem SqH.ne {H:Hp} {p x C dx:Addr} {xs:List V} {fs:List (Str × V)} (h:SqH H p xs) (hx:H x=some (.ins C dx fs)):p≠x:=h.elim (fun h=>ne_of h hx (by intro z;cases z)) fun h=>ne_of h hx (by intro z;cases z)
theorem J5r {ts:List Bool} {j:Nat} (h:j < ts.length):(bV ts)[j]?=some (V.bl (ts.getD j false)):=by
 rw [getElem?_map,List.getElem?_eq_getElem h,getD_eq_getElem?_getD,List.getElem?_eq_getElem h];rfl
structure TxtX (K:PySem.W.Frag) (mg:Str->Option Value) (x:Str) (CO:Addr):Prop where
 mg:mg x=some (.ref CO)
 ex:excIn K CO bmV "ValueError.__new__"=true
structure TxtR (mg:Str->Option Value):Prop where
 len:mg "len"=none
 sum:mg "sum"=none
 tuple:mg "tuple"=none
 list:mg "list"=none
 range:mg "range"=none
theorem nV_eq (row:List Nat):nV row=row.map fun (j:Nat)=>V.int (j:Int):=by
 show (row.map fun (n:Nat)=>(n:Int)).map V.int=_;rw [map_map];rfl
theorem J3g (row:List Nat):(nV row).length=row.length:=by rw [nV_eq,length_map]
theorem nV_at {row:List Nat} {i:Nat} (h:i < row.length):(nV row)[i]?=some (V.int (row.getD i 0:Nat)):=by
 rw [nV_eq,getElem?_map,getD_eq_getElem?_getD,List.getElem?_eq_getElem h];rfl
section
variable {P:Program} {w:World} {K:PySem.W.Frag} {mg:Str->Option Value} {base:Heap}
def spFirst:Sp:=fun vs H Q _=>∃ (p q:Addr) (ls:List Int) (os:List Nat),vs=[.ref p,.ref q]/\H p=some (.tup (iV ls))/\SqH H q (nV os)/\(∀ o∈os,o < ls.length)/\ls.length<=24/\
 ∀ l H',Same H H'->H' l=some (.tup (iV (firsts ls os)))->Q (.ref l) H'
theorem scFirst:FnScope ["lengths","order","firsts","place","piece"] ["lengths","order"] (J9 sFirst):=fS
def PvF (p q fl:Addr) (ls:List Int) (os:List Nat) (H:Hp) (i:Nat) (σ:St) (H2:Hp):Prop :=
 ∃ v,σ=[some (.ref p),some (.ref q),some (.ref fl),some (.int (sumsF ls os i).2),v]/\H2 fl=some (.lst (iV (sumsF ls os i).1))/\H fl=none/\Same H H2
theorem ok_first {f:Addr} {fd:FuncData} (F:Fun K "first_places" "first_places" sFirst f fd) (T:TxtR mg):FnOk P w K mg base CX0 1 f fd ["lengths","order"] spFirst:=by
 refine F.ok scFirst (fun vs H Q E h=>?_) (fun cdv A outer s H vs Q E hr h=>?_)
 ·obtain ⟨p,q,ls,os,rfl,_⟩:=h;rfl
 ·obtain ⟨p,q,ls,os,rfl,hp,hq,hlt,hn,k⟩:=h;have hl:(iV ls).length=ls.length:=length_map ..;have turn:∀ (fl:Addr) (i:Nat) (y:V) (σ:St) (H2:Hp) (D:Ends),(nV os)[i]?=some y->PvF p q fl ls os H i σ H2->D.nx=PvF p q fl ls os H (i + 1)->
    gName 4 y σ H2 fun σ2 H2=>tSeq (tAsg (tVar 3) (gSub (tVar 2) (tVar 4) rSetL)) (tAsg (tOp (rI0 fun i j=>.int (i + j)) (tVar 3) (tOp (rIxT K) (tVar 0) (tVar 4))) (gName 3)) D σ2 H2:=by
   rintro fl i y σ H2 D hy ⟨v,rfl,h1,h2,h3⟩ hD;obtain ⟨hi,rfl,hm⟩:=nV_get hy;have ho:=hlt _ hm;refine ⟨_,rfl,_,rfl,_,rfl,fl,_,_,os.getD i 0,rfl,rfl,h1,J3q (by rw [length_map,J2n];exact ho),?_⟩;refine ⟨_,rfl,_,rfl,_,rfl,p,_,_,_,rfl,rfl,SqT.of (xs:=iV ls) ?_,Jd (J1k ho),_,_,rfl,rfl,?_⟩
   ·rw [Je (ne_of (h3 _ _ hp) h1 (by intro z;cases z))];exact h3 _ _ hp
   ·show D.nx _ _;rw [hD];refine ⟨_,rfl,?_,h2,fun b o e=>?_⟩
    ·rw [J1,iV_set];rfl
    ·rw [Je (Ja e h2)];exact h3 _ _ e
  have start0:∀ fl,H fl=none->∀ H1,Same H H1->H1 fl=some (.lst (iV (List.replicate ls.length 0)))->PvF p q fl ls os H 0 [some (.ref p),some (.ref q),some (.ref fl),some (.int 0),none] H1:=fun fl h1 H1 h2 h3=>⟨none,rfl,h3,h1,h2⟩;have done:∀ fl (σ:St) (H2:Hp),PvF p q fl ls os H (nV os).length σ H2->tRet (tCB (rTup K) (tCons (tVar 2) tNil)) { nx:=fun _ H'=>Q .non H',rt:=Q } σ H2:=by
   rintro fl σ H2 ⟨v,rfl,h1,h2,h3⟩;have e:(nV os).length=os.length:=by simp [natI]
   rw [e] at h1;exact ⟨_,rfl,J3y (.inl h1) fun l H' s hl=>k l _ (h3.trans s) hl⟩
  have rep:∀ fl,H fl=none->∀ l2,(upd H fl (.lst [V.int 0])) l2=none->PvF p q l2 ls os H 0 [some (.ref p),some (.ref q),some (.ref l2),some (.int 0),none] (upd (upd H fl (.lst [V.int 0])) l2 (.lst (List.replicate ((iV ls).length:Int).toNat [V.int 0]).flatten)):=fun fl hf l2 h2 =>
   start0 l2 ((J3 hf).free h2) _ ((J3 hf).trans (J3 h2)) (by rw [J1,flat_zero,hl];rfl)
  rcases hq with hq | hq
  ·refine ⟨_,J2 (Jm (i:=2) scFirst.nd rfl (Or.inl rfl) (pe_op op_rep (J14 (J0 J7 J4)) (Jb J8 (by rfl) T.len boot_len (J0 (pv 0) J4))))
    (J2 (Jm (i:=3) scFirst.nd rfl (Or.inl rfl) J7)
    (J2 (J4s PassesOwn.never rfl (J2i (pv 1)) (J10 (i:=4) scFirst.nd rfl (Or.inl rfl)) (J2 (J40 (pv 3) (pg_sub (pv 2) (pv 4) J2c)) (J6 (Jm (i:=3) scFirst.nd rfl (Or.inl rfl) (pe_op Jv (pv 3) (pe_ix J1z (pv 0) (pv 4) (fun _ _=>rfl)))))))
    (J6 (Ji (Jj J38 (by rfl) T.tuple boot_tuple (J0 (pv 2) J4)))))),?_⟩
   refine ⟨by show 1<=sizeLine;decide,fun fl hf=>⟨_,rfl,p,_,rfl,.inr (SqT.of (J3 hf _ _ hp)),fl,_,[V.int 0],rfl,rfl,J1,by omega,by omega,?_,fun l2 h2=>?_⟩⟩
   ·show 1 * ((iV ls).length:Int).toNat<=sizeLine;have:=Ju (n:=ls.length) (by omega);omega
   ·have p0:=rep fl hf l2 h2;exact ⟨_,rfl,q,rfl,⟨_,SqL.of (((J3 hf).trans (J3 h2)) _ _ hq)⟩,for_list (K:=K) (a:=q) (xs:=nV os) (PvF p q l2 ls os H) p0 (fun i σ H2 _ h9=>by obtain ⟨_,_,_,_,s⟩:=h9;exact SqL.of (s _ _ hq)) (fun i y σ H2 hi pv=>turn l2 i y σ H2 _ hi pv rfl) (fun σ H2 pv=>done l2 σ H2 pv)⟩
  ·refine ⟨_,J2 (Jm (i:=2) scFirst.nd rfl (Or.inl rfl) (pe_op op_rep (J14 (J0 J7 J4)) (Jb J8 (by rfl) T.len boot_len (J0 (pv 0) J4))))
    (J2 (Jm (i:=3) scFirst.nd rfl (Or.inl rfl) J7)
    (J2 (J4s PassesOwn.never rfl (pi_tup (pv 1)) (J10 (i:=4) scFirst.nd rfl (Or.inl rfl)) (J2 (J40 (pv 3) (pg_sub (pv 2) (pv 4) J2c)) (J6 (Jm (i:=3) scFirst.nd rfl (Or.inl rfl) (pe_op Jv (pv 3) (pe_ix J1z (pv 0) (pv 4) (fun _ _=>rfl)))))))
    (J6 (Ji (Jj J38 (by rfl) T.tuple boot_tuple (J0 (pv 2) J4)))))),?_⟩
   refine ⟨by show 1<=sizeLine;decide,fun fl hf=>⟨_,rfl,p,_,rfl,.inr (SqT.of (J3 hf _ _ hp)),fl,_,[V.int 0],rfl,rfl,J1,by omega,by omega,?_,fun l2 h2=>?_⟩⟩
   ·show 1 * ((iV ls).length:Int).toNat<=sizeLine;have:=Ju (n:=ls.length) (by omega);omega
   ·have p0:=rep fl hf l2 h2;exact ⟨_,rfl,q,rfl,⟨_,SqT.of (((J3 hf).trans (J3 h2)) _ _ hq)⟩,for_tup (K:=K) (a:=q) (xs:=nV os) (PvF p q l2 ls os H) p0 (fun i σ H2 _ h9=>by obtain ⟨_,_,_,_,s⟩:=h9;exact SqT.of (s _ _ hq)) (fun i y σ H2 hi pv=>turn l2 i y σ H2 _ hi pv rfl) (fun σ H2 pv=>done l2 σ H2 pv)⟩
end
end R69
namespace R69
open PySem L2 Rl
structure Good (ls:List Int) (os:List Nat):Prop where
 lo:1<=ls.length
 hi:ls.length<=24
 pos:∀ a∈ls,1<=a
 sum:ls.sum<=10 ^ 30
 perm:os.Perm (List.range ls.length)
theorem Good.olen {ls:List Int} {os:List Nat} (g:Good ls os):os.length=ls.length:=by rw [g.perm.length_eq,length_range]
theorem Good.olt {ls:List Int} {os:List Nat} (g:Good ls os):∀ o∈os,o < ls.length:=fun o h=>mem_range.mp (g.perm.mem_iff.mp h)
structure Txt (K:PySem.W.Frag) (mg:Str->Option Value):Prop where
 len:mg "len"=none
 min:mg "min"=none
 sum:mg "sum"=none
 sorted:mg "sorted"=none
 list:mg "list"=none
 range:mg "range"=none
 tuple:mg "tuple"=none
 most:∃ t,mg "MOST_PIECES"=some (.int 24 t)
section
variable {P:Program} {w:World} {K:PySem.W.Frag} {mg:Str->Option Value} {base:Heap}
def spRefL:Sp:=fun vs H Q _=>∃ (p:Addr) (ls:List Int) (os:List Nat),vs=[.ref p]/\SqH H p (iV ls)/\Good ls os/\Q .non H
theorem scRefL:FnScope ["lengths"] ["lengths"] (J9 sRefL):=fS
theorem ok_refL {f:Addr} {fd:FuncData} (F:Fun K "refuse_lengths" "refuse_lengths" sRefL f fd) (T:Txt K mg):FnOk P w K mg base CX0 1 f fd ["lengths"] spRefL:=by
 refine F.ok scRefL (fun vs H Q E h=>?_) (fun cdv A outer s H vs Q E hr h=>?_)
 ·obtain ⟨p,ls,os,rfl,_⟩:=h;rfl
 ·obtain ⟨p,ls,os,rfl,hp,g,k⟩:=h;obtain ⟨t24,h24⟩:=T.most;have g1:=g.lo;have g2:=g.hi;refine ⟨_,J2 (ps_if (Jc op_eq (Jb J8 (by rfl) T.len boot_len (J0 (pv 0) J4)) J7 (Jg _)) (J6 J1j) Jh)
   (J2 (ps_if (Jc op_gt (Jb J8 (by rfl) T.len boot_len (J0 (pv 0) J4)) (J3m (v:=.int 24) rfl h24 ⟨_,rfl⟩) (Jg _)) (J6 J1j) Jh)
   (J2 (ps_if (Jc op_lt (Jb (call_min rfl) (by rfl) T.min boot_min (J0 (pv 0) J4)) J7 (Jg _)) (J6 J1j) Jh)
   (J6 (ps_if (Jc op_gt (Jb (J21 rfl) (by rfl) T.sum boot_sum (J0 (pv 0) J4)) (pe_op J5f J7 J7) (Jg _)) (J6 J1j) Jh)))),?_⟩
  have hl:(iV ls).length=ls.length:=length_map ..;refine ⟨_,rfl,p,_,rfl,hp.sq,rfl,_,rfl,iteD (vint_ne (by rw [hl];omega)) ?_⟩;refine ⟨_,rfl,p,_,rfl,hp.sq,_,_,rfl,rfl,_,rfl,iteD (by rw [hl];omega) ?_⟩;refine ⟨_,rfl,p,ls,rfl,hp.sq,by omega,fun M hM hall=>⟨_,_,rfl,rfl,_,rfl,iteD (by have:=g.pos M hM;omega) ?_⟩⟩;refine ⟨_,rfl,p,ls,rfl,hp.sq,_,_,rfl,rfl,⟨by decide,by decide,by decide⟩,_,_,rfl,rfl,_,rfl,iteD ?_ ?_⟩
  ·have:=g.sum;show ¬ (10:Int) ^ 30 < ls.sum;omega
  ·exact k
def spRefO:Sp:=fun vs H Q _=>∃ (q:Addr) (os:List Nat) (n:Nat),vs=[.ref q,.int n]/\SqH H q (nV os)/\os.Perm (List.range n)/\n<=24/\∀ H',Same H H'->Q .non H'
theorem scRefO:FnScope ["order","pieces"] ["order","pieces"] (J9 sRefO):=fS
theorem ok_refO {f:Addr} {fd:FuncData} (F:Fun K "refuse_order" "refuse_order" sRefO f fd) (T:Txt K mg):FnOk P w K mg base CX0 1 f fd ["order","pieces"] spRefO:=by
 refine F.ok scRefO (fun vs H Q E h=>?_) (fun cdv A outer s H vs Q E hr h=>?_)
 ·obtain ⟨q,os,n,rfl,_⟩:=h;rfl
 ·obtain ⟨q,os,n,rfl,hq,hp,hn,k⟩:=h;have hu:=hr.units0;refine ⟨_,J6 (ps_if (Jc (op_neL hu) (Jb call_sorted (by rfl) T.sorted PyProof.Rows.boot_sorted (J0 (pv 0) J4))
   (Jj (J2l rfl) (by rfl) T.list boot_list (J0 (Jj call_rng (by rfl) T.range PyProof.Rows.boot_range (J0 (pv 1) J4)) J4)) (Jg _)) (J6 J1j) Jh),?_⟩
  have ho:(natI os).length < 64:=by
   unfold natI;rw [length_map,hp.length_eq,length_range];omega
  refine ⟨_,rfl,q,natI os,rfl,hq.sq,ho,fun l ns' hl h1 h2=>?_⟩;refine ⟨_,rfl,(n:Int),rfl,fun r hr'=>⟨r,n,rfl,J1,by omega,fun l2 hl2=>?_⟩⟩;have e:=J55 hp h1 h2;have n1:l≠r:=Ja (H:=upd H l (.lst (ns'.map V.int))) J1 hr';have s1:Same (upd H l (.lst (ns'.map V.int))) (upd (upd (upd H l (.lst (ns'.map V.int))) r (.rng 0 n)) l2 (.lst (((List.range n).map fun (i:Nat)=>(i:Int)).map V.int))):=(J3 hr').trans (J3 hl2);refine ⟨l,l2,_,_,rfl,rfl,SqL.of (s1 _ _ J1),SqL.of J1,Kin.ints _ _,_,rfl,iteNS (by rw [e];rfl) ?_⟩;exact k _ ((J3 hl).trans s1)
def spRefT:Sp:=fun vs H Q _=>∃ (q:Addr) (xs:List V) (n:Nat),vs=[.ref q,.int n]/\SqH H q xs/\xs.length=n/\Q .non H
theorem scRefT:FnScope ["turned","pieces"] ["turned","pieces"] (J9 sRefT):=fS
theorem ok_refT {f:Addr} {fd:FuncData} (F:Fun K "refuse_turned" "refuse_turned" sRefT f fd) (T:Txt K mg):FnOk P w K mg base CX0 1 f fd ["turned","pieces"] spRefT:=by
 refine F.ok scRefT (fun vs H Q E h=>?_) (fun cdv A outer s H vs Q E hr h=>?_)
 ·obtain ⟨q,xs,n,rfl,_⟩:=h;rfl
 ·obtain ⟨q,xs,n,rfl,hq,hn,k⟩:=h;refine ⟨_,J6 (ps_if (Jc op_ne (Jb J8 (by rfl) T.len boot_len (J0 (pv 0) J4)) (pv 1) (Jg _)) (J6 J1j) Jh),?_⟩;refine ⟨_,rfl,q,_,rfl,hq.sq,_,rfl,rfl,_,rfl,iteNS (by rw [hn]) ?_⟩;exact k
def TurnsOf (H:Hp) (tv:V) (n:Nat) (ts:List Bool):Prop:=ts.length=n/\((tv=.non/\ts=List.replicate n false)\/∃ t,tv=.ref t/\SqH H t (bV ts))
theorem TurnsOf.same {H H':Hp} {tv:V} {n:Nat} {ts:List Bool} (h:TurnsOf H tv n ts) (s:Same H H'):TurnsOf H' tv n ts:=⟨h.1,h.2.elim .inl fun h9=>by obtain ⟨t,e,q⟩:=h9;exact .inr ⟨t,e,q.same s⟩⟩
def spTold:Sp:=fun vs H Q _=>∃ (tv:V) (n:Nat) (ts:List Bool),vs=[tv,.int n]/\1<=n/\n<=24/\TurnsOf H tv n ts/\∀ p H',Same H H'->H' p=some (.tup (bV ts))->Q (.ref p) H'
theorem scTold:FnScope ["turned","pieces"] ["turned","pieces"] (J9 sTold):=fS
theorem ok_told {f fT:Addr} {fd fdT:FuncData} (F:Fun K "turns_told" "turns_told" sTold f fd) (T:Txt K mg) (FT:Fun K "refuse_turned" "refuse_turned" sRefT fT fdT) (bT:Binds K fdT ["turned","pieces"] []) (mT:mg "refuse_turned"=some (.ref fT)):FnOk P w K mg base CX0 2 f fd ["turned","pieces"] spTold:=by
 have GT:FnOk P w K mg base CX0 1 fT fdT ["turned","pieces"] spRefT:=ok_refT FT T;refine F.ok scTold (fun vs H Q E h=>?_) (fun cdv A outer s H vs Q E hr h=>?_)
 ·obtain ⟨tv,n,ts,rfl,_⟩:=h;rfl
 ·obtain ⟨tv,n,ts,rfl,h1,h2,⟨ht,h3⟩,k⟩:=h;refine ⟨_,J2 (ps_if (pt_cmp (pc_isN (pv 0))) (J6 (Ji (pe_op op_repT (J1w (J0 pe_bl J4)) (pv 1)))) Jh)
   (J2 (J1o (Jk GT hr rfl mT FT.kp bT .nil pass0 (J0 (pv 0) (J0 (pv 1) J4))))
   (J6 (Ji (Jj J38 (by rfl) T.tuple boot_tuple (J0 (pv 0) J4))))),?_⟩
  rcases h3 with ⟨rfl,rfl⟩ | ⟨t,rfl,hq⟩
  ·refine ⟨_,rfl,_,rfl,iteDT rfl ?_⟩;refine ⟨by show 1<=sizeLine;decide,fun p hp=>⟨_,rfl,p,(n:Int),[V.bl false],rfl,rfl,J1,by simp,by omega,by omega,?_,fun e=>?_,fun hk p2 hp2=>?_⟩⟩
   ·show 1 * (n:Int).toNat<=sizeLine;have:=Ju (n:=n) (by omega);omega
   ·have en:n=1:=by omega
    subst en;exact k p _ (J3 hp) J1
   ·refine k p2 _ ((J3 hp).trans (J3 hp2)) ?_;rw [J1,<- flat_false];rfl
  ·refine ⟨_,rfl,_,rfl,iteD (by intro e;cases e) ?_⟩;refine ⟨_,rfl,_,rfl,t,bV ts,n,rfl,hq,by rw [length_map];exact ht,?_⟩;exact ⟨_,rfl,J3y hq k⟩
def tCut (t:TS):TS:=fun D σ H=>∃ post:St->Hp->Prop,t { D with nx:=post } σ H/\∀ σ' H',post σ' H'->D.nx σ' H'
theorem J3e {X:Cx} {st:Stmt} {t:TS} (h:PS X st t):PS X st (tCut t):=by
 intro pins s σ H D I ⟨post,q,m⟩;refine thn (h pins s σ H _ I q) fun f s' z=>?_
 cases f with
 | next=>obtain ⟨σ',H',I',z⟩:=z;exact ⟨σ',H',I',m σ' H' z⟩
 | brk=>exact z
 | cont=>exact z
 | ret u=>exact z
structure LineAt (C:Addr) (H:Hp) (x:Addr) (ls:List Int) (os:List Nat) (ts:List Bool):Prop where
 ex:∃ (dx:Addr) (fs:List (Str × V)) (pl po pt ps pd:Addr),H x=some (.ins C dx fs)/\(fs.lookup ("lengths":Str)=some (.ref pl)/\fs.lookup ("order":Str)=some (.ref po)/\fs.lookup ("turned":Str)=some (.ref pt)/\
  fs.lookup ("starts":Str)=some (.ref ps)/\fs.lookup ("laid":Str)=some (.ref pd)/\fs.lookup ("size":Str)=some (.int ls.sum))/\
  H pl=some (.tup (iV ls))/\H po=some (.tup (nV os))/\H pt=some (.tup (bV ts))/\H ps=some (.tup (iV (firsts ls (List.range ls.length))))/\H pd=some (.tup (iV (firsts ls os)))
theorem LineAt.same {C:Addr} {H H':Hp} {x:Addr} {ls:List Int} {os:List Nat} {ts:List Bool} (h:LineAt C H x ls os ts) (s:Same H H'):LineAt C H' x ls os ts:=by
 obtain ⟨dx,fs,pl,po,pt,ps,pd,h0,hl,h1,h2,h3,h4,h5⟩:=h.ex;exact ⟨dx,fs,pl,po,pt,ps,pd,s _ _ h0,hl,s _ _ h1,s _ _ h2,s _ _ h3,s _ _ h4,s _ _ h5⟩
structure TxtC (K:PySem.W.Frag) (mg:Str->Option Value) (C:Addr):Prop where
 cl:Cls K C
 nL:NoAttr K C "lengths"
 nO:NoAttr K C "order"
 nT:NoAttr K C "turned"
 nS:NoAttr K C "starts"
 nD:NoAttr K C "laid"
 nZ:NoAttr K C "size"
structure FunD (K:PySem.W.Frag) (x qual:Str) (st:Stmt) (f:Addr) (fd:FuncData) (TD:Addr):Prop where
 ex:∃ (oc:Value) (od:Option Addr) (kV doc pm:Value) (an:Option Addr) (cdv ct:Value) (osl:Array (Option Value)),
  fd=fnOf x qual (J1q st) (J19 st) (J9 st) (.ref TD) kV doc pm an cdv ct/\K.lookup f=some ⟨oc,od,.func fd,osl⟩/\codeIn K cdv qual=true
 kp:keepIn K (.ref f)=true
theorem FunD.ok {x qual:Str} {st:Stmt} {f TD:Addr} {fd:FuncData} {N ps:List Str} {k:Nat} {sp:Sp} (F:FunD K x qual st f fd TD) (S:FnScope N ps (J9 st)) (len:∀ vs H Q E,sp vs H Q E->vs.length=ps.length)
  (hbody:∀ (cdv:Value) (A:Around) (outer:List Env) (s:Shared) (H:Hp) (vs:List V) (Q:VK) (E:XK),Room k (A.deeper (PyProof.Rows.envOfC qual (J9 st) s.heap.objs.size f cdv))->sp vs H Q E->
   ∃ t,PSs (cxOf CX0 P w K mg base N qual (J9 st) f cdv A outer s H E).nox (J19 st) t/\t { nx:=fun _ H'=>Q .non H',rt:=Q } (start N vs) H):FnOk P w K mg base CX0 (k + 1) f fd ps sp:=by
 obtain ⟨oc,od,kV,doc,pm,an,cdv,ct,osl,rfl,lk,hcd⟩:=F.ex;refine fn_of lk hcd S len fun A outer s H vs Q E hr hsp=>?_;obtain ⟨t,h,q⟩:=hbody cdv A outer s H vs Q E hr hsp;exact ⟨t,h.nox,q⟩
def J54 (C:Addr):Sp:=fun vs H Q _=>∃ (x dx p q:Addr) (tv:V) (ls:List Int) (os:List Nat) (ts:List Bool),vs=[.ref x,.ref p,.ref q,tv]/\H x=some (.ins C dx [])/\SqH H p (iV ls)/\SqH H q (nV os)/\Good ls os/\TurnsOf H tv ls.length ts/\
 ∀ H',LineAt C H' x ls os ts->(∀ b o,H b=some o->b≠x->H' b=some o)->Q .non H'
theorem scInit:FnScope ["self","lengths","order","turned"] ["self","lengths","order","turned"] (J9 sInit):=fS
theorem ok_init {f fL fO fT fF TD C:Addr} {fd fdL fdO fdT fdF:FuncData} (F:FunD K "__init__" "Line.__init__" sInit f fd TD) (T:Txt K mg) (TC:TxtC K mg C)
  (GL:FnOk P w K mg base CX0 1 fL fdL ["lengths"] spRefL) (bL:Binds K fdL ["lengths"] []) (mL:mg "refuse_lengths"=some (.ref fL)) (kL:keepIn K (.ref fL)=true)
  (GO:FnOk P w K mg base CX0 1 fO fdO ["order","pieces"] spRefO) (bO:Binds K fdO ["order","pieces"] []) (mO:mg "refuse_order"=some (.ref fO)) (kO:keepIn K (.ref fO)=true)
  (GT:FnOk P w K mg base CX0 2 fT fdT ["turned","pieces"] spTold) (bT:Binds K fdT ["turned","pieces"] []) (mT:mg "turns_told"=some (.ref fT)) (kT:keepIn K (.ref fT)=true)
  (GF:FnOk P w K mg base CX0 1 fF fdF ["lengths","order"] spFirst) (bF:Binds K fdF ["lengths","order"] []) (mF:mg "first_places"=some (.ref fF)) (kF:keepIn K (.ref fF)=true) :
  FnOk P w K mg base CX0 3 f fd ["self","lengths","order","turned"] (J54 C):=by
 refine F.ok scInit (fun vs H Q E h=>?_) (fun cdv A outer s H vs Q E hr h=>?_)
 ·obtain ⟨x,dx,p,q,tv,ls,os,ts,rfl,_⟩:=h;rfl
 ·obtain ⟨x,dx,p,q,tv,ls,os,ts,rfl,hx,hp,hq,g,ht,k⟩:=h;have hr1:Room 1 _:=rm hr;have g1:=g.lo;have g2:=g.hi;have npx:=hp.ne hx;have nqx:=hq.ne hx;refine ⟨_,J2 (J1o (Jk GL hr1 rfl mL kL bL .nil pass0 (J0 (pv 1) J4)))
   (J2 (J1o (Jk GO hr1 rfl mO kO bO .nil pass0 (J0 (pv 2) (J0 (Jb J8 (by rfl) T.len boot_len (J0 (pv 1) J4)) J4))))
   (J2 (J3z (pv 0) (Jk GT hr rfl mT kT bT .nil pass0 (J0 (pv 3) (J0 (Jb J8 (by rfl) T.len boot_len (J0 (pv 1) J4)) J4))) rfl)
   (J2 (J3z (pv 0) (Jj J38 (by rfl) T.tuple boot_tuple (J0 (pv 1) J4)) rfl)
   (J2 (J3z (pv 0) (Jj J38 (by rfl) T.tuple boot_tuple (J0 (pv 2) J4)) rfl)
   (J2 (J3z (pv 0) (Jk GF hr1 rfl mF kF bF .nil pass0 (J0 (Jq (pv 0) rfl) (J0 (Jj (J2l rfl) (by rfl) T.list boot_list (J0 (Jj call_rng (by rfl) T.range PyProof.Rows.boot_range (J0 (Jb J8 (by rfl) T.len boot_len (J0 (pv 1) J4)) J4)) J4)) J4))) rfl)
   (J2 (J3z (pv 0) (Jk GF hr1 rfl mF kF bF .nil pass0 (J0 (Jq (pv 0) rfl) (J0 (Jq (pv 0) rfl) J4))) rfl)
   (J6 (J3z (pv 0) (Jb (J21 rfl) (by rfl) T.sum boot_sum (J0 (Jq (pv 0) rfl) J4)) rfl)))))))),?_⟩
  refine ⟨_,rfl,p,ls,os,rfl,hp,g,?_⟩;refine ⟨_,rfl,_,rfl,p,_,rfl,hp.sq,q,os,ls.length,(by rw [len_iV];rfl),hq,g.perm,g2,fun H1 s1=>?_⟩;refine ⟨_,rfl,_,rfl,p,_,rfl,(hp.same s1).sq,tv,ls.length,ts,(by rw [len_iV];rfl),g1,g2,ht.same s1,fun pt H2 s2 hpt=>?_⟩;have s12:=s1.trans s2;refine ⟨_,rfl,x,C,dx,[],rfl,s12 _ _ hx,TC.cl,TC.nT,(by show 0 < 1000;decide),?_⟩;generalize hfs1:putF ("turned":Str) (.ref pt) []=fs1;generalize hH3:upd H2 x (.ins C dx fs1)=H3;have l1:fs1.length<=1:=by rw [<- hfs1];exact J12 ..
  have k3:KeepX x H H3:=by rw [<- hH3];exact (KeepX.of s12).trans KeepX.upd
  have hx3:H3 x=some (.ins C dx fs1):=by rw [<- hH3];exact J1
  have ptx:pt≠x:=ne_of hpt (s12 _ _ hx) (by intro z;cases z);have hpt3:H3 pt=some (.tup (bV ts)):=by rw [<- hH3,Je ptx];exact hpt
  refine ⟨_,rfl,J3y (k3.sqH hp npx) fun pl H4 s4 hpl=>⟨_,rfl,x,C,dx,fs1,rfl,s4 _ _ hx3,TC.cl,TC.nL,(by omega),?_⟩⟩;generalize hfs2:putF ("lengths":Str) (.ref pl) fs1=fs2;generalize hH5:upd H4 x (.ins C dx fs2)=H5;have l2:fs2.length<=2:=by rw [<- hfs2];have:=J12 ("lengths":Str) (.ref pl) fs1;omega
  have k35:KeepX x H3 H5:=by rw [<- hH5];exact (KeepX.of s4).trans KeepX.upd
  have k5:KeepX x H H5:=k3.trans k35;have hx5:H5 x=some (.ins C dx fs2):=by rw [<- hH5];exact J1
  have plx:pl≠x:=ne_of hpl (s4 _ _ hx3) (by intro z;cases z);have hpl5:H5 pl=some (.tup (iV ls)):=by rw [<- hH5,Je plx];exact hpl
  refine ⟨_,rfl,J3y (k5.sqH hq nqx) fun po H6 s6 hpo=>⟨_,rfl,x,C,dx,fs2,rfl,s6 _ _ hx5,TC.cl,TC.nO,(by omega),?_⟩⟩;generalize hfs3:putF ("order":Str) (.ref po) fs2=fs3;generalize hH7:upd H6 x (.ins C dx fs3)=H7;have l3:fs3.length<=3:=by rw [<- hfs3];have:=J12 ("order":Str) (.ref po) fs2;omega
  have k57:KeepX x H5 H7:=by rw [<- hH7];exact (KeepX.of s6).trans KeepX.upd
  have k7:KeepX x H H7:=k5.trans k57;have hx7:H7 x=some (.ins C dx fs3):=by rw [<- hH7];exact J1
  have pox:po≠x:=ne_of hpo (s6 _ _ hx5) (by intro z;cases z);have hpo7:H7 po=some (.tup (nV os)):=by rw [<- hH7,Je pox];exact hpo
  have hpl7:H7 pl=some (.tup (iV ls)):=k57 _ _ hpl5 plx;have lkL:fs3.lookup ("lengths":Str)=some (.ref pl):=by rw [<- hfs3,lk_ne (by decide +kernel),<- hfs2,J3n]
  have lkO:fs3.lookup ("order":Str)=some (.ref po):=by rw [<- hfs3,J3n]
  have lkT:fs3.lookup ("turned":Str)=some (.ref pt):=by rw [<- hfs3,lk_ne (by decide +kernel),<- hfs2,lk_ne (by decide +kernel),<- hfs1,J3n]
  refine ⟨_,rfl,x,C,dx,fs3,_,rfl,hx7,TC.cl,TC.nL,lkL,_,rfl,p,_,rfl,(k7.sqH hp npx).sq,_,rfl,fun r hr'=>⟨r,_,rfl,J1,(by rw [len_iV];omega),fun l hl=>?_⟩⟩;have s8:Same H7 (upd (upd H7 r (.rng 0 ((iV ls).length:Nat))) l (.lst (((List.range (iV ls).length).map fun (i:Nat)=>(i:Int)).map V.int))):=(J3 hr').trans (J3 hl);refine ⟨pl,l,ls,List.range ls.length,rfl,s8 _ _ hpl7,.inl (by rw [J1,len_iV];rfl),fun o ho=>mem_range.mp ho,g2,fun ps H9 s9 hps=>?_⟩;have s79:=s8.trans s9;refine ⟨_,rfl,x,C,dx,fs3,rfl,s79 _ _ hx7,TC.cl,TC.nS,(by omega),?_⟩;generalize hfs4:putF ("starts":Str) (.ref ps) fs3=fs4;generalize hHa:upd H9 x (.ins C dx fs4)=Ha;have l4:fs4.length<=4:=by rw [<- hfs4];have:=J12 ("starts":Str) (.ref ps) fs3;omega
  have k7a:KeepX x H7 Ha:=by rw [<- hHa];exact (KeepX.of s79).trans KeepX.upd
  have hxa:Ha x=some (.ins C dx fs4):=by rw [<- hHa];exact J1
  have psx:ps≠x:=ne_of hps (s79 _ _ hx7) (by intro z;cases z);have hpsa:Ha ps=some (.tup (iV (firsts ls (List.range ls.length)))):=by rw [<- hHa,Je psx];exact hps
  have hpla:=k7a _ _ hpl7 plx;have hpoa:=k7a _ _ hpo7 pox;have lkL4:fs4.lookup ("lengths":Str)=some (.ref pl):=by rw [<- hfs4,lk_ne (by decide +kernel),lkL]
  have lkO4:fs4.lookup ("order":Str)=some (.ref po):=by rw [<- hfs4,lk_ne (by decide +kernel),lkO]
  have lkT4:fs4.lookup ("turned":Str)=some (.ref pt):=by rw [<- hfs4,lk_ne (by decide +kernel),lkT]
  have lkS4:fs4.lookup ("starts":Str)=some (.ref ps):=by rw [<- hfs4,J3n]
  refine ⟨_,rfl,x,C,dx,fs4,_,rfl,hxa,TC.cl,TC.nL,lkL4,_,rfl,x,C,dx,fs4,_,rfl,hxa,TC.cl,TC.nO,lkO4,pl,po,ls,os,rfl,hpla,.inr hpoa,g.olt,g2,fun pd Hb sb hpd=>?_⟩;refine ⟨_,rfl,x,C,dx,fs4,rfl,sb _ _ hxa,TC.cl,TC.nD,(by omega),?_⟩;generalize hfs5:putF ("laid":Str) (.ref pd) fs4=fs5;generalize hHc:upd Hb x (.ins C dx fs5)=Hc;have l5:fs5.length<=5:=by rw [<- hfs5];have:=J12 ("laid":Str) (.ref pd) fs4;omega
  have kac:KeepX x Ha Hc:=by rw [<- hHc];exact (KeepX.of sb).trans KeepX.upd
  have hxc:Hc x=some (.ins C dx fs5):=by rw [<- hHc];exact J1
  have pdx:pd≠x:=ne_of hpd (sb _ _ hxa) (by intro z;cases z);have hpdc:Hc pd=some (.tup (iV (firsts ls os))):=by rw [<- hHc,Je pdx];exact hpd
  have lkL5:fs5.lookup ("lengths":Str)=some (.ref pl):=by rw [<- hfs5,lk_ne (by decide +kernel),lkL4]
  refine ⟨_,rfl,x,C,dx,fs5,_,rfl,hxc,TC.cl,TC.nL,lkL5,pl,ls,rfl,.inr (SqT.of (kac _ _ hpla plx)),_,rfl,x,C,dx,fs5,rfl,hxc,TC.cl,TC.nZ,(by omega),?_⟩;have kz:KeepX x Hc (upd Hc x (.ins C dx (putF ("size":Str) (.int ls.sum) fs5))):=KeepX.upd;refine k _ ⟨dx,_,pl,po,pt,ps,pd,J1,⟨?_,?_,?_,?_,?_,J3n⟩,kz _ _ (kac _ _ hpla plx) plx,kz _ _ (kac _ _ hpoa pox) pox,kz _ _ (kac _ _ (k7a _ _ (k57 _ _ (k35 _ _ hpt3 ptx) ptx) ptx) ptx) ptx,kz _ _ (kac _ _ hpsa psx) psx,kz _ _ hpdc pdx⟩ (k7.trans (k7a.trans (kac.trans kz)))
  ·rw [lk_ne (by decide +kernel),lkL5]
  ·rw [lk_ne (by decide +kernel),<- hfs5,lk_ne (by decide +kernel),lkO4]
  ·rw [lk_ne (by decide +kernel),<- hfs5,lk_ne (by decide +kernel),lkT4]
  ·rw [lk_ne (by decide +kernel),<- hfs5,lk_ne (by decide +kernel),lkS4]
  ·rw [lk_ne (by decide +kernel),<- hfs5,J3n]
end
theorem Good.ord {ls:List Int} {os:List Nat} (g:Good ls os):Ord ls os:=⟨g.pos,g.perm⟩
theorem Good.pos_sum {ls:List Int} {os:List Nat} (g:Good ls os):0 < ls.sum:=by
 have h:=g.ord.range.mono (i:=0) (k:=ls.length) (Nat.zero_le _) (Nat.le_refl _);have h1:J15 ls (List.range ls.length) 0 < J15 ls (List.range ls.length) 1:=g.ord.range.step (i:=0) g.lo;have h2:=g.ord.range.mono (i:=1) (k:=ls.length) g.lo (Nat.le_refl _);rw [g.ord.range.whole] at h2;rw [J17] at h1;omega
end R69
namespace R69
open PySem L2 Rl
section
variable {P:Program} {w:World} {K:PySem.W.Frag} {mg:Str->Option Value} {base:Heap}
def numS (i:Int):Str:=Str.ofString (toString i)
theorem Jx {i:Int} (h:i.natAbs < 10 ^ 40):(numS i).length<=41:=by
 unfold numS;rw [ofString_length];exact int_text_length_le10 (by decide) h
theorem J1b {i:Int} (h:i.natAbs < 10 ^ 40):i.natAbs.log2 < 1920:=by
 by_cases hz:i.natAbs=0
 ·rw [hz];decide
 ·refine (Nat.log2_lt hz).mpr (Nat.lt_trans h ?_);decide +kernel
def wordS (ts:List Bool) (o:Nat):Str:=if ts.getD o false=true then numS o ++ Str.ofString "-" else numS o
theorem wordS_len (ts:List Bool) {o:Nat} (h:o < 24):(wordS ts o).length<=42:=by
 have h1:=Jx (i:=(o:Int)) (by omega);unfold wordS;split
 ·rw [strLen_append];have:(Str.ofString "-").length=1:=by decide +kernel
  omega
 ·omega
theorem J22 {B:Nat}:∀ {ys:List Str},(∀ y∈ys,y.length<=B)->(ys.map (·.length)).sum<=ys.length * B
 | [],_=>Nat.zero_le _
 | y :: ys,h=>by
  have h1:=h y (mem_cons_self ..);have h2:=J22 (ys:=ys) fun z hz=>h z (mem_cons_of_mem _ hz);rw [map_cons,sum_cons,length_cons,Nat.succ_mul];omega
theorem J1y {B:Nat} {sep:Str} {ys:List Str} (h:∀ y∈ys,y.length<=B):(Txt.join sep ys).length<=ys.length * B + ys.length * sep.length:=by
 show (Builtin.Str.glued sep ys).length<=_;rw [StrLaws.glued_eq_join];exact Nat.le_trans (StrLaws.join_length_le sep ys) (Nat.add_le_add_right (J22 h) _)
theorem J1s:∀ {ls:List Int},(∀ a∈ls,0<=a)->0<=ls.sum
 | [],_=>Int.le_refl _
 | b :: ls,h=>by
  have h1:=h b (mem_cons_self ..);have h2:=J1s (ls:=ls) fun a ha=>h a (mem_cons_of_mem _ ha);rw [sum_cons];omega
theorem J30:∀ {ls:List Int},(∀ a∈ls,0<=a)->∀ {l:Int},l∈ls->l<=ls.sum
 | b :: ls,h,l,hl=>by
  have h1:=h b (mem_cons_self ..);have h3:0<=ls.sum:=J1s fun a ha=>h a (mem_cons_of_mem _ ha);rw [sum_cons];rcases mem_cons.mp hl with rfl | hl
  ·omega
  ·have h2:=J30 (ls:=ls) (fun a ha=>h a (mem_cons_of_mem _ ha)) hl;omega
theorem J33 {ls:List Int} {os:List Nat} (g:Good ls os):∀ l∈ls,l.natAbs < 10 ^ 40:=fun l hl=>by
 have h1:=g.pos l hl;have h2:l<=ls.sum:=J30 (fun a ha=>by have:=g.pos a ha;omega) hl;have h3:=g.sum;have:(10:Int) ^ 30 < 10 ^ 40:=by decide
 omega
def spWord7 (C:Addr):Sp:=fun vs H Q _=>∃ (x:Addr) (ls:List Int) (os:List Nat) (ts:List Bool) (o:Nat),vs=[.ref x,.int (o:Nat)]/\LineAt C H x ls os ts/\o < ts.length/\o < 24/\Q (.str (wordS ts o)) H
theorem scWord7:FnScope ["line","piece"] ["line","piece"] (J9 sWord):=fS
theorem ok_word7 {f C:Addr} {fd:FuncData} (F:Fun K "laid_word" "laid_word" sWord f fd) (TC:TxtC K mg C) (hstr:mg "str"=none):FnOk P w K mg base CX0 1 f fd ["line","piece"] (spWord7 C):=by
 refine F.ok scWord7 (fun vs H Q E h=>?_) (fun cdv A outer s H vs Q E hr h=>?_)
 ·obtain ⟨x,ls,os,ts,o,rfl,_⟩:=h;rfl
 ·obtain ⟨x,ls,os,ts,o,rfl,L,ho,ho2,k⟩:=h;obtain ⟨dx,fs,pl,po,pt,ps,pd,h0,⟨k1,k2,k3,k4,k5,k6⟩,e1,e2,e3,e4,e5⟩:=L.ex;refine ⟨_,J6 (Ji (J2y (J3d (pe_ix J1z (Jq (pv 0) rfl) (pv 1) (fun _ _=>rfl)))
   (pe_op Jp (Jj Jr (by rfl) hstr boot_str (J0 (pv 1) J4)) Jn)
   (Jj Jr (by rfl) hstr boot_str (J0 (pv 1) J4)))),?_⟩
  refine ⟨_,rfl,x,C,dx,fs,_,rfl,h0,TC.cl,TC.nT,k3,_,rfl,pt,_,_,_,rfl,rfl,SqT.of e3,Jd (J5r ho),_,rfl,?_⟩;have hs:((o:Nat):Int).natAbs.log2 < 1920:=J1b (by omega);have hl:=Jx (i:=(o:Int)) (by omega);have h1:(Str.ofString "-").length=1:=by decide +kernel
  unfold wordS at k;by_cases c:ts.getD o false=true
  ·rw [if_pos c] at k;exact iteBT c ⟨_,rfl,_,rfl,hs,_,_,rfl,rfl,(by show (numS o).length + (Str.ofString "-").length<=sizeLine;rw [h1,sizeLine_eq];omega),k⟩
  ·rw [if_neg c] at k;exact iteBF c ⟨_,rfl,_,rfl,hs,k⟩
def rowL (ls:List Int):Str:=Txt.join (Str.ofString " ") (Str.ofString "pieces" :: ls.map numS)
def rowO (os:List Nat) (ts:List Bool):Str:=Txt.join (Str.ofString " ") (Str.ofString "laid" :: os.map (wordS ts))
def textS (ls:List Int) (os:List Nat) (ts:List Bool):Str:=Str.empty ++ rowL ls ++ Str.ofString "\n" ++ rowO os ts ++ Str.ofString "\n"
def spWritten (C:Addr):Sp:=fun vs H Q _=>∃ (x:Addr) (ls:List Int) (os:List Nat) (ts:List Bool),vs=[.ref x]/\LineAt C H x ls os ts/\Good ls os/\ts.length=ls.length/\∀ H',Same H H'->Q (.str (textS ls os ts)) H'
theorem scWritten:FnScope ["line","lengths","laid"] ["line"] (J9 J59):=fS
theorem ok_written {f fW C:Addr} {fd fdW:FuncData} (F:Fun K "written" "written" J59 f fd) (TC:TxtC K mg C) (hstr:mg "str"=none)
  (GW:FnOk P w K mg base CX0 1 fW fdW ["line","piece"] (spWord7 C)) (bW:Binds K fdW ["line","piece"] []) (mW:mg "laid_word"=some (.ref fW)) (kW:keepIn K (.ref fW)=true) :
  FnOk P w K mg base CX0 2 f fd ["line"] (spWritten C):=by
 refine F.ok scWritten (fun vs H Q E h=>?_) (fun cdv A outer s H vs Q E hr h=>?_)
 ·obtain ⟨x,ls,os,ts,rfl,_⟩:=h;rfl
 ·obtain ⟨x,ls,os,ts,rfl,L,g,ht,k⟩:=h;obtain ⟨dx,fs,pl,po,pt,ps,pd,h0,⟨k1,k2,k3,k4,k5,k6⟩,e1,e2,e3,e4,e5⟩:=L.ex;have c1:(Str.ofString " ").length=1:=by decide +kernel
  have c2:(Str.ofString "pieces").length=6:=by decide +kernel
  have c3:(Str.ofString "laid").length=4:=by decide +kernel
  have c4:(Str.ofString "\n").length=1:=by decide +kernel
  have hlo:=g.lo;have hhi:=g.hi;refine ⟨_,J2 (Jm (i:=1) scWritten.nd rfl (Or.inl rfl) (pe_bm PySem.F.plainAttrs_str PySem.F.slot_str_join PySem.F.type_str_join mt_join Jn (J0 (pe_op J27 (J14 (J0 Jn J4))
    (pe_lc (caps:=[]) (js:=[]) rfl (pi_tup (Jq (pv 0) rfl)) rfl (fun _ _ _ _=>J1l) (fun C fp s H=>Jj Jr (by rfl) hstr boot_str (J0 (pv 0) J4)) (by decide +kernel) (by decide +kernel) (by decide +kernel) (by intro p hp;cases hp))) J4)))
   (J2 (Jm (i:=2) scWritten.nd rfl (Or.inl rfl) (pe_bm PySem.F.plainAttrs_str PySem.F.slot_str_join PySem.F.type_str_join mt_join Jn (J0 (pe_op J27 (J14 (J0 Jn J4))
    (pe_lc (caps:=["line"]) (js:=[0]) rfl (pi_tup (Jq (pv 0) rfl)) rfl (fun _ _ _ _=>J1l) (fun C fp s H=>Jk GW hr rfl mW kW bW .nil pass0 (J0 (pv 1) (J0 (pv 0) J4))) (by decide +kernel) (by decide +kernel) (by decide +kernel) (by intro p hp;simp only [mem_cons,not_mem_nil,or_false] at hp;rcases hp with rfl;rfl))) J4)))
   (J6 (Ji (pe_fs (pv 1) (pv 2) (by rw [c4];decide))))),?_⟩
  have mL:∀ y∈ls.map numS,y.length<=41:=fun y hy=>by
   obtain ⟨l,hl,rfl⟩:=mem_map.mp hy;exact Jx (J33 g l hl)
  have nL:(ls.map numS).length<=24:=by rw [length_map];exact hhi
  have mO:∀ y∈os.map (wordS ts),y.length<=42:=fun y hy=>by
   obtain ⟨o,ho,rfl⟩:=mem_map.mp hy;exact wordS_len ts (by have:=g.olt o ho;omega)
  have nO:(os.map (wordS ts)).length<=24:=by rw [length_map,g.olen];exact hhi
  refine ⟨rfl,(by show 1<=sizeLine;rw [sizeLine_eq];decide),fun b0 hb0=>?_⟩;have s1:=J3 (o:=.lst [.str (Str.ofString "pieces")]) hb0;refine ⟨_,rfl,x,C,dx,fs,_,rfl,s1 _ _ h0,TC.cl,TC.nL,k1,pl,rfl,⟨_,SqT.of (s1 _ _ e1)⟩,fun d1 hd1=>lc_tup V.int ls (fun _=>true) (fun l=>V.str (numS l)) (SqT.of (s1 _ _ e1)) (by omega) hd1 (fun _ _ H _ _ q=>q H (Same.refl _)) (fun l hl H2 Qe _ s2 q=>?_) (fun H2 s2 hd2=>?_)⟩
  ·exact ⟨_,rfl,l,rfl,J1b (J33 g l hl),q H2 (Same.refl _)⟩
  rw [Jt] at hd2;have hd2':H2 d1=some (.lst ((ls.map numS).map V.str)):=by rw [hd2,map_map];rfl
  refine ⟨b0,d1,_,_,rfl,rfl,s2 _ _ J1,hd2',(by rw [length_map,sizeLine_eq];show 1 + _<=_;omega),fun b1 hb1=>?_⟩;refine ⟨Str.ofString " ",b1,Str.ofString "pieces" :: ls.map numS,rfl,rfl,J1,by omega,?_,?_⟩
  ·have:=J22 mL;rw [map_cons,sum_cons,length_cons,c2];have:(ls.map numS).length * 41<=24 * 41:=Nat.mul_le_mul_right _ nL;omega
  have s3:=(s1.trans s2).trans (J3 (o:=.lst ([.str (Str.ofString "pieces")] ++ (ls.map numS).map V.str)) hb1);generalize upd H2 b1 (.lst ([.str (Str.ofString "pieces")] ++ (ls.map numS).map V.str))=H3 at s3;refine ⟨rfl,(by show 1<=sizeLine;rw [sizeLine_eq];decide),fun b2 hb2=>?_⟩;have s4:=s3.trans (J3 (o:=.lst [.str (Str.ofString "laid")]) hb2);refine ⟨_,rfl,x,C,dx,fs,_,rfl,s4 _ _ h0,TC.cl,TC.nO,k2,po,rfl,⟨_,SqT.of (s4 _ _ e2)⟩,fun d3 hd3=>lc_tup (fun o:Nat=>V.int (o:Int)) os (fun _=>true) (fun o=>V.str (wordS ts o)) (by rw [<- nV_eq];exact SqT.of (s4 _ _ e2)) (by rw [g.olen];omega) hd3 (fun _ _ H _ _ q=>q H (Same.refl _)) (fun o ho H5 Qe _ s5 q=>?_) (fun H5 s5 hd5=>?_)⟩
  ·have hlt:=g.olt o ho;exact ⟨_,rfl,_,rfl,x,ls,os,ts,o,rfl,(L.same s4).same s5,by omega,by omega,q H5 (Same.refl _)⟩
  rw [Jt] at hd5;have hd5':H5 d3=some (.lst ((os.map (wordS ts)).map V.str)):=by rw [hd5,map_map];rfl
  refine ⟨b2,d3,_,_,rfl,rfl,s5 _ _ J1,hd5',(by rw [length_map,sizeLine_eq];show 1 + _<=_;omega),fun b3 hb3=>?_⟩;refine ⟨Str.ofString " ",b3,Str.ofString "laid" :: os.map (wordS ts),rfl,rfl,J1,by omega,?_,?_⟩
  ·have:=J22 mO;rw [map_cons,sum_cons,length_cons,c3];have:(os.map (wordS ts)).length * 42<=24 * 42:=Nat.mul_le_mul_right _ nO;omega
  have s6:=(s4.trans s5).trans (J3 (o:=.lst ([.str (Str.ofString "laid")] ++ (os.map (wordS ts)).map V.str)) hb3);have lL:(rowL ls).length<=1048576:=by
   have h1:=J1y (B:=41) (sep:=Str.ofString " ") (ys:=Str.ofString "pieces" :: ls.map numS) (fun y hy=>by
    rcases mem_cons.mp hy with rfl | hy
    ·omega
    ·exact mL y hy)
   rw [length_cons,c1] at h1;have:((ls.map numS).length + 1) * 41<=25 * 41:=Nat.mul_le_mul_right _ (by omega);show (Txt.join _ _).length<=_;omega
  have lO:(rowO os ts).length<=1048576:=by
   have h1:=J1y (B:=42) (sep:=Str.ofString " ") (ys:=Str.ofString "laid" :: os.map (wordS ts)) (fun y hy=>by
    rcases mem_cons.mp hy with rfl | hy
    ·omega
    ·exact mO y hy)
   rw [length_cons,c1] at h1;have:((os.map (wordS ts)).length + 1) * 42<=25 * 42:=Nat.mul_le_mul_right _ (by omega);show (Txt.join _ _).length<=_;omega
  exact ⟨_,rfl,_,rfl,lL,_,rfl,_,rfl,lO,k _ s6⟩
def digB (c:Nat):Bool:=!(Builtin.Str.occurrences (Str.ofString "0123456789") ⟨#[c]⟩ 0 (Str.ofString "0123456789").length 1).isEmpty
def numF (m:Nat) (z:Str):Bool:=if z=Str.ofString "" then false else if m < z.length then false else if z.cps.getD 0 0=48/\z≠Str.ofString "0" then false else z.cps.toList.all digB
abbrev numB (z:Str):Bool:=numF 31 z
def endB (z:Str):Bool:=(0 + (Str.ofString "-").length<=z.length && Builtin.Str.subAt z (Str.ofString "-") (z.length - (Str.ofString "-").length))
def noT (z:Str):Str:=if endB z=true then Txt.slice z none (some (-1)) else z
def spIsNum:Sp:=fun vs H Q _=>∃ (z:Str) (m:Nat),vs=[.str z,.int (m:Int)]/\m<=100/\z.length<=sizeLine/\∀ H',Same H H'->Q (.bl (numF m z)) H'
def spNoT:Sp:=fun vs H Q _=>∃ z:Str,vs=[.str z]/\z.length<=sizeLine/\Q (.str (noT z)) H
abbrev sp1:Str:=Str.ofString " "
abbrev nl1:Str:=Str.ofString "\n"
def J3o (z:Str):Bool:=decide ((Txt.split z sp1).headD Str.empty=Str.ofString "pieces") && ((Txt.split z sp1).drop 1).all numB
def J2e (z:Str):Bool:=decide ((Txt.split z sp1).headD Str.empty=Str.ofString "laid") && ((Txt.split z sp1).drop 1).all fun y=>numB (noT y)
def spLenRow:Sp:=fun vs H Q _=>∃ z:Str,vs=[.str z]/\z.length<=100000/\(Txt.split z sp1).length<=1000/\∀ H',Same H H'->Q (.bl (J3o z)) H'
def spLaidRow:Sp:=fun vs H Q _=>∃ z:Str,vs=[.str z]/\z.length<=100000/\(Txt.split z sp1).length<=1000/\∀ H',Same H H'->Q (.bl (J2e z)) H'
theorem J37 (x:V) (xs:List V):cutV (x :: xs) (some 1) none=xs:=by
 unfold cutV;have e:HT.sIx (x :: xs).length 0 (some 1)=1:=by
  show (if (1:Int) < 0 then ((1:Int) + ((x :: xs).length:Int)).toNat else min (1:Int).toNat (x :: xs).length)=_;rw [if_neg (by decide),length_cons];show min 1 (xs.length + 1)=1;omega
 rw [e,HT.sIx_none];show xs.take (xs.length + 1 - 1)=xs;rw [Nat.add_sub_cancel,take_length]
theorem noT_len (z:Str):(noT z).length<=z.length:=by
 unfold noT;split
 ·exact Txt.slice_le ..
 ·exact Nat.le_refl _
theorem sign_ne {c:Nat}:(⟨#[c]⟩:Str)=Str.ofString "0"↔c=48:=by
 have e:Str.ofString "0"=⟨#[48]⟩:=by decide +kernel
 rw [e];constructor
 ·intro h;have:=congrArg (fun s=>s.cps.toList) h;simpa using this
 ·intro h;rw [h]
theorem J4d (z:Str):z=Str.ofString ""↔z.cps.toList=[]:=by
 have e:Str.ofString ""=⟨#[]⟩:=by decide +kernel
 rw [e];exact ⟨fun h=>by rw [h],fun h=>J2r h⟩
theorem scIsNum:FnScope ["word","figures"] ["word","figures"] (J9 sIsNum):=fS
theorem ok_isNum {f   : Addr} {fd  : FuncData}  (F : Fun K "is_number" "is_number" sIsNum f fd) (T : TxtR mg) (hall : mg "all" = none)
 :
    FnOk P w K mg base CX0 1 f fd ["word", "figures"] spIsNum := by
  refine F.ok scIsNum (fun vs H Q E h => ?_) (fun cdv A outer s H vs Q E hr h => ?_)
  · obtain ⟨z, m, rfl, _⟩ := h
    rfl
  · obtain ⟨z, m, rfl, hm, hz, k⟩ := h
    refine ⟨_, (J2 (ps_if (PW.pt (pw_or (Jc op_eq (pv 0) Jn (Jg _)) (J3c (Jc op_gt (Jb J5p (by rfl) T.len boot_len (J0 (pv 0) J4)) (pv 1) (Jg _))))) (J6 (Ji pe_bl)) Jh)
      (J2 (J3e (ps_if (PW.pt (pw_and (Jc op_eq (pe_ix ix_str (pv 0) J7 (fun _ _ => rfl)) Jn (Jg _)) (J4r (Jc op_ne (pv 0) Jn (Jg _))))) (J6 (Ji pe_bl)) Jh))
      (J6 (Ji (Jb (J5q rfl) (by rfl) hall boot_all (J0 (pe_lc (caps := []) (js := []) rfl (pi_str (pv 0)) rfl (fun _ _ _ _ => J1l) (fun C fp s H => (J2k op_in_str (pv 0) Jn rfl)) (by decide +kernel) (by decide +kernel) (by decide +kernel) (by intro p hp; cases hp)) J4)))))), ?_⟩
    refine ⟨_, rfl, rfl, _, rfl, ?_⟩;by_cases c1 : z = Str.ofString ""
    · refine iteDT (by rw [c1]) (iteT ?_)
      have := k H (Same.refl _);unfold numF at this;rw [if_pos c1] at this;exact this
    refine iteD (fun e => c1 (V.str.inj e)) ?_;refine ⟨_, rfl, z, rfl, hz, _, rfl, _, _, rfl, rfl, _, rfl, ?_⟩;by_cases c2 : m < z.length
    · refine iteDT (by show ((m : Nat) : Int) < _; omega) ?_
      have := k H (Same.refl _);unfold numF at this;rw [if_neg c1, if_pos c2] at this;exact this
    refine iteD (by show ¬ ((m : Nat) : Int) < _; omega) ?_;have ne : z.cps.toList ≠ [] := fun e => c1 ((J4d z).mpr e);obtain ⟨c, r, hc⟩ := List.exists_cons_of_ne_nil ne;have h0 : z.cps.getD 0 0 = c := by
      have e : z.cps.toList[0]? = some c := by rw [hc]; rfl
      rw [getElem?_toList] at e;rw [Array.getD_eq_getD_getElem?, e]; rfl
    refine ⟨fun σ' H' => σ' = [some (V.str z), some (V.int (m : Int))] /\ H = H' /\ ¬ (z.cps.getD 0 0 = 48 /\ z ≠ Str.ofString "0"), ?_, ?_⟩
    · refine ⟨_, rfl, z, _, c, rfl, rfl, hz, Jd (j := 0) (by rw [hc]; rfl), rfl, _, rfl, ?_⟩
      by_cases c3 : c = 48
      · refine iteDT (by rw [sign_ne.mpr c3]) ?_
        refine ⟨_, rfl, rfl, _, rfl, ?_⟩;by_cases c4 : z = Str.ofString "0"
        · exact iteNS (by rw [c4]) ⟨rfl, rfl, fun q => q.2 c4⟩
        · refine iteND (fun e => c4 (V.str.inj e)) ?_
          have := k H (Same.refl _);unfold numF at this;rw [if_neg c1, if_neg c2, if_pos ⟨h0.trans c3, c4⟩] at this;exact this
      · exact iteD (fun e => c3 (sign_ne.mp (V.str.inj e))) (iteF ⟨rfl, rfl, fun q => c3 (h0.symm.trans q.1)⟩)
    rintro σ _ ⟨rfl, rfl, c5⟩;refine ⟨_, rfl, z, rfl, fun d hd => lc_str z (fun _ => true) (fun c => V.bl (digB c)) (by omega) hd (fun _ _ H _ _ q => q H (Same.refl _)) (fun c hc H2 Qe _ s2 q => ?_) (fun H2 s2 hd2 => ?_)⟩
    · exact ⟨_, rfl, _, _, rfl, rfl, q H2 (Same.refl _)⟩
    rw [Jt] at hd2;refine ⟨d, z.cps.toList.map digB, rfl, SqL.of (by rw [hd2, map_map]; rfl), ?_⟩;have := k H2 s2;unfold numF at this;rw [if_neg c1, if_neg c2, if_neg c5] at this;rw [all_map];exact this
theorem scNoT:FnScope ["word"] ["word"] (J9 sNoT):=fS
theorem ok_noT {f   : Addr} {fd  : FuncData}  (F : Fun K "without_turn" "without_turn" sNoT f fd) 
 :
    FnOk P w K mg base CX0 1 f fd ["word"] spNoT := by
  refine F.ok scNoT (fun vs H Q E h => ?_) (fun cdv A outer s H vs Q E hr h => ?_)
  · obtain ⟨z, rfl, _⟩ := h
    rfl
  · obtain ⟨z, rfl, hz, k⟩ := h
    refine ⟨_, (J6 (Ji (J2y (J3d (pe_bm PySem.F.plainAttrs_str PySem.F.slot_str_endswith PySem.F.type_str_endswith mt_ends (pv 0) (J0 Jn J4))) (Jo sl_str (pv 0) Jz (Js (pe_un un_neg J7))) (pv 0)))), ?_⟩;refine ⟨_, rfl, rfl, z, _, rfl, rfl, _, rfl, ?_⟩;unfold noT at k;by_cases c : endB z = true
    · rw [if_pos c] at k
      exact iteBT c ⟨_, rfl, _, rfl, _, rfl, z, rfl, hz, k⟩
    · rw [if_neg c] at k
      exact iteBF c ⟨_, rfl, k⟩
theorem scLenRow:FnScope ["row","words"] ["row"] (J9 sLenRow):=fS
theorem ok_lenRow {f fIN :Addr} {fd fdIN:FuncData}  (F:Fun K "is_length_row" "is_length_row" sLenRow f fd) (T:TxtR mg) (hall:mg "all"=none) (h31:∃ t,mg "MOST_FIGURES_texts"=some (.int 31 t))
  (GIN:FnOk P w K mg base CX0 1 fIN fdIN ["word","figures"] spIsNum) (bIN:Binds K fdIN ["word","figures"] []) (mIN:mg "is_number"=some (.ref fIN)) (kIN:keepIn K (.ref fIN)=true) :
  FnOk P w K mg base CX0 2 f fd ["row"] spLenRow:=by
 refine F.ok scLenRow (fun vs H Q E h=>?_) (fun cdv A outer s H vs Q E hr h=>?_)
 ·obtain ⟨z,rfl,_⟩:=h;rfl
 ·obtain ⟨z,rfl,hz,hn,k⟩:=h;have hr1:Room 1 _:=rm hr;obtain ⟨t31,h31⟩:=h31;refine ⟨_,(J2 (Jm (i:=1) scLenRow.nd rfl (Or.inl rfl) (pe_bm PySem.F.plainAttrs_str PySem.F.slot_str_split PySem.F.type_str_split J2d (pv 0) (J0 Jn J4)))
   (J6 (Ji (J5e (J2k op_eq (pe_ix Jf (pv 1) J7 (fun _ _=>rfl)) Jn (Jg _)) (pe_one (Jb (J5q rfl) (by rfl) hall boot_all (J0 (pe_lc (caps:=[]) (js:=[]) rfl (J2i (Jo J11 (pv 1) (Js J7) Jz)) rfl (fun _ _ _ _=>J1l) (fun C fp s H=>(Jk GIN hr1 rfl mIN kIN bIN .nil pass0 (J0 (pv 0) (J0 (J3m (v:=.int 31) rfl h31 ⟨_,rfl⟩) J4)))) (by decide +kernel) (by decide +kernel) (by decide +kernel) (by intro p hp;cases hp)) J4))))))),?_⟩
  refine ⟨_,rfl,rfl,z,_,rfl,rfl,(by decide +kernel),(by rw [sizeLine_eq];omega),fun d hd=>?_⟩;have s1:=J3 (o:=.lst ((Txt.split z sp1).map V.str)) hd;have hd1:upd H d (.lst ((Txt.split z sp1).map V.str)) d=some (.lst ((Txt.split z sp1).map V.str)):=J1;generalize upd H d (.lst ((Txt.split z sp1).map V.str))=H1 at *;have short:∀ y∈Txt.split z sp1,y.length<=sizeLine:=fun y hy=>Nat.le_trans (part_short hy) (by rw [sizeLine_eq];omega);obtain ⟨y,ys,hys⟩:∃ y ys,Txt.split z sp1=y :: ys:=List.exists_cons_of_ne_nil (fun e=>by
   have:=split_pos z sp1;rw [e] at this;exact absurd this (by decide))
  unfold J3o at k;rw [hys] at k hd1 short hn;refine ⟨_,rfl,d,_,_,_,rfl,rfl,SqL.of hd1,Jd (j:=0) rfl,rfl,_,rfl,?_⟩;by_cases c:y=Str.ofString "pieces"
  ·refine iteDT (by rw [c]) ?_;refine ⟨_,rfl,_,rfl,d,_,rfl,SqL.of hd1,fun l hl=>?_⟩;rw [map_cons,J37];have s2:=J3 (o:=.lst (ys.map V.str)) hl;have hl1:upd H1 l (.lst (ys.map V.str)) l=some (.lst (ys.map V.str)):=J1;generalize upd H1 l (.lst (ys.map V.str))=H2 at *;refine ⟨l,rfl,⟨_,SqL.of hl1⟩,fun e he=>lc_lst V.str ys (fun _=>true) (fun y=>V.bl (numB y)) (SqL.of hl1) (Nat.le_trans (Nat.le_succ _) hn) he (fun _ _ H _ _ q=>q H (Same.refl _)) (fun v hv H3 Qe _ s3 q=>?_) (fun H3 s3 hd3=>?_)⟩
   ·have sv:=short v (mem_cons_of_mem _ hv);exact ⟨_,rfl,v,31,rfl,by decide,sv,fun H' s'=>q H' s'⟩
   rw [Jt] at hd3;refine ⟨e,ys.map (fun y=>numB y),rfl,SqL.of (by rw [hd3,map_map];rfl),?_⟩;have:=k H3 ((s1.trans s2).trans s3);rw [show (y :: ys).headD Str.empty=y from rfl,decide_eq_true c,Bool.true_and] at this;rw [all_map];exact this
  ·refine iteD (fun e=>c (V.str.inj e)) ?_;have:=k H1 s1;rw [show (y :: ys).headD Str.empty=y from rfl,decide_eq_false c,Bool.false_and] at this;exact this
theorem scLaidRow:FnScope ["row","words"] ["row"] (J9 J5b):=fS
theorem ok_laidRow {f fIN fNT :Addr} {fd fdIN fdNT:FuncData}  (F:Fun K "is_laid_row" "is_laid_row" J5b f fd) (T:TxtR mg) (hall:mg "all"=none) (h31:∃ t,mg "MOST_FIGURES_texts"=some (.int 31 t))
  (GIN:FnOk P w K mg base CX0 1 fIN fdIN ["word","figures"] spIsNum) (bIN:Binds K fdIN ["word","figures"] []) (mIN:mg "is_number"=some (.ref fIN)) (kIN:keepIn K (.ref fIN)=true)
  (GNT:FnOk P w K mg base CX0 1 fNT fdNT ["word"] spNoT) (bNT:Binds K fdNT ["word"] []) (mNT:mg "without_turn"=some (.ref fNT)) (kNT:keepIn K (.ref fNT)=true) :
  FnOk P w K mg base CX0 2 f fd ["row"] spLaidRow:=by
 refine F.ok scLaidRow (fun vs H Q E h=>?_) (fun cdv A outer s H vs Q E hr h=>?_)
 ·obtain ⟨z,rfl,_⟩:=h;rfl
 ·obtain ⟨z,rfl,hz,hn,k⟩:=h;have hr1:Room 1 _:=rm hr;obtain ⟨t31,h31⟩:=h31;refine ⟨_,(J2 (Jm (i:=1) scLaidRow.nd rfl (Or.inl rfl) (pe_bm PySem.F.plainAttrs_str PySem.F.slot_str_split PySem.F.type_str_split J2d (pv 0) (J0 Jn J4)))
   (J6 (Ji (J5e (J2k op_eq (pe_ix Jf (pv 1) J7 (fun _ _=>rfl)) Jn (Jg _)) (pe_one (Jb (J5q rfl) (by rfl) hall boot_all (J0 (pe_lc (caps:=[]) (js:=[]) rfl (J2i (Jo J11 (pv 1) (Js J7) Jz)) rfl (fun _ _ _ _=>J1l) (fun C fp s H=>(Jk GIN hr1 rfl mIN kIN bIN .nil pass0 (J0 (Jk GNT hr1 rfl mNT kNT bNT .nil pass0 (J0 (pv 0) J4)) (J0 (J3m (v:=.int 31) rfl h31 ⟨_,rfl⟩) J4)))) (by decide +kernel) (by decide +kernel) (by decide +kernel) (by intro p hp;cases hp)) J4))))))),?_⟩
  refine ⟨_,rfl,rfl,z,_,rfl,rfl,(by decide +kernel),(by rw [sizeLine_eq];omega),fun d hd=>?_⟩;have s1:=J3 (o:=.lst ((Txt.split z sp1).map V.str)) hd;have hd1:upd H d (.lst ((Txt.split z sp1).map V.str)) d=some (.lst ((Txt.split z sp1).map V.str)):=J1;generalize upd H d (.lst ((Txt.split z sp1).map V.str))=H1 at *;have short:∀ y∈Txt.split z sp1,y.length<=sizeLine:=fun y hy=>Nat.le_trans (part_short hy) (by rw [sizeLine_eq];omega);obtain ⟨y,ys,hys⟩:∃ y ys,Txt.split z sp1=y :: ys:=List.exists_cons_of_ne_nil (fun e=>by
   have:=split_pos z sp1;rw [e] at this;exact absurd this (by decide))
  unfold J2e at k;rw [hys] at k hd1 short hn;refine ⟨_,rfl,d,_,_,_,rfl,rfl,SqL.of hd1,Jd (j:=0) rfl,rfl,_,rfl,?_⟩;by_cases c:y=Str.ofString "laid"
  ·refine iteDT (by rw [c]) ?_;refine ⟨_,rfl,_,rfl,d,_,rfl,SqL.of hd1,fun l hl=>?_⟩;rw [map_cons,J37];have s2:=J3 (o:=.lst (ys.map V.str)) hl;have hl1:upd H1 l (.lst (ys.map V.str)) l=some (.lst (ys.map V.str)):=J1;generalize upd H1 l (.lst (ys.map V.str))=H2 at *;refine ⟨l,rfl,⟨_,SqL.of hl1⟩,fun e he=>lc_lst V.str ys (fun _=>true) (fun y=>V.bl (numB (noT y))) (SqL.of hl1) (Nat.le_trans (Nat.le_succ _) hn) he (fun _ _ H _ _ q=>q H (Same.refl _)) (fun v hv H3 Qe _ s3 q=>?_) (fun H3 s3 hd3=>?_)⟩
   ·have sv:=short v (mem_cons_of_mem _ hv);exact ⟨_,rfl,v,rfl,sv,noT v,31,rfl,by decide,Nat.le_trans (noT_len v) sv,fun H' s'=>q H' s'⟩
   rw [Jt] at hd3;refine ⟨e,ys.map (fun y=>numB (noT y)),rfl,SqL.of (by rw [hd3,map_map];rfl),?_⟩;have:=k H3 ((s1.trans s2).trans s3);rw [show (y :: ys).headD Str.empty=y from rfl,decide_eq_true c,Bool.true_and] at this;rw [all_map];exact this
  ·refine iteD (fun e=>c (V.str.inj e)) ?_;have:=k H1 s1;rw [show (y :: ys).headD Str.empty=y from rfl,decide_eq_false c,Bool.false_and] at this;exact this
theorem inV_strs (a:Str) (ws:List Str):inV (V.str a) (ws.map V.str)=decide (a∈ws):=by
 unfold inV;rw [Bool.eq_iff_iff,List.any_eq_true,decide_eq_true_iff];constructor
 ·rintro ⟨y,hy,e⟩;obtain ⟨i,hi,rfl⟩:=mem_map.mp hy;have e':(i == a)=true:=e;exact eq_of_beq e' ▸ hi
 ·intro h;exact ⟨V.str a,mem_map.mpr ⟨a,h,rfl⟩,(beq_self_eq_true _:(a == a)=true)⟩
theorem flat_strs (ws:List Str):(ws.map V.str).all flatV=true:=by
 rw [all_eq_true];intro y hy;obtain ⟨i,_,rfl⟩:=mem_map.mp hy;rfl
def spRefRows (K:PySem.W.Frag):Sp:=fun vs H Q _=>∃ (p:Addr) (r0 r1:Str),vs=[.ref p]/\SqL K H p [.str r0,.str r1,.str (Str.ofString "")]/\(r0.length<=100000/\r1.length<=100000)/\((Txt.split r0 sp1).length<=1000/\(Txt.split r1 sp1).length<=1000)/\(J3o r0=true/\J2e r1=true)/\∀ H',Same H H'->Q .non H'
structure Txf (z:Str) (ls:List Int) (os:List Nat) (ts:List Bool):Prop where
 ex:∃ (r0 r1:Str) (ws:List Str),z.length<=100000/\Txt.split z nl1=[r0,r1,Str.ofString ""]/\Txt.split r0 sp1=Str.ofString "pieces" :: ls.map numS/\Txt.split r1 sp1=Str.ofString "laid" :: ws/\ls.length<=900/\ws.length<=900/\(J3o r0=true/\J2e r1=true)/\
  (∀ l∈ls,0<=l/\l < 10 ^ 31)/\ws.map noT=os.map (fun o:Nat=>numS o)/\(∀ o∈os,(o:Int) < 10 ^ 31)/\(∀ i,i < ls.length->decide ((Str.empty ++ numS (i:Int) ++ Str.ofString "-")∈ws)=ts.getD i false)
def spRead (C:Addr):Sp:=fun vs H Q _=>∃ (z:Str) (ls:List Int) (os:List Nat) (ts:List Bool),vs=[.str z]/\Txf z ls os ts/\Good ls os/\ts.length=ls.length/\∀ x H',Same H H'->LineAt C H' x ls os ts->Q (.ref x) H'
theorem range_bV (ts:List Bool) {n:Nat} (h:ts.length=n):(List.range n).map (fun i=>V.bl (ts.getD i false))=bV ts:=by
 subst h;show _=ts.map V.bl;apply List.ext_getElem?;intro i;rw [getElem?_map,getElem?_map];by_cases c:i < ts.length
 ·rw [List.getElem?_range c,List.getElem?_eq_getElem c];show some (V.bl (ts.getD i false))=_;rw [getD_eq_getElem?_getD,List.getElem?_eq_getElem c];rfl
 ·rw [getElem?_eq_none (by rw [length_range];omega),getElem?_eq_none (by omega)];rfl
theorem scRefRows:FnScope ["rows"] ["rows"] (J9 J5a):=fS
theorem ok_refRows {f fLR fDR :Addr} {fd fdLR fdDR:FuncData}  (F:Fun K "refuse_rows" "refuse_rows" J5a f fd) (T:TxtR mg)
  (GLR:FnOk P w K mg base CX0 2 fLR fdLR ["row"] spLenRow) (bLR:Binds K fdLR ["row"] []) (mLR:mg "is_length_row"=some (.ref fLR)) (kLR:keepIn K (.ref fLR)=true)
  (GDR:FnOk P w K mg base CX0 2 fDR fdDR ["row"] spLaidRow) (bDR:Binds K fdDR ["row"] []) (mDR:mg "is_laid_row"=some (.ref fDR)) (kDR:keepIn K (.ref fDR)=true) :
  FnOk P w K mg base CX0 3 f fd ["rows"] (spRefRows K):=by
 refine F.ok scRefRows (fun vs H Q E h=>?_) (fun cdv A outer s H vs Q E hr h=>?_)
 ·obtain ⟨p,r0,r1,rfl,_⟩:=h;rfl
 ·obtain ⟨p,r0,r1,rfl,hS,⟨z0,z1⟩,⟨n0,n1⟩,⟨b0,b1⟩,k⟩:=h;have hr2:Room 2 _:=rm hr;refine ⟨_,(J2 (ps_if (PW.pt (pw_or (Jc op_lt (Jb J8 (by rfl) T.len boot_len (J0 (pv 0) J4)) J7 (Jg _)) (J3c (pt_not (J3d (Jk GLR hr2 rfl mLR kLR bLR .nil pass0 (J0 (pe_ix Jf (pv 0) J7 (fun _ _=>rfl)) J4))))))) (J6 J1j) Jh)
   (J2 (ps_if (PW.pt (pw_or (Jc op_lt (Jb J8 (by rfl) T.len boot_len (J0 (pv 0) J4)) J7 (Jg _)) (J3c (pt_not (J3d (Jk GDR hr2 rfl mDR kDR bDR .nil pass0 (J0 (pe_ix Jf (pv 0) J7 (fun _ _=>rfl)) J4))))))) (J6 J1j) Jh)
   (J6 (ps_if (PW.pt (pw_or (Jc op_gt (Jb J8 (by rfl) T.len boot_len (J0 (pv 0) J4)) J7 (Jg _)) (J3c (Jc op_ne (pe_ix Jf (pv 0) J7 (fun _ _=>rfl)) Jn (Jg _))))) (J6 J1j) Jh)))),?_⟩
  refine ⟨_,rfl,p,_,rfl,.inl hS,_,_,rfl,rfl,_,rfl,iteD (by show ¬ (3:Int) < 2;decide) ?_⟩;refine ⟨_,rfl,p,_,_,_,rfl,rfl,hS,Jd (j:=0) rfl,r0,rfl,z0,n0,fun H1 s1=>⟨_,rfl,?_⟩⟩;rw [b0];refine iteF ?_;have hS1:=s1.seq hS;refine ⟨_,rfl,p,_,rfl,.inl hS1,_,_,rfl,rfl,_,rfl,iteD (by show ¬ (3:Int) < 3;decide) ?_⟩;refine ⟨_,rfl,p,_,_,_,rfl,rfl,hS1,Jd (j:=1) rfl,r1,rfl,z1,n1,fun H2 s2=>⟨_,rfl,?_⟩⟩;rw [b1];refine iteF ?_;have hS2:=s2.seq hS1;refine ⟨_,rfl,p,_,rfl,.inl hS2,_,_,rfl,rfl,_,rfl,iteD (by show ¬ (3:Int) < 3;decide) ?_⟩;exact ⟨_,rfl,p,_,_,_,rfl,rfl,hS2,Jd (j:=2) rfl,rfl,_,rfl,iteNS rfl (k _ (s1.trans s2))⟩
theorem scRead:FnScope ["text","rows","lengths","words","order","turned"] ["text"] (J9 sRead):=fS
theorem ok_read {f fRR fNT fI C:Addr} {fd fdRR fdNT fdI:FuncData}  (F:Fun K "read" "read" sRead f fd) (T:TxtR mg) (hint:mg "int"=none)
  (GRR:FnOk P w K mg base CX0 3 fRR fdRR ["rows"] (spRefRows K)) (bRR:Binds K fdRR ["rows"] []) (mRR:mg "refuse_rows"=some (.ref fRR)) (kRR:keepIn K (.ref fRR)=true)
  (GNT:FnOk P w K mg base CX0 1 fNT fdNT ["word"] spNoT) (bNT:Binds K fdNT ["word"] []) (mNT:mg "without_turn"=some (.ref fNT)) (kNT:keepIn K (.ref fNT)=true)
  (MI:Mk K C fI) (GI:FnOk P w K mg base CX0 3 fI fdI ["self","lengths","order","turned"] (J54 C)) (bI:Binds K fdI ["self","lengths","order","turned"] []) (mgI:mg "Line"=some (.ref C)) :
  FnOk P w K mg base CX0 5 f fd ["text"] (spRead C):=by
 refine F.ok scRead (fun vs H Q E h=>?_) (fun cdv A outer s H vs Q E hr h=>?_)
 ·obtain ⟨z,ls,os,ts,rfl,_⟩:=h;rfl
 ·obtain ⟨z,ls,os,ts,rfl,TF,g,hts,k⟩:=h;have hr1:Room 1 _:=rm hr;have hr3:Room 3 _:=rm hr;have hr4:Room 4 _:=rm hr;refine ⟨_,(J2 (Jm (i:=1) scRead.nd rfl (Or.inl rfl) (pe_bm PySem.F.plainAttrs_str PySem.F.slot_str_split PySem.F.type_str_split J2d (pv 0) (J0 Jn J4)))
   (J2 (J1o (Jk GRR hr3 rfl mRR kRR bRR .nil pass0 (J0 (pv 1) J4)))
   (J2 (ps_lc (i:=2) (caps:=[]) (js:=[]) scRead.nd rfl (Or.inl rfl) rfl (J2i (Jo J11 (pe_bm PySem.F.plainAttrs_str PySem.F.slot_str_split PySem.F.type_str_split J2d (pe_ix Jf (pv 1) J7 (fun _ _=>rfl)) (J0 Jn J4)) (Js J7) Jz)) rfl (fun _ _ _ _=>J1l) (fun C fp s H=>(Jj J4g (by rfl) hint boot_int (J0 (pv 0) J4))) (by decide +kernel) (by decide +kernel) (by decide +kernel) (by intro p hp;cases hp))
   (J2 (Jm (i:=3) scRead.nd rfl (Or.inr rfl) (Jo J11 (pe_bm PySem.F.plainAttrs_str PySem.F.slot_str_split PySem.F.type_str_split J2d (pe_ix Jf (pv 1) J7 (fun _ _=>rfl)) (J0 Jn J4)) (Js J7) Jz))
   (J2 (ps_lc (i:=4) (caps:=[]) (js:=[]) scRead.nd rfl (Or.inl rfl) rfl (J2i (pv 3)) rfl (fun _ _ _ _=>J1l) (fun C fp s H=>(Jj J4g (by rfl) hint boot_int (J0 (Jk GNT hr1 rfl mNT kNT bNT .nil pass0 (J0 (pv 0) J4)) J4))) (by decide +kernel) (by decide +kernel) (by decide +kernel) (by intro p hp;cases hp))
   (J2 (ps_lc (i:=5) (caps:=["words"]) (js:=[3]) scRead.nd rfl (Or.inl rfl) rfl (J25 rfl T.range (J0 (Jb J8 (by rfl) T.len boot_len (J0 (pv 2) J4)) J4)) rfl (fun _ _ _ _=>J1l) (fun C fp s H=>(J2k (op_inK K) (pe_fi (pv 0) (by decide +kernel)) (pv 1) rfl)) (by decide +kernel) (by decide +kernel) (by decide +kernel) (by intro p hp;simp only [mem_cons,not_mem_nil,or_false] at hp;rcases hp with rfl;rfl))
   (J6 (Ji (J2j MI GI hr4 rfl mgI bI .nil pass0 (J0 (pv 2) (J0 (pv 4) (J0 (pv 5) J4)))))))))))),?_⟩
  obtain ⟨r0,r1,ws,hz,e0,e1,e2,nl,nw,⟨b0,b1⟩,hls,eo,hos,et⟩:=TF.ex;have short:∀ y∈Txt.split z nl1,y.length<=100000:=fun y hy=>Nat.le_trans (part_short hy) hz;have z0:r0.length<=100000:=short _ (by rw [e0];exact mem_cons_self ..);have z1:r1.length<=100000:=short _ (by rw [e0];exact mem_cons_of_mem _ (mem_cons_self ..));have n0:(Txt.split r0 sp1).length<=1000:=by rw [e1,length_cons,length_map];omega
  have n1:(Txt.split r1 sp1).length<=1000:=by rw [e2,length_cons];omega
  refine ⟨_,rfl,rfl,z,_,rfl,rfl,(by decide +kernel),(by rw [sizeLine_eq];omega),fun d hd=>?_⟩;rw [e0];have s1:=J3 (o:=.lst ([r0,r1,Str.ofString ""].map V.str)) hd;have hd1:upd H d (.lst ([r0,r1,Str.ofString ""].map V.str)) d=some (.lst ([r0,r1,Str.ofString ""].map V.str)):=J1;generalize upd H d (.lst ([r0,r1,Str.ofString ""].map V.str))=H1 at *;refine ⟨_,rfl,d,r0,r1,rfl,SqL.of hd1,⟨z0,z1⟩,⟨n0,n1⟩,⟨b0,b1⟩,fun H2 s2=>?_⟩;have hd2:=s2 _ _ hd1;refine ⟨_,rfl,d,_,_,_,rfl,rfl,SqL.of hd2,Jd (j:=0) rfl,rfl,r0,_,rfl,rfl,(by decide +kernel),(by rw [sizeLine_eq];omega),fun l1 hl1=>?_⟩;rw [e1];have s3:=J3 (o:=.lst ((Str.ofString "pieces" :: ls.map numS).map V.str)) hl1;have hl1':upd H2 l1 (.lst ((Str.ofString "pieces" :: ls.map numS).map V.str)) l1=some (.lst ((Str.ofString "pieces" :: ls.map numS).map V.str)):=J1;generalize upd H2 l1 (.lst ((Str.ofString "pieces" :: ls.map numS).map V.str))=H3 at *;refine ⟨_,rfl,l1,_,rfl,SqL.of hl1',fun l2 hl2=>?_⟩;rw [map_cons,J37];have s4:=J3 (o:=.lst ((ls.map numS).map V.str)) hl2;have hl2':upd H3 l2 (.lst ((ls.map numS).map V.str)) l2=some (.lst ((ls.map numS).map V.str)):=J1;generalize upd H3 l2 (.lst ((ls.map numS).map V.str))=H4 at *;rw [map_map] at hl2';refine ⟨l2,rfl,⟨_,SqL.of hl2'⟩,fun lp hlp=>lc_lst (fun l:Int=>V.str (numS l)) ls (fun _=>true) (fun l=>V.int l) (SqL.of hl2') (by omega) hlp (fun _ _ H _ _ q=>q H (Same.refl _)) (fun l hl H5 Qe _ s5 q=>?_) (fun H5 s5 hl5=>?_)⟩
  ·obtain ⟨p1,p2⟩:=hls l hl;have e40:(10:Int) ^ 31 < 10 ^ 40:=by decide
   exact ⟨_,rfl,numS l,l,rfl,J1t p1 (by omega),Nat.le_trans (Jx (by omega)) (by decide),q H5 (Same.refl _)⟩
  rw [Jt] at hl5;have s45:=((s1.trans s2).trans (s3.trans s4)).trans s5;have hd5:=s5 _ _ (s4 _ _ (s3 _ _ hd2));refine ⟨_,rfl,d,_,_,_,rfl,rfl,SqL.of hd5,Jd (j:=1) rfl,rfl,r1,_,rfl,rfl,(by decide +kernel),(by rw [sizeLine_eq];omega),fun l3 hl3=>?_⟩;rw [e2];have s6:=J3 (o:=.lst ((Str.ofString "laid" :: ws).map V.str)) hl3;have hl3':upd H5 l3 (.lst ((Str.ofString "laid" :: ws).map V.str)) l3=some (.lst ((Str.ofString "laid" :: ws).map V.str)):=J1;generalize upd H5 l3 (.lst ((Str.ofString "laid" :: ws).map V.str))=H6 at *;refine ⟨_,rfl,l3,_,rfl,SqL.of hl3',fun l4 hl4=>?_⟩;rw [map_cons,J37];have s7:=J3 (o:=.lst (ws.map V.str)) hl4;have hl4':upd H6 l4 (.lst (ws.map V.str)) l4=some (.lst (ws.map V.str)):=J1;generalize upd H6 l4 (.lst (ws.map V.str))=H7 at *;have sw:∀ v∈ws,v.length<=sizeLine:=fun v hv=>Nat.le_trans (part_short (x:=r1) (y:=sp1) (by rw [e2];exact mem_cons_of_mem _ hv)) (by rw [sizeLine_eq];omega);have ew:ws.map (fun v=>V.int ((intText? (noT v)).getD 0))=nV os:=by
   have h1:ws.map (fun v=>V.int ((intText? (noT v)).getD 0))=(ws.map noT).map (fun y=>V.int ((intText? y).getD 0)):=by rw [map_map];rfl
   rw [h1,eo,nV_eq,map_map];refine List.map_congr_left fun o ho=>?_;show V.int ((intText? (numS (o:Int))).getD 0)=_;have h2:intText? (numS (o:Int))=some (o:Int):=J1t (by omega) (Int.lt_trans (hos o ho) (by decide));rw [h2];rfl
  refine ⟨_,rfl,l4,rfl,⟨_,SqL.of hl4'⟩,fun op hop=>lc_lst V.str ws (fun _=>true) (fun v=>V.int ((intText? (noT v)).getD 0)) (SqL.of hl4') (by omega) hop (fun _ _ H _ _ q=>q H (Same.refl _)) (fun v hv H8 Qe _ s8 q=>?_) (fun H8 s8 hl8=>?_)⟩
  ·obtain ⟨o,ho,eo'⟩:=mem_map.mp (show noT v∈os.map (fun o:Nat=>numS o) by rw [<- eo];exact mem_map.mpr ⟨v,hv,rfl⟩);have h2:intText? (numS (o:Int))=some (o:Int):=J1t (by omega) (Int.lt_trans (hos o ho) (by decide));have h3:intText? (noT v)=some (o:Int):=by rw [<- eo'];exact h2
   have e40:(10:Int) ^ 31 < 10 ^ 40:=by decide
   have h4:=hos o ho;refine ⟨_,rfl,v,rfl,sw v hv,noT v,(o:Int),rfl,h3,?_,?_⟩
   ·rw [<- eo'];exact Nat.le_trans (Jx (by omega)) (by decide)
   ·have:=q H8 (Same.refl _);rw [h3] at this;exact this
  rw [Jt,ew] at hl8;have hlp:=s8 _ _ (s7 _ _ (s6 _ _ hl5));have hl8w:=s8 _ _ hl4';have hi:=g.hi;have lL:(List.map (fun l=>V.int l) ls).length=ls.length:=length_map ..;refine ⟨_,rfl,lp,_,rfl,.inl (SqL.of hlp),(ls.length:Int),(by rw [lL]),by omega,by omega,fun tp htp=>lc_rng 0 ls.length (fun _=>true) (fun i=>V.bl (ts.getD i false)) (by omega) htp (fun _ _ H _ _ q=>q H (Same.refl _)) (fun i hi H9 Qe _ s9 q=>?_) (fun H9 s9 hl9=>?_)⟩
  ·have h1:((0:Int) + (i:Int)).natAbs < 10 ^ 40:=by
    have:(1000:Nat) < 10 ^ 40:=by decide
    omega
   refine ⟨_,rfl,_,rfl,h1,_,rfl,l4,_,rfl,.inl (SqL.of (s9 _ _ hl8w)),rfl,flat_strs ws,?_⟩;rw [inV_strs];have h2:=et i hi;have h3:(Str.ofString (toString ((0:Int) + (i:Int))))=numS (i:Int):=by rw [Int.zero_add];rfl
   rw [h3];have:=q H9 (Same.refl _);rw [<- h2] at this;exact this
  rw [Jt,range_bV ts hts] at hl9;have hlp9:=s9 _ _ hlp;have hop9:=s9 _ _ hl8;have s19:=s45.trans (((s6.trans s7).trans s8).trans s9);refine ⟨_,rfl,_,rfl,_,rfl,?_⟩;intro x dx hx hdx hne;have sc:=(J3 (o:=.own x) hdx).trans (J3 (l:=x) (o:=.ins C dx []) (by rw [Je (Ne.symm hne)];exact hx));refine ⟨x,dx,lp,op,.ref tp,ls,os,ts,rfl,J1,.inl (sc _ _ hlp9),.inl (sc _ _ hop9),g,⟨hts,.inr ⟨tp,rfl,.inl (sc _ _ hl9)⟩⟩,fun H10 L kp=>⟨rfl,?_⟩⟩;exact k x H10 (fun b u e=>kp b u (sc _ _ (s19 _ _ e)) (Ja (s19 _ _ e) hx)) L
end
section
theorem sp1_eq:sp1=⟨#[32]⟩:=by decide +kernel
theorem nl1_eq:nl1=⟨#[10]⟩:=by decide +kernel
theorem dash_eq:Str.ofString "-"=⟨#[45]⟩:=by decide +kernel
theorem slice_last (x:Str) (c:Nat):Txt.slice (x ++ ⟨#[c]⟩) none (some (-1))=x:=by
 have hl:(x ++ ⟨#[c]⟩:Str).length=x.length + 1:=by rw [strLen_append];rfl
 have lx:x.cps.toList.length=x.length:=length_toList;have e1:Txt.slice (x ++ ⟨#[c]⟩) none (some (-1))=StrLaws.sliceText (x ++ ⟨#[c]⟩) (some ((0:Nat):Int)) (some ((x.length:Nat):Int)):=by
  unfold Txt.slice StrLaws.sliceText;rw [StrLaws.sliceIdx_none_lo,StrLaws.sliceIdx_neg_hi _ _ (by decide) (by rw [hl];omega)];have e2:(-1 + (((x ++ ⟨#[c]⟩:Str).length:Nat):Int))=((x.length:Nat):Int):=by rw [hl];omega
  rw [e2];rfl
 rw [e1,StrLaws.sliceText_nat _ (Nat.zero_le _) (by rw [hl];omega)];refine J2r ?_;show ((((x ++ ⟨#[c]⟩:Str).cps.toList.drop 0).take (x.length - 0)).toArray).toList=_;rw [J1v,drop_zero,Nat.sub_zero,<- lx];show List.take x.cps.toList.length (x.cps.toList ++ _)=_;exact List.take_left
theorem endB_iff {z:Str} (h:endB z=true):45∈z.cps.toList:=by
 unfold endB at h;rw [Bool.and_eq_true] at h;have h2:=h.2;rw [StrLaws.subAt_eq,dash_eq] at h2;have h3:=eq_of_beq h2;have h4:45∈List.take (⟨#[45]⟩:Str).length (List.drop (z.length - (⟨#[45]⟩:Str).length) z.cps.toList):=by rw [h3];exact mem_singleton.mpr rfl
 exact List.mem_of_mem_drop (mem_of_mem_take h4)
theorem endB_dash (x:Str):endB (x ++ Str.ofString "-")=true:=by
 have:=PySem.W.KT.ends_app x (Str.ofString "-");unfold Txt.endswith at this;unfold endB;exact this
def wordB (o:Int) (b:Bool):Str:=if b=true then numS o ++ Str.ofString "-" else numS o
theorem J42 {n:Int} (h:0<=n) {c:Nat} (hc:c < 48):c ∉ (numS n).cps.toList:=fun m=>by
 have:=J18 h c m;omega
theorem J2o {o:Int} (h:0<=o) (b:Bool):noT (wordB o b)=numS o:=by
 unfold noT wordB
 cases b with
 | true =>
  rw [if_pos (show true=true from rfl),if_pos (endB_dash _),dash_eq];exact slice_last _ _
 | false =>
  rw [if_neg (show ¬ false=true by decide),if_neg (fun q=>J42 h (by decide) (endB_iff q))]
theorem J3i {o:Int} (h:0<=o) (b:Bool) {c:Nat} (hc:c∈(wordB o b).cps.toList):45<=c:=by
 unfold wordB at hc;split at hc
 ·rw [J1v,dash_eq] at hc;rcases mem_append.mp hc with q | q
  ·have:=J18 h c q;omega
  ·have:c=45:=mem_singleton.mp q;omega
 ·have:=J18 h c hc;omega
theorem wordB_inj {o o':Int} (h:0<=o) (h':0<=o') (h1:o < 10 ^ 40) (h1':o' < 10 ^ 40) {b b':Bool} (e:wordB o b=wordB o' b'):o=o'/\b=b':=by
 have e1:=congrArg noT e;rw [J2o h,J2o h'] at e1;have e2:o=o':=num_inj h h' h1 h1' e1;subst e2;refine ⟨rfl,?_⟩;have ld:(Str.ofString "-").length=1:=by decide +kernel
 have:=congrArg Str.length e;unfold wordB at this;cases b <;> cases b'
 ·rfl
 ·rw [if_neg (show ¬ false=true by decide),if_pos (show true=true from rfl),strLen_append,ld] at this;omega
 ·rw [if_neg (show ¬ false=true by decide),if_pos (show true=true from rfl),strLen_append,ld] at this;omega
 ·rfl
theorem J4w:∀ c:Nat,c < 58->48<=c->digB c=true:=by decide +kernel
theorem numB_num {n:Int} (h:0<=n) (h1:n < 10 ^ 31):numB (numS n)=true:=by
 have hl:(numS n).length<=31:=toString_length_le h (by decide) h1;have hd:∀ c∈(numS n).cps.toList,48<=c/\c<=57:=J18 h;have hne:(numS n).cps.toList≠[]:=num_ne h;have h0:¬ numS n=Str.ofString "":=fun e=>hne ((J4d _).mp e);unfold numB numF;rw [if_neg h0,if_neg (by omega),if_neg,all_eq_true]
 ·intro c hc;have:=hd c hc;exact J4w c (by omega) this.1
 ·rintro ⟨q1,q2⟩;by_cases c0:n=0
  ·subst c0;exact q2 rfl
  ·obtain ⟨c,r,e,q⟩:=J4v n.toNat (by omega);have e1:=J28 h;rw [e] at e1;have e2:(numS n).cps.toList[0]?=some c.toNat:=by
    show (Str.ofString (toString n)).cps.toList[0]?=_;rw [e1];rfl
   rw [getElem?_toList] at e2;rw [Array.getD_eq_getD_getElem?,e2] at q1;exact q q1
theorem join_mem {c:Nat} {s:Str}:∀ {ps:List Str},c∈(Str.join s ps).cps.toList->c∈s.cps.toList\/∃ p∈ps,c∈p.cps.toList
 | [],h=>absurd (show c∈([]:List Nat) from h) (by simp)
 | [x],h=>.inr ⟨x,mem_cons_self ..,h⟩
 | x :: y :: r,h=>by
  have h:c∈(x ++ s ++ Str.join s (y :: r)).cps.toList:=h;rw [J1v,J1v] at h;rcases mem_append.mp h with q | q
  ·rcases mem_append.mp q with q | q
   ·exact .inr ⟨x,mem_cons_self ..,q⟩
   ·exact .inl q
  ·rcases join_mem q with q | ⟨p,hp,hc⟩
   ·exact .inl q
   ·exact .inr ⟨p,mem_cons_of_mem _ hp,hc⟩
theorem J3x {a:Str} {ws:List Str} (ha:32 ∉ a.cps.toList) (hw:∀ y∈ws,32 ∉ y.cps.toList):Txt.split (Txt.join sp1 (a :: ws)) sp1=a :: ws:=by
 rw [sp1_eq];refine J4j 32 (cons_ne_nil _ _) fun p hp=>?_;rcases mem_cons.mp hp with rfl | hp
 ·exact ha
 ·exact hw p hp
theorem row_free {a:Str} {ws:List Str} {c:Nat} (hc:c≠32) (ha:c ∉ a.cps.toList) (hw:∀ y∈ws,c ∉ y.cps.toList):c ∉ (Txt.join sp1 (a :: ws)).cps.toList:=by
 intro h;have e:Txt.join sp1 (a :: ws)=Str.join sp1 (a :: ws):=StrLaws.glued_eq_join ..;rw [e] at h;rcases join_mem h with q | ⟨p,hp,q⟩
 ·rw [sp1_eq] at q;exact hc (mem_singleton.mp q)
 ·rcases mem_cons.mp hp with rfl | hp
  ·exact ha q
  ·exact hw p hp q
theorem text_split {r0 r1:Str} (h0:10 ∉ r0.cps.toList) (h1:10 ∉ r1.cps.toList):Txt.split (r0 ++ nl1 ++ (r1 ++ nl1)) nl1=[r0,r1,Str.ofString ""]:=by
 have e:r0 ++ nl1 ++ (r1 ++ nl1)=Txt.join nl1 [r0,r1,Str.ofString ""]:=by
  have e1:Txt.join nl1 [r0,r1,Str.ofString ""]=Str.join nl1 [r0,r1,Str.ofString ""]:=StrLaws.glued_eq_join ..;rw [e1];show _=r0 ++ nl1 ++ (r1 ++ nl1 ++ Str.ofString "");refine congrArg _ ?_;have e2:Str.ofString ""=Str.empty:=by decide +kernel
  rw [e2];exact Str.ext' (by rw [Str.cps_append (r1 ++ nl1)];exact Array.append_empty.symm)
 rw [e,nl1_eq];refine J4j 10 (cons_ne_nil _ _) fun p hp=>?_;simp only [mem_cons,not_mem_nil,or_false] at hp;rcases hp with rfl | rfl | rfl
 ·exact h0
 ·exact h1
 ·decide +kernel
theorem pieces_free:(32 ∉ (Str.ofString "pieces").cps.toList)/\10 ∉ (Str.ofString "pieces").cps.toList:=by decide +kernel
theorem laid_free:(32 ∉ (Str.ofString "laid").cps.toList)/\10 ∉ (Str.ofString "laid").cps.toList:=by decide +kernel
def rowN (ls:List Int):Str:=Txt.join sp1 (Str.ofString "pieces" :: ls.map numS)
def rowB (ps:List (Int × Bool)):Str:=Txt.join sp1 (Str.ofString "laid" :: ps.map fun p=>wordB p.1 p.2)
theorem J4p {ls:List Int} (h:∀ l∈ls,0<=l):Txt.split (rowN ls) sp1=Str.ofString "pieces" :: ls.map numS:=J3x pieces_free.1 fun y hy=>by
 obtain ⟨l,hl,rfl⟩:=mem_map.mp hy;exact J42 (h l hl) (by decide)
theorem J4q {ps:List (Int × Bool)} (h:∀ p∈ps,0<=p.1):Txt.split (rowB ps) sp1=Str.ofString "laid" :: ps.map fun p=>wordB p.1 p.2:=J3x laid_free.1 fun y hy=>by
 obtain ⟨p,hp,rfl⟩:=mem_map.mp hy;exact fun m=>by have:=J3i (h p hp) p.2 m;omega
theorem rowN_free {ls:List Int} (h:∀ l∈ls,0<=l):10 ∉ (rowN ls).cps.toList:=row_free (by decide) pieces_free.2 fun y hy=>by
 obtain ⟨l,hl,rfl⟩:=mem_map.mp hy;exact J42 (h l hl) (by decide)
theorem rowB_free {ps:List (Int × Bool)} (h:∀ p∈ps,0<=p.1):10 ∉ (rowB ps).cps.toList:=row_free (by decide) laid_free.2 fun y hy=>by
 obtain ⟨p,hp,rfl⟩:=mem_map.mp hy;exact fun m=>by have:=J3i (h p hp) p.2 m;omega
theorem rowN_ok {ls:List Int} (h:∀ l∈ls,0<=l/\l < 10 ^ 31):J3o (rowN ls)=true:=by
 unfold J3o;rw [J4p fun l hl=>(h l hl).1];show (decide (Str.ofString "pieces"=Str.ofString "pieces") && (ls.map numS).all numB)=true;rw [decide_eq_true rfl,Bool.true_and,all_eq_true];intro y hy;obtain ⟨l,hl,rfl⟩:=mem_map.mp hy;exact numB_num (h l hl).1 (h l hl).2
theorem rowB_ok {ps:List (Int × Bool)} (h:∀ p∈ps,0<=p.1/\p.1 < 10 ^ 31):J2e (rowB ps)=true:=by
 unfold J2e;rw [J4q fun p hp=>(h p hp).1];show (decide (Str.ofString "laid"=Str.ofString "laid") && (ps.map fun p=>wordB p.1 p.2).all fun y=>numB (noT y))=true;rw [decide_eq_true rfl,Bool.true_and,all_eq_true];intro y hy;obtain ⟨p,hp,rfl⟩:=mem_map.mp hy;rw [J2o (h p hp).1];exact numB_num (h p hp).1 (h p hp).2
theorem rowN_len {ls:List Int} (h:∀ l∈ls,0<=l/\l < 10 ^ 31) (n:ls.length<=900):(rowN ls).length<=40000:=by
 have c1:sp1.length=1:=by decide +kernel
 have c2:(Str.ofString "pieces").length=6:=by decide +kernel
 have e40:(10:Int) ^ 31 < 10 ^ 40:=by decide
 have h1:=J1y (B:=41) (sep:=sp1) (ys:=Str.ofString "pieces" :: ls.map numS) (fun y hy=>by
  rcases mem_cons.mp hy with rfl | hy
  ·omega
  ·obtain ⟨l,hl,rfl⟩:=mem_map.mp hy;have:=h l hl;exact Jx (by omega))
 rw [length_cons,length_map,c1] at h1;have:(ls.length + 1) * 41<=901 * 41:=Nat.mul_le_mul_right _ (by omega);show (Txt.join _ _).length<=_;omega
theorem wordB_len {o:Int} (h:0<=o/\o < 10 ^ 31) (b:Bool):(wordB o b).length<=42:=by
 have e40:(10:Int) ^ 31 < 10 ^ 40:=by decide
 have h1:=Jx (i:=o) (by omega);have h2:(Str.ofString "-").length=1:=by decide +kernel
 unfold wordB;split
 ·rw [strLen_append];omega
 ·omega
theorem rowB_len {ps:List (Int × Bool)} (h:∀ p∈ps,0<=p.1/\p.1 < 10 ^ 31) (n:ps.length<=900):(rowB ps).length<=40000:=by
 have c1:sp1.length=1:=by decide +kernel
 have c2:(Str.ofString "laid").length=4:=by decide +kernel
 have h1:=J1y (B:=42) (sep:=sp1) (ys:=Str.ofString "laid" :: ps.map fun p=>wordB p.1 p.2) (fun y hy=>by
  rcases mem_cons.mp hy with rfl | hy
  ·omega
  ·obtain ⟨p,hp,rfl⟩:=mem_map.mp hy;exact wordB_len (h p hp) _)
 rw [length_cons,length_map,c1] at h1;have:(ps.length + 1) * 42<=901 * 42:=Nat.mul_le_mul_right _ (by omega);show (Txt.join _ _).length<=_;omega
end
end R69
namespace R69
open PySem L2 Rl
section
variable {P:Program} {w:World} {K:PySem.W.Frag} {mg:Str->Option Value} {base:Heap}
theorem numF_num {n:Int} (h:0<=n) (h1:n < 10 ^ 40):numF 61 (numS n)=true:=by
 have hl:(numS n).length<=41:=Jx (by omega);have hd:∀ c∈(numS n).cps.toList,48<=c/\c<=57:=J18 h;have hne:(numS n).cps.toList≠[]:=num_ne h;have h0:¬ numS n=Str.ofString "":=fun e=>hne ((J4d _).mp e);unfold numF;rw [if_neg h0,if_neg (by omega),if_neg,all_eq_true]
 ·intro c hc;have:=hd c hc;exact J4w c (by omega) this.1
 ·rintro ⟨q1,q2⟩;by_cases c0:n=0
  ·subst c0;exact q2 rfl
  ·obtain ⟨c,r,e,q⟩:=J4v n.toNat (by omega);have e1:=J28 h;rw [e] at e1;have e2:(numS n).cps.toList[0]?=some c.toNat:=by
    show (Str.ofString (toString n)).cps.toList[0]?=_;rw [e1];rfl
   rw [getElem?_toList] at e2;rw [Array.getD_eq_getD_getElem?,e2] at q1;exact q q1
def spNumT:Sp:=fun vs H Q _=>∃ n:Int,vs=[.str (numS n)]/\0<=n/\n < 10 ^ 40/\∀ H',Same H H'->Q (.int n) H'
theorem scNumT:FnScope ["word"] ["word"] (J9 sNumT):=fS
theorem ok_numT {f fIN :Addr} {fd fdIN:FuncData}  (F:Fun K "number_told" "number_told" sNumT f fd) (hint:mg "int"=none) (h61:∃ t,mg "MOST_FIGURES_rows"=some (.int 61 t))
  (GIN:FnOk P w K mg base CX0 1 fIN fdIN ["word","figures"] spIsNum) (bIN:Binds K fdIN ["word","figures"] []) (mIN:mg "is_number"=some (.ref fIN)) (kIN:keepIn K (.ref fIN)=true) :
  FnOk P w K mg base CX0 2 f fd ["word"] spNumT:=by
 refine F.ok scNumT (fun vs H Q E h=>?_) (fun cdv A outer s H vs Q E hr h=>?_)
 ·obtain ⟨n,rfl,_⟩:=h;rfl
 ·obtain ⟨n,rfl,n0,n1,k⟩:=h;have hr1:Room 1 _:=rm hr;obtain ⟨t61,h61⟩:=h61;refine ⟨_,(J6 (Ji (J2y (J3d (Jk GIN hr1 rfl mIN kIN bIN .nil pass0 (J0 (pv 0) (J0 (J3m (v:=.int 61) rfl h61 ⟨_,rfl⟩) J4)))) (Jj J4g (by rfl) hint boot_int (J0 (pv 0) J4)) J1e))),?_⟩;have hl:(numS n).length<=41:=Jx (by omega);refine ⟨_,rfl,numS n,61,rfl,by decide,(by rw [sizeLine_eq];omega),fun H1 s1=>?_⟩;rw [numF_num n0 n1];exact ⟨true,rfl,iteT ⟨_,rfl,numS n,n,rfl,J1t n0 n1,by omega,k H1 s1⟩⟩
def spNumsC (C:Addr):Sp:=fun vs H Q _=>∃ (x:Addr) (ls:List Int) (os:List Nat) (ts:List Bool) (j o:Nat),vs=[.ref x,.int (j:Nat),.int (o:Nat)]/\LineAt C H x ls os ts/\j < ts.length/\∀ l H',Same H H'->H' l=some (.lst (nV (cutO j (ts.getD j false) o)))->H l=none->Q (.ref l) H'
theorem scNumsC:FnScope ["line","cut_piece","piece"] ["line","cut_piece","piece"] (J9 sNumsC):=fS
theorem ok_numsC {f  C : Addr} {fd  : FuncData}  (F : Fun K "numbers_behind_cut" "numbers_behind_cut" sNumsC f fd) (TC : TxtC K mg C)
 :
    FnOk P w K mg base CX0 1 f fd ["line", "cut_piece", "piece"] (spNumsC C) := by
  refine F.ok scNumsC (fun vs H Q E h => ?_) (fun cdv A outer s H vs Q E hr h => ?_)
  · obtain ⟨x, ls, os, ts, j, o, rfl, _⟩ := h
    rfl
  · obtain ⟨x, ls, os, ts, j, o, rfl, L, hj, k⟩ := h
    refine ⟨_, (J2 (ps_if (Jc op_lt (pv 2) (pv 1) (Jg _)) (J6 (Ji (J14 (J0 (pv 2) J4)))) Jh)
      (J2 (ps_if (Jc op_gt (pv 2) (pv 1) (Jg _)) (J6 (Ji (J14 (J0 (pe_op Jv (pv 2) J7) J4)))) Jh)
      (J6 (Ji (J2y (J3d (pe_ix J1z (Jq (pv 0) rfl) (pv 2) (fun _ _ => rfl))) (J14 (J0 (pe_op Jv (pv 2) J7) (J0 (pv 2) J4))) (J14 (J0 (pv 2) (J0 (pe_op Jv (pv 2) J7) J4)))))))), ?_⟩
    obtain ⟨dx, fs, pl, po, pt, ps, pd, h0, ⟨k1, k2, k3, k4, k5, k6⟩, e1, e2, e3, e4, e5⟩ := L.ex;have z1 : 1 <= sizeLine := by rw [sizeLine_eq]; decide
    have z2 : 2 <= sizeLine := by rw [sizeLine_eq]; decide
    unfold cutO at k;refine ⟨_, rfl, _, rfl, _, _, rfl, rfl, _, rfl, ?_⟩;by_cases c1 : o < j
    · rw [if_pos c1] at k
      refine iteDT (show ((o : Nat) : Int) < ((j : Nat) : Int) by omega) ⟨_, rfl, z1, fun l hl => k l _ (J3 hl) J1 hl⟩
    rw [if_neg c1] at k;refine iteD (show ¬ ((o : Nat) : Int) < ((j : Nat) : Int) by omega) ⟨_, rfl, _, rfl, _, _, rfl, rfl, _, rfl, ?_⟩;by_cases c2 : j < o
    · rw [if_pos c2] at k
      exact iteDT (show ((j : Nat) : Int) < ((o : Nat) : Int) by omega) ⟨_, rfl, _, _, rfl, rfl, z1, fun l hl => k l _ (J3 hl) J1 hl⟩
    rw [if_neg c2] at k;obtain rfl : o = j := by omega
    refine iteD (show ¬ ((o : Nat) : Int) < ((o : Nat) : Int) by omega) ?_;refine ⟨_, rfl, x, C, dx, fs, _, rfl, h0, TC.cl, TC.nT, k3, _, rfl, pt, _, _, _, rfl, rfl, SqT.of e3, Jd (J5r hj), _, rfl, ?_⟩;by_cases c3 : ts.getD o false = true
    · rw [if_pos c3] at k
      exact iteBT c3 ⟨_, rfl, _, _, rfl, rfl, _, rfl, z2, fun l hl => k l _ (J3 hl) J1 hl⟩
    · rw [if_neg c3] at k
      exact iteBF c3 ⟨_, rfl, _, rfl, _, _, rfl, rfl, z2, fun l hl => k l _ (J3 hl) J1 hl⟩
theorem J2q {C:Addr} {H H1:Hp} {p q t:Addr} {ls:List Int} {os:List Nat} {ts:List Bool} {Q:VK} {E:XK} (s:Same H H1) (hp:SqH H1 p (iV ls)) (hq:SqH H1 q (nV os)) (g:Good ls os) (tl:ts.length=ls.length) (ht:SqH H1 t (bV ts)) (k:∀ z H',Same H H'->LineAt C H' z ls os ts->Q (.ref z) H') (z dz:Addr) (hz:H1 z=none) (hdz:H1 dz=none) (hne:dz≠z) :
  J54 C [.ref z,.ref p,.ref q,.ref t] (upd (upd H1 dz (.own z)) z (.ins C dz [])) (fun v H'=>v=.non/\Q (.ref z) H') E:=by
 have sc:=(J3 (o:=.own z) hdz).trans (J3 (l:=z) (o:=.ins C dz []) (by rw [Je (Ne.symm hne)];exact hz));have sq:∀ {a:Addr} {xs:List V},SqH H1 a xs->SqH (upd (upd H1 dz (.own z)) z (.ins C dz [])) a xs:=fun h=>h.elim (fun h=>.inl (sc _ _ h)) fun h=>.inr (sc _ _ h);exact ⟨z,dz,p,q,.ref t,ls,os,ts,rfl,J1,sq hp,sq hq,g,⟨tl,.inr ⟨t,rfl,sq ht⟩⟩,fun H' L kp=>⟨rfl,k z H' (fun b u e=>kp b u (sc _ _ (s _ _ e)) (Ja (s _ _ e) hz)) L⟩⟩
def DRes (C:Addr) (r:Option T3) (H:Hp) (Q:VK):Prop:=(r=none->∀ H',Same H H'->Q .non H')/\(∀ l o t,r=some (l,o,t)->∀ z H',Same H H'->LineAt C H' z l o t->Good l o->t.length=l.length->Q (.ref z) H')
def spTurnD (C:Addr):Sp:=fun vs H Q _=>∃ (x:Addr) (ls:List Int) (os:List Nat) (ts:List Bool) (i:Int),vs=[.ref x,.int i]/\LineAt C H x ls os ts/\Good ls os/\ts.length=ls.length/\0<=i/\DRes C (turnR ls os ts i) H Q
theorem scTurnD:FnScope ["line","piece","turned"] ["line","piece"] (J9 sTurnA):=fS
theorem ok_turnD {f fI C:Addr} {fd fdI:FuncData}  (F:Fun K "turned_about" "turned_about" sTurnA f fd) (T:TxtR mg) (TC:TxtC K mg C)
  (MI:Mk K C fI) (GI:FnOk P w K mg base CX0 3 fI fdI ["self","lengths","order","turned"] (J54 C)) (bI:Binds K fdI ["self","lengths","order","turned"] []) (mgI:mg "Line"=some (.ref C)) :
  FnOk P w K mg base CX0 5 f fd ["line","piece"] (spTurnD C):=by
 refine F.ok scTurnD (fun vs H Q E h=>?_) (fun cdv A outer s H vs Q E hr h=>?_)
 ·obtain ⟨x,ls,os,ts,i,rfl,_⟩:=h;rfl
 ·obtain ⟨x,ls,os,ts,i,rfl,L,G,tl,i0,k⟩:=h;have hr4:Room 4 _:=rm hr;refine ⟨_,(J2 (ps_if (Jc op_ge (pv 1) (Jb J8 (by rfl) T.len boot_len (J0 (Jq (pv 0) rfl) J4)) (Jg _)) (J6 (Ji J1e)) Jh)
   (J2 (Jm (i:=2) scTurnD.nd rfl (Or.inl rfl) (Jj J39 (by rfl) T.list boot_list (J0 (Jq (pv 0) rfl) J4)))
   (J2 (J40 (pe_not (pe_ix Jf (pv 2) (pv 1) (fun _ _=>rfl))) (pg_sub (pv 2) (pv 1) J2c))
   (J6 (Ji (J2j MI GI hr4 rfl mgI bI .nil pass0 (J0 (Jq (pv 0) rfl) (J0 (Jq (pv 0) rfl) (J0 (pv 2) J4))))))))),?_⟩
  obtain ⟨dx,fs,pl,po,pt,ps,pd,h0,⟨k1,k2,k3,k4,k5,k6⟩,e1,e2,e3,e4,e5⟩:=L.ex;have O:=G.ord;have lo1:=G.lo;have hi1:=G.hi;have oln:=O.len;have sm:=Ju (n:=300) (by decide);have ll:(iV ls).length=ls.length:=length_map ..;unfold turnR at k;obtain ⟨n,rfl⟩:∃ n:Nat,i=(n:Int):=⟨i.toNat,by omega⟩;refine ⟨_,rfl,_,rfl,x,C,dx,fs,_,rfl,h0,TC.cl,TC.nL,k1,pl,_,rfl,.inr (SqT.of e1),_,_,rfl,rfl,_,rfl,?_⟩;rw [ll];by_cases c:((ls.length:Nat):Int)<=(n:Int)
  ·rw [if_pos c] at k;exact iteDT c (k.1 rfl H (Same.refl _))
  rw [if_neg c] at k;have hn:n < ts.length:=by omega
  refine iteD (show ¬ (n:Int)>=((ls.length:Nat):Int) by omega) ⟨_,rfl,x,C,dx,fs,_,rfl,h0,TC.cl,TC.nT,k3,pt,_,rfl,.inr (SqT.of e3),fun d1 hd1=>?_⟩;have s1:=J3 (o:=.lst (bV ts)) hd1;have h1:upd H d1 (.lst (bV ts)) d1=some (.lst (bV ts)):=J1;refine ⟨_,rfl,_,rfl,d1,_,_,_,rfl,rfl,SqL.of h1,Jd (J5r hn),_,rfl,?_⟩;refine ⟨_,rfl,_,rfl,d1,_,_,n,rfl,rfl,h1,J3q (by rw [length_map];exact hn),?_⟩;have s2:Same H (upd (upd H d1 (.lst (bV ts))) d1 (.lst ((bV ts).set n (V.bl !ts.getD n false)))):=fun b u e=>by rw [Je (Ja e hd1)];exact s1 _ _ e
  have h2:upd (upd H d1 (.lst (bV ts))) d1 (.lst ((bV ts).set n (V.bl !ts.getD n false))) d1=some (.lst (bV (ts.set n (!ts.getD n false)))):=by rw [J1];exact congrArg (fun z=>some (HO.lst z)) (map_set ..).symm
  generalize upd (upd H d1 (.lst (bV ts))) d1 (.lst ((bV ts).set n (V.bl !ts.getD n false)))=H2 at s2 h2 ⊢;refine ⟨_,rfl,x,C,dx,fs,_,rfl,s2 _ _ h0,TC.cl,TC.nL,k1,_,rfl,x,C,dx,fs,_,rfl,s2 _ _ h0,TC.cl,TC.nO,k2,_,rfl,?_⟩;intro z dz hz hdz hne;exact J2q s2 (.inr (s2 _ _ e1)) (.inr (s2 _ _ e2)) G (by rw [length_set];exact tl) (.inl h2) (fun z H' sz LZ=>k.2 _ _ _ rfl z H' sz LZ G (by rw [Int.toNat_natCast,length_set];exact tl)) z dz hz hdz hne
def spLayD (C:Addr):Sp:=fun vs H Q _=>∃ (x:Addr) (ls:List Int) (os:List Nat) (ts:List Bool) (i j:Int),vs=[.ref x,.int i,.int j]/\LineAt C H x ls os ts/\Good ls os/\ts.length=ls.length/\0<=i/\0<=j/\DRes C (layR ls os ts i j) H Q
theorem scLayD:FnScope ["line","piece","position","order"] ["line","piece","position"] (J9 sLaidAt):=fS
theorem ok_layD {f fI C:Addr} {fd fdI:FuncData}  (F:Fun K "laid_at" "laid_at" sLaidAt f fd) (T:TxtR mg) (TC:TxtC K mg C)
  (MI:Mk K C fI) (GI:FnOk P w K mg base CX0 3 fI fdI ["self","lengths","order","turned"] (J54 C)) (bI:Binds K fdI ["self","lengths","order","turned"] []) (mgI:mg "Line"=some (.ref C)) :
  FnOk P w K mg base CX0 5 f fd ["line","piece","position"] (spLayD C):=by
 refine F.ok scLayD (fun vs H Q E h=>?_) (fun cdv A outer s H vs Q E hr h=>?_)
 ·obtain ⟨x,ls,os,ts,i,j,rfl,_⟩:=h;rfl
 ·obtain ⟨x,ls,os,ts,i,j,rfl,L,G,tl,i0,j0,k⟩:=h;have hr4:Room 4 _:=rm hr;refine ⟨_,(J2 (ps_if (PW.pt (pw_or (Jc op_ge (pv 1) (Jb J8 (by rfl) T.len boot_len (J0 (Jq (pv 0) rfl) J4)) (Jg _)) (J3c (Jc op_ge (pv 2) (Jb J8 (by rfl) T.len boot_len (J0 (Jq (pv 0) rfl) J4)) (Jg _))))) (J6 (Ji J1e)) Jh)
   (J2 (ps_lc (i:=3) (caps:=["piece"]) (js:=[1]) scLayD.nd rfl (Or.inl rfl) rfl (pi_tup (Jq (pv 0) rfl)) rfl (fun _ _ _ _=>(pts_one (Jc op_ne (pv 0) (pv 1) (Jg _)))) (fun C fp s H=>(pv 0)) (by decide +kernel) (by decide +kernel) (by decide +kernel) (by intro p hp;simp only [mem_cons,not_mem_nil,or_false] at hp;rcases hp with rfl;rfl))
   (J2 (J1o (pe_bm PySem.F.plainAttrs_list PySem.F.slot_list_insert PySem.F.type_list_insert mt_insert (pv 3) (J0 (pv 2) (J0 (pv 1) J4))))
   (J6 (Ji (J2j MI GI hr4 rfl mgI bI .nil pass0 (J0 (Jq (pv 0) rfl) (J0 (pv 3) (J0 (Jq (pv 0) rfl) J4))))))))),?_⟩
  obtain ⟨dx,fs,pl,po,pt,ps,pd,h0,⟨k1,k2,k3,k4,k5,k6⟩,e1,e2,e3,e4,e5⟩:=L.ex;have O:=G.ord;have lo1:=G.lo;have hi1:=G.hi;have oln:=O.len;have sm:=Ju (n:=300) (by decide);have lo':(nV os).length=ls.length:=(J3g os).trans oln;unfold layR at k;obtain ⟨n,rfl⟩:∃ n:Nat,i=(n:Int):=⟨i.toNat,by omega⟩;obtain ⟨m,rfl⟩:∃ m:Nat,j=(m:Int):=⟨j.toNat,by omega⟩;refine ⟨_,rfl,_,rfl,x,C,dx,fs,_,rfl,h0,TC.cl,TC.nO,k2,po,_,rfl,.inr (SqT.of e2),_,_,rfl,rfl,_,rfl,?_⟩;rw [lo'];by_cases c:((ls.length:Nat):Int)<=(n:Int)
  ·rw [if_pos (.inl c)] at k;exact iteDT c (iteT (k.1 rfl H (Same.refl _)))
  refine iteD (show ¬ (n:Int)>=((ls.length:Nat):Int) by omega) ?_;refine ⟨_,rfl,_,rfl,x,C,dx,fs,_,rfl,h0,TC.cl,TC.nO,k2,po,_,rfl,.inr (SqT.of e2),_,_,rfl,rfl,_,rfl,?_⟩;rw [lo'];by_cases c2:((ls.length:Nat):Int)<=(m:Int)
  ·rw [if_pos (.inr c2)] at k;exact iteDT c2 (k.1 rfl H (Same.refl _))
  rw [if_neg (fun z=>z.elim c c2)] at k;refine iteD (show ¬ (m:Int)>=((ls.length:Nat):Int) by omega) ?_;refine ⟨_,rfl,x,C,dx,fs,_,rfl,h0,TC.cl,TC.nO,k2,po,rfl,⟨_,SqT.of e2⟩,fun d1 hd1=>lc_tup (fun (o:Nat)=>V.int (o:Int)) os (fun o=>!decide (o=n)) (fun o=>V.int (o:Int)) (by rw [<- nV_eq];exact SqT.of e2) (by omega) hd1 (fun o ho Hc Qt sc q=>?_) (fun o ho Hc Qe _ sc q=>?_) (fun H1 s1 h1=>?_)⟩
  ·refine ⟨_,rfl,_,rfl,rfl,_,rfl,?_⟩;have e:decide (V.int (o:Int)=V.int (n:Int))=decide (o=n):=decide_eq_decide.mpr ⟨fun z=>by have:=V.int.inj z;omega,fun z=>by rw [z]⟩;show Qt (!decide (V.int (o:Int)=V.int (n:Int))) Hc;rw [e];exact q _ (Same.refl _)
  ·exact ⟨_,rfl,q _ (Same.refl _)⟩
  have fl:=lay_len G.perm (i:=n) (by omega);rw [<- nV_eq] at h1;have lf:(nV (os.filter fun o=>!decide (o=n))).length=(os.filter fun o=>!decide (o=n)).length:=J3g _;refine ⟨_,rfl,.inl ⟨rfl,_,SqL.of h1⟩,_,rfl,_,rfl,d1,_,m,_,rfl,rfl,h1,by omega,by omega,?_⟩;have eL:(nV (os.filter fun o=>!decide (o=n))).take m ++ V.int (n:Int) :: (nV (os.filter fun o=>!decide (o=n))).drop m=nV (layOs os n m):=by
   unfold layOs;rw [nV_eq,nV_eq,map_append,map_cons,map_take,map_drop]
  rw [eL];have s2:Same H (upd H1 d1 (.lst (nV (layOs os n m)))):=fun b u e=>by rw [Je (Ja e hd1)];exact s1 _ _ e
  have h2:upd H1 d1 (.lst (nV (layOs os n m))) d1=some (.lst (nV (layOs os n m))):=J1;generalize upd H1 d1 (.lst (nV (layOs os n m)))=H2 at s2 h2 ⊢;refine ⟨_,rfl,x,C,dx,fs,_,rfl,s2 _ _ h0,TC.cl,TC.nL,k1,_,rfl,_,rfl,x,C,dx,fs,_,rfl,s2 _ _ h0,TC.cl,TC.nT,k3,?_⟩;have G2:Good ls (layOs os n m):=⟨G.lo,G.hi,G.pos,G.sum,J31 G.perm (by omega)⟩;intro z dz hz hdz hne;exact J2q s2 (.inr (s2 _ _ e1)) (.inl h2) G2 tl (.inr (s2 _ _ e3)) (fun z H' sz LZ=>k.2 _ _ _ rfl z H' sz LZ G2 tl) z dz hz hdz hne
def spLongD (C:Addr):Sp:=fun vs H Q _=>∃ (x:Addr) (ls:List Int) (os:List Nat) (ts:List Bool) (i l:Int),vs=[.ref x,.int i,.int l]/\LineAt C H x ls os ts/\Good ls os/\ts.length=ls.length/\0<=i/\0<=l/\DRes C (longR ls os ts i l) H Q
theorem scLongD:FnScope ["line","piece","length","lengths"] ["line","piece","length"] (J9 sMadeL):=fS
theorem ok_longD {f fI C:Addr} {fd fdI:FuncData}  (F:Fun K "made_long" "made_long" sMadeL f fd) (T:TxtR mg) (TC:TxtC K mg C)
  (MI:Mk K C fI) (GI:FnOk P w K mg base CX0 3 fI fdI ["self","lengths","order","turned"] (J54 C)) (bI:Binds K fdI ["self","lengths","order","turned"] []) (mgI:mg "Line"=some (.ref C)) :
  FnOk P w K mg base CX0 5 f fd ["line","piece","length"] (spLongD C):=by
 refine F.ok scLongD (fun vs H Q E h=>?_) (fun cdv A outer s H vs Q E hr h=>?_)
 ·obtain ⟨x,ls,os,ts,i,l,rfl,_⟩:=h;rfl
 ·obtain ⟨x,ls,os,ts,i,l,rfl,L,G,tl,i0,l0,k⟩:=h;have hr4:Room 4 _:=rm hr;refine ⟨_,(J2 (ps_if (PW.pt (pw_or (Jc op_ge (pv 1) (Jb J8 (by rfl) T.len boot_len (J0 (Jq (pv 0) rfl) J4)) (Jg _)) (J3c (Jc op_eq (pv 2) J7 (Jg _))))) (J6 (Ji J1e)) Jh)
   (J2 (ps_if (Jc op_gt (pe_op Jv (pe_op J4t (Jq (pv 0) rfl) (pe_ix J1z (Jq (pv 0) rfl) (pv 1) (fun _ _=>rfl))) (pv 2)) (pe_op J5f J7 J7) (Jg _)) (J6 (Ji J1e)) Jh)
   (J2 (Jm (i:=3) scLongD.nd rfl (Or.inl rfl) (Jj J39 (by rfl) T.list boot_list (J0 (Jq (pv 0) rfl) J4)))
   (J2 (J40 (pv 2) (pg_sub (pv 3) (pv 1) J2c))
   (J6 (Ji (J2j MI GI hr4 rfl mgI bI .nil pass0 (J0 (pv 3) (J0 (Jq (pv 0) rfl) (J0 (Jq (pv 0) rfl) J4)))))))))),?_⟩
  obtain ⟨dx,fs,pl,po,pt,ps,pd,h0,⟨k1,k2,k3,k4,k5,k6⟩,e1,e2,e3,e4,e5⟩:=L.ex;have O:=G.ord;have lo1:=G.lo;have hi1:=G.hi;have oln:=O.len;have sm:=Ju (n:=300) (by decide);have ll:(iV ls).length=ls.length:=length_map ..;unfold longR at k;obtain ⟨n,rfl⟩:∃ n:Nat,i=(n:Int):=⟨i.toNat,by omega⟩;rw [Int.toNat_natCast] at k;refine ⟨_,rfl,_,rfl,x,C,dx,fs,_,rfl,h0,TC.cl,TC.nL,k1,pl,_,rfl,.inr (SqT.of e1),_,_,rfl,rfl,_,rfl,?_⟩;rw [ll];by_cases c:((ls.length:Nat):Int)<=(n:Int)
  ·rw [if_pos (.inl c)] at k;exact iteDT c (iteT (k.1 rfl H (Same.refl _)))
  refine iteD (show ¬ (n:Int)>=((ls.length:Nat):Int) by omega) ?_;refine ⟨_,rfl,rfl,_,rfl,?_⟩;by_cases c2:l=0
  ·rw [if_pos (.inr (.inl c2))] at k;exact iteDT (by rw [c2]) (k.1 rfl H (Same.refl _))
  refine iteD (fun e=>c2 (V.int.inj e)) ?_;have hn:n < ls.length:=by omega
  refine ⟨_,rfl,x,C,dx,fs,_,rfl,h0,TC.cl,TC.nZ,k6,_,rfl,x,C,dx,fs,_,rfl,h0,TC.cl,TC.nL,k1,_,rfl,pl,_,_,_,rfl,rfl,SqT.of e1,Jd (J1k hn),_,_,rfl,rfl,_,rfl,_,_,rfl,rfl,_,_,rfl,rfl,⟨by decide,by decide,by decide⟩,_,_,rfl,rfl,_,rfl,?_⟩;by_cases c3:(10:Int) ^ 30 < ls.sum - ls.getD n 0 + l
  ·rw [if_pos (.inr (.inr c3))] at k;exact iteDT c3 (k.1 rfl H (Same.refl _))
  rw [if_neg (fun z=>z.elim c fun z=>z.elim c2 c3)] at k;refine iteD c3 ⟨_,rfl,x,C,dx,fs,_,rfl,h0,TC.cl,TC.nL,k1,pl,_,rfl,.inr (SqT.of e1),fun d1 hd1=>?_⟩;have s1:=J3 (o:=.lst (iV ls)) hd1;have h1:upd H d1 (.lst (iV ls)) d1=some (.lst (iV ls)):=J1;refine ⟨_,rfl,_,rfl,_,rfl,d1,_,_,n,rfl,rfl,h1,J3q (by rw [length_map];exact hn),?_⟩;have s2:Same H (upd (upd H d1 (.lst (iV ls))) d1 (.lst ((iV ls).set n (V.int l)))):=fun b u e=>by rw [Je (Ja e hd1)];exact s1 _ _ e
  have h2:upd (upd H d1 (.lst (iV ls))) d1 (.lst ((iV ls).set n (V.int l))) d1=some (.lst (iV (ls.set n l))):=by rw [J1];exact congrArg (fun z=>some (HO.lst z)) (map_set ..).symm
  generalize upd (upd H d1 (.lst (iV ls))) d1 (.lst ((iV ls).set n (V.int l)))=H2 at s2 h2 ⊢;have G2:Good (ls.set n l) os:=by
   refine ⟨by rw [length_set];exact G.lo,by rw [length_set];exact G.hi,fun a ha=>?_,by rw [set_sum ls hn];omega,by rw [length_set];exact G.perm⟩;rcases List.mem_or_eq_of_mem_set ha with z | z
   ·exact G.pos a z
   ·omega
  refine ⟨_,rfl,_,rfl,x,C,dx,fs,_,rfl,s2 _ _ h0,TC.cl,TC.nO,k2,_,rfl,x,C,dx,fs,_,rfl,s2 _ _ h0,TC.cl,TC.nT,k3,?_⟩;intro z dz hz hdz hne;exact J2q s2 (.inl h2) (.inr (s2 _ _ e2)) G2 (by rw [length_set];exact tl) (.inr (s2 _ _ e3)) (fun z H' sz LZ=>k.2 _ _ _ rfl z H' sz LZ G2 (by rw [length_set];exact tl)) z dz hz hdz hne
def spHold (CO:Addr):Sp:=fun vs H Q E=>∃ (p q:Addr) (fs ls:List Int) (x:Int),vs=[.ref p,.ref q,.int x]/\H p=some (.tup (iV fs))/\H q=some (.tup (iV ls))/\fs.length=ls.length/\(∀ (j:Nat) H',Same H H'->Lies fs ls x j->Q (.int j) H')/\
 ((∀ j,¬ Lies fs ls x j)->∀ H',Same H H'->E (.ref CO) none H')
theorem scHold:FnScope ["firsts","lengths","x","piece","first"] ["firsts","lengths","x"] (J9 sHold):=fS
theorem ok_hold {f CO:Addr} {fd:FuncData} (F:Fun K "piece_holding" "piece_holding" sHold f fd) (hen:mg "enumerate"=none) (TO:TxtX K mg "Outside" CO):FnOk P w K mg base (Exc1 P w) 1 f fd ["firsts","lengths","x"] (spHold CO):=by
 refine F.okX scHold (fun vs H Q E h=>?_) (fun cdv A outer s H vs Q E hr h=>?_)
 ·obtain ⟨p,q,fs,ls,x,rfl,_⟩:=h;rfl
 ·obtain ⟨p,q,fs,ls,x,rfl,hp,hq,hl,k,kx⟩:=h;refine ⟨_,J2 (ps_nox (J4s PassesOwn.never rfl (pi_enum rfl hen (J0 (pv 0) J4)) (pg_tup rfl (J16 (J10 (i:=3) scHold.nd rfl (Or.inl rfl)) (J16 (J10 (i:=4) scHold.nd rfl (Or.inl rfl)) pgs_nil)))
    (J6 (ps_if (PW.pt (pw_and (Jc op_le (pv 4) (pv 2) (Jg _)) (J4r (Jc op_lt (pv 2) (pe_op Jv (pv 4) (pe_ix J1z (pv 1) (pv 3) (fun _ _=>rfl))) (Jg _))))) (J6 (Ji (pv 3))) Jh))))
   (J6 (ps_raise rfl TO.mg TO.ex)),?_⟩
  refine ⟨_,rfl,p,rfl,⟨_,SqT.of hp⟩,for_enum (K:=K) (a:=p) (xs:=iV fs) (fun i σ H2=>∃ v v',σ=[some (.ref p),some (.ref q),some (.int x),v,v']/\Same H H2/\∀ j,j < i->¬ Lies fs ls x j) ⟨none,none,rfl,Same.refl _,fun j h=>absurd h (Nat.not_lt_zero _)⟩ (fun i σ H2 _ h9=>by obtain ⟨_,_,_,s,_⟩:=h9;exact SqT.of (s _ _ hp)) ?_ ?_⟩
  ·rintro i y σ H2 t hy ⟨v,v',rfl,s2,hi⟩ ht;have hil:i < fs.length:=by
    have:=(List.getElem?_eq_some_iff.mp hy).1;rw [length_map] at this;exact this
   rw [J1k hil] at hy;cases hy;have s3:Same H (upd H2 t (.tup [.int (i:Int),.int (fs.getD i 0)])):=s2.trans (J3 ht);have nxt:¬ Lies fs ls x i->∀ j,j < i + 1->¬ Lies fs ls x j:=fun n j hj=>by
    by_cases e:j=i
    ·rw [e];exact n
    ·exact hi j (by omega)
   refine ⟨t,_,rfl,SqT.of J1,rfl,_,_,rfl,_,_,rfl,rfl,?_⟩;refine ⟨_,rfl,_,rfl,_,_,rfl,rfl,_,rfl,?_⟩;by_cases c1:fs.getD i 0<=x
   ·refine iteDT c1 ?_;refine ⟨_,rfl,_,rfl,_,rfl,_,rfl,q,_,_,_,rfl,rfl,SqT.of (s3 _ _ hq),Jd (J1k (by rw [<- hl];exact hil)),_,_,rfl,rfl,_,_,rfl,rfl,_,rfl,?_⟩;by_cases c2:x < fs.getD i 0 + ls.getD i 0
    ·refine iteDT c2 ?_;exact ⟨_,rfl,k i _ s3 ⟨by rw [<- hl];exact hil,c1,c2⟩⟩
    ·exact iteD c2 ⟨_,_,rfl,s3,nxt fun q=>c2 q.2.2⟩
   ·exact iteD c1 (iteF ⟨_,_,rfl,s3,nxt fun q=>c1 q.2.1⟩)
  ·rintro σ H2 ⟨v,v',rfl,s2,hi⟩;rw [length_map] at hi;exact kx (fun j q=>hi j (by rw [hl];exact q.1) q) _ s2
abbrev startsN (ls:List Int):List Int:=firsts ls (List.range ls.length)
theorem Good.none {ls:List Int} {os:List Nat} (g:Good ls os) {y:Int} (n:∀ j,¬ Lies (firsts ls os) ls y j):¬ (0<=y/\y < ls.sum):=fun ⟨a,b⟩=>by obtain ⟨j,hj⟩:=g.ord.exists a b;exact n j hj
theorem Good.none0 {ls:List Int} {os:List Nat} (g:Good ls os) {y:Int} (n:∀ j,¬ Lies (startsN ls) ls y j):¬ (0<=y/\y < ls.sum):=fun ⟨a,b⟩=>by obtain ⟨j,hj⟩:=g.ord.range.exists a b;exact n j hj
def spAt (CO C:Addr):Sp:=fun vs H Q E=>∃ (x:Addr) (ls:List Int) (os:List Nat) (ts:List Bool) (y:Int),vs=[.ref x,.int y]/\LineAt C H x ls os ts/\Good ls os/\(∀ (j:Nat) H',Same H H'->Lies (startsN ls) ls y j->Q (.int j) H')/\
 (¬ (0<=y/\y < ls.sum)->∀ H',Same H H'->E (.ref CO) none H')
theorem scAt:FnScope ["line","x"] ["line","x"] (J9 sAt):=fS
theorem ok_at {f fH CO C:Addr} {fd fdH:FuncData} (F:Fun K "piece_at" "piece_at" sAt f fd) (TC:TxtC K mg C) (GH:FnOk P w K mg base (Exc1 P w) 1 fH fdH ["firsts","lengths","x"] (spHold CO)) (bH:Binds K fdH ["firsts","lengths","x"] []) (mH:mg "piece_holding"=some (.ref fH)) (kH:keepIn K (.ref fH)=true) :
  FnOk P w K mg base (Exc1 P w) 2 f fd ["line","x"] (spAt CO C):=by
 refine F.okX scAt (fun vs H Q E h=>?_) (fun cdv A outer s H vs Q E hr h=>?_)
 ·obtain ⟨x,ls,os,ts,y,rfl,_⟩:=h;rfl
 ·obtain ⟨x,ls,os,ts,y,rfl,L,g,k,kx⟩:=h;obtain ⟨dx,fl,pl,po,pt,ps,pd,h0,⟨k1,k2,k3,k4,k5,k6⟩,e1,e2,e3,e4,e5⟩:=L.ex;refine ⟨_,J6 (Ji (Jk GH hr rfl mH kH bH .nil pass1 (J0 (Jq (pv 0) rfl) (J0 (Jq (pv 0) rfl) (J0 (pv 1) J4))))),?_⟩;exact ⟨_,rfl,x,C,dx,fl,_,rfl,h0,TC.cl,TC.nS,k4,_,rfl,x,C,dx,fl,_,rfl,h0,TC.cl,TC.nL,k1,_,rfl,ps,pl,startsN ls,ls,y,rfl,e4,e1,J35 _ _,k,fun n=>kx (g.none0 n)⟩
def spCutD (C:Addr):Sp:=fun vs H Q _=>∃ (x:Addr) (ls:List Int) (os:List Nat) (ts:List Bool) (y:Int),vs=[.ref x,.int y]/\LineAt C H x ls os ts/\Good ls os/\ts.length=ls.length/\0<=y/\DRes C (cutR ls os ts y) H Q
theorem inV_ints (m:Int) (xs:List Int):inV (V.int m) (iV xs)=decide (m∈xs):=by
 unfold inV;rw [Bool.eq_iff_iff,List.any_eq_true,decide_eq_true_iff];constructor
 ·rintro ⟨y,hy,e⟩;obtain ⟨i,hi,rfl⟩:=mem_map.mp hy;have e':(i == m)=true:=e;exact eq_of_beq e' ▸ hi
 ·intro h;exact ⟨V.int m,mem_map.mpr ⟨m,h,rfl⟩,(beq_self_eq_true _:(m == m)=true)⟩
theorem flat_iV (xs:List Int):(iV xs).all flatV=true:=by
 rw [all_eq_true];intro y hy;obtain ⟨i,_,rfl⟩:=mem_map.mp hy;rfl
theorem J1a (xs:List V) (n:Nat) (h:n<=xs.length):cutV xs (some (n:Int)) none=xs.drop n:=by
 unfold cutV;rw [HT.sIx_nat,HT.sIx_none,Nat.min_eq_left h,List.take_of_length_le (by simp)]
theorem J1r (xs:List V) (n:Nat) (h:n<=xs.length):cutV xs none (some (n:Int))=xs.take n:=by
 unfold cutV;rw [HT.sIx_none,HT.sIx_nat,Nat.min_eq_left h,drop_zero,Nat.sub_zero]
theorem cut_good {ls:List Int} {os:List Nat} (G:Good ls os) {j:Nat} {a:Int} (t:Bool) (hj:j < ls.length) (a0:1<=a) (a1:a < ls.getD j 0) (h24:ls.length≠24):Good (cutLs ls j a) (cutOs os j t):=by
 have hi:=G.hi;refine ⟨by rw [J2b ls hj];omega,by rw [J2b ls hj];omega,fun b hb=>?_,by rw [cutLs_sum ls hj];exact G.sum,by rw [J2b ls hj];exact cutOs_perm G.perm hj⟩;unfold cutLs at hb;rcases mem_append.mp hb with hb | hb
 ·rcases mem_append.mp hb with hb | hb
  ·exact G.pos b (mem_of_mem_take hb)
  ·simp only [mem_cons,not_mem_nil,or_false] at hb;omega
 ·exact G.pos b (List.mem_of_mem_drop hb)
theorem scCutD:FnScope ["line","x","piece","left","parts","lengths","order","laid"] ["line","x"] (J9 sCut):=fS
theorem ok_cutD {f fAt fNC fI C CO:Addr} {fd fdAt fdNC fdI:FuncData} {t24:Tok} (F:Fun K "cut" "cut" sCut f fd) (T:TxtR mg) (TC:TxtC K mg C) (h24:mg "MOST_PIECES"=some (.int 24 t24))
  (GAt:FnOk P w K mg base (Exc1 P w) 2 fAt fdAt ["line","x"] (spAt CO C)) (bAt:Binds K fdAt ["line","x"] []) (mAt:mg "piece_at"=some (.ref fAt)) (kAt:keepIn K (.ref fAt)=true)
  (GNC:FnOk P w K mg base CX0 1 fNC fdNC ["line","cut_piece","piece"] (spNumsC C)) (bNC:Binds K fdNC ["line","cut_piece","piece"] []) (mNC:mg "numbers_behind_cut"=some (.ref fNC)) (kNC:keepIn K (.ref fNC)=true)
  (MI:Mk K C fI) (GI:FnOk P w K mg base CX0 3 fI fdI ["self","lengths","order","turned"] (J54 C)) (bI:Binds K fdI ["self","lengths","order","turned"] []) (mgI:mg "Line"=some (.ref C)) :
  FnOk P w K mg base CX0 5 f fd ["line","x"] (spCutD C):=by
 refine F.ok scCutD (fun vs H Q E h=>?_) (fun cdv A outer s H vs Q E hr h=>?_)
 ·obtain ⟨x,ls,os,ts,y,rfl,_⟩:=h;rfl
 ·obtain ⟨x,ls,os,ts,y,rfl,L,G,tl,y0,k⟩:=h;have hr1:Room 1 _:=rm hr;have hr2:Room 2 _:=rm hr;have hr4:Room 4 _:=rm hr;refine ⟨_,(J2 (ps_if (PW.pt (pw_or (Jc op_ge (pv 1) (Jq (pv 0) rfl) (Jg _)) (pw_or (Jc J41 (pv 1) (Jq (pv 0) rfl) rfl) (J3c (Jc op_eq (Jb J8 (by rfl) T.len boot_len (J0 (Jq (pv 0) rfl) J4)) (J3m (v:=.int 24) rfl h24 ⟨_,rfl⟩) (Jg _)))))) (J6 (Ji J1e)) Jh)
   (J2 (Jm (i:=2) scCutD.nd rfl (Or.inl rfl) (Jk GAt hr2 rfl mAt kAt bAt .nil passF (J0 (pv 0) (J0 (pv 1) J4))))
   (J2 (Jm (i:=3) scCutD.nd rfl (Or.inl rfl) (pe_op J4t (pv 1) (pe_ix J1z (Jq (pv 0) rfl) (pv 2) (fun _ _=>rfl))))
   (J2 (Jm (i:=4) scCutD.nd rfl (Or.inl rfl) (J1w (J0 (pv 3) (J0 (pe_op J4t (pe_ix J1z (Jq (pv 0) rfl) (pv 2) (fun _ _=>rfl)) (pv 3)) J4))))
   (J2 (J3e (Jm (i:=5) scCutD.nd rfl (Or.inl rfl) (pe_op op_catA (pe_op op_catA (Jo sl_tupA (Jq (pv 0) rfl) Jz (Js (pv 2))) (pv 4)) (Jo sl_tupA (Jq (pv 0) rfl) (Js (pe_op Jv (pv 2) J7)) Jz))))
   (J2 (Jm (i:=6) scCutD.nd rfl (Or.inl rfl) (J14 J4))
   (J2 (J4s PassesOwn.never rfl (pi_tup (Jq (pv 0) rfl)) (J10 (i:=7) scCutD.nd rfl (Or.inl rfl))
    (J6 (J1o (pe_bm PySem.F.plainAttrs_list PySem.F.slot_list_extend PySem.F.type_list_extend mt_extend (pv 6) (J0 (Jk GNC hr1 rfl mNC kNC bNC .nil pass0 (J0 (pv 0) (J0 (pv 2) (J0 (pv 7) J4)))) J4)))))
   (J6 (Ji (J2j MI GI hr4 rfl mgI bI .nil pass0 (J0 (pv 5) (J0 (pv 6) (J0 (pe_op op_catA (Jo sl_tupA (Jq (pv 0) rfl) Jz (Js (pe_op Jv (pv 2) J7))) (Jo sl_tupA (Jq (pv 0) rfl) (Js (pv 2)) Jz)) J4))))))))))))),?_⟩
  obtain ⟨dx,fs,pl,po,pt,ps,pd,h0,⟨k1,k2,k3,k4,k5,k6⟩,e1,e2,e3,e4,e5⟩:=L.ex;have O:=G.ord;have lo1:=G.lo;have hi1:=G.hi;have oln:=O.len;have sm:=Ju (n:=300) (by decide);have ll:(iV ls).length=ls.length:=length_map ..;unfold cutR at k;refine ⟨_,rfl,_,rfl,x,C,dx,fs,_,rfl,h0,TC.cl,TC.nZ,k6,_,_,rfl,rfl,_,rfl,?_⟩;by_cases c:ls.sum<=y
  ·rw [if_pos (.inl c)] at k;exact iteDT c (iteT (k.1 rfl H (Same.refl _)))
  refine iteD (show ¬ y>=ls.sum by omega) ?_;refine ⟨_,rfl,_,rfl,x,C,dx,fs,_,rfl,h0,TC.cl,TC.nS,k4,ps,_,rfl,.inr (SqT.of e4),rfl,flat_iV _,?_⟩;rw [inV_ints];refine ⟨_,rfl,?_⟩;by_cases c2:y∈firsts ls (List.range ls.length)
  ·rw [if_pos (.inr (.inl c2))] at k;exact iteDT c2 (iteT (k.1 rfl H (Same.refl _)))
  refine iteD c2 ⟨_,rfl,x,C,dx,fs,_,rfl,h0,TC.cl,TC.nL,k1,pl,_,rfl,.inr (SqT.of e1),rfl,_,rfl,?_⟩;rw [ll];by_cases c3:ls.length=24
  ·rw [if_pos (.inr (.inr c3))] at k;exact iteDT (by rw [c3];rfl) (k.1 rfl H (Same.refl _))
  rw [if_neg (fun z=>z.elim c fun z=>z.elim c2 c3)] at k;refine iteD (fun e=>c3 (by have:=V.int.inj e;omega)) ?_;refine ⟨_,rfl,_,rfl,x,ls,os,ts,y,rfl,L,G,fun j H1 s1 q=>?_,fun n=>absurd ⟨y0,by omega⟩ n⟩;have hj:=q.1;have pe:=pcL_eq O q;rw [pe] at k;have fj:(firsts ls (List.range ls.length)).length=ls.length:=J35 _ _;have q1:(firsts ls (List.range ls.length)).getD j 0<=y:=q.2.1;have q2:y < (firsts ls (List.range ls.length)).getD j 0 + ls.getD j 0:=q.2.2;have yne:y≠(firsts ls (List.range ls.length)).getD j 0:=fun e=>c2 (by rw [e];exact J13 (by omega));refine ⟨_,rfl,_,rfl,x,C,dx,fs,_,rfl,s1 _ _ h0,TC.cl,TC.nS,k4,_,rfl,ps,_,_,_,rfl,rfl,SqT.of (s1 _ _ e4),Jd (J1k (by omega)),_,_,rfl,rfl,?_⟩;refine ⟨_,rfl,_,rfl,x,C,dx,fs,_,rfl,s1 _ _ h0,TC.cl,TC.nL,k1,_,rfl,pl,_,_,_,rfl,rfl,SqT.of (s1 _ _ e1),Jd (J1k hj),_,rfl,_,_,rfl,rfl,by show 2<=sizeLine;omega,fun pp hpp=>?_⟩;have s2:=J3 (o:=.tup (iV [(y - (firsts ls (List.range ls.length)).getD j 0),ls.getD j 0 - (y - (firsts ls (List.range ls.length)).getD j 0)])) hpp;have h2:upd H1 pp (.tup (iV [(y - (firsts ls (List.range ls.length)).getD j 0),ls.getD j 0 - (y - (firsts ls (List.range ls.length)).getD j 0)])) pp=some (.tup (iV [(y - (firsts ls (List.range ls.length)).getD j 0),ls.getD j 0 - (y - (firsts ls (List.range ls.length)).getD j 0)])):=J1;have s02:=s1.trans s2;refine ⟨fun σ' H'=>∃ lp,σ'=[some (.ref x),some (.int y),some (.int (j:Nat)),some (.int (y - (firsts ls (List.range ls.length)).getD j 0)),some (.ref pp),some (.ref lp),none,none]/\H' lp=some (.tup (iV (cutLs ls j (y - (firsts ls (List.range ls.length)).getD j 0))))/\Same H H',?_,?_⟩
  ·change tAsg _ _ _ _ (upd H1 pp (.tup (iV [(y - (firsts ls (List.range ls.length)).getD j 0),ls.getD j 0 - (y - (firsts ls (List.range ls.length)).getD j 0)])));generalize upd H1 pp (.tup (iV [(y - (firsts ls (List.range ls.length)).getD j 0),ls.getD j 0 - (y - (firsts ls (List.range ls.length)).getD j 0)]))=H2 at s2 h2 s02 ⊢;refine ⟨_,rfl,x,C,dx,fs,_,rfl,s02 _ _ h0,TC.cl,TC.nL,k1,_,rfl,_,rfl,pl,_,rfl,s02 _ _ e1,fun p1 H3 s3 h3=>?_⟩;rw [J1r _ _ (by omega)] at h3;refine ⟨_,rfl,p1,pp,_,_,rfl,rfl,h3,s3 _ _ h2,by simp only [length_append,length_map,length_take,length_drop,length_cons,length_nil];omega,fun p2 H4 s4 h4=>?_⟩;have s04:=s02.trans (s3.trans s4);refine ⟨_,rfl,x,C,dx,fs,_,rfl,s04 _ _ h0,TC.cl,TC.nL,k1,_,rfl,_,_,rfl,rfl,_,rfl,pl,_,rfl,s04 _ _ e1,fun p3 H5 s5 h5=>?_⟩;have e5':((j:Nat):Int) + 1=((j + 1:Nat):Int):=by omega
   rw [show cutV (iV ls) (some (((j:Nat):Int) + 1)) none=(iV ls).drop (j + 1) by rw [e5',J1a _ _ (by omega)]] at h5;refine ⟨p2,p3,_,_,rfl,rfl,s5 _ _ h4,h5,by simp only [length_append,length_map,length_take,length_drop,length_cons,length_nil];omega,fun p4 H6 s6 h6=>⟨p4,rfl,?_,s04.trans (s5.trans s6)⟩⟩;rw [h6];refine congrArg (fun z=>some (HO.tup z)) ?_;unfold cutLs;show _=List.map V.int _;rw [map_append,map_append,map_take,map_drop]
  rintro σ H3 ⟨lp,rfl,hlp,s3⟩;obtain ⟨a,ea⟩:∃ a,a=(y - (firsts ls (List.range ls.length)).getD j 0):=⟨_,rfl⟩;rw [<- ea] at hlp k ⊢;clear s2 h2 s02 hpp;refine ⟨Nat.zero_le _,fun op hop=>?_⟩;have s4:=J3 (o:=.lst []) hop;have h4:upd H3 op (.lst []) op=some (.lst []):=J1;have s04:=s3.trans s4;have hlp4:=s4 _ _ hlp;have nop:H op=none:=s3.free hop;generalize upd H3 op (.lst [])=H4 at s4 h4 s04 hlp4 ⊢;refine ⟨_,rfl,x,C,dx,fs,_,rfl,s04 _ _ h0,TC.cl,TC.nO,k2,po,rfl,⟨_,SqT.of (s04 _ _ e2)⟩,for_tup (K:=K) (a:=po) (xs:=nV os) (fun i σ Hw=>∃ v,σ=[some (.ref x),some (.int y),some (.int (j:Nat)),some (.int a),some (.ref pp),some (.ref lp),some (.ref op),v]/\Hw op=some (.lst (nV ((os.take i).flatMap (cutO j (ts.getD j false)))))/\((os.take i).flatMap (cutO j (ts.getD j false))).length<=2 * i/\Same H3 Hw)
   ⟨none,rfl,h4,Nat.zero_le _,s4⟩ (fun i σ Hw _ ⟨_,_,_,_,sw⟩=>SqT.of ((s3.trans sw) _ _ e2)) ?_ ?_⟩
  ·rintro i v σ Hw hv ⟨v0,rfl,hw,wl,sw⟩;obtain ⟨hi,rfl,hm⟩:=nV_get hv;have sHw:=s3.trans sw;refine ⟨_,rfl,.inl ⟨rfl,_,SqL.of hw⟩,_,rfl,_,rfl,_,rfl,x,ls,os,ts,j,os.getD i 0,rfl,L.same sHw,by omega,fun l H5 s5 hl nl=>?_⟩;have cl:(cutO j (ts.getD j false) (os.getD i 0)).length<=2:=by
    unfold cutO;split
    ·simp
    ·split
     ·simp
     ·split <;> simp
   have tk:os.take (i + 1)=os.take i ++ [os.getD i 0]:=by
    rw [take_succ,getD_eq_getElem?_getD,List.getElem?_eq_getElem hi];rfl
   refine ⟨op,l,_,_,rfl,rfl,s5 _ _ hw,hl,by rw [J3g,J3g];omega,_,rfl,?_,?_,fun b u e=>?_⟩
   ·rw [J1,tk,List.flatMap_append];refine congrArg (fun z=>some (HO.lst z)) ?_;rw [nV_eq,nV_eq,nV_eq,<- map_append];simp
   ·rw [tk,List.flatMap_append,length_append];simp only [flatMap_cons,List.flatMap_nil,append_nil];omega
   ·rw [Je (Ja e hop)];exact s5 _ _ (sw _ _ e)
  ·rintro σ Hw ⟨v0,rfl,hw,wl,sw⟩;have e0:(nV os).length=os.length:=J3g os;rw [e0,take_length] at hw;have hw':Hw op=some (.lst (nV (cutOs os j (ts.getD j false)))):=hw;have sHw:=s3.trans sw;have lt':(bV ts).length=ls.length:=(length_map ..).trans tl;refine ⟨_,rfl,_,rfl,_,rfl,x,C,dx,fs,_,rfl,sHw _ _ h0,TC.cl,TC.nT,k3,_,rfl,_,_,rfl,rfl,_,rfl,pt,_,rfl,sHw _ _ e3,fun q1' Ha sa ha=>?_⟩;have e5':((j:Nat):Int) + 1=((j + 1:Nat):Int):=by omega
   rw [show cutV (bV ts) none (some (((j:Nat):Int) + 1))=(bV ts).take (j + 1) by rw [e5',J1r _ _ (by omega)]] at ha;have sHa:=sHw.trans sa;refine ⟨_,rfl,x,C,dx,fs,_,rfl,sHa _ _ h0,TC.cl,TC.nT,k3,_,rfl,_,rfl,pt,_,rfl,sHa _ _ e3,fun q2' Hb sb hb=>?_⟩;rw [J1a _ _ (by omega)] at hb;refine ⟨q1',q2',_,_,rfl,rfl,sb _ _ ha,hb,by simp only [length_append,length_map,length_take,length_drop,length_cons,length_nil];omega,fun q3' Hc sc hc=>?_⟩;have hc':Hc q3'=some (.tup (bV (cutTs ts j))):=by
    rw [hc];refine congrArg (fun z=>some (HO.tup z)) ?_;unfold cutTs;show _=List.map V.bl _;rw [map_append,map_take,map_drop]
   have sHc:=sHa.trans (sb.trans sc);have swc:=sa.trans (sb.trans sc);have G2:=cut_good G (ts.getD j false) hj (a:=a) (by omega) (by omega) c3;have tl2:(cutTs ts j).length=(cutLs ls j a).length:=by rw [cutTs_len ts (by omega),J2b ls hj];omega
   intro z dz hz hdz hne;exact J2q sHc (.inr (swc _ _ (sw _ _ hlp))) (.inl (swc _ _ hw')) G2 tl2 (.inr hc') (fun z H' sz LZ=>k.2 _ _ _ rfl z H' sz LZ G2 tl2) z dz hz hdz hne
noncomputable def lbR (w:Str) (ns:List Int) (ls:List Int) (os:List Nat) (ts:List Bool):Option T3 :=
 if w=Str.ofString "cut"/\ns.length=1 then cutR ls os ts (ns.getD 0 0) else if w=Str.ofString "turn"/\ns.length=1 then turnR ls os ts (ns.getD 0 0) else
 if w=Str.ofString "lay"/\ns.length=2 then layR ls os ts (ns.getD 0 0) (ns.getD 1 0) else if w=Str.ofString "long"/\ns.length=2 then longR ls os ts (ns.getD 0 0) (ns.getD 1 0) else none
structure RowW (z:Str) (w:Str) (ns:List Int):Prop where
 e:z=Txt.join sp1 (w :: ns.map numS)
 free:32 ∉ w.cps.toList
 len:w.length<=100
 num:∀ n∈ns,0<=n/\n < 10 ^ 40
 few:ns.length<=10
theorem RowW.split {z w:Str} {ns:List Int} (h:RowW z w ns):Txt.split z sp1=w :: ns.map numS:=by
 rw [h.e];exact J3x h.free fun y hy=>by
  obtain ⟨n,hn,rfl⟩:=mem_map.mp hy;intro c;have:=J18 (h.num n hn).1 _ c;lia
theorem RowW.short {z w:Str} {ns:List Int} (h:RowW z w ns):z.length<=100000:=by
 rw [h.e];have c1:sp1.length=1:=by decide +kernel
 have h1:=J1y (B:=100) (sep:=sp1) (ys:=w :: ns.map numS) (fun y hy=>by
  rcases mem_cons.mp hy with rfl | hy
  ·exact h.len
  ·obtain ⟨n,hn,rfl⟩:=mem_map.mp hy;have:=h.num n hn;exact Nat.le_trans (Jx (by lia)) (by decide))
 rw [length_cons,length_map,c1] at h1;have:=h.few;lia
theorem J46 (w v:Str) (n m:Int):Kin [V.str w,V.int n] [V.str v,V.int m]:=fun a ha b hb=>by
 simp only [mem_cons,not_mem_nil,or_false] at ha hb;rcases ha with rfl | rfl <;> rcases hb with rfl | rfl <;> refine ⟨rfl,rfl,?_⟩
 ·show (w == v)=decide (V.str w=V.str v);rw [Bool.eq_iff_iff,beq_iff_eq,decide_eq_true_iff];exact ⟨fun e=>by rw [e],fun e=>V.str.inj e⟩
 ·exact (decide_eq_false (fun e=>by cases e)).symm
 ·exact (decide_eq_false (fun e=>by cases e)).symm
 ·show (n == m)=decide (V.int n=V.int m);rw [Bool.eq_iff_iff,beq_iff_eq,decide_eq_true_iff];exact ⟨fun e=>by rw [e],fun e=>V.int.inj e⟩
theorem J1p (w v:Str) (n m:Int):([V.str w,V.int n]=[V.str v,V.int m])↔(w=v/\n=m):=by
 constructor
 ·intro e;injection e with e1 e2
  injection e2 with e3 _
  exact ⟨V.str.inj e1,V.int.inj e3⟩
 ·rintro ⟨rfl,rfl⟩;rfl
theorem inV_non (ns:List Int):inV V.non (iV ns)=false:=by
 unfold inV;rw [List.any_eq_false];intro y hy;obtain ⟨i,_,rfl⟩:=mem_map.mp hy;exact Bool.false_ne_true
def spLineB (C:Addr):Sp:=fun vs H Q _=>∃ (x:Addr) (ls:List Int) (os:List Nat) (ts:List Bool) (z w:Str) (ns:List Int),vs=[.ref x,.str z]/\LineAt C H x ls os ts/\Good ls os/\ts.length=ls.length/\RowW z w ns/\DRes C (lbR w ns ls os ts) H Q
theorem DRes.same {C:Addr} {r:Option T3} {H H1:Hp} {Q:VK} (h:DRes C r H Q) (s:Same H H1):DRes C r H1 Q:=⟨fun e H' s'=>h.1 e H' (s.trans s'),fun l o t e z H' s'=>h.2 l o t e z H' (s.trans s')⟩
theorem scLineB:FnScope ["line","row","words","numbers","form"] ["line","row"] (J9 sLineB):=fS
theorem ok_lineB {f fNB fCt fTn fLa fLo C:Addr} {fd fdNB fdCt fdTn fdLa fdLo:FuncData}  (F:Fun K "line_behind" "line_behind" sLineB f fd) (T:TxtR mg)
  (GNB:FnOk P w K mg base CX0 2 fNB fdNB ["word"] spNumT) (bNB:Binds K fdNB ["word"] []) (mNB:mg "number_told"=some (.ref fNB)) (kNB:keepIn K (.ref fNB)=true)
  (GCt:FnOk P w K mg base CX0 5 fCt fdCt ["line","x"] (spCutD C)) (bCt:Binds K fdCt ["line","x"] []) (mCt:mg "cut"=some (.ref fCt)) (kCt:keepIn K (.ref fCt)=true)
  (GTn:FnOk P w K mg base CX0 5 fTn fdTn ["line","piece"] (spTurnD C)) (bTn:Binds K fdTn ["line","piece"] []) (mTn:mg "turned_about"=some (.ref fTn)) (kTn:keepIn K (.ref fTn)=true)
  (GLa:FnOk P w K mg base CX0 5 fLa fdLa ["line","piece","position"] (spLayD C)) (bLa:Binds K fdLa ["line","piece","position"] []) (mLa:mg "laid_at"=some (.ref fLa)) (kLa:keepIn K (.ref fLa)=true)
  (GLo:FnOk P w K mg base CX0 5 fLo fdLo ["line","piece","length"] (spLongD C)) (bLo:Binds K fdLo ["line","piece","length"] []) (mLo:mg "made_long"=some (.ref fLo)) (kLo:keepIn K (.ref fLo)=true) :
  FnOk P w K mg base CX0 6 f fd ["line","row"] (spLineB C):=by
 refine F.ok scLineB (fun vs H Q E h=>?_) (fun cdv A outer s H vs Q E hr h=>?_)
 ·obtain ⟨x,ls,os,ts,z,w,ns,rfl,_⟩:=h;rfl
 ·obtain ⟨x,ls,os,ts,z,w,ns,rfl,L,G,tl,R,k⟩:=h;have hr2:Room 2 _:=rm hr;have hr5:Room 5 _:=rm hr;have hu:=hr.units0;refine ⟨_,(J2 (Jm (i:=2) scLineB.nd rfl (Or.inl rfl) (pe_bm PySem.F.plainAttrs_str PySem.F.slot_str_split PySem.F.type_str_split J2d (pv 1) (J0 Jn J4)))
   (J2 (ps_lc (i:=3) (caps:=[]) (js:=[]) scLineB.nd rfl (Or.inl rfl) rfl (J2i (Jo J11 (pv 2) (Js J7) Jz)) rfl (fun _ _ _ _=>J1l) (fun C fp s H=>(Jk GNB hr2 rfl mNB kNB bNB .nil pass0 (J0 (pv 0) J4))) (by decide +kernel) (by decide +kernel) (by decide +kernel) (by intro p hp;cases hp))
   (J2 (ps_if (Jc J41 J1e (pv 3) rfl) (J6 (Ji J1e)) Jh)
   (J2 (Jm (i:=4) scLineB.nd rfl (Or.inl rfl) (J1w (J0 (pe_ix Jf (pv 2) J7 (fun _ _=>rfl)) (J0 (Jb J8 (by rfl) T.len boot_len (J0 (pv 3) J4)) J4))))
   (J2 (ps_if (Jc (op_eqT hu) (pv 4) (J1w (J0 Jn (J0 J7 J4))) (Jg _)) (J6 (Ji (Jk GCt hr5 rfl mCt kCt bCt .nil pass0 (J0 (pv 0) (J0 (pe_ix Jf (pv 3) J7 (fun _ _=>rfl)) J4))))) Jh)
   (J2 (ps_if (Jc (op_eqT hu) (pv 4) (J1w (J0 Jn (J0 J7 J4))) (Jg _)) (J6 (Ji (Jk GTn hr5 rfl mTn kTn bTn .nil pass0 (J0 (pv 0) (J0 (pe_ix Jf (pv 3) J7 (fun _ _=>rfl)) J4))))) Jh)
   (J2 (ps_if (Jc (op_eqT hu) (pv 4) (J1w (J0 Jn (J0 J7 J4))) (Jg _)) (J6 (Ji (Jk GLa hr5 rfl mLa kLa bLa .nil pass0 (J0 (pv 0) (J0 (pe_ix Jf (pv 3) J7 (fun _ _=>rfl)) (J0 (pe_ix Jf (pv 3) J7 (fun _ _=>rfl)) J4)))))) Jh)
   (J2 (ps_if (Jc (op_eqT hu) (pv 4) (J1w (J0 Jn (J0 J7 J4))) (Jg _)) (J6 (Ji (Jk GLo hr5 rfl mLo kLo bLo .nil pass0 (J0 (pv 0) (J0 (pe_ix Jf (pv 3) J7 (fun _ _=>rfl)) (J0 (pe_ix Jf (pv 3) J7 (fun _ _=>rfl)) J4)))))) Jh)
   (J6 (Ji J1e)))))))))),?_⟩
  have e0:=R.split;have zs:=R.short;have few:=R.few;have z2:2<=sizeLine:=by rw [sizeLine_eq];decide
  refine ⟨_,rfl,rfl,z,_,rfl,rfl,(by decide +kernel),(by rw [sizeLine_eq];lia),fun d hd=>?_⟩;rw [e0];have s1:=J3 (o:=.lst ((w :: ns.map numS).map V.str)) hd;have hd1:upd H d (.lst ((w :: ns.map numS).map V.str)) d=some (.lst ((w :: ns.map numS).map V.str)):=J1;generalize upd H d (.lst ((w :: ns.map numS).map V.str))=H1 at s1 hd1 ⊢;refine ⟨_,rfl,_,rfl,d,_,rfl,SqL.of hd1,fun l hl=>?_⟩;rw [map_cons,J37];have s2:=J3 (o:=.lst ((ns.map numS).map V.str)) hl;have hl2:upd H1 l (.lst ((ns.map numS).map V.str)) l=some (.lst ((ns.map numS).map V.str)):=J1;generalize upd H1 l (.lst ((ns.map numS).map V.str))=H2 at s2 hl2 ⊢;rw [map_map] at hl2;refine ⟨l,rfl,⟨_,SqL.of hl2⟩,fun np hnp=>lc_lst (fun n:Int=>V.str (numS n)) ns (fun _=>true) (fun n=>V.int n) (SqL.of hl2) (by lia) hnp (fun _ _ H _ _ q=>q H (Same.refl _)) (fun n hn H3 Qe _ s3 q=>?_) (fun H3 s3 h3=>?_)⟩
  ·exact ⟨_,rfl,n,rfl,(R.num n hn).1,(R.num n hn).2,fun H' s'=>q H' s'⟩
  rw [Jt] at h3;have h3':H3 np=some (.lst (iV ns)):=h3;have ll:(iV ns).length=ns.length:=length_map ..;refine ⟨_,rfl,np,_,rfl,.inl (SqL.of h3'),rfl,flat_iV ns,false,(by rw [inV_non];rfl),iteF ?_⟩;have s03:=s1.trans (s2.trans s3);have hd3:=s3 _ _ (s2 _ _ hd1);refine ⟨_,rfl,d,_,_,_,rfl,rfl,SqL.of hd3,Jd (j:=0) rfl,_,rfl,np,_,rfl,.inl (SqL.of h3'),z2,fun fm hfm=>?_⟩;have s4:=J3 (o:=.tup [V.str w,V.int (((iV ns).length:Nat):Int)]) hfm;have h4:upd H3 fm (.tup [V.str w,V.int (((iV ns).length:Nat):Int)]) fm=some (.tup [V.str w,V.int (((iV ns).length:Nat):Int)]):=J1;have h4n:=s4 _ _ h3';have s04:=s03.trans s4;generalize upd H3 fm (.tup [V.str w,V.int (((iV ns).length:Nat):Int)])=H4 at s4 h4 h4n s04 ⊢;rw [ll] at h4;have k4:=k.same s04;have L4:=L.same s04;unfold lbR at k4;clear k s1 s2 s3 s03 s04 s4 hd1 hd3 hl2 h3 h3' hd hl hnp hfm L;refine ⟨_,rfl,z2,fun t1 ht1=>?_⟩;have u:=J3 (o:=.tup [V.str (Str.ofString "cut"),V.int 1]) ht1;refine ⟨fm,t1,_,_,rfl,rfl,SqT.of (u _ _ h4),SqT.of J1,J46 _ _ _ _,_,rfl,?_⟩;have h4:=u _ _ h4;have h4n:=u _ _ h4n;have k4:=k4.same u;have L4:=L4.same u;by_cases c:w=Str.ofString "cut"/\ns.length=1
  ·rw [if_pos c] at k4;refine iteDT ((J1p _ _ _ _).mpr ⟨c.1,by rw [c.2];rfl⟩) ?_;refine ⟨_,rfl,_,rfl,np,_,_,_,rfl,rfl,SqL.of h4n,Jd (j:=0) (J1k (by lia)),x,ls,os,ts,_,rfl,L4,G,tl,(R.num _ (J13 (by lia))).1,k4⟩
  rw [if_neg c] at k4;refine iteD (fun e=>c (by have:=(J1p _ _ _ _).mp e;exact ⟨this.1,by lia⟩)) ?_;clear c u;generalize upd H4 t1 (.tup [V.str (Str.ofString "cut"),V.int 1])=H5 at h4 h4n k4 L4 ⊢;refine ⟨_,rfl,z2,fun t1 ht1=>?_⟩;have u:=J3 (o:=.tup [V.str (Str.ofString "turn"),V.int 1]) ht1;refine ⟨fm,t1,_,_,rfl,rfl,SqT.of (u _ _ h4),SqT.of J1,J46 _ _ _ _,_,rfl,?_⟩;have h4:=u _ _ h4;have h4n:=u _ _ h4n;have k4:=k4.same u;have L4:=L4.same u;by_cases c:w=Str.ofString "turn"/\ns.length=1
  ·rw [if_pos c] at k4;refine iteDT ((J1p _ _ _ _).mpr ⟨c.1,by rw [c.2];rfl⟩) ?_;refine ⟨_,rfl,_,rfl,np,_,_,_,rfl,rfl,SqL.of h4n,Jd (j:=0) (J1k (by lia)),x,ls,os,ts,_,rfl,L4,G,tl,(R.num _ (J13 (by lia))).1,k4⟩
  rw [if_neg c] at k4;refine iteD (fun e=>c (by have:=(J1p _ _ _ _).mp e;exact ⟨this.1,by lia⟩)) ?_;clear c u;generalize upd H5 t1 (.tup [V.str (Str.ofString "turn"),V.int 1])=H6 at h4 h4n k4 L4 ⊢;refine ⟨_,rfl,z2,fun t1 ht1=>?_⟩;have u:=J3 (o:=.tup [V.str (Str.ofString "lay"),V.int 2]) ht1;refine ⟨fm,t1,_,_,rfl,rfl,SqT.of (u _ _ h4),SqT.of J1,J46 _ _ _ _,_,rfl,?_⟩;have h4:=u _ _ h4;have h4n:=u _ _ h4n;have k4:=k4.same u;have L4:=L4.same u;by_cases c:w=Str.ofString "lay"/\ns.length=2
  ·rw [if_pos c] at k4;refine iteDT ((J1p _ _ _ _).mpr ⟨c.1,by rw [c.2];rfl⟩) ?_;refine ⟨_,rfl,_,rfl,np,_,_,_,rfl,rfl,SqL.of h4n,Jd (j:=0) (J1k (by lia)),_,rfl,np,_,_,_,rfl,rfl,SqL.of h4n,Jd (j:=1) (J1k (by lia)),x,ls,os,ts,_,_,rfl,L4,G,tl,(R.num _ (J13 (by lia))).1,(R.num _ (J13 (by lia))).1,k4⟩
  rw [if_neg c] at k4;refine iteD (fun e=>c (by have:=(J1p _ _ _ _).mp e;exact ⟨this.1,by lia⟩)) ?_;clear c u;generalize upd H6 t1 (.tup [V.str (Str.ofString "lay"),V.int 2])=H7 at h4 h4n k4 L4 ⊢;refine ⟨_,rfl,z2,fun t1 ht1=>?_⟩;have u:=J3 (o:=.tup [V.str (Str.ofString "long"),V.int 2]) ht1;refine ⟨fm,t1,_,_,rfl,rfl,SqT.of (u _ _ h4),SqT.of J1,J46 _ _ _ _,_,rfl,?_⟩;have h4:=u _ _ h4;have h4n:=u _ _ h4n;have k4:=k4.same u;have L4:=L4.same u;by_cases c:w=Str.ofString "long"/\ns.length=2
  ·rw [if_pos c] at k4;refine iteDT ((J1p _ _ _ _).mpr ⟨c.1,by rw [c.2];rfl⟩) ?_;refine ⟨_,rfl,_,rfl,np,_,_,_,rfl,rfl,SqL.of h4n,Jd (j:=0) (J1k (by lia)),_,rfl,np,_,_,_,rfl,rfl,SqL.of h4n,Jd (j:=1) (J1k (by lia)),x,ls,os,ts,_,_,rfl,L4,G,tl,(R.num _ (J13 (by lia))).1,(R.num _ (J13 (by lia))).1,k4⟩
  rw [if_neg c] at k4;refine iteD (fun e=>c (by have:=(J1p _ _ _ _).mp e;exact ⟨this.1,by lia⟩)) ?_;clear c u;generalize upd H7 t1 (.tup [V.str (Str.ofString "long"),V.int 2])=H8 at h4 h4n k4 L4 ⊢;exact k4.1 rfl _ (Same.refl _)
structure TxtD (K:PySem.W.Frag) (CD:Addr):Prop where
 cl:Cls K CD
 nl:NoAttr K CD "lines"
 nc:NoAttr K CD "chart"
abbrev dkF (lp:Addr):List (Str × V):=[("lines",.ref lp),("chart",.non)]
structure LnsAt (C:Addr) (H:Hp) (xs:List Addr) (ss:List T3):Prop where
 len:xs.length=ss.length
 at_:∀ (i:Nat) (x:Addr) (s:T3),xs[i]?=some x->ss[i]?=some s->LineAt C H x s.1 s.2.1 s.2.2
def OkS (s:T3):Prop:=Good s.1 s.2.1/\s.2.2.length=s.1.length
structure DeskAt (CD C:Addr) (H:Hp) (x lp:Addr) (ss:List T3):Prop where
 ex:∃ dx xs,H x=some (.ins CD dx (dkF lp))/\H lp=some (.lst (xs.map V.ref))/\LnsAt C H xs ss
 ne:ss≠[]
 ok:∀ s∈ss,OkS s
 few:ss.length<=1000
theorem LnsAt.same {C:Addr} {H H':Hp} {xs:List Addr} {ss:List T3} (h:LnsAt C H xs ss) (s:Same H H'):LnsAt C H' xs ss:=⟨h.len,fun i x t e1 e2=>(h.at_ i x t e1 e2).same s⟩
theorem LineAt.keepL {C:Addr} {H H':Hp} {x lp:Addr} {ys:List V} {ls:List Int} {os:List Nat} {ts:List Bool} (h:LineAt C H x ls os ts) (h0:H lp=some (.lst ys)) (k:KeepX lp H H'):LineAt C H' x ls os ts:=by
 obtain ⟨dx,fs,pl,po,pt,ps,pd,a0,hl,h1,h2,h3,h4,h5⟩:=h.ex;have n:∀ {b:Addr} {zs:List V},H b=some (.tup zs)->b≠lp:=fun e z=>by rw [z,h0] at e;cases e
 exact ⟨dx,fs,pl,po,pt,ps,pd,k _ _ a0 (fun z=>by rw [z,h0] at a0;cases a0),hl,k _ _ h1 (n h1),k _ _ h2 (n h2),k _ _ h3 (n h3),k _ _ h4 (n h4),k _ _ h5 (n h5)⟩
theorem LnsAt.keepL {C:Addr} {H H':Hp} {lp:Addr} {ys:List V} {xs:List Addr} {ss:List T3} (h:LnsAt C H xs ss) (h0:H lp=some (.lst ys)) (k:KeepX lp H H'):LnsAt C H' xs ss:=⟨h.len,fun i x t e1 e2=>(h.at_ i x t e1 e2).keepL h0 k⟩
theorem DeskAt.same {CD C:Addr} {H H':Hp} {x lp:Addr} {ss:List T3} (h:DeskAt CD C H x lp ss) (s:Same H H'):DeskAt CD C H' x lp ss:=by
 obtain ⟨dx,xs,h1,h2,h3⟩:=h.ex;exact ⟨⟨dx,xs,s _ _ h1,s _ _ h2,h3.same s⟩,h.ne,h.ok,h.few⟩
def lastS (ss:List T3):T3:=ss.getD (ss.length - 1) ([],[],[])
theorem J5n {ss:List T3} (h:ss≠[]):lastS ss∈ss:=by
 have:0 < ss.length:=length_pos_iff.mpr h;unfold lastS;rw [getD_eq_getElem?_getD,List.getElem?_eq_getElem (by lia)];exact getElem_mem _
theorem last_get {ss:List T3} (h:ss≠[]):ss[ss.length - 1]?=some (lastS ss):=by
 have:0 < ss.length:=length_pos_iff.mpr h;unfold lastS;rw [getD_eq_getElem?_getD,List.getElem?_eq_getElem (by lia)];rfl
theorem atI_last {α:Type} {xs:List α} {x:α} (h:xs[xs.length - 1]?=some x):atI xs (-1)=some x:=by
 have hl:0 < xs.length:=by
  rcases xs with _ | ⟨a,r⟩
  ·cases h
  ·simp
 unfold atI ixN;rw [if_neg (by decide),if_pos (by lia)];show xs[(-1 + (xs.length:Int)).toNat]?=_;rw [show (-1 + (xs.length:Int)).toNat=xs.length - 1 by lia];exact h
theorem LnsAt.last {C:Addr} {H:Hp} {xs:List Addr} {ss:List T3} (h:LnsAt C H xs ss) (ne:ss≠[]):∃ y,xs[xs.length - 1]?=some y/\atI (xs.map V.ref) (-1)=some (V.ref y)/\LineAt C H y (lastS ss).1 (lastS ss).2.1 (lastS ss).2.2:=by
 have l0:0 < ss.length:=length_pos_iff.mpr ne;have ll:=h.len;have hx:xs.length - 1 < xs.length:=by lia
 have e:=List.getElem?_eq_getElem hx;refine ⟨_,e,atI_last (by rw [length_map,getElem?_map,e];rfl),h.at_ _ _ _ e (by rw [ll];exact last_get ne)⟩
def J2h (CD C:Addr):Sp:=fun vs H Q _=>∃ (x lp:Addr) (ss:List T3),vs=[.ref x]/\DeskAt CD C H x lp ss/\Q (.int ((ss.length:Int) - 1)) H
def J3j (CD C:Addr):Sp:=fun vs H Q _=>∃ (x lp:Addr) (ss:List T3),vs=[.ref x]/\DeskAt CD C H x lp ss/\∀ H',Same H H'->Q (.str (textS (lastS ss).1 (lastS ss).2.1 (lastS ss).2.2)) H'
def spDUnl (CD C CR:Addr):Sp:=fun vs H Q E=>∃ (x lp:Addr) (ss:List T3) (v:V),vs=[.ref x,v]/\DeskAt CD C H x lp ss/\(v≠.non->Q v H)/\(v=.non->∀ H' dx,Same H H'->H' dx=some (.xd [("at",.int (ss.length:Int))])->E (.ref CR) (some dx) H')
def spDInit (CD C:Addr):Sp:=fun vs H Q _=>∃ (x dx:Addr) (z:Str) (s:T3),vs=[.ref x,.str z]/\H x=some (.ins CD dx [])/\Txf z s.1 s.2.1 s.2.2/\OkS s/\∀ lp H',KeepX x H H'->H lp=none->DeskAt CD C H' x lp [s]->Q .non H'
def spDDo (CD C CR:Addr):Sp:=fun vs H Q E=>∃ (x lp:Addr) (ss:List T3) (z w:Str) (ns:List Int),vs=[.ref x,.str z]/\DeskAt CD C H x lp ss/\RowW z w ns/\ss.length<=900/\
 (z=Str.ofString "back"->1 < ss.length->∀ H',KeepX lp H H'->DeskAt CD C H' x lp ss.dropLast->Q .non H')/\
 (¬ (z=Str.ofString "back"/\1 < ss.length)->(∀ t,lbR w ns (lastS ss).1 (lastS ss).2.1 (lastS ss).2.2=some t->∀ H',KeepX lp H H'->DeskAt CD C H' x lp (ss ++ [t])->Q .non H')/\
  (lbR w ns (lastS ss).1 (lastS ss).2.1 (lastS ss).2.2=none->∀ H' dx,Same H H'->H' dx=some (.xd [("at",.int (ss.length:Int))])->E (.ref CR) (some dx) H'))
structure TxtBR (K:PySem.W.Frag) (mg:Str->Option Value) (CB fB:Addr):Prop where
 mg:mg "BadRow"=some (.ref CB)
 ex:excInI K CB bmV "ValueError.__new__" fB=true
 fn:isFn K (.ref fB)=true
theorem scDLeft:FnScope ["self"] ["self"] (J9 sDLeft):=fS
theorem ok_dleft {f  CD C : Addr} {fd  : FuncData}  (F : Fun K "left" "Desk.left" sDLeft f fd) (T : TxtR mg) (TD : TxtD K CD)
 :
    FnOk P w K mg base CX0 1 f fd ["self"] (J2h CD C) := by
  refine F.ok scDLeft (fun vs H Q E h => ?_) (fun cdv A outer s H vs Q E hr h => ?_)
  · obtain ⟨x, lp, ss, rfl, _⟩ := h
    rfl
  · obtain ⟨x, lp, ss, rfl, DK, k⟩ := h
    refine ⟨_, (J6 (Ji (pe_op J4t (Jb J8 (by rfl) T.len boot_len (J0 (Jq (pv 0) rfl) J4)) J7))), ?_⟩;obtain ⟨dx, xs, hx, hl, LN⟩ := DK.ex;refine ⟨_, rfl, x, CD, dx, _, _, rfl, hx, TD.cl, TD.nl, rfl, lp, _, rfl, .inl (SqL.of hl), _, _, rfl, rfl, ?_⟩;rw [length_map, LN.len];exact k
theorem scDText:FnScope ["self"] ["self"] (J9 sDText):=fS
theorem ok_dtext {f fWr CD C:Addr} {fd fdWr:FuncData}  (F:Fun K "text" "Desk.text" sDText f fd) (TD:TxtD K CD)
  (GWr:FnOk P w K mg base CX0 2 fWr fdWr ["line"] (spWritten C)) (bWr:Binds K fdWr ["line"] []) (mWr:mg "written"=some (.ref fWr)) (kWr:keepIn K (.ref fWr)=true) :
  FnOk P w K mg base CX0 3 f fd ["self"] (J3j CD C):=by
 refine F.ok scDText (fun vs H Q E h=>?_) (fun cdv A outer s H vs Q E hr h=>?_)
 ·obtain ⟨x,lp,ss,rfl,_⟩:=h;rfl
 ·obtain ⟨x,lp,ss,rfl,DK,k⟩:=h;have hr2:Room 2 _:=rm hr;refine ⟨_,(J6 (Ji (Jk GWr hr2 rfl mWr kWr bWr .nil pass0 (J0 (pe_ix Jf (Jq (pv 0) rfl) (pe_un un_neg J7) (fun _ _=>rfl)) J4)))),?_⟩;obtain ⟨dx,xs,hx,hl,LN⟩:=DK.ex;obtain ⟨y,ey,eI,L⟩:=LN.last DK.ne;have ok:=DK.ok _ (J5n DK.ne);exact ⟨_,rfl,x,CD,dx,_,_,rfl,hx,TD.cl,TD.nl,rfl,_,rfl,lp,_,_,_,rfl,rfl,SqL.of hl,eI,y,_,_,_,rfl,L,ok.1,ok.2,k⟩
theorem scDUnl:FnScope ["self","told"] ["self","told"] (J9 sDUnl):=fS
theorem ok_dunl {f  CD C CR fB : Addr} {fd  : FuncData} {fdB : FuncData} (F : Fun K "unless_refused" "Desk.unless_refused" sDUnl f fd) (TB : TxtBR K mg CR fB) (GB : FnOk P w K mg base CX0 1 fB fdB ["self", "at"] (spXInit CR "at")) (bB : Binds K fdB ["self", "at"] []) (HLe : HasM P w K mg base CX0 1 "left" ["self"] (J2h CD C) CD)
 :
    FnOk P w K mg base (Exc2 P w) 3 f fd ["self", "told"] (spDUnl CD C CR) := by
  refine F.okX2 scDUnl (fun vs H Q E h => ?_) (fun cdv A outer s H vs Q E hr h => ?_)
  · obtain ⟨x, lp, ss, v, rfl, _⟩ := h
    rfl
  · obtain ⟨x, lp, ss, v, rfl, DK, kq, kx⟩ := h
    have hr1 : Room 1 _ := rm hr;have hr2 : Room 2 _ := rm hr;refine ⟨_, (J2 (ps_if (Jc op_isN (pv 1) J1e (Jg _)) (J6 (ps_raiseE rfl TB.mg TB.ex TB.fn GB hr2 bB (J0 (pe_op Jv (J26 (sp := fun _ : Unit => J2h CD C) (cls := fun _ : Unit => CD) (pv 0) (fun _ => HLe) hr1 pass0) J7) J4))) Jh)
      (J6 (Ji (pv 1)))), ?_⟩
    obtain ⟨dx, xs, hx, hl, LN⟩ := DK.ex;refine ⟨_, rfl, rfl, _, rfl, ?_⟩;by_cases c : v = .non
    · refine iteDT c ?_
      exact ⟨_, rfl, x, (), dx, _, rfl, hx, rfl, x, lp, ss, rfl, DK, _, _, rfl, rfl, V.int (ss.length : Int), (show [V.int ((ss.length : Int) - 1 + 1)] = [V.int (ss.length : Int)] by rw [show ((ss.length : Int) - 1 + 1) = (ss.length : Int) by lia]), fun dx' hdx' => kx c _ dx' (J3 hdx') J1⟩
    · exact iteD c ⟨_, rfl, kq c⟩
theorem scDInit:FnScope ["self","text"] ["self","text"] (J9 sDInit):=fS
theorem ok_dinit {f fRd CD C:Addr} {fd fdRd:FuncData}  (F:Fun K "__init__" "Desk.__init__" sDInit f fd) (TD:TxtD K CD)
  (GRd:FnOk P w K mg base CX0 5 fRd fdRd ["text"] (spRead C)) (bRd:Binds K fdRd ["text"] []) (mRd:mg "read"=some (.ref fRd)) (kRd:keepIn K (.ref fRd)=true) :
  FnOk P w K mg base CX0 6 f fd ["self","text"] (spDInit CD C):=by
 refine F.ok scDInit (fun vs H Q E h=>?_) (fun cdv A outer s H vs Q E hr h=>?_)
 ·obtain ⟨x,dx,z,s,rfl,_⟩:=h;rfl
 ·obtain ⟨x,dx,z,s,rfl,hx,TF,ok,k⟩:=h;have hr5:Room 5 _:=rm hr;refine ⟨_,(J2 (J3z (pv 0) (J14 (J0 (Jk GRd hr5 rfl mRd kRd bRd .nil pass0 (J0 (pv 1) J4)) J4)) rfl)
   (J6 (J3z (pv 0) J1e rfl))),?_⟩
  have z1:1<=sizeLine:=by rw [sizeLine_eq];decide
  refine ⟨_,rfl,z,_,_,_,rfl,TF,ok.1,ok.2,fun y H1 s1 L=>⟨z1,fun lp hlp=>?_⟩⟩;have s2:=J3 (o:=.lst [V.ref y]) hlp;have h2:upd H1 lp (.lst [V.ref y]) lp=some (.lst [V.ref y]):=J1;have L2:=L.same s2;generalize upd H1 lp (.lst [V.ref y])=H2 at s2 h2 L2 ⊢;have hx2:=s2 _ _ (s1 _ _ hx);have nl:lp≠x:=fun e=>by rw [e,hx2] at h2;cases h2
  refine ⟨_,rfl,x,CD,dx,[],rfl,hx2,TD.cl,TD.nl,(by show 0 < 1000;decide),?_⟩;refine ⟨_,rfl,x,CD,dx,_,rfl,J1,TD.cl,TD.nc,(by show 1 < 1000;decide),?_⟩;have e:putF ("chart":Str) V.non (putF ("lines":Str) (V.ref lp) [])=dkF lp:=rfl;rw [e];obtain ⟨H3,e3⟩:∃ H3,H3=upd (upd H2 x (.ins CD dx (putF ("lines":Str) (V.ref lp) []))) x (.ins CD dx (dkF lp)):=⟨_,rfl⟩;have k23:KeepX x H2 H3:=by rw [e3];exact KeepX.upd.trans KeepX.upd
  have hx3:H3 x=some (.ins CD dx (dkF lp)):=by rw [e3];exact J1
  rw [<- e3];refine k lp H3 ((KeepX.of (s1.trans s2)).trans k23) (s1.free hlp) ⟨⟨dx,[y],hx3,k23 _ _ h2 nl,⟨rfl,fun i a t e1 e2=>?_⟩⟩,cons_ne_nil _ _,fun t ht=>by rw [mem_singleton.mp ht];exact ok,by show 1<=1000;decide⟩;rcases i with _ | i
  ·cases e1;cases e2;obtain ⟨dy,fs,pl,po,pt,ps,pd,a0,hl,h1,h2',h3,h4,h5⟩:=L2.ex;have n:∀ {b:Addr} {zs:List V},H2 b=some (.tup zs)->b≠x:=fun e z=>by rw [z,hx2] at e;cases e
   have ny:y≠x:=fun z=>by
    have:=a0;rw [z,hx2] at this;cases this;obtain ⟨q1,q2⟩:=hl;cases q1
   exact ⟨dy,fs,pl,po,pt,ps,pd,k23 _ _ a0 ny,hl,k23 _ _ h1 (n h1),k23 _ _ h2' (n h2'),k23 _ _ h3 (n h3),k23 _ _ h4 (n h4),k23 _ _ h5 (n h5)⟩
  ·cases e1
theorem scDDo:FnScope ["self","row"] ["self","row"] (J9 sDDo):=fS
theorem ok_ddo {f fLB CD C CR:Addr} {fd fdLB:FuncData}  (F:Fun K "do" "Desk.do" sDDo f fd) (TD:TxtD K CD) (HLe:HasM P w K mg base CX0 1 "left" ["self"] (J2h CD C) CD) (HUn:HasM P w K mg base (Exc2 P w) 3 "unless_refused" ["self","told"] (spDUnl CD C CR) CD)
  (GLB:FnOk P w K mg base CX0 6 fLB fdLB ["line","row"] (spLineB C)) (bLB:Binds K fdLB ["line","row"] []) (mLB:mg "line_behind"=some (.ref fLB)) (kLB:keepIn K (.ref fLB)=true) :
  FnOk P w K mg base (Exc2 P w) 7 f fd ["self","row"] (spDDo CD C CR):=by
 refine F.okX2 scDDo (fun vs H Q E h=>?_) (fun cdv A outer s H vs Q E hr h=>?_)
 ·obtain ⟨x,lp,ss,z,w,ns,rfl,_⟩:=h;rfl
 ·obtain ⟨x,lp,ss,z,w,ns,rfl,DK,R,few,kb,kn⟩:=h;have hr1:Room 1 _:=rm hr;have hr3:Room 3 _:=rm hr;have hr6:Room 6 _:=rm hr;refine ⟨_,(J2 (ps_if (PW.pt (pw_and (Jc op_eq (pv 1) Jn (Jg _)) (J4r (Jc op_gt (J26 (sp:=fun _:Unit=>J2h CD C) (cls:=fun _:Unit=>CD) (pv 0) (fun _=>HLe) hr1 pass0) J7 (Jg _))))) (J6 (J1o (pe_bm0 PySem.F.plainAttrs_list PySem.F.slot_list_pop PySem.F.type_list_pop mt_pop (Jq (pv 0) rfl)))) (J6 (J1o (pe_bm PySem.F.plainAttrs_list PySem.F.slot_list_append PySem.F.type_list_append J2p (Jq (pv 0) rfl) (J0 (pe_methD (sp:=fun _:Unit=>spDUnl CD C CR) (cls:=fun _:Unit=>CD) (pv 0) (fun _=>HUn) hr3 pass2 (J0 (Jk GLB hr6 rfl mLB kLB bLB .nil pass0 (J0 (pe_ix Jf (Jq (pv 0) rfl) (pe_un un_neg J7) (fun _ _=>rfl)) (J0 (pv 1) J4))) J4)) J4)))))
   (J6 (J3z (pv 0) J1e rfl))),?_⟩
  obtain ⟨dx,xs,hx,hl,LN⟩:=DK.ex;obtain ⟨y,ey,eI,L⟩:=LN.last DK.ne;have ok:=DK.ok _ (J5n DK.ne);have ll:=LN.len;have l0:0 < ss.length:=length_pos_iff.mpr DK.ne;have nxl:x≠lp:=fun e=>by rw [e,hl] at hx;cases hx
  have sz:(1000:Nat) < sizeLine:=by rw [sizeLine_eq];decide
  have idn:∀ {H2:Hp},H2 x=some (.ins CD dx (dkF lp))->upd H2 x (.ins CD dx (putF ("chart":Str) V.non (dkF lp)))=H2:=fun {H2} h2=>funext fun b=>by
   by_cases hb:b=x
   ·subst hb;rw [J1,h2];rfl
   ·rw [Je hb]
  refine ⟨_,rfl,rfl,_,rfl,?_⟩;by_cases c:z=Str.ofString "back"/\1 < ss.length
  ·refine iteDT (by rw [c.1]) ?_;refine ⟨_,rfl,x,(),dx,_,rfl,hx,rfl,x,lp,ss,rfl,DK,_,_,rfl,rfl,_,rfl,iteDT (show (0:Int) < (ss.length:Int) - 1 by lia) ?_⟩;refine ⟨_,rfl,x,CD,dx,_,_,rfl,hx,TD.cl,TD.nl,rfl,.inl ⟨rfl,_,SqL.of hl⟩,lp,_,V.ref y,rfl,rfl,hl,by rw [length_map,getElem?_map,ey];rfl,?_⟩;have k2:KeepX lp H (upd H lp (.lst (xs.map V.ref).dropLast)):=KeepX.upd;have h2:upd H lp (.lst (xs.map V.ref).dropLast) lp=some (.lst (xs.dropLast.map V.ref)):=by rw [J1,List.map_dropLast]
   generalize upd H lp (.lst (xs.map V.ref).dropLast)=H2 at k2 h2 ⊢;have hx2:=k2 _ _ hx nxl;refine ⟨_,rfl,x,CD,dx,_,rfl,hx2,TD.cl,TD.nc,(by show 2 < 1000;decide),?_⟩;rw [idn hx2];have LN2:=LN.keepL hl k2;refine kb c.1 c.2 H2 k2 ⟨⟨dx,xs.dropLast,hx2,h2,⟨by rw [length_dropLast,length_dropLast,ll],fun i a t e1 e2=>?_⟩⟩,fun e=>?_,fun t ht=>DK.ok t (List.dropLast_subset _ ht),by rw [length_dropLast];lia⟩
   ·rw [List.getElem?_dropLast] at e1 e2;by_cases hi:i < xs.length - 1
    ·rw [if_pos hi] at e1;rw [if_pos (by lia)] at e2;exact LN2.at_ i a t e1 e2
    ·rw [if_neg hi] at e1;cases e1
   ·have:=congrArg List.length e;rw [length_dropLast] at this;simp at this;lia
  obtain ⟨kq,kx⟩:=kn c;by_cases cb:z=Str.ofString "back"
  ·have c1:¬ 1 < ss.length:=fun h=>c ⟨cb,h⟩;refine iteDT (by rw [cb]) ?_;refine ⟨_,rfl,x,(),dx,_,rfl,hx,rfl,x,lp,ss,rfl,DK,_,_,rfl,rfl,_,rfl,iteD (show ¬ (0:Int) < (ss.length:Int) - 1 by lia) ?_⟩;refine ⟨_,rfl,x,CD,dx,_,_,rfl,hx,TD.cl,TD.nl,rfl,.inl ⟨rfl,_,SqL.of hl⟩,_,rfl,x,(),dx,_,rfl,hx,rfl,_,rfl,x,CD,dx,_,_,rfl,hx,TD.cl,TD.nl,rfl,_,rfl,lp,_,_,_,rfl,rfl,SqL.of hl,eI,_,rfl,y,_,_,_,z,w,ns,rfl,L,ok.1,ok.2,R,fun e H1 s1=>?_,fun l o t e z' H1 s1 LZ G tl=>?_⟩
   ·exact ⟨x,lp,ss,.non,rfl,DK.same s1,fun n=>absurd rfl n,fun _ H2 dx' s2 h=>kx e H2 dx' (s1.trans s2) h⟩
   refine ⟨x,lp,ss,.ref z',rfl,DK.same s1,fun _=>⟨lp,_,_,rfl,rfl,s1 _ _ hl,(by rw [length_map];lia),?_⟩,fun n=>nomatch n⟩;have k2:KeepX lp H1 (upd H1 lp (.lst (xs.map V.ref ++ [V.ref z']))):=KeepX.upd;have h2:upd H1 lp (.lst (xs.map V.ref ++ [V.ref z'])) lp=some (.lst ((xs ++ [z']).map V.ref)):=by rw [J1,map_append];rfl
   generalize upd H1 lp (.lst (xs.map V.ref ++ [V.ref z']))=H2 at k2 h2 ⊢;have k02:=(KeepX.of (x:=lp) s1).trans k2;have hx2:=k02 _ _ hx nxl;refine ⟨_,rfl,x,CD,dx,_,rfl,hx2,TD.cl,TD.nc,(by show 2 < 1000;decide),?_⟩;rw [idn hx2];have LN2:=LN.keepL hl k02;have LZ2:=LZ.keepL (s1 _ _ hl) k2;refine kq _ e H2 k02 ⟨⟨dx,xs ++ [z'],hx2,h2,⟨by rw [length_append,length_append,ll];rfl,fun i a t' e1 e2=>?_⟩⟩,fun e=>by simp at e,fun t' ht=>?_,by rw [length_append];simp;lia⟩
   ·by_cases hi:i < xs.length
    ·rw [getElem?_append_left hi] at e1;rw [getElem?_append_left (by lia)] at e2;exact LN2.at_ i a t' e1 e2
    ·rw [getElem?_append_right (by lia)] at e1;rw [getElem?_append_right (by lia)] at e2;rw [ll] at e1;rcases hj:i - ss.length with _ | j
     ·rw [hj] at e1 e2;cases e1;cases e2;exact LZ2
     ·rw [hj] at e1;simp at e1
   ·rcases mem_append.mp ht with h | h
    ·exact DK.ok t' h
    ·rw [mem_singleton.mp h];exact ⟨G,tl⟩
  ·refine iteD (fun e=>cb (V.str.inj e)) (iteF ?_);refine ⟨_,rfl,x,CD,dx,_,_,rfl,hx,TD.cl,TD.nl,rfl,.inl ⟨rfl,_,SqL.of hl⟩,_,rfl,x,(),dx,_,rfl,hx,rfl,_,rfl,x,CD,dx,_,_,rfl,hx,TD.cl,TD.nl,rfl,_,rfl,lp,_,_,_,rfl,rfl,SqL.of hl,eI,_,rfl,y,_,_,_,z,w,ns,rfl,L,ok.1,ok.2,R,fun e H1 s1=>?_,fun l o t e z' H1 s1 LZ G tl=>?_⟩
   ·exact ⟨x,lp,ss,.non,rfl,DK.same s1,fun n=>absurd rfl n,fun _ H2 dx' s2 h=>kx e H2 dx' (s1.trans s2) h⟩
   refine ⟨x,lp,ss,.ref z',rfl,DK.same s1,fun _=>⟨lp,_,_,rfl,rfl,s1 _ _ hl,(by rw [length_map];lia),?_⟩,fun n=>nomatch n⟩;have k2:KeepX lp H1 (upd H1 lp (.lst (xs.map V.ref ++ [V.ref z']))):=KeepX.upd;have h2:upd H1 lp (.lst (xs.map V.ref ++ [V.ref z'])) lp=some (.lst ((xs ++ [z']).map V.ref)):=by rw [J1,map_append];rfl
   generalize upd H1 lp (.lst (xs.map V.ref ++ [V.ref z']))=H2 at k2 h2 ⊢;have k02:=(KeepX.of (x:=lp) s1).trans k2;have hx2:=k02 _ _ hx nxl;refine ⟨_,rfl,x,CD,dx,_,rfl,hx2,TD.cl,TD.nc,(by show 2 < 1000;decide),?_⟩;rw [idn hx2];have LN2:=LN.keepL hl k02;have LZ2:=LZ.keepL (s1 _ _ hl) k2;refine kq _ e H2 k02 ⟨⟨dx,xs ++ [z'],hx2,h2,⟨by rw [length_append,length_append,ll];rfl,fun i a t' e1 e2=>?_⟩⟩,fun e=>by simp at e,fun t' ht=>?_,by rw [length_append];simp;lia⟩
   ·by_cases hi:i < xs.length
    ·rw [getElem?_append_left hi] at e1;rw [getElem?_append_left (by lia)] at e2;exact LN2.at_ i a t' e1 e2
    ·rw [getElem?_append_right (by lia)] at e1;rw [getElem?_append_right (by lia)] at e2;rw [ll] at e1;rcases hj:i - ss.length with _ | j
     ·rw [hj] at e1 e2;cases e1;cases e2;exact LZ2
     ·rw [hj] at e1;simp at e1
   ·rcases mem_append.mp ht with h | h
    ·exact DK.ok t' h
    ·rw [mem_singleton.mp h];exact ⟨G,tl⟩
end
end R69
namespace R69
open PySem L2 Rl
section
def pickL (ns:List Int) (lo st:Nat):List Int:=(List.range (Builtin.Range.rangeSize (lo:Int) (ns.length:Int) (st:Int)).toNat).map fun i=>ns.getD (lo + i * st) 0
def lenK (ns:List Int) (lo many:Nat) (span:Int) (k:Nat):Int:=1 + (pickL ns (lo + k) many).sum % span
def lensN (ns:List Int) (lo many:Nat) (span:Int):List Int:=(List.range many).map (lenK ns lo many span)
theorem J45 (ns:List Int) (lo many:Nat) (span:Int):(lensN ns lo many span).length=many:=by simp [lensN]
theorem lensN_mem {ns:List Int} {lo many:Nat} {span:Int} (hs:0 < span):∀ a∈lensN ns lo many span,1<=a/\a<=span:=fun a h=>by
 obtain ⟨k,_,rfl⟩:=mem_map.mp h;unfold lenK;have h1:=Int.emod_nonneg (pickL ns (lo + k) many).sum (show span≠0 by omega);have h2:=Int.emod_lt_of_pos (pickL ns (lo + k) many).sum hs;omega
theorem pick_read {K:PySem.W.Frag} {H1:Hp} {σ:St} {js:List Nat} {Q:VK} {d a:Addr} {ns:List Int} {lo st:Nat} (hS:SqL K H1 a (iV ns)) (hn:ns.length<=63) (hst:0 < st) (hd:H1 d=none) (e1:σ[js.getD 0 0]?=some (some (.ref a))) (ej:js=[js.getD 0 0])
  (hq:∀ H',Same H1 H'->H' d=some (.lst (iV (pickL ns lo st)))->Q (.ref d) H') :
  LCW (Its (lo:Int) (st:Int) (Builtin.Range.rangeSize (lo:Int) (ns.length:Int) (st:Int)).toNat) tYes (tOp (rIxL K) (tVar 1) (tVar 0)) σ js Q H1 d:=by
 have hc:(0:Int) < (st:Int):=by omega
 have few:=steps_few (a:=(lo:Int)) (b:=(ns.length:Int)) hc;refine lc_stp (lo:Int) (st:Int) _ (fun i=>V.int (ns.getD (lo + i * st) 0)) (by omega) hd (fun _ _ H _ _ k=>k H (Same.refl _)) (fun i hi H2 Qe s2 k=>?_) (fun H' s' h=>hq H' s' ?_)
 ·have hlt:=steps_lt hc hi;have e:(lo:Int) + (i:Int) * (st:Int)=((lo + i * st:Nat):Int):=by rw [Int.natCast_add,Int.natCast_mul]
  rw [e] at hlt;refine ⟨.ref a,?_,.int ((lo + i * st:Nat):Int),by rw [<- e];rfl,a,_,_,_,rfl,rfl,s2.seq hS,Jd (J1k (by omega)),k _ (Same.refl _)⟩;rw [ej];show (capv σ [js.getD 0 0])[0]?=_;unfold capv;rw [map_cons,List.getElem?_cons_zero,e1];rfl
 ·rw [h];unfold pickL;show _=some (HO.lst ((List.map _ _).map V.int));rw [map_map];rfl
end
section
variable {P:Program} {w:World} {K:PySem.W.Frag} {mg:Str->Option Value} {base:Heap}
def spCell (K:PySem.W.Frag):Sp:=fun vs H Q _=>∃ (a:Addr) (ns:List Int) (j:Nat),vs=[.ref a,.int j]/\SqL K H a (iV ns)/\Q (.int (cellN ns j)) H
theorem scCell:FnScope ["script","k"] ["script","k"] (J9 sCell):=fS
theorem ok_cell {f:Addr} {fd:FuncData} (F:Fun K "_law_cell" "_law_cell" sCell f fd) (T:TxtR mg):FnOk P w K mg base CX0 1 f fd ["script","k"] (spCell K):=by
 refine F.ok scCell (fun vs H Q E h=>?_) (fun cdv A outer s H vs Q E hr h=>?_)
 ·obtain ⟨a,ns,j,rfl,_⟩:=h;rfl
 ·obtain ⟨a,ns,j,rfl,hS,k⟩:=h;refine ⟨_,J2 (ps_if (Jc op_lt (pv 1) (Jb J8 (by rfl) T.len boot_len (J0 (pv 0) J4)) (Jg _)) (J6 (Ji (pe_ix Jf (pv 0) (pv 1) (fun _ _=>rfl)))) Jh) (J6 (Ji J7)),?_⟩;refine ⟨_,rfl,_,rfl,a,_,rfl,.inl hS,_,_,rfl,rfl,_,rfl,?_⟩;have hl:(iV ns).length=ns.length:=length_map ..;by_cases hj:j < ns.length
  ·refine iteDT (by rw [hl];omega) ?_;exact ⟨_,rfl,_,rfl,a,_,_,_,rfl,rfl,hS,Jd (J1k hj),k⟩
  ·refine iteD (by rw [hl];omega) ?_;have e:cellN ns j=0:=by
    unfold cellN;rw [getD_eq_getElem?_getD,getElem?_eq_none (by omega)];rfl
   rw [e] at k;exact k
structure TxtL (K:PySem.W.Frag) (mg:Str->Option Value):Prop where
 isi:mg "isinstance"=none
 int:mg "int"=none
 bool:mg "bool"=none
 kib:kitOne K (.type "int") (.type "bool")=some false
def spWhole:Sp:=fun vs H Q _=>∃ i:Int,vs=[.int i]/\Q (.bl true) H
theorem scWhole:FnScope ["found"] ["found"] (J9 sWhole):=fS
theorem ok_whole {f:Addr} {fd:FuncData} (F:Fun K "_law_whole" "_law_whole" sWhole f fd) (TL:TxtL K mg):FnOk P w K mg base CX0 1 f fd ["found"] spWhole:=by
 refine F.ok scWhole (fun vs H Q E h=>?_) (fun cdv A outer s H vs Q E hr h=>?_)
 ·obtain ⟨i,rfl,_⟩:=h;rfl
 ·obtain ⟨i,rfl,k⟩:=h;refine ⟨_,J6 (Ji (J5e (Jb (J2g rfl) (by rfl) TL.isi boot_isinstance (J0 (pv 0) (J0 (pe_bltn (v:=.ty "int") rfl TL.int boot_int rfl) J4)))
   (pe_one (pe_not (Jb (J2g rfl) (by rfl) TL.isi boot_isinstance (J0 (pv 0) (J0 (pe_bltn (v:=.ty "bool") rfl TL.bool PyProof.Rows.boot_bool rfl) J4))))))),?_⟩
  refine ⟨_,rfl,_,.ty "int",.type "int",.type "int",true,rfl,rfl,fun v h=>h,.int i,rfl,true,rfl,iteT ?_⟩;exact ⟨_,rfl,_,.ty "bool",.type "int",.type "bool",false,rfl,rfl,fun v h=>h,.int i,TL.kib,false,rfl,k⟩
end
section
structure DrawnAt (H:Hp) (p:Addr) (ls:List Int) (os:List Nat) (ts:List Bool):Prop where
 ex:∃ l o t:Addr,H p=some (.tup [.ref l,.ref o,.ref t])/\H l=some (.lst (iV ls))/\H o=some (.lst (nV os))/\H t=some (.lst (bV ts))
theorem DrawnAt.same {H H':Hp} {p:Addr} {ls:List Int} {os:List Nat} {ts:List Bool} (h:DrawnAt H p ls os ts) (s:Same H H'):DrawnAt H' p ls os ts:=by
 obtain ⟨l,o,t,h0,h1,h2,h3⟩:=h.ex;exact ⟨l,o,t,s _ _ h0,s _ _ h1,s _ _ h2,s _ _ h3⟩
theorem insV (os:List Nat) (i y:Nat):(nV os).take i ++ V.int (y:Int) :: (nV os).drop i=nV (insAt os i y):=by
 show ((os.map fun (n:Nat)=>(n:Int)).map V.int).take i ++ V.int (y:Int) :: ((os.map fun (n:Nat)=>(n:Int)).map V.int).drop i=((insAt os i y).map fun (n:Nat)=>(n:Int)).map V.int;unfold insAt;simp only [map_append,map_cons,map_take,map_drop]
end
section
variable {P:Program} {w:World} {K:PySem.W.Frag} {mg:Str->Option Value} {base:Heap}
def spShuf:Sp:=fun vs H Q _=>∃ (c:Int) (many:Nat),vs=[.int c,.int many]/\many<=24/\∀ p H',Same H H'->H' p=some (.lst (nV (shufO c (List.range many) many)))->Q (.ref p) H'
theorem scShuf:FnScope ["cell","many","row","mixed","k"] ["cell","many"] (J9 sShuf):=fS
theorem ok_shuf {f:Addr} {fd:FuncData} (F:Fun K "_law_shuffled" "_law_shuffled" sShuf f fd) (T:TxtR mg):FnOk P w K mg base CX0 1 f fd ["cell","many"] spShuf:=by
 refine F.ok scShuf (fun vs H Q E h=>?_) (fun cdv A outer s H vs Q E hr h=>?_)
 ·obtain ⟨c,many,rfl,_⟩:=h;rfl
 ·obtain ⟨c,many,rfl,hm,k⟩:=h;refine ⟨_,J2 (Jm (i:=2) scShuf.nd rfl (Or.inl rfl) (J14 J4))
   (J2 (Jm (i:=3) scShuf.nd rfl (Or.inl rfl) (pe_op Jv J7 (pe_op J1f (pv 0) J7)))
   (J2 (J4s PassesOwn.never rfl (J25 rfl T.range (J0 (pv 1) J4)) (J10 (i:=4) scShuf.nd rfl (Or.inl rfl))
    (J2 (Jm (i:=3) scShuf.nd rfl (Or.inl rfl) (pe_op J1f (pe_op op_mul (pv 3) J7) J7))
    (J6 (J1o (pe_bm PySem.F.plainAttrs_list PySem.F.slot_list_insert PySem.F.type_list_insert mt_insert (pv 2) (J0 (pe_op J1f (pv 3) (pe_op Jv (pv 4) J7)) (J0 (pv 4) J4)))))))
   (J6 (Ji (pv 2))))),?_⟩
  refine ⟨Nat.zero_le _,fun ol hol=>?_⟩;refine ⟨_,rfl,_,_,rfl,rfl,(by show (0:Int) < 1000000006;decide),_,_,rfl,rfl,?_⟩;refine ⟨_,rfl,(many:Int),rfl,by omega,by omega,for_range (lo:=0) (n:=many) (fun i σ H2=>∃ v,σ=[some (.int c),some (.int many),some (.ref ol),some (.int (mixN c i)),v]/\H2 ol=some (.lst (nV (shufO c (List.range many) i)))/\Same H H2)
   ⟨none,rfl,J1,J3 hol⟩ ?_ ?_⟩
  ·rintro i σ H2 hi ⟨v,rfl,ho,s2⟩;rw [Int.zero_add];obtain ⟨m0,m1⟩:=mixN_small c i;obtain ⟨q1,q2⟩:=spotS_le c i;have hlen:(nV (shufO c (List.range many) i)).length=i:=by
    rw [J3g,shufO_len _ _ _ (by rw [length_range];omega)]
   refine ⟨_,rfl,_,_,rfl,rfl,.inl ⟨by omega,by omega⟩,_,_,rfl,rfl,(by show (0:Int) < 2147483647;decide),?_⟩;refine ⟨_,rfl,.inl ⟨rfl,_,SqL.of ho⟩,_,rfl,_,rfl,_,_,rfl,rfl,_,_,rfl,rfl,(by omega),_,rfl,
    ol,_,spotS c i,V.int (i:Int),rfl,(by rw [q2];rfl),ho,(by rw [hlen];exact q1),(by rw [hlen];exact Ju (by omega)),?_⟩
   refine ⟨_,rfl,?_,fun b o z=>?_⟩
   ·rw [J1,insV];show some (HO.lst (nV (insAt (shufO c (List.range many) i) (spotS c i) i)))=some (HO.lst (nV (insAt (shufO c (List.range many) i) (spotS c i) ((List.range many).getD i 0))));rw [range_getDN hi]
   ·rw [Je (Ja z hol)];exact s2 _ _ z
  ·rintro σ H2 ⟨v,rfl,ho,s2⟩;exact ⟨_,rfl,k ol H2 s2 ho⟩
end
section
theorem lens_good (ns:List Int) {lo many:Nat} {span c:Int} (h1:1<=many) (h2:many<=24) (h3:0 < span) (h4:span<=10 ^ 28):Good (lensN ns lo many span) (shufO c (List.range many) many):=by
 have hl:=J45 ns lo many span;refine ⟨by omega,by omega,fun a ha=>(lensN_mem h3 a ha).1,?_,?_⟩
 ·have e1:=sum_le (lensN ns lo many span) fun a ha=>(lensN_mem h3 a ha).2;rw [hl] at e1;have e2:=mul_top h2 (Int.le_of_lt h3);have e3:(24:Int) * span<=10 ^ 30:=by
   have:(24:Int) * span<=24 * 10 ^ 28:=by omega
   have:(24:Int) * 10 ^ 28<=10 ^ 30:=by decide
   omega
  omega
 ·rw [hl];have:=shufO_all c (List.range many);rwa [length_range] at this
end
section
structure DrGood (H:Hp) (p:Addr) (ls:List Int) (os:List Nat) (ts:List Bool):Prop where
 at_:DrawnAt H p ls os ts
 good:Good ls os
 len:ts.length=ls.length
theorem DrGood.same {H H':Hp} {p:Addr} {ls:List Int} {os:List Nat} {ts:List Bool} (h:DrGood H p ls os ts) (s:Same H H'):DrGood H' p ls os ts:=⟨h.at_.same s,h.good,h.len⟩
end
end R69
namespace R69
open PySem L2 Rl
section
variable {P:Program} {w:World} {K:PySem.W.Frag} {mg:Str->Option Value} {base:Heap}
def spDraw69 (K:PySem.W.Frag):Sp:=fun vs H Q _=>∃ (a:Addr) (ns:List Int) (b:Int) (many:Nat) (span:Int),vs=[.ref a,.int b,.int many,.int span]/\SqL K H a (iV ns)/\ns.length<=63/\1<=many/\many<=24/\0 < span/\span<=10 ^ 28/\
 ∀ p ls os ts H',Same H H'->DrGood H' p ls os ts->ls.length=many->Q (.ref p) H'
theorem scDraw69:FnScope ["cells","marks","many","span","lengths","order","turned"] ["cells","marks","many","span"] (J9 sDrawn):=fS
theorem ok_draw69 {f fSh :Addr} {fd fdSh:FuncData}  (F:Fun K "_law_drawn" "_law_drawn" sDrawn f fd) (T:TxtR mg)
  (GSh:FnOk P w K mg base CX0 1 fSh fdSh ["cell","many"] spShuf) (bSh:Binds K fdSh ["cell","many"] []) (mSh:mg "_law_shuffled"=some (.ref fSh)) (kSh:keepIn K (.ref fSh)=true) :
  FnOk P w K mg base CX0 2 f fd ["cells","marks","many","span"] (spDraw69 K):=by
 refine F.ok scDraw69 (fun vs H Q E h=>?_) (fun cdv A outer s H vs Q E hr h=>?_)
 ·obtain ⟨a,ns,b,many,span,rfl,_⟩:=h;rfl
 ·obtain ⟨a,ns,b,many,span,rfl,hS,hlen,y1,y2,t0,t1,k⟩:=h;have hr1:Room 1 _:=rm hr;refine ⟨_,(J2 (ps_lc (i:=4) (caps:=["cells","many","span"]) (js:=[0,2,3]) scDraw69.nd rfl (Or.inl rfl) rfl (J25 rfl T.range (J0 (pv 2) J4)) rfl (fun _ _ _ _=>J1l) (fun C fp s H=>(pe_op Jv J7 (pe_op J1f (Jb (call_sumK K) (by rfl) T.sum boot_sum (J0 (pe_lc (caps:=["cells"]) (js:=[1]) rfl (pi_steps rfl T.range (J0 (pv 0) (J0 (Jb (J51 K) (by rfl) T.len boot_len (J0 (pv 1) J4)) (J0 (pv 2) J4)))) rfl (fun _ _ _ _=>J1l) (fun C fp s H=>(pe_ixr (ix_listK K) (pv 1) (pv 0))) (by decide +kernel) (by decide +kernel) (by decide +kernel) (by intro p hp;simp only [mem_cons,not_mem_nil,or_false] at hp;rcases hp with rfl;rfl)) J4)) (pv 3)))) (by decide +kernel) (by decide +kernel) (by decide +kernel) (by intro p hp;simp only [mem_cons,not_mem_nil,or_false] at hp;rcases hp with rfl | rfl | rfl <;> rfl))
   (J2 (Jm (i:=5) scDraw69.nd rfl (Or.inl rfl) (Jk GSh hr1 rfl mSh kSh bSh .nil pass0 (J0 (pe_op Jv (Jb (J21 rfl) (by rfl) T.sum boot_sum (J0 (pv 0) J4)) (pv 1)) (J0 (pv 2) J4))))
   (J2 (ps_lc (i:=6) (caps:=["marks"]) (js:=[1]) scDraw69.nd rfl (Or.inl rfl) rfl (J25 rfl T.range (J0 (pv 2) J4)) rfl (fun _ _ _ _=>J1l) (fun C fp s H=>(J2k op_eq (pe_op J1f (pe_op op_shr (pv 1) (pv 0)) J7) J7 (Jg _))) (by decide +kernel) (by decide +kernel) (by decide +kernel) (by intro p hp;simp only [mem_cons,not_mem_nil,or_false] at hp;rcases hp with rfl;rfl))
   (J6 (Ji (J1w (J0 (pv 4) (J0 (pv 5) (J0 (pv 6) J4))))))))),?_⟩
  refine ⟨_,rfl,(many:Int),rfl,by omega,by omega,fun dl hdl=>lc_rng 0 many (fun _=>true) (fun k=>V.int (lenK ns 0 many span k)) (by omega) hdl (fun _ _ H _ _ k=>k H (Same.refl _)) (fun kk hkk H2 Qe _ s2 q=>?_) (fun H2 s2 hl2=>?_)⟩
  ·have e2:(0 + (kk:Int))=((0 + kk:Nat):Int):=by omega
   refine ⟨_,rfl,_,rfl,a,_,rfl,.inl (s2.seq hS),_,rfl,((0 + kk:Nat):Int),(ns.length:Int),(many:Int),?_,⟨by omega,by omega,by omega,by omega,by omega,by omega⟩,fun d2 hd2=>pick_read (s2.seq hS) hlen (by omega) hd2 rfl rfl fun H3 s3 h3=>?_⟩
   ·rw [<- e2,len_iV]
   ·exact ⟨d2,_,rfl,.inl (SqL.of h3),_,rfl,_,_,rfl,rfl,t0,_,_,rfl,rfl,q _ s3⟩
  rw [Jt] at hl2;have hl2':H2 dl=some (.lst (iV (lensN ns 0 many span))):=by
   rw [hl2];show _=some (HO.lst ((List.map _ _).map V.int));rw [map_map];rfl
  refine ⟨_,rfl,a,ns,rfl,.inl (s2.seq hS),_,rfl,_,_,rfl,rfl,_,rfl,_,many,rfl,y2,fun op H3 s3 hop=>?_⟩;refine ⟨_,rfl,(many:Int),rfl,by omega,by omega,fun tp htp=>lc_rng 0 many (fun _=>true) (fun j=>V.bl (decide (V.int (b / 2 ^ (0 + (j:Int)).toNat % 2)=V.int 1))) (by omega) htp (fun _ _ H _ _ k=>k H (Same.refl _)) (fun j hj H4 Qe _ s4 q=>?_) (fun H4 s4 hl4=>?_)⟩
  ·exact ⟨_,rfl,_,rfl,_,_,rfl,rfl,(by show (0:Int)<=0 + (j:Int);omega),_,_,rfl,rfl,(by show (0:Int) < 2;decide),rfl,q _ (Same.refl _)⟩
  rw [Jt] at hl4;obtain ⟨ts,ets⟩:∃ ts:List Bool,ts=(List.range many).map fun (j:Nat)=>decide (V.int (b / 2 ^ (0 + (j:Int)).toNat % 2)=V.int 1):=⟨_,rfl⟩;have hl4':H4 tp=some (.lst (bV ts)):=by
   rw [hl4,ets];refine congrArg (fun z=>some (HO.lst z)) ?_;show _=List.map V.bl _;rw [map_map];rfl
  refine ⟨_,rfl,_,rfl,_,rfl,(by show 3<=sizeLine;rw [sizeLine_eq];decide),fun p hp=>?_⟩;have s5:=J3 (o:=.tup [.ref dl,.ref op,.ref tp]) hp;refine k p (lensN ns 0 many span) (shufO (ns.sum + b) (List.range many) many) ts _ (s2.trans (s3.trans (s4.trans s5))) ⟨⟨dl,op,tp,J1,s5 _ _ (s4 _ _ (s3 _ _ hl2')),s5 _ _ (s4 _ _ hop),s5 _ _ hl4'⟩,lens_good ns y1 y2 t0 t1,?_⟩ (J45 ..);rw [ets,length_map,length_range,J45]
theorem J4e (x:Str):Str.empty ++ x=x:=Str.ext' (by rw [Str.cps_append];exact Array.empty_append)
theorem app_empty (x:Str):x ++ Str.ofString ""=x:=by
 have e:Str.ofString ""=Str.empty:=by decide +kernel
 rw [e];exact Str.ext' (by rw [Str.cps_append];exact Array.append_empty)
theorem J2f (sep x:Str) {ys:List Str} (h:ys≠[]):Txt.join sep (x :: ys)=x ++ sep ++ Txt.join sep ys:=by
 show Builtin.Str.glued sep (x :: ys)=x ++ sep ++ Builtin.Str.glued sep ys;rw [StrLaws.glued_eq_join,StrLaws.glued_eq_join]
 cases ys with
 | nil=>exact absurd rfl h
 | cons y ys=>rfl
theorem J1x (sep x:Str):Txt.join sep [x]=x:=by
 show Builtin.Str.glued sep [x]=x;rw [StrLaws.glued_eq_join];rfl
theorem J48 (sep y:Str):∀ (xs:List Str),xs≠[]->Txt.join sep (xs ++ [y])=Txt.join sep xs ++ sep ++ y
 | [],h=>absurd rfl h
 | [x],_=>by
  show Txt.join sep (x :: [y])=_;rw [J2f sep x (cons_ne_nil _ _),J1x,J1x]
 | x :: z :: r,_=>by
  show Txt.join sep (x :: ((z :: r) ++ [y]))=_;rw [J2f sep x (by simp),J48 sep y (z :: r) (cons_ne_nil _ _),J2f sep x (cons_ne_nil _ _)];simp only [Str.append_assoc]
theorem rowL_snoc (ls:List Int) {i:Nat} (h:i < ls.length):rowL (ls.take (i + 1))=rowL (ls.take i) ++ Str.ofString " " ++ numS (ls.getD i 0):=by
 unfold rowL;rw [take_succ,List.getElem?_eq_getElem h,getD_eq_getElem?_getD,List.getElem?_eq_getElem h];show Txt.join _ (Str.ofString "pieces" :: (ls.take i ++ [ls[i]]).map numS)=_;rw [map_append];show Txt.join _ ((Str.ofString "pieces" :: (ls.take i).map numS) ++ [numS ls[i]])=_;rw [J48 _ _ _ (cons_ne_nil _ _)];rfl
theorem rowO_snoc (os:List Nat) (ts:List Bool) {i:Nat} (h:i < os.length):rowO (os.take (i + 1)) ts=rowO (os.take i) ts ++ Str.ofString " " ++ wordS ts (os.getD i 0):=by
 unfold rowO;rw [take_succ,List.getElem?_eq_getElem h,getD_eq_getElem?_getD,List.getElem?_eq_getElem h];show Txt.join _ (Str.ofString "laid" :: (os.take i ++ [os[i]]).map (wordS ts))=_;rw [map_append];show Txt.join _ ((Str.ofString "laid" :: (os.take i).map (wordS ts)) ++ [wordS ts os[i]])=_;rw [J48 _ _ _ (cons_ne_nil _ _)];rfl
theorem rowL_len {ls:List Int} (h:∀ l∈ls,l.natAbs < 10 ^ 40) (n:ls.length<=24):(rowL ls).length<=5000:=by
 have c1:(Str.ofString " ").length=1:=by decide +kernel
 have c2:(Str.ofString "pieces").length=6:=by decide +kernel
 have h1:=J1y (B:=41) (sep:=Str.ofString " ") (ys:=Str.ofString "pieces" :: ls.map numS) (fun y hy=>by
  rcases mem_cons.mp hy with rfl | hy
  ·omega
  ·obtain ⟨l,hl,rfl⟩:=mem_map.mp hy;exact Jx (h l hl))
 rw [length_cons,length_map,c1] at h1;have:(ls.length + 1) * 41<=25 * 41:=Nat.mul_le_mul_right _ (by omega);show (Txt.join _ _).length<=_;omega
theorem rowO_len {os:List Nat} (ts:List Bool) (h:∀ o∈os,o < 24) (n:os.length<=24):(rowO os ts).length<=5000:=by
 have c1:(Str.ofString " ").length=1:=by decide +kernel
 have c2:(Str.ofString "laid").length=4:=by decide +kernel
 have h1:=J1y (B:=42) (sep:=Str.ofString " ") (ys:=Str.ofString "laid" :: os.map (wordS ts)) (fun y hy=>by
  rcases mem_cons.mp hy with rfl | hy
  ·omega
  ·obtain ⟨o,ho,rfl⟩:=mem_map.mp hy;exact wordS_len ts (h o ho))
 rw [length_cons,length_map,c1] at h1;have:(os.length + 1) * 42<=25 * 42:=Nat.mul_le_mul_right _ (by omega);show (Txt.join _ _).length<=_;omega
def spLText:Sp:=fun vs H Q _=>∃ (p:Addr) (ls:List Int) (os:List Nat) (ts:List Bool),vs=[.ref p]/\DrGood H p ls os ts/\∀ H',Same H H'->Q (.str (textS ls os ts)) H'
theorem scLText:FnScope ["drawn","rows","k","piece"] ["drawn"] (J9 sTextL):=fS
theorem ok_ltext {f   : Addr} {fd  : FuncData}  (F : Fun K "_law_text" "_law_text" sTextL f fd) (T : TxtR mg) (hstr : mg "str" = none) (hint : mg "int" = none)
 :
    FnOk P w K mg base CX0 1 f fd ["drawn"] spLText := by
  refine F.ok scLText (fun vs H Q E h => ?_) (fun cdv A outer s H vs Q E hr h => ?_)
  · obtain ⟨p, ls, os, ts, rfl, _⟩ := h
    rfl
  · obtain ⟨p, ls, os, ts, rfl, DG, k⟩ := h
    refine ⟨_, (J2 (Jm (i := 1) scLText.nd rfl (Or.inl rfl) (J14 (J0 Jn (J0 Jn J4))))
      (J2 (J4s PassesOwn.never rfl (J25 rfl T.range (J0 (Jb J8 (by rfl) T.len boot_len (J0 (pe_ix J1z (pv 0) J7 (fun _ _ => rfl)) J4)) J4)) (J10 (i := 2) scLText.nd rfl (Or.inl rfl))
        (J2 (Jm (i := 3) scLText.nd rfl (Or.inl rfl) (pe_ix Jf (pe_ix J1z (pv 0) J7 (fun _ _ => rfl)) (pv 2) (fun _ _ => rfl)))
        (J2 (J3e (J40 (pe_op Jp (pe_op Jp (pe_ix Jf (pv 1) J7 (fun _ _ => rfl)) Jn) (Jj Jr (by rfl) hstr boot_str (J0 (pe_ix Jf (pe_ix J1z (pv 0) J7 (fun _ _ => rfl)) (pv 2) (fun _ _ => rfl)) J4))) (pg_sub (pv 1) J7 J2c)))
        (J6 (J40 (pe_op Jp (pe_op Jp (pe_op Jp (pe_ix Jf (pv 1) J7 (fun _ _ => rfl)) Jn) (Jj Jr (by rfl) hstr boot_str (J0 (pv 3) J4))) (pe_ix Jf (J14 (J0 Jn (J0 Jn J4))) (Jj call_int1 (by rfl) hint boot_int (J0 (pe_ix Jf (pe_ix J1z (pv 0) J7 (fun _ _ => rfl)) (pv 3) (fun _ _ => rfl)) J4)) (fun _ _ => rfl))) (pg_sub (pv 1) J7 J2c))))))
      (J6 (Ji (pe_op Jp (pe_op Jp (pe_op Jp (pe_ix Jf (pv 1) J7 (fun _ _ => rfl)) Jn) (pe_ix Jf (pv 1) J7 (fun _ _ => rfl))) Jn))))), ?_⟩
    obtain ⟨dl, ol, dt, d0, d1, d2, d3⟩ := DG.at_.ex;have G := DG.good;have tl := DG.len;have oln := G.olen;have hi1 := G.hi;have sm : (300000 : Nat) < sizeLine := by rw [sizeLine_eq]; decide
    have ll : (iV ls).length = ls.length := length_map ..;have c1 : (Str.ofString " ").length = 1 := by decide +kernel
    have c2 : (Str.ofString "\n").length = 1 := by decide +kernel
    have c3 : (Str.ofString "-").length = 1 := by decide +kernel
    have c4 : (Str.ofString "").length = 0 := by decide +kernel
    have gs := J33 G;have lL : ∀ i, (rowL (ls.take i)).length <= 5000 := fun i => rowL_len (fun l hl => gs l (mem_of_mem_take hl)) (by rw [length_take]; omega);have lO : ∀ i, (rowO (os.take i) ts).length <= 5000 := fun i => rowO_len ts (fun o ho => by have := G.olt o (mem_of_mem_take ho); omega) (by rw [length_take]; omega);refine ⟨by show 2 <= sizeLine; omega, fun rp hrp => ?_⟩;have s1 := J3 (o := .lst [V.str (Str.ofString "pieces"), V.str (Str.ofString "laid")]) hrp;have h1 : upd H rp (.lst [V.str (Str.ofString "pieces"), V.str (Str.ofString "laid")]) rp = some (.lst [V.str (rowL (ls.take 0)), V.str (rowO (os.take 0) ts)]) := by
      rw [J1];have e1 : rowL (ls.take 0) = Str.ofString "pieces" := by rw [List.take_zero]; exact J1x _ _
      have e2 : rowO (os.take 0) ts = Str.ofString "laid" := by rw [List.take_zero]; exact J1x _ _
      rw [e1, e2]
    generalize upd H rp (.lst [V.str (Str.ofString "pieces"), V.str (Str.ofString "laid")]) = H1 at s1 h1 ⊢;refine ⟨_, rfl, p, _, _, _, rfl, rfl, SqT.of (s1 _ _ d0), Jd (j := 0) rfl, dl, _, rfl, .inl (SqL.of (s1 _ _ d1)), ((ls.length : Nat) : Int), by rw [ll], by omega, by omega, for_range (lo := 0) (n := ls.length) (fun i σ Hw => ∃ v2 v3, σ = [some (.ref p), some (.ref rp), v2, v3] /\ Hw rp = some (.lst [V.str (rowL (ls.take i)), V.str (rowO (os.take i) ts)]) /\ Same H Hw)
      ⟨none, none, rfl, h1, s1⟩ ?_ ?_⟩
    · rintro i σ Hw hi ⟨v2, v3, rfl, hw, sw⟩
      rw [Int.zero_add];have ho : os.getD i 0 ∈ os := getD_memN (by omega);have ho' := G.olt _ ho;have hn1 : (ls.getD i 0).natAbs < 10 ^ 40 := gs _ (J13 hi);have n1 := Jx hn1;have n2 := Jx (i := ((os.getD i 0 : Nat) : Int)) (by omega);refine ⟨_, rfl, p, _, _, _, rfl, rfl, SqT.of (sw _ _ d0), Jd (j := 1) rfl, _, rfl, ol, _, _, _, rfl, rfl, SqL.of (sw _ _ d2), Jd (nV_at (by omega)), ?_⟩;refine ⟨fun σ' H' => σ' = [some (.ref p), some (.ref rp), some (.int (i : Nat)), some (.int (os.getD i 0 : Nat))] /\ H' rp = some (.lst [V.str (rowL (ls.take (i + 1))), V.str (rowO (os.take i) ts)]) /\ Same H H', ?_, ?_⟩
      · have l0 := lL i
        refine ⟨_, rfl, rp, _, _, _, rfl, rfl, SqL.of hw, Jd (j := 0) rfl, _, _, rfl, rfl, (by rw [c1]; omega), _, rfl, p, _, _, _, rfl, rfl, SqT.of (sw _ _ d0), Jd (j := 0) rfl, _, rfl, dl, _, _, _, rfl, rfl, SqL.of (sw _ _ d1), Jd (J1k hi), _, rfl, J1b hn1, _, _, rfl, rfl, (by show (rowL (ls.take i) ++ Str.ofString " ").length + (numS (ls.getD i 0)).length <= sizeLine; rw [strLen_append, c1]; omega), _, rfl, rp, _, _, 0, rfl, rfl, hw, J3q (by show 0 < 2; decide), rfl, ?_, fun b u e => by rw [Je (Ja e hrp)]; exact sw _ _ e⟩;rw [J1, rowL_snoc ls hi];rfl
      rintro σ Hx ⟨rfl, hx, sx⟩;have l1 := lO i;have hb : os.getD i 0 < ts.length := by omega
      refine ⟨_, rfl, rp, _, _, _, rfl, rfl, SqL.of hx, Jd (j := 1) rfl, _, _, rfl, rfl, (by rw [c1]; omega), _, rfl, _, rfl, J1b (by omega), _, _, rfl, rfl, (by show (rowO (os.take i) ts ++ Str.ofString " ").length + (numS ((os.getD i 0 : Nat) : Int)).length <= sizeLine; rw [strLen_append, c1]; omega), by show 2 <= sizeLine; omega, fun me hme => ?_⟩;have u1 := J3 (o := .lst [V.str (Str.ofString ""), V.str (Str.ofString "-")]) hme;have hme1 : upd Hx me (.lst [V.str (Str.ofString ""), V.str (Str.ofString "-")]) me = some (.lst [V.str (Str.ofString ""), V.str (Str.ofString "-")]) := J1;have hx1 := u1 _ _ hx;have sx1 := sx.trans u1;generalize upd Hx me (.lst [V.str (Str.ofString ""), V.str (Str.ofString "-")]) = Hy at u1 hme1 hx1 sx1 ⊢;refine ⟨_, rfl, p, _, _, _, rfl, rfl, SqT.of (sx1 _ _ d0), Jd (j := 2) rfl, _, rfl, dt, _, _, _, rfl, rfl, SqL.of (sx1 _ _ d3), Jd (J5r hb), .inr ⟨_, rfl, ?_⟩⟩;have eW : ∀ y : Str, (ts.getD (os.getD i 0) false = true -> y = Str.ofString "-") -> (¬ ts.getD (os.getD i 0) false = true -> y = Str.ofString "") -> rowO (os.take i) ts ++ Str.ofString " " ++ numS ((os.getD i 0 : Nat) : Int) ++ y = rowO (os.take (i + 1)) ts := fun y h1 h2 => by
        rw [rowO_snoc os ts (by omega)];unfold wordS;by_cases c : ts.getD (os.getD i 0) false = true
        · rw [if_pos c, h1 c, <- Str.append_assoc]
        · rw [if_neg c, h2 c, app_empty]
      have fin : ∀ y : Str, y.length <= 1 -> rowO (os.take i) ts ++ Str.ofString " " ++ numS ((os.getD i 0 : Nat) : Int) ++ y = rowO (os.take (i + 1)) ts -> (rowO (os.take i) ts ++ Str.ofString " " ++ numS ((os.getD i 0 : Nat) : Int)).length + y.length <= sizeLine := fun y hy _ => by
        rw [strLen_append, strLen_append, c1]; omega
      by_cases c : ts.getD (os.getD i 0) false = true
      · rw [c]
        refine ⟨me, _, _, _, rfl, rfl, SqL.of hme1, Jd (j := 1) rfl, _, _, rfl, rfl, fin _ (by rw [c3]; omega) (eW _ (fun _ => rfl) fun n => absurd c n), _, rfl, rp, _, _, 1, rfl, rfl, hx1, J3q (by show 1 < 2; decide), _, _, rfl, ?_, fun b u e => by rw [Je (Ja e hrp)]; exact sx1 _ _ e⟩;rw [J1, <- eW _ (fun _ => rfl) fun n => absurd c n];rfl
      · have c' : ts.getD (os.getD i 0) false = false := by simpa using c
        rw [c'];refine ⟨me, _, _, _, rfl, rfl, SqL.of hme1, Jd (j := 0) rfl, _, _, rfl, rfl, fin _ (by rw [c4]; omega) (eW _ (fun h => absurd h c) fun _ => rfl), _, rfl, rp, _, _, 1, rfl, rfl, hx1, J3q (by show 1 < 2; decide), _, _, rfl, ?_, fun b u e => by rw [Je (Ja e hrp)]; exact sx1 _ _ e⟩;rw [J1, <- eW _ (fun h => absurd h c) fun _ => rfl];rfl
    · rintro σ Hw ⟨v2, v3, rfl, hw, sw⟩
      rw [take_length] at hw;rw [<- oln, take_length] at hw;have e0 := lL ls.length;have e1 := lO os.length;rw [take_length] at e0 e1;refine ⟨_, rfl, rp, _, _, _, rfl, rfl, SqL.of hw, Jd (j := 0) rfl, _, _, rfl, rfl, (by rw [c2]; omega), _, rfl, rp, _, _, _, rfl, rfl, SqL.of hw, Jd (j := 1) rfl, _, _, rfl, rfl, (by rw [strLen_append, c2]; omega), _, _, rfl, rfl, (by rw [strLen_append, strLen_append, c2]; omega), ?_⟩;have := k Hw sw;unfold textS at this;rw [J4e] at this;exact this
def LRes (r:Option T3) (H:Hp) (Q:VK):Prop:=(r=none->∀ H',Same H H'->Q .non H')/\(∀ l o t,r=some (l,o,t)->∀ q H',Same H H'->DrGood H' q l o t->Q (.ref q) H')
def spLCut:Sp:=fun vs H Q _=>∃ (p:Addr) (ls:List Int) (os:List Nat) (ts:List Bool) (x:Int),vs=[.ref p,.int x]/\DrGood H p ls os ts/\0<=x/\LRes (cutR ls os ts x) H Q
theorem scLCut:FnScope ["drawn","x","lengths","order","turned","start","at","parts","row","piece"] ["drawn","x"] (J9 sLCut):=fS
theorem ok_lcut {f   : Addr} {fd  : FuncData}  (F : Fun K "_law_cut" "_law_cut" sLCut f fd) (T : TxtR mg) (hint : mg "int" = none)
 :
    FnOk P w K mg base CX0 1 f fd ["drawn", "x"] spLCut := by
  refine F.ok scLCut (fun vs H Q E h => ?_) (fun cdv A outer s H vs Q E hr h => ?_)
  · obtain ⟨p, ls, os, ts, x, rfl, _⟩ := h
    rfl
  · obtain ⟨p, ls, os, ts, x, rfl, DG, x0, k⟩ := h
    refine ⟨_, (J2 (J40 (pv 0) (pg_tup rfl (J16 (J10 (i := 2) scLCut.nd rfl (Or.inl rfl)) (J16 (J10 (i := 3) scLCut.nd rfl (Or.inl rfl)) (J16 (J10 (i := 4) scLCut.nd rfl (Or.inl rfl)) pgs_nil)))))
      (J2 (Jm (i := 5) scLCut.nd rfl (Or.inl rfl) J7)
      (J2 (Jm (i := 6) scLCut.nd rfl (Or.inl rfl) J7)
      (J2 (ps_while PassesOwn.never (PW.pt (pw_and (Jc op_lt (pv 6) (Jb J8 (by rfl) T.len boot_len (J0 (pv 2) J4)) (Jg _)) (J4r (Jc op_ge (pv 1) (pe_op Jv (pv 5) (pe_ix Jf (pv 2) (pv 6) (fun _ _ => rfl))) (Jg _)))))
        (J2 (Jm (i := 5) scLCut.nd rfl (Or.inl rfl) (pe_op Jv (pv 5) (pe_ix Jf (pv 2) (pv 6) (fun _ _ => rfl))))
        (J6 (Jm (i := 6) scLCut.nd rfl (Or.inl rfl) (pe_op Jv (pv 6) J7)))))
      (J2 (ps_if (PW.pt (pw_or (Jc op_eq (pv 6) (Jb J8 (by rfl) T.len boot_len (J0 (pv 2) J4)) (Jg _)) (pw_or (Jc op_eq (pv 1) (pv 5) (Jg _)) (J3c (Jc op_gt (Jb J8 (by rfl) T.len boot_len (J0 (pv 2) J4)) J7 (Jg _)))))) (J6 (Ji J1e)) Jh)
      (J2 (J3e (Jm (i := 7) scLCut.nd rfl (Or.inl rfl) (pe_op J27 (pe_op J27 (Jo J11 (pv 2) Jz (Js (pv 6))) (J14 (J0 (pe_op J4t (pv 1) (pv 5)) (J0 (pe_op J4t (pe_op Jv (pv 5) (pe_ix Jf (pv 2) (pv 6) (fun _ _ => rfl))) (pv 1)) J4)))) (Jo J11 (pv 2) (Js (pe_op Jv (pv 6) J7)) Jz))))
      (J2 (Jm (i := 8) scLCut.nd rfl (Or.inl rfl) (J14 J4))
      (J2 (J4s PassesOwn.never rfl (J2i (pv 3)) (J10 (i := 9) scLCut.nd rfl (Or.inl rfl))
        (J6 (ps_if (PW.pt (pw_and (Jc op_eq (pv 9) (pv 6) (Jg _)) (J4r (J3d (pe_ix Jf (pv 4) (pv 6) (fun _ _ => rfl)))))) (J6 (Jm (i := 8) scLCut.nd rfl (Or.inl rfl) (pe_op J27 (pv 8) (J14 (J0 (pe_op Jv (pv 6) J7) (J0 (pv 6) J4)))))) (J6 (ps_if (Jc op_eq (pv 9) (pv 6) (Jg _)) (J6 (Jm (i := 8) scLCut.nd rfl (Or.inl rfl) (pe_op J27 (pv 8) (J14 (J0 (pv 6) (J0 (pe_op Jv (pv 6) J7) J4)))))) (J6 (J1o (pe_bm PySem.F.plainAttrs_list PySem.F.slot_list_append PySem.F.type_list_append J2p (pv 8) (J0 (pe_op Jv (pv 9) (Jj call_int1 (by rfl) hint boot_int (J0 (J2k op_gt (pv 9) (pv 6) (Jg _)) J4))) J4)))))))))
      (J6 (Ji (J1w (J0 (pv 7) (J0 (pv 8) (J0 (pe_op J27 (pe_op J27 (Jo J11 (pv 4) Jz (Js (pv 6))) (J14 (J0 (pe_ix Jf (pv 4) (pv 6) (fun _ _ => rfl)) J4))) (Jo J11 (pv 4) (Js (pv 6)) Jz)) J4)))))))))))))), ?_⟩
    obtain ⟨dl, ol, dt, d0, d1, d2, d3⟩ := DG.at_.ex;have G := DG.good;have O := G.ord;have tl := DG.len;have oln := G.olen;have lo1 := G.lo;have hi1 := G.hi;have sm := Ju (n := 300) (by decide);have ll : (iV ls).length = ls.length := length_map ..;have wh : J15 ls (List.range ls.length) ls.length = ls.sum := O.range.whole;have rg : ∀ {i : Nat}, i < ls.length -> (List.range ls.length).getD i 0 = i := fun {i} h => by rw [getD_eq_getElem?_getD, List.getElem?_range h]; rfl
    unfold cutR at k;refine ⟨_, rfl, p, _, rfl, SqT.of d0, rfl, _, _, rfl, _, _, rfl, _, _, rfl, rfl, ?_⟩;refine ⟨fun m σ Hw => ∃ i : Nat, i <= ls.length /\ J15 ls (List.range ls.length) i <= x /\ m = ls.length - i /\ σ = [some (.ref p), some (.int x), some (.ref dl), some (.ref ol), some (.ref dt), some (.int (J15 ls (List.range ls.length) i)), some (.int (i : Nat)), none, none, none] /\ H = Hw, ⟨_, 0, Nat.zero_le _, by rw [J17]; exact x0, rfl, by rw [J17]; rfl, rfl⟩, ?_⟩;rintro m σ _ ⟨i, hi, ha, rfl, rfl, rfl⟩;refine ⟨_, rfl, _, rfl, dl, _, rfl, .inl (SqL.of d1), _, _, rfl, rfl, _, rfl, ?_⟩;rw [ll];by_cases c1 : i < ls.length
    · refine iteDT (show ((i : Nat) : Int) < ((ls.length : Nat) : Int) by omega) ?_
      have es : J15 ls (List.range ls.length) (i + 1) = J15 ls (List.range ls.length) i + ls.getD i 0 := by rw [J1h, rg c1]
      refine ⟨_, rfl, _, rfl, _, rfl, _, rfl, dl, _, _, _, rfl, rfl, SqL.of d1, Jd (J1k c1), _, _, rfl, rfl, _, _, rfl, rfl, _, rfl, ?_⟩;by_cases c2 : x >= J15 ls (List.range ls.length) i + ls.getD i 0
      · refine iteDT c2 ?_
        refine ⟨_, fun σ' H' h => h, ?_⟩;refine ⟨_, rfl, _, rfl, _, rfl, dl, _, _, _, rfl, rfl, SqL.of d1, Jd (J1k c1), _, _, rfl, rfl, ?_⟩;refine ⟨_, rfl, _, _, rfl, rfl, ls.length - (i + 1), by omega, i + 1, c1, by rw [es]; exact c2, rfl, ?_, rfl⟩;rw [es]; rfl
      · refine iteD c2 ?_
        have fi : (firsts ls (List.range ls.length)).getD i 0 = J15 ls (List.range ls.length) i := by
          have := O.range.first c1;rwa [rg c1] at this
        have fl : (firsts ls (List.range ls.length)).length = ls.length := J35 _ _;have q1 : Lies (firsts ls (List.range ls.length)) ls x i := ⟨c1, by rw [fi]; exact ha, by rw [fi]; omega⟩;have pe := pcL_eq O q1;obtain ⟨st, est⟩ : ∃ st, st = J15 ls (List.range ls.length) i := ⟨_, rfl⟩;rw [<- est] at fi ha c2 ⊢;have xs1 : x < ls.sum := (O.range.inside q1).2;refine ⟨_, rfl, _, rfl, dl, _, rfl, .inl (SqL.of d1), rfl, _, rfl, ?_⟩;rw [ll];refine iteD (fun e => by have := V.int.inj e; omega) ?_;refine ⟨_, rfl, _, rfl, rfl, _, rfl, ?_⟩;by_cases c3 : x = st
        · rw [if_pos (.inr (.inl (by rw [c3, <- fi]; exact J13 (by omega))))] at k
          exact iteDT (by rw [c3]) (iteT (k.1 rfl H (Same.refl _)))
        refine iteD (fun e => c3 (V.int.inj e)) ?_;refine ⟨_, rfl, dl, _, rfl, .inl (SqL.of d1), _, _, rfl, rfl, _, rfl, ?_⟩;rw [ll];by_cases c4 : ls.length = 24
        · rw [if_pos (.inr (.inr c4))] at k
          exact iteDT (show (23 : Int) < ((ls.length : Nat) : Int) by omega) (k.1 rfl H (Same.refl _))
        have nin : x ∉ firsts ls (List.range ls.length) := fun hm => by
          obtain ⟨j, hj, e⟩ := List.getElem_of_mem hm;have e' : (firsts ls (List.range ls.length)).getD j 0 = x := by rw [getD_eq_getElem?_getD, List.getElem?_eq_getElem hj]; exact e
          have hj' : j < ls.length := by omega
          have q2 : Lies (firsts ls (List.range ls.length)) ls x j := ⟨hj', by omega, by have := O.one hj'; omega⟩;have := O.range.unique q1 q2;subst this;omega
        rw [if_neg (fun z => z.elim (fun z => by omega) fun z => z.elim nin c4), pe, fi] at k;refine iteD (show ¬ (23 : Int) < ((ls.length : Nat) : Int) by omega) ?_;refine ⟨fun σ' H' => ∃ pp, σ' = [some (.ref p), some (.int x), some (.ref dl), some (.ref ol), some (.ref dt), some (.int st), some (.int (i : Nat)), some (.ref pp), none, none] /\ H' pp = some (.lst (iV (cutLs ls i (x - st)))) /\ Same H H', ?_, ?_⟩
        · refine ⟨_, rfl, _, rfl, _, rfl, dl, _, rfl, SqL.of d1, fun a1 h1 => ?_⟩
          rw [J1r _ _ (by omega)];have s1 := J3 (o := .lst ((iV ls).take i)) h1;have e1 : upd H a1 (.lst ((iV ls).take i)) a1 = some (.lst ((iV ls).take i)) := J1;generalize upd H a1 (.lst ((iV ls).take i)) = H1 at s1 e1 ⊢;refine ⟨_, rfl, _, rfl, _, _, rfl, rfl, _, rfl, _, rfl, _, rfl, dl, _, _, _, rfl, rfl, SqL.of (s1 _ _ d1), Jd (J1k c1), _, _, rfl, rfl, _, rfl, _, _, rfl, rfl, by show 2 <= sizeLine; omega, fun a2 h2 => ?_⟩;have s2 := J3 (o := .lst [V.int (x - st), V.int (st + ls.getD i 0 - x)]) h2;have e2 : upd H1 a2 (.lst [V.int (x - st), V.int (st + ls.getD i 0 - x)]) a2 = some (.lst [V.int (x - st), V.int (st + ls.getD i 0 - x)]) := J1;generalize upd H1 a2 (.lst [V.int (x - st), V.int (st + ls.getD i 0 - x)]) = H2 at s2 e2 ⊢;refine ⟨a1, a2, _, _, rfl, rfl, s2 _ _ e1, e2, by simp only [length_append, length_map, length_take, length_drop, length_cons, length_nil]; omega, fun a3 h3 => ?_⟩;have s3 := J3 (o := .lst ((iV ls).take i ++ [V.int (x - st), V.int (st + ls.getD i 0 - x)])) h3;have e3 : upd H2 a3 (.lst ((iV ls).take i ++ [V.int (x - st), V.int (st + ls.getD i 0 - x)])) a3 = some (.lst ((iV ls).take i ++ [V.int (x - st), V.int (st + ls.getD i 0 - x)])) := J1;generalize upd H2 a3 (.lst ((iV ls).take i ++ [V.int (x - st), V.int (st + ls.getD i 0 - x)])) = H3 at s3 e3 ⊢;have s03 := s1.trans (s2.trans s3);refine ⟨_, rfl, _, rfl, _, _, rfl, rfl, _, rfl, dl, _, rfl, SqL.of (s03 _ _ d1), fun a4 h4 => ?_⟩;have e5' : ((i : Nat) : Int) + 1 = ((i + 1 : Nat) : Int) := by omega
          have ec : cutV (iV ls) (some (((i : Nat) : Int) + 1)) none = (iV ls).drop (i + 1) := by rw [e5', J1a _ _ (by omega)]
          have s4 := J3 (o := .lst (cutV (iV ls) (some (((i : Nat) : Int) + 1)) none)) h4;refine ⟨a3, a4, _, _, rfl, rfl, s4 _ _ e3, J1, by rw [ec]; (simp only [length_append, length_map, length_take, length_drop, length_cons, length_nil]; omega), fun a5 h5 => ⟨a5, rfl, ?_, s03.trans (s4.trans (J3 h5))⟩⟩;rw [J1, ec];refine congrArg (fun z => some (HO.lst z)) ?_;unfold cutLs;rw [show ls.getD i 0 - (x - st) = st + ls.getD i 0 - x by omega];show _ = List.map V.int _;rw [map_append, map_append, map_take, map_drop];rfl
        rintro σ H1 ⟨pp, rfl, hpp, s1⟩;refine ⟨Nat.zero_le _, fun r0 hr0 => ?_⟩;have u0 := J3 (o := .lst []) hr0;have hb : i < ts.length := by omega
        refine ⟨_, rfl, ol, rfl, ⟨_, SqL.of ((s1.trans u0) _ _ d2)⟩, for_list (K := K) (a := ol) (xs := nV os) (fun j σ Hw => ∃ rp v, σ = [some (.ref p), some (.int x), some (.ref dl), some (.ref ol), some (.ref dt), some (.int st), some (.int (i : Nat)), some (.ref pp), some (.ref rp), v] /\ Hw rp = some (.lst (nV ((os.take j).flatMap (cutO i (ts.getD i false))))) /\ H1 rp = none /\ ((os.take j).flatMap (cutO i (ts.getD i false))).length <= 2 * j /\ Same H1 Hw)
          ⟨r0, none, rfl, J1, hr0, Nat.zero_le _, u0⟩ (fun j σ Hw _ ⟨_, _, _, _, _, _, sw⟩ => SqL.of ((s1.trans sw) _ _ d2)) ?_ ?_⟩
        · rintro j v σ Hw hv ⟨rp, v0, rfl, hw, nrp, wl, sw⟩
          obtain ⟨hj, rfl, hm⟩ := nV_get hv;have sHw := s1.trans sw;have tk : os.take (j + 1) = os.take j ++ [os.getD j 0] := by
            rw [take_succ, getD_eq_getElem?_getD, List.getElem?_eq_getElem hj]; rfl
          have fm : (os.take (j + 1)).flatMap (cutO i (ts.getD i false)) = (os.take j).flatMap (cutO i (ts.getD i false)) ++ cutO i (ts.getD i false) (os.getD j 0) := by
            rw [tk, List.flatMap_append]; simp
          generalize os.getD j 0 = o at *;have nx : ∀ ys : List Nat, cutO i (ts.getD i false) o = ys -> nV ((os.take j).flatMap (cutO i (ts.getD i false))) ++ ys.map (fun n : Nat => V.int (n : Int)) = nV ((os.take (j + 1)).flatMap (cutO i (ts.getD i false))) := fun ys e => by
            rw [fm, e, nV_eq, nV_eq, <- map_append]
          have nl : ∀ ys : List Nat, cutO i (ts.getD i false) o = ys -> ys.length <= 2 -> ((os.take (j + 1)).flatMap (cutO i (ts.getD i false))).length <= 2 * (j + 1) := fun ys e h => by rw [fm, e, length_append]; omega
          have lw : (nV ((os.take j).flatMap (cutO i (ts.getD i false)))).length <= 2 * j := by rw [J3g]; exact wl
          refine ⟨_, rfl, _, rfl, rfl, _, rfl, ?_⟩;by_cases e : o = i
          · subst e
            refine iteDT rfl ⟨_, rfl, _, rfl, dt, _, _, _, rfl, rfl, SqL.of (sHw _ _ d3), Jd (J5r hb), _, rfl, ?_⟩;by_cases t : ts.getD o false = true
            · have ec : cutO o (ts.getD o false) o = [o + 1, o] := by unfold cutO; rw [if_neg (by omega), if_neg (by omega), if_pos t]
              refine iteBT t ⟨_, rfl, _, rfl, _, _, rfl, rfl, _, rfl, by show 2 <= sizeLine; omega, fun a hA => ?_⟩;have u := J3 (o := .lst [V.int (((o : Nat) : Int) + 1), V.int ((o : Nat) : Int)]) hA;refine ⟨rp, a, _, _, rfl, rfl, u _ _ hw, J1, by show _ + 2 <= _; omega, fun b hb' => ⟨b, _, rfl, ?_, (sw.trans u).free hb', nl _ ec (by simp), sw.trans (u.trans (J3 hb'))⟩⟩;rw [J1, <- nx _ ec];rfl
            · have ec : cutO o (ts.getD o false) o = [o, o + 1] := by unfold cutO; rw [if_neg (by omega), if_neg (by omega), if_neg t]
              refine iteBF t ⟨_, rfl, _, rfl, rfl, _, rfl, iteDT rfl ⟨_, rfl, _, rfl, _, rfl, _, _, rfl, rfl, by show 2 <= sizeLine; omega, fun a hA => ?_⟩⟩;have u := J3 (o := .lst [V.int ((o : Nat) : Int), V.int (((o : Nat) : Int) + 1)]) hA;refine ⟨rp, a, _, _, rfl, rfl, u _ _ hw, J1, by show _ + 2 <= _; omega, fun b hb' => ⟨b, _, rfl, ?_, (sw.trans u).free hb', nl _ ec (by simp), sw.trans (u.trans (J3 hb'))⟩⟩;rw [J1, <- nx _ ec];rfl
          · refine iteD (fun z => e (by have := V.int.inj z; omega)) (iteF ⟨_, rfl, _, rfl, rfl, _, rfl, iteD (fun z => e (by have := V.int.inj z; omega)) ?_⟩)
            refine ⟨_, rfl, .inl ⟨rfl, _, SqL.of hw⟩, _, rfl, _, rfl, _, rfl, _, _, rfl, rfl, .inr ⟨_, rfl, _, _, rfl, rfl, rp, _, _, rfl, rfl, hw, by omega, rp, _, rfl, ?_, nrp, ?_, fun b u e => by rw [Je (Ja e nrp)]; exact sw _ _ e⟩⟩
            · rw [J1]
              by_cases g : i < o
              · have ec : cutO i (ts.getD i false) o = [o + 1] := by unfold cutO; rw [if_neg (by omega), if_pos g]
                rw [<- nx _ ec];refine congrArg (fun z => some (HO.lst z)) (congrArg (fun z => nV _ ++ z) ?_);show [V.int (((o : Nat) : Int) + (if decide (((i : Nat) : Int) < ((o : Nat) : Int)) = true then 1 else 0))] = [V.int ((o + 1 : Nat) : Int)];rw [if_pos (decide_eq_true (by omega))];rfl
              · have ec : cutO i (ts.getD i false) o = [o] := by unfold cutO; rw [if_pos (by omega)]
                rw [<- nx _ ec];refine congrArg (fun z => some (HO.lst z)) (congrArg (fun z => nV _ ++ z) ?_);show [V.int (((o : Nat) : Int) + (if decide (((i : Nat) : Int) < ((o : Nat) : Int)) = true then 1 else 0))] = [V.int ((o : Nat) : Int)];rw [if_neg (by rw [decide_eq_true_iff]; omega), Int.add_zero]
            · by_cases g : i < o
              · exact nl [o + 1] (by unfold cutO; rw [if_neg (by omega), if_pos g]) (by simp)
              · exact nl [o] (by unfold cutO; rw [if_pos (by omega)]) (by simp)
        · rintro σ Hw ⟨rp, v0, rfl, hw, nrp, wl, sw⟩
          have e0 : (nV os).length = os.length := J3g os;rw [e0, take_length] at hw;have hw' : Hw rp = some (.lst (nV (cutOs os i (ts.getD i false)))) := hw;have sHw := s1.trans sw;have lt' : (bV ts).length = ls.length := (length_map ..).trans tl;refine ⟨_, rfl, _, rfl, _, rfl, _, rfl, _, rfl, dt, _, rfl, SqL.of (sHw _ _ d3), fun a1 h1 => ?_⟩;rw [J1r _ _ (by omega)];have u1 := J3 (o := .lst ((bV ts).take i)) h1;have e1 : upd Hw a1 (.lst ((bV ts).take i)) a1 = some (.lst ((bV ts).take i)) := J1;generalize upd Hw a1 (.lst ((bV ts).take i)) = H2 at u1 e1 ⊢;refine ⟨_, rfl, _, rfl, dt, _, _, _, rfl, rfl, SqL.of (u1 _ _ (sHw _ _ d3)), Jd (J5r hb), by show 1 <= sizeLine; omega, fun a2 h2 => ?_⟩;have u2 := J3 (o := .lst [V.bl (ts.getD i false)]) h2;have e2 : upd H2 a2 (.lst [V.bl (ts.getD i false)]) a2 = some (.lst [V.bl (ts.getD i false)]) := J1;generalize upd H2 a2 (.lst [V.bl (ts.getD i false)]) = H3 at u2 e2 ⊢;refine ⟨a1, a2, _, _, rfl, rfl, u2 _ _ e1, e2, by simp only [length_append, length_map, length_take, length_drop, length_cons, length_nil]; omega, fun a3 h3 => ?_⟩;have u3 := J3 (o := .lst ((bV ts).take i ++ [V.bl (ts.getD i false)])) h3;have e3 : upd H3 a3 (.lst ((bV ts).take i ++ [V.bl (ts.getD i false)])) a3 = some (.lst ((bV ts).take i ++ [V.bl (ts.getD i false)])) := J1;generalize upd H3 a3 (.lst ((bV ts).take i ++ [V.bl (ts.getD i false)])) = H4 at u3 e3 ⊢;have u13 := u1.trans (u2.trans u3);refine ⟨_, rfl, _, rfl, _, rfl, dt, _, rfl, SqL.of (u13 _ _ (sHw _ _ d3)), fun a4 h4 => ?_⟩;rw [J1a _ _ (by omega)];have u4 := J3 (o := .lst ((bV ts).drop i)) h4;refine ⟨a3, a4, _, _, rfl, rfl, u4 _ _ e3, J1, by simp only [length_append, length_map, length_take, length_drop, length_cons, length_nil]; omega, fun a5 h5 => ?_⟩;have u5 := J3 (o := .lst ((bV ts).take i ++ [V.bl (ts.getD i false)] ++ (bV ts).drop i)) h5;refine ⟨by show 3 <= sizeLine; omega, fun q hq => ?_⟩;have u6 := J3 (o := .tup [.ref pp, .ref rp, .ref a5]) hq;have u56 := u5.trans u6;have u16 := u13.trans (u4.trans u56);have G2 := cut_good G (ts.getD i false) c1 (a := x - st) (by omega) (by omega) c4;refine k.2 _ _ _ rfl q _ (sHw.trans u16) ⟨⟨pp, rp, a5, J1, u16 _ _ (sw _ _ hpp), u16 _ _ hw', u6 _ _ ?_⟩, G2, by rw [cutTs_len ts hb, J2b ls c1]; omega⟩;rw [J1, <- cutTs_eq ts hb];refine congrArg (fun z => some (HO.lst z)) ?_;show _ = List.map V.bl _;rw [map_append, map_append, map_take, map_drop];rfl
    · refine iteD (show ¬ ((i : Nat) : Int) < ((ls.length : Nat) : Int) by omega) (iteF ?_)
      obtain rfl : i = ls.length := by omega
      rw [wh] at ha;rw [if_pos (.inl ha)] at k;refine ⟨_, rfl, _, rfl, dl, _, rfl, .inl (SqL.of d1), rfl, _, rfl, ?_⟩;rw [ll];exact iteDT rfl (iteT (k.1 rfl H (Same.refl _)))
noncomputable def dueR (w:Str) (ls:List Int) (os:List Nat) (ts:List Bool) (one two:Int):Option T3 :=
 if w=Str.ofString "cut" then cutR ls os ts one else if w=Str.ofString "turn" then turnR ls os ts one else if w=Str.ofString "long" then longR ls os ts one two else layR ls os ts one two
def spDue69:Sp:=fun vs H Q _=>∃ (p kp:Addr) (ls:List Int) (os:List Nat) (ts:List Bool) (qs:List Addr) (w:Str) (one two:Int),vs=[.ref p,.ref kp,.str w,.int one,.int two]/\DrGood H p ls os ts/\H kp=some (.lst (qs.map V.ref))/\0<=one/\0<=two/\
 (w=Str.ofString "back"->(qs=[]->Q .non H)/\(∀ q,qs[qs.length - 1]?=some q->Q (.ref q) H))/\(w≠Str.ofString "back"->LRes (dueR w ls os ts one two) H Q)
theorem scDue69:FnScope ["drawn","kept","word","one","two","lengths","order","turned","row"] ["drawn","kept","word","one","two"] (J9 sDue):=fS
theorem ok_due69 {f fLC :Addr} {fd fdLC:FuncData}  (F:Fun K "_law_due" "_law_due" sDue f fd) (T:TxtR mg)
  (GLC:FnOk P w K mg base CX0 1 fLC fdLC ["drawn","x"] spLCut) (bLC:Binds K fdLC ["drawn","x"] []) (mLC:mg "_law_cut"=some (.ref fLC)) (kLC:keepIn K (.ref fLC)=true) :
  FnOk P w K mg base CX0 2 f fd ["drawn","kept","word","one","two"] spDue69:=by
 refine F.ok scDue69 (fun vs H Q E h=>?_) (fun cdv A outer s H vs Q E hr h=>?_)
 ·obtain ⟨p,kp,ls,os,ts,qs,w,one,two,rfl,_⟩:=h;rfl
 ·obtain ⟨p,kp,ls,os,ts,qs,w,one,two,rfl,DG,hk,o0,t0,kb,kn⟩:=h;have hr1:Room 1 _:=rm hr;refine ⟨_,(J2 (J40 (pv 0) (pg_tup rfl (J16 (J10 (i:=5) scDue69.nd rfl (Or.inl rfl)) (J16 (J10 (i:=6) scDue69.nd rfl (Or.inl rfl)) (J16 (J10 (i:=7) scDue69.nd rfl (Or.inl rfl)) pgs_nil)))))
   (J2 (ps_if (Jc op_eq (pv 2) Jn (Jg _)) (J6 (Ji (J2y (Jc op_gt (Jb J8 (by rfl) T.len boot_len (J0 (pv 1) J4)) J7 (Jg _)) (pe_ix Jf (pv 1) (pe_un un_neg J7) (fun _ _=>rfl)) J1e))) Jh)
   (J2 (ps_if (Jc op_eq (pv 2) Jn (Jg _)) (J6 (Ji (Jk GLC hr1 rfl mLC kLC bLC .nil pass0 (J0 (pv 0) (J0 (pv 3) J4))))) Jh)
   (J2 (ps_if (Jc op_ge (pv 3) (Jb J8 (by rfl) T.len boot_len (J0 (pv 5) J4)) (Jg _)) (J6 (Ji J1e)) Jh)
   (J2 (ps_if (Jc op_eq (pv 2) Jn (Jg _)) (J6 (Ji (J1w (J0 (pv 5) (J0 (pv 6) (J0 (pe_op J27 (pe_op J27 (Jo J11 (pv 7) Jz (Js (pv 3))) (J14 (J0 (pe_not (pe_ix Jf (pv 7) (pv 3) (fun _ _=>rfl))) J4))) (Jo J11 (pv 7) (Js (pe_op Jv (pv 3) J7)) Jz)) J4)))))) Jh)
   (J2 (ps_if (Jc op_eq (pv 2) Jn (Jg _)) (J2 (ps_if (PW.pt (pw_or (Jc op_lt (pv 4) J7 (Jg _)) (J3c (Jc op_gt (pe_op Jv (pe_op J4t (Jb (J21 rfl) (by rfl) T.sum boot_sum (J0 (pv 5) J4)) (pe_ix Jf (pv 5) (pv 3) (fun _ _=>rfl))) (pv 4)) (pe_op J5f J7 J7) (Jg _))))) (J6 (Ji J1e)) Jh)
    (J6 (Ji (J1w (J0 (pe_op J27 (pe_op J27 (Jo J11 (pv 5) Jz (Js (pv 3))) (J14 (J0 (pv 4) J4))) (Jo J11 (pv 5) (Js (pe_op Jv (pv 3) J7)) Jz)) (J0 (pv 6) (J0 (pv 7) J4))))))) Jh)
   (J2 (ps_lc (i:=8) (caps:=["one"]) (js:=[3]) scDue69.nd rfl (Or.inl rfl) rfl (J2i (pv 6)) rfl (fun _ _ _ _=>(pts_one (Jc op_ne (pv 0) (pv 1) (Jg _)))) (fun C fp s H=>(pv 0)) (by decide +kernel) (by decide +kernel) (by decide +kernel) (by intro p hp;simp only [mem_cons,not_mem_nil,or_false] at hp;rcases hp with rfl;rfl))
   (J2 (ps_if (Jc op_ge (pv 4) (Jb J8 (by rfl) T.len boot_len (J0 (pv 5) J4)) (Jg _)) (J6 (Ji J1e)) Jh)
   (J6 (Ji (J1w (J0 (pv 5) (J0 (pe_op J27 (pe_op J27 (Jo J11 (pv 8) Jz (Js (pv 4))) (J14 (J0 (pv 3) J4))) (Jo J11 (pv 8) (Js (pv 4)) Jz)) (J0 (pv 7) J4)))))))))))))),?_⟩
  obtain ⟨dl,ol,dt,d0,d1,d2,d3⟩:=DG.at_.ex;have G:=DG.good;have O:=G.ord;have tl:=DG.len;have oln:=G.olen;have lo1:=G.lo;have hi1:=G.hi;have sm:=Ju (n:=300) (by decide);have ll:(iV ls).length=ls.length:=length_map ..;have lt':(bV ts).length=ls.length:=(length_map ..).trans tl;refine ⟨_,rfl,p,_,rfl,SqT.of d0,rfl,_,_,rfl,_,_,rfl,_,_,rfl,rfl,?_⟩;refine ⟨_,rfl,rfl,_,rfl,?_⟩;by_cases c0:w=Str.ofString "back"
  ·obtain ⟨kb0,kb1⟩:=kb c0;refine iteDT (by rw [c0]) ⟨_,rfl,kp,_,rfl,.inl (SqL.of hk),_,_,rfl,rfl,_,rfl,?_⟩;rw [length_map];by_cases e:qs=[]
   ·exact iteD (by rw [e];show ¬ (0:Int) < 0;decide) (kb0 e)
   ·have l0:0 < qs.length:=length_pos_iff.mpr e;have eq:=List.getElem?_eq_getElem (show qs.length - 1 < qs.length by omega);exact iteDT (show (0:Int) < ((qs.length:Nat):Int) by omega) ⟨_,rfl,_,rfl,kp,_,_,_,rfl,rfl,SqL.of hk,atI_last (by rw [length_map,getElem?_map,eq];rfl),kb1 _ eq⟩
  refine iteD (fun e=>c0 (V.str.inj e)) ?_;have k:=kn c0;clear kb kn;unfold dueR at k;refine ⟨_,rfl,rfl,_,rfl,?_⟩;by_cases c1:w=Str.ofString "cut"
  ·rw [if_pos c1] at k;exact iteDT (by rw [c1]) ⟨_,rfl,_,rfl,p,ls,os,ts,one,rfl,DG,o0,k⟩
  rw [if_neg c1] at k;refine iteD (fun e=>c1 (V.str.inj e)) ?_;obtain ⟨n,rfl⟩:∃ n:Nat,one=(n:Int):=⟨one.toNat,by omega⟩;have en:((n:Nat):Int) + 1=((n + 1:Nat):Int):=by omega
  refine ⟨_,rfl,_,rfl,dl,_,rfl,.inl (SqL.of d1),_,_,rfl,rfl,_,rfl,?_⟩;rw [ll];by_cases c2:((ls.length:Nat):Int)<=(n:Int)
  ·have kz:(if w=Str.ofString "turn" then turnR ls os ts (n:Int) else if w=Str.ofString "long" then longR ls os ts (n:Int) two else layR ls os ts (n:Int) two)=none:=by
    split
    ·unfold turnR;rw [if_pos c2]
    ·split
     ·unfold longR;rw [if_pos (Or.inl c2)]
     ·unfold layR;rw [if_pos (Or.inl c2)]
   exact iteDT c2 (k.1 kz H (Same.refl _))
  refine iteD (show ¬ (n:Int)>=((ls.length:Nat):Int) by omega) ?_;have hn:n < ls.length:=by omega
  have hb:n < ts.length:=by omega
  refine ⟨_,rfl,rfl,_,rfl,?_⟩;by_cases c3:w=Str.ofString "turn"
  ·rw [if_pos c3] at k;unfold turnR at k;rw [if_neg c2,Int.toNat_natCast] at k;refine iteDT (by rw [c3]) ⟨_,rfl,_,rfl,_,rfl,_,rfl,_,rfl,dt,_,rfl,SqL.of d3,fun a1 h1=>?_⟩;rw [J1r _ _ (by omega)];have u1:=J3 (o:=.lst ((bV ts).take n)) h1;have e1:upd H a1 (.lst ((bV ts).take n)) a1=some (.lst ((bV ts).take n)):=J1;generalize upd H a1 (.lst ((bV ts).take n))=H1 at u1 e1 ⊢;refine ⟨_,rfl,_,rfl,dt,_,_,_,rfl,rfl,SqL.of (u1 _ _ d3),Jd (J5r hb),_,rfl,by show 1<=sizeLine;omega,fun a2 h2=>?_⟩;have u2:=J3 (o:=.lst [V.bl (!ts.getD n false)]) h2;have e2:upd H1 a2 (.lst [V.bl (!ts.getD n false)]) a2=some (.lst [V.bl (!ts.getD n false)]):=J1;generalize upd H1 a2 (.lst [V.bl (!ts.getD n false)])=H2 at u2 e2 ⊢;refine ⟨a1,a2,_,_,rfl,rfl,u2 _ _ e1,e2,by simp only [length_append,length_map,length_take,length_drop,length_cons,length_nil];omega,fun a3 h3=>?_⟩;have u3:=J3 (o:=.lst ((bV ts).take n ++ [V.bl (!ts.getD n false)])) h3;have e3:upd H2 a3 (.lst ((bV ts).take n ++ [V.bl (!ts.getD n false)])) a3=some (.lst ((bV ts).take n ++ [V.bl (!ts.getD n false)])):=J1;generalize upd H2 a3 (.lst ((bV ts).take n ++ [V.bl (!ts.getD n false)]))=H3 at u3 e3 ⊢;have u13:=u1.trans (u2.trans u3);refine ⟨_,rfl,_,rfl,_,_,rfl,rfl,_,rfl,dt,_,rfl,SqL.of (u13 _ _ d3),fun a4 h4=>?_⟩;have ec:cutV (bV ts) (some (((n:Nat):Int) + 1)) none=(bV ts).drop (n + 1):=by rw [en,J1a _ _ (by omega)]
   have u4:=J3 (o:=.lst (cutV (bV ts) (some (((n:Nat):Int) + 1)) none)) h4;refine ⟨a3,a4,_,_,rfl,rfl,u4 _ _ e3,J1,by rw [ec];(simp only [length_append,length_map,length_take,length_drop,length_cons,length_nil];omega),fun a5 h5=>⟨by show 3<=sizeLine;omega,fun q hq=>?_⟩⟩;have u5:=J3 (o:=.lst ((bV ts).take n ++ [V.bl (!ts.getD n false)] ++ cutV (bV ts) (some (((n:Nat):Int) + 1)) none)) h5;have u6:=J3 (o:=.tup [.ref dl,.ref ol,.ref a5]) hq;have u16:=u13.trans (u4.trans (u5.trans u6));refine k.2 _ _ _ rfl q _ u16 ⟨⟨dl,ol,a5,J1,u16 _ _ d1,u16 _ _ d2,u6 _ _ ?_⟩,G,by rw [length_set];exact tl⟩;rw [J1,ec,<- set_split ts hb];refine congrArg (fun z=>some (HO.lst z)) ?_;show _=List.map V.bl _;rw [map_append,map_append,map_take,map_drop];rfl
  rw [if_neg c3] at k;refine iteD (fun e=>c3 (V.str.inj e)) ?_;refine ⟨_,rfl,rfl,_,rfl,?_⟩;by_cases c4:w=Str.ofString "long"
  ·rw [if_pos c4] at k;unfold longR at k;rw [Int.toNat_natCast] at k;refine iteDT (by rw [c4]) ⟨_,rfl,_,_,rfl,rfl,_,rfl,?_⟩;by_cases c5:two < 1
   ·rw [if_pos (.inr (.inl (by omega)))] at k;exact iteDT c5 (iteT (k.1 rfl H (Same.refl _)))
   refine iteD c5 ⟨_,rfl,dl,ls,rfl,.inl (SqL.of d1),_,rfl,_,rfl,dl,_,_,_,rfl,rfl,SqL.of d1,Jd (J1k hn),_,_,rfl,rfl,_,rfl,_,_,rfl,rfl,_,_,rfl,rfl,⟨by decide,by decide,by decide⟩,_,_,rfl,rfl,_,rfl,?_⟩;by_cases c6:(10:Int) ^ 30 < ls.sum - ls.getD n 0 + two
   ·rw [if_pos (.inr (.inr c6))] at k;exact iteDT c6 (k.1 rfl H (Same.refl _))
   rw [if_neg (fun z=>z.elim c2 fun z=>z.elim (fun z=>by omega) c6)] at k;refine iteD c6 ⟨_,rfl,_,rfl,_,rfl,dl,_,rfl,SqL.of d1,fun a1 h1=>?_⟩;rw [J1r _ _ (by omega)];have u1:=J3 (o:=.lst ((iV ls).take n)) h1;have e1:upd H a1 (.lst ((iV ls).take n)) a1=some (.lst ((iV ls).take n)):=J1;generalize upd H a1 (.lst ((iV ls).take n))=H1 at u1 e1 ⊢;refine ⟨_,rfl,by show 1<=sizeLine;omega,fun a2 h2=>?_⟩;have u2:=J3 (o:=.lst [V.int two]) h2;have e2:upd H1 a2 (.lst [V.int two]) a2=some (.lst [V.int two]):=J1;generalize upd H1 a2 (.lst [V.int two])=H2 at u2 e2 ⊢;refine ⟨a1,a2,_,_,rfl,rfl,u2 _ _ e1,e2,by simp only [length_append,length_map,length_take,length_drop,length_cons,length_nil];omega,fun a3 h3=>?_⟩;have u3:=J3 (o:=.lst ((iV ls).take n ++ [V.int two])) h3;have e3:upd H2 a3 (.lst ((iV ls).take n ++ [V.int two])) a3=some (.lst ((iV ls).take n ++ [V.int two])):=J1;generalize upd H2 a3 (.lst ((iV ls).take n ++ [V.int two]))=H3 at u3 e3 ⊢;have u13:=u1.trans (u2.trans u3);refine ⟨_,rfl,_,rfl,_,_,rfl,rfl,_,rfl,dl,_,rfl,SqL.of (u13 _ _ d1),fun a4 h4=>?_⟩;have ec:cutV (iV ls) (some (((n:Nat):Int) + 1)) none=(iV ls).drop (n + 1):=by rw [en,J1a _ _ (by omega)]
   have u4:=J3 (o:=.lst (cutV (iV ls) (some (((n:Nat):Int) + 1)) none)) h4;refine ⟨a3,a4,_,_,rfl,rfl,u4 _ _ e3,J1,by rw [ec];(simp only [length_append,length_map,length_take,length_drop,length_cons,length_nil];omega),fun a5 h5=>⟨_,rfl,_,rfl,by show 3<=sizeLine;omega,fun q hq=>?_⟩⟩;have u5:=J3 (o:=.lst ((iV ls).take n ++ [V.int two] ++ cutV (iV ls) (some (((n:Nat):Int) + 1)) none)) h5;have u6:=J3 (o:=.tup [.ref a5,.ref ol,.ref dt]) hq;have u16:=u13.trans (u4.trans (u5.trans u6));have G2:Good (ls.set n two) os:=by
    refine ⟨by rw [length_set];exact G.lo,by rw [length_set];exact G.hi,fun a ha=>?_,by rw [set_sum ls hn];omega,by rw [length_set];exact G.perm⟩;rcases List.mem_or_eq_of_mem_set ha with z | z
    ·exact G.pos a z
    ·omega
   refine k.2 _ _ _ rfl q _ u16 ⟨⟨a5,ol,dt,J1,u6 _ _ ?_,u16 _ _ d2,u16 _ _ d3⟩,G2,by rw [length_set];exact tl⟩;rw [J1,ec,<- set_split ls hn];refine congrArg (fun z=>some (HO.lst z)) ?_;show _=List.map V.int _;rw [map_append,map_append,map_take,map_drop];rfl
  rw [if_neg c4] at k;refine iteD (fun e=>c4 (V.str.inj e)) ?_;unfold layR at k;obtain ⟨m,rfl⟩:∃ m:Nat,two=(m:Int):=⟨two.toNat,by omega⟩;rw [Int.toNat_natCast,Int.toNat_natCast] at k;refine ⟨_,rfl,ol,rfl,⟨_,SqL.of d2⟩,fun r1 hr1=>lc_lst (fun (o:Nat)=>V.int (o:Int)) os (fun o=>!decide (o=n)) (fun o=>V.int (o:Int)) (by rw [<- nV_eq];exact SqL.of d2) (by omega) hr1 (fun o ho Hc Qt sc q=>?_) (fun o ho Hc Qe _ sc q=>?_) (fun H1 s1 h1=>?_)⟩
  ·refine ⟨_,rfl,_,rfl,rfl,_,rfl,?_⟩;have e:decide (V.int (o:Int)=V.int (n:Int))=decide (o=n):=decide_eq_decide.mpr ⟨fun z=>by have:=V.int.inj z;omega,fun z=>by rw [z]⟩;show Qt (!decide (V.int (o:Int)=V.int (n:Int))) Hc;rw [e];exact q _ (Same.refl _)
  ·exact ⟨_,rfl,q _ (Same.refl _)⟩
  rw [<- nV_eq] at h1;have fl:=lay_len G.perm hn;have lf:(nV (os.filter fun o=>!decide (o=n))).length=(os.filter fun o=>!decide (o=n)).length:=J3g _;refine ⟨_,rfl,_,rfl,dl,_,rfl,.inl (SqL.of (s1 _ _ d1)),_,_,rfl,rfl,_,rfl,?_⟩;rw [ll];by_cases c7:((ls.length:Nat):Int)<=(m:Int)
  ·rw [if_pos (.inr c7)] at k;exact iteDT c7 (k.1 rfl H1 s1)
  rw [if_neg (fun z=>z.elim c2 c7)] at k;refine iteD (show ¬ (m:Int)>=((ls.length:Nat):Int) by omega) ?_;generalize eF:(os.filter fun o=>!decide (o=n))=rr at *;refine ⟨_,rfl,_,rfl,_,rfl,_,rfl,r1,_,rfl,SqL.of h1,fun a1 g1=>?_⟩;rw [J1r _ _ (by omega)];have u1:=J3 (o:=.lst ((nV rr).take m)) g1;have e1:upd H1 a1 (.lst ((nV rr).take m)) a1=some (.lst ((nV rr).take m)):=J1;generalize upd H1 a1 (.lst ((nV rr).take m))=H2 at u1 e1 ⊢;refine ⟨_,rfl,by show 1<=sizeLine;omega,fun a2 g2=>?_⟩;have u2:=J3 (o:=.lst [V.int (n:Int)]) g2;have e2:upd H2 a2 (.lst [V.int (n:Int)]) a2=some (.lst [V.int (n:Int)]):=J1;generalize upd H2 a2 (.lst [V.int (n:Int)])=H3 at u2 e2 ⊢;refine ⟨a1,a2,_,_,rfl,rfl,u2 _ _ e1,e2,by rw [length_take,lf];show _ + 1<=_;omega,fun a3 g3=>?_⟩;have u3:=J3 (o:=.lst ((nV rr).take m ++ [V.int (n:Int)])) g3;have e3:upd H3 a3 (.lst ((nV rr).take m ++ [V.int (n:Int)])) a3=some (.lst ((nV rr).take m ++ [V.int (n:Int)])):=J1;generalize upd H3 a3 (.lst ((nV rr).take m ++ [V.int (n:Int)]))=H4 at u3 e3 ⊢;have u13:=u1.trans (u2.trans u3);refine ⟨_,rfl,_,rfl,_,rfl,r1,_,rfl,SqL.of (u13 _ _ h1),fun a4 g4=>?_⟩;rw [J1a _ _ (by omega)];have u4:=J3 (o:=.lst ((nV rr).drop m)) g4;refine ⟨a3,a4,_,_,rfl,rfl,u4 _ _ e3,J1,by rw [length_append,length_take,length_drop,lf];show _ + 1 + _<=_;omega,fun a5 g5=>⟨_,rfl,by show 3<=sizeLine;omega,fun q hq=>?_⟩⟩;have u5:=J3 (o:=.lst ((nV rr).take m ++ [V.int (n:Int)] ++ (nV rr).drop m)) g5;have u6:=J3 (o:=.tup [.ref dl,.ref a5,.ref dt]) hq;have u16:=u13.trans (u4.trans (u5.trans u6));have G2:Good ls (layOs os n m):=⟨G.lo,G.hi,G.pos,G.sum,J31 G.perm hn⟩;have s16:=s1.trans u16;refine k.2 _ _ _ rfl q _ s16 ⟨⟨dl,a5,dt,J1,s16 _ _ d1,u6 _ _ ?_,s16 _ _ d3⟩,G2,tl⟩;rw [J1];refine congrArg (fun z=>some (HO.lst z)) ?_;unfold layOs;rw [eF,nV_eq,nV_eq,map_append,map_cons,map_take,map_drop,List.append_assoc];rfl
abbrev wCut:Str:=Str.ofString "cut"
abbrev wTurn:Str:=Str.ofString "turn"
abbrev wLay:Str:=Str.ofString "lay"
abbrev wLong:Str:=Str.ofString "long"
abbrev wBack:Str:=Str.ofString "back"
theorem w_ne:wTurn≠wCut/\wLay≠wCut/\wLay≠wTurn/\wLong≠wCut/\wLong≠wTurn/\wLong≠wLay/\wBack≠wCut/\wBack≠wTurn/\wBack≠wLay/\wBack≠wLong:=by decide +kernel
structure RowK (w:Str) (one two:Int) (z:Str):Prop where
 o0:0<=one
 t0:0<=two
 row:∃ ns,RowW z w ns/\(w≠wBack->z≠wBack/\∀ ls os ts,lbR w ns ls os ts=dueR w ls os ts one two)/\(w=wBack->z=wBack/\∀ ls os ts,lbR w ns ls os ts=none)
theorem back_row:RowW wBack wBack []:=⟨(J1x _ _).symm,by decide +kernel,by decide +kernel,(fun n h=>by cases h),Nat.zero_le _⟩
theorem RowW.back {z w:Str} {ns:List Int} (h:RowW z w ns) (e:z=wBack):w=wBack:=by
 have h1:=h.split;have h2:=back_row.split;rw [e,h2] at h1;injection h1 with h3 _
 exact h3.symm
theorem row1 {w:Str} {one:Int} (hf:32 ∉ w.cps.toList) (hl:w.length<=100) (o0:0<=one) (o1:one < 10 ^ 40):RowW (w ++ sp1 ++ numS one) w [one] :=
 ⟨by rw [show w :: [one].map numS=w :: [numS one] from rfl,J2f _ _ (cons_ne_nil _ _),J1x],hf,hl,fun n h=>by rw [mem_singleton.mp h];exact ⟨o0,o1⟩,by show 1<=10;decide⟩
theorem row2 {w:Str} {one two:Int} (hf:32 ∉ w.cps.toList) (hl:w.length<=100) (o0:0<=one) (o1:one < 10 ^ 40) (t0:0<=two) (t1:two < 10 ^ 40):RowW (w ++ sp1 ++ numS one ++ sp1 ++ numS two) w [one,two] :=
 ⟨by rw [show w :: [one,two].map numS=w :: [numS one,numS two] from rfl,J2f _ _ (cons_ne_nil _ _),J2f _ _ (cons_ne_nil _ _),J1x];simp only [Str.append_assoc],hf,hl,fun n h=>by
  simp only [mem_cons,not_mem_nil,or_false] at h;rcases h with rfl | rfl
  ·exact ⟨o0,o1⟩
  ·exact ⟨t0,t1⟩,by show 2<=10;decide⟩
theorem rowK_cut {one two:Int} (o0:0<=one) (o1:one < 10 ^ 40) (t0:0<=two):RowK wCut one two (Str.ofString "cut " ++ numS one):=by
 have R:=row1 (w:=wCut) (by decide +kernel) (by decide +kernel) o0 o1;have e:wCut ++ sp1=Str.ofString "cut ":=by decide +kernel
 rw [e] at R;obtain ⟨n1,n2,n3,n4,n5,n6,n7,n8,n9,n10⟩:=w_ne;refine ⟨o0,t0,[one],R,fun _=>⟨fun z=>n7 (R.back z).symm,fun ls os ts=>?_⟩,fun z=>absurd z.symm n7⟩;unfold lbR dueR;rw [if_pos ⟨rfl,rfl⟩,if_pos rfl];rfl
theorem rowK_turn {one two:Int} (o0:0<=one) (o1:one < 10 ^ 40) (t0:0<=two):RowK wTurn one two (Str.ofString "turn " ++ numS one):=by
 have R:=row1 (w:=wTurn) (by decide +kernel) (by decide +kernel) o0 o1;have e:wTurn ++ sp1=Str.ofString "turn ":=by decide +kernel
 rw [e] at R;obtain ⟨n1,n2,n3,n4,n5,n6,n7,n8,n9,n10⟩:=w_ne;refine ⟨o0,t0,[one],R,fun _=>⟨fun z=>n8 (R.back z).symm,fun ls os ts=>?_⟩,fun z=>absurd z.symm n8⟩;unfold lbR dueR;rw [if_neg (fun z=>n1 z.1),if_pos ⟨rfl,rfl⟩,if_neg n1,if_pos rfl];rfl
theorem rowK_lay {one two:Int} (o0:0<=one) (o1:one < 10 ^ 40) (t0:0<=two) (t1:two < 10 ^ 40):RowK wLay one two (wLay ++ sp1 ++ numS one ++ sp1 ++ numS two):=by
 have R:=row2 (w:=wLay) (by decide +kernel) (by decide +kernel) o0 o1 t0 t1;obtain ⟨n1,n2,n3,n4,n5,n6,n7,n8,n9,n10⟩:=w_ne;refine ⟨o0,t0,[one,two],R,fun _=>⟨fun z=>n9 (R.back z).symm,fun ls os ts=>?_⟩,fun z=>absurd z.symm n9⟩;unfold lbR dueR;rw [if_neg (fun z=>n2 z.1),if_neg (fun z=>n3 z.1),if_pos ⟨rfl,rfl⟩,if_neg n2,if_neg n3,if_neg (Ne.symm n6)];rfl
theorem rowK_long {one two:Int} (o0:0<=one) (o1:one < 10 ^ 40) (t0:0<=two) (t1:two < 10 ^ 40):RowK wLong one two (wLong ++ sp1 ++ numS one ++ sp1 ++ numS two):=by
 have R:=row2 (w:=wLong) (by decide +kernel) (by decide +kernel) o0 o1 t0 t1;obtain ⟨n1,n2,n3,n4,n5,n6,n7,n8,n9,n10⟩:=w_ne;refine ⟨o0,t0,[one,two],R,fun _=>⟨fun z=>n10 (R.back z).symm,fun ls os ts=>?_⟩,fun z=>absurd z.symm n10⟩;unfold lbR dueR;rw [if_neg (fun z=>n4 z.1),if_neg (fun z=>n5 z.1),if_neg (fun z=>n6 z.1),if_pos ⟨rfl,rfl⟩,if_neg n4,if_neg n5,if_pos rfl];rfl
theorem rowK_back {one two:Int} (o0:0<=one) (t0:0<=two):RowK wBack one two wBack:=by
 obtain ⟨n1,n2,n3,n4,n5,n6,n7,n8,n9,n10⟩:=w_ne;refine ⟨o0,t0,[],back_row,fun n=>absurd rfl n,fun _=>⟨rfl,fun ls os ts=>?_⟩⟩;unfold lbR;rw [if_neg (fun z=>n7 z.1),if_neg (fun z=>n8 z.1),if_neg (fun z=>n9 z.1),if_neg (fun z=>n10 z.1)]
theorem menuW {m:Int} (h0:0<=m) (h1:m < 8):∃ w:Str,atI [V.str wCut,V.str wTurn,V.str wLay,V.str wLong,V.str wBack,V.str wCut,V.str wLay,V.str wLong] m=some (V.str w)/\(w=wCut\/w=wTurn\/w=wLay\/w=wLong\/w=wBack):=by
 have h:m=0\/m=1\/m=2\/m=3\/m=4\/m=5\/m=6\/m=7:=by omega
 rcases h with rfl | rfl | rfl | rfl | rfl | rfl | rfl | rfl
 ·exact ⟨_,rfl,.inl rfl⟩
 ·exact ⟨_,rfl,.inr (.inl rfl)⟩
 ·exact ⟨_,rfl,.inr (.inr (.inl rfl))⟩
 ·exact ⟨_,rfl,.inr (.inr (.inr (.inl rfl)))⟩
 ·exact ⟨_,rfl,.inr (.inr (.inr (.inr rfl)))⟩
 ·exact ⟨_,rfl,.inl rfl⟩
 ·exact ⟨_,rfl,.inr (.inr (.inl rfl))⟩
 ·exact ⟨_,rfl,.inr (.inr (.inr (.inl rfl)))⟩
theorem pick3 {a b c m:Int} (P:Int->Prop) (h0:0<=m) (h1:m < 3) (ha:P a) (hb:P b) (hc:P c):∃ v,atI [V.int a,V.int b,V.int c] m=some (V.int v)/\P v:=by
 have h:m=0\/m=1\/m=2:=by omega
 rcases h with rfl | rfl | rfl
 ·exact ⟨a,rfl,ha⟩
 ·exact ⟨b,rfl,hb⟩
 ·exact ⟨c,rfl,hc⟩
def spLRow:Sp:=fun vs H Q _=>∃ (p cp:Addr) (ls:List Int) (os:List Nat) (ts:List Bool) (c0 c1 c2:Int),vs=[.ref p,.ref cp]/\DrGood H p ls os ts/\H cp=some (.lst [.int c0,.int c1,.int c2])/\
 ∀ q w one two z H',Same H H'->H' q=some (.tup [.str w,.int one,.int two,.str z])->RowK w one two z->Q (.ref q) H'
theorem scLRow:FnScope ["drawn","cells","size","many","word","one","two"] ["drawn","cells"] (J9 sLRow):=fS
theorem ok_lrow {f   : Addr} {fd  : FuncData}  (F : Fun K "_law_row" "_law_row" sLRow f fd) (T : TxtR mg) (hstr : mg "str" = none)
 :
    FnOk P w K mg base CX0 1 f fd ["drawn", "cells"] spLRow := by
  refine F.ok scLRow (fun vs H Q E h => ?_) (fun cdv A outer s H vs Q E hr h => ?_)
  · obtain ⟨p, cp, ls, os, ts, c0, c1, c2, rfl, _⟩ := h
    rfl
  · obtain ⟨p, cp, ls, os, ts, c0, c1, c2, rfl, DG, hc, k⟩ := h
    refine ⟨_, (J2 (Jm (i := 2) scLRow.nd rfl (Or.inl rfl) (Jb (J21 rfl) (by rfl) T.sum boot_sum (J0 (pe_ix J1z (pv 0) J7 (fun _ _ => rfl)) J4)))
      (J2 (Jm (i := 3) scLRow.nd rfl (Or.inl rfl) (Jb J8 (by rfl) T.len boot_len (J0 (pe_ix J1z (pv 0) J7 (fun _ _ => rfl)) J4)))
      (J2 (Jm (i := 4) scLRow.nd rfl (Or.inl rfl) (pe_ix Jf (J14 (J0 Jn (J0 Jn (J0 Jn (J0 Jn (J0 Jn (J0 Jn (J0 Jn (J0 Jn J4))))))))) (pe_op J1f (pe_ix Jf (pv 1) J7 (fun _ _ => rfl)) J7) (fun _ _ => rfl)))
      (J2 (Jm (i := 5) scLRow.nd rfl (Or.inl rfl) (pe_op J1f (pe_ix Jf (pv 1) J7 (fun _ _ => rfl)) (pe_op Jv (pv 3) J7)))
      (J2 (J3e (Jm (i := 6) scLRow.nd rfl (Or.inl rfl) (pe_op J1f (pe_ix Jf (pv 1) J7 (fun _ _ => rfl)) (pe_op Jv (pv 3) J7))))
      (J2 (ps_if (Jc op_eq (pv 4) Jn (Jg _)) (J2 (Jm (i := 5) scLRow.nd rfl (Or.inl rfl) (pe_ix Jf (J14 (J0 (pe_op J1f (pe_ix Jf (pv 1) J7 (fun _ _ => rfl)) (pe_op Jv (pv 2) J7)) (J0 (Jb (J21 rfl) (by rfl) T.sum boot_sum (J0 (Jo J11 (pe_ix J1z (pv 0) J7 (fun _ _ => rfl)) Jz (Js (pv 5))) J4)) (J0 (pe_op J1f (pe_ix Jf (pv 1) J7 (fun _ _ => rfl)) (pe_op J5f J7 J7)) J4)))) (pe_op J1f (pe_op J4u (pe_ix Jf (pv 1) J7 (fun _ _ => rfl)) J7) J7) (fun _ _ => rfl)))
        (J6 (Ji (J1w (J0 (pv 4) (J0 (pv 5) (J0 (pv 6) (J0 (pe_op Jp Jn (Jj Jr (by rfl) hstr boot_str (J0 (pv 5) J4))) J4)))))))) Jh)
      (J2 (ps_if (Jc op_eq (pv 4) Jn (Jg _)) (J6 (Ji (J1w (J0 (pv 4) (J0 (pv 5) (J0 (pv 6) (J0 (pe_op Jp Jn (Jj Jr (by rfl) hstr boot_str (J0 (pv 5) J4))) J4))))))) Jh)
      (J2 (ps_if (Jc op_eq (pv 4) Jn (Jg _)) (J6 (Ji (J1w (J0 (pv 4) (J0 (pv 5) (J0 (pv 6) (J0 Jn J4))))))) Jh)
      (J2 (J3e (ps_if (Jc op_eq (pv 4) Jn (Jg _)) (J6 (Jm (i := 6) scLRow.nd rfl (Or.inl rfl) (pe_op J1f (pe_ix Jf (pv 1) J7 (fun _ _ => rfl)) (pe_ix Jf (J14 (J0 J7 (J0 (pe_op Jv (pe_op J5f J7 J7) J7) (J0 (pe_op J5f J7 J7) J4)))) (pe_op J1f (pe_op J4u (pe_ix Jf (pv 1) J7 (fun _ _ => rfl)) J7) J7) (fun _ _ => rfl))))) Jh))
      (J6 (Ji (J1w (J0 (pv 4) (J0 (pv 5) (J0 (pv 6) (J0 (pe_op Jp (pe_op Jp (pe_op Jp (pe_op Jp (pv 4) Jn) (Jj Jr (by rfl) hstr boot_str (J0 (pv 5) J4))) Jn) (Jj Jr (by rfl) hstr boot_str (J0 (pv 6) J4))) J4)))))))))))))))), ?_⟩
    obtain ⟨dl, ol, dt, d0, d1, d2, d3⟩ := DG.at_.ex;have G := DG.good;have hi1 := G.hi;have gs := G.sum;have ps := G.pos_sum;have sm := Ju (n := 300) (by decide);have ll : (iV ls).length = ls.length := length_map ..;obtain ⟨w, aw, hw⟩ := menuW (m := c0 % 8) (Int.emod_nonneg _ (by decide)) (Int.emod_lt_of_pos _ (by decide));have b30 : (10 : Int) ^ 30 + 5 < 10 ^ 40 := by decide
    have b24 : (30 : Int) < 10 ^ 40 := by decide
    refine ⟨_, rfl, p, _, _, _, rfl, rfl, SqT.of d0, Jd (j := 0) rfl, dl, ls, rfl, .inl (SqL.of d1), ?_⟩;refine ⟨_, rfl, p, _, _, _, rfl, rfl, SqT.of d0, Jd (j := 0) rfl, dl, _, rfl, .inl (SqL.of d1), ?_⟩;rw [ll];refine ⟨by show 8 <= sizeLine; omega, fun l hl => ?_⟩;have s1 := J3 (o := .lst [V.str wCut, V.str wTurn, V.str wLay, V.str wLong, V.str wBack, V.str wCut, V.str wLay, V.str wLong]) hl;have hl1 : upd H l (.lst [V.str wCut, V.str wTurn, V.str wLay, V.str wLong, V.str wBack, V.str wCut, V.str wLay, V.str wLong]) l = some (.lst [V.str wCut, V.str wTurn, V.str wLay, V.str wLong, V.str wBack, V.str wCut, V.str wLay, V.str wLong]) := J1;generalize upd H l (.lst [V.str wCut, V.str wTurn, V.str wLay, V.str wLong, V.str wBack, V.str wCut, V.str wLay, V.str wLong]) = H1 at s1 hl1 ⊢;have hc1 := s1 _ _ hc;refine ⟨_, rfl, cp, _, _, _, rfl, rfl, SqL.of hc1, Jd (j := 0) rfl, _, _, rfl, rfl, (by show (0 : Int) < 8; decide), l, _, _, _, rfl, rfl, SqL.of hl1, aw, ?_⟩;have mp : (0 : Int) < ((ls.length : Nat) : Int) + 1 := by omega
    refine ⟨_, rfl, cp, _, _, _, rfl, rfl, SqL.of hc1, Jd (j := 1) rfl, _, rfl, _, _, rfl, rfl, _, _, rfl, rfl, mp, ?_⟩;refine ⟨fun σ' H' => ∃ one two, σ' = [some (.ref p), some (.ref cp), some (.int ls.sum), some (.int (ls.length : Nat)), some (.str w), some (.int one), some (.int two)] /\ (0 <= one /\ one <= ((ls.length : Nat) : Int)) /\ (0 <= two /\ two <= ((ls.length : Nat) : Int)) /\ H1 = H', ?_, ?_⟩
    · have o0 : 0 <= c1 % (((ls.length : Nat) : Int) + 1) := Int.emod_nonneg _ (by omega)
      have o1 : c1 % (((ls.length : Nat) : Int) + 1) < ((ls.length : Nat) : Int) + 1 := Int.emod_lt_of_pos _ mp;have t0 : 0 <= c2 % (((ls.length : Nat) : Int) + 1) := Int.emod_nonneg _ (by omega);have t1 : c2 % (((ls.length : Nat) : Int) + 1) < ((ls.length : Nat) : Int) + 1 := Int.emod_lt_of_pos _ mp;exact ⟨_, rfl, cp, _, _, _, rfl, rfl, SqL.of hc1, Jd (j := 2) rfl, _, rfl, _, _, rfl, rfl, _, _, rfl, rfl, mp, _, _, rfl, ⟨o0, by omega⟩, ⟨t0, by omega⟩, rfl⟩
    rintro σ _ ⟨one, two, rfl, ⟨o0, o1⟩, ⟨t0, t1⟩, rfl⟩;have z4 : 4 <= sizeLine := by omega
    have lens : (Str.ofString "cut ").length <= 10 /\ (Str.ofString "turn ").length <= 10 /\ wLay.length <= 10 /\ wLong.length <= 10 /\ sp1.length = 1 := by decide +kernel
    obtain ⟨q1, q2, q3, q4, q5⟩ := lens;have d01 := s1 _ _ d0;have d11 := s1 _ _ d1;obtain ⟨n1, n2, n3, n4, n5, n6, n7, n8, n9, n10⟩ := w_ne;have m30 : 0 <= c0 / 8 % 3 := Int.emod_nonneg _ (by decide);have m31 : c0 / 8 % 3 < 3 := Int.emod_lt_of_pos _ (by decide);refine ⟨_, rfl, rfl, _, rfl, ?_⟩;by_cases cw : w = wCut
    · refine iteDT (by rw [cw]) ?_
      have e0 : 0 <= c1 % (ls.sum + 2) := Int.emod_nonneg _ (by omega);have e1 : c1 % (ls.sum + 2) < ls.sum + 2 := Int.emod_lt_of_pos _ (by omega);have f0 : 0 <= c1 % (10 ^ (40 : Int).toNat) := Int.emod_nonneg _ (by decide);have f1 : c1 % (10 ^ (40 : Int).toNat) < 10 ^ (40 : Int).toNat := Int.emod_lt_of_pos _ (by decide);have f2 : (10 : Int) ^ (40 : Int).toNat = 10 ^ 40 := rfl;obtain ⟨n, rfl⟩ : ∃ n : Nat, one = (n : Int) := ⟨one.toNat, by omega⟩;have g0 : 0 <= (ls.take n).sum := J1s fun a ha => by have := G.pos a (mem_of_mem_take ha); omega
      have g1 : (ls.take n).sum <= ls.sum := by
        have e := congrArg List.sum (List.take_append_drop n ls);rw [sum_append] at e;have : 0 <= (ls.drop n).sum := J1s fun a ha => by have := G.pos a (List.mem_of_mem_drop ha); omega
        omega
      refine ⟨_, rfl, cp, _, _, _, rfl, rfl, SqL.of hc1, Jd (j := 1) rfl, _, rfl, _, _, rfl, rfl, _, _, rfl, rfl, (by show 0 < ls.sum + 2; omega), _, rfl, p, _, _, _, rfl, rfl, SqT.of d01, Jd (j := 0) rfl, _, rfl, _, rfl, dl, _, rfl, SqL.of d11, fun a1 h1 => ?_⟩;rw [J1r _ _ (by omega)];have u1 := J3 (o := .lst ((iV ls).take n)) h1;have e2 : upd H1 a1 (.lst ((iV ls).take n)) a1 = some (.lst (iV (ls.take n))) := by rw [J1]; exact congrArg (fun z => some (HO.lst z)) map_take.symm
      generalize upd H1 a1 (.lst ((iV ls).take n)) = H2 at u1 e2 ⊢;have hc2 := u1 _ _ hc1;refine ⟨a1, ls.take n, rfl, .inl (SqL.of e2), _, rfl, cp, _, _, _, rfl, rfl, SqL.of hc2, Jd (j := 1) rfl, _, _, rfl, rfl, ⟨by decide, by decide, by decide⟩, _, _, rfl, rfl, (by show (0 : Int) < 10 ^ (40 : Int).toNat; decide), by show 3 <= sizeLine; omega, fun l2 hl2 => ?_⟩;have u2 := J3 (o := .lst [V.int (c1 % (ls.sum + 2)), V.int (ls.take n).sum, V.int (c1 % (10 ^ (40 : Int).toNat))]) hl2;have hl3 : upd H2 l2 (.lst [V.int (c1 % (ls.sum + 2)), V.int (ls.take n).sum, V.int (c1 % (10 ^ (40 : Int).toNat))]) l2 = some (.lst [V.int (c1 % (ls.sum + 2)), V.int (ls.take n).sum, V.int (c1 % (10 ^ (40 : Int).toNat))]) := J1;generalize upd H2 l2 (.lst [V.int (c1 % (ls.sum + 2)), V.int (ls.take n).sum, V.int (c1 % (10 ^ (40 : Int).toNat))]) = H3 at u2 hl3 ⊢;have hc3 := u2 _ _ hc2;obtain ⟨v, av, v0, v1⟩ := pick3 (fun v => 0 <= v /\ v < 10 ^ 40) m30 m31 (a := c1 % (ls.sum + 2)) (b := (ls.take n).sum) (c := c1 % (10 ^ (40 : Int).toNat)) ⟨e0, by omega⟩ ⟨g0, by omega⟩ ⟨f0, by omega⟩;refine ⟨_, rfl, cp, _, _, _, rfl, rfl, SqL.of hc3, Jd (j := 0) rfl, _, _, rfl, rfl, ⟨by decide, by decide⟩, _, _, rfl, rfl, (by show (0 : Int) < 3; decide), l2, _, _, _, rfl, rfl, SqL.of hl3, av, ?_⟩;have nv := Jx (i := v) (by omega);refine ⟨_, rfl, _, rfl, _, rfl, _, rfl, _, rfl, J1b (by omega), _, _, rfl, rfl, (by show (Str.ofString "cut ").length + (numS v).length <= sizeLine; omega), z4, fun q hq => ?_⟩;have R := rowK_cut (two := two) v0 v1 t0;rw [<- cw] at R;exact k q w v two _ _ (s1.trans (u1.trans (u2.trans (J3 hq)))) J1 R
    refine iteD (fun e => cw (V.str.inj e)) ?_;refine ⟨_, rfl, rfl, _, rfl, ?_⟩;have no := Jx (i := one) (by omega);by_cases ct : w = wTurn
    · refine iteDT (by rw [ct]) ⟨_, rfl, _, rfl, _, rfl, _, rfl, _, rfl, J1b (by omega), _, _, rfl, rfl, (by show (Str.ofString "turn ").length + (numS one).length <= sizeLine; omega), z4, fun q hq => ?_⟩
      have R := rowK_turn (two := two) o0 (by omega) t0;rw [<- ct] at R;exact k q w one two _ _ (s1.trans (J3 hq)) J1 R
    refine iteD (fun e => ct (V.str.inj e)) ?_;refine ⟨_, rfl, rfl, _, rfl, ?_⟩;by_cases cb : w = wBack
    · refine iteDT (by rw [cb]) ⟨_, rfl, _, rfl, _, rfl, z4, fun q hq => ?_⟩
      have R : RowK w one two wBack := by rw [cb]; exact rowK_back o0 t0
      exact k q w one two wBack _ (s1.trans (J3 hq)) J1 R
    refine iteD (fun e => cb (V.str.inj e)) ?_;refine ⟨fun σ' H' => ∃ two', σ' = [some (.ref p), some (.ref cp), some (.int ls.sum), some (.int (ls.length : Nat)), some (.str w), some (.int one), some (.int two')] /\ (0 <= two' /\ two' < 10 ^ 40) /\ Same H H', ?_, ?_⟩
    · refine ⟨_, rfl, rfl, _, rfl, ?_⟩
      by_cases cl : w = wLong
      · refine iteDT (by rw [cl]) ?_
        refine ⟨_, rfl, cp, _, _, _, rfl, rfl, SqL.of hc1, Jd (j := 2) rfl, _, _, rfl, rfl, ⟨by decide, by decide, by decide⟩, _, _, rfl, rfl, _, _, rfl, rfl, ⟨by decide, by decide, by decide⟩, by show 3 <= sizeLine; omega, fun l2 hl2 => ?_⟩;have u2 := J3 (o := .lst [V.int 9, V.int (10 ^ (30 : Int).toNat + 2), V.int (10 ^ (28 : Int).toNat)]) hl2;have hl3 : upd H1 l2 (.lst [V.int 9, V.int (10 ^ (30 : Int).toNat + 2), V.int (10 ^ (28 : Int).toNat)]) l2 = some (.lst [V.int 9, V.int (10 ^ (30 : Int).toNat + 2), V.int (10 ^ (28 : Int).toNat)]) := J1;obtain ⟨v, av, v0, v1⟩ := pick3 (fun v => 0 < v /\ v < 10 ^ 40) m30 m31 (a := 9) (b := 10 ^ (30 : Int).toNat + 2) (c := 10 ^ (28 : Int).toNat) ⟨by decide, by decide⟩ ⟨by decide, by decide⟩ ⟨by decide, by decide⟩;have x0 : 0 <= c2 % v := Int.emod_nonneg _ (by omega);have x1 : c2 % v < v := Int.emod_lt_of_pos _ v0;exact ⟨_, rfl, cp, _, _, _, rfl, rfl, SqL.of (u2 _ _ hc1), Jd (j := 0) rfl, _, _, rfl, rfl, ⟨by decide, by decide⟩, _, _, rfl, rfl, (by show (0 : Int) < 3; decide), l2, _, _, _, rfl, rfl, SqL.of hl3, av, _, _, rfl, rfl, v0, c2 % v, rfl, ⟨x0, by omega⟩, s1.trans u2⟩
      · exact iteD (fun e => cl (V.str.inj e)) ⟨two, rfl, ⟨t0, by omega⟩, s1⟩
    rintro σ H2 ⟨two', rfl, ⟨x0, x1⟩, s2⟩;have nt := Jx (i := two') (by omega);have wl : w.length <= 10 := by
      rcases hw with e | e | e | e | e
      · exact absurd e cw
      · exact absurd e ct
      · rw [e]; exact q3
      · rw [e]; exact q4
      · exact absurd e cb
    refine ⟨_, rfl, _, rfl, _, rfl, _, rfl, _, _, rfl, rfl, (by show w.length + sp1.length <= sizeLine; omega), _, rfl, _, rfl, J1b (by omega), _, _, rfl, rfl, (by show (w ++ sp1).length + (numS one).length <= sizeLine; rw [strLen_append]; omega), _, _, rfl, rfl, (by show (w ++ sp1 ++ numS one).length + sp1.length <= sizeLine; rw [strLen_append, strLen_append]; omega), _, rfl, _, rfl, J1b (by omega), _, _, rfl, rfl, (by show (w ++ sp1 ++ numS one ++ sp1).length + (numS two').length <= sizeLine; rw [strLen_append, strLen_append, strLen_append]; omega), z4, fun q hq => ?_⟩;have R : RowK w one two' (w ++ sp1 ++ numS one ++ sp1 ++ numS two') := by
      rcases hw with e | e | e | e | e
      · exact absurd e cw
      · exact absurd e ct
      · rw [e]; exact rowK_lay o0 (by omega) x0 x1
      · rw [e]; exact rowK_long o0 (by omega) x0 x1
      · exact absurd e cb
    exact k q w one two' _ _ (s2.trans (J3 hq)) J1 R
structure Tx69 (K:PySem.W.Frag) (mg:Str->Option Value) (CL CR:Addr):Prop where
 isi:mg "isinstance"=none
 ml:mg "LineError"=some (.ref CL)
 mr:mg "BadRow"=some (.ref CR)
 xm:exmOne K (.ref CR) (.ref CL)=some true
 w:XCls K CR
 kk:kitOne K (.ref CR) (.ref CR)=some true
 xf:XFld K CR "at"
def spRefD (CD C:Addr):Sp:=fun vs H Q _=>∃ (x lp:Addr) (ss:List T3) (z w:Str) (ns:List Int),vs=[.ref x,.str z]/\DeskAt CD C H x lp ss/\RowW z w ns/\ss.length<=900/\¬ (z=Str.ofString "back"/\1 < ss.length)/\lbR w ns (lastS ss).1 (lastS ss).2.1 (lastS ss).2.2=none/\∀ H',Same H H'->Q (.int (ss.length:Int)) H'
theorem scRefD:FnScope ["desk","row","found","e"] ["desk","row"] (J9 J3w):=fS
theorem ok_refD {f fW CD C CR CL:Addr} {fd fdW:FuncData}  (F:Fun K "_law_refused" "_law_refused" J3w f fd) (TX:Tx69 K mg CL CR) (HDo:HasM P w K mg base (Exc2 P w) 7 "do" ["self","row"] (spDDo CD C CR) CD)
  (GW:FnOk P w K mg base CX0 1 fW fdW ["found"] spWhole) (bW:Binds K fdW ["found"] []) (mW:mg "_law_whole"=some (.ref fW)) (kW:keepIn K (.ref fW)=true) :
  FnOk P w K mg base CX0 8 f fd ["desk","row"] (spRefD CD C):=by
 refine F.ok scRefD (fun vs H Q E h=>?_) (fun cdv A outer s H vs Q E hr h=>?_)
 ·obtain ⟨x,lp,ss,z,w,ns,rfl,_⟩:=h;rfl
 ·obtain ⟨x,lp,ss,z,w,ns,rfl,DK,R,few,nb,hn,k⟩:=h;have hr1:Room 1 _:=rm hr;have hr7:Room 7 _:=rm hr;refine ⟨_,(J2 (Jm (i:=2) scRefD.nd rfl (Or.inl rfl) J1e)
   (J2 (ps_trym2 (sp:=fun _:Unit=>spDDo CD C CR) (cls:=fun _:Unit=>CD) (i:=3) (pv 0) (fun _=>HDo) hr7 (J0 (pv 1) J4) rfl rfl rfl TX.ml scRefD.nd rfl rfl (fun ea=>J6 (Jm (i:=2) scRefD.nd rfl (Or.inl rfl) (pv 3))))
   (J2 (ps_if (PW.pt (pw_or (pt_not (J3d (Jb (call_isany2 rfl) (by rfl) TX.isi boot_isinstance (J0 (pv 2) (J0 (J3m (v:=.ref CR) rfl TX.mr rfl) J4))))) (J3c (pt_not (J3d (Jk GW hr1 rfl mW kW bW .nil pass0 (J0 (pe_fldX (pv 2) rfl) J4))))))) (J6 (Ji (pe_un un_neg J7))) Jh)
   (J6 (Ji (pe_fldX (pv 2) rfl)))))),?_⟩
  obtain ⟨dx,xs,hx,hl,LN⟩:=DK.ex;refine ⟨_,rfl,x,(),dx,_,rfl,hx,rfl,_,rfl,x,lp,ss,z,w,ns,rfl,DK,R,few,fun e h=>absurd ⟨e,h⟩ nb,fun _=>⟨fun t e=>(by rw [hn] at e;cases e),fun _ H1 dx' s1 hd=>⟨TX.xm,fun ea hea=>?_⟩⟩⟩;have u:=J3 (o:=excX ea (.ref CR) (some dx')) hea;have hd1:=u _ _ hd;have he1:upd H1 ea (excX ea (.ref CR) (some dx')) ea=some (excX ea (.ref CR) (some dx')):=J1;have s2:=s1.trans u;generalize upd H1 ea (excX ea (.ref CR) (some dx'))=H2 at u hd1 he1 s2 ⊢;refine ⟨_,rfl,_,rfl,ea,CR,some dx',.ref CR,.ref CR,true,rfl,rfl,fun v h=>h,he1,TX.w,TX.kk,true,rfl,iteF ?_⟩;refine ⟨_,rfl,ea,CR,dx',_,_,rfl,he1,hd1,TX.xf,rfl,_,rfl,true,rfl,iteF ?_⟩;exact ⟨_,rfl,ea,CR,dx',_,_,rfl,he1,hd1,TX.xf,rfl,k H2 s2⟩
def spStands (CD C:Addr):Sp:=fun vs H Q _=>∃ (x lp p:Addr) (ss:List T3),vs=[.ref x,.ref p,.int ((ss.length:Int) - 1)]/\DeskAt CD C H x lp ss/\DrGood H p (lastS ss).1 (lastS ss).2.1 (lastS ss).2.2/\∀ H',Same H H'->Q (.bl true) H'
theorem scStands:FnScope ["desk","drawn","many","text","count"] ["desk","drawn","many"] (J9 sStands):=fS
theorem ok_stands {f fTx fW CD C:Addr} {fd fdTx fdW:FuncData}  (F:Fun K "_law_stands" "_law_stands" sStands f fd) (hisi:mg "isinstance"=none) (hstr:mg "str"=none) (HTx:HasM P w K mg base CX0 3 "text" ["self"] (J3j CD C) CD) (HLe:HasM P w K mg base CX0 1 "left" ["self"] (J2h CD C) CD)
  (GTx:FnOk P w K mg base CX0 1 fTx fdTx ["drawn"] spLText) (bTx:Binds K fdTx ["drawn"] []) (mTx:mg "_law_text"=some (.ref fTx)) (kTx:keepIn K (.ref fTx)=true)
  (GW:FnOk P w K mg base CX0 1 fW fdW ["found"] spWhole) (bW:Binds K fdW ["found"] []) (mW:mg "_law_whole"=some (.ref fW)) (kW:keepIn K (.ref fW)=true) :
  FnOk P w K mg base CX0 4 f fd ["desk","drawn","many"] (spStands CD C):=by
 refine F.ok scStands (fun vs H Q E h=>?_) (fun cdv A outer s H vs Q E hr h=>?_)
 ·obtain ⟨x,lp,p,ss,rfl,_⟩:=h;rfl
 ·obtain ⟨x,lp,p,ss,rfl,DK,DG,k⟩:=h;have hr1:Room 1 _:=rm hr;have hr3:Room 3 _:=rm hr;refine ⟨_,(J2 (Jm (i:=3) scStands.nd rfl (Or.inl rfl) (J26 (sp:=fun _:Unit=>J3j CD C) (cls:=fun _:Unit=>CD) (pv 0) (fun _=>HTx) hr3 pass0))
   (J2 (Jm (i:=4) scStands.nd rfl (Or.inl rfl) (J26 (sp:=fun _:Unit=>J2h CD C) (cls:=fun _:Unit=>CD) (pv 0) (fun _=>HLe) hr1 pass0))
   (J6 (Ji (J5e (Jb (J2g rfl) (by rfl) hisi boot_isinstance (J0 (pv 3) (J0 (pe_bltn (v:=.ty "str") rfl hstr boot_str rfl) J4))) (J5e (J2k op_eq (pv 3) (Jk GTx hr1 rfl mTx kTx bTx .nil pass0 (J0 (pv 1) J4)) (Jg _)) (J5e (Jk GW hr1 rfl mW kW bW .nil pass0 (J0 (pv 4) J4)) (pe_one (J2k op_eq (pv 4) (pv 2) (Jg _)))))))))),?_⟩
  obtain ⟨dx,xs,hx,hl,LN⟩:=DK.ex;refine ⟨_,rfl,x,(),dx,_,rfl,hx,rfl,x,lp,ss,rfl,DK,fun H1 s1=>?_⟩;refine ⟨_,rfl,x,(),dx,_,rfl,s1 _ _ hx,rfl,x,lp,ss,rfl,DK.same s1,?_⟩;refine ⟨_,rfl,_,.ty "str",.type "str",.type "str",true,rfl,rfl,fun v h=>h,.str _,rfl,true,rfl,iteT ?_⟩;refine ⟨_,rfl,_,rfl,p,_,_,_,rfl,DG.same s1,fun H2 s2=>⟨rfl,_,rfl,iteDT rfl ?_⟩⟩;refine ⟨_,rfl,_,rfl,true,rfl,iteT ?_⟩;refine ⟨_,rfl,_,rfl,rfl,?_⟩;have:=k H2 (s1.trans s2);rw [show true=decide (V.int ((ss.length:Int) - 1)=V.int ((ss.length:Int) - 1)) from (decide_eq_true rfl).symm] at this;exact this
theorem rowO_B (os:List Nat) (ts:List Bool):rowO os ts=rowB (os.map fun o:Nat=>((o:Int),ts.getD o false)):=by
 unfold rowO rowB;rw [map_map];rfl
theorem law_txf {ls:List Int} {os:List Nat} {ts:List Bool} (g:Good ls os) (hts:ts.length=ls.length):Txf (textS ls os ts) ls os ts:=by
 have e40:(10:Int) ^ 30 < 10 ^ 31:=by decide
 have hL:∀ l∈ls,0<=l/\l < 10 ^ 31:=fun l hl=>by
  have h1:=g.pos l hl;have h2:l<=ls.sum:=J30 (fun a ha=>by have:=g.pos a ha;omega) hl;have h3:=g.sum;omega
 have hO:∀ p∈os.map (fun o:Nat=>((o:Int),ts.getD o false)),0<=p.1/\p.1 < 10 ^ 31:=fun p hp=>by
  obtain ⟨o,ho,rfl⟩:=mem_map.mp hp;have:=g.olt o ho;have:=g.hi;have e31:(24:Int) < 10 ^ 31:=by decide
  show 0<=(o:Int)/\(o:Int) < 10 ^ 31;omega
 have hhi:=g.hi;have hol:=g.olen;have lo:(os.map fun o:Nat=>((o:Int),ts.getD o false)).length=os.length:=length_map ..;have ez:textS ls os ts=rowN ls ++ nl1 ++ (rowB (os.map fun o:Nat=>((o:Int),ts.getD o false)) ++ nl1):=by
  unfold textS;rw [J4e,rowO_B,Str.append_assoc];rfl
 rw [ez];have n0:=rowN_len hL (by omega);have n1:=rowB_len hO (by omega);have c1:nl1.length=1:=by decide +kernel
 refine ⟨rowN ls,rowB (os.map fun o:Nat=>((o:Int),ts.getD o false)),_,?_,text_split (rowN_free fun l hl=>(hL l hl).1) (rowB_free fun p hp=>(hO p hp).1),J4p fun l hl=>(hL l hl).1,J4q fun p hp=>(hO p hp).1,by omega,?_,⟨rowN_ok hL,rowB_ok hO⟩,hL,?_,?_,?_⟩
 ·rw [strLen_append,strLen_append,strLen_append];omega
 ·rw [length_map,lo];omega
 ·rw [map_map,map_map];refine List.map_congr_left fun o ho=>?_;exact J2o (by show (0:Int)<=(o:Int);omega) _
 ·intro o ho;have:=g.olt o ho;have e31:(24:Int) < 10 ^ 31:=by decide
  omega
 ·intro i hi;have e31:(24:Int) < 10 ^ 40:=by decide
  have e:Str.empty ++ numS (i:Int) ++ Str.ofString "-"=wordB (i:Int) true:=by rw [J4e];rfl
  rw [e,Bool.eq_iff_iff,decide_eq_true_iff,map_map];constructor
  ·intro h;obtain ⟨o,ho,q⟩:=mem_map.mp h;have hlt:=g.olt o ho;obtain ⟨q1,q2⟩:=wordB_inj (o:=(o:Int)) (o':=(i:Int)) (by omega) (by omega) (by omega) (by omega) q;have:o=i:=by omega
   rw [<- this];exact q2
  ·intro h;refine mem_map.mpr ⟨i,g.perm.mem_iff.mpr (mem_range.mpr hi),?_⟩;show wordB (i:Int) (ts.getD i false)=_;rw [h]
theorem passF2 {X:Cx}:J3a (Exc2 P w) X E0:=by
 rintro pins σ H s e s' I ⟨_,⟨_,_,_,_,_,_,_,_,_,_,_,_,_,_,_,q⟩,_⟩;exact False.elim q
theorem DrGood.keepX {H H':Hp} {p b:Addr} {ys:List Addr} {ls:List Int} {os:List Nat} {ts:List Bool} (h:DrGood H p ls os ts) (hb:H b=some (.lst (ys.map V.ref))) (k:KeepX b H H'):DrGood H' p ls os ts:=by
 obtain ⟨l,o,t,h0,h1,h2,h3⟩:=h.at_.ex;have lo:=h.good.lo;have ol:=h.good.olen;have tl:=h.len;have nr:∀ {c:Addr} {xs:List V},H c=some (.lst xs)->0 < xs.length->(∀ v∈xs,∀ q:Addr,v≠V.ref q)->c≠b:=fun {c xs} e l0 hv z=>by
  rw [z,hb] at e;have e:=HO.lst.inj (Option.some.inj e);rw [<- e] at hv l0;rcases ys with _ | ⟨y,r⟩
  ·exact absurd l0 (Nat.lt_irrefl _)
  ·exact hv (V.ref y) (mem_cons_self ..) y rfl
 refine ⟨⟨l,o,t,k _ _ h0 (fun z=>by rw [z,hb] at h0;cases h0),k _ _ h1 (nr h1 (by rw [length_map];omega) fun v hv q e=>?_),k _ _ h2 (nr h2 (by rw [J3g];omega) fun v hv q e=>?_),k _ _ h3 (nr h3 (by rw [length_map];omega) fun v hv q e=>?_)⟩,h.good,h.len⟩
 ·obtain ⟨i,_,rfl⟩:=mem_map.mp hv;cases e
 ·rw [nV_eq] at hv;obtain ⟨i,_,rfl⟩:=mem_map.mp hv;cases e
 ·obtain ⟨i,_,rfl⟩:=mem_map.mp hv;cases e
theorem DeskAt.keepX {CD C:Addr} {H H':Hp} {x lp b:Addr} {ss:List T3} {ys:List V} (h:DeskAt CD C H x lp ss) (hb:H b=some (.lst ys)) (n:lp≠b) (k:KeepX b H H'):DeskAt CD C H' x lp ss:=by
 obtain ⟨dx,xs,h1,h2,h3⟩:=h.ex;exact ⟨⟨dx,xs,k _ _ h1 (fun z=>by rw [z,hb] at h1;cases h1),k _ _ h2 n,h3.keepL hb k⟩,h.ne,h.ok,h.few⟩
def DrsAt (H:Hp) (qs:List Addr) (ss:List T3):Prop:=qs.length=ss.length/\∀ (i:Nat) (q:Addr) (s:T3),qs[i]?=some q->ss[i]?=some s->DrGood H q s.1 s.2.1 s.2.2
theorem DrsAt.same {H H':Hp} {qs:List Addr} {ss:List T3} (h:DrsAt H qs ss) (s:Same H H'):DrsAt H' qs ss:=⟨h.1,fun i q t e1 e2=>(h.2 i q t e1 e2).same s⟩
theorem DrsAt.keepX {H H':Hp} {qs:List Addr} {ss:List T3} {b:Addr} {ys:List Addr} (h:DrsAt H qs ss) (hb:H b=some (.lst (ys.map V.ref))) (k:KeepX b H H'):DrsAt H' qs ss:=⟨h.1,fun i q t e1 e2=>(h.2 i q t e1 e2).keepX hb k⟩
theorem DrsAt.last {H:Hp} {qs:List Addr} {dp:Addr} {ss:List T3} (h:DrsAt H (qs ++ [dp]) ss) (ne:ss≠[]):DrGood H dp (lastS ss).1 (lastS ss).2.1 (lastS ss).2.2:=by
 have l0:0 < ss.length:=length_pos_iff.mpr ne;have hl:=h.1;rw [length_append] at hl;have hl':qs.length + 1=ss.length:=hl;refine h.2 (ss.length - 1) dp (lastS ss) ?_ (last_get ne);rw [getElem?_append_right (by omega),show ss.length - 1 - qs.length=0 by omega];rfl
theorem rsize3 {b:Int} {i:Nat} (h:i < (Builtin.Range.rangeSize 6 b 3).toNat):6 + (i:Int) * 3 < b:=by
 unfold Builtin.Range.rangeSize at h;split at h <;> omega
theorem rsize3_le {b:Int} (h:b<=126):(Builtin.Range.rangeSize 6 b 3).toNat<=40:=by
 unfold Builtin.Range.rangeSize;split <;> omega
theorem cut3 (ns:List Int) {k:Nat} (h:k + 3<=ns.length):∃ c0 c1 c2:Int,cutV (iV ns) (some ((k:Nat):Int)) (some (((k:Nat):Int) + 3))=[V.int c0,V.int c1,V.int c2]:=by
 have e:((k:Nat):Int) + 3=((k + 3:Nat):Int):=by omega
 have ll:(iV ns).length=ns.length:=length_map ..;refine ⟨ns[k],ns[k + 1],ns[k + 2],?_⟩;unfold cutV;rw [e,HT.sIx_nat,HT.sIx_nat,Nat.min_eq_left (by omega),Nat.min_eq_left (by omega),show k + 3 - k=3 by omega];rw [List.drop_eq_getElem_cons (by omega),List.drop_eq_getElem_cons (by omega),List.drop_eq_getElem_cons (by omega)];simp
def spLaw (K:PySem.W.Frag):Sp:=fun vs H Q _=>∃ (a:Addr) (ns:List Int),vs=[.ref a]/\SqL K H a (ns.map V.int)/\ns.length<=63/\∀ H',Q (.bl true) H'
structure Mid (K:PySem.W.Frag) (CD C:Addr) (H0 H:Hp) (x1 lp1 x2 lp2 bg kp dp:Addr) (s0:T3) (qs:List Addr) (ss:List T3):Prop where
 d1:DeskAt CD C H x1 lp1 ss
 d2:DeskAt CD C H x2 lp2 [s0]
 b:DrGood H bg s0.1 s0.2.1 s0.2.2
 k:H kp=some (.lst (qs.map V.ref))
 q:DrsAt H (qs ++ [dp]) ss
 n1:lp1≠kp
 n2:lp2≠kp
 n3:lp2≠lp1
 f1:H0 lp1=none
 f2:H0 kp=none
 s:Same H0 H
theorem Mid.same {K:PySem.W.Frag} {CD C:Addr} {H0 H H':Hp} {x1 lp1 x2 lp2 bg kp dp:Addr} {s0:T3} {qs:List Addr} {ss:List T3} (h:Mid K CD C H0 H x1 lp1 x2 lp2 bg kp dp s0 qs ss) (s:Same H H'):Mid K CD C H0 H' x1 lp1 x2 lp2 bg kp dp s0 qs ss :=
 ⟨h.d1.same s,h.d2.same s,h.b.same s,s _ _ h.k,h.q.same s,h.n1,h.n2,h.n3,h.f1,h.f2,h.s.trans s⟩
theorem scLaw:FnScope ["script","first","many","bits","drawn","begun","desk","other","kept","k","word","one","two","row","due"] ["script"] (J9 sLaw):=fS
theorem ok_law {f fC fD fTx fDK fRw fDu fRe fSd CD C CR:Addr} {fd fdC fdD fdTx fdDK fdRw fdDu fdRe fdSd:FuncData}  (F:Fun K "law" "law" sLaw f fd) (T:TxtR mg) (hmin:mg "min"=none) (HDo:HasM P w K mg base (Exc2 P w) 7 "do" ["self","row"] (spDDo CD C CR) CD) (HTx:HasM P w K mg base CX0 3 "text" ["self"] (J3j CD C) CD)
  (GC:FnOk P w K mg base CX0 1 fC fdC ["script","k"] (spCell K)) (bC:Binds K fdC ["script","k"] []) (mC:mg "_law_cell"=some (.ref fC)) (kC:keepIn K (.ref fC)=true)
  (GD:FnOk P w K mg base CX0 2 fD fdD ["cells","marks","many","span"] (spDraw69 K)) (bD:Binds K fdD ["cells","marks","many","span"] []) (mD:mg "_law_drawn"=some (.ref fD)) (kD:keepIn K (.ref fD)=true)
  (GTx:FnOk P w K mg base CX0 1 fTx fdTx ["drawn"] spLText) (bTx:Binds K fdTx ["drawn"] []) (mTx:mg "_law_text"=some (.ref fTx)) (kTx:keepIn K (.ref fTx)=true)
  (MDK:Mk K CD fDK) (GDK:FnOk P w K mg base CX0 6 fDK fdDK ["self","text"] (spDInit CD C)) (bDK:Binds K fdDK ["self","text"] []) (mgDK:mg "Desk"=some (.ref CD))
  (GRw:FnOk P w K mg base CX0 1 fRw fdRw ["drawn","cells"] spLRow) (bRw:Binds K fdRw ["drawn","cells"] []) (mRw:mg "_law_row"=some (.ref fRw)) (kRw:keepIn K (.ref fRw)=true)
  (GDu:FnOk P w K mg base CX0 2 fDu fdDu ["drawn","kept","word","one","two"] spDue69) (bDu:Binds K fdDu ["drawn","kept","word","one","two"] []) (mDu:mg "_law_due"=some (.ref fDu)) (kDu:keepIn K (.ref fDu)=true)
  (GRe:FnOk P w K mg base CX0 8 fRe fdRe ["desk","row"] (spRefD CD C)) (bRe:Binds K fdRe ["desk","row"] []) (mRe:mg "_law_refused"=some (.ref fRe)) (kRe:keepIn K (.ref fRe)=true)
  (GSd:FnOk P w K mg base CX0 4 fSd fdSd ["desk","drawn","many"] (spStands CD C)) (bSd:Binds K fdSd ["desk","drawn","many"] []) (mSd:mg "_law_stands"=some (.ref fSd)) (kSd:keepIn K (.ref fSd)=true) :
  FnOk P w K mg base CX0 9 f fd ["script"] (spLaw K):=by
 refine F.ok scLaw (fun vs H Q E h=>?_) (fun cdv A outer s H vs Q E hr h=>?_)
 ·obtain ⟨a,ns,rfl,_⟩:=h;rfl
 ·obtain ⟨a,ns,rfl,hS,hlen,kf⟩:=h;have hr1:Room 1 _:=rm hr;have hr2:Room 2 _:=rm hr;have hr3:Room 3 _:=rm hr;have hr4:Room 4 _:=rm hr;have hr7:Room 7 _:=rm hr;have hr8:Room 8 _:=rm hr;refine ⟨_,(J2 (Jm (i:=1) scLaw.nd rfl (Or.inl rfl) (Jk GC hr1 rfl mC kC bC .nil pass0 (J0 (pv 0) (J0 J7 J4))))
   (J2 (Jm (i:=2) scLaw.nd rfl (Or.inl rfl) (pe_op Jv J7 (pe_op J1f (pv 1) J7)))
   (J2 (J3e (ps_if (Jc op_eq (pe_op J1f (pe_op J4u (pv 1) J7) J7) J7 (Jg _)) (J6 (Jm (i:=2) scLaw.nd rfl (Or.inl rfl) (pe_op Jv J7 (pe_op J1f (pv 1) J7)))) Jh))
   (J2 (J3e (Jm (i:=3) scLaw.nd rfl (Or.inl rfl) (pe_op J1f (pe_op J4u (pe_op J1f (pe_op op_mul (pe_op Jv J7 (pe_op J1f (pv 1) J7)) J7) J7) J7) J7)))
   (J2 (Jm (i:=4) scLaw.nd rfl (Or.inl rfl) (Jk GD hr2 rfl mD kD bD .nil pass0 (J0 (Jo J11 (pv 0) (Js J7) (Js J7)) (J0 (pv 3) (J0 (pv 2) (J0 (pe_ix Jf (J14 (J0 J7 (J0 J7 (J0 (pe_op J5f J7 J7) J4)))) (pe_op J1f (pe_op J4u (pv 1) J7) J7) (fun _ _=>rfl)) J4))))))
   (J2 (Jm (i:=5) scLaw.nd rfl (Or.inl rfl) (pv 4))
   (J2 (Jm (i:=6) scLaw.nd rfl (Or.inl rfl) (J2j MDK GDK hr7 rfl mgDK bDK .nil pass0 (J0 (Jk GTx hr1 rfl mTx kTx bTx .nil pass0 (J0 (pv 4) J4)) J4)))
   (J2 (Jm (i:=7) scLaw.nd rfl (Or.inl rfl) (J2j MDK GDK hr7 rfl mgDK bDK .nil pass0 (J0 (Jk GTx hr1 rfl mTx kTx bTx .nil pass0 (J0 (pv 4) J4)) J4)))
   (J2 (Jm (i:=8) scLaw.nd rfl (Or.inl rfl) (J14 J4))
   (J2 (J4s PassesOwn.never rfl (pi_steps2 rfl T.range (J0 J7 (J0 (Jb (call_min2 rfl) (by rfl) hmin boot_min (J0 (pe_op J4t (Jb J8 (by rfl) T.len boot_len (J0 (pv 0) J4)) J7) (J0 J7 J4))) (J0 J7 J4)))) (J10 (i:=9) scLaw.nd rfl (Or.inl rfl))
    (J2 (J40 (Jk GRw hr1 rfl mRw kRw bRw .nil pass0 (J0 (pv 4) (J0 (Jo J11 (pv 0) (Js (pv 9)) (Js (pe_op Jv (pv 9) J7))) J4))) (pg_tup rfl (J16 (J10 (i:=10) scLaw.nd rfl (Or.inl rfl)) (J16 (J10 (i:=11) scLaw.nd rfl (Or.inl rfl)) (J16 (J10 (i:=12) scLaw.nd rfl (Or.inl rfl)) (J16 (J10 (i:=13) scLaw.nd rfl (Or.inl rfl)) pgs_nil))))))
    (J2 (J3e (Jm (i:=14) scLaw.nd rfl (Or.inl rfl) (Jk GDu hr2 rfl mDu kDu bDu .nil pass0 (J0 (pv 4) (J0 (pv 8) (J0 (pv 10) (J0 (pv 11) (J0 (pv 12) J4))))))))
    (J2 (J3e (ps_if (Jc op_isN (pv 14) J1e (Jg _)) (J6 (ps_if (Jc op_ne (Jk GRe hr8 rfl mRe kRe bRe .nil pass0 (J0 (pv 6) (J0 (pv 13) J4))) (pe_op Jv (Jb J8 (by rfl) T.len boot_len (J0 (pv 8) J4)) J7) (Jg _)) (J6 (Ji pe_bl)) Jh)) (J6 (ps_if (Jc op_notN (pe_methD (sp:=fun _:Unit=>spDDo CD C CR) (cls:=fun _:Unit=>CD) (pv 6) (fun _=>HDo) hr7 passF2 (J0 (pv 13) J4)) J1e (Jg _)) (J6 (Ji pe_bl)) (J6 (ps_if (Jc op_eq (pv 10) Jn (Jg _)) (J6 (Jm (i:=4) scLaw.nd rfl (Or.inl rfl) (pe_bm0 PySem.F.plainAttrs_list PySem.F.slot_list_pop PySem.F.type_list_pop mt_pop (pv 8)))) (J2 (J1o (pe_bm PySem.F.plainAttrs_list PySem.F.slot_list_append PySem.F.type_list_append J2p (pv 8) (J0 (pv 4) J4)))
       (J6 (Jm (i:=4) scLaw.nd rfl (Or.inl rfl) (pv 14))))))))))
    (J6 (ps_if (pt_not (J3d (Jk GSd hr4 rfl mSd kSd bSd .nil pass0 (J0 (pv 6) (J0 (pv 4) (J0 (Jb J8 (by rfl) T.len boot_len (J0 (pv 8) J4)) J4)))))) (J6 (Ji pe_bl)) Jh))))))
   (J6 (Ji (J5e (Jk GSd hr4 rfl mSd kSd bSd .nil pass0 (J0 (pv 7) (J0 (pv 5) (J0 J7 J4)))) (pe_one (Jk GSd hr4 rfl mSd kSd bSd .nil pass0 (J0 (J2j MDK GDK hr7 rfl mgDK bDK .nil pass0 (J0 (J26 (sp:=fun _:Unit=>J3j CD C) (cls:=fun _:Unit=>CD) (pv 6) (fun _=>HTx) hr3 pass0) J4)) (J0 (pv 4) (J0 J7 J4)))))))))))))))))),?_⟩
  have sm:(300000:Nat) < sizeLine:=by rw [sizeLine_eq];decide
  have z3:3<=sizeLine:=by omega
  refine ⟨_,rfl,a,ns,0,rfl,hS,?_⟩;have f50:0<=cellN ns 0 % 5:=Int.emod_nonneg _ (by decide);have f51:cellN ns 0 % 5 < 5:=Int.emod_lt_of_pos _ (by decide);refine ⟨_,rfl,_,_,rfl,rfl,(by show (0:Int) < 5;decide),_,_,rfl,rfl,?_⟩;refine ⟨fun σ' H'=>∃ many:Nat,σ'=[some (.ref a),some (.int (cellN ns 0)),some (.int (many:Nat)),none,none,none,none,none,none,none,none,none,none,none,none]/\(1<=many/\many<=24)/\H=H',?_,?_⟩
  ·refine ⟨_,rfl,_,_,rfl,rfl,⟨by decide,by decide⟩,_,_,rfl,rfl,(by show (0:Int) < 8;decide),rfl,_,rfl,?_⟩;by_cases c:V.int (cellN ns 0 / 960 % 8)=V.int 1
   ·refine iteDT c ⟨_,rfl,_,_,rfl,rfl,(by show (0:Int) < 5;decide),_,_,rfl,rfl,(20 + cellN ns 0 % 5).toNat,?_,⟨by omega,by omega⟩,rfl⟩;have e:(((20 + cellN ns 0 % 5).toNat:Nat):Int)=20 + cellN ns 0 % 5:=by omega
    rw [e];rfl
   ·refine iteD c ⟨(1 + cellN ns 0 % 5).toNat,?_,⟨by omega,by omega⟩,rfl⟩;have e:(((1 + cellN ns 0 % 5).toNat:Nat):Int)=1 + cellN ns 0 % 5:=by omega
    rw [e];rfl
  rintro σ _ ⟨many,rfl,⟨m1,m2⟩,rfl⟩;refine ⟨fun σ' H'=>∃ b,σ'=[some (.ref a),some (.int (cellN ns 0)),some (.int (many:Nat)),some (.int b),none,none,none,none,none,none,none,none,none,none,none]/\H=H',?_,?_⟩
  ·exact ⟨_,rfl,_,_,rfl,rfl,(by show (0:Int) < 1000003;decide),_,_,rfl,rfl,_,_,rfl,rfl,.inr ⟨by decide,by decide⟩,_,_,rfl,rfl,(by show (0:Int) < 2147483647;decide),_,_,rfl,rfl,⟨by decide,by decide⟩,_,_,rfl,rfl,(by show (0:Int) < 16777216;decide),_,rfl,rfl⟩
  rintro σ _ ⟨b,rfl,rfl⟩;obtain ⟨top,at1,t1,t2⟩:=pick3 (fun v=>0 < v/\v<=10 ^ 28) (m:=cellN ns 0 / 5 % 3) (Int.emod_nonneg _ (by decide)) (Int.emod_lt_of_pos _ (by decide)) (a:=4) (b:=60) (c:=10 ^ (28:Int).toNat) ⟨by decide,by decide⟩ ⟨by decide,by decide⟩ ⟨by decide,by decide⟩;refine ⟨_,rfl,_,rfl,_,rfl,a,_,rfl,hS,fun ca hca=>?_⟩;obtain ⟨cs,ecs,csl⟩:∃ cs:List Int,cutV (iV ns) (some 1) (some 6)=iV cs/\cs.length<=ns.length:=by
   refine ⟨(ns.drop (HT.sIx (iV ns).length 0 (some 1))).take (HT.sIx (iV ns).length (iV ns).length (some 6) - HT.sIx (iV ns).length 0 (some 1)),?_,?_⟩
   ·show ((ns.map V.int).drop _).take _=List.map V.int _;rw [map_take,map_drop]
   ·rw [length_take,length_drop];omega
  have u1:=J3 (o:=.lst (cutV (iV ns) (some 1) (some 6))) hca;have hca1:upd H ca (.lst (cutV (iV ns) (some 1) (some 6))) ca=some (.lst (iV cs)):=by rw [J1,ecs]
  generalize upd H ca (.lst (cutV (iV ns) (some 1) (some 6)))=H1 at u1 hca1 ⊢;refine ⟨_,rfl,_,rfl,_,_,rfl,rfl,⟨by decide,by decide,by decide⟩,z3,fun l hl=>?_⟩;have u2:=J3 (o:=.lst [V.int 4,V.int 60,V.int (10 ^ (28:Int).toNat)]) hl;have hl2:upd H1 l (.lst [V.int 4,V.int 60,V.int (10 ^ (28:Int).toNat)]) l=some (.lst [V.int 4,V.int 60,V.int (10 ^ (28:Int).toNat)]):=J1;have hca2:=u2 _ _ hca1;generalize upd H1 l (.lst [V.int 4,V.int 60,V.int (10 ^ (28:Int).toNat)])=H2 at u2 hl2 hca2 ⊢;refine ⟨_,rfl,_,_,rfl,rfl,⟨by decide,by decide⟩,_,_,rfl,rfl,(by show (0:Int) < 3;decide),l,_,_,_,rfl,rfl,SqL.of hl2,at1,ca,cs,b,many,top,rfl,SqL.of hca2,by omega,m1,m2,t1,t2,fun bg ls os ts H3 s3 DG lm=>?_⟩;have s03:=u1.trans (u2.trans s3);clear u1 u2 s3 hca hca1 hca2 hl hl2;refine ⟨_,rfl,?_⟩;have ok0:OkS (ls,os,ts):=⟨DG.good,DG.len⟩;have TF0:Txf (textS ls os ts) ls os ts:=law_txf DG.good DG.len;refine ⟨_,rfl,bg,ls,os,ts,rfl,DG,fun H4 s4=>?_⟩;intro x1 dx1 hx1 hdx1 hne1;have sc1:=(J3 (o:=.own x1) hdx1).trans (J3 (l:=x1) (o:=.ins CD dx1 []) (by rw [Je (Ne.symm hne1)];exact hx1));refine ⟨x1,dx1,textS ls os ts,(ls,os,ts),rfl,J1,TF0,ok0,fun lp1 H5 kp1 nl1 K1=>⟨rfl,?_⟩⟩;have s5:Same H4 H5:=fun b u e=>kp1 b u (sc1 _ _ e) (Ja e hx1);have nl1:H4 lp1=none:=sc1.free nl1;clear sc1 kp1;refine ⟨_,rfl,bg,ls,os,ts,rfl,(DG.same s4).same s5,fun H6 s6=>?_⟩;intro x2 dx2 hx2 hdx2 hne2;have sc2:=(J3 (o:=.own x2) hdx2).trans (J3 (l:=x2) (o:=.ins CD dx2 []) (by rw [Je (Ne.symm hne2)];exact hx2));refine ⟨x2,dx2,textS ls os ts,(ls,os,ts),rfl,J1,TF0,ok0,fun lp2 H7 kp2 nl2 K2=>⟨rfl,?_⟩⟩;have s7:Same H6 H7:=fun b u e=>kp2 b u (sc2 _ _ e) (Ja e hx2);have nl2:H6 lp2=none:=sc2.free nl2;clear sc2 kp2;refine ⟨Nat.zero_le _,fun kp hkp=>?_⟩;have s8:=J3 (o:=.lst []) hkp;have hk8:upd H7 kp (.lst []) kp=some (.lst (([]:List Addr).map V.ref)):=J1;generalize upd H7 kp (.lst [])=H8 at s8 hk8 ⊢;have s38:=s4.trans (s5.trans (s6.trans (s7.trans s8)));have M0:Mid K CD C H H8 x1 lp1 x2 lp2 bg kp bg (ls,os,ts) [] [(ls,os,ts)]:=by
   have A1:=(K1.same s6).same s7;obtain ⟨_,_,_,q1,_⟩:=A1.ex;obtain ⟨_,_,_,q2,_⟩:=K2.ex;obtain ⟨_,_,_,q3,_⟩:=K1.ex;refine ⟨A1.same s8,K2.same s8,DG.same s38,hk8,⟨rfl,fun i q s e1 e2=>?_⟩,Ja q1 hkp,Ja q2 hkp,(Ja (s6 _ _ q3) nl2).symm,(s03.trans s4).free nl1,(s03.trans (s4.trans (s5.trans (s6.trans s7)))).free hkp,s03.trans s38⟩;rcases i with _ | i
   ·cases e1;cases e2;exact DG.same s38
   ·cases e1
  clear s38 s8 hk8 hkp K1 K2 s4 s5 s6 s7 nl1 nl2;obtain ⟨s0,es0⟩:∃ s0:T3,s0=(ls,os,ts):=⟨_,rfl⟩;rw [<- es0] at M0;have ll:(iV ns).length=ns.length:=length_map ..;refine ⟨_,rfl,a,_,rfl,.inl (M0.s.seq hS),_,_,rfl,rfl,_,_,rfl,6,_,3,rfl,?_,?_⟩
  ·rw [ll];refine ⟨by decide,by decide,?_,?_,by decide,by decide⟩
   ·show -1000<=(if (126:Int) < ((ns.length:Nat):Int) - 2 then (126:Int) else ((ns.length:Nat):Int) - 2);split <;> omega
   ·show (if (126:Int) < ((ns.length:Nat):Int) - 2 then (126:Int) else ((ns.length:Nat):Int) - 2)<=1000;split <;> omega
  rw [ll];obtain ⟨top2,et2⟩:∃ t:Int,t=(if (126:Int) < ((ns.length:Nat):Int) - 2 then (126:Int) else ((ns.length:Nat):Int) - 2):=⟨_,rfl⟩;have tp1:top2<=126:=by rw [et2];split <;> omega
  have tp2:top2<=((ns.length:Nat):Int) - 2:=by rw [et2];split <;> omega
  have r40:=rsize3_le tp1;rw [<- et2];refine for_its (lo:=6) (c:=3) (n:=(Builtin.Range.rangeSize 6 top2 3).toNat) (fun i σ Hw=>∃ dp qs ss v9 v10 v11 v12 v13 v14,σ=[some (.ref a),some (.int (cellN ns 0)),some (.int (many:Nat)),some (.int b),some (.ref dp),some (.ref bg),some (.ref x1),some (.ref x2),some (.ref kp),v9,v10,v11,v12,v13,v14]/\Mid K CD C H Hw x1 lp1 x2 lp2 bg kp dp s0 qs ss/\ss.length<=i + 1)
   ⟨bg,[],[s0],none,none,none,none,none,none,rfl,by rw [es0] at M0 ⊢;exact M0,by show 1<=0 + 1;decide⟩ ?_ ?_
  ·rintro i σ Hw hi ⟨dp,qs,ss,v9,v10,v11,v12,v13,v14,rfl,M,sl⟩;have k1:=rsize3 hi;obtain ⟨kk,ek⟩:∃ kk:Nat,(6 + (i:Int) * 3)=(kk:Int):=⟨6 + i * 3,by omega⟩;obtain ⟨c0,c1,c2,ec3⟩:=cut3 ns (k:=kk) (by omega);refine ⟨_,rfl,_,rfl,_,rfl,_,rfl,_,rfl,_,_,rfl,rfl,_,rfl,a,_,rfl,M.s.seq hS,fun cp hcp=>?_⟩;have ec4:cutV (iV ns) (some (6 + (i:Int) * 3)) (some (6 + (i:Int) * 3 + 3))=[V.int c0,V.int c1,V.int c2]:=by rw [ek];exact ec3
   have u1:=J3 (o:=.lst (cutV (iV ns) (some (6 + (i:Int) * 3)) (some (6 + (i:Int) * 3 + 3)))) hcp;have hcp1:upd Hw cp (.lst (cutV (iV ns) (some (6 + (i:Int) * 3)) (some (6 + (i:Int) * 3 + 3)))) cp=some (.lst [V.int c0,V.int c1,V.int c2]):=by rw [J1,ec4]
   generalize upd Hw cp (.lst (cutV (iV ns) (some (6 + (i:Int) * 3)) (some (6 + (i:Int) * 3 + 3))))=H1 at u1 hcp1 ⊢;have M1:=M.same u1;refine ⟨dp,cp,_,_,_,c0,c1,c2,rfl,M1.q.last M1.d1.ne,hcp1,fun q w one two z H2 s2 hq RK=>?_⟩;refine ⟨q,_,rfl,SqT.of hq,rfl,_,_,rfl,_,_,rfl,_,_,rfl,_,_,rfl,rfl,?_⟩;have M2:=M1.same s2;obtain ⟨nsr,RW,rk1,rk2⟩:=RK.row;clear M M1 u1 hcp1 hcp s2 hq;refine ⟨fun σ' H'=>∃ dv,σ'=[some (.ref a),some (.int (cellN ns 0)),some (.int (many:Nat)),some (.int b),some (.ref dp),some (.ref bg),some (.ref x1),some (.ref x2),some (.ref kp),some (.int (6 + (i:Int) * 3)),some (.str w),some (.int one),some (.int two),some (.str z),some dv]/\Same H2 H'/\((w=wBack/\((qs=[]/\dv=.non)\/∃ q,qs[qs.length - 1]?=some q/\dv=.ref q))\/(w≠wBack/\((dueR w (lastS ss).1 (lastS ss).2.1 (lastS ss).2.2 one two=none/\dv=.non)\/∃ l o t q,dueR w (lastS ss).1 (lastS ss).2.1 (lastS ss).2.2 one two=some (l,o,t)/\dv=.ref q/\DrGood H' q l o t))),?_,?_⟩
   ·exact ⟨_,rfl,_,rfl,_,rfl,_,rfl,_,rfl,dp,kp,_,_,_,qs,w,one,two,rfl,M2.q.last M2.d1.ne,M2.k,RK.o0,RK.t0,fun e=>⟨fun e2=>⟨_,rfl,Same.refl _,.inl ⟨e,.inl ⟨e2,rfl⟩⟩⟩,fun q' eq=>⟨_,rfl,Same.refl _,.inl ⟨e,.inr ⟨q',eq,rfl⟩⟩⟩⟩,fun e=>⟨fun en H3 s3=>⟨_,rfl,s3,.inr ⟨e,.inl ⟨en,rfl⟩⟩⟩,fun l o t en q' H3 s3 DQ=>⟨_,rfl,s3,.inr ⟨e,.inr ⟨l,o,t,q',en,rfl,DQ⟩⟩⟩⟩⟩
   rintro σ H3 ⟨dv,rfl,s3,hd⟩;have M3:=M2.same s3;clear M2 s3;have ql:qs.length + 1=ss.length:=by have:=M3.q.1;rw [length_append] at this;exact this
   obtain ⟨dx1',xs1,hx1',hl1',LN1⟩:=M3.d1.ex;have skip:∀ {H4 H5:Hp},KeepX lp1 H3 H4->KeepX kp H4 H5->Same H H5:=fun {H4 H5} k4 k5 b u e=>k5 _ _ (k4 _ _ (M3.s _ _ e) (Ja e M3.f1)) (Ja e M3.f2);refine ⟨fun σ' H'=>∃ dp' qs' ss',σ'=[some (.ref a),some (.int (cellN ns 0)),some (.int (many:Nat)),some (.int b),some (.ref dp'),some (.ref bg),some (.ref x1),some (.ref x2),some (.ref kp),some (.int (6 + (i:Int) * 3)),some (.str w),some (.int one),some (.int two),some (.str z),some dv]/\Mid K CD C H H' x1 lp1 x2 lp2 bg kp dp' s0 qs' ss'/\ss'.length<=i + 2,?_,?_⟩
   ·refine ⟨_,rfl,rfl,_,rfl,?_⟩;have eqn:V.int (ss.length:Int)=V.int (((qs.map V.ref).length:Int) + 1):=by rw [length_map];congr 1;omega
    rcases hd with ⟨e,⟨e2,rfl⟩ | ⟨q',eq,rfl⟩⟩ | ⟨e,⟨en,rfl⟩ | ⟨l,o,t,q',en,rfl,DQ⟩⟩
    ·refine iteDT rfl ⟨_,rfl,_,rfl,x1,lp1,ss,z,w,nsr,rfl,M3.d1,RW,by omega,fun h=>by rw [e2] at ql;have:=h.2;simp at ql;omega,(rk2 e).2 _ _ _,fun H4 s4=>?_⟩;exact ⟨_,rfl,kp,_,rfl,.inl (SqL.of (s4 _ _ M3.k)),_,_,rfl,rfl,rfl,_,rfl,iteNS eqn ⟨dp,qs,ss,rfl,M3.same s4,by omega⟩⟩
    ·refine iteD (fun h=>nomatch h) ?_;have l0:0 < qs.length:=by
      rcases qs with _ | ⟨y,r⟩
      ·cases eq
      ·simp
     refine ⟨_,rfl,x1,(),dx1',_,rfl,hx1',rfl,_,rfl,x1,lp1,ss,z,w,nsr,rfl,M3.d1,RW,by omega,fun _ _ H4 k4 DK4=>?_,fun n=>absurd ⟨(rk2 e).1,by omega⟩ n⟩;refine ⟨rfl,false,rfl,iteF ?_⟩;have hk4:=k4 _ _ M3.k (Ne.symm M3.n1);refine ⟨_,rfl,rfl,_,rfl,iteDT (by rw [e]) ?_⟩;refine ⟨_,rfl,.inl ⟨rfl,_,SqL.of hk4⟩,kp,_,V.ref q',rfl,rfl,hk4,by rw [length_map,getElem?_map,eq];rfl,q',qs.dropLast,ss.dropLast,rfl,?_,by rw [length_dropLast];omega⟩;have k5:KeepX kp H4 (upd H4 kp (.lst (qs.map V.ref).dropLast)):=KeepX.upd;have h5:upd H4 kp (.lst (qs.map V.ref).dropLast) kp=some (.lst (qs.dropLast.map V.ref)):=by rw [J1,List.map_dropLast]
     generalize upd H4 kp (.lst (qs.map V.ref).dropLast)=H5 at k5 h5 ⊢;have eqs:qs.dropLast ++ [q']=qs:=by
      have ne:qs≠[]:=length_pos_iff.mp l0;have e1:=List.dropLast_concat_getLast ne;have e2:qs.getLast ne=q':=by
       rw [List.getLast_eq_getElem];rw [List.getElem?_eq_getElem (by omega)] at eq;exact Option.some.inj eq
      rw [e2] at e1;exact e1
     have Q5:=(M3.q.keepX hl1' k4).keepX hk4 k5;refine ⟨DK4.keepX hk4 M3.n1 k5,(M3.d2.keepX hl1' M3.n3 k4).keepX hk4 M3.n2 k5,(M3.b.keepX hl1' k4).keepX hk4 k5,h5,⟨by rw [eqs,length_dropLast];omega,fun j q s e1 e2=>?_⟩,M3.n1,M3.n2,M3.n3,M3.f1,M3.f2,skip k4 k5⟩;rw [eqs] at e1;rw [List.getElem?_dropLast] at e2;by_cases hj:j < ss.length - 1
     ·rw [if_pos hj] at e2;exact Q5.2 j q s (by rw [getElem?_append_left (by omega)];exact e1) e2
     ·rw [if_neg hj] at e2;cases e2
    ·refine iteDT rfl ⟨_,rfl,_,rfl,x1,lp1,ss,z,w,nsr,rfl,M3.d1,RW,by omega,fun h=>(rk1 e).1 h.1,by rw [(rk1 e).2];exact en,fun H4 s4=>?_⟩;exact ⟨_,rfl,kp,_,rfl,.inl (SqL.of (s4 _ _ M3.k)),_,_,rfl,rfl,rfl,_,rfl,iteNS eqn ⟨dp,qs,ss,rfl,M3.same s4,by omega⟩⟩
    ·refine iteD (fun h=>nomatch h) ?_;refine ⟨_,rfl,x1,(),dx1',_,rfl,hx1',rfl,_,rfl,x1,lp1,ss,z,w,nsr,rfl,M3.d1,RW,by omega,fun h=>absurd h (rk1 e).1,fun _=>⟨fun t' et H4 k4 DK4=>?_,fun en'=>(by rw [(rk1 e).2,en] at en';cases en')⟩⟩;rw [(rk1 e).2,en] at et;obtain rfl:=Option.some.inj et;refine ⟨rfl,false,rfl,iteF ?_⟩;have hk4:=k4 _ _ M3.k (Ne.symm M3.n1);refine ⟨_,rfl,rfl,_,rfl,iteD (fun h=>e (V.str.inj h)) ?_⟩;refine ⟨_,rfl,.inl ⟨rfl,_,SqL.of hk4⟩,_,rfl,kp,_,_,rfl,rfl,hk4,by rw [length_map];omega,_,rfl,q',qs ++ [dp],ss ++ [(l,o,t)],rfl,?_,by rw [length_append];show ss.length + 1<=_;omega⟩;have k5:KeepX kp H4 (upd H4 kp (.lst (qs.map V.ref ++ [V.ref dp]))):=KeepX.upd;have h5:upd H4 kp (.lst (qs.map V.ref ++ [V.ref dp])) kp=some (.lst ((qs ++ [dp]).map V.ref)):=by rw [J1,map_append];rfl
     generalize upd H4 kp (.lst (qs.map V.ref ++ [V.ref dp]))=H5 at k5 h5 ⊢;have Q5:=(M3.q.keepX hl1' k4).keepX hk4 k5;have D5:=(DQ.keepX hl1' k4).keepX hk4 k5;refine ⟨DK4.keepX hk4 M3.n1 k5,(M3.d2.keepX hl1' M3.n3 k4).keepX hk4 M3.n2 k5,(M3.b.keepX hl1' k4).keepX hk4 k5,h5,⟨by rw [length_append,Q5.1,length_append];rfl,fun j q s e1 e2=>?_⟩,M3.n1,M3.n2,M3.n3,M3.f1,M3.f2,skip k4 k5⟩;have q5l:=Q5.1;by_cases hj:j < ss.length
     ·rw [getElem?_append_left (by omega)] at e1;rw [getElem?_append_left hj] at e2;exact Q5.2 j q s e1 e2
     ·rw [getElem?_append_right (by omega)] at e1;rw [getElem?_append_right (by omega)] at e2;rw [q5l] at e1;rcases hj':j - ss.length with _ | j'
      ·rw [hj'] at e1 e2;cases e1;cases e2;exact D5
      ·rw [hj'] at e1;simp at e1
   rintro σ H4 ⟨dp',qs',ss',rfl,M4,sl4⟩;have ql4:qs'.length + 1=ss'.length:=by have:=M4.q.1;rw [length_append] at this;exact this
   refine ⟨_,rfl,_,rfl,_,rfl,kp,_,rfl,.inl (SqL.of M4.k),x1,lp1,dp',ss',?_,M4.d1,M4.q.last M4.d1.ne,fun H5 s5=>⟨true,rfl,iteF ⟨dp',qs',ss',_,_,_,_,_,_,rfl,M4.same s5,by omega⟩⟩⟩;rw [length_map,show ((qs'.length:Nat):Int)=((ss'.length:Nat):Int) - 1 by omega];rfl
  ·rintro σ Hw ⟨dp,qs,ss,v9,v10,v11,v12,v13,v14,rfl,M,sl⟩;refine ⟨_,rfl,_,rfl,x2,lp2,bg,[s0],rfl,M.d2,M.b,fun H1 s1=>⟨true,rfl,iteT ?_⟩⟩;have M1:=M.same s1;obtain ⟨dx1',xs1,hx1',hl1',LN1⟩:=M1.d1.ex;have ok:=M1.d1.ok _ (J5n M1.d1.ne);refine ⟨_,rfl,x1,(),dx1',_,rfl,hx1',rfl,x1,lp1,ss,rfl,M1.d1,fun H2 s2=>?_⟩;intro x3 dx3 hx3 hdx3 hne3;have sc3:=(J3 (o:=.own x3) hdx3).trans (J3 (l:=x3) (o:=.ins CD dx3 []) (by rw [Je (Ne.symm hne3)];exact hx3));refine ⟨x3,dx3,_,lastS ss,rfl,J1,law_txf ok.1 ok.2,ok,fun lp3 H3 kp3 nl3 K3=>⟨rfl,?_⟩⟩;have s3:Same H2 H3:=fun b u e=>kp3 b u (sc3 _ _ e) (Ja e hx3);exact ⟨_,rfl,x3,lp3,dp,[lastS ss],rfl,K3,(M1.same (s2.trans s3)).q.last M1.d1.ne,fun H4 s4=>kf _⟩
theorem scBRInit:FnScope ["self","at"] ["self","at"] (J9 sBRInit):=fS
theorem ok_BRInit {f   : Addr} {fd  : FuncData} {CB : Addr} (F : Fun K "__init__" "BadRow.__init__" sBRInit f fd) (XN : XNew K CB "at")
 :
    FnOk P w K mg base CX0 1 f fd ["self", "at"] (spXInit CB "at") := by
  refine F.ok scBRInit (fun vs H Q E h => ?_) (fun cdv A outer s H vs Q E hr h => ?_)
  · obtain ⟨a, t, y, rfl, _⟩ := h
    rfl
  · obtain ⟨a, t, y, rfl, he, k⟩ := h
    refine ⟨_, (J6 (ps_fldN (pv 0) (pv 1) rfl)), ?_⟩;refine ⟨_, rfl, _, rfl, a, CB, t, rfl, he, XN, fun dx hdx => ?_⟩;exact k dx hdx
end
end R69
namespace R69
open PySem L2 Rl
theorem kib (K:PySem.W.Frag):kitOne K (.type "int") (.type "bool")=some false:=by kernel_rfl
theorem dflt_binds {K:PySem.W.Frag} {x qual:Str} {st:Stmt} {f TD:Addr} {fd:FuncData} {cT:Value} {dT:Option Addr} {nT:Nat} {slT:Array (Option Value)} (F:FunD K x qual st f fd TD) (lT:K.lookup TD=some ⟨cT,dT,.seq #[.none] nT,slT⟩) (ps:List Str)
  (h0:∀ (kV doc pm:Value) (an:Option Addr) (cdv ct:Value) (us:List Value),us.length=ps.length->∃ k,bindArgs (fnOf x qual (J1q st) (J19 st) (J9 st) (.ref TD) kV doc pm an cdv ct) ⟨us,[]⟩=seqItems? (.ref TD) >>= k/\k (some #[.none])=pure (ps.zip us))
  (h1:∀ (kV doc pm:Value) (an:Option Addr) (cdv ct:Value) (us:List Value),(us ++ [Value.none]).length=ps.length->∃ k,bindArgs (fnOf x qual (J1q st) (J19 st) (J9 st) (.ref TD) kV doc pm an cdv ct) ⟨us,[]⟩=seqItems? (.ref TD) >>= k/\k (some #[.none])=pure (ps.zip (us ++ [Value.none]))) :
  Binds K fd ps []/\Binds K fd ps [.none]:=by
 obtain ⟨oc,od,kV,doc,pm,an,cdv,ct,osl,rfl,lk,hcd⟩:=F.ex;refine ⟨fun s us X hl=>?_,fun s us X hl=>?_⟩
 ·rw [append_nil] at hl ⊢;obtain ⟨k,e1,e2⟩:=h0 kV doc pm an cdv ct us hl;exact BindsTo.of_defaults (T:=TD) rfl (X _ _ lT) rfl e1 e2
 ·obtain ⟨k,e1,e2⟩:=h1 kV doc pm an cdv ct us hl;exact BindsTo.of_defaults (T:=TD) rfl (X _ _ lT) rfl e1 e2
abbrev DfI (K:PySem.W.Frag) (x:Str) (st:Stmt) (f:Addr) (od an:Option Addr) (sl:Array (Option Value)) (oc kV dc pm cd ct:Value):Prop:=nsIn K mainGlobals x=some (some (.ref f))/\K.lookup f=some ⟨oc,od,.func (fnOf x x (J1q st) (J19 st) (J9 st) .none kV dc pm an cd ct),sl⟩/\codeIn K cd x=true/\keepIn K (.ref f)=true
abbrev MeI (K:PySem.W.Frag) (C:Addr) (x q:Str) (st:Stmt) (D:Value) (f:Addr) (od an:Option Addr) (sl:Array (Option Value)) (oc kV dc pm cd ct:Value):Prop:=PySem.W.findIn K (.ref C) x=some (some (.ref f))/\isFn K (.ref f)=true/\K.lookup f=some ⟨oc,od,.func (fnOf x q (J1q st) (J19 st) (J9 st) D kV dc pm an cd ct),sl⟩/\codeIn K cd q=true/\keepIn K (.ref f)=true
abbrev NaI (K:PySem.W.Frag) (x:Str) (C:Addr):Prop:=nsIn K mainGlobals x=some (some (.ref C))
abbrev NzI (K:PySem.W.Frag) (x:Str):Prop:=nsIn K mainGlobals x=some none
abbrev FnI (K:PySem.W.Frag) (C:Addr) (x:Str):Prop:=PySem.W.findIn K (.ref C) x=some none
abbrev ClI (K:PySem.W.Frag) (C:Addr):Prop:=plainGet K C Str.empty=true/\PySem.W.hasDictIn K C=true/\plainOver K C=true/\PySem.W.findIn K (.ref C) "__setattr__"=some (some (.builtin "object.__setattr__"))
abbrev MkI (K:PySem.W.Frag) (C:Addr):Prop:=makesIn K C=true/\keepIn K (.ref C)=true
theorem dfn {K:PySem.W.Frag} {h:Heap} {mg:Str->Option Value} (X:K.In h) (G:h.Ns mainGlobals mg) {x:Str} {st:Stmt} {f:Addr} {od an:Option Addr} {sl:Array (Option Value)} {oc kV dc pm cd ct:Value} (d:DfI K x st f od an sl oc kV dc pm cd ct) :
  Fun K x x st f (fnOf x x (J1q st) (J19 st) (J9 st) .none kV dc pm an cd ct)/\mg x=some (.ref f)/\keepIn K (.ref f)=true:=⟨J5o d.2.1 d.2.2.1 d.2.2.2,mg_of X G d.1,d.2.2.2⟩
theorem clf {K:PySem.W.Frag} {C:Addr} (d:ClI K C):Cls K C:=⟨d.1,d.2.1,d.2.2.1,d.2.2.2⟩
theorem usOf0 {P:List PySem.Value → Prop} (h : P []) : ∀ us : List PySem.Value,us.length = 0 → P us := fun us e => by
  cases us with
  | nil => exact h
  | cons a l => cases e
theorem usS {P:List PySem.Value → Prop} {n : Nat} (h : ∀ a us,us.length = n → P (a :: us)) : ∀ us : List PySem.Value,us.length = n + 1 → P us := fun us e => by
  cases us with
  | nil => cases e
  | cons a l => exact h a l (Nat.succ.inj e)
theorem usOf1 {P:List PySem.Value → Prop} (h : ∀ a0,P [a0]) : ∀ us : List PySem.Value,us.length = 1 → P us := usS fun a => usOf0 (P := fun us => P (a :: us)) (h a)
theorem usOf2 {P:List PySem.Value → Prop} (h : ∀ a0 a1,P [a0,a1]) : ∀ us : List PySem.Value,us.length = 2 → P us := usS fun a => usOf1 (P := fun us => P (a :: us)) (h a)
theorem usOf3 {P:List PySem.Value → Prop} (h : ∀ a0 a1 a2,P [a0,a1,a2]) : ∀ us : List PySem.Value,us.length = 3 → P us := usS fun a => usOf2 (P := fun us => P (a :: us)) (h a)
theorem usOf4 {P:List PySem.Value → Prop} (h : ∀ a0 a1 a2 a3,P [a0,a1,a2,a3]) : ∀ us : List PySem.Value,us.length = 4 → P us := usS fun a => usOf3 (P := fun us => P (a :: us)) (h a)
theorem usOf5 {P:List PySem.Value → Prop} (h : ∀ a0 a1 a2 a3 a4,P [a0,a1,a2,a3,a4]) : ∀ us : List PySem.Value,us.length = 5 → P us := usS fun a => usOf4 (P := fun us => P (a :: us)) (h a)
theorem all_mk {l : PySem.W.OpenLaw} {w : World} {K : PySem.W.Frag} {h : Heap} {mg : Str -> Option Value} {fa  CL COutside C CD CRw : Addr} (X : K.In h) (G : h.Ns mainGlobals mg) (hfa : mg "law" = some (.ref fa))
    {f0 f1 f2 f3 f4 f5 f6 f7 f8 f9 f10 f11 f12 f13 f14 f15 f16 f17 f18 f19 f20 f21 f22 f23 f24 f25 f26 f27 f28 f29 f30 f31 f32 f_LI f_DI f_DO f_DU f_DF f_DX f_BI : Addr} {od0 an0 od1 an1 od2 an2 od3 an3 od4 an4 od5 an5 od6 an6 od7 an7 od8 an8 od9 an9 od10 an10 od11 an11 od12 an12 od13 an13 od14 an14 od15 an15 od16 an16 od17 an17 od18 an18 od19 an19 od20 an20 od21 an21 od22 an22 od23 an23 od24 an24 od25 an25 od26 an26 od27 an27 od28 an28 od29 an29 od30 an30 od31 an31 od32 an32 od_LI an_LI od_DI an_DI od_DO an_DO od_DU an_DU od_DF an_DF od_DX an_DX od_BI an_BI : Option Addr} {sl0 sl1 sl2 sl3 sl4 sl5 sl6 sl7 sl8 sl9 sl10 sl11 sl12 sl13 sl14 sl15 sl16 sl17 sl18 sl19 sl20 sl21 sl22 sl23 sl24 sl25 sl26 sl27 sl28 sl29 sl30 sl31 sl32 sl_LI sl_DI sl_DO sl_DU sl_DF sl_DX sl_BI : Array (Option Value)} {oc0 kV0 dc0 pm0 cd0 ct0 oc1 kV1 dc1 pm1 cd1 ct1 oc2 kV2 dc2 pm2 cd2 ct2 oc3 kV3 dc3 pm3 cd3 ct3 oc4 kV4 dc4 pm4 cd4 ct4 oc5 kV5 dc5 pm5 cd5 ct5 oc6 kV6 dc6 pm6 cd6 ct6 oc7 kV7 dc7 pm7 cd7 ct7 oc8 kV8 dc8 pm8 cd8 ct8 oc9 kV9 dc9 pm9 cd9 ct9 oc10 kV10 dc10 pm10 cd10 ct10 oc11 kV11 dc11 pm11 cd11 ct11 oc12 kV12 dc12 pm12 cd12 ct12 oc13 kV13 dc13 pm13 cd13 ct13 oc14 kV14 dc14 pm14 cd14 ct14 oc15 kV15 dc15 pm15 cd15 ct15 oc16 kV16 dc16 pm16 cd16 ct16 oc17 kV17 dc17 pm17 cd17 ct17 oc18 kV18 dc18 pm18 cd18 ct18 oc19 kV19 dc19 pm19 cd19 ct19 oc20 kV20 dc20 pm20 cd20 ct20 oc21 kV21 dc21 pm21 cd21 ct21 oc22 kV22 dc22 pm22 cd22 ct22 oc23 kV23 dc23 pm23 cd23 ct23 oc24 kV24 dc24 pm24 cd24 ct24 oc25 kV25 dc25 pm25 cd25 ct25 oc26 kV26 dc26 pm26 cd26 ct26 oc27 kV27 dc27 pm27 cd27 ct27 oc28 kV28 dc28 pm28 cd28 ct28 oc29 kV29 dc29 pm29 cd29 ct29 oc30 kV30 dc30 pm30 cd30 ct30 oc31 kV31 dc31 pm31 cd31 ct31 oc32 kV32 dc32 pm32 cd32 ct32 oc_LI kV_LI dc_LI pm_LI cd_LI ct_LI oc_DI kV_DI dc_DI pm_DI cd_DI ct_DI oc_DO kV_DO dc_DO pm_DO cd_DO ct_DO oc_DU kV_DU dc_DU pm_DU cd_DU ct_DU oc_DF kV_DF dc_DF pm_DF cd_DF ct_DF oc_DX kV_DX dc_DX pm_DX cd_DX ct_DX oc_BI kV_BI dc_BI pm_BI cd_BI ct_BI : Value} {TD : Addr} {dT : Option Addr} {slT : Array (Option Value)} {cT : Value} {nT : Nat}
     {t_MOST_PIECES : Tok} {t_MOST_FIGURES_texts : Tok} {t_MOST_FIGURES_rows : Tok}
    (a_L : NaI K "Line" C) (a_D : NaI K "Desk" CD) (a_B : NaI K "BadRow" CRw) (d0 : DfI K "piece_holding" sHold f0 od0 an0 sl0 oc0 kV0 dc0 pm0 cd0 ct0) (d1 : DfI K "piece_at" sAt f1 od1 an1 sl1 oc1 kV1 dc1 pm1 cd1 ct1) (d2 : DfI K "refuse_lengths" sRefL f2 od2 an2 sl2 oc2 kV2 dc2 pm2 cd2 ct2) (d3 : DfI K "refuse_order" sRefO f3 od3 an3 sl3 oc3 kV3 dc3 pm3 cd3 ct3) (d4 : DfI K "refuse_turned" sRefT f4 od4 an4 sl4 oc4 kV4 dc4 pm4 cd4 ct4) (d5 : DfI K "turns_told" sTold f5 od5 an5 sl5 oc5 kV5 dc5 pm5 cd5 ct5) (d6 : DfI K "first_places" sFirst f6 od6 an6 sl6 oc6 kV6 dc6 pm6 cd6 ct6) (d7 : DfI K "laid_word" sWord f7 od7 an7 sl7 oc7 kV7 dc7 pm7 cd7 ct7) (d8 : DfI K "written" J59 f8 od8 an8 sl8 oc8 kV8 dc8 pm8 cd8 ct8) (d9 : DfI K "is_number" sIsNum f9 od9 an9 sl9 oc9 kV9 dc9 pm9 cd9 ct9) (d10 : DfI K "without_turn" sNoT f10 od10 an10 sl10 oc10 kV10 dc10 pm10 cd10 ct10) (d11 : DfI K "is_length_row" sLenRow f11 od11 an11 sl11 oc11 kV11 dc11 pm11 cd11 ct11) (d12 : DfI K "is_laid_row" J5b f12 od12 an12 sl12 oc12 kV12 dc12 pm12 cd12 ct12) (d13 : DfI K "refuse_rows" J5a f13 od13 an13 sl13 oc13 kV13 dc13 pm13 cd13 ct13) (d14 : DfI K "read" sRead f14 od14 an14 sl14 oc14 kV14 dc14 pm14 cd14 ct14) (d15 : DfI K "number_told" sNumT f15 od15 an15 sl15 oc15 kV15 dc15 pm15 cd15 ct15) (d16 : DfI K "numbers_behind_cut" sNumsC f16 od16 an16 sl16 oc16 kV16 dc16 pm16 cd16 ct16) (d17 : DfI K "cut" sCut f17 od17 an17 sl17 oc17 kV17 dc17 pm17 cd17 ct17) (d18 : DfI K "turned_about" sTurnA f18 od18 an18 sl18 oc18 kV18 dc18 pm18 cd18 ct18) (d19 : DfI K "laid_at" sLaidAt f19 od19 an19 sl19 oc19 kV19 dc19 pm19 cd19 ct19) (d20 : DfI K "made_long" sMadeL f20 od20 an20 sl20 oc20 kV20 dc20 pm20 cd20 ct20) (d21 : DfI K "line_behind" sLineB f21 od21 an21 sl21 oc21 kV21 dc21 pm21 cd21 ct21) (d22 : DfI K "_law_cell" sCell f22 od22 an22 sl22 oc22 kV22 dc22 pm22 cd22 ct22) (d23 : DfI K "_law_whole" sWhole f23 od23 an23 sl23 oc23 kV23 dc23 pm23 cd23 ct23) (d24 : DfI K "_law_shuffled" sShuf f24 od24 an24 sl24 oc24 kV24 dc24 pm24 cd24 ct24) (d25 : DfI K "_law_drawn" sDrawn f25 od25 an25 sl25 oc25 kV25 dc25 pm25 cd25 ct25) (d26 : DfI K "_law_text" sTextL f26 od26 an26 sl26 oc26 kV26 dc26 pm26 cd26 ct26) (d27 : DfI K "_law_cut" sLCut f27 od27 an27 sl27 oc27 kV27 dc27 pm27 cd27 ct27) (d28 : DfI K "_law_due" sDue f28 od28 an28 sl28 oc28 kV28 dc28 pm28 cd28 ct28) (d29 : DfI K "_law_row" sLRow f29 od29 an29 sl29 oc29 kV29 dc29 pm29 cd29 ct29) (d30 : DfI K "_law_refused" J3w f30 od30 an30 sl30 oc30 kV30 dc30 pm30 cd30 ct30) (d31 : DfI K "_law_stands" sStands f31 od31 an31 sl31 oc31 kV31 dc31 pm31 cd31 ct31) (d32 : DfI K "law" sLaw f32 od32 an32 sl32 oc32 kV32 dc32 pm32 cd32 ct32) (me_LI : MeI K C "__init__" "Line.__init__" sInit (.ref TD) f_LI od_LI an_LI sl_LI oc_LI kV_LI dc_LI pm_LI cd_LI ct_LI) (lT : K.lookup TD = some ⟨cT, dT, .seq #[.none] nT, slT⟩) (me_DI : MeI K CD "__init__" "Desk.__init__" sDInit .none f_DI od_DI an_DI sl_DI oc_DI kV_DI dc_DI pm_DI cd_DI ct_DI) (me_DO : MeI K CD "do" "Desk.do" sDDo .none f_DO od_DO an_DO sl_DO oc_DO kV_DO dc_DO pm_DO cd_DO ct_DO) (me_DU : MeI K CD "unless_refused" "Desk.unless_refused" sDUnl .none f_DU od_DU an_DU sl_DU oc_DU kV_DU dc_DU pm_DU cd_DU ct_DU) (me_DF : MeI K CD "left" "Desk.left" sDLeft .none f_DF od_DF an_DF sl_DF oc_DF kV_DF dc_DF pm_DF cd_DF ct_DF) (me_DX : MeI K CD "text" "Desk.text" sDText .none f_DX od_DX an_DX sl_DX oc_DX kV_DX dc_DX pm_DX cd_DX ct_DX) (me_BI : MeI K CRw "__init__" "BadRow.__init__" sBRInit .none f_BI od_BI an_BI sl_BI oc_BI kV_BI dc_BI pm_BI cd_BI ct_BI) (pg_L : ClI K C) (mk_L : MkI K C) (n_L_lengths : FnI K C "lengths") (n_L_order : FnI K C "order") (n_L_turned : FnI K C "turned") (n_L_starts : FnI K C "starts") (n_L_laid : FnI K C "laid") (n_L_size : FnI K C "size") (pg_D : ClI K CD) (mk_D : MkI K CD) (n_D_lines : FnI K CD "lines") (n_D_chart : FnI K CD "chart") (z_len : NzI K "len") (z_min : NzI K "min") (z_sum : NzI K "sum") (z_sorted : NzI K "sorted") (z_list : NzI K "list") (z_range : NzI K "range") (z_tuple : NzI K "tuple") (z_isinstance : NzI K "isinstance") (z_int : NzI K "int") (z_bool : NzI K "bool") (z_all : NzI K "all") (z_enumerate : NzI K "enumerate") (z_str : NzI K "str") (z_ValueError : NzI K "ValueError") (v_MOST_PIECES : nsIn K mainGlobals "MOST_PIECES" = some (some (.int 24 t_MOST_PIECES))) (v_MOST_FIGURES_texts : nsIn K mainGlobals "MOST_FIGURES_texts" = some (some (.int 31 t_MOST_FIGURES_texts))) (v_MOST_FIGURES_rows : nsIn K mainGlobals "MOST_FIGURES_rows" = some (some (.int 61 t_MOST_FIGURES_rows))) (aOutside : nsIn K mainGlobals "Outside" = some (some (.ref COutside))) (xOutside : excIn K COutside bmV "ValueError.__new__" = true) (aLE : nsIn K mainGlobals "LineError" = some (some (.ref CL))) (sget : specialIn K (.builtin "object.__class__") "__get__" = some (some (.builtin "getset_descriptor.__get__"))) (stk : takesIn K (.builtin "object.__class__") = some true) (oga : PySem.W.findIn K (.ref CRw) "__getattribute__" = some (some (.builtin "BaseException.__getattribute__"))) (ono : PySem.W.findIn K (.ref CRw) "__getattr__" = some none) (ocl : PySem.W.findIn K (.ref CRw) "__class__" = some (some (.builtin "object.__class__"))) (omo : PySem.W.mroIn K CRw (.type "object") = some true) (omb : PySem.W.mroIn K CRw (.type "BaseException") = some true) (ohd : PySem.W.hasDictIn K CRw = true) (oxm : exmOne K (.ref CRw) (.ref CL) = some true) (okk : kitOne K (.ref CRw) (.ref CRw) = some true) (osa : PySem.W.findIn K (.ref CRw) "__setattr__" = some (some (.builtin "object.__setattr__"))) (oat : PySem.W.findIn K (.ref CRw) "at" = some none) (oov : overV K CRw = true) (oex : excInI K CRw bmV "ValueError.__new__" f_BI = true)
    : ∃ fd : FuncData, (∀ (s : Shared) (v : Value), BindsTo s fd ⟨[v], []⟩ [("script", v)]) /\ ∀ base : Heap, K.In base -> base.Ns mainGlobals mg -> FnOk l.prog w K mg base CX0 9 fa fd ["script"] (spLaw K) := by
  have e := hfa.symm.trans (mg_of X G d32.1);cases e;obtain ⟨F0, m0, k0⟩ := dfn X G d0;have b0 := F0.binds (ps := ["firsts", "lengths", "x"]) fun _ _ _ _ _ _ => usOf3 fun _ _ _ => rfl
  obtain ⟨F1, m1, k1⟩ := dfn X G d1;have b1 := F1.binds (ps := ["line", "x"]) fun _ _ _ _ _ _ => usOf2 fun _ _ => rfl
  obtain ⟨F2, m2, k2⟩ := dfn X G d2;have b2 := F2.binds (ps := ["lengths"]) fun _ _ _ _ _ _ => usOf1 fun _ => rfl
  obtain ⟨F3, m3, k3⟩ := dfn X G d3;have b3 := F3.binds (ps := ["order", "pieces"]) fun _ _ _ _ _ _ => usOf2 fun _ _ => rfl
  obtain ⟨F4, m4, k4⟩ := dfn X G d4;have b4 := F4.binds (ps := ["turned", "pieces"]) fun _ _ _ _ _ _ => usOf2 fun _ _ => rfl
  obtain ⟨F5, m5, k5⟩ := dfn X G d5;have b5 := F5.binds (ps := ["turned", "pieces"]) fun _ _ _ _ _ _ => usOf2 fun _ _ => rfl
  obtain ⟨F6, m6, k6⟩ := dfn X G d6;have b6 := F6.binds (ps := ["lengths", "order"]) fun _ _ _ _ _ _ => usOf2 fun _ _ => rfl
  obtain ⟨F7, m7, k7⟩ := dfn X G d7;have b7 := F7.binds (ps := ["line", "piece"]) fun _ _ _ _ _ _ => usOf2 fun _ _ => rfl
  obtain ⟨F8, m8, k8⟩ := dfn X G d8;have b8 := F8.binds (ps := ["line"]) fun _ _ _ _ _ _ => usOf1 fun _ => rfl
  obtain ⟨F9, m9, k9⟩ := dfn X G d9;have b9 := F9.binds (ps := ["word", "figures"]) fun _ _ _ _ _ _ => usOf2 fun _ _ => rfl
  obtain ⟨F10, m10, k10⟩ := dfn X G d10;have b10 := F10.binds (ps := ["word"]) fun _ _ _ _ _ _ => usOf1 fun _ => rfl
  obtain ⟨F11, m11, k11⟩ := dfn X G d11;have b11 := F11.binds (ps := ["row"]) fun _ _ _ _ _ _ => usOf1 fun _ => rfl
  obtain ⟨F12, m12, k12⟩ := dfn X G d12;have b12 := F12.binds (ps := ["row"]) fun _ _ _ _ _ _ => usOf1 fun _ => rfl
  obtain ⟨F13, m13, k13⟩ := dfn X G d13;have b13 := F13.binds (ps := ["rows"]) fun _ _ _ _ _ _ => usOf1 fun _ => rfl
  obtain ⟨F14, m14, k14⟩ := dfn X G d14;have b14 := F14.binds (ps := ["text"]) fun _ _ _ _ _ _ => usOf1 fun _ => rfl
  obtain ⟨F15, m15, k15⟩ := dfn X G d15;have b15 := F15.binds (ps := ["word"]) fun _ _ _ _ _ _ => usOf1 fun _ => rfl
  obtain ⟨F16, m16, k16⟩ := dfn X G d16;have b16 := F16.binds (ps := ["line", "cut_piece", "piece"]) fun _ _ _ _ _ _ => usOf3 fun _ _ _ => rfl
  obtain ⟨F17, m17, k17⟩ := dfn X G d17;have b17 := F17.binds (ps := ["line", "x"]) fun _ _ _ _ _ _ => usOf2 fun _ _ => rfl
  obtain ⟨F18, m18, k18⟩ := dfn X G d18;have b18 := F18.binds (ps := ["line", "piece"]) fun _ _ _ _ _ _ => usOf2 fun _ _ => rfl
  obtain ⟨F19, m19, k19⟩ := dfn X G d19;have b19 := F19.binds (ps := ["line", "piece", "position"]) fun _ _ _ _ _ _ => usOf3 fun _ _ _ => rfl
  obtain ⟨F20, m20, k20⟩ := dfn X G d20;have b20 := F20.binds (ps := ["line", "piece", "length"]) fun _ _ _ _ _ _ => usOf3 fun _ _ _ => rfl
  obtain ⟨F21, m21, k21⟩ := dfn X G d21;have b21 := F21.binds (ps := ["line", "row"]) fun _ _ _ _ _ _ => usOf2 fun _ _ => rfl
  obtain ⟨F22, m22, k22⟩ := dfn X G d22;have b22 := F22.binds (ps := ["script", "k"]) fun _ _ _ _ _ _ => usOf2 fun _ _ => rfl
  obtain ⟨F23, m23, k23⟩ := dfn X G d23;have b23 := F23.binds (ps := ["found"]) fun _ _ _ _ _ _ => usOf1 fun _ => rfl
  obtain ⟨F24, m24, k24⟩ := dfn X G d24;have b24 := F24.binds (ps := ["cell", "many"]) fun _ _ _ _ _ _ => usOf2 fun _ _ => rfl
  obtain ⟨F25, m25, k25⟩ := dfn X G d25;have b25 := F25.binds (ps := ["cells", "marks", "many", "span"]) fun _ _ _ _ _ _ => usOf4 fun _ _ _ _ => rfl
  obtain ⟨F26, m26, k26⟩ := dfn X G d26;have b26 := F26.binds (ps := ["drawn"]) fun _ _ _ _ _ _ => usOf1 fun _ => rfl
  obtain ⟨F27, m27, k27⟩ := dfn X G d27;have b27 := F27.binds (ps := ["drawn", "x"]) fun _ _ _ _ _ _ => usOf2 fun _ _ => rfl
  obtain ⟨F28, m28, k28⟩ := dfn X G d28;have b28 := F28.binds (ps := ["drawn", "kept", "word", "one", "two"]) fun _ _ _ _ _ _ => usOf5 fun _ _ _ _ _ => rfl
  obtain ⟨F29, m29, k29⟩ := dfn X G d29;have b29 := F29.binds (ps := ["drawn", "cells"]) fun _ _ _ _ _ _ => usOf2 fun _ _ => rfl
  obtain ⟨F30, m30, k30⟩ := dfn X G d30;have b30 := F30.binds (ps := ["desk", "row"]) fun _ _ _ _ _ _ => usOf2 fun _ _ => rfl
  obtain ⟨F31, m31, k31⟩ := dfn X G d31;have b31 := F31.binds (ps := ["desk", "drawn", "many"]) fun _ _ _ _ _ _ => usOf3 fun _ _ _ => rfl
  obtain ⟨F32, m32, k32⟩ := dfn X G d32;have b32 := F32.binds (ps := ["script"]) fun _ _ _ _ _ _ => usOf1 fun _ => rfl
  have mg_L := mg_of X G a_L;have cl_L := clf pg_L;have F_LI : FunD K "__init__" "Line.__init__" sInit f_LI _ TD := ⟨⟨oc_LI, od_LI, kV_LI, dc_LI, pm_LI, an_LI, cd_LI, ct_LI, sl_LI, rfl, me_LI.2.2.1, me_LI.2.2.2.1⟩, me_LI.2.2.2.2⟩;obtain ⟨b_LI, b1_LI⟩ := dflt_binds F_LI lT ["self", "lengths", "order", "turned"] (fun _ _ _ _ _ _ us hl => match us, hl with | [_, _, _, _], _ => ⟨_, rfl, rfl⟩) (fun _ _ _ _ _ _ us hl => match us, (show us.length = 3 by simpa using hl) with | [_, _, _], _ => ⟨_, rfl, rfl⟩);have mg_D := mg_of X G a_D;have cl_D := clf pg_D;have F_DI := J5o me_DI.2.2.1 me_DI.2.2.2.1 me_DI.2.2.2.2;have b_DI := F_DI.binds (ps := ["self", "text"]) fun _ _ _ _ _ _ => usOf2 fun _ _ => rfl
  have F_DO := J5o me_DO.2.2.1 me_DO.2.2.2.1 me_DO.2.2.2.2;have b_DO := F_DO.binds (ps := ["self", "row"]) fun _ _ _ _ _ _ => usOf2 fun _ _ => rfl
  have F_DU := J5o me_DU.2.2.1 me_DU.2.2.2.1 me_DU.2.2.2.2;have b_DU := F_DU.binds (ps := ["self", "told"]) fun _ _ _ _ _ _ => usOf2 fun _ _ => rfl
  have F_DF := J5o me_DF.2.2.1 me_DF.2.2.2.1 me_DF.2.2.2.2;have b_DF := F_DF.binds (ps := ["self"]) fun _ _ _ _ _ _ => usOf1 fun _ => rfl
  have F_DX := J5o me_DX.2.2.1 me_DX.2.2.2.1 me_DX.2.2.2.2;have b_DX := F_DX.binds (ps := ["self"]) fun _ _ _ _ _ _ => usOf1 fun _ => rfl
  have mg_B := mg_of X G a_B;have F_BI := J5o me_BI.2.2.1 me_BI.2.2.2.1 me_BI.2.2.2.2;have b_BI := F_BI.binds (ps := ["self", "at"]) fun _ _ _ _ _ _ => usOf2 fun _ _ => rfl
  have T0 : Txt K mg := ⟨mg_none_of X G z_len, mg_none_of X G z_min, mg_none_of X G z_sum, mg_none_of X G z_sorted, mg_none_of X G z_list, mg_none_of X G z_range, mg_none_of X G z_tuple, ⟨_, mg_of X G v_MOST_PIECES⟩⟩;have T : TxtR mg := ⟨mg_none_of X G z_len, mg_none_of X G z_sum, mg_none_of X G z_tuple, mg_none_of X G z_list, mg_none_of X G z_range⟩;have TC : TxtC K mg C := ⟨cl_L, n_L_lengths, n_L_order, n_L_turned, n_L_starts, n_L_laid, n_L_size⟩;have TL : TxtL K mg := ⟨mg_none_of X G z_isinstance, mg_none_of X G z_int, mg_none_of X G z_bool, kib K⟩;have TOutside : TxtX K mg "Outside" COutside := ⟨mg_of X G aOutside, xOutside⟩;refine ⟨fnOf "law" "law" (J1q sLaw) (J19 sLaw) (J9 sLaw) .none kV32 dc32 pm32 an32 cd32 ct32, fun s v => .of_eq rfl, fun base _ _ => ?_⟩;have GF := ok_first (P := l.prog) (w := w) (base := base) F6 T;have GI := ok_init (P := l.prog) (w := w) (base := base) F_LI T0 TC (ok_refL F2 T0) b2 m2 k2 (ok_refO F3 T0) b3 m3 k3 (ok_told F5 T0 F4 b4 m4) b5 m5 k5 GF b6 m6 k6;have ML : Mk K C f_LI := ⟨mk_L.1, me_LI.1, me_LI.2.1, mk_L.2⟩;have GC := ok_cell (P := l.prog) (w := w) (base := base) F22 T;have GW := ok_whole (P := l.prog) (w := w) (base := base) F23 TL;have GWd := ok_word7 (P := l.prog) (w := w) (base := base) F7 TC (mg_none_of X G z_str);have GWr := ok_written F8 TC (mg_none_of X G z_str) GWd b7 m7 k7;have GIN := ok_isNum (P := l.prog) (w := w) (base := base) F9 T (mg_none_of X G z_all);have GNT := ok_noT (P := l.prog) (w := w) (mg := mg) (base := base) F10;have GLR := ok_lenRow F11 T (mg_none_of X G z_all) ⟨_, mg_of X G v_MOST_FIGURES_texts⟩ GIN b9 m9 k9;have GDR := ok_laidRow F12 T (mg_none_of X G z_all) ⟨_, mg_of X G v_MOST_FIGURES_texts⟩ GIN b9 m9 k9 GNT b10 m10 k10;have GRR := ok_refRows F13 T GLR b11 m11 k11 GDR b12 m12 k12;have GRd := ok_read F14 T (mg_none_of X G z_int) GRR b13 m13 k13 GNT b10 m10 k10 ML GI b_LI mg_L;have GNB := ok_numT F15 (mg_none_of X G z_int) ⟨_, mg_of X G v_MOST_FIGURES_rows⟩ GIN b9 m9 k9;have GNC := ok_numsC (P := l.prog) (w := w) (base := base) F16 TC;have GHd := ok_hold (P := l.prog) (w := w) (base := base) F0 (mg_none_of X G z_enumerate) TOutside;have GAt := ok_at F1 TC GHd b0 m0 k0;have GCt := ok_cutD F17 T TC (mg_of X G v_MOST_PIECES) GAt b1 m1 k1 GNC b16 m16 k16 ML GI b_LI mg_L;have GTn := ok_turnD F18 T TC ML GI b_LI mg_L;have GLa := ok_layD F19 T TC ML GI b_LI mg_L;have GLo := ok_longD F20 T TC ML GI b_LI mg_L;have GLB := ok_lineB F21 T GNB b15 m15 k15 GCt b17 m17 k17 GTn b18 m18 k18 GLa b19 m19 k19 GLo b20 m20 k20;have TD : TxtD K CD := ⟨cl_D, n_D_lines, n_D_chart⟩;have XO : XCls K CRw := ⟨oga, ono, ocl, sget, stk, omo, omb, ohd⟩;have XN : XNew K CRw "at" := ⟨osa, oov, oat, ohd⟩;have GB := ok_BRInit (P := l.prog) (w := w) (mg := mg) (base := base) F_BI XN;have TB : TxtBR K mg CRw f_BI := ⟨mg_B, oex, me_BI.2.1⟩;have HLe : HasM l.prog w K mg base CX0 1 "left" ["self"] (J2h CD C) CD := ⟨_, _, cl_D, ⟨me_DF.1, me_DF.2.1, me_DF.2.2.2.2⟩, ok_dleft (P := l.prog) (w := w) (base := base) F_DF T TD, b_DF⟩;have HTx : HasM l.prog w K mg base CX0 3 "text" ["self"] (J3j CD C) CD := ⟨_, _, cl_D, ⟨me_DX.1, me_DX.2.1, me_DX.2.2.2.2⟩, ok_dtext F_DX TD GWr b8 m8 k8, b_DX⟩;have HUn : HasM l.prog w K mg base (Exc2 l.prog w) 3 "unless_refused" ["self", "told"] (spDUnl CD C CRw) CD := ⟨_, _, cl_D, ⟨me_DU.1, me_DU.2.1, me_DU.2.2.2.2⟩, ok_dunl F_DU TB GB b_BI HLe, b_DU⟩;have HDo : HasM l.prog w K mg base (Exc2 l.prog w) 7 "do" ["self", "row"] (spDDo CD C CRw) CD := ⟨_, _, cl_D, ⟨me_DO.1, me_DO.2.1, me_DO.2.2.2.2⟩, ok_ddo F_DO TD HLe HUn GLB b21 m21 k21, b_DO⟩;have GDI := ok_dinit F_DI TD GRd b14 m14 k14;have MD : Mk K CD f_DI := ⟨mk_D.1, me_DI.1, me_DI.2.1, mk_D.2⟩;have TX : Tx69 K mg CL CRw := ⟨(mg_none_of X G z_isinstance), mg_of X G aLE, mg_B, oxm, XO, okk, ⟨XO, oat, ohd⟩⟩;have GSh := ok_shuf (P := l.prog) (w := w) (base := base) F24 T;have GD := ok_draw69 F25 T GSh b24 m24 k24;have GTx := ok_ltext (P := l.prog) (w := w) (base := base) F26 T (mg_none_of X G z_str) (mg_none_of X G z_int);have GLC := ok_lcut (P := l.prog) (w := w) (base := base) F27 T (mg_none_of X G z_int);have GDu := ok_due69 F28 T GLC b27 m27 k27;have GRw := ok_lrow (P := l.prog) (w := w) (base := base) F29 T (mg_none_of X G z_str);have GRe := ok_refD F30 TX HDo GW b23 m23 k23;have GSd := ok_stands F31 (mg_none_of X G z_isinstance) (mg_none_of X G z_str) HTx HLe GTx b26 m26 k26 GW b23 m23 k23;exact ok_law F32 T (mg_none_of X G z_min) HDo HTx GC b22 m22 k22 GD b25 m25 k25 GTx b26 m26 k26 MD GDI b_DI mg_D GRw b29 m29 k29 GDu b28 m28 k28 GRe b30 m30 k30 GSd b31 m31 k31
theorem walk {l:PySem.W.OpenLaw} {q:Program} {loose:List Str} {XP:(Str->Option Value)->Heap->Prop} {YP:World->Heap->Prop} {d:DefRec} {K:Params->PySem.W.Frag} (hn:l.most=some 63) (hdf:d.params.defaults=[])
  (hY:∀ (w:World) (h:Heap),YP w h->(K w.params).In h)
  (F:∀ (w:World) (mg:Str->Option Value) (fa:Addr) (h:Heap),(K w.params).In h->h.Ns mainGlobals mg->mg d.name=some (.ref fa)->
   ∃ fd:FuncData,(∀ (s:Shared) (u:Value),BindsTo s fd ⟨[u],[]⟩ [("script",u)])/\∀ base:Heap,(K w.params).In base->base.Ns mainGlobals mg->FnOk l.prog w (K w.params) mg base CX0 9 fa fd ["script"] (spLaw (K w.params))) :
  PySem.W.WalkO q loose XP YP l.row.toRowW d [] (fun f vs=>PySem.call f vs) :=
 L2.walk_of (n:=63) (k:=9) (x:="script") (CX:=fun _=>CX0) (sp:=fun w=>spLaw (K w.params)) hn (by decide) hdf ⟨rfl,by decide,by decide⟩ hY F (fun _ _ a ns hl _ hS=>⟨a,ns,rfl,hS,hl,fun _=>rfl⟩) fun _ _ _ _ _ z=>z
end R69
open PySem PySem.W PyProof.Rows
namespace PySem.W.Fast
def tw8808482444231338272:=()
def tw13367518854367592179:=()
def tw594726126674560903:=()
def tw18252952315851114160:=()
def tw9041899861592436074:=()
def tw7737173412467377253:=()
def tw3599011276520490819:=()
def tw5376726837238332213:=()
def tw13536823046057241149:=()
def tw14446756582397158902:=()
def tw12238918417576467527:=()
end PySem.W.Fast
namespace PySem.W.Fast
def tw4531878057858044644:=()
def tw9208933440620686008:=()
def tw5932896378194711120:=()
def tw12486599060434021836:=()
def tw4916296751528346078:=()
def tw13646452094203706498:=()
def tw13047991962224501750:=()
def tw14328843785408554766:=()
def tw3295007796972463557:=()
def tw13008926504529687377:=()
def tw18368490472614402143:=()
def tw9619880730188006523:=()
def tw549068950398364145:=()
def tw11567651268742727429:=()
def tw8970512154395959679:=()
def tw3222172609395780124:=()
def tw3697355411035981653:=()
def tw1674231959573374304:=()
def tw15846808013817770678:=()
def tw4271151964452045509:=()
def tw17055653986989411490:=()
def tw2382335723489369141:=()
def tw12590889089126571826:=()
def tw5955339281888439581:=()
def tw9973920818795594258:=()
def tw6225892449543509464:=()
def tw18256142567525534733:=()
def tw6801449059528086889:=()
def tw1395048771641740900:=()
def tw6399560617903634191:=()
def tw10261006738333811529:=()
def tw13791586301422597251:=()
def tw3345230172953240212:=()
def tw5546610371473847323:=()
def tw16525019327709299696:=()
def tw7130538112526847124:=()
def tw12594298385654484092:=()
def tw16375251629168676223:=()
def tw9235673670626455462:=()
def tw16354783648956612998:=()
def tw17833246819634891815:=()
def tw13266890891352480729:=()
def tw6888077697644570151:=()
def tw11132941549694152922:=()
def tw14890873725455079442:=()
def tw10787934318114707191:=()
def tw12666274816977481406:=()
def tw1803348824489701766:=()
def tw16405526676515185102:=()
def tw11131326535979170724:=()
def tw1421510173312924213:=()
def tw13234970328803553129:=()
def tw6537108627534162804:=()
def tw8892297415502414634:=()
def tw3165687373241912564:=()
def tw11568944949200766761:=()
def tw17750327731333539324:=()
def tw12630914339087219610:=()
def tw8691513044655766965:=()
def tw17338670741206425129:=()
def tw17151944471194404282:=()
def tw1062776759870848240:=()
def tw505393128354298652:=()
def tw10173188401267640908:=()
def tw11325941726349742720:=()
def tw14506818861718868215:=()
def tw8785597064742763816:=()
def tw10403460949066465893:=()
def tw3606402632683093285:=()
def tw12757990595195515821:=()
def tw9563846136519489404:=()
def tw13666311115458394180:=()
def tw17927595930318969744:=()
def tw363142485817624986:=()
def tw4662806915420662663:=()
def tw9083684993342353558:=()
def tw11646362269974804416:=()
def tw5871790099144459530:=()
def tw13769055161026268170:=()
def tw11926045366576094968:=()
def tw13776839999145475770:=()
def tw6172894132354901052:=()
def tw13199631621424553615:=()
def tw4582972583274616248:=()
def tw8326214211497525911:=()
def tw7081120280556857525:=()
def tw10562330524003459339:=()
def tw6916392306678647893:=()
def tw1697211714340106350:=()
def tw3099582521791821655:=()
def tw16176329342718954488:=()
def tw4173903787916073587:=()
def tw15525654922598466071:=()
def tw2071272382349660446:=()
def tw15813304162330264427:=()
def tw14905036526895834112:=()
def tw4638041457251021163:=()
def tw9370702050052861656:=()
def tw6804437488942663091:=()
def tw13106616636637776405:=()
def tw9290451484245006270:=()
def tw4607940832740515986:=()
def tw14367558928962563485:=()
def tw16535795594109457694:=()
def tw13353506815286698566:=()
def tw10691492830737333531:=()
def tw5756684257317808648:=()
def tw15434846822020251984:=()
def tw887508475803888469:=()
def tw13529809796679933074:=()
def tw1741510375948412998:=()
def tw15561782546603782220:=()
def tw7616266960454498665:=()
def tw3640291913200780154:=()
def tw16936042157880960808:=()
def tw16321747877212449432:=()
def tw13234872209423905537:=()
def tw17090845833462613840:=()
def tw4426426767845633117:=()
def tw5692895077351503149:=()
def tw6444391332389006677:=()
def tw6444168238145155464:=()
def tw16746407433776709483:=()
def tw8232919818455338051:=()
def tw11622851425703039949:=()
def tw3515937838065609629:=()
def tw112422454454242688:=()
def tw16684908069760473736:=()
def tw18130443485364450813:=()
def tw18077445539356699821:=()
def tw14060752125574607813:=()
def tw5812581461463915715:=()
def tw2729199304936175381:=()
def tw7549664786621007168:=()
def tw1973463808577410511:=()
def tw5184017209657892490:=()
def tw12866456747479509090:=()
def tw13965908732545346267:=()
def tw4529835394614684052:=()
def tw15585332487890788754:=()
def tw117401073597195102:=()
def tw7889126004356861598:=()
def tw2800763302297312339:=()
def tw12286158996249578144:=()
def tw5077728324957402642:=()
def tw12069835934020933321:=()
def tw3374734101295001490:=()
def tw14976976339562868789:=()
def tw4040709705914410921:=()
def tw6376168393102327330:=()
def tw6914640145051170121:=()
def tw1464955301935427637:=()
def tw6993866464681362590:=()
def tw4218281411619183734:=()
def tw1360646647882880181:=()
def tw9582667134858492233:=()
def tw740490965961075672:=()
def tw5951009830391331271:=()
def tw4304594196540683093:=()
def tw5395637064600322817:=()
def tw12977133408710358690:=()
def tw16458548534310779794:=()
def tw4823318247005532124:=()
def tw11362023010308893613:=()
def tw385234518489654089:=()
def tw7032703418667537175:=()
def tw15235559540613974590:=()
def tw15334650586354588935:=()
def tw2228523877668730772:=()
def tw5095842613658831820:=()
def tw690249486979548078:=()
def tw5454316339589518025:=()
def tw5103786027590011476:=()
def tw15867291164229188222:=()
def tw9014901269292647635:=()
def tw7185507154213361297:=()
def tw18043013253450843691:=()
def tw12205923176668228283:=()
def tw11748598837079663020:=()
def tw17819301669256129277:=()
def tw8681034267864751318:=()
def tw11618801021512001587:=()
def tw200345815356894519:=()
def tw995557374255008125:=()
def tw12649449441841800952:=()
def tw10319772040173968531:=()
def tw3519896185323574596:=()
def tw17933066683939545846:=()
def tw7392327718569435686:=()
def tw13982996435558378372:=()
def tw3739765288541536506:=()
def tw331822606135877455:=()
def tw14989577266639609993:=()
def tw4710791947234226398:=()
def tw12960000661889545242:=()
def tw3403748417632444298:=()
def tw8100926294066469767:=()
def tw15127891198553632993:=()
def tw241787608653341996:=()
def tw7605586474828478177:=()
def tw14993311551907970924:=()
def tw9638906883160931746:=()
def tw8749418888128107139:=()
def tw8439704567375937775:=()
def tw14959320202398696156:=()
def tw5786950702797988529:=()
def tw14424099813588366544:=()
def tw5983927815866343125:=()
def tw8001621358338698417:=()
def tw4318425462252344536:=()
def tw16622993654096425711:=()
def tw14726514407458706018:=()
def tw17025410678277003741:=()
def tw9811846733307051533:=()
def tw2349658190425843133:=()
def tw16775927452769170987:=()
def tw4085351581920583299:=()
def tw16400634560524633438:=()
def tw8687989364805601381:=()
def tw5538822604496735548:=()
def tw14268937768724751087:=()
end PySem.W.Fast
set_option maxRecDepth 100000 in
set_option maxHeartbeats 0 in
theorem PySem.Challenge.cw_relaid_k69_desk_deeds_holds : PySem.Challenge.rw_relaid_k69_desk_deeds.Holds := by
  w_on; o_law; k_head; (case hw => w_witness2)
  k_fill
  refine R69.walk (l := PySem.Challenge.rw_relaid_k69_desk_deeds) rfl rfl (fun w h Y => PySem.W.kIn_of Y) ?F
  case F =>
    intro w mg fa h KX G hmg;refine' R69.all_mk KX G hmg ?a_L ?a_D ?a_B ?d0 ?d1 ?d2 ?d3 ?d4 ?d5 ?d6 ?d7 ?d8 ?d9 ?d10 ?d11 ?d12 ?d13 ?d14 ?d15 ?d16 ?d17 ?d18 ?d19 ?d20 ?d21 ?d22 ?d23 ?d24 ?d25 ?d26 ?d27 ?d28 ?d29 ?d30 ?d31 ?d32 ?me_LI ?lT ?me_DI ?me_DO ?me_DU ?me_DF ?me_DX ?me_BI ?pg_L ?mk_L ?n_L_lengths ?n_L_order ?n_L_turned ?n_L_starts ?n_L_laid ?n_L_size ?pg_D ?mk_D ?n_D_lines ?n_D_chart ?z_len ?z_min ?z_sum ?z_sorted ?z_list ?z_range ?z_tuple ?z_isinstance ?z_int ?z_bool ?z_all ?z_enumerate ?z_str ?z_ValueError ?v_MOST_PIECES ?v_MOST_FIGURES_texts ?v_MOST_FIGURES_rows ?aOutside ?xOutside ?aLE ?sget ?stk ?oga ?ono ?ocl ?omo ?omb ?ohd ?oxm ?okk ?osa ?oat ?oov ?oex
    case a_L | a_D | a_B => (show _ = _; k_is)
    case d0 | d1 | d2 | d3 | d4 | d5 | d6 | d7 | d8 | d9 | d10 | d11 | d12 | d13 | d14 | d15 | d16 | d17 | d18 | d19 | d20 | d21 | d22 | d23 | d24 | d25 | d26 | d27 | d28 | d29 | d30 | d31 | d32 => (refine ⟨?_, ?_, ?_, ?_⟩; k_is; k_is; k_is; k_is)
    case me_LI => (refine ⟨?_, ?_, ?_, ?_, ?_⟩; k_is; k_is; k_is; k_is; k_is)
    case lT => k_is
    case me_DI | me_DO | me_DU | me_DF | me_DX | me_BI => (refine ⟨?_, ?_, ?_, ?_, ?_⟩; k_is; k_is; k_is; k_is; k_is)
    case pg_L => (refine ⟨?_, ?_, ?_, ?_⟩; k_is; k_is; k_is; k_is)
    case mk_L => (refine ⟨?_, ?_⟩; k_is; k_is)
    case n_L_lengths | n_L_order | n_L_turned | n_L_starts | n_L_laid | n_L_size => (show _ = _; k_is)
    case pg_D => (refine ⟨?_, ?_, ?_, ?_⟩; k_is; k_is; k_is; k_is)
    case mk_D => (refine ⟨?_, ?_⟩; k_is; k_is)
    case n_D_lines | n_D_chart | z_len | z_min | z_sum | z_sorted | z_list | z_range | z_tuple | z_isinstance | z_int | z_bool | z_all | z_enumerate | z_str | z_ValueError => (show _ = _; k_is)
    case v_MOST_PIECES | v_MOST_FIGURES_texts | v_MOST_FIGURES_rows | aOutside => k_is
    case xOutside => k_exc
    case aLE | sget | stk | oga | ono | ocl | omo | omb | ohd => k_is
    case oxm => kts_exm
    case okk => kit_is
    case osa | oat => k_is
    case oov | oex => kernel_rfl
#print axioms PySem.Challenge.cw_relaid_k69_desk_deeds_holds
