import PyProof.Rows.All
import Wide.All
import OpenK.AllK
import Wide.FinOn
import Lean
import PyProof.EqAt
import PyProof.EqKinds
import PyProof.TupleCall
import KE.KSortKey
import KE.KLam
import KE.KNestM
import PySem.Challenge.RW_relaid_k49_lines_repeated
open PySem.Heap (get?_push_of_some get?_push_size lt_size)
open PySem.W (callWith_K codeIn emptyDict excIn exmOne findIn fnOf handedIn hasDictIn hideAll instObj isFn keepIn kia_one kitOne lookIn makesIn methodObj mg_none_of mg_of mroIn nsIn of_hideAll plainGet plainOver specialIn takerIn takesIn)
open List (all_eq_true any_cons append_nil ext_getElem ext_getElem? find?_cons flatten_cons foldl getD_eq_getElem?_getD getElem?_append_left getElem?_append_right getElem?_eq_getElem getElem?_eq_none getElem?_map getElem?_range getElem_map getElem_mem getElem_range length_append length_cons length_drop length_map length_nil length_range length_take map_append map_cons map_map map_nil mem_append mem_append_right mem_cons mem_cons_of_mem mem_cons_self mem_map mem_of_getElem? mem_range mem_singleton nodup_cons not_mem_nil pairwise_cons pairwise_map range_succ replicate_succ size_toArray sum_cons take_length take_of_length_le)
open Array (length_toList)
open PyProof.Rows (boot_abs boot_int boot_isinstance boot_list boot_max boot_min boot_sum boot_tuple callWith_type1)
open Option (isSome_iff_exists)
open PySem (boot_len mem_of_lookup)
set_option Elab.async false
set_option linter.all false
set_option maxRecDepth 100000
set_option maxHeartbeats 4000000
namespace L2
open PySem PySem.Spec PyProof.Rows
abbrev Key:=Sum Int Str
def keyIs:Key->Value->Bool
 | .inl k,v=>Value.isInt k v
 | .inr x,v=>Value.isStrOf x v
def keyH (w:World):Key->Int
 | .inl k=>hashInt k
 | .inr x=>hashStr w x
theorem Jt:∀ {k:Key} {v:Value},keyIs k v=true->(∃ i t,k=Sum.inl i/\v=Value.int i t)\/(∃ x t,k=Sum.inr x/\v=Value.str x t)
 | .inl i,v,h=>by
  obtain ⟨t,e⟩:=Value.isInt_shape (k:=i) (v:=v) h;exact .inl ⟨i,t,rfl,e⟩
 | .inr x,v,h=>by
  obtain ⟨t,e⟩:=Value.isStrOf_shape (x:=x) (v:=v) h;exact .inr ⟨x,t,rfl,e⟩
theorem keyIs_int (i:Int) (t:Tok):keyIs (.inl i) (.int i t)=true:=by simp [keyIs,Value.isInt]
theorem keyIs_str (x:Str) (t:Tok):keyIs (.inr x) (.str x t)=true:=by simp [keyIs,Value.isStrOf]
theorem key_ll (a b:Int):decide ((Sum.inl a:Key)=Sum.inl b)=(a == b):=by
 by_cases e:a=b
 ·subst e;simp
 ·have h:¬ (Sum.inl a:Key)=Sum.inl b:=fun q=>e (Sum.inl.inj q);rw [decide_eq_false h];exact (beq_eq_false_iff_ne.mpr e).symm
theorem key_rr (a b:Str):decide ((Sum.inr a:Key)=Sum.inr b)=decide (a=b):=by
 by_cases e:a=b
 ·subst e;simp
 ·have h:¬ (Sum.inr a:Key)=Sum.inr b:=fun q=>e (Sum.inr.inj q);rw [decide_eq_false h,decide_eq_false e]
theorem key_lr (a:Int) (b:Str):decide ((Sum.inl a:Key)=Sum.inr b)=false:=decide_eq_false (fun q=>nomatch q)
theorem key_rl (a:Str) (b:Int):decide ((Sum.inr a:Key)=Sum.inl b)=false:=decide_eq_false (fun q=>nomatch q)
def Jy (prog:Program) (w:World):PySem.KeyKind prog w Key where
 is:=keyIs
 hash:=keyH w
 inj:=fun v a b ha hb=>by
  rcases Jt ha with ⟨i,t,rfl,rfl⟩ | ⟨x,t,rfl,rfl⟩
  ·rcases Jt hb with ⟨j,u,rfl,e⟩ | ⟨y,u,rfl,e⟩
   ·injection e with e1 _;rw [e1]
   ·exact nomatch e
  ·rcases Jt hb with ⟨j,u,rfl,e⟩ | ⟨y,u,rfl,e⟩
   ·exact nomatch e
   ·injection e with e1 _;rw [e1]
 byValue:=fun k v h=>by
  rcases Jt h with ⟨i,t,rfl,rfl⟩ | ⟨x,t,rfl,rfl⟩ <;> rfl
 pyHash:=fun hv h=>by
  rcases Jt hv with ⟨i,t,rfl,rfl⟩ | ⟨x,t,rfl,rfl⟩
  ·exact wpAny_pyHash_int h
  ·exact wpAny_pyHash_str h
 eqBool:=fun hu hv h=>by
  rcases Jt hu with ⟨i,t,rfl,rfl⟩ | ⟨x,t,rfl,rfl⟩
  ·rcases Jt hv with ⟨j,u,rfl,rfl⟩ | ⟨y,u,rfl,rfl⟩
   ·rw [key_ll] at h;exact wpAny_eqBool_int h
   ·rw [key_lr] at h;exact SeqAt.EqAt.int_str i t y u _ _ _ _ h
  ·rcases Jt hv with ⟨j,u,rfl,rfl⟩ | ⟨y,u,rfl,rfl⟩
   ·rw [key_rl] at h;exact SeqAt.EqAt.str_int x t j u _ _ _ _ h
   ·rw [key_rr] at h;exact wpAny_eqBool_str h
 «strs»:=fun k x t v h=>by
  rcases Jt h with ⟨i,u,rfl,e⟩ | ⟨y,u,rfl,e⟩
  ·exact nomatch e
  ·injection e with e1 _
   subst e1;cases v <;> rfl
theorem mixKind_int (prog:Program) (w:World) (i:Int) (t:Tok):(Jy prog w).is (.inl i) (.int i t)=true:=keyIs_int i t
theorem mixKind_str (prog:Program) (w:World) (x:Str) (t:Tok):(Jy prog w).is (.inr x) (.str x t)=true:=keyIs_str x t
end L2
namespace L2
open PySem PySem.Spec PyProof.Rows
inductive V where
 | non | bl (b:Bool) | int (i:Int) | str (x:Str) | byt (b:Array UInt8) | flt (b:UInt64) | ref (a:Addr) | ty (n:String)
 deriving DecidableEq
def RelV:V->Value->Prop
 | .non,u=>u=Value.none
 | .bl b,u=>u=Value.bool b
 | .int i,u=>∃ t,u=Value.int i t
 | .str x,u=>∃ t,u=Value.str x t
 | .byt b,u=>∃ t,u=Value.bytes b t
 | .flt b,u=>∃ t,u=Value.float b t
 | .ref a,u=>u=Value.ref a
 | .ty n,u=>u=Value.type n
abbrev Vals:List V->List Value->Prop:=Paired RelV
theorem Vals.length {xs:List V} {us:List Value} (r:Vals xs us):xs.length=us.length:=Paired.length r
theorem Vals.get:∀ {xs:List V} {us:List Value} {i:Nat} {x:V},Vals xs us->xs[i]?=some x->∃ u,us[i]?=some u/\RelV x u
 | _,_,_,_,.nil,e=>by simp at e
 | _,_,0,_,.cons r _,e=>by simp at e;subst e;exact ⟨_,rfl,r⟩
 | _,_,i + 1,x,.cons _ t,e=>by
  obtain ⟨u,h1,h2⟩:=Vals.get (i:=i) (x:=x) t (by simpa using e);exact ⟨u,by simpa using h1,h2⟩
theorem Vals.set {x:V} {u:Value} (r:RelV x u):∀ {xs:List V} {us:List Value} (i:Nat),Vals xs us->Vals (xs.set i x) (us.set i u)
 | _,_,_,.nil=>.nil
 | _,_,0,.cons _ t=>.cons r t
 | _,_,i + 1,.cons q t=>.cons q (Vals.set r i t)
theorem Vals.append:∀ {xs ys:List V} {us ws:List Value},Vals xs us->Vals ys ws->Vals (xs ++ ys) (us ++ ws)
 | _,_,_,_,.nil,s=>s
 | _,_,_,_,.cons r t,s=>.cons r (Vals.append t s)
theorem Vals.take:∀ {xs:List V} {us:List Value} (n:Nat),Vals xs us->Vals (xs.take n) (us.take n)
 | _,_,0,_=>.nil
 | _,_,_ + 1,.nil=>.nil
 | _,_,n + 1,.cons r t=>.cons r (Vals.take n t)
theorem Vals.drop:∀ {xs:List V} {us:List Value} (n:Nat),Vals xs us->Vals (xs.drop n) (us.drop n)
 | _,_,0,r=>r
 | _,_,_ + 1,.nil=>.nil
 | _,_,n + 1,.cons _ t=>Vals.drop n t
def RelO:Option V->Option Value->Prop
 | some v,some u=>RelV v u
 | none,none=>True
 | _,_=>False
def KV {κ:Type}:List (κ × V)->List (κ × Value)->Prop:=Paired fun (p:κ × V) (q:κ × Value)=>p.1=q.1/\RelV p.2 q.2
def kV:Key->V
 | .inl i=>.int i
 | .inr x=>.str x
inductive HO where
  | lst (xs:List V)
  | tup (xs:List V)
  | dK (kvs:List (Key × V)) | dT (kvs:List (List Key × V))
  | set (S:Int->Bool) (n:Nat)
  | ins (C dx:Addr) (fs:List (Str × V))
  | own (x:Addr)
  | xd (fs:List (Str × V))
  | met (f x:Addr)
  | rng (lo hi:Int)
  | frz (o:Obj) (u:HO)
  | tbl (ps:Array Value)
  | ext (φ:Heap->Prop)
abbrev Hp:=Addr->Option HO
def upd (H:Hp) (a:Addr) (o:HO):Hp:=fun b=>if b=a then some o else H b
theorem J1 {H:Hp} {a:Addr} {o:HO}:upd H a o a=some o:=by unfold upd;rw [if_pos rfl]
theorem Ja {H:Hp} {a b:Addr} {o:HO} (h:b≠a):upd H a o b=H b:=by unfold upd;rw [if_neg h]
theorem upd_upd {H:Hp} {a:Addr} {o u:HO}:upd (upd H a o) a u=upd H a u:=by
 funext b;unfold upd;split <;> rfl
theorem ne_of {H:Hp} {a b:Addr} {o u:HO} (h:H a=some o) (h':H b=some u) (d:o≠u):a≠b:=by
 intro e;subst e;rw [h] at h';exact d (Option.some.inj h')
theorem J6 {H:Hp} {a b:Addr} {o:HO} (h:H a=some o) (h':H b=none):a≠b:=by
 intro e;subst e;rw [h] at h';cases h'
section
variable (P:Program) (w:World)
def TupX (h:Heap) (a:Addr) (items:Array Value):Prop:=∃ o,h.get? a=some o/\(o.cls=.type "tuple"/\o.dict=none)/\∃ n,o.data=.seq items n
theorem TupX.tup {h:Heap} {a:Addr} {items:Array Value} (x:TupX h a items):IsTup h a items:=by obtain ⟨o,e,c,r⟩:=x;exact ⟨o,e,c.1,r⟩
theorem TupX.lt {h:Heap} {a:Addr} {items:Array Value} (x:TupX h a items):a < h.objs.size:=by obtain ⟨_,e,_⟩:=x;exact lt_size e
theorem TupX.new (h:Heap) (items:Array Value):TupX (h.push { cls:=.type "tuple",data:=.seq items }) h.objs.size items:=⟨_,get?_push_size _ rfl,⟨rfl,rfl⟩,_,rfl⟩
def ObjOk (H:Hp) (h:Heap) (a:Addr):HO->Prop
 | .lst xs=>xs.length<=sizeLine/\∃ (its:List Value) (n:Nat),Vals xs its/\h.get? a=some { cls:=.type "list",data:=.seq its.toArray n }
 | .tup xs=>xs.length<=sizeLine/\∃ its:List Value,Vals xs its/\TupX h a its.toArray
 | .dK kvs=>kvs.length<=sizeLine/\(a == sysModules)=false/\∃ vs,KV kvs vs/\h.DictOf (Jy P w) a vs
 | .dT kvs=>kvs.length<=sizeLine/\(a == sysModules)=false/\∃ xs:List (List Key × Addr × Value),
   Paired (fun (p:List Key × V) (q:List Key × Addr × Value)=>p.1=q.1/\H q.2.1=some (.tup (p.1.map kV))/\RelV p.2 q.2.2) kvs xs/\
   ∃ o es ep,h.get? a=some o/\o.ExactDict/\o.data=.dict es ep/\es.toList=xs.map (entryOfKey (tupleKind (Jy P w)))/\(xs.map (·.1)).Nodup
 | .set S n=>h.SetOf (intKind P w) a S n
 | .ins C dx fs=>H dx=some (.own a)/\fs.length<=1000/\dx≠a/\h.get? a=some (instObj C dx)/\
   ∃ mA,h.Ns1 dx mA/\(∀ f,RelO (fs.lookup f) (mA f))/\PySem.Within mA (fs.map (·.1))
 | .own _=>∃ o,h.get? a=some o
 | .xd fs=>∃ mA,h.Ns1 a mA/\∀ f,RelO (fs.lookup f) (mA f)
 | .rng lo hi=>∃ t u v,h.get? a=some { cls:=.type "range",data:=.fields #[.int lo t,.int hi u,.int 1 v] }
 | .frz o u=>h.get? a=some o/\ObjOk H h a u
 | .tbl ps=>h.get? a=some { cls:=.none,data:=.fields ps }
 | .met f x=>h.get? a=some (methodObj (.ref f) (.ref x))
 | .ext φ=>φ h/\(∃ o,h.get? a=some o)/\∀ h1 h2:Heap,φ h1->(∀ o,h1.get? a=some o->h2.get? a=some o)->φ h2
def HOk (H:Hp) (h:Heap):Prop:=∀ a o,H a=some o->ObjOk P w H h a o
end
section
variable {P:Program} {w:World} {H H':Hp} {h h':Heap} {a:Addr} {o:HO}
theorem ObjOk.lt (x:ObjOk P w H h a o):a < h.objs.size:=by
 cases o with
 | lst xs=>obtain ⟨_,_,_,_,e⟩:=x;exact lt_size e
 | tup xs=>obtain ⟨_,_,_,p⟩:=x;exact p.lt
 | dK kvs=>obtain ⟨_,_,_,_,o,_,_,e,_⟩:=x;exact lt_size e
 | dT kvs=>obtain ⟨_,_,_,_,o,_,_,e,_⟩:=x;exact lt_size e
 | set S n=>obtain ⟨o,_,_,_,e,_⟩:=x;exact lt_size e
 | ins C dx fs=>obtain ⟨_,_,_,e,_⟩:=x;exact lt_size e
 | own y=>obtain ⟨_,e⟩:=x;exact lt_size e
 | xd fs=>obtain ⟨_,⟨_,_,_,e,_⟩,_⟩:=x;exact lt_size e
 | rng lo hi=>obtain ⟨_,_,_,e⟩:=x;exact lt_size e
 | frz ob u=>obtain ⟨e,_⟩:=x;exact lt_size e
 | tbl ps=>exact lt_size (show h.get? a=some _ from x)
 | met f y=>exact lt_size (show h.get? a=some _ from x)
 | ext φ=>obtain ⟨_,⟨_,e⟩,_⟩:=x;exact lt_size e
theorem Paired.mapP {α β:Type} {F G:α->β->Prop}:∀ {l₁:List α} {l₂:List β},Paired F l₁ l₂->(∀ a b,F a b->G a b)->Paired G l₁ l₂
 | _,_,.nil,_=>.nil
 | _,_,.cons r t,f=>.cons (f _ _ r) (Paired.mapP t f)
theorem ObjOk.stay (x:ObjOk P w H h a o) (k:∀ b u,(b=a\/H b=some (.own a))->h.get? b=some u->h'.get? b=some u)
  (ho:∀ b,H b=some (.own a)->H' b=some (.own a)) (ht:∀ b xs,H b=some (.tup xs)->H' b=some (.tup xs)):ObjOk P w H' h' a o:=by
 induction o with
 | lst xs=>obtain ⟨z,its,n,r,e⟩:=x;exact ⟨z,its,n,r,k _ _ (.inl rfl) e⟩
 | tup xs=>obtain ⟨z,its,r,ob,e,c⟩:=x;exact ⟨z,its,r,ob,k _ _ (.inl rfl) e,c⟩
 | dK kvs=>obtain ⟨z,y,vs,r,ob,es,ep,e,c⟩:=x;exact ⟨z,y,vs,r,ob,es,ep,k _ _ (.inl rfl) e,c⟩
 | dT kvs =>
  obtain ⟨z,y,xs,r,ob,es,ep,e,c⟩:=x;exact ⟨z,y,xs,Paired.mapP r fun p q z=>⟨z.1,ht _ _ z.2.1,z.2.2⟩,ob,es,ep,k _ _ (.inl rfl) e,c⟩
 | set S n=>obtain ⟨ob,es,ep,t,e,c⟩:=x;exact ⟨ob,es,ep,t,k _ _ (.inl rfl) e,c⟩
 | ins C dx fs =>
  obtain ⟨d,z,ne,e,mA,⟨od,es,ep,e2,c⟩,r⟩:=x;exact ⟨ho _ d,z,ne,k _ _ (.inl rfl) e,mA,⟨od,es,ep,k _ _ (.inr d) e2,c⟩,r⟩
 | own y=>obtain ⟨ob,e⟩:=x;exact ⟨ob,k _ _ (.inl rfl) e⟩
 | xd fs=>obtain ⟨mA,⟨od,es,ep,e,c⟩,r⟩:=x;exact ⟨mA,⟨od,es,ep,k _ _ (.inl rfl) e,c⟩,r⟩
 | rng lo hi=>obtain ⟨t,u,v,e⟩:=x;exact ⟨t,u,v,k _ _ (.inl rfl) e⟩
 | frz ob u ih=>obtain ⟨e,q⟩:=x;exact ⟨k _ _ (.inl rfl) e,ih q⟩
 | tbl ps =>
  have e:h.get? a=some { cls:=.none,data:=.fields ps }:=x;show h'.get? a=some { cls:=.none,data:=.fields ps };exact k a _ (.inl rfl) e
 | met f y =>
  have e:h.get? a=some (methodObj (.ref f) (.ref y)):=x;show h'.get? a=some (methodObj (.ref f) (.ref y));exact k a _ (.inl rfl) e
 | ext φ=>obtain ⟨p,⟨o,e⟩,st⟩:=x;exact ⟨st _ _ p fun o q=>k _ _ (.inl rfl) q,⟨o,k _ _ (.inl rfl) e⟩,st⟩
theorem HOk.lt (x:HOk P w H h) (e:H a=some o):a < h.objs.size:=(x a o e).lt
theorem HOk.fresh (x:HOk P w H h) (e:h.objs.size<=a):H a=none:=by
 cases q:H a with
 | none=>rfl
 | some u=>exact absurd (Nat.lt_of_lt_of_le (x.lt q) e) (Nat.lt_irrefl _)
theorem HOk.kept (x:HOk P w H h) (k:∀ b u,h.get? b=some u->h'.get? b=some u):HOk P w H h':=fun a o e =>
 (x a o e).stay (fun b u _ q=>k b u q) (fun _ q=>q) fun _ _ q=>q
theorem HOk.laid (x:HOk P w H h) (k:∀ b u,h.get? b=some u->h'.get? b=some u) (hp:h.objs.size<=a) (new:ObjOk P w (upd H a o) h' a o):HOk P w (upd H a o) h':=fun b u e=>by
 have hn:=x.fresh hp;by_cases hb:b=a
 ·subst hb;rw [J1] at e;cases e;exact new
 ·rw [Ja hb] at e;exact (x b u e).stay (fun c v _ q=>k c v q) (fun c q=>by rw [Ja (J6 q hn)];exact q) fun c xs q=>by rw [Ja (J6 q hn)];exact q
end
def Rd (H:Hp) (a:Addr) (u:HO):Prop:=H a=some u\/∃ o,H a=some (.frz o u)
theorem Rd.ok {P:Program} {w:World} {H:Hp} {h:Heap} {a:Addr} {u:HO} (r:Rd H a u) (x:HOk P w H h):ObjOk P w H h a u:=by
 rcases r with r | ⟨o,r⟩
 ·exact x a u r
 ·obtain ⟨_,q⟩:=x a _ r;exact q
def Mut:Option HO->Prop
 | some (.lst _)=>True
 | some (.dK _)=>True
 | some (.dT _)=>True
 | some (.set _ _)=>True
 | some (.ins _ _ _)=>True
 | some (.ext _)=>True
 | _=>False
section
variable {P:Program} {w:World} {H:Hp} {h h':Heap} {x e:Addr} {o':HO}
theorem HOk.write (ok:HOk P w H h) (mu:Mut (H x)) (he:e=x\/H e=some (.own x)) (k:∀ b u,b≠e->h.get? b=some u->h'.get? b=some u) (heo:∃ u,h'.get? e=some u)
  (new:ObjOk P w (upd H x o') h' x o'):HOk P w (upd H x o') h':=fun b u q=>by
 have nown:∀ c y,H c=some (.own y)->c≠x:=fun c y r z=>by subst z;rw [r] at mu;exact mu
 have ntup:∀ c xs,H c=some (.tup xs)->c≠x:=fun c xs r z=>by subst z;rw [r] at mu;exact mu
 by_cases hb:b=x
 ·subst hb;rw [J1] at q;cases q;exact new
 ·rw [Ja hb] at q;by_cases hbe:b=e
  ·have q':H b=some (.own x):=by
    rcases he with z | z
    ·exact absurd (hbe.trans z) hb
    ·rw [hbe];exact z
   rw [q] at q';cases q';obtain ⟨v,hv⟩:=heo;exact ⟨v,by rw [hbe];exact hv⟩
  ·refine (ok b u q).stay (fun c v hc r=>k c v ?_ r) (fun c r=>by rw [Ja (nown c b r)];exact r) fun c xs r=>by rw [Ja (ntup c xs r)];exact r
   rcases hc with rfl | hc
   ·exact hbe
   ·rintro rfl;rcases he with z | z
    ·exact nown c b hc z
    ·rw [hc] at z;cases z;exact hb rfl
end
structure Un (fs ex:List Addr) (H H':Hp) (h h':Heap):Prop where
 keep:∀ b o,h.get? b=some o->H b=none->b ∉ fs->b ∉ ex->h'.get? b=some o
 slot:∀ b o,h.get? b=some o->H b=none->b∈fs->b ∉ ex->∃ sl,h'.get? b=some { o with slots:=sl }
 free:∀ b o,h.get? b=some o->H b=none->b ∉ ex->H' b=none
 there:∀ b o,h.get? b=some o->b ∉ ex->∃ o',h'.get? b=some o'
 tups:∀ b xs,H b=some (.tup xs)->H' b=some (.tup xs)
 frzs:∀ b o u,H b=some (.frz o u)->H' b=some (.frz o u)
 tbls:∀ b ps,H b=some (.tbl ps)->∃ more,H' b=some (.tbl (ps ++ more))
section
variable {fs fs' ex ex':List Addr} {H H1 H2:Hp} {h h1 h2 h':Heap} {a x e:Addr} {o:HO}
theorem Un.any (u:Un fs ex H H1 h h1) {b:Addr} {ob:Obj} (q:h.get? b=some ob) (n:H b=none) (hx:b ∉ ex):∃ sl,h1.get? b=some { ob with slots:=sl }:=by
 by_cases hb:b∈fs
 ·exact u.slot b ob q n hb hx
 ·exact ⟨ob.slots,u.keep b ob q n hb hx⟩
theorem Un.kept (k:∀ b u,h.get? b=some u->h'.get? b=some u):Un fs ex H H h h' :=
 ⟨fun b ob q _ _ _=>k b ob q,fun b ob q _ _ _=>⟨ob.slots,k b ob q⟩,fun _ _ _ n _=>n,fun b ob q _=>⟨ob,k b ob q⟩,fun _ _ q=>q,fun _ _ _ q=>q,fun _ ps q=>⟨#[],by rw [q];simp⟩⟩
theorem Un.refl:Un fs ex H H h h:=Un.kept fun _ _ q=>q
theorem Un.laid (k:∀ b u,h.get? b=some u->h'.get? b=some u) (hp:h.objs.size<=a) (hn:H a=none):Un fs ex H (upd H a o) h h' where
 keep:=fun b u q _ _ _=>k b u q
 slot:=fun b u q _ _ _=>⟨u.slots,k b u q⟩
 free:=fun b u q n _=>by rw [Ja (Nat.ne_of_lt (Nat.lt_of_lt_of_le (lt_size q) hp))];exact n
 there:=fun b u q _=>⟨u,k b u q⟩
 tups:=fun b xs q=>by rw [Ja (J6 q hn)];exact q
 frzs:=fun b u xs q=>by rw [Ja (J6 q hn)];exact q
 tbls:=fun b ps q=>⟨#[],by rw [Ja (J6 q hn),q];simp⟩
theorem Un.write (mu:Mut (H x)) (he:e=x\/H e=some (.own x)) (k:∀ b u,b≠e->h.get? b=some u->h'.get? b=some u) (heo:∃ u,h'.get? e=some u):Un fs ex H (upd H x o) h h':=by
 have hx:∀ b,H b=none->b≠x:=fun b n z=>by subst z;rw [n] at mu;exact mu
 have hb:∀ b,H b=none->b≠e:=fun b n z=>by
  subst z;rcases he with r | r
  ·exact hx b n r
  ·rw [n] at r;cases r
 have hm:∀ b u,H b=some u->¬ Mut (some u)->b≠x:=fun b u q nm z=>by subst z;rw [q] at mu;exact nm mu
 refine ⟨fun b u q n _ _=>k b u (hb b n) q,fun b u q n _ _=>⟨u.slots,k b u (hb b n) q⟩,fun b u q n _=>by rw [Ja (hx b n)];exact n,fun b u q _=>?_,
  fun b xs q=>by rw [Ja (hm b _ q fun z=>z)];exact q,fun b u xs q=>by rw [Ja (hm b _ q fun z=>z)];exact q,fun b ps q=>⟨#[],by rw [Ja (hm b _ q fun z=>z),q];simp⟩⟩
 by_cases hbe:b=e
 ·subst hbe;exact heo
 ·exact ⟨u,k b u hbe q⟩
end
def trk (h:Heap) (H:Hp):List Addr:=(List.range h.objs.size).filter fun a=>(H a).isSome
def hidT (h:Heap) (H:Hp):Heap:=hideAll h (trk h H)
theorem hidT_size (h:Heap) (H:Hp):(hidT h H).objs.size=h.objs.size:=PySem.W.hideAll_size _ _
theorem J4m {h:Heap} {H:Hp} {b:Addr} {o:Obj} (e:h.get? b=some o) (n:H b=none):(hidT h H).get? b=some o :=
 PySem.W.hideAll_get _ e fun hm=>by
  have q:(H b).isSome=true:=(List.mem_filter.mp hm).2;rw [n] at q;simp at q
theorem of_hidT {h:Heap} {H:Hp} {b:Addr} {o:Obj} (e:(hidT h H).get? b=some o):h.get? b=some o/\H b=none:=by
 have e':h.get? b=some o:=of_hideAll (trk h H) e;refine ⟨e',?_⟩
 cases q:H b with
 | none=>rfl
 | some x =>
  have hm:b∈trk h H:=List.mem_filter.mpr ⟨mem_range.mpr (lt_size e'),by simp [q]⟩;have z:(hidT h H).get? b=none:=PySem.W.hideAll_none (trk h H) hm;rw [z] at e;cases e
end L2
namespace L2
open PySem PySem.Spec PyProof.Rows
structure Mod (K:PySem.W.Frag) (mg:Str->Option Value) (base:Heap):Prop where
 kin:K.In base
 glob:base.Ns mainGlobals mg
 blt:∃ mb,base.Ns builtinsNs mb/\∀ x:Str,x≠"__name__"->mb x=bootBuiltins x
 nolimit:base.NoLimit
structure Cx where
 prog:Program
 w:World
 K:PySem.W.Frag
 mg:Str->Option Value
 base:Heap
 A:Around
 N:List Str
 s₀:Shared
 H₀:Hp
 env:Env
 outer:List Env
 stack:List Env
 ex:List Addr
 fn:Str->Bool
 calm:Bool
 pn:List (Addr × Obj)
 xe:Value->Shared->Prop
def frs (l:List Env):List Addr:=l.filterMap (·.frame)
abbrev Cx.fs (X:Cx):List Addr:=frs X.outer
def Vis (sc:Scope) (x:Str):Prop:=sc.names.lookup x=some .local\/sc.names.lookup x=some .cell\/sc.names.lookup x=some .free
def Loc (sc:Scope) (x:Str):Prop:=sc.names.lookup x=some .local\/sc.names.lookup x=some .cell
def Look (env:Env) (h:Heap) (m:Str->Option Value) (x:Str) (u:Value):Prop :=
 (env.kindOf x=some .local/\m x=some u)\/((env.kindOf x=some .cell\/env.kindOf x=some .free)/\∃ c,env.cells.lookup x=some c/\h.IsCell c (some u))
structure Cx.Ok (X:Cx):Prop where
 mod:Mod X.K X.mg X.base
 kind:X.env.scope.kind=.function
 glob:X.env.globals=mainGlobals
 blt:X.env.builtins=builtinsNs
 above:X.s₀.heap.objs.size<=X.env.locals
 inj:∀ x y c,X.env.cells.lookup x=some c->X.env.cells.lookup y=some c->x=y
 has:∀ x,(X.env.kindOf x=some .cell\/X.env.kindOf x=some .free)->∃ c,X.env.cells.lookup x=some c
 cab:∀ x c,X.fn x=true->X.env.cells.lookup x=some c->X.s₀.heap.objs.size<=c
 hd:X.calm=true->X.A.handled=none
 frames:X.A.frames=some X.stack
 stk:X.stack=X.outer\/(X.stack=X.env :: X.outer/\X.env.frame=some X.env.locals)
 exf:∀ b∈X.ex,b≠X.env.locals/\∀ x c,X.env.cells.lookup x=some c->c≠b
 bs:∀ b o,X.base.get? b=some o->X.s₀.heap.get? b=some o/\X.H₀ b=none
 bsz:X.base.objs.size<=X.s₀.heap.objs.size
 noex:∀ b o,X.base.get? b=some o->b ∉ X.ex
 exfs:∀ b∈X.ex,b ∉ X.fs
 funs:X.s₀.heap.FunFrames X.base X.outer
 frf:∀ b∈X.fs,X.H₀ b=none
structure Inv (X:Cx) (pins:List (Addr × Obj)) (σ:List (Option V)) (H:Hp) (s:Shared):Prop where
 ok:X.Ok
 os:s.os=X.s₀.os
 bare:AllBare s.gens
 base:Un X.fs X.ex X.H₀ H X.s₀.heap s.heap
 loc:∃ m,s.heap.Ns X.env.locals m/\∀ (i:Nat) (x:Str) (v:V),X.N[i]?=some x->σ[i]?=some (some v)->Vis X.env.scope x->∃ u,RelV v u/\Look X.env s.heap m x u
 cell:∀ x c,X.env.cells.lookup x=some c->∃ v,s.heap.IsCell c v
 free:H X.env.locals=none
 freeC:∀ x c,X.env.cells.lookup x=some c->H c=none
 pin:∀ p∈X.pn ++ pins,s.heap.get? p.1=some p.2/\H p.1=none/\p.1≠X.env.locals/\p.1 ∉ X.fs/\∀ v,p.2.data≠.cell v
 hok:HOk X.prog X.w H s.heap
 len:σ.length=X.N.length
section
variable {X:Cx} {pins:List (Addr × Obj)} {σ:List (Option V)} {H H':Hp} {s:Shared} {h':Heap}
theorem Cx.Ok.nofr (ok:X.Ok) {b:Addr} {o:Obj} (e:X.base.get? b=some o):b ∉ X.fs:=fun hb=>by
 have:=(ok.funs.mem hb).1;rw [e] at this;cases this
theorem Inv.bs (I:Inv X pins σ H s):∀ b o,X.base.get? b=some o->s.heap.get? b=some o/\H b=none:=fun b o e =>
 ⟨I.base.keep b o (I.ok.bs b o e).1 (I.ok.bs b o e).2 (I.ok.nofr e) (I.ok.noex b o e),I.base.free b o (I.ok.bs b o e).1 (I.ok.bs b o e).2 (I.ok.noex b o e)⟩
theorem Inv.bk (I:Inv X pins σ H s):∀ b o,X.base.get? b=some o->s.heap.get? b=some o:=fun b o e=>(I.bs b o e).1
theorem Inv.mod (I:Inv X pins σ H s):Mod X.K X.mg X.base:=I.ok.mod
theorem Inv.kIn (I:Inv X pins σ H s):X.K.In s.heap:=I.ok.mod.kin.keeps I.bk
theorem Inv.fr (I:Inv X pins σ H s):∃ m,Fr X.base X.env.locals s.heap m :=
 let ⟨m,hn,_⟩:=I.loc
 ⟨m,hn,I.bk,Nat.le_trans I.ok.bsz I.ok.above⟩
theorem Inv.lt (I:Inv X pins σ H s):X.env.locals < s.heap.objs.size:=by obtain ⟨_,hn,_⟩:=I.loc;exact hn.lt
theorem Inv.sz (I:Inv X pins σ H s):X.s₀.heap.objs.size<=s.heap.objs.size:=Nat.le_trans I.ok.above (Nat.le_of_lt I.lt)
theorem Inv.nofs (I:Inv X pins σ H s) {a:Addr} (h:s.heap.objs.size<=a):a ∉ X.fs:=fun hb=>by
 obtain ⟨_,o,ho,_⟩:=I.ok.funs.mem hb;exact absurd (Nat.lt_of_lt_of_le (lt_size ho) (Nat.le_trans I.sz h)) (Nat.lt_irrefl _)
theorem Inv.cne (I:Inv X pins σ H s):∀ x c,X.env.cells.lookup x=some c->c≠X.env.locals:=fun x c e z=>by
 obtain ⟨v,o,ho,hd⟩:=I.cell x c e;obtain ⟨m,⟨o',es,ep,ho',hd',_⟩,_⟩:=I.loc;rw [z,ho'] at ho;cases ho;rw [hd'] at hd;cases hd
theorem Inv.funs (I:Inv X pins σ H s):s.heap.FunFrames X.base X.outer:=by
 have all:∀ (l:List Env),(∀ b∈frs l,b∈X.fs)->X.s₀.heap.FunFrames X.base l->s.heap.FunFrames X.base l:=by
  intro l
  induction l with
  | nil=>intro _ _;trivial
  | cons env r ih =>
   intro hs hl;obtain ⟨hk,⟨L,o,hf,hn,ho,hd⟩,hr⟩:=hl;have hL:L∈X.fs:=hs L (by unfold frs;rw [List.filterMap_cons,hf];exact mem_cons_self);obtain ⟨sl,e⟩:=I.base.slot L o ho (I.ok.frf L hL) hL fun z=>I.ok.exfs L z hL;exact ⟨hk,⟨L,_,hf,hn,e,hd⟩,ih (fun b hb=>hs b (by unfold frs;rw [List.filterMap_cons,hf];exact mem_cons_of_mem _ hb)) hr⟩
 exact all X.outer (fun _ hb=>hb) I.ok.funs
theorem Inv.stack (I:Inv X pins σ H s):s.heap.FunFrames X.base X.stack:=by
 rcases I.ok.stk with e | ⟨e,hf⟩
 ·rw [e];exact I.funs
 ·rw [e];obtain ⟨m,hn,_⟩:=I.loc;refine .cons (by rw [I.ok.kind];decide) hf hn ?_ I.funs;exact Heap.get?_none_of_le (Nat.le_trans I.ok.bsz I.ok.above)
theorem Inv.stkSub (I:Inv X pins σ H s):∀ b∈frs X.stack,b∈X.env.locals :: X.fs:=fun b hb=>by
 rcases I.ok.stk with e | ⟨e,hf⟩
 ·rw [e] at hb;exact mem_cons_of_mem _ hb
 ·rw [e] at hb;unfold frs at hb;rw [List.filterMap_cons,hf] at hb;exact hb
theorem Inv.stkFree (I:Inv X pins σ H s):∀ b∈frs X.stack,H b=none:=fun b hb=>by
 rcases mem_cons.mp (I.stkSub b hb) with e | hb
 ·rw [e];exact I.free
 ·obtain ⟨_,o,ho,_⟩:=I.ok.funs.mem hb;exact I.base.free b o ho (I.ok.frf b hb) fun z=>I.ok.exfs b z hb
theorem Inv.step {g':Array GenState} {t':Nat} {d':Drawn} {ch:List Addr} (I:Inv X pins σ H s)
  (hch:∀ b∈ch,(b∈X.ex\/X.s₀.heap.objs.size<=b)/\b≠X.env.locals/\(∀ x c,X.env.cells.lookup x=some c->c≠b)/\∀ p∈X.pn ++ pins,p.1≠b)
  (keep:∀ b o,b≠X.env.locals->b ∉ X.fs->b ∉ ch->s.heap.get? b=some o->H b=none->h'.get? b=some o)
  (slot:∀ b o,b≠X.env.locals->b∈X.fs->b ∉ ch->s.heap.get? b=some o->H b=none->∃ sl,h'.get? b=some { o with slots:=sl }) (free:∀ b o,b ∉ ch->s.heap.get? b=some o->H b=none->H' b=none)
  (there:∀ b o,b ∉ ch->s.heap.get? b=some o->∃ o',h'.get? b=some o')
  (tups:∀ b xs,H b=some (.tup xs)->H' b=some (.tup xs)) (frzs:∀ b o u,H b=some (.frz o u)->H' b=some (.frz o u)) (tbls:∀ b ps,H b=some (.tbl ps)->∃ more,H' b=some (.tbl (ps ++ more)))
  (ns:∀ m,s.heap.Ns X.env.locals m->h'.Ns X.env.locals m) (hok:HOk X.prog X.w H' h') (hg:AllBare g') :
  Inv X pins σ H' { s with heap:=h',gens:=g',drawn:=d',toks:=t' }:=by
 have neL:∀ b o,X.s₀.heap.get? b=some o->b≠X.env.locals:=fun b o e=>Nat.ne_of_lt (Nat.lt_of_lt_of_le (lt_size e) I.ok.above);have neC:∀ b o,X.s₀.heap.get? b=some o->b ∉ X.ex->b ∉ ch:=fun b o e hx hb=>by
  rcases (hch b hb).1 with z | z
  ·exact hx z
  ·exact absurd (Nat.lt_of_lt_of_le (lt_size e) z) (Nat.lt_irrefl _)
 have cellK:∀ x c,X.env.cells.lookup x=some c->∀ v,s.heap.IsCell c v->h'.IsCell c v:=fun x c e v h9=>by
  obtain ⟨o,ho,hd⟩:=h9;have nch:c ∉ ch:=fun z=>(hch c z).2.2.1 x c e rfl;by_cases hc:c∈X.fs
  ·obtain ⟨sl,q⟩:=slot c o (I.cne x c e) hc nch ho (I.freeC x c e);exact ⟨_,q,hd⟩
  ·exact ⟨o,keep c o (I.cne x c e) hc nch ho (I.freeC x c e),hd⟩
 refine ⟨I.ok,I.os,hg,⟨fun b o e n hb hx=>?_,fun b o e n hb hx=>?_,fun b o e n hx=>?_,fun b o e hx=>?_,fun b xs e=>tups b xs (I.base.tups b xs e),fun b o xs e=>frzs b o xs (I.base.frzs b o xs e),fun b ps e=>?_⟩,?_,fun x c e=>?_,?_,fun x c e=>?_,fun p hp=>?_,hok,I.len⟩
 ·exact keep b o (neL b o e) hb (neC b o e hx) (I.base.keep b o e n hb hx) (I.base.free b o e n hx)
 ·obtain ⟨sl,e1⟩:=I.base.slot b o e n hb hx;obtain ⟨sl',e2⟩:=slot b _ (neL b o e) hb (neC b o e hx) e1 (I.base.free b o e n hx);exact ⟨sl',e2⟩
 ·obtain ⟨o',e1⟩:=I.base.there b o e hx;exact free b o' (neC b o e hx) e1 (I.base.free b o e n hx)
 ·obtain ⟨o',e1⟩:=I.base.there b o e hx;exact there b o' (neC b o e hx) e1
 ·obtain ⟨m1,e1⟩:=I.base.tbls b ps e;obtain ⟨m2,e2⟩:=tbls b _ e1;exact ⟨m1 ++ m2,by rw [e2,Array.append_assoc]⟩
 ·obtain ⟨m,hn,hl⟩:=I.loc;refine ⟨m,ns m hn,fun i x v e1 e2 e3=>?_⟩;obtain ⟨u,r,l⟩:=hl i x v e1 e2 e3;refine ⟨u,r,?_⟩;rcases l with l | ⟨k,c,e,z⟩
  ·exact .inl l
  ·exact .inr ⟨k,c,e,cellK x c e _ z⟩
 ·obtain ⟨v,z⟩:=I.cell x c e;exact ⟨v,cellK x c e v z⟩
 ·obtain ⟨m,⟨o,_,_,ho,_⟩,_⟩:=I.loc;exact free _ o (fun z=>(hch _ z).2.1 rfl) ho I.free
 ·obtain ⟨v,o,ho,hd⟩:=I.cell x c e;exact free c o (fun z=>(hch c z).2.2.1 x c e rfl) ho (I.freeC x c e)
 ·obtain ⟨e,n,ne,nf,d⟩:=I.pin p hp;have nch:p.1 ∉ ch:=fun z=>(hch p.1 z).2.2.2 p hp rfl;exact ⟨keep p.1 p.2 ne nf nch e n,free p.1 p.2 nch e n,ne,nf,d⟩
theorem Inv.un {t':Nat} (I:Inv X pins σ H s) (u:Un X.fs [] H H' s.heap h') (hok:HOk X.prog X.w H' h'):Inv X pins σ H' { s with heap:=h',toks:=t' }:=by
 obtain ⟨m,⟨o,es,ep,ho,r⟩,_⟩:=id I.loc;obtain ⟨sl,hL⟩:=u.any ho I.free (by simp);exact I.step (g':=s.gens) (d':=s.drawn) (ch:=[]) (fun _ z=>nomatch z) (fun b o _ hb _ e n=>u.keep b o e n hb (by simp)) (fun b o _ hb _ e n=>u.slot b o e n hb (by simp)) (fun b o _ e n=>u.free b o e n (by simp)) (fun b o _ e=>u.there b o e (by simp)) u.tups u.frzs u.tbls (fun m' hm=>by
  obtain ⟨o',es',ep',ho',r'⟩:=hm;rw [ho] at ho';cases ho';exact ⟨_,es',ep',hL,r'⟩) hok I.bare
theorem Inv.call {g':Array GenState} {t':Nat} {d':Drawn} {ch:List Addr} (I:Inv X pins σ H s) (u:Un (frs X.stack) ch H H' s.heap h') (hok:HOk X.prog X.w H' h') (hg:AllBare g')
  (hch:∀ b∈ch,(b∈X.ex\/X.s₀.heap.objs.size<=b)/\b≠X.env.locals/\(∀ x c,X.env.cells.lookup x=some c->c≠b)/\∀ p∈X.pn ++ pins,p.1≠b) :
  Inv X pins σ H' { s with heap:=h',gens:=g',drawn:=d',toks:=t' }:=by
 obtain ⟨m,⟨o,es,ep,ho,r⟩,_⟩:=id I.loc;obtain ⟨sl,hL⟩:=u.any ho I.free fun z=>(hch _ z).2.1 rfl;exact I.step (ch:=ch) hch (fun b o hL hb hc e n=>u.keep b o e n (fun z=>(mem_cons.mp (I.stkSub b z)).elim hL hb) hc) (fun b o _ _ hc e n=>u.any e n hc) (fun b o hc e n=>u.free b o e n hc) (fun b o hc e=>u.there b o e hc) u.tups u.frzs u.tbls (fun m' hm=>by
  obtain ⟨o',es',ep',ho',r'⟩:=hm;rw [ho] at ho';cases ho';exact ⟨_,es',ep',hL,r'⟩) hok hg
theorem Inv.turned {t':Nat} {it:Addr} (I:Inv X pins σ H s) (k:∀ b o,b≠it->s.heap.get? b=some o->h'.get? b=some o) (hn:H it=none) (hL:it≠X.env.locals)
  (h1:it∈X.ex\/X.s₀.heap.objs.size<=it) (h2:∀ x c,X.env.cells.lookup x=some c->c≠it) (h3:∀ p∈X.pn ++ pins,p.1≠it):Inv X pins σ H { s with heap:=h',toks:=t' }:=by
 have nit:∀ b u,H b=some u->b≠it:=fun b u e z=>by rw [z,hn] at e;cases e
 refine I.step (g':=s.gens) (d':=s.drawn) (ch:=[it]) (fun b hb=>?_) (fun b o _ _ hc e _=>k b o (fun z=>hc (by simp [z])) e) (fun b o _ _ hc e _=>⟨o.slots,k b o (fun z=>hc (by simp [z])) e⟩) (fun _ _ _ _ n=>n)
  (fun b o hc e=>⟨o,k b o (fun z=>hc (by simp [z])) e⟩) (fun _ _ e=>e) (fun _ _ _ e=>e) (fun b ps e=>⟨#[],by rw [e];simp⟩) (fun m hm=>?_) (fun b u e=>?_) I.bare
 ·have e:b=it:=by simpa using hb
  subst e;exact ⟨h1,hL,h2,h3⟩
 ·obtain ⟨o,es,ep,ho,r⟩:=hm;exact ⟨o,es,ep,k _ o (Ne.symm hL) ho,r⟩
 ·refine (I.hok b u e).stay (fun c v hc q=>k c v ?_ q) (fun _ q=>q) fun _ _ q=>q;rcases hc with z | z
  ·rw [z];exact nit b u e
  ·exact nit c _ z
theorem Inv.tok (I:Inv X pins σ H s) (t:Nat):Inv X pins σ H { s with toks:=t }:=I.un (h':=s.heap) (t':=t) Un.refl I.hok
theorem Inv.kept {t':Nat} (I:Inv X pins σ H s) (k:∀ b u,s.heap.get? b=some u->h'.get? b=some u):Inv X pins σ H { s with heap:=h',toks:=t' }:=I.un (Un.kept k) (I.hok.kept k)
theorem Inv.laid {a:Addr} {o:HO} {t':Nat} (I:Inv X pins σ H s) (k:∀ b u,s.heap.get? b=some u->h'.get? b=some u) (hp:s.heap.objs.size<=a) (new:ObjOk X.prog X.w (upd H a o) h' a o) :
  Inv X pins σ (upd H a o) { s with heap:=h',toks:=t' }:=I.un (Un.laid k hp (I.hok.fresh hp)) (I.hok.laid k hp new)
theorem Inv.write {x e:Addr} {o:HO} {t':Nat} (I:Inv X pins σ H s) (mu:Mut (H x)) (he:e=x\/H e=some (.own x)) (k:∀ b u,b≠e->s.heap.get? b=some u->h'.get? b=some u) (heo:∃ u,h'.get? e=some u)
  (new:ObjOk X.prog X.w (upd H x o) h' x o):Inv X pins σ (upd H x o) { s with heap:=h',toks:=t' }:=I.un (Un.write mu he k heo) (I.hok.write mu he k heo new)
theorem Inv.pins_of {pins':List (Addr × Obj)} (I:Inv X pins σ H s) (h:∀ p∈pins',s.heap.get? p.1=some p.2/\H p.1=none/\p.1≠X.env.locals/\p.1 ∉ X.fs/\∀ v,p.2.data≠.cell v):Inv X pins' σ H s :=
 ⟨I.ok,I.os,I.bare,I.base,I.loc,I.cell,I.free,I.freeC,fun p hp=>(mem_append.mp hp).elim (fun z=>I.pin p (List.mem_append_left _ z)) (h p),I.hok,I.len⟩
theorem J4e {N:List Str} (hN:N.Nodup) {i j:Nat} {x:Str} (a:N[i]?=some x) (b:N[j]?=some x):i=j:=by
 obtain ⟨h1,e1⟩:=List.getElem?_eq_some_iff.mp a;obtain ⟨h2,e2⟩:=List.getElem?_eq_some_iff.mp b;exact (List.getElem_inj hN).mp (e1.trans e2.symm)
theorem J37 {M:Model} {A:Around} {E:Value->Shared->Prop} {i:Nat} {x:Str} {v:V} {u:Value} {Q:Unit->Shared->Prop} (I:Inv X pins σ H s) (hN:X.N.Nodup) (hi:X.N[i]?=some x) (hx:Loc X.env.scope x) (r:RelV v u)
  (h:∀ s',Inv X pins (σ.set i (some v)) H s'->(∃ a,Heap.SameBut a s.heap s'.heap/\(a=X.env.locals\/X.env.cells.lookup x=some a))->Q () s') (hf:X.fn x=true\/X.env.scope.names.lookup x=some .local:=by first | exact .inl rfl | exact .inr rfl | assumption):wpAny M A (storeName X.env x u) Q E s:=by
 obtain ⟨m,hn,hl⟩:=id I.loc;have hcls:(X.env.scope.kind == .class || (X.env.scope.kind == .module && X.env.locals != X.env.globals))=false:=by rw [I.ok.kind];rfl
 have hiσ:i < σ.length:=by rw [I.len];exact (List.getElem?_eq_some_iff.mp hi).1
 have cne:=I.cne;have tracked:∀ {a:Addr} {h':Heap},(∃ o,s.heap.get? a=some o/\H a=none)->Heap.SameBut a s.heap h'->HOk X.prog X.w H h':=fun {a h'} ha hs b ob e=>by
  obtain ⟨_,_,hfree⟩:=ha;refine (I.hok b ob e).stay (fun c w' hc q=>(hs.2 c ?_).trans q) (fun _ q=>q) fun _ _ q=>q;rintro rfl;rcases hc with rfl | hc
  ·rw [hfree] at e;cases e
  ·rw [hfree] at hc;cases hc
 rcases hx with hk | hk
 ·refine wpAny_storeName_local hk hn (fun h' hn' hs=>?_) hcls;obtain ⟨oL,_,_,hoL,_⟩:=id hn;refine h _ ⟨I.ok,I.os,I.bare,⟨fun b o e n hb hx=>?_,fun b o e n hb hx=>?_,I.base.free,fun b o e hx=>?_,I.base.tups,I.base.frzs,I.base.tbls⟩,⟨_,hn',fun j y v' e1 e2 e3=>?_⟩,fun y c e=>?_,I.free,I.freeC,fun p hp=>?_,tracked ⟨oL,hoL,I.free⟩ hs,by simpa using I.len⟩ ⟨_,hs,.inl rfl⟩
  ·exact (hs.2 b (Nat.ne_of_lt (Nat.lt_of_lt_of_le (lt_size e) I.ok.above))).trans (I.base.keep b o e n hb hx)
  ·obtain ⟨sl,e1⟩:=I.base.slot b o e n hb hx;exact ⟨sl,(hs.2 b (Nat.ne_of_lt (Nat.lt_of_lt_of_le (lt_size e) I.ok.above))).trans e1⟩
  ·obtain ⟨o',e1⟩:=I.base.there b o e hx;exact ⟨o',(hs.2 b (Nat.ne_of_lt (Nat.lt_of_lt_of_le (lt_size e) I.ok.above))).trans e1⟩
  ·by_cases hj:j=i
   ·subst hj;rw [hi] at e1;cases e1;rw [List.getElem?_set_self hiσ] at e2;cases e2;exact ⟨u,r,.inl ⟨hk,by simp⟩⟩
   ·rw [List.getElem?_set_ne (Ne.symm hj)] at e2;obtain ⟨u',r',q⟩:=hl j y v' e1 e2 e3;refine ⟨u',r',?_⟩;rcases q with ⟨k,e⟩ | ⟨k,c,e,z⟩
    ·refine .inl ⟨k,?_⟩;have:y≠x:=fun e=>hj (J4e hN e1 (e ▸ hi));simp [this,e]
    ·exact .inr ⟨k,c,e,z.sameBut hs (cne y c e)⟩
  ·obtain ⟨w',z⟩:=I.cell y c e;exact ⟨w',z.sameBut hs (cne y c e)⟩
  ·obtain ⟨e,n,ne,nf,d⟩:=I.pin p hp;exact ⟨(hs.2 p.1 ne).trans e,n,ne,nf,d⟩
 ·have hfn:X.fn x=true:=by
   rcases hf with z | z
   ·exact z
   ·rw [z] at hk;cases hk
  obtain ⟨c,hc⟩:=I.ok.has x (.inl hk);obtain ⟨w',z⟩:=I.cell x c hc;refine wpAny_storeName_cell I.ok.kind hk hc z (fun h' hc' hs=>?_);obtain ⟨oc,hoc,hocd⟩:=id z;refine h { s with heap:=h' } ⟨I.ok,I.os,I.bare,⟨fun b o e n hb hx=>?_,fun b o e n hb hx=>?_,I.base.free,fun b o e hx=>?_,I.base.tups,I.base.frzs,I.base.tbls⟩,⟨m,hn.sameBut hs (Ne.symm (cne x c hc)),fun j y v' e1 e2 e3=>?_⟩,fun y c' e=>?_,I.free,I.freeC,fun p hp=>?_,tracked ⟨oc,hoc,I.freeC x c hc⟩ hs,by simpa using I.len⟩ ⟨c,hs,.inr hc⟩
  ·exact (hs.2 b (Nat.ne_of_lt (Nat.lt_of_lt_of_le (lt_size e) (I.ok.cab x c hfn hc)))).trans (I.base.keep b o e n hb hx)
  ·obtain ⟨sl,e1⟩:=I.base.slot b o e n hb hx;exact ⟨sl,(hs.2 b (Nat.ne_of_lt (Nat.lt_of_lt_of_le (lt_size e) (I.ok.cab x c hfn hc)))).trans e1⟩
  ·obtain ⟨o',e1⟩:=I.base.there b o e hx;exact ⟨o',(hs.2 b (Nat.ne_of_lt (Nat.lt_of_lt_of_le (lt_size e) (I.ok.cab x c hfn hc)))).trans e1⟩
  ·by_cases hj:j=i
   ·subst hj;rw [hi] at e1;cases e1;rw [List.getElem?_set_self hiσ] at e2;cases e2;exact ⟨u,r,.inr ⟨.inl hk,c,hc,hc'⟩⟩
   ·rw [List.getElem?_set_ne (Ne.symm hj)] at e2;obtain ⟨u',r',q⟩:=hl j y v' e1 e2 e3;refine ⟨u',r',?_⟩;rcases q with q | ⟨k,c',e,z'⟩
    ·exact .inl q
    ·refine .inr ⟨k,c',e,z'.sameBut hs ?_⟩;rintro rfl;exact hj (J4e hN e1 (I.ok.inj _ _ _ e hc ▸ hi))
  ·by_cases hcc:c'=c
   ·subst hcc;exact ⟨_,hc'⟩
   ·obtain ⟨w2,z2⟩:=I.cell y c' e;exact ⟨w2,z2.sameBut hs hcc⟩
  ·obtain ⟨e,n,ne,nf,d⟩:=I.pin p hp;refine ⟨(hs.2 p.1 ?_).trans e,n,ne,nf,d⟩;intro q;rw [q,hoc] at e;have q':oc=p.2:=Option.some.inj e;exact d w' (by rw [<- q'];exact hocd)
theorem J38 {M:Model} {A:Around} {E:Value->Shared->Prop} {i:Nat} {x:Str} {v:V} {u:Value} {Q:Unit->Shared->Prop} (I:Inv X pins σ H s) (hN:X.N.Nodup) (hi:X.N[i]?=some x) (hx:Loc X.env.scope x) (r:RelV v u)
  (h:∀ s',Inv X pins (σ.set i (some v)) H s'->Q () s') (hf:X.fn x=true\/X.env.scope.names.lookup x=some .local:=by first | exact .inl rfl | exact .inr rfl | assumption):wpAny M A (storeName X.env x u) Q E s :=
 J37 I hN hi hx r (fun s' I' _=>h s' I') hf
theorem Inv.call' {s':Shared} {ch:List Addr} (I:Inv X pins σ H s) (ho:s'.os=s.os) (u:Un (frs X.stack) ch H H' s.heap s'.heap) (hok:HOk X.prog X.w H' s'.heap) (hg:AllBare s'.gens)
  (hch:∀ b∈ch,(b∈X.ex\/X.s₀.heap.objs.size<=b)/\b≠X.env.locals/\(∀ x c,X.env.cells.lookup x=some c->c≠b)/\∀ p∈X.pn ++ pins,p.1≠b):Inv X pins σ H' s':=by
 obtain ⟨h',g',d',t',o'⟩:=s';have e:o'=s.os:=ho;subst e;exact I.call (g':=g') (t':=t') (d':=d') u hok hg hch
end
abbrev XK:=Value->Option Addr->Hp->Prop
abbrev St:=List (Option V)
abbrev VK:=V->Hp->Prop
abbrev TE:=St->Hp->VK->Prop
abbrev TT:=St->Hp->(Bool->Hp->Prop)->Prop
abbrev TA:=St->Hp->(List V->Hp->Prop)->Prop
structure Ends where
 nx:St->Hp->Prop
 rt:VK
 bk:St->Hp->Prop:=fun _ _=>False
 ct:St->Hp->Prop:=fun _ _=>False
abbrev TS:=Ends->St->Hp->Prop
def EP (X:Cx) (pins:List (Addr × Obj)) (σ:St) (Q:VK) (u:Value) (s':Shared):Prop:=∃ v H',Inv X pins σ H' s'/\RelV v u/\Q v H'
def TP (X:Cx) (pins:List (Addr × Obj)) (σ:St) (Q:Bool->Hp->Prop) (b:Bool) (s':Shared):Prop:=∃ H',Inv X pins σ H' s'/\Q b H'
def AP (X:Cx) (pins:List (Addr × Obj)) (σ:St) (Q:List V->Hp->Prop) (us:List Value) (s':Shared):Prop:=∃ vs H',Inv X pins σ H' s'/\Vals vs us/\Q vs H'
def SP (X:Cx) (pins:List (Addr × Obj)) (D:Ends) (f:Flow) (s':Shared):Prop :=
 match f with
 | .next=>∃ σ' H',Inv X pins σ' H' s'/\D.nx σ' H'
 | .brk=>∃ σ' H',Inv X pins σ' H' s'/\D.bk σ' H'
 | .cont=>∃ σ' H',Inv X pins σ' H' s'/\D.ct σ' H'
 | .ret u=>∃ v σ' H',Inv X pins σ' H' s'/\RelV v u/\D.rt v H'
def PE (X:Cx) (e:Expr) (t:TE):Prop :=
 ∀ (pins:List (Addr × Obj)) (s:Shared) (σ:St) (H:Hp) (Q:VK),Inv X pins σ H s->t σ H Q->wpAny (model X.prog X.w) X.A (eval e X.env) (EP X pins σ Q) X.xe s
def PT (X:Cx) (e:Expr) (t:TT):Prop :=
 ∀ (pins:List (Addr × Obj)) (s:Shared) (σ:St) (H:Hp) (Q:Bool->Hp->Prop),Inv X pins σ H s->t σ H Q->wpAny (model X.prog X.w) X.A (isTrue e X.env (eval e X.env)) (TP X pins σ Q) X.xe s
def PW (X:Cx) (e:Expr) (t:TT):Prop :=
 ∀ (whole:Sem Value) (pins:List (Addr × Obj)) (s:Shared) (σ:St) (H:Hp) (Q:Bool->Hp->Prop),Inv X pins σ H s->t σ H Q->wpAny (model X.prog X.w) X.A (isTrue e X.env whole) (TP X pins σ Q) X.xe s
theorem PW.pt {X:Cx} {e:Expr} {t:TT} (h:PW X e t):PT X e t:=h _
def PA (X:Cx) (es:List Expr) (t:TA):Prop :=
 ∀ (pos:Pos) (pins:List (Addr × Obj)) (s:Shared) (σ:St) (H:Hp) (Q:List V->Hp->Prop),Inv X pins σ H s->t σ H Q->wpAny (model X.prog X.w) X.A (spliced (backTo pos (starEach es X.env))) (AP X pins σ Q) X.xe s
def PS (X:Cx) (st:Stmt) (t:TS):Prop :=
 ∀ (pins:List (Addr × Obj)) (s:Shared) (σ:St) (H:Hp) (D:Ends),Inv X pins σ H s->t D σ H->wpAny (model X.prog X.w) X.A (exec st X.env) (SP X pins D) X.xe s
def PSs (X:Cx) (st:List Stmt) (t:TS):Prop :=
 ∀ (pins:List (Addr × Obj)) (s:Shared) (σ:St) (H:Hp) (D:Ends),Inv X pins σ H s->t D σ H->wpAny (model X.prog X.w) X.A (execs st X.env) (SP X pins D) X.xe s
theorem thn {α:Type} {t:Sem α} {Q Q':α->Shared->Prop} {M:Model} {A:Around} {E:Value->Shared->Prop} {s:Shared} (h:wpAny M A t Q E s) (hQ:∀ a s,Q a s->Q' a s):wpAny M A t Q' E s:=wpAny_mono h hQ fun _ _ x=>x
end L2
namespace L2
open PySem PySem.Spec PyProof.Rows
section
variable {X:Cx}
def tVar (i:Nat):TE:=fun σ H Q=>∃ v,σ[i]?=some (some v)/\Q v H
def tC (v:V):TE:=fun _ H Q=>Q v H
theorem pe_var {i:Nat} {x:Str} {pos:Pos} (hN:X.N[i]?=some x) (hv:Vis X.env.scope x) (hd:(x == ("__debug__":Str))=false:=by decide) (hcd:(x == ("__classdict__":Str))=false:=by decide):PE X (.Name x pos) (tVar i):=by
 intro pins s σ H Q I h;obtain ⟨v,e,h⟩:=h;obtain ⟨m,hn,hl⟩:=I.loc;obtain ⟨u,r,l⟩:=hl i x v hN e hv;have fin:EP X pins σ Q u s:=⟨v,H,I,r,h⟩;rcases l with ⟨hk,hm⟩ | ⟨hk,c,hc,hcell⟩
 ·exact wpAny_Name (wpAny_loadName_local I.ok.kind hk hn hm fin) hd
 ·rcases hk with hk | hk
  ·exact wpAny_Name (wpAny_loadName_cell I.ok.kind hk hc hcell fin) hd
  ·exact wpAny_Name (wpAny_loadName_free I.ok.kind hk hc hcell fin hcd) hd
theorem J8 {i j pos}:PE X (.Constant (.int i) j pos) (tC (.int i)):=fun _ _ _ H _ I h=>wpAny_Constant_int ⟨.int i,H,I.tok _,⟨_,rfl⟩,h⟩
theorem pe_bl {b j pos}:PE X (.Constant (.bool b) j pos) (tC (.bl b)):=fun _ _ _ H _ I h=>Constant_bool ⟨.bl b,H,I,rfl,h⟩
theorem pe_non {j pos}:PE X (.Constant .none j pos) (tC .non):=fun _ _ _ H _ I h=>Constant_none ⟨.non,H,I,rfl,h⟩
theorem pe_str {x j pos}:PE X (.Constant (.str x) j pos) (tC (.str x)):=fun _ _ _ H _ I h=>Calls.Constant_str ⟨.str x,H,I.tok _,⟨_,rfl⟩,h⟩
def Gl (X:Cx) (x:Str):Prop:=X.env.kindOf x=some .globalImplicit
theorem J2k {E:Value->Shared->Prop} {pins:List (Addr × Obj)} {s:Shared} {σ:St} {H:Hp} {x:Str} {u:Value} {pos:Pos} {Q:Value->Shared->Prop} (I:Inv X pins σ H s) (hg:Gl X x) (hm:X.mg x=some u) (h:Q u s)
  (hd:(x == ("__debug__":Str))=false:=by decide):wpAny (model X.prog X.w) X.A (eval (.Name x pos) X.env) Q E s :=
 Calls.Name_function_global I.ok.kind hg (Calls.loadGlobal_global (by rw [I.ok.glob];exact I.mod.glob.keeps I.bk) hm h) hd
theorem J4k {E:Value->Shared->Prop} {pins:List (Addr × Obj)} {s:Shared} {σ:St} {H:Hp} {x:Str} {u:Value} {pos:Pos} {Q:Value->Shared->Prop} (I:Inv X pins σ H s) (hg:Gl X x) (hm:X.mg x=none) (hv:bootBuiltins x=some u) (h:Q u s)
  (hn:x≠"__name__":=by decide) (hd:(x == ("__debug__":Str))=false:=by decide):wpAny (model X.prog X.w) X.A (eval (.Name x pos) X.env) Q E s:=by
 obtain ⟨mb,h1,h2⟩:=I.mod.blt;exact Calls.Name_function_global I.ok.kind hg (Calls.loadGlobal_builtin (by rw [I.ok.glob];exact I.mod.glob.keeps I.bk) hm (by rw [I.ok.blt];exact h1.keeps I.bk) ((h2 x hn).trans hv) h) hd
theorem J3t {x:Str} {v:V} {u:Value} {pos:Pos} (hg:Gl X x) (hm:X.mg x=some u) (r:RelV v u) (hd:(x == ("__debug__":Str))=false:=by decide):PE X (.Name x pos) (tC v) :=
 fun _ _ _ H _ I h=>J2k I hg hm ⟨v,H,I,r,h⟩ hd
theorem pe_bltn {x:Str} {v:V} {u:Value} {pos:Pos} (hg:Gl X x) (hm:X.mg x=none) (hv:bootBuiltins x=some u) (r:RelV v u) (hn:x≠"__name__":=by decide) (hd:(x == ("__debug__":Str))=false:=by decide):PE X (.Name x pos) (tC v) :=
 fun _ _ _ H _ I h=>J4k I hg hm hv ⟨v,H,I,r,h⟩ hn hd
variable {a b:Expr} {ta tb:TE} {pos:Pos}
def PC (X:Cx) (op:CmpOp) (a b:Expr) (t:TE):Prop :=
 ∀ (pins:List (Addr × Obj)) (s:Shared) (σ:St) (H:Hp) (Q:VK),Inv X pins σ H s->t σ H Q->
  wpAny (model X.prog X.w) X.A (eval a X.env) (fun v s₁=>wpAny (model X.prog X.w) X.A (eval b X.env) (fun u s₂=>wpAny (model X.prog X.w) X.A (compareOp op v u) (EP X pins σ Q) X.xe s₂) X.xe s₁) X.xe s
theorem nobehind (b:Expr) {op:CmpOp} (h:op≠.In) (h2:op≠.NotIn):behindInMarks op b=false:=by
 have e1:(op == CmpOp.In)=false:=by cases op <;> first | rfl | exact absurd rfl h
 have e2:(op == CmpOp.NotIn)=false:=by cases op <;> first | rfl | exact absurd rfl h2
 cases b <;> simp [behindInMarks,e1,e2]
def tIsN (ta:TE):TE:=fun σ H Q=>ta σ H fun x H1=>Q (.bl (decide (x=.non))) H1
theorem RelV.none_iff {x:V} {v:Value} (r:RelV x v):(v == Value.none)=decide (x=.non):=by
 cases x with
 | non=>cases r;rfl
 | bl _=>cases r;rfl
 | int _=>obtain ⟨t,rfl⟩:=r;rfl
 | str _=>obtain ⟨t,rfl⟩:=r;rfl
 | byt _=>obtain ⟨t,rfl⟩:=r;rfl
 | flt _=>obtain ⟨t,rfl⟩:=r;rfl
 | ref _=>cases r;rfl
 | ty _=>cases r;rfl
theorem pc_isN {j pos'} (ha:PE X a ta):PC X .Is a (.Constant .none j pos') (tIsN ta):=by
 intro pins s σ H Q I h;refine thn (ha pins s σ H _ I h) fun v s1 h9=>?_;obtain ⟨x,H1,I1,r1,q1⟩:=h9;exact Constant_none (is_none_gen ⟨.bl _,H1,I1,by rw [r1.none_iff];rfl,q1⟩)
def tB (t:TE):TT:=fun σ H Q=>t σ H fun x H1=>∃ c,x=.bl c/\Q c H1
theorem pt_cmp {op:CmpOp} {t:TE} (h:PC X op a b t) (h1:behindInMarks op b=false:=by first | exact nobehind _ (by decide) (by decide) | rfl):PT X (.Compare a [op] [b] pos) (tB t):=by
 intro pins s σ H Q I hw;refine wpAny_isTrue_Compare1 (thn (h pins s σ H _ I hw) fun v s1 h1=>thn h1 fun u s2 h2=>thn h2 fun c s3 h9=>?_) h1;obtain ⟨x,H1,I1,r1,q1⟩:=h9;obtain ⟨d,rfl,q⟩:=q1;cases r1;exact wpAny_truthy_bool ⟨H1,I1,q⟩
theorem J2r {e:Expr} {t:TE} (h:PE X e t) (he:∀ whole,isTrue e X.env whole=(do let v <- whole;standAt e.pos;holding [v] (truthy v)):=by intro _;rfl):PT X e (tB t):=by
 intro pins s σ H Q I hw;refine isTrue_plain (thn (h pins s σ H _ I hw) fun v s1 h9=>?_) (he _);obtain ⟨x,H1,I1,r1,q1⟩:=h9;obtain ⟨d,rfl,q⟩:=q1;cases r1;exact wpAny_truthy_bool ⟨H1,I1,q⟩
variable {tA tB':TT} {rest:List Expr}
def tAnd (t u:TT):TT:=fun σ H Q=>t σ H fun c H1=>if c=true then u σ H1 Q else Q false H1
def tOr (t u:TT):TT:=fun σ H Q=>t σ H fun c H1=>if c=true then Q true H1 else u σ H1 Q
def tNot (t:TT):TT:=fun σ H Q=>t σ H fun c H1=>Q (!c) H1
theorem pw_and1 (ha:PT X a tA):PW X (.BoolOp .And [a] pos) tA:=by
 intro wh pins s σ H Q I h;refine isTrue_and (thn (ha pins s σ H Q I h) fun c s1 e=>?_)
 cases c with
 | true=>exact isTrue_and_nil e
 | false=>exact e
theorem pw_or1 (ha:PT X a tA):PW X (.BoolOp .Or [a] pos) tA:=by
 intro wh pins s σ H Q I h;refine isTrue_or (thn (ha pins s σ H Q I h) fun c s1 e=>?_)
 cases c with
 | false=>exact isTrue_or_nil e
 | true=>exact e
theorem pw_and (ha:PT X a tA) (hb:PW X (.BoolOp .And (b :: rest) pos) tB'):PW X (.BoolOp .And (a :: b :: rest) pos) (tAnd tA tB'):=by
 intro wh pins s σ H Q I h;refine isTrue_and (thn (ha pins s σ H _ I h) fun c s1 h9=>?_);obtain ⟨H1,I1,q1⟩:=h9
 cases c with
 | true=>exact hb wh pins s1 σ H1 Q I1 q1
 | false=>exact ⟨H1,I1,q1⟩
theorem pw_or (ha:PT X a tA) (hb:PW X (.BoolOp .Or (b :: rest) pos) tB'):PW X (.BoolOp .Or (a :: b :: rest) pos) (tOr tA tB'):=by
 intro wh pins s σ H Q I h;refine isTrue_or (thn (ha pins s σ H _ I h) fun c s1 h9=>?_);obtain ⟨H1,I1,q1⟩:=h9
 cases c with
 | true=>exact ⟨H1,I1,q1⟩
 | false=>exact hb wh pins s1 σ H1 Q I1 q1
theorem pt_not (ha:PT X a tA):PT X (.UnaryOp .Not a pos) (tNot tA):=by
 intro pins s σ H Q I h;exact isTrue_not (ha pins s σ H (fun c H1=>Q (!c) H1) I h)
def tAndV (ta tb:TE):TE:=fun σ H Q=>ta σ H fun x H1=>∃ c,x=.bl c/\if c=true then tb σ H1 Q else Q (.bl false) H1
theorem pe_one {op} {t:TE} (h:PE X a t):PE X (.BoolOp op [a] pos) t:=fun pins s σ H Q I hw=>BoolOp_one (h pins s σ H Q I hw)
theorem pe_and (ha:PE X a ta) (hb:PE X (.BoolOp .And (b :: rest) pos) tb):PE X (.BoolOp .And (a :: b :: rest) pos) (tAndV ta tb):=by
 intro pins s σ H Q I h;refine BoolOp_and (thn (ha pins s σ H _ I h) fun v s1 h9=>?_);obtain ⟨x,H1,I1,r1,q1⟩:=h9;obtain ⟨c,rfl,q1⟩:=q1;cases r1;refine wpAny_truthy_bool ?_
 cases c with
 | true=>exact hb pins s1 σ H1 Q I1 q1
 | false=>exact ⟨.bl false,H1,I1,rfl,q1⟩
def tIf (t:TT) (ta tb:TE):TE:=fun σ H Q=>t σ H fun c H1=>if c=true then ta σ H1 Q else tb σ H1 Q
theorem J2i {c:Expr} (hc:PT X c tA) (ha:PE X a ta) (hb:PE X b tb):PE X (.IfExp c a b pos) (tIf tA ta tb):=by
 intro pins s σ H Q I h;refine wpAny_IfExp (thn (hc pins s σ H _ I h) fun d s1 h9=>?_);obtain ⟨H1,I1,q1⟩:=h9
 cases d with
 | true=>exact ha pins s1 σ H1 Q I1 q1
 | false=>exact hb pins s1 σ H1 Q I1 q1
end
end L2
namespace L2
open PySem PySem.Spec PyProof.Rows
def SqL (K:PySem.W.Frag) (H:Hp) (a:Addr) (xs:List V):Prop :=
 Rd H a (.lst xs)\/
  ∃ (o:Obj) (its:Array Value) (n:Nat),K.lookup a=some o/\o.cls=.type "list"/\o.dict=none/\o.data=.seq its n/\its.size<=sizeLine/\Vals xs its.toList
def SqT (K:PySem.W.Frag) (H:Hp) (a:Addr) (xs:List V):Prop :=
 Rd H a (.tup xs)\/
  ∃ (o:Obj) (its:Array Value) (n:Nat),K.lookup a=some o/\o.cls=.type "tuple"/\o.data=.seq its n/\its.size<=sizeLine/\Vals xs its.toList
def absV:Value->Option V
 | .none=>some .non
 | .bool b=>some (.bl b)
 | .int i _=>some (.int i)
 | .str x _=>some (.str x)
 | .bytes b _=>some (.byt b)
 | .float b _=>some (.flt b)
 | .ref a=>some (.ref a)
 | .type n=>some (.ty n)
 | _=>none
theorem RelV.abs {x:V} {u:Value} (r:RelV x u):absV u=some x:=by
 cases x with
 | non=>cases r;rfl
 | bl _=>cases r;rfl
 | int _=>obtain ⟨t,rfl⟩:=r;rfl
 | str _=>obtain ⟨t,rfl⟩:=r;rfl
 | byt _=>obtain ⟨t,rfl⟩:=r;rfl
 | flt _=>obtain ⟨t,rfl⟩:=r;rfl
 | ref _=>cases r;rfl
 | ty _=>cases r;rfl
theorem RelV.inj {x y:V} {u:Value} (r:RelV x u) (q:RelV y u):x=y:=Option.some.inj (r.abs.symm.trans q.abs)
theorem Vals.inj:∀ {xs ys:List V} {us:List Value},Vals xs us->Vals ys us->xs=ys
 | _,_,_,.nil,.nil=>rfl
 | _,_,_,.cons r t,.cons r' t'=>by rw [r.inj r',Vals.inj t t']
section
variable {X:Cx} {pins:List (Addr × Obj)} {σ:St} {H:Hp} {s:Shared} {a:Addr} {xs ys:List V}
theorem SqL.of {K:PySem.W.Frag} (h:H a=some (.lst xs)):SqL K H a xs:=.inl (.inl h)
theorem SqT.of {K:PySem.W.Frag} (h:H a=some (.tup xs)):SqT K H a xs:=.inl (.inl h)
theorem Inv.list (I:Inv X pins σ H s) (h:SqL X.K H a xs):∃ its:List Value,Vals xs its/\PlainL s.heap a its.toArray/\xs.length<=sizeLine:=by
 rcases h with h | ⟨o,its,n,hk,hc,hd,hs,hz,r⟩
 ·obtain ⟨z,its,n,r,e⟩:=h.ok I.hok;exact ⟨its,r,⟨_,n,e,rfl,rfl,rfl⟩,z⟩
 ·refine ⟨its.toList,r,⟨o,n,I.kIn a o hk,hc,hd,by simpa using hs⟩,?_⟩;have e:=r.length;simp only [length_toList] at e;lia
theorem Inv.tuple (I:Inv X pins σ H s) (h:SqT X.K H a xs):∃ its:List Value,Vals xs its/\IsTup s.heap a its.toArray/\xs.length<=sizeLine:=by
 rcases h with h | ⟨o,its,n,hk,hc,hs,hz,r⟩
 ·obtain ⟨z,its,r,p⟩:=h.ok I.hok;exact ⟨its,r,p.tup,z⟩
 ·refine ⟨its.toList,r,⟨o,I.kIn a o hk,hc,n,by simpa using hs⟩,?_⟩;have e:=r.length;simp only [length_toList] at e;lia
theorem Inv.list_inj (I:Inv X pins σ H s) (h:SqL X.K H a xs) (h':SqL X.K H a ys):xs=ys:=by
 obtain ⟨its,r,⟨o,n,e,_,_,d⟩,_⟩:=I.list h;obtain ⟨its',r',⟨o',n',e',_,_,d'⟩,_⟩:=I.list h';rw [e] at e';cases e';rw [d] at d';injection d' with d1 _
 have:its=its':=by simpa using congrArg Array.toList d1
 subst this;exact r.inj r'
theorem Inv.tuple_inj (I:Inv X pins σ H s) (h:SqT X.K H a xs) (h':SqT X.K H a ys):xs=ys:=by
 obtain ⟨its,r,⟨o,e,_,n,d⟩,_⟩:=I.tuple h;obtain ⟨its',r',⟨o',e',_,n',d'⟩,_⟩:=I.tuple h';rw [e] at e';cases e';rw [d] at d';injection d' with d1 _
 have:its=its':=by simpa using congrArg Array.toList d1
 subst this;exact r.inj r'
end
abbrev Cx.wish (X:Cx) (E:Value->Shared->Prop):Cx:={ X with xe:=E }
abbrev Cx.nox (X:Cx):Cx:=X.wish fun _ _=>False
theorem Cx.Ok.wish {X:Cx} (ok:X.Ok) (E:Value->Shared->Prop):(X.wish E).Ok :=
 ⟨ok.mod,ok.kind,ok.glob,ok.blt,ok.above,ok.inj,ok.has,ok.cab,ok.hd,ok.frames,ok.stk,ok.exf,ok.bs,ok.bsz,ok.noex,ok.exfs,ok.funs,ok.frf⟩
theorem Cx.Ok.unwish {X:Cx} {E:Value->Shared->Prop} (ok:(X.wish E).Ok):X.Ok :=
 ⟨ok.mod,ok.kind,ok.glob,ok.blt,ok.above,ok.inj,ok.has,ok.cab,ok.hd,ok.frames,ok.stk,ok.exf,ok.bs,ok.bsz,ok.noex,ok.exfs,ok.funs,ok.frf⟩
section
variable {X:Cx} {pins:List (Addr × Obj)} {σ:St} {H:Hp} {s:Shared} {E:Value->Shared->Prop}
theorem Inv.wish (I:Inv X pins σ H s) (E:Value->Shared->Prop):Inv (X.wish E) pins σ H s:=⟨I.ok.wish E,I.os,I.bare,I.base,I.loc,I.cell,I.free,I.freeC,I.pin,I.hok,I.len⟩
theorem Inv.unwish (I:Inv (X.wish E) pins σ H s):Inv X pins σ H s:=⟨I.ok.unwish,I.os,I.bare,I.base,I.loc,I.cell,I.free,I.freeC,I.pin,I.hok,I.len⟩
theorem SP.unwish {D:Ends} {f:Flow} {s':Shared} (h:SP (X.wish E) pins D f s'):SP X pins D f s':=by
 cases f with
 | next=>obtain ⟨σ',H',I,q⟩:=h;exact ⟨σ',H',I.unwish,q⟩
 | brk=>obtain ⟨σ',H',I,q⟩:=h;exact ⟨σ',H',I.unwish,q⟩
 | cont=>obtain ⟨σ',H',I,q⟩:=h;exact ⟨σ',H',I.unwish,q⟩
 | ret u=>obtain ⟨v,σ',H',I,r,q⟩:=h;exact ⟨v,σ',H',I.unwish,r,q⟩
theorem PSs.nox {st:List Stmt} {t:TS} (h:PSs X.nox st t):PSs X st t:=fun pins s σ H D I hw =>
 wpAny_mono (h pins s σ H D (I.wish _) hw) (fun _ _ q=>q.unwish) fun _ _ z=>False.elim z
end
section
variable {X:Cx} {st:Stmt} {rest:List Stmt} {t u:TS} {e:Expr} {te:TE} {pos:Pos}
def tNext:TS:=fun D σ H=>D.nx σ H
def tSeq (t u:TS):TS:=fun D σ H=>t { D with nx:=u D } σ H
theorem Js:PSs X [] tNext:=fun _ _ σ H _ I h=>wpAny_execs_nil ⟨σ,H,I,h⟩
theorem J2 (h1:PS X st t) (h2:PSs X rest u):PSs X (st :: rest) (tSeq t u):=by
 intro pins s σ H D I h;refine wpAny_execs_cons (thn (h1 pins s σ H { D with nx:=u D } I h) fun f s1 q=>?_)
 cases f with
 | next =>
  obtain ⟨σ',H',I',q⟩:=q;exact h2 pins s1 σ' H' D I' q
 | ret v=>exact q
 | brk=>exact q
 | cont=>exact q
theorem J7 (h1:PS X st t):PSs X [st] t:=by
 intro pins s σ H D I h;refine wpAny_execs_cons (thn (h1 pins s σ H D I h) fun f s1 q=>?_)
 cases f with
 | next=>exact wpAny_execs_nil q
 | ret v=>exact q
 | brk=>exact q
 | cont=>exact q
theorem Inv.quiet {pins:List (Addr × Obj)} {σ:St} {H:Hp} {s:Shared} (I:Inv X pins σ H s):interactive X.env=false:=by simp [interactive,I.ok.kind]
def tDrop (te:TE):TS:=fun D σ H=>te σ H fun _ H1=>D.nx σ H1
theorem J2g (he:PE X e te) (hs:swapsWith e none pos.line X.env=pure false:=by rfl):PS X (.Expr e pos) (tDrop te):=by
 intro pins s σ H D I h;exact wpAny_Expr_any (thn (he pins s σ H _ I h) fun v s1 h9=>by obtain ⟨x,H1,I1,r1,q1⟩:=h9;exact ⟨σ,H1,I1,q1⟩) I.quiet hs
def tRet (te:TE):TS:=fun D σ H=>te σ H D.rt
theorem Jo (he:PE X e te):PS X (.Return (some e) pos) (tRet te):=by
 intro pins s σ H D I h;exact wpAny_Return_some (thn (he pins s σ H _ I h) fun v s1 h9=>by obtain ⟨x,H1,I1,r1,q1⟩:=h9;exact ⟨x,σ,H1,I1,r1,q1⟩)
def tIfS (c:TT) (t u:TS):TS:=fun D σ H=>c σ H fun b H1=>if b=true then t D σ H1 else u D σ H1
theorem ps_if {c:Expr} {a b:List Stmt} {tc:TT} (hc:PT X c tc) (ha:PSs X a t) (hb:PSs X b u):PS X (.If c a b pos) (tIfS tc t u):=by
 intro pins s σ H D I h;refine wpAny_If (thn (hc pins s σ H _ I h) fun d s1 h9=>?_);obtain ⟨H1,I1,q1⟩:=h9
 cases d with
 | true=>exact ha pins s1 σ H1 D I1 q1
 | false=>exact hb pins s1 σ H1 D I1 q1
def tNever:TS:=fun _ _ _=>False
theorem J22:PS X st tNever:=fun _ _ _ _ _ _ h=>h.elim
end
abbrev TG:=V->St->Hp->(St->Hp->Prop)->Prop
abbrev TGs:=List V->St->Hp->(St->Hp->Prop)->Prop
def PG (X:Cx) (target:Expr) (t:TG):Prop :=
 ∀ (pins:List (Addr × Obj)) (s:Shared) (σ:St) (H:Hp) (v:V) (u:Value) (Q:St->Hp->Prop),Inv X pins σ H s->RelV v u->t v σ H Q->
  wpAny (model X.prog X.w) X.A (assign target X.env u) (fun _ s'=>∃ σ' H',Inv X pins σ' H' s'/\Q σ' H') X.xe s
def PGs (X:Cx) (ts:List Expr) (t:TGs):Prop :=
 ∀ (pins:List (Addr × Obj)) (s:Shared) (σ:St) (H:Hp) (vs:List V) (us:List Value) (Q:St->Hp->Prop),Inv X pins σ H s->Vals vs us->t vs σ H Q->
  wpAny (model X.prog X.w) X.A (assignInOrder ((assignEach ts X.env).map (·.2)) us) (fun _ s'=>∃ σ' H',Inv X pins σ' H' s'/\Q σ' H') X.xe s
abbrev TSet:=V->V->V->Hp->(Hp->Prop)->Prop
def PSet (X:Cx) (t:TSet):Prop :=
 ∀ (pins:List (Addr × Obj)) (s:Shared) (σ:St) (H:Hp) (o i v:V) (ov iv u:Value) (Q:Hp->Prop),Inv X pins σ H s->RelV o ov->RelV i iv->RelV v u->t o i v H Q->
  wpAny (model X.prog X.w) X.A (setItem ov iv u) (fun _ s'=>∃ H',Inv X pins σ H' s'/\Q H') X.xe s
section
variable {X:Cx} {pos:Pos}
def gName (i:Nat):TG:=fun v σ H Q=>Q (σ.set i (some v)) H
theorem Jm {i:Nat} {x:Str} (hN:X.N.Nodup) (hi:X.N[i]?=some x) (hx:Loc X.env.scope x) (hf:X.fn x=true\/X.env.scope.names.lookup x=some .local:=by first | exact .inl rfl | exact .inr rfl | assumption):PG X (.Name x pos) (gName i):=by
 intro pins s σ H v u Q I r h;exact wpAny_assign_Name (J38 I hN hi hx r (fun s' I'=>⟨_,H,I',h⟩) hf)
def gNil:TGs:=fun vs σ H Q=>vs=[]/\Q σ H
def gCons (t:TG) (u:TGs):TGs:=fun vs σ H Q=>∃ v r,vs=v :: r/\t v σ H fun σ' H'=>u r σ' H' Q
theorem pgs_nil:PGs X [] gNil:=by
 intro pins s σ H vs us Q I r h;obtain ⟨e,h⟩:=h;subst e;cases r;exact assignInOrder_nil ⟨σ,H,I,h⟩
theorem J17 {e:Expr} {es:List Expr} {t:TG} {u:TGs} (h1:PG X e t) (h2:PGs X es u)
  (hs:(assignEach (e :: es) X.env).map (·.2)=assign e X.env :: (assignEach es X.env).map (·.2):=by rfl):PGs X (e :: es) (gCons t u):=by
 intro pins s σ H vs us Q I r h;obtain ⟨v,vr,e1,h⟩:=h;subst e1
 cases r with
 | cons r rr =>
  rw [hs];refine assignInOrder_cons (thn (h1 pins s σ H _ _ _ I r h) fun _ s1 h9=>?_);obtain ⟨σ1,H1,I1,q1⟩:=h9;exact h2 pins s1 σ1 H1 _ _ Q I1 rr q1
def gTup (K:PySem.W.Frag) (n:Nat) (t:TGs):TG:=fun v σ H Q=>∃ a xs,v=.ref a/\SqT K H a xs/\xs.length=n/\t xs σ H Q
theorem pg_tup {es:List Expr} {k:Nat} {t:TGs} {n:Nat} (hc:X.calm=true) (h:PGs X es t)
  (hn:(assignEach es X.env).length=n:=by rfl) (hst:(assignEach es X.env).findIdx? (·.1)=none:=by rfl):PG X (.Tuple es k pos) (gTup X.K n t):=by
 intro pins s σ H v u Q I r hw;obtain ⟨a,xs,e1,hq,hl,hw⟩:=hw;subst e1;cases r;obtain ⟨its,rv,ht,hz⟩:=I.tuple hq;refine assign_Tuple_tuple (I.ok.hd hc) ht (by simp [hn,<- hl,rv.length]) hst fun h' hx=>?_;have I1:Inv X pins σ H { s with heap:=h' }:=I.kept (t':=s.toks) fun b o e=>hx b o (Nat.ne_of_lt (lt_size e)) e;exact h pins _ σ H xs _ Q I1 (by simpa using rv) hw
def gSub (to ti:TE) (t:TSet):TG:=fun v σ H Q=>to σ H fun o H1=>ti σ H1 fun i H2=>t o i v H2 fun H3=>Q σ H3
theorem pg_sub {o i:Expr} {to ti:TE} {t:TSet} (ho:PE X o to) (hi:PE X i ti) (hs:PSet X t)
  (ha:∀ v,assign (.Subscript o i pos) X.env v=(do
   let ov <- holding [v] (eval o X.env);let iv <- holding [v,ov] (eval i X.env)
   standAt pos
   holding [v,ov,iv] (setItem ov iv v)
   release [v,ov,iv] []):=by intro _;rfl):PG X (.Subscript o i pos) (gSub to ti t):=by
 intro pins s σ H v u Q I r h;rw [ha];refine wpAny_bind (wpAny_holding (thn (ho pins s σ H _ I h) fun ov s1 h9=>?_));obtain ⟨x,H1,I1,r1,q1⟩:=h9;refine wpAny_bind (wpAny_holding (thn (hi pins s1 σ H1 _ I1 q1) fun iv s2 h9=>?_));obtain ⟨y,H2,I2,r2,q2⟩:=h9;refine wpAny_bind (wpAny_standAt (wpAny_bind (wpAny_holding (thn (hs pins s2 σ H2 x y v ov iv u _ I2 r1 r2 r q2) fun _ s3 h9=>?_))));obtain ⟨H3,I3,q3⟩:=h9;exact wpAny_release ⟨σ,H3,I3,q3⟩
def tAsg (te:TE) (g:TG):TS:=fun D σ H=>te σ H fun x H1=>g x σ H1 D.nx
theorem ps_asg {tg e:Expr} {te:TE} {g:TG} (he:PE X e te) (hg:PG X tg g) (hs:swapsWithSole [tg] e pos.line X.env=pure false:=by rfl) (hw:swappedStores [tg] e X.env=pure none:=by rfl)
  (h1:(assignEach [tg] X.env).map (·.2)=[assign tg X.env]:=by rfl):PS X (.Assign [tg] e pos) (tAsg te g):=by
 intro pins s σ H D I h;refine wpAny_Assign_stores (thn (he pins s σ H _ I h) fun v s1 h9=>?_) hs hw;obtain ⟨x,H1,I1,r1,q1⟩:=h9;rw [h1];exact thn (hg pins s1 σ H1 x v _ I1 r1 q1) fun _ s2 q=>q
theorem Je {i:Nat} {x:Str} {e:Expr} {te:TE} {pos':Pos} (hN:X.N.Nodup) (hi:X.N[i]?=some x) (hx:Loc X.env.scope x) (he:PE X e te) (hs:swapsWith e (some (.Name x pos')) pos.line X.env=pure false:=by rfl) (hf:X.fn x=true\/X.env.scope.names.lookup x=some .local:=by first | exact .inl rfl | exact .inr rfl | assumption) :
  PS X (.Assign [.Name x pos'] e pos) (tAsg te (gName i)):=by
 intro pins s σ H D I h;refine wpAny_Assign_Name (thn (he pins s σ H _ I h) fun v s1 h9=>?_) hs;obtain ⟨y,H1,I1,r1,q1⟩:=h9;exact J38 I1 hN hi hx r1 (fun s2 I2=>⟨_,H1,I2,q1⟩) hf
end
section
variable {X:Cx} {pos:Pos}
def tWhile (c:TT) (tb:TS):TS:=fun D σ H=>∃ W:Nat->St->Hp->Prop,(∃ m,W m σ H)/\∀ m σ H,W m σ H->
 c σ H fun b H1=>if b=true then ∃ N:St->Hp->Prop,(∀ σ' H',N σ' H'->∃ m',m' < m/\W m' σ' H')/\tb { D with nx:=N,ct:=N,bk:=D.nx } σ H1 else D.nx σ H1
theorem ps_while {c:Expr} {body:List Stmt} {tc:TT} {tb:TS} (hp:PassesOwn (model X.prog X.w) X.A X.env X.xe) (hc:PT X c tc) (hb:PSs X body tb):PS X (.While c body [] pos) (tWhile tc tb):=by
 intro pins s σ H D I h;obtain ⟨W,⟨m0,w0⟩,turn⟩:=h;refine wpAny_While (codeAny_whileLoop (fun n s'=>∃ σ' H',Inv X pins σ' H' s'/\W n σ' H') ?_ m0 ⟨σ,H,I,w0⟩);rintro n s1 ⟨σ1,H1,I1,w1⟩;refine wpAny_passesOwn hp (thn (hc pins s1 σ1 H1 _ I1 (turn n σ1 H1 w1)) fun b s2 h9=>?_);obtain ⟨H2,I2,q2⟩:=h9
 cases b with
 | true =>
  obtain ⟨N,hN,q2⟩:=q2;rw [if_pos rfl];refine wpAny_passesOwn hp (thn (hb pins s2 σ1 H2 _ I2 q2) fun f s3 q3=>?_)
  cases f with
  | next =>
   obtain ⟨σ3,H3,I3,n3⟩:=q3;obtain ⟨m',hm,w3⟩:=hN σ3 H3 n3;exact ⟨m',hm,σ3,H3,I3,w3⟩
  | cont =>
   obtain ⟨σ3,H3,I3,n3⟩:=q3;obtain ⟨m',hm,w3⟩:=hN σ3 H3 n3;exact ⟨m',hm,σ3,H3,I3,w3⟩
  | brk=>exact q3
  | ret v=>exact q3
 | false =>
  rw [if_neg Bool.false_ne_true];exact wpAny_execs_nil ⟨σ1,H2,I2,q2⟩
end
structure It where
 go:Nat->Hp->Prop
 yld:Nat->Hp->V->Hp->Prop
 stop:Nat->Hp->Prop
def FpOk (X:Cx) (pins:List (Addr × Obj)) (H:Hp) (b:Addr):Prop :=
 H b=none/\b≠X.env.locals/\b ∉ X.fs/\(b∈X.ex\/X.s₀.heap.objs.size<=b)/\(∀ x c,X.env.cells.lookup x=some c->c≠b)/\∀ p∈X.pn ++ pins,p.1≠b
theorem Inv.fpOk {X:Cx} {pins:List (Addr × Obj)} {σ:St} {H H':Hp} {s:Shared} {b:Addr} (I:Inv X pins σ H s) (hb:s.heap.objs.size<=b) (hn:H' b=none):FpOk X pins H' b:=by
 refine ⟨hn,Nat.ne_of_gt (Nat.lt_of_lt_of_le I.lt hb),I.nofs hb,.inr (Nat.le_trans I.sz hb),fun x c e z=>?_,fun p hp z=>?_⟩
 ·obtain ⟨v,q⟩:=I.cell x c e;exact absurd (Nat.lt_of_lt_of_le q.lt (by rw [z];exact hb)) (Nat.lt_irrefl _)
 ·exact absurd (Nat.lt_of_lt_of_le (lt_size (I.pin p hp).1) (by rw [z];exact hb)) (Nat.lt_irrefl _)
structure Turn (P:Program) (w:World) (K:PySem.W.Frag) (tg:Expr) (J:It) (fp:List Addr) (it:Addr) (tn:Nat->Heap->Prop):Prop where
 mem:it∈fp
 obj:∀ i h,tn i h->∀ b∈fp,∃ o,h.get? b=some o/\∀ v,o.data≠.cell v
 keep:∀ i h h',tn i h->(∀ b∈fp,∀ o,h.get? b=some o->h'.get? b=some o)->tn i h'
 item:∀ (X:Cx),X.prog=P->X.w=w->X.K=K->X.calm=true->∀ (i:Nat) (pins:List (Addr × Obj)) (s:Shared) (σ:St) (H:Hp) (E:Value->Shared->Prop),Inv X pins σ H s->(∀ b∈fp,FpOk X pins H b)->tn i s.heap->J.go i H->
  wpAny (model P w) X.A (pyNext (.ref it)) (fun r s1=>∃ u,r=some u/\
   wpAny (model P w) X.A (letOwnedTupleGo tg (.ref it) u) (fun _ s2=>∃ x H',Inv X pins σ H' s2/\RelV x u/\J.yld i H x H'/\tn (i + 1) s2.heap/\∀ b∈fp,H' b=none) E s1) E s
 done:∀ (X:Cx),X.prog=P->X.w=w->X.K=K->X.calm=true->∀ (i:Nat) (pins:List (Addr × Obj)) (s:Shared) (σ:St) (H:Hp) (E:Value->Shared->Prop),Inv X pins σ H s->(∀ b∈fp,FpOk X pins H b)->tn i s.heap->J.stop i H->
  wpAny (model P w) X.A (pyNext (.ref it)) (fun r s1=>r=none/\Inv X pins σ H s1) E s
 self:∀ (A:Around) (i:Nat) (s:Shared) (Q:Value->Shared->Prop) (E:Value->Shared->Prop),tn i s.heap->Q (.ref it) s->wpAny (model P w) A (pyIter (.ref it)) Q E s
abbrev TI:=St->Hp->(It->Hp->Prop)->Prop
def PIE (X:Cx) (pins:List (Addr × Obj)) (σ:St) (tg:Expr) (R:It->Hp->Prop) (itv:Value) (s2:Shared):Prop :=
 ∃ (it:Addr) (fp:List Addr) (tn:Nat->Heap->Prop) (J:It) (H':Hp),itv=.ref it/\Inv X pins σ H' s2/\Turn X.prog X.w X.K tg J fp it tn/\tn 0 s2.heap/\(∀ b∈fp,FpOk X pins H' b)/\R J H'
def PI (X:Cx) (tg iter:Expr) (wi:TI):Prop :=
 ∀ (pins:List (Addr × Obj)) (s:Shared) (σ:St) (H:Hp) (R:It->Hp->Prop),Inv X pins σ H s->wi σ H R->
  wpAny (model X.prog X.w) X.A (eval iter X.env) (fun v s1=>wpAny (model X.prog X.w) X.A (pyIter v) (PIE X pins σ tg R) X.xe s1) X.xe s
theorem go_of {M : Model} {A : Around} {E : Value -> Shared -> Prop} {s : Shared} {tg : Expr} {it : Addr} {u : Value} {o : Obj} {n : String} {vs : Array Value} {Q : Unit -> Shared -> Prop} (ho : s.heap.get? it = some o) (hc : o.cls = .type n) (hd : o.data = .fields vs)
    (hn : ["enumerate", "zip", "dict_itemiterator", "dict_reverseitemiterator", "odict_iterator", "itertools.zip_longest", "itertools.pairwise"].contains n = false) (hQ : Q () s) : wpAny M A (letOwnedTupleGo tg (.ref it) u) Q E s := by
  unfold letOwnedTupleGo;cases tg <;> first
    | exact wpAny_pure hQ
    | (cases u <;> first
        | exact wpAny_pure hQ
        | (refine wpAny_bind (wpAny_load ho ?_)
           rw [hc, hd];show wpAny M A (if (["enumerate", "zip", "dict_itemiterator", "dict_reverseitemiterator", "odict_iterator", "itertools.zip_longest", "itertools.pairwise"].contains n && vs[0]? == some (rawInt _)) = true then _ else _) Q E s;rw [if_neg (by intro h; rw [hn, Bool.false_and] at h; cases h)];exact wpAny_pure hQ))
def Itl (K:PySem.W.Frag) (a:Addr):It :=
 ⟨fun i H=>∃ xs x,SqL K H a xs/\xs[i]?=some x,fun i H x H'=>H'=H/\∀ xs,SqL K H a xs->xs[i]?=some x,fun i H=>∃ xs,SqL K H a xs/\xs.length<=i⟩
def Itt (K:PySem.W.Frag) (a:Addr):It :=
 ⟨fun i H=>∃ xs x,SqT K H a xs/\xs[i]?=some x,fun i H x H'=>H'=H/\∀ xs,SqT K H a xs->xs[i]?=some x,fun i H=>∃ xs,SqT K H a xs/\xs.length<=i⟩
def Itr (lo:Int) (n:Nat):It:=⟨fun i _=>i < n,fun i H x H'=>H'=H/\x=.int (lo + i),fun i _=>n<=i⟩
theorem turn_list {P:Program} {w:World} {K:PySem.W.Frag} {tg:Expr} (a it:Addr):Turn P w K tg (Itl K a) [it] it (fun i h=>h.IsListIter it a i) where
 mem:=by simp
 obj:=fun i h st b hb=>by
  have e:b=it:=by simpa using hb
  subst e;obtain ⟨o,e,c,d⟩:=st;exact ⟨o,e,fun v z=>by rw [d] at z;cases z⟩
 keep:=fun i h h' st k=>st.at fun o e=>k it (by simp) o e
 item:=by
  intro X hP hw hK hc i pins s σ H E I hf st hg;subst hP hw hK;obtain ⟨xs,x,hq,hx⟩:=hg;obtain ⟨its,rv,p,hz⟩:=I.list hq;obtain ⟨u,hu,ru⟩:=rv.get hx;obtain ⟨f0,f1,f2,f3,f4,f5⟩:=hf it (by simp);refine wpAny_pyNext_list_item st p.isList (x:=u) (by simpa using hu) fun h' st' sb=>?_;have I1:Inv X pins σ H { s with heap:=h' }:=I.turned (t':=s.toks) (fun b o hb e=>(sb.2 b hb).trans e) f0 f1 f3 f4 f5;obtain ⟨o,e,c,d⟩:=id st';exact ⟨u,rfl,go_of (s:={ s with heap:=h' }) e c d (by decide) ⟨x,H,I1,ru,⟨rfl,fun ys hy=>by rw [I.list_inj hy hq];exact hx⟩,st',fun b hb=>(hf b hb).1⟩⟩
 done:=by
  intro X hP hw hK hc i pins s σ H E I hf st hg;subst hP hw hK;obtain ⟨xs,hq,hx⟩:=hg;obtain ⟨its,rv,p,hz⟩:=I.list hq;obtain ⟨f0,f1,f2,f3,f4,f5⟩:=hf it (by simp);have hl:=rv.length;exact wpAny_pyNext_list_end (I.ok.hd hc) st p.isList (by simp;lia) fun h' eb=>⟨rfl,I.turned (t':=s.toks) (fun b o hb e=>eb b o hb e) f0 f1 f3 f4 f5⟩
 self:=fun _ _ _ _ _ st h=>wpAny_pyIter_listiter st h
theorem turn_tuple {P:Program} {w:World} {K:PySem.W.Frag} {tg:Expr} (a it:Addr):Turn P w K tg (Itt K a) [it] it (fun i h=>h.IsTupleIter it a i) where
 mem:=by simp
 obj:=fun i h st b hb=>by
  have e:b=it:=by simpa using hb
  subst e;obtain ⟨o,e,c,d⟩:=st;exact ⟨o,e,fun v z=>by rw [d] at z;cases z⟩
 keep:=fun i h h' st k=>st.at fun o e=>k it (by simp) o e
 item:=by
  intro X hP hw hK hc i pins s σ H E I hf st hg;subst hP hw hK;obtain ⟨xs,x,hq,hx⟩:=hg;obtain ⟨its,rv,p,hz⟩:=I.tuple hq;obtain ⟨u,hu,ru⟩:=rv.get hx;obtain ⟨f0,f1,f2,f3,f4,f5⟩:=hf it (by simp);refine wpAny_pyNext_tuple_item st (show s.heap.IsTuple a its.toArray from p) (x:=u) (by simpa using hu) fun h' st' sb=>?_;have I1:Inv X pins σ H { s with heap:=h' }:=I.turned (t':=s.toks) (fun b o hb e=>(sb.2 b hb).trans e) f0 f1 f3 f4 f5;obtain ⟨o,e,c,d⟩:=id st';exact ⟨u,rfl,go_of (s:={ s with heap:=h' }) e c d (by decide) ⟨x,H,I1,ru,⟨rfl,fun ys hy=>by rw [I.tuple_inj hy hq];exact hx⟩,st',fun b hb=>(hf b hb).1⟩⟩
 done:=by
  intro X hP hw hK hc i pins s σ H E I hf st hg;subst hP hw hK;obtain ⟨xs,hq,hx⟩:=hg;obtain ⟨its,rv,p,hz⟩:=I.tuple hq;obtain ⟨f0,f1,f2,f3,f4,f5⟩:=hf it (by simp);have hl:=rv.length;exact wpAny_pyNext_tuple_end (I.ok.hd hc) st (show s.heap.IsTuple a its.toArray from p) (by simp;lia) fun h' eb=>⟨rfl,I.turned (t':=s.toks) (fun b o hb e=>eb b o hb e) f0 f1 f3 f4 f5⟩
 self:=fun _ _ _ _ _ st h=>wpAny_pyIter_tupleiter st h
theorem turn_range {P:Program} {w:World} {K:PySem.W.Frag} {tg:Expr} (it:Addr) (lo:Int) (n:Nat):Turn P w K tg (Itr lo n) [it] it (fun i h=>IsRangeIter h it (lo + (i:Nat) * 1) ((n:Int) - (i:Nat)) 1) where
 mem:=by simp
 obj:=fun i h st b hb=>by
  have e:b=it:=by simpa using hb
  subst e;exact ⟨_,st,fun v z=>by
   have z':Data.fields _=Data.cell v:=z;cases z'⟩
 keep:=fun i h h' st k=>k it (by simp) _ st
 item:=by
  intro X hP hw hK hc i pins s σ H E I hf st hg;subst hP hw hK;obtain ⟨f0,f1,f2,f3,f4,f5⟩:=hf it (by simp);have W:=Walks.range (prog:=X.prog) (w:=X.w) (I.ok.hd hc) it lo 1 n;refine W.item i s _ _ hg st fun v h' tk hv st' kk=>?_;obtain ⟨t,rfl⟩:=hv;have I1:Inv X pins σ H { s with heap:=h',toks:=tk }:=I.turned (fun b o hb e=>kk b o (by simpa using hb) e) f0 f1 f3 f4 f5;refine ⟨_,rfl,go_of (s:={ s with heap:=h',toks:=tk }) (n:="range_iterator") st' rfl rfl (by decide) ⟨.int (lo + i),H,I1,⟨t,?_⟩,⟨rfl,rfl⟩,st',fun b hb=>(hf b hb).1⟩⟩;rw [Int.mul_one]
 done:=by
  intro X hP hw hK hc i pins s σ H E I hf st hg;subst hP hw hK;obtain ⟨f0,f1,f2,f3,f4,f5⟩:=hf it (by simp);exact wpAny_pyNext_range_end (I.ok.hd hc) st (by have:n<=i:=hg;lia) fun h' eb=>⟨rfl,I.turned (t':=s.toks) (fun b o hb e=>eb b o hb e) f0 f1 f3 f4 f5⟩
 self:=fun _ _ _ _ _ st h=>wpAny_pyIter_rangeiter st h
end L2
namespace L2
open PySem PySem.Spec PyProof.Rows
section
variable {X:Cx} {tg:Expr}
def iList (K:PySem.W.Frag) (tl:TE):TI:=fun σ H R=>tl σ H fun x H1=>∃ a,x=.ref a/\(∃ xs,SqL K H1 a xs)/\R (Itl K a) H1
def iTup (K:PySem.W.Frag) (tl:TE):TI:=fun σ H R=>tl σ H fun x H1=>∃ a,x=.ref a/\(∃ xs,SqT K H1 a xs)/\R (Itt K a) H1
theorem J13 {l:Expr} {tl:TE} (hl:PE X l tl):PI X tg l (iList X.K tl):=by
 intro pins s σ H R I h;refine thn (hl pins s σ H _ I h) fun v s1 h9=>?_;obtain ⟨x,H1,I1,r1,q1⟩:=h9;obtain ⟨a,e,⟨xs,hq⟩,q⟩:=q1;subst e;cases r1;obtain ⟨its,rv,p,hz⟩:=I1.list hq;refine wpAny_pyIter_list p.isList ?_;refine ⟨s1.heap.objs.size,[s1.heap.objs.size],_,_,H1,rfl,I1.kept (t':=s1.toks) fun b o e=>get?_push_of_some _ e,turn_list a _,⟨_,get?_push_size _ rfl,rfl,rfl⟩,fun b hb=>?_,q⟩;have e:b=s1.heap.objs.size:=by simpa using hb
 subst e;exact I1.fpOk (Nat.le_refl _) (I1.hok.fresh (Nat.le_refl _))
theorem pi_tup {l:Expr} {tl:TE} (hl:PE X l tl):PI X tg l (iTup X.K tl):=by
 intro pins s σ H R I h;refine thn (hl pins s σ H _ I h) fun v s1 h9=>?_;obtain ⟨x,H1,I1,r1,q1⟩:=h9;obtain ⟨a,e,⟨xs,hq⟩,q⟩:=q1;subst e;cases r1;obtain ⟨its,rv,p,hz⟩:=I1.tuple hq;refine wpAny_pyIter_tuple (show s1.heap.IsTuple a its.toArray from p) ?_;refine ⟨s1.heap.objs.size,[s1.heap.objs.size],_,_,H1,rfl,I1.kept (t':=s1.toks) fun b o e=>get?_push_of_some _ e,turn_tuple a _,⟨_,get?_push_size _ rfl,rfl,rfl⟩,fun b hb=>?_,q⟩;have e:b=s1.heap.objs.size:=by simpa using hb
 subst e;exact I1.fpOk (Nat.le_refl _) (I1.hok.fresh (Nat.le_refl _))
theorem range_it {pins:List (Addr × Obj)} {σ:St} {H:Hp} {s:Shared} {R:It->Hp->Prop} {E:Value->Shared->Prop} {lo hi:Int} {t u v:Tok} {tk:Nat} (I:Inv X pins σ H s) (h1:-(2 ^ 62)<=lo) (h2:lo < 2 ^ 62) (h3:-(2 ^ 62)<=hi) (h4:hi < 2 ^ 62)
  (q:R (Itr lo (hi - lo).toNat) H):wpAny (model X.prog X.w) X.A (pyIter (.ref s.heap.objs.size)) (PIE X pins σ tg R) E { s with heap:=s.heap.push { cls:=.type "range",data:=.fields #[.int lo t,.int hi u,.int 1 v] },toks:=tk }:=by
 refine wpAny_pyIter_range (IsRange.new ..) (small_one h1 h2 h3 h4) ?_;have I1:Inv X pins σ H { s with heap:=s.heap.push { cls:=.type "range",data:=.fields #[.int lo t,.int hi u,.int 1 v] },toks:=tk }:=I.kept fun b o e=>get?_push_of_some _ e;refine ⟨(s.heap.push { cls:=.type "range",data:=.fields #[.int lo t,.int hi u,.int 1 v] }).objs.size,[(s.heap.push { cls:=.type "range",data:=.fields #[.int lo t,.int hi u,.int 1 v] }).objs.size],_,_,H,rfl,
  I1.kept (t':=tk) fun b o e=>get?_push_of_some _ e,turn_range _ lo (hi - lo).toNat,?_,fun b hb=>?_,q⟩
 ·have e1:lo + ((0:Nat):Int) * 1=lo:=by simp
  have e2:(((hi - lo).toNat:Nat):Int) - ((0:Nat):Int)=Builtin.Range.rangeSize lo hi 1:=by rw [rangeSize_one];split <;> lia
  show IsRangeIter _ _ (lo + ((0:Nat):Int) * 1) ((((hi - lo).toNat:Nat):Int) - ((0:Nat):Int)) 1;rw [e1,e2];exact get?_push_size _ rfl
 ·have e:b=(s.heap.push { cls:=.type "range",data:=.fields #[.int lo t,.int hi u,.int 1 v] }).objs.size:=by simpa using hb
  subst e;exact I1.fpOk (Nat.le_refl _) (I1.hok.fresh (Nat.le_refl _))
def iRng1 (ta:TA):TI:=fun σ H R=>ta σ H fun vs H1=>∃ j:Int,vs=[.int j]/\-(2 ^ 62)<=j/\j < 2 ^ 62/\R (Itr 0 j.toNat) H1
theorem J15 {a:Expr} {ta:TA} {p pos:Pos} (hg:Gl X "range") (hm:X.mg "range"=none) (ha:PA X [a] ta) (hs:starEach [a] X.env=[(false,eval a X.env)]:=by rfl):PI X tg (.Call (.Name "range" p) [a] [] pos) (iRng1 ta):=by
 intro pins s σ H R I h;refine Call_ (J4k I hg hm boot_range (callWith_type1 (thn (ha pos pins s σ H _ I h) fun us s1 h9=>?_) hs rfl));obtain ⟨vs,H1,I1,r1,q1⟩:=h9;obtain ⟨j,e,q1,q2,q⟩:=q1;subst e
 cases r1 with
 | cons r rr =>
  cases rr;obtain ⟨t,rfl⟩:=r;exact call_range_1 (range_it I1 (by lia) (by lia) q1 q2 (by simpa using q))
def tFor (wi:TI) (g:TG) (tb:TS):TS:=fun D σ H=>wi σ H fun J H1=>∃ W:Nat->Nat->St->Hp->Prop,(∃ m,W 0 m σ H1)/\∀ i m σ H,W i m σ H->
 (J.stop i H/\D.nx σ H)\/(J.go i H/\∃ N:St->Hp->Prop,(∀ σ' H',N σ' H'->∃ m',m' < m/\W (i + 1) m' σ' H')/\∀ x H',J.yld i H x H'->g x σ H' fun σ2 H2=>tb { D with nx:=N,ct:=N,bk:=D.nx } σ2 H2)
def pinsAt (fp:List Addr) (h:Heap):List (Addr × Obj):=fp.filterMap fun b=>(h.get? b).map fun o=>(b,o)
theorem J18 {fp:List Addr} {h:Heap} {b:Addr} {o:Obj} (hb:b∈fp) (e:h.get? b=some o):(b,o)∈pinsAt fp h:=List.mem_filterMap.mpr ⟨b,hb,by rw [e];rfl⟩
theorem of_pinsAt {fp:List Addr} {h:Heap} {p:Addr × Obj} (hp:p∈pinsAt fp h):p.1∈fp/\h.get? p.1=some p.2:=by
 obtain ⟨b,hb,e⟩:=List.mem_filterMap.mp hp
 cases q:h.get? b with
 | none=>rw [q] at e;cases e
 | some o =>
  rw [q] at e;have e':(b,o)=p:=Option.some.inj e;subst e';exact ⟨hb,q⟩
theorem Inv.pinned {pins:List (Addr × Obj)} {σ:St} {H:Hp} {s:Shared} {fp:List Addr} (I:Inv X pins σ H s) (hf:∀ b∈fp,FpOk X pins H b) (ho:∀ b∈fp,∃ o,s.heap.get? b=some o/\∀ v,o.data≠.cell v):Inv X (pins ++ pinsAt fp s.heap) σ H s :=
 I.pins_of fun p hp=>(mem_append.mp hp).elim (fun z=>I.pin p (mem_append_right _ z)) fun z=>by
  obtain ⟨hb,e⟩:=of_pinsAt z;obtain ⟨f0,f1,f2,_⟩:=hf p.1 hb;obtain ⟨o,e',d⟩:=ho p.1 hb;rw [e] at e';cases e';exact ⟨e,f0,f1,f2,d⟩
theorem Inv.unpinned {pins pl:List (Addr × Obj)} {σ:St} {H:Hp} {s:Shared} (I:Inv X (pins ++ pl) σ H s):Inv X pins σ H s:=I.pins_of fun p hp=>I.pin p (mem_append_right _ (List.mem_append_left _ hp))
theorem J1s {iter:Expr} {body:List Stmt} {wi:TI} {g:TG} {tb:TS} {pos:Pos} (hp:PassesOwn (model X.prog X.w) X.A X.env X.xe) (hc:X.calm=true) (hi:PI X tg iter wi) (hg:PG X tg g) (hb:PSs X body tb)
  (hs:∀ x,foldedSetIterable iter X.env x=pure x:=by intro _;rfl):PS X (.For tg iter body [] pos) (tFor wi g tb):=by
 intro pins s σ H D I h;refine wpAny_For (thn (hi pins s σ H _ I h) fun v s1 h1=>thn h1 fun itv s2 h2=>?_) hs;obtain ⟨it,fp,tn,J,H2,e,I2,T,st2,f2,W,⟨m0,w0⟩,turn⟩:=h2;subst e;have stat:∀ {H':Hp},(∀ b∈fp,H' b=none)->∀ b∈fp,FpOk X pins H' b:=fun hn b hb=>⟨hn b hb,(f2 b hb).2⟩;refine codeAny_forLoop_any (fun n s'=>∃ i σ' H',Inv X pins σ' H' s'/\tn i s'.heap/\(∀ b∈fp,H' b=none)/\W i n σ' H') ?_ m0 ⟨0,σ,H2,I2,st2,fun b hb=>(f2 b hb).1,w0⟩;rintro n s3 ⟨i,σ3,H3,I3,st3,fr3,w3⟩;rcases turn i n σ3 H3 w3 with ⟨stop,qn⟩ | ⟨go,N,hN,step⟩
 ·refine wpAny_passesOwn hp (thn (T.done X rfl rfl rfl hc i pins s3 σ3 H3 X.xe I3 (stat fr3) st3 stop) fun r s4 h9=>?_);obtain ⟨hr,I4⟩:=h9;subst hr;exact wpAny_execs_nil ⟨σ3,H3,I4,qn⟩
 ·refine wpAny_passesOwn hp (thn (T.item X rfl rfl rfl hc i pins s3 σ3 H3 X.xe I3 (stat fr3) st3 go) fun r s4 h9=>?_);obtain ⟨u,hr,h4⟩:=h9;subst hr;refine wpAny_passesOwn hp (thn h4 fun _ s5 h9=>?_);obtain ⟨x,H5,I5,r5,y5,st5,fr5⟩:=h9;have I5':=I5.pinned (stat fr5) (T.obj _ _ st5);refine wpAny_passesOwn hp (thn (hg _ s5 σ3 H5 x u _ I5' r5 (step x H5 y5)) fun _ s6 h9=>?_);obtain ⟨σ6,H6,I6,q6⟩:=h9;refine wpAny_passesOwn hp (thn (hb _ s6 σ6 H6 _ I6 q6) fun f s7 q7=>?_);have again:∀ {σ7:St} {H7:Hp},Inv X (pins ++ pinsAt fp s5.heap) σ7 H7 s7->N σ7 H7->∃ m,m < n/\∃ i σ' H',Inv X pins σ' H' s7/\tn i s7.heap/\(∀ b∈fp,H' b=none)/\W i m σ' H':=fun {σ7 H7} I7 n7=>by
   obtain ⟨m',hm,w7⟩:=hN σ7 H7 n7;refine ⟨m',hm,i + 1,σ7,H7,I7.unpinned,T.keep _ _ _ st5 fun b hb o e=>(I7.pin (b,o) (mem_append_right _ (mem_append_right _ (J18 hb e)))).1,fun b hb=>?_,w7⟩;obtain ⟨o,e,d⟩:=T.obj _ _ st5 b hb;exact (I7.pin (b,o) (mem_append_right _ (mem_append_right _ (J18 hb e)))).2.1
  cases f with
  | next=>obtain ⟨σ7,H7,I7,n7⟩:=q7;exact again I7 n7
  | cont=>obtain ⟨σ7,H7,I7,n7⟩:=q7;exact again I7 n7
  | brk=>obtain ⟨σ7,H7,I7,q7⟩:=q7;exact ⟨σ7,H7,I7.unpinned,q7⟩
  | ret v=>obtain ⟨x7,σ7,H7,I7,r7,q7⟩:=q7;exact ⟨x7,σ7,H7,I7.unpinned,r7,q7⟩
end
theorem J1k {K:PySem.W.Frag} {a:Addr} {xs:List V} {g:TG} {tb:TS} {D:Ends} {σ:St} {H:Hp} (Pv:Nat->St->Hp->Prop) (h0:Pv 0 σ H) (hl:∀ i σ H,i<=xs.length->Pv i σ H->SqL K H a xs)
  (hs:∀ i x σ H,xs[i]?=some x->Pv i σ H->g x σ H fun σ2 H2=>tb { D with nx:=Pv (i + 1),ct:=Pv (i + 1),bk:=D.nx } σ2 H2) (hd:∀ σ H,Pv xs.length σ H->D.nx σ H) :
  ∃ W:Nat->Nat->St->Hp->Prop,(∃ m,W 0 m σ H)/\∀ i m σ H,W i m σ H->
   ((Itl K a).stop i H/\D.nx σ H)\/((Itl K a).go i H/\∃ N:St->Hp->Prop,(∀ σ' H',N σ' H'->∃ m',m' < m/\W (i + 1) m' σ' H')/\∀ x H',(Itl K a).yld i H x H'->g x σ H' fun σ2 H2=>tb { D with nx:=N,ct:=N,bk:=D.nx } σ2 H2):=by
 refine ⟨fun i m σ H=>m=xs.length - i/\i<=xs.length/\Pv i σ H,⟨xs.length,by simp,Nat.zero_le _,h0⟩,?_⟩;rintro i m σ H ⟨rfl,hi,p⟩;have q:=hl i σ H hi p;by_cases hlt:i < xs.length
 ·refine .inr ⟨⟨xs,xs[i],q,by simp [hlt]⟩,Pv (i + 1),fun σ' H' p'=>⟨xs.length - (i + 1),by lia,rfl,hlt,p'⟩,fun x H' y=>?_⟩;obtain ⟨e,y⟩:=y;subst e;exact hs i x σ _ (y xs q) p
 ·have e:i=xs.length:=by lia
  subst e;exact .inl ⟨⟨xs,q,Nat.le_refl _⟩,hd σ H p⟩
theorem for_tup {K:PySem.W.Frag} {a:Addr} {xs:List V} {g:TG} {tb:TS} {D:Ends} {σ:St} {H:Hp} (Pv:Nat->St->Hp->Prop) (h0:Pv 0 σ H) (hl:∀ i σ H,i<=xs.length->Pv i σ H->SqT K H a xs)
  (hs:∀ i x σ H,xs[i]?=some x->Pv i σ H->g x σ H fun σ2 H2=>tb { D with nx:=Pv (i + 1),ct:=Pv (i + 1),bk:=D.nx } σ2 H2) (hd:∀ σ H,Pv xs.length σ H->D.nx σ H) :
  ∃ W:Nat->Nat->St->Hp->Prop,(∃ m,W 0 m σ H)/\∀ i m σ H,W i m σ H->
   ((Itt K a).stop i H/\D.nx σ H)\/((Itt K a).go i H/\∃ N:St->Hp->Prop,(∀ σ' H',N σ' H'->∃ m',m' < m/\W (i + 1) m' σ' H')/\∀ x H',(Itt K a).yld i H x H'->g x σ H' fun σ2 H2=>tb { D with nx:=N,ct:=N,bk:=D.nx } σ2 H2):=by
 refine ⟨fun i m σ H=>m=xs.length - i/\i<=xs.length/\Pv i σ H,⟨xs.length,by simp,Nat.zero_le _,h0⟩,?_⟩;rintro i m σ H ⟨rfl,hi,p⟩;have q:=hl i σ H hi p;by_cases hlt:i < xs.length
 ·refine .inr ⟨⟨xs,xs[i],q,by simp [hlt]⟩,Pv (i + 1),fun σ' H' p'=>⟨xs.length - (i + 1),by lia,rfl,hlt,p'⟩,fun x H' y=>?_⟩;obtain ⟨e,y⟩:=y;subst e;exact hs i x σ _ (y xs q) p
 ·have e:i=xs.length:=by lia
  subst e;exact .inl ⟨⟨xs,q,Nat.le_refl _⟩,hd σ H p⟩
theorem J1z {lo:Int} {n:Nat} {g:TG} {tb:TS} {D:Ends} {σ:St} {H:Hp} (Pv:Nat->St->Hp->Prop) (h0:Pv 0 σ H)
  (hs:∀ i σ H,i < n->Pv i σ H->g (.int (lo + i)) σ H fun σ2 H2=>tb { D with nx:=Pv (i + 1),ct:=Pv (i + 1),bk:=D.nx } σ2 H2) (hd:∀ σ H,Pv n σ H->D.nx σ H) :
  ∃ W:Nat->Nat->St->Hp->Prop,(∃ m,W 0 m σ H)/\∀ i m σ H,W i m σ H->
   ((Itr lo n).stop i H/\D.nx σ H)\/((Itr lo n).go i H/\∃ N:St->Hp->Prop,(∀ σ' H',N σ' H'->∃ m',m' < m/\W (i + 1) m' σ' H')/\∀ x H',(Itr lo n).yld i H x H'->g x σ H' fun σ2 H2=>tb { D with nx:=N,ct:=N,bk:=D.nx } σ2 H2):=by
 refine ⟨fun i m σ H=>m=n - i/\i<=n/\Pv i σ H,⟨n,by simp,Nat.zero_le _,h0⟩,?_⟩;rintro i m σ H ⟨rfl,hi,p⟩;by_cases hlt:i < n
 ·refine .inr ⟨hlt,Pv (i + 1),fun σ' H' p'=>⟨n - (i + 1),by lia,rfl,hlt,p'⟩,fun x H' y=>?_⟩;obtain ⟨e,y⟩:=y;subst e y;exact hs i σ _ hlt p
 ·have e:i=n:=by lia
  subst e;exact .inl ⟨Nat.le_refl _,hd σ H p⟩
end L2
namespace L2
open PySem PySem.Spec PyProof.Rows
abbrev R2:=V->V->Hp->VK->Prop
def OpR (X:Cx) (f:Value->Value->Sem Value) (r:R2):Prop :=
 ∀ (pins:List (Addr × Obj)) (s:Shared) (σ:St) (H:Hp) (x y:V) (v u:Value) (Q:VK),Inv X pins σ H s->RelV x v->RelV y u->r x y H Q->
  wpAny (model X.prog X.w) X.A (f v u) (EP X pins σ Q) X.xe s
def UnR (X:Cx) (f:Value->Sem Value) (r:V->Hp->VK->Prop):Prop :=
 ∀ (pins:List (Addr × Obj)) (s:Shared) (σ:St) (H:Hp) (x:V) (v:Value) (Q:VK),Inv X pins σ H s->RelV x v->r x H Q->
  wpAny (model X.prog X.w) X.A (f v) (EP X pins σ Q) X.xe s
def CallR (X:Cx) (f:Value) (r:List V->Hp->VK->Prop):Prop :=
 ∀ (pins:List (Addr × Obj)) (s:Shared) (σ:St) (H:Hp) (xs:List V) (us:List Value) (Q:VK),Inv X pins σ H s->Vals xs us->r xs H Q->
  wpAny (model X.prog X.w) X.A (call f us) (EP X pins σ Q) X.xe s
def TruR (X:Cx) (r:V->Hp->(Bool->Hp->Prop)->Prop):Prop :=
 ∀ (pins:List (Addr × Obj)) (s:Shared) (σ:St) (H:Hp) (x:V) (v:Value) (Q:Bool->Hp->Prop),Inv X pins σ H s->RelV x v->r x H Q->
  wpAny (model X.prog X.w) X.A (truthy v) (TP X pins σ Q) X.xe s
def tOp (r:R2) (ta tb:TE):TE:=fun σ H Q=>ta σ H fun x H1=>tb σ H1 fun y H2=>r x y H2 Q
def tUn (r:V->Hp->VK->Prop) (ta:TE):TE:=fun σ H Q=>ta σ H fun x H1=>r x H1 Q
def rI (C:Int->Int->Prop) (g:Int->Int->V):R2:=fun x y H Q=>∃ i j,x=.int i/\y=.int j/\C i j/\Q (g i j) H
def rI0 (g:Int->Int->V):R2:=fun x y H Q=>∃ i j,x=.int i/\y=.int j/\Q (g i j) H
def rU (g:Int->V):V->Hp->VK->Prop:=fun x H Q=>∃ i,x=.int i/\Q (g i) H
section
variable {X:Cx} {a b c:Expr} {ta tb tc:TE} {pos:Pos}
theorem binT (ha:PE X a ta) (hb:PE X b tb) {pins:List (Addr × Obj)} {s:Shared} {σ:St} {H:Hp} {R:V->V->Hp->Prop} (I:Inv X pins σ H s)
  (h:ta σ H fun x H1=>tb σ H1 fun y H2=>R x y H2) {Q:Value->Shared->Prop} {f:Value->Value->Sem Value}
  (hf:∀ v u s2 x y H2,Inv X pins σ H2 s2->RelV x v->RelV y u->R x y H2->wpAny (model X.prog X.w) X.A (f v u) Q X.xe s2) :
  wpAny (model X.prog X.w) X.A (eval a X.env) (fun v s₁=>wpAny (model X.prog X.w) X.A (eval b X.env) (fun u s₂=>wpAny (model X.prog X.w) X.A (f v u) Q X.xe s₂) X.xe s₁) X.xe s:=by
 refine thn (ha pins s σ H _ I h) fun v s1 h9=>?_;obtain ⟨x,H1,I1,r1,q1⟩:=h9;refine thn (hb pins s1 σ H1 _ I1 q1) fun u s2 h9=>?_;obtain ⟨y,H2,I2,r2,q2⟩:=h9;exact hf v u s2 x y H2 I2 r1 r2 q2
theorem pe_op {op:Operator} {r:R2} (ho:OpR X (binaryOp op) r) (ha:PE X a ta) (hb:PE X b tb):PE X (.BinOp a op b pos) (tOp r ta tb):=by
 intro pins s σ H Q I h;exact wpAny_BinOp (binT ha hb I h fun v u s2 x y H2 I2 rx ry q=>ho pins s2 σ H2 x y v u Q I2 rx ry q)
theorem pe_un {op:UnaryOp} {r:V->Hp->VK->Prop} (ho:UnR X (unaryOp op) r) (ha:PE X a ta):PE X (.UnaryOp op a pos) (tUn r ta):=by
 intro pins s σ H Q I h;exact UnaryOp_ (thn (ha pins s σ H _ I h) fun v s1 h9=>by obtain ⟨x,H1,I1,r1,q1⟩:=h9;exact ho pins s1 σ H1 x v Q I1 r1 q1)
theorem opI {f:Value->Value->Sem Value} {C:Int->Int->Prop} {g:Int->Int->Int}
  (rule:∀ (i j:Int) (t u:Tok) (s:Shared) (Q:Value->Shared->Prop) (E:Value->Shared->Prop),C i j->Q (.int (g i j) s.toks) { s with toks:=s.toks + 1 }->wpAny (model X.prog X.w) X.A (f (.int i t) (.int j u)) Q E s) :
  OpR X f (rI C fun i j=>.int (g i j)):=by
 intro pins s σ H x y v u Q I rx ry h;obtain ⟨i,j,rfl,rfl,hc,q⟩:=h;obtain ⟨t,rfl⟩:=rx;obtain ⟨t',rfl⟩:=ry;exact rule i j t t' s _ _ hc ⟨.int (g i j),H,I.tok _,⟨_,rfl⟩,q⟩
theorem opI0 {f:Value->Value->Sem Value} {g:Int->Int->Int}
  (rule:∀ (i j:Int) (t u:Tok) (s:Shared) (Q:Value->Shared->Prop) (E:Value->Shared->Prop),Q (.int (g i j) s.toks) { s with toks:=s.toks + 1 }->wpAny (model X.prog X.w) X.A (f (.int i t) (.int j u)) Q E s) :
  OpR X f (rI0 fun i j=>.int (g i j)):=by
 intro pins s σ H x y v u Q I rx ry h;obtain ⟨i,j,rfl,rfl,q⟩:=h;obtain ⟨t,rfl⟩:=rx;obtain ⟨t',rfl⟩:=ry;exact rule i j t t' s _ _ ⟨.int (g i j),H,I.tok _,⟨_,rfl⟩,q⟩
theorem opB0 {f:Value->Value->Sem Value} {g:Int->Int->Bool}
  (rule:∀ (i j:Int) (t u:Tok) (s:Shared) (Q:Value->Shared->Prop) (E:Value->Shared->Prop),Q (.bool (g i j)) s->wpAny (model X.prog X.w) X.A (f (.int i t) (.int j u)) Q E s) :
  OpR X f (rI0 fun i j=>.bl (g i j)):=by
 intro pins s σ H x y v u Q I rx ry h;obtain ⟨i,j,rfl,rfl,q⟩:=h;obtain ⟨t,rfl⟩:=rx;obtain ⟨t',rfl⟩:=ry;exact rule i j t t' s _ _ ⟨.bl (g i j),H,I,rfl,q⟩
def CDiv (i j:Int):Prop:=0 < j/\j < 1073741824
def CPow (i j:Int):Prop:=0<=j/\j<=1000000/\i.natAbs < 2 ^ 64
def CMul (i j:Int):Prop:=(-(2 ^ 64) < i/\i < 2 ^ 64)\/(-(2 ^ 64) < j/\j < 2 ^ 64)
theorem CMul.ok {i j:Int} (h:CMul i j):IntMulOk i j:=by
 rcases h with ⟨h1,h2⟩ | ⟨h1,h2⟩
 ·exact .of_left (intBits_le_64 h1 h2)
 ·exact .of_right (intBits_le_64 h1 h2)
theorem two_pow_nn (k:Nat):(0:Int)<=2 ^ k:=by
 rw [two_pow_cast];exact Int.natCast_nonneg _
theorem J11:OpR X (binaryOp .Add) (rI0 fun i j=>.int (i + j)):=opI0 fun _ _ _ _ _ _ _ q=>add_int q
theorem J14:OpR X (binaryOp .Sub) (rI0 fun i j=>.int (i - j)):=opI0 fun _ _ _ _ _ _ _ q=>sub_int q
theorem op_mul:OpR X (binaryOp .Mult) (rI CMul fun i j=>.int (i * j)):=opI fun _ _ _ _ _ _ _ hc q=>mul_int q hc.ok
theorem J32:OpR X (binaryOp .FloorDiv) (rI CDiv fun i j=>.int (i / j)):=opI fun i j _ _ _ _ _ hc q=>by
 have h1:(0:Int) < j:=hc.1;have h2:j < 1073741824:=hc.2;exact floordiv_int (by lia) (by rw [Int.fdiv_eq_ediv_of_nonneg i (by lia)];exact q) (.inl (PyProof.noPylong_small (by lia)))
theorem J2a:OpR X (binaryOp .Mod) (rI (fun _ j=>0 < j) fun i j=>.int (i % j)):=opI fun i j _ _ _ _ _ hc q=>by
 have h1:(0:Int) < j:=hc;exact mod_int' (by lia) (by rw [Int.fmod_eq_emod_of_nonneg i (by lia)];exact q)
theorem op_pow:OpR X (binaryOp .Pow) (rI CPow fun i j=>.int (i ^ j.toNat)):=opI fun _ _ _ _ _ _ _ hc q=>pow_int_small hc.1 hc.2.1 hc.2.2 q
theorem op_shl:OpR X (binaryOp .LShift) (rI CPow fun i j=>.int (i * 2 ^ j.toNat)):=opI fun _ _ _ _ _ _ _ hc q=>lshift_int_small hc.1 hc.2.1 hc.2.2 q
theorem op_shr:OpR X (binaryOp .RShift) (rI (fun _ j=>0<=j) fun i j=>.int (i / 2 ^ j.toNat)):=opI fun i j _ _ _ _ _ hc q =>
 rshift_int hc (by rw [Int.fdiv_eq_ediv_of_nonneg i (two_pow_nn _)];exact q)
theorem op_and:OpR X (binaryOp .BitAnd) (rI0 fun i j=>.int (Builtin.bitAnd i j)):=opI0 fun _ _ _ _ _ _ _ q=>and_int q
theorem unI {f:Value->Sem Value} {g:Int->Int}
  (rule:∀ (i:Int) (t:Tok) (s:Shared) (Q:Value->Shared->Prop) (E:Value->Shared->Prop),Q (.int (g i) s.toks) { s with toks:=s.toks + 1 }->wpAny (model X.prog X.w) X.A (f (.int i t)) Q E s) :
  UnR X f (rU fun i=>.int (g i)):=by
 intro pins s σ H x v Q I rx h;obtain ⟨i,rfl,q⟩:=h;obtain ⟨t,rfl⟩:=rx;exact rule i t s _ _ ⟨.int (g i),H,I.tok _,⟨_,rfl⟩,q⟩
theorem un_neg:UnR X (unaryOp .USub) (rU fun i=>.int (-i)):=unI fun _ _ _ _ _ q=>neg_int q
end
def scal:V->V->Bool
 | .non,.non=>true | .non,.int _=>true | .int _,.non=>true | .non,.bl _=>true | .bl _,.non=>true | .non,.str _=>true | .str _,.non=>true
 | .int _,.int _=>true | .bl _,.bl _=>true | .str _,.str _=>true | .byt _,.byt _=>true
 | .int _,.str _=>true | .str _,.int _=>true | .bl _,.str _=>true | .str _,.bl _=>true
 | _,_=>false
def rEq:R2:=fun x y H Q=>scal x y=true/\Q (.bl (decide (x=y))) H
def rNe:R2:=fun x y H Q=>scal x y=true/\Q (.bl (!decide (x=y))) H
theorem dec_int {i j:Int}:decide (V.int i=V.int j)=(i == j):=by
 rw [Bool.eq_iff_iff];simp
theorem dec_bl {i j:Bool}:decide (V.bl i=V.bl j)=(i == j):=by
 rw [Bool.eq_iff_iff];simp
theorem dec_str {i j:Str}:decide (V.str i=V.str j)=(i == j):=by
 rw [Bool.eq_iff_iff];simp
theorem dec_byt {i j:Array UInt8}:decide (V.byt i=V.byt j)=(i.toList == j.toList):=by
 rw [Bool.eq_iff_iff];cases i;cases j;simp
section
variable {X:Cx} {a b c:Expr} {ta tb tc:TE} {pos:Pos}
theorem Jw {pins:List (Addr × Obj)} {σ:St} {H:Hp} {s:Shared} {Q:VK} {k k':Bool} (I:Inv X pins σ H s) (q:Q (.bl k) H) (e:k=k'):EP X pins σ Q (.bool k') s:=by
 subst e;exact ⟨.bl k,H,I,rfl,q⟩
theorem op_eq:OpR X (compareOp .Eq) rEq:=by
 intro pins s σ H x y v u Q I rx ry h;obtain ⟨hs,q⟩:=h
 cases x with
 | non =>
  cases rx
  cases y with
  | non=>cases ry;exact PySem.EqNone.eq_none_none (Jw I q (by simp))
  | bl j=>cases ry;exact PySem.EqNone.eq_none_bool (Jw I q (by simp))
  | int j=>obtain ⟨t',rfl⟩:=ry;exact PySem.EqNone.eq_none_int (Jw I q (by simp))
  | str j=>obtain ⟨t',rfl⟩:=ry;exact PySem.EqNone.eq_none_str (Jw I q (by simp))
  | _=>exact absurd (show false=true from hs) Bool.false_ne_true
 | bl i =>
  cases rx
  cases y with
  | non=>cases ry;exact PySem.EqNone.eq_bool_none (Jw I q (by simp))
  | bl j=>cases ry;exact eq_bool (Jw I q dec_bl)
  | str j=>obtain ⟨t',rfl⟩:=ry;exact PySem.EqMixed.eq_bool_str (Jw I q (by simp))
  | _=>exact absurd (show false=true from hs) Bool.false_ne_true
 | int i =>
  obtain ⟨t,rfl⟩:=rx
  cases y with
  | non=>cases ry;exact PySem.EqNone.eq_int_none (Jw I q (by simp))
  | int j=>obtain ⟨t',rfl⟩:=ry;exact eq_int (Jw I q dec_int)
  | str j=>obtain ⟨t',rfl⟩:=ry;exact PySem.EqMixed.eq_int_str (Jw I q (by simp))
  | _=>exact absurd (show false=true from hs) Bool.false_ne_true
 | str i =>
  obtain ⟨t,rfl⟩:=rx
  cases y with
  | non=>cases ry;exact PySem.EqNone.eq_str_none (Jw I q (by simp))
  | bl j=>cases ry;exact PySem.EqMixed.eq_str_bool (Jw I q (by simp))
  | int j=>obtain ⟨t',rfl⟩:=ry;exact PySem.EqMixed.eq_str_int (Jw I q (by simp))
  | str j=>obtain ⟨t',rfl⟩:=ry;exact eq_str (Jw I q dec_str)
  | _=>exact absurd (show false=true from hs) Bool.false_ne_true
 | byt i =>
  obtain ⟨t,rfl⟩:=rx
  cases y with
  | byt j=>obtain ⟨t',rfl⟩:=ry;exact PySem.W.eq_bytes (Jw I q dec_byt)
  | _=>exact absurd (show false=true from hs) Bool.false_ne_true
 | _=>cases y <;> exact absurd (show false=true from hs) Bool.false_ne_true
theorem op_ne:OpR X (compareOp .NotEq) rNe:=by
 intro pins s σ H x y v u Q I rx ry h;obtain ⟨hs,q⟩:=h
 cases x with
 | non =>
  cases rx
  cases y with
  | non=>cases ry;exact PySem.EqNone.ne_none_none (Jw I q (by simp))
  | bl j=>cases ry;exact PySem.EqNone.ne_none_bool (Jw I q (by simp))
  | int j=>obtain ⟨t',rfl⟩:=ry;exact PySem.EqNone.ne_none_int (Jw I q (by simp))
  | str j=>obtain ⟨t',rfl⟩:=ry;exact PySem.EqNone.ne_none_str (Jw I q (by simp))
  | _=>exact absurd (show false=true from hs) Bool.false_ne_true
 | bl i =>
  cases rx
  cases y with
  | non=>cases ry;exact PySem.EqNone.ne_bool_none (Jw I q (by simp))
  | bl j=>cases ry;exact ne_bool (Jw I q (congrArg not dec_bl))
  | str j=>obtain ⟨t',rfl⟩:=ry;exact PySem.EqMixed.ne_bool_str (Jw I q (by simp))
  | _=>exact absurd (show false=true from hs) Bool.false_ne_true
 | int i =>
  obtain ⟨t,rfl⟩:=rx
  cases y with
  | non=>cases ry;exact PySem.EqNone.ne_int_none (Jw I q (by simp))
  | int j=>obtain ⟨t',rfl⟩:=ry;exact ne_int (Jw I q (congrArg not dec_int))
  | str j=>obtain ⟨t',rfl⟩:=ry;exact PySem.EqMixed.ne_int_str (Jw I q (by simp))
  | _=>exact absurd (show false=true from hs) Bool.false_ne_true
 | str i =>
  obtain ⟨t,rfl⟩:=rx
  cases y with
  | non=>cases ry;exact PySem.EqNone.ne_str_none (Jw I q (by simp))
  | bl j=>cases ry;exact PySem.EqMixed.ne_str_bool (Jw I q (by simp))
  | int j=>obtain ⟨t',rfl⟩:=ry;exact PySem.EqMixed.ne_str_int (Jw I q (by simp))
  | str j=>obtain ⟨t',rfl⟩:=ry;exact ne_str (Jw I q (congrArg not dec_str))
  | _=>exact absurd (show false=true from hs) Bool.false_ne_true
 | byt i =>
  obtain ⟨t,rfl⟩:=rx
  cases y with
  | byt j=>obtain ⟨t',rfl⟩:=ry;exact PySem.W.ne_bytes (Jw I q (congrArg not dec_byt))
  | _=>exact absurd (show false=true from hs) Bool.false_ne_true
 | _=>cases y <;> exact absurd (show false=true from hs) Bool.false_ne_true
theorem op_lt:OpR X (compareOp .Lt) (rI0 fun i j=>.bl (decide (i < j))):=opB0 fun _ _ _ _ _ _ _ q=>lt_int q
theorem op_gt:OpR X (compareOp .Gt) (rI0 fun i j=>.bl (decide (j < i))):=opB0 fun _ _ _ _ _ _ _ q=>gt_int q
theorem op_ge:OpR X (compareOp .GtE) (rI0 fun i j=>.bl (decide (j<=i))):=opB0 fun _ _ _ _ _ _ _ q=>ge_int q
theorem op_notN:OpR X (compareOp .IsNot) (fun x y H Q=>y=.non/\Q (.bl (!decide (x=.non))) H):=by
 intro pins s σ H x y v u Q I rx ry h;obtain ⟨rfl,q⟩:=h;cases ry;refine isnot_none_gen (Jw I q ?_);cases x <;> first
  | (cases rx;rfl)
  | (obtain ⟨t,rfl⟩:=rx;rfl)
theorem Ju (b:Expr) {op:CmpOp} (h:op≠.In:=by decide) (h2:op≠.NotIn:=by decide):behindInMarks op b=false:=by
 have e1:(op == CmpOp.In)=false:=by cases op <;> first | rfl | exact absurd rfl h
 have e2:(op == CmpOp.NotIn)=false:=by cases op <;> first | rfl | exact absurd rfl h2
 cases b <;> simp [behindInMarks,e1,e2]
theorem J1q {op:CmpOp} {r:R2} (ho:OpR X (compareOp op) r) (ha:PE X a ta) (hb:PE X b tb) (hm:behindInMarks op b=false):PE X (.Compare a [op] [b] pos) (tOp r ta tb):=by
 intro pins s σ H Q I h;exact wpAny_Compare1 (binT ha hb I h fun v u s2 x y H2 I2 rx ry q=>ho pins s2 σ H2 x y v u Q I2 rx ry q) hm
def tTest (t:TE):TT:=fun σ H Q=>t σ H fun x H'=>∃ k,x=.bl k/\Q k H'
theorem Jq {op:CmpOp} {r:R2} (ho:OpR X (compareOp op) r) (ha:PE X a ta) (hb:PE X b tb) (hm:behindInMarks op b=false):PT X (.Compare a [op] [b] pos) (tTest (tOp r ta tb)):=by
 intro pins s σ H Q I h;refine wpAny_isTrue_Compare1 (thn (ha pins s σ H _ I h) fun v s1 h9=>?_) hm;obtain ⟨x,H1,I1,r1,q1⟩:=h9;refine thn (hb pins s1 σ H1 _ I1 q1) fun u s2 h9=>?_;obtain ⟨y,H2,I2,r2,q2⟩:=h9;refine thn (ho pins s2 σ H2 x y v u _ I2 r1 r2 q2) fun c s3 h9=>?_;obtain ⟨z,H3,I3,r3,k,e,q3⟩:=h9;subst e;cases r3;exact wpAny_truthy_bool ⟨H3,I3,q3⟩
def TruV (K:PySem.W.Frag) (x:V) (H:Hp) (k:Bool):Prop :=
 match x with
 | .non=>k=false
 | .bl b=>k=b
 | .int i=>k=(i != 0)
 | .str y=>y.length<=sizeLine/\k=((y.length:Int) != 0)
 | .byt y=>y.size<=sizeLine/\k=((y.size:Int) != 0)
 | .ref p=>(∃ xs,SqL K H p xs/\k=!xs.isEmpty)\/(∃ xs,SqT K H p xs/\k=!xs.isEmpty)\/∃ kvs,H p=some (.dK kvs)/\k=!kvs.isEmpty
 | _=>False
theorem isEmpty_kv {κ:Type} {kvs:List (κ × V)} {vs:List (κ × Value)} (r:KV kvs vs):(!vs.isEmpty)=!kvs.isEmpty:=by
 cases r <;> rfl
theorem J3u {xs:List V} {its:List Value} (r:Vals xs its):(!its.toArray.isEmpty)=!xs.isEmpty:=by
 cases r <;> simp
theorem J4h:(sizeLine:Nat) < 2 ^ 63:=by rw [sizeLine_eq];decide
theorem tru_ok:TruR X (fun x H Q=>∃ k,TruV X.K x H k/\Q k H):=by
 intro pins s σ H x v Q I rx h;obtain ⟨k,e,q⟩:=h;have hl:=J4h;have hs:sizeLine=16777216:=sizeLine_eq
 cases x with
 | non =>
  cases rx;have e':k=false:=e;subst e';exact truthy_none ⟨H,I,q⟩
 | bl b =>
  cases rx;have e':k=b:=e;subst e';exact wpAny_truthy_bool ⟨H,I,q⟩
 | int i =>
  obtain ⟨t,rfl⟩:=rx;have e':k=(i != 0):=e;subst e';exact PySem.P.truthy_int ⟨H,I,q⟩
 | str y =>
  obtain ⟨t,rfl⟩:=rx;obtain ⟨hy,e'⟩:y.length<=sizeLine/\k=((y.length:Int) != 0):=e;subst e';exact PySem.P.truthy_str (by lia) ⟨H,I.tok _,q⟩
 | byt y =>
  obtain ⟨t,rfl⟩:=rx;obtain ⟨hy,e'⟩:y.size<=sizeLine/\k=((y.size:Int) != 0):=e;subst e';exact PySem.W.truthy_bytes (by lia) ⟨H,I.tok _,q⟩
 | ref p =>
  cases rx;have e':(∃ xs,SqL X.K H p xs/\k=!xs.isEmpty)\/(∃ xs,SqT X.K H p xs/\k=!xs.isEmpty)\/∃ kvs,H p=some (.dK kvs)/\k=!kvs.isEmpty:=e;rcases e' with ⟨xs,hx,e'⟩ | ⟨xs,hx,e'⟩ | ⟨kvs,hx,e'⟩
  ·subst e';obtain ⟨its,r,pl,hz⟩:=I.list hx;have hlen:=r.length;exact wpAny_truthy_list pl.isList (by simp only [size_toArray];lia) ⟨H,I.tok _,by rw [J3u r];exact q⟩
  ·subst e';obtain ⟨its,r,pl,hz⟩:=I.tuple hx;have hlen:=r.length;exact truthy_tuple pl (by simp only [size_toArray];lia) ⟨H,I.tok _,by rw [J3u r];exact q⟩
  ·subst e';obtain ⟨hz,hS,vs,r,m⟩:kvs.length<=sizeLine/\(p == sysModules)=false/\∃ vs,KV kvs vs/\s.heap.DictOf (Jy X.prog X.w) p vs:=I.hok p _ hx;have hlen:kvs.length=vs.length:=Paired.length r;exact wpAny_truthy_dict hS m (by lia) ⟨H,I.tok _,by rw [isEmpty_kv r];exact q⟩
 | _=>exact (show False from e).elim
theorem pt_truth (ha:PE X a ta) (he:∀ whole,isTrue a X.env whole=(do let v <- whole;standAt a.pos;holding [v] (truthy v))) :
  PT X a (fun σ H Q=>ta σ H fun x H'=>∃ k,TruV X.K x H' k/\Q k H'):=by
 intro pins s σ H Q I h;exact isTrue_plain (thn (ha pins s σ H _ I h) fun v s1 h9=>by obtain ⟨x,H1,I1,r1,q1⟩:=h9;exact tru_ok pins s1 σ H1 x v Q I1 r1 q1) (he _)
theorem vals1 {x:V} {us:List Value} (r:Vals [x] us):∃ u,us=[u]/\RelV x u:=by
 cases r with
 | cons r1 r2=>cases r2;exact ⟨_,rfl,r1⟩
theorem vals2 {x y:V} {us:List Value} (r:Vals [x,y] us):∃ u w',us=[u,w']/\RelV x u/\RelV y w':=by
 cases r with
 | cons r1 r2 =>
  cases r2 with
  | cons r3 r4=>cases r4;exact ⟨_,_,rfl,r1,r3⟩
theorem J1w:CallR X (.builtin "abs") (fun xs H Q=>∃ i,xs=[.int i]/\Q (.int (if i < 0 then -i else i)) H):=by
 intro pins s σ H xs us Q I r h;obtain ⟨i,rfl,q⟩:=h;obtain ⟨u,rfl,t,rfl⟩:=vals1 r;exact call_abs_int fun u tk=>⟨.int (if i < 0 then -i else i),H,I.tok _,⟨_,rfl⟩,q⟩
theorem call_max2 (hc:X.calm=true):CallR X (.builtin "max") (fun xs H Q=>∃ i j,xs=[.int i,.int j]/\Q (.int (if j > i then j else i)) H):=by
 intro pins s σ H xs us Q I r h;obtain ⟨i,j,rfl,q⟩:=h;obtain ⟨u,w',rfl,⟨t,rfl⟩,⟨t',rfl⟩⟩:=vals2 r;refine max_two_ints (I.ok.hd hc) fun h' tk k=>⟨_,H,I.kept k,?_,q⟩;by_cases hj:j > i
 ·rw [if_pos hj,if_pos hj];exact ⟨_,rfl⟩
 ·rw [if_neg hj,if_neg hj];exact ⟨_,rfl⟩
theorem call_min2 (hc:X.calm=true):CallR X (.builtin "min") (fun xs H Q=>∃ i j,xs=[.int i,.int j]/\Q (.int (if j < i then j else i)) H):=by
 intro pins s σ H xs us Q I r h;obtain ⟨i,j,rfl,q⟩:=h;obtain ⟨u,w',rfl,⟨t,rfl⟩,⟨t',rfl⟩⟩:=vals2 r;refine min_two_ints (I.ok.hd hc) fun h' tk k=>⟨_,H,I.kept k,?_,q⟩;by_cases hj:j < i
 ·rw [if_pos hj,if_pos hj];exact ⟨_,rfl⟩
 ·rw [if_neg hj,if_neg hj];exact ⟨_,rfl⟩
theorem call_int1:CallR X (.type "int") (fun xs H Q=>(∃ i,xs=[.int i]/\Q (.int i) H)\/∃ k,xs=[.bl k]/\Q (.int (if k then 1 else 0)) H):=by
 intro pins s σ H xs us Q I r h;rcases h with ⟨i,rfl,q⟩ | ⟨k,rfl,q⟩
 ·obtain ⟨u,rfl,t,rfl⟩:=vals1 r;exact call_int_int ⟨.int i,H,I,⟨_,rfl⟩,q⟩
 ·obtain ⟨u,rfl,r1⟩:=vals1 r;cases r1;exact call_int_bool ⟨.int (if k then 1 else 0),H,I.tok _,⟨_,rfl⟩,q⟩
end
end L2
namespace L2
open PySem PySem.Spec PyProof.Rows
structure ObjM (h:Heap) (x dx C:Addr) (mA:Str->Option Value):Prop where
 obj:h.get? x=some (instObj C dx)
 ns:h.Ns1 dx mA
 ne:dx≠x
theorem lookIn_ns {h:Heap} {dx:Addr} {mA:Str->Option Value} (n:h.Ns1 dx mA):∃ od,h.get? dx=some od/\∀ name,lookIn name od=some (mA name):=by
 obtain ⟨o,es,ep,ho,hd,hk,_,hm⟩:=n;refine ⟨o,ho,fun name=>?_⟩;have e:=hm name;unfold nsFind findBy at e;rw [<- Array.find?_toList] at e;unfold lookIn;rw [hd];dsimp only;split
 ·rename_i y q;rw [q] at e;exact congrArg some e
 ·rename_i q;rw [q] at e;have a:es.toList.any (·.refKey)=false:=by
   rw [List.any_eq_false];intro y hy;obtain ⟨z,t,hkey⟩:=hk y (Array.mem_toList_iff.mp hy);simp [DictEntry.refKey,hkey]
  have a':¬ es.toList.any (·.refKey)=true:=by rw [a];exact Bool.false_ne_true
  rw [if_neg a'];exact congrArg some e
theorem ObjM.look {h:Heap} {x dx C:Addr} {mA:Str->Option Value} (I:ObjM h x dx C mA):∃ od,PySem.W.InstAt h x (instObj C dx) C (some od)/\∀ name,lookIn name od=some (mA name) :=
 let ⟨od,ho,hl⟩:=lookIn_ns I.ns
 ⟨od,⟨I.obj,rfl,rfl,ho⟩,hl⟩
section
variable {prog:Program} {w:World} {A:Around} {E:Value->Shared->Prop} {s:Shared} {K:PySem.W.Frag} {x dx C f:Addr} {mA:Str->Option Value} {name:Str} {v:Value}
theorem get_map {expr:Bool} {Q:Value->Shared->Prop} (X:K.In s.heap) (I:ObjM s.heap x dx C mA) (hg:plainGet K C name=true) (hh:hasDictIn K C=true)
  (ha:findIn K (.ref C) name=some none) (hv:mA name=some v) (hv':handedIn v=true) (h:Q v { s with toks:=s.toks + 1 }) :
  wpAny (model prog w) A (getAttr (.ref x) name expr) Q E s:=by
 obtain ⟨od,J,hl⟩:=I.look;exact PySem.W.get_value X J (PySem.W.plainGet_of hg).1 (PySem.W.findObj_own hh ha rfl (by rw [hl,hv])) hv' h
theorem set_map {ns:List Str} {Q:Unit->Shared->Prop} (X:K.In s.heap) (I:ObjM s.heap x dx C mA)
  (hs:findIn K (.ref C) "__setattr__"=some (some (.builtin "object.__setattr__"))) (hp:plainOver K C=true) (ht:takerIn K C name=some none) (hh:hasDictIn K C=true)
  (hw:PySem.Within mA ns) (hsz:ns.length<=sizeLine)
  (h:∀ h',ObjM h' x dx C (fun y=>if y=name then some v else mA y)->Heap.SameBut dx s.heap h'->Q () { s with heap:=h',toks:=s.toks + 2 }) :
  wpAny (model prog w) A (setAttr (.ref x) name v) Q E s:=by
 obtain ⟨od,J,hl⟩:=I.look;refine PySem.W.set_plain X J hs (PySem.W.osa_open (s:={ s with toks:=s.toks + 1 }) (r:=none) X J hp ht fun b=>?_);obtain ⟨cd,hc,hd'⟩:=PySem.W.any_some hh;have hx:s.heap.get? x=some ⟨.ref C,some dx,.plain,#[]⟩:=I.obj;refine wpAny_bind (wpAny_pure (wpAny_bind (wpAny_bind (wpAny_loadPart hx (wpAny_bind (PySem.W.Looks.here (s:={ s with toks:=s.toks + 1 }) (PySem.W.looks_clsIn X hc) ?_))))));rw [hd'];refine wpAny_pure (a:=some dx) (wpAny_bind (wpAny_pure (wpAny_bind ?_)));refine wpAny_nsSet1 (s:={ s with toks:=s.toks + 1 }) I.ns fun h' hn2 hs2=>?_;obtain ⟨oD,esD,epD,hoD,hdD,hcD⟩:=hn2.count (PySem.Within.cons name v hw);refine wpAny_bind (wpAny_lookBehind hoD (by rw [hdD];exact pastItsLine_dict (Nat.le_trans hcD (by rw [length_cons];lia))) ?_);exact wpAny_pure (h _ ⟨(hs2.2 _ (Ne.symm I.ne)).trans I.obj,hn2,I.ne⟩ hs2)
theorem make_map {R:Result->Shared->Prop} {vs:List Value} {kw:List (Str × Value)} (X:K.In s.heap) (hm:makesIn K C=true)
  (hi:findIn K (.ref C) "__init__"=some (some (.ref f))) (hf:PySem.W.typeIn K (.ref f)=some (.type "function"))
  (h:codeAny (model prog w) (A.under (.builtin "type.__call__" ⟨.ref C :: vs,kw⟩)) (.call (.ref f) ⟨.ref (s.heap.objs.size + 1) :: vs,kw⟩) (PySem.W.InitBack (s.heap.objs.size + 1) R)
   { s with heap:=(s.heap.push emptyDict).push (instObj C s.heap.objs.size) }) :
  codeAny (model prog w) A (.call (.ref C) ⟨vs,kw⟩) R s:=by
 obtain ⟨hh,g,d,t,os⟩:=s;exact PySem.W.make_core (PySem.W.makes_of X hm) (PySem.W.looks_findIn X hi) (fun self=>PySem.W.bind_fn X self hf) (.inl rfl) h
end
def putF (f:Str) (v:V):List (Str × V)->List (Str × V)
 | []=>[(f,v)]
 | (g,x) :: r=>if g=f then (g,v) :: r else (g,x) :: putF f v r
theorem J1o (f g:Str) (v:V):∀ fs:List (Str × V),(putF f v fs).lookup g=if g=f then some v else fs.lookup g
 | []=>by
  show List.lookup g [(f,v)]=_;by_cases h:g=f
  ·have hb:(g == f)=true:=beq_iff_eq.mpr h;simp only [List.lookup,hb,if_pos h]
  ·have hb:(g == f)=false:=beq_eq_false_iff_ne.mpr h;simp only [List.lookup,hb,if_neg h]
 | (k,x) :: r=>by
  have ih:=J1o f g v r;rw [show putF f v ((k,x) :: r)=(if k=f then (k,v) :: r else (k,x) :: putF f v r) from rfl];by_cases hk:k=f
  ·rw [if_pos hk];by_cases h:g=k
   ·have hb:(g == k)=true:=beq_iff_eq.mpr h;simp only [List.lookup,hb,if_pos (h.trans hk)]
   ·have hb:(g == k)=false:=beq_eq_false_iff_ne.mpr h;simp only [List.lookup,hb,if_neg (fun e:g=f=>h (e.trans hk.symm))]
  ·rw [if_neg hk];by_cases h:g=k
   ·have hb:(g == k)=true:=beq_iff_eq.mpr h;simp only [List.lookup,hb,if_neg (fun e:g=f=>hk (h.symm.trans e))]
   ·have hb:(g == k)=false:=beq_eq_false_iff_ne.mpr h;simp only [List.lookup,hb];exact ih
theorem J3i (f:Str) (v:V):∀ fs:List (Str × V),f∈(putF f v fs).map (·.1)/\∀ g,g∈fs.map (·.1)->g∈(putF f v fs).map (·.1)
 | []=>⟨by simp [putF],fun g h=>by simp at h⟩
 | (k,x) :: r=>by
  obtain ⟨i1,i2⟩:=J3i f v r;rw [show putF f v ((k,x) :: r)=(if k=f then (k,v) :: r else (k,x) :: putF f v r) from rfl];by_cases hk:k=f
  ·rw [if_pos hk];subst hk;exact ⟨by simp,fun g h=>by simpa using h⟩
  ·rw [if_neg hk];refine ⟨?_,fun g h=>?_⟩
   ·rw [map_cons];exact mem_cons_of_mem _ i1
   ·rw [map_cons] at h ⊢;rcases mem_cons.mp h with e | e
    ·exact mem_cons.mpr (.inl e)
    ·exact mem_cons_of_mem _ (i2 g e)
theorem Jp (f:Str) (v:V):∀ fs:List (Str × V),(putF f v fs).length<=fs.length + 1
 | []=>by simp [putF]
 | (k,x) :: r=>by
  have ih:=Jp f v r;rw [show putF f v ((k,x) :: r)=(if k=f then (k,v) :: r else (k,x) :: putF f v r) from rfl];by_cases hk:k=f
  ·rw [if_pos hk,length_cons,length_cons];lia
  ·rw [if_neg hk,length_cons,length_cons];lia
theorem RelO.some_of {v:V} {o:Option Value} (r:RelO (some v) o):∃ u,o=some u/\RelV v u:=by
 cases o with
 | none=>exact (show False from r).elim
 | some u=>exact ⟨u,rfl,r⟩
theorem handed_of {v:V} {u:Value} (r:RelV v u):handedIn u=true:=by
 cases v with
 | non=>cases (show u=Value.none from r);rfl
 | bl b=>cases (show u=Value.bool b from r);rfl
 | int i=>obtain ⟨t,e⟩:=(show ∃ t,u=Value.int i t from r);cases e;rfl
 | str x=>obtain ⟨t,e⟩:=(show ∃ t,u=Value.str x t from r);cases e;rfl
 | byt b=>obtain ⟨t,e⟩:=(show ∃ t,u=Value.bytes b t from r);cases e;rfl
 | flt b=>obtain ⟨t,e⟩:=(show ∃ t,u=Value.float b t from r);cases e;rfl
 | ref a=>cases (show u=Value.ref a from r);rfl
 | ty n=>cases (show u=Value.type n from r);rfl
section
variable {P:Program} {w:World} {H H':Hp} {h h':Heap} {a C dx:Addr} {fs fs':List (Str × V)}
theorem ins_get (hok:HOk P w H h) (e:H a=some (.ins C dx fs)):∃ mA,ObjM h a dx C mA/\(∀ f,RelO (fs.lookup f) (mA f))/\PySem.Within mA (fs.map (·.1))/\fs.length<=1000/\H dx=some (.own a):=by
 obtain ⟨d,z,ne,ob,mA,n,r,q⟩:=(show ObjOk P w H h a (.ins C dx fs) from hok a _ e);exact ⟨mA,⟨ob,n,ne⟩,r,q,z,d⟩
end
structure Cls (K:PySem.W.Frag) (C:Addr):Prop where
 pg:plainGet K C Str.empty=true
 hd:hasDictIn K C=true
 po:plainOver K C=true
 sa:findIn K (.ref C) "__setattr__"=some (some (.builtin "object.__setattr__"))
theorem Cls.get {K:PySem.W.Frag} {C:Addr} (c:Cls K C) (f:Str):plainGet K C f=true:=c.pg
def NoAttr (K:PySem.W.Frag) (C:Addr) (f:Str):Prop:=findIn K (.ref C) f=some none
theorem NoAttr.taker {K:PySem.W.Frag} {C:Addr} {f:Str} (n:NoAttr K C f):takerIn K C f=some none:=by
 unfold takerIn;rw [show findIn K (.ref C) f=some none from n];rfl
section
variable {X:Cx} {pins:List (Addr × Obj)} {σ:St} {H:Hp} {s:Shared} {a C dx:Addr} {fs:List (Str × V)} {f:Str} {v:V} {A:Around} {E:Value->Shared->Prop}
theorem getattr_ok {b:Bool} {Q:Value->Shared->Prop} (I:Inv X pins σ H s) (e:H a=some (.ins C dx fs)) (c:Cls X.K C) (n:NoAttr X.K C f) (l:fs.lookup f=some v)
  (h:∀ u s',Inv X pins σ H s'->RelV v u->Q u s'):wpAny (model X.prog X.w) A (getAttr (.ref a) f b) Q E s:=by
 obtain ⟨mA,O,r,_,_,_⟩:=ins_get I.hok e;obtain ⟨u,hu,ru⟩:=RelO.some_of (v:=v) (o:=mA f) (by rw [<- l];exact r f);exact get_map I.kIn O (c.get f) c.hd n hu (handed_of ru) (h u _ (I.tok _) ru)
theorem setattr_ok {y:V} {u:Value} {Q:Unit->Shared->Prop} (I:Inv X pins σ H s) (e:H a=some (.ins C dx fs)) (c:Cls X.K C) (n:NoAttr X.K C f) (hl:fs.length < 1000) (ry:RelV y u)
  (h:∀ s',Inv X pins σ (upd H a (.ins C dx (putF f y fs))) s'->Q () s'):wpAny (model X.prog X.w) A (setAttr (.ref a) f u) Q E s:=by
 obtain ⟨mA,O,r,wi,_,ho⟩:=ins_get I.hok e;have hz:(fs.map (·.1)).length<=sizeLine:=by rw [length_map,sizeLine_eq];lia
 refine set_map I.kIn O c.sa c.po n.taker c.hd wi hz fun h' O' sb=>h _ ?_;have hd:∃ o,h'.get? dx=some o:=by obtain ⟨o,_,_,e',_⟩:=O'.ns;exact ⟨o,e'⟩
 refine I.write (x:=a) (e:=dx) (by rw [e];exact True.intro) (.inr ho) (fun b q hb z=>(sb.2 b hb).trans z) hd ?_;refine ⟨by rw [Ja O.ne];exact ho,?_,O.ne,O'.obj,_,O'.ns,fun g=>?_,fun g hg=>?_⟩
 ·have:=Jp f y fs;lia
 ·show RelO ((putF f y fs).lookup g) (if g=f then some u else mA g);rw [J1o];by_cases q:g=f
  ·rw [if_pos q,if_pos q];exact ry
  ·rw [if_neg q,if_neg q];exact r g
 ·by_cases q:g=f
  ·rw [q];exact (J3i f y fs).1
  ·refine (J3i f y fs).2 g (wi g fun z=>hg ?_);show (if g=f then some u else mA g)=none;rw [if_neg q];exact z
theorem Inv.made (I:Inv X pins σ H s):Inv X pins σ (upd (upd H s.heap.objs.size (.own (s.heap.objs.size + 1))) (s.heap.objs.size + 1) (.ins C s.heap.objs.size []))
  { s with heap:=(s.heap.push emptyDict).push (instObj C s.heap.objs.size) }:=by
 have e1:(s.heap.push emptyDict).get? s.heap.objs.size=some emptyDict:=get?_push_size s.heap rfl;have e2:((s.heap.push emptyDict).push (instObj C s.heap.objs.size)).get? (s.heap.objs.size + 1)=some (instObj C s.heap.objs.size):=by
  have:=get?_push_size (s.heap.push emptyDict) (o:=instObj C s.heap.objs.size) rfl;rwa [Heap.size_push] at this
 have e3:(s.heap.push emptyDict).Ns s.heap.objs.size (fun _=>none):=⟨emptyDict,#[],_,e1,rfl,(fun e he=>absurd he (by simp)),fun _=>rfl⟩;have I1:=I.laid (a:=s.heap.objs.size) (o:=.own (s.heap.objs.size + 1)) (h':=s.heap.push emptyDict) (t':=s.toks) (fun b u q=>get?_push_of_some _ q) (Nat.le_refl _) ⟨_,e1⟩;refine I1.laid (a:=s.heap.objs.size + 1) (o:=.ins C s.heap.objs.size []) (t':=s.toks) (fun b u q=>get?_push_of_some _ q) (Nat.le_of_eq (Heap.size_push _ _)) ?_;have ne:s.heap.objs.size≠s.heap.objs.size + 1:=Nat.ne_of_lt (Nat.lt_succ_self _);refine ⟨by rw [Ja ne,J1],Nat.zero_le _,ne,e2,fun _=>none,(Heap.Ns1.of_empty e3).at fun o q=>get?_push_of_some _ q,fun _=>True.intro,fun y hy=>absurd rfl hy⟩
theorem attr_of {prog:Program} {w:World} {env:Env} {e:Expr} {f:Str} {pos:Pos} {s:Shared} {Q:Value->Shared->Prop} (hb:attributeBase e f env (eval e env)=eval e env)
  (h:wpAny (model prog w) A (eval e env) (fun o s₁=>wpAny (model prog w) A (getAttr o f true) Q E s₁) E s):wpAny (model prog w) A (eval (.Attribute e f pos) env) Q E s :=
 Attribute_any_ h (by rw [arm_eval_Attribute,hb])
end
def tFld (K:PySem.W.Frag) (ta:TE) (f:Str):TE:=fun σ H Q=>ta σ H fun x H1=>∃ a C dx fs v,x=.ref a/\H1 a=some (.ins C dx fs)/\Cls K C/\NoAttr K C f/\fs.lookup f=some v/\Q v H1
def sFld (K:PySem.W.Frag) (ta tv:TE) (f:Str):TS:=fun D σ H=>tv σ H fun y H1=>ta σ H1 fun x H2=>∃ a C dx fs,x=.ref a/\H2 a=some (.ins C dx fs)/\Cls K C/\NoAttr K C f/\fs.length < 1000/\
 D.nx σ (upd H2 a (.ins C dx (putF f y fs)))
section
variable {X:Cx} {o e value:Expr} {f:Str} {pos pos' tpos:Pos} {ta tv:TE}
theorem Jl (he:PE X e ta) (hb:attributeBase e f X.env (eval e X.env)=eval e X.env):PE X (.Attribute e f pos) (tFld X.K ta f):=by
 intro pins s σ H Q I h;refine attr_of hb (thn (he pins s σ H _ I h) fun u s1 h9=>?_);obtain ⟨x,H1,I1,rx,a,C,dx,fs,v,ex,ea,c,n,l,q⟩:=h9;subst ex;obtain rfl:u=Value.ref a:=rx;exact getattr_ok I1 ea c n l fun u' s2 I2 ru=>⟨v,H1,I2,ru,q⟩
theorem J2s (ha:PE X o ta) (hv:PE X value tv) (hs:swapsWith value (some (.Attribute o f pos')) pos.line X.env=pure false):PS X (.Assign [.Attribute o f pos'] value pos) (sFld X.K ta tv f):=by
 intro pins s σ H D I h;refine plainObj_wpAny_Assign_Attribute (thn (hv pins s σ H _ I h) fun u s1 h9=>?_) hs;obtain ⟨y,H1,I1,ry,q⟩:=h9;refine thn (ha pins s1 σ H1 _ I1 q) fun ov s2 h9=>?_;obtain ⟨x,H2,I2,rx,a,C,dx,fs,ex,ea,c,n,l,q2⟩:=h9;subst ex;obtain rfl:ov=Value.ref a:=rx;exact setattr_ok I2 ea c n l ry fun s3 I3=>⟨σ,_,I3,q2⟩
end
section
variable {X:Cx} {pins:List (Addr × Obj)} {σ:St} {H:Hp} {s:Shared} {A:Around} {E:Value->Shared->Prop} {Q:Value->Shared->Prop} {c:Value} {b:Bool}
inductive TyOf (K:PySem.W.Frag) (H:Hp):V->Value->Prop where
 | non:TyOf K H .non (.type "NoneType")
 | bl (x:Bool):TyOf K H (.bl x) (.type "bool")
 | int (i:Int):TyOf K H (.int i) (.type "int")
 | str (x:Str):TyOf K H (.str x) (.type "str")
 | flt (x:UInt64):TyOf K H (.flt x) (.type "float")
 | lst {a:Addr} {xs:List V} (e:H a=some (.lst xs)):TyOf K H (.ref a) (.type "list")
 | frz {a:Addr} {o:Obj} {xs:List V} (e:H a=some (.frz o (.lst xs))):TyOf K H (.ref a) (.type "list")
 | tup {a:Addr} {xs:List V} (e:H a=some (.tup xs)):TyOf K H (.ref a) (.type "tuple")
 | dK {a:Addr} {kvs:List (Key × V)} (e:H a=some (.dK kvs)):TyOf K H (.ref a) (.type "dict")
 | dT {a:Addr} {kvs:List (List Key × V)} (e:H a=some (.dT kvs)):TyOf K H (.ref a) (.type "dict")
 | ins {a C dx:Addr} {fs:List (Str × V)} (e:H a=some (.ins C dx fs)) (cl:Cls K C) (ha:findIn K (.ref C) "__class__"=some (some (.builtin "object.__class__")))
   (hn:specialIn K (.builtin "object.__class__") "__get__"=some (some (.builtin "getset_descriptor.__get__"))) (htk:takesIn K (.builtin "object.__class__")=some true)
   (hm:mroIn K C (.type "object")=some true):TyOf K H (.ref a) (.ref C)
theorem isinst_ok {x:V} {u t:Value} (I:Inv X pins σ H s) (rx:RelV x u) (ty:TyOf X.K H x t) (e:kitOne X.K t c=some b) (h:∀ tk,Q (.bool b) { s with toks:=tk }) :
  wpAny (model X.prog X.w) A (call (.builtin "isinstance") [u,c]) Q E s:=by
 cases ty with
 | non=>cases (show u=Value.none from rx);exact kia_one PySem.W.kitx_none I.kIn True.intro e (fun z=>nomatch z) h
 | bl y=>cases (show u=Value.bool y from rx);exact kia_one PySem.W.kitx_bool I.kIn True.intro e (fun z=>nomatch z) h
 | int i=>obtain ⟨t,q⟩:=(show ∃ t,u=Value.int i t from rx);cases q;exact kia_one PySem.W.kitx_int I.kIn True.intro e (fun z=>nomatch z) h
 | str y=>obtain ⟨t,q⟩:=(show ∃ t,u=Value.str y t from rx);cases q;exact kia_one PySem.W.kitx_str I.kIn True.intro e (fun z=>nomatch z) h
 | flt y=>obtain ⟨t,q⟩:=(show ∃ t,u=Value.float y t from rx);cases q;exact kia_one PySem.W.kitx_float I.kIn True.intro e (fun z=>nomatch z) h
 | @lst a xs ea =>
  cases (show u=Value.ref a from rx);obtain ⟨_,_,n,_,h1⟩:=(show ObjOk X.prog X.w H s.heap a (.lst xs) from I.hok a _ ea);exact kia_one PySem.W.kitx_list I.kIn ⟨_,h1,rfl⟩ e (fun z=>nomatch z) h
 | @frz a ob xs ea =>
  cases (show u=Value.ref a from rx);obtain ⟨_,_,_,n,_,h1⟩:=(show ObjOk X.prog X.w H s.heap a (.frz ob (.lst xs)) from I.hok a _ ea);exact kia_one PySem.W.kitx_list I.kIn ⟨_,h1,rfl⟩ e (fun z=>nomatch z) h
 | @tup a xs ea =>
  cases (show u=Value.ref a from rx);obtain ⟨_,_,_,p⟩:=(show ObjOk X.prog X.w H s.heap a (.tup xs) from I.hok a _ ea);obtain ⟨o,h1,h2,_⟩:=p;exact kia_one PySem.W.kitx_tuple I.kIn ⟨o,h1,h2.1⟩ e (fun z=>nomatch z) h
 | @dK a kvs ea =>
  cases (show u=Value.ref a from rx);obtain ⟨_,_,vs,_,p⟩:=(show ObjOk X.prog X.w H s.heap a (.dK kvs) from I.hok a _ ea);obtain ⟨o,es,ep,h1,h2,_⟩:=p;exact kia_one PySem.W.kitx_dict I.kIn ⟨o,h1,h2.1⟩ e (fun z=>nomatch z) h
 | @dT a kvs ea =>
  cases (show u=Value.ref a from rx);obtain ⟨_,_,xs,_,o,es,ep,h1,h2,_⟩:=(show ObjOk X.prog X.w H s.heap a (.dT kvs) from I.hok a _ ea);exact kia_one PySem.W.kitx_dict I.kIn ⟨o,h1,h2.1⟩ e (fun z=>nomatch z) h
 | @ins a C dx fs ea cl ha hn htk hm =>
  cases (show u=Value.ref a from rx);obtain ⟨mA,O,_⟩:=ins_get I.hok ea;obtain ⟨od,J,_⟩:=O.look;exact kia_one (PySem.W.kitx_own (cl.get _) cl.hd ha hn htk hm) I.kIn J e (fun z=>nomatch z) h
end
end L2
namespace L2
open PySem PySem.Spec PyProof.Rows
structure Room (k:Nat) (A:Around):Prop where
 hd:A.handled=none
 dp:A.depth + 3 * k + 5 < recursionLimit
 un:A.units + 16 * k + 200 < cLine
theorem Room.mono {j k:Nat} {A:Around} (r:Room k A) (h:j<=k):Room j A:=⟨r.hd,by have:=r.dp;lia,by have:=r.un;lia⟩
theorem rm {j k:Nat} {A:Around} (r:Room k A) (h:j<=k:=by decide) : Room j A:=r.mono h
theorem Room.deeper {k:Nat} {A:Around} (r:Room (k + 1) A) (env:Env):Room k (A.deeper env) :=
 ⟨r.hd,by have:=r.dp;show A.depth + 1 + 3 * k + 5 < _;lia,by have:=r.un;show A.units + 3 + 16 * k + 200 < _;lia⟩
theorem Room.in1 {k:Nat} {A:Around} (r:Room (k + 1) A):Room k A.in1 :=
 ⟨r.hd,by have:=r.dp;show A.depth + 3 * k + 5 < _;lia,by have:=r.un;show A.units + 1 + 16 * k + 200 < _;lia⟩
theorem make_depth {A:Around} {C:Addr} {us:List Value} {kw:List (Str × Value)}:(A.under (.builtin "type.__call__" ⟨.ref C :: us,kw⟩)).depth=A.depth + 1:=by
 first | rfl | simp [Around.under,Code.weight,Code.isCreation,Code.isGuard,Code.isCaller,Code.frames,Code.isFrame,guardIds]
theorem make_units {A:Around} {C:Addr} {us:List Value} {kw:List (Str × Value)}:(A.under (.builtin "type.__call__" ⟨.ref C :: us,kw⟩)).units=A.units + 1:=by
 first | rfl | simp [Around.under,Code.cUnits,Code.frames,Code.isFrame]
theorem Room.make {k:Nat} {A:Around} (r:Room (k + 1) A) (C:Addr) (us:List Value) (kw:List (Str × Value)):Room k (A.under (.builtin "type.__call__" ⟨.ref C :: us,kw⟩)) :=
 ⟨r.hd,by have:=r.dp;rw [make_depth];lia,by have:=r.un;rw [make_units];lia⟩
theorem Room.depth {k:Nat} {A:Around} (r:Room k A):A.depth < recursionLimit:=by have:=r.dp;lia
theorem Room.units {k:Nat} {A:Around} (r:Room k A):A.units + 64 < cLine:=by have:=r.un;lia
theorem Room.units0 {k:Nat} {A:Around} (r:Room k A):A.units < cLine:=by have:=r.un;lia
def tNil:TA:=fun _ H Q=>Q [] H
def tCons (ta:TE) (tr:TA):TA:=fun σ H Q=>ta σ H fun x H1=>tr σ H1 fun xs H2=>Q (x :: xs) H2
section
variable {X:Cx} {e:Expr} {es:List Expr} {te:TE} {t:TA} {pos:Pos}
theorem J4:PA X [] tNil:=fun _ _ _ _ H Q I h=>Calls.spliced_nil ⟨[],H,I,.nil,h⟩
theorem J0 (ha:PE X e te) (hr:PA X es t) (hs:starEach (e :: es) X.env=(false,eval e X.env) :: starEach es X.env:=by rfl):PA X (e :: es) (tCons te t):=by
 intro pos pins s σ H Q I h;rw [hs];show wpAny _ _ (spliced ((false,eval e X.env) :: backTo pos (starEach es X.env))) _ _ s;refine Calls.spliced_cons (thn (ha pins s σ H _ I h) fun u s1 h9=>?_);obtain ⟨x,H1,I1,r1,q1⟩:=h9;exact thn (hr pos pins s1 σ H1 _ I1 q1) fun us s2 h9=>by obtain ⟨xs,H2,I2,r2,q2⟩:=h9;exact ⟨x :: xs,H2,I2,.cons r1 r2,q2⟩
def tTup (t:TA):TE:=fun σ H Q=>t σ H fun xs H1=>xs.length<=sizeLine/\∀ p,H1 p=none->Q (.ref p) (upd H1 p (.tup xs))
def tLst (t:TA):TE:=fun σ H Q=>t σ H fun xs H1=>xs.length<=sizeLine/\∀ p,H1 p=none->Q (.ref p) (upd H1 p (.lst xs))
theorem pe_tup {x1} (h:PA X es t):PE X (.Tuple es x1 pos) (tTup t):=by
 intro pins s σ H Q I hq;refine wpAny_Tuple_spliced (thn (h pos pins s σ H _ I hq) fun us s1 h9=>?_);obtain ⟨xs,H1,I1,r,z,q⟩:=h9;refine ⟨by rw [<- r.length];exact z,?_⟩;have hf:H1 s1.heap.objs.size=none:=I1.hok.fresh (Nat.le_refl _);refine ⟨.ref s1.heap.objs.size,upd H1 s1.heap.objs.size (.tup xs),I1.laid (t':=s1.toks) (fun b u e=>get?_push_of_some _ e) (Nat.le_refl _) ?_,rfl,q _ hf⟩;exact ⟨z,us,r,⟨_,get?_push_size _ rfl,⟨rfl,rfl⟩,_,rfl⟩⟩
theorem J1e (h:PA X es t):PE X (.List es pos) (tLst t):=by
 intro pins s σ H Q I hq;refine wpAny_List_spliced (thn (h pos pins s σ H _ I hq) fun us s1 h9=>?_);obtain ⟨xs,H1,I1,r,z,q⟩:=h9;refine ⟨by rw [<- r.length];exact z,?_⟩;have hf:H1 s1.heap.objs.size=none:=I1.hok.fresh (Nat.le_refl _);refine ⟨.ref s1.heap.objs.size,upd H1 s1.heap.objs.size (.lst xs),I1.laid (t':=s1.toks) (fun b u e=>get?_push_of_some _ e) (Nat.le_refl _) ?_,rfl,q _ hf⟩;exact ⟨z,us,0,r,get?_push_size _ rfl⟩
end
abbrev Sp:=List V->Hp->VK->XK->Prop
abbrev CXT:=List Env->Hp->Shared->XK->Value->Shared->Prop
structure Env0 (P:Program) (w:World) (K:PySem.W.Frag) (mg:Str->Option Value) (base:Heap) (A:Around) (outer:List Env) (s:Shared) (H:Hp):Prop where
 frames:A.frames=some outer
 mod:Mod K mg base
 bs:∀ b o,base.get? b=some o->s.heap.get? b=some o/\H b=none
 bsz:base.objs.size<=s.heap.objs.size
 funs:s.heap.FunFrames base outer
 frf:∀ b∈frs outer,H b=none
 hok:HOk P w H s.heap
 bare:AllBare s.gens
def CE (outer:List Env) (P:Program) (w:World) (H:Hp) (s:Shared) (Q:VK) (u:Value) (s':Shared):Prop :=
 ∃ v H',s'.os=s.os/\AllBare s'.gens/\Un (frs outer) [] H H' s.heap s'.heap/\HOk P w H' s'.heap/\RelV v u/\Q v H'
def CR (CX:CXT) (outer:List Env) (P:Program) (w:World) (H:Hp) (s:Shared) (Q:VK) (E:XK) (r:Result) (s':Shared):Prop :=
 match r with
 | .ok (.ret u)=>CE outer P w H s Q u s'
 | .ok _=>False
 | .error e=>CX outer H s E e s'
structure FnOk (P:Program) (w:World) (K:PySem.W.Frag) (mg:Str->Option Value) (base:Heap) (CX:CXT) (k:Nat) (f:Addr) (fd:FuncData) (ps:List Str) (sp:Sp):Prop where
 len:∀ vs H Q E,sp vs H Q E->vs.length=ps.length
 run:∀ (A:Around) (outer:List Env) (s:Shared) (H:Hp) (args:Args) (us:List Value) (vs:List V) (Q:VK) (E:XK),Room k A->Env0 P w K mg base A outer s H->BindsTo s fd args (ps.zip us)->Vals vs us->sp vs H Q E->
  codeAny (model P w) A (.call (.ref f) args) (CR CX outer P w H s Q E) s
theorem Env0.make {P:Program} {w:World} {K:PySem.W.Frag} {mg:Str->Option Value} {base:Heap} {A:Around} {outer:List Env} {s:Shared} {H:Hp} (e:Env0 P w K mg base A outer s H) (C:Addr) (us:List Value) (kw:List (Str × Value)) :
  Env0 P w K mg base (A.under (.builtin "type.__call__" ⟨.ref C :: us,kw⟩)) outer s H:=⟨by first | exact e.frames | (simpa [Around.under,Code.envs,Code.isFrame,pushEnvs] using e.frames),e.mod,e.bs,e.bsz,e.funs,e.frf,e.hok,e.bare⟩
theorem Env0.in1 {P:Program} {w:World} {K:PySem.W.Frag} {mg:Str->Option Value} {base:Heap} {A:Around} {outer:List Env} {s:Shared} {H:Hp} (e:Env0 P w K mg base A outer s H) :
  Env0 P w K mg base A.in1 outer s H:=⟨e.frames,e.mod,e.bs,e.bsz,e.funs,e.frf,e.hok,e.bare⟩
section
variable {X:Cx} {pins:List (Addr × Obj)} {σ:St} {H:Hp} {s s':Shared}
theorem Inv.env0 (I:Inv X pins σ H s):Env0 X.prog X.w X.K X.mg X.base X.A X.stack s H :=
 ⟨I.ok.frames,I.ok.mod,I.bs,Nat.le_trans I.ok.bsz I.sz,I.stack,I.stkFree,I.hok,I.bare⟩
theorem Inv.after {Q:VK} {u:Value} (I:Inv X pins σ H s) (h:CE X.stack X.prog X.w H s Q u s'):EP X pins σ Q u s':=by
 obtain ⟨v,H',os,bare,un,hok,r,q⟩:=h;obtain ⟨hh,g,d,t,os'⟩:=s';obtain rfl:os'=s.os:=os;exact ⟨v,H',I.call (h':=hh) (g':=g) (d':=d) (t':=t) (ch:=[]) un hok bare (fun b z=>absurd z (by simp)),r,q⟩
end
def tCall (sp:Sp) (dvs:List V) (E:XK) (t:TA):TE:=fun σ H Q=>t σ H fun vs H1=>sp (vs ++ dvs) H1 Q E
def tMake (C:Addr) (sp:Sp) (dvs:List V) (E:XK) (t:TA):TE:=fun σ H Q=>t σ H fun vs H1=>∀ x dx,H1 x=none->H1 dx=none->dx≠x->
 sp (.ref x :: (vs ++ dvs)) (upd (upd H1 dx (.own x)) x (.ins C dx [])) (fun v H2=>v=.non/\Q (.ref x) H2) E
def Binds (K:PySem.W.Frag) (fd:FuncData) (ps:List Str) (ds:List Value):Prop :=
 ∀ (s:Shared) (us:List Value),K.In s.heap->(us ++ ds).length=ps.length->BindsTo s fd ⟨us,[]⟩ (ps.zip (us ++ ds))
theorem Binds.all {K:PySem.W.Frag} {fd:FuncData} {ps:List Str} (h:∀ us:List Value,us.length=ps.length->bindArgs fd ⟨us,[]⟩=pure (ps.zip us)):Binds K fd ps []:=fun s us _ hl=>by
 rw [append_nil] at hl ⊢;exact .of_eq (h us hl)
def Passes (CX:CXT) (X:Cx) (E:XK):Prop:=∀ (pins:List (Addr × Obj)) (σ:St) (H:Hp) (s:Shared) (e:Value) (s':Shared),Inv X pins σ H s->CX X.stack H s E e s'->X.xe e s'
section
variable {X:Cx} {CX:CXT} {k:Nat} {f C:Addr} {fd:FuncData} {ps:List Str} {sp:Sp} {dvs:List V} {ds:List Value} {E:XK} {x m:Str} {p pos apos:Pos} {e o:Expr} {es:List Expr} {ta:TE} {t:TA}
theorem run_fn {pins:List (Addr × Obj)} {σ:St} {H:Hp} {s:Shared} {Q:VK} {us:List Value} {vs:List V} (F:FnOk X.prog X.w X.K X.mg X.base CX k f fd ps sp) (hr:Room k X.A) (hb:Binds X.K fd ps ds) (hd:Vals dvs ds) (hx:Passes CX X E)
  (I:Inv X pins σ H s) (r:Vals vs us) (h:sp (vs ++ dvs) H Q E):wpAny (model X.prog X.w) X.A (call (.ref f) us) (EP X pins σ Q) X.xe s:=by
 have r2:Vals (vs ++ dvs) (us ++ ds):=r.append hd;have hl:(us ++ ds).length=ps.length:=by rw [<- r2.length];exact F.len _ _ _ _ h
 refine wpAny_call (codeAny_mono (F.run X.A X.stack s H ⟨us,[]⟩ (us ++ ds) (vs ++ dvs) Q E hr I.env0 (hb s us I.kIn hl) r2 h) fun r s' hq=>?_)
 cases r with
 | error e=>exact hx pins σ H s e s' I hq
 | ok fl =>
  cases fl with
  | ret u=>exact I.after hq
  | next=>exact False.elim hq
  | brk=>exact False.elim hq
  | cont=>exact False.elim hq
theorem Jd (F:FnOk X.prog X.w X.K X.mg X.base CX k f fd ps sp) (hr:Room k X.A) (hg:Gl X x) (hm:X.mg x=some (.ref f)) (hk:keepIn X.K (.ref f)=true) (hb:Binds X.K fd ps ds) (hd:Vals dvs ds) (hx:Passes CX X E)
  (ha:PA X (e :: es) t) (hdb:(x == ("__debug__":Str))=false:=by decide) (he:starEach (e :: es) X.env=(false,eval e X.env) :: starEach es X.env:=by rfl) (hpl:(backTo pos (starEach es X.env)).any (·.1)=false:=by rfl) :
  PE X (.Call (.Name x p) (e :: es) [] pos) (tCall sp dvs E t):=by
 intro pins s σ H Q I h;refine wpAny_Call_Name_kw (J2k I hg hm ?_ hdb);refine callWith_K (h₀:=X.base) I.ok.mod.kin hk (thn (ha pos pins s σ H _ I h) fun us s1 h9=>?_) he hpl;obtain ⟨vs,H1,I1,r,q⟩:=h9;refine ⟨I1.kIn,?_⟩;exact run_fn F hr hb hd hx I1 r q
structure Mk (K:PySem.W.Frag) (C f:Addr):Prop where
 makes:makesIn K C=true
 init:findIn K (.ref C) "__init__"=some (some (.ref f))
 fn:isFn K (.ref f)=true
 kp:keepIn K (.ref C)=true
theorem run_make {pins:List (Addr × Obj)} {σ:St} {H:Hp} {s:Shared} {Q:VK} {us:List Value} {vs:List V} (M:Mk X.K C f) (F:FnOk X.prog X.w X.K X.mg X.base CX k f fd ps sp) (hr:Room (k + 1) X.A) (hb:Binds X.K fd ps ds) (hd:Vals dvs ds)
  (hx:Passes CX X E) (I:Inv X pins σ H s) (r:Vals vs us)
  (h:∀ x dx,H x=none->H dx=none->dx≠x->sp (.ref x :: (vs ++ dvs)) (upd (upd H dx (.own x)) x (.ins C dx [])) (fun v H2=>v=.non/\Q (.ref x) H2) E) :
  wpAny (model X.prog X.w) X.A (call (.ref C) us) (EP X pins σ Q) X.xe s:=by
 have hq:=h (s.heap.objs.size + 1) s.heap.objs.size (I.hok.fresh (Nat.le_succ _)) (I.hok.fresh (Nat.le_refl _)) (Nat.ne_of_lt (Nat.lt_succ_self _));have I2:=Inv.made (C:=C) I;have r2:Vals (V.ref (s.heap.objs.size + 1) :: (vs ++ dvs)) (Value.ref (s.heap.objs.size + 1) :: (us ++ ds)):=.cons rfl (r.append hd);have hl:(Value.ref (s.heap.objs.size + 1) :: us ++ ds).length=ps.length:=by
  have e:=r2.length;rw [F.len _ _ _ _ hq] at e;exact e.symm
 refine wpAny_call (make_map (f:=f) I.kIn M.makes M.init (beq_iff_eq.mp M.fn) (codeAny_mono (F.run _ X.stack _ _ ⟨Value.ref (s.heap.objs.size + 1) :: us,[]⟩ (Value.ref (s.heap.objs.size + 1) :: (us ++ ds)) _ _ E (hr.make C us [])
  (I2.env0.make C us []) (hb _ (Value.ref (s.heap.objs.size + 1) :: us) I2.kIn hl) r2 hq) fun r s' hq'=>?_))
 cases r with
 | error e=>exact hx pins σ _ _ e s' I2 hq'
 | ok fl =>
  cases fl with
  | ret u =>
   obtain ⟨v,H',I3,rv,ev,q3⟩:=I2.after hq';subst ev;exact ⟨rv,⟨V.ref (s.heap.objs.size + 1),H',I3,rfl,q3⟩⟩
  | next=>exact False.elim hq'
  | brk=>exact False.elim hq'
  | cont=>exact False.elim hq'
theorem J2h (M:Mk X.K C f) (F:FnOk X.prog X.w X.K X.mg X.base CX k f fd ps sp) (hr:Room (k + 1) X.A) (hg:Gl X x) (hm:X.mg x=some (.ref C)) (hb:Binds X.K fd ps ds) (hd:Vals dvs ds) (hx:Passes CX X E)
  (ha:PA X (e :: es) t) (hdb:(x == ("__debug__":Str))=false:=by decide) (he:starEach (e :: es) X.env=(false,eval e X.env) :: starEach es X.env:=by rfl) (hpl:(backTo pos (starEach es X.env)).any (·.1)=false:=by rfl) :
  PE X (.Call (.Name x p) (e :: es) [] pos) (tMake C sp dvs E t):=by
 intro pins s σ H Q I h;refine wpAny_Call_Name_kw (J2k I hg hm ?_ hdb);refine callWith_K (h₀:=X.base) I.ok.mod.kin M.kp (thn (ha pos pins s σ H _ I h) fun us s1 h9=>?_) he hpl;obtain ⟨vs,H1,I1,r,q⟩:=h9;refine ⟨I1.kIn,?_⟩;exact run_make M F hr hb hd hx I1 r q
end
structure FnScope (N P:List Str) (sc:Scope):Prop where
 kind:sc.kind=.function
 co:sc.isCoroutine=false
 gen:sc.isGenerator=false
 nd:N.Nodup
 pre:N.take P.length=P
 par:∀ x∈P,sc.names.lookup x=some .local\/sc.names.lookup x=some .cell
 nofree:∀ y∈sc.names,y.2≠.free
theorem fS {N P:List Str} {sc:Scope} (a:sc.kind=.function:=by rfl) (b:sc.isCoroutine=false:=by rfl) (c:sc.isGenerator=false:=by rfl) (d:N.Nodup:=by decide +kernel) (e:N.take P.length=P:=by rfl) (f:∀ x∈P,sc.names.lookup x=some .local\/sc.names.lookup x=some .cell:=by decide +kernel) (g:∀ y∈sc.names,y.2≠.free:=by decide +kernel) : FnScope N P sc:=⟨a,b,c,d,e,f,g⟩
theorem bindL_out {kindOf:Str->Option NameKind} {x:Str}:∀ {binds:List (Str × Value)} {m:Str->Option Value},(∀ v,(x,v) ∉ binds)->bindL kindOf binds m x=m x
 | [],_,_=>rfl
 | (n,v) :: r,m,h=>by
  unfold bindL;rw [bindL_out fun w hw=>h w (mem_cons_of_mem _ hw)];split
  ·have:x≠n:=by rintro rfl;exact h v mem_cons_self
   simp [this]
  ·rfl
theorem bindC_out {kindOf:Str->Option NameKind} {x:Str}:∀ {binds:List (Str × Value)} {m:Str->Option Value},(∀ v,(x,v) ∉ binds)->bindC kindOf binds m x=m x
 | [],_,_=>rfl
 | (n,v) :: r,m,h=>by
  unfold bindC;rw [bindC_out fun w hw=>h w (mem_cons_of_mem _ hw)];split
  ·rfl
  ·have:x≠n:=by rintro rfl;exact h v mem_cons_self
   simp [this]
theorem bindL_get {kindOf:Str->Option NameKind} {x:Str} {v:Value}:∀ {P:List Str} {vs:List Value} {i:Nat} {m:Str->Option Value},P.Nodup->P[i]?=some x->vs[i]?=some v->kindOf x=some .local->
  bindL kindOf (P.zip vs) m x=some v
 | [],_,_,_,_,h,_,_=>by simp at h
 | _ :: _,[],_,_,_,_,h,_=>by simp at h
 | p :: P,w :: vs,0,m,nd,h1,h2,hk=>by
  simp at h1 h2;subst h1;subst h2;show bindL kindOf ((p,w) :: P.zip vs) m p=_;unfold bindL;rw [bindL_out fun v hv=>(nodup_cons.mp nd).1 (List.of_mem_zip hv).1,if_pos hk];simp
 | p :: P,w :: vs,i + 1,m,nd,h1,h2,hk=>by
  show bindL kindOf ((p,w) :: P.zip vs) m x=_;unfold bindL;exact bindL_get (i:=i) (nodup_cons.mp nd).2 (by simpa using h1) (by simpa using h2) hk
theorem bindC_get {kindOf:Str->Option NameKind} {x:Str} {v:Value}:∀ {P:List Str} {vs:List Value} {i:Nat} {m:Str->Option Value},P.Nodup->P[i]?=some x->vs[i]?=some v->kindOf x≠some .local->
  bindC kindOf (P.zip vs) m x=some v
 | [],_,_,_,_,h,_,_=>by simp at h
 | _ :: _,[],_,_,_,_,h,_=>by simp at h
 | p :: P,w :: vs,0,m,nd,h1,h2,hk=>by
  simp at h1 h2;subst h1;subst h2;show bindC kindOf ((p,w) :: P.zip vs) m p=_;unfold bindC;rw [bindC_out fun v hv=>(nodup_cons.mp nd).1 (List.of_mem_zip hv).1,if_neg hk];simp
 | p :: P,w :: vs,i + 1,m,nd,h1,h2,hk=>by
  show bindC kindOf ((p,w) :: P.zip vs) m x=_;unfold bindC;exact bindC_get (i:=i) (nodup_cons.mp nd).2 (by simpa using h1) (by simpa using h2) hk
def start (N:List Str) (vs:List V):St:=vs.map some ++ List.replicate (N.length - vs.length) none
def cxOf (CX:CXT) (P:Program) (w:World) (K:PySem.W.Frag) (mg:Str->Option Value) (base:Heap) (N:List Str) (qual:Str) (scope:Scope) (f:Addr) (cd:Value) (A:Around) (outer:List Env) (s:Shared) (H:Hp) (E:XK):Cx where
 prog:=P
 w:=w
 K:=K
 mg:=mg
 base:=base
 A:=A.deeper (envOfC qual scope s.heap.objs.size f cd)
 N:=N
 s₀:=s
 H₀:=H
 env:=envOfC qual scope s.heap.objs.size f cd
 outer:=outer
 stack:=envOfC qual scope s.heap.objs.size f cd :: outer
 ex:=[]
 calm:=true
 fn:=fun _=>true
 pn:=[]
 xe:=fun e s'=>wpAny (model P w) (A.deeper (envOfC qual scope s.heap.objs.size f cd)) (leaving (envOfC qual scope s.heap.objs.size f cd) e) (fun _ s''=>CX outer H s E e s'') (fun e' s''=>CX outer H s E e' s'') s'
theorem cell_has {sc:Scope} {n:Nat} {x:Str} (h:sc.names.lookup x=some .cell):∃ c,(cellsFrom n sc.names []).lookup x=some c:=by
 have q:=PySem.W.cellsFrom_some sc.names n [] (.inl h);exact isSome_iff_exists.mp q
theorem inv_start {CX:CXT} {P:Program} {w:World} {K:PySem.W.Frag} {mg:Str->Option Value} {base:Heap} {N ps:List Str} {qual:Str} {scope:Scope} {f:Addr} {cd:Value} {A:Around} {outer:List Env} {s s1:Shared} {H:Hp} {E:XK} {us:List Value} {vs:List V}
  (S:FnScope N ps scope) (hd:A.handled=none) (e0:Env0 P w K mg base A outer s H) (hl:vs.length=ps.length) (r:Vals vs us)
  (x:InCallC s s.heap.objs.size (bindL (envOfC qual scope s.heap.objs.size f cd).kindOf (ps.zip us) fun _=>none) (cellsFrom (s.heap.objs.size + 1) scope.names []) (bindC (envOfC qual scope s.heap.objs.size f cd).kindOf (ps.zip us) fun _=>none) s1) :
  Inv (cxOf CX P w K mg base N qual scope f cd A outer s H E) [] (start N vs) H s1:=by
 have hpl:ps.length<=N.length:=by have:=congrArg List.length S.pre;rw [length_take] at this;lia
 obtain ⟨h1,tk,rfl,hk⟩:=x.done;have noA:∀ b:Addr,b ∉ (cxOf CX P w K mg base N qual scope f cd A outer s H E).ex:=fun b z=>absurd (show b∈([]:List Addr) from z) (by simp);refine ⟨⟨e0.mod,S.kind,rfl,rfl,Nat.le_refl _,fun y z c h1 h2=>?_,fun y hy=>?_,fun y c _ h=>?_,fun _=>hd,Around.frames_deeper e0.frames,.inr ⟨rfl,rfl⟩,fun b z=>absurd z (noA b),e0.bs,e0.bsz,fun b _ _=>noA b,fun b z=>absurd z (noA b),e0.funs,e0.frf⟩,
  rfl,e0.bare,Un.kept hk,⟨_,x.toInCall.ns,fun i y v h1 h2 h3=>?_⟩,fun y c h=>⟨_,x.cell y c h⟩,e0.hok.fresh (Nat.le_refl _),fun y c h=>?_,fun p hp=>absurd (show p∈([]:List (Addr × Obj)) from hp) (by simp),e0.hok.kept hk,?_⟩
 ·exact name_of_addr x.apart (mem_of_lookup h1) (mem_of_lookup h2)
 ·have hy:scope.names.lookup y=some .cell\/scope.names.lookup y=some .free:=hy;rcases hy with hy | hy
  ·exact cell_has hy
  ·exact absurd rfl (S.nofree _ (mem_of_lookup hy))
 ·exact Nat.le_of_lt (x.above y c (mem_of_lookup h))
 ·have hi:i < vs.length:=by
   unfold start at h2;by_cases hi:i < vs.length
   ·exact hi
   ·rw [getElem?_append_right (by simpa using hi)] at h2;rw [List.getElem?_replicate] at h2;split at h2 <;> cases h2
  have ha:vs[i]?=some v:=by
   unfold start at h2;rw [getElem?_append_left (by simpa using hi),getElem?_map] at h2
   cases e:vs[i]? with
   | none=>rw [e] at h2;cases h2
   | some a=>rw [e] at h2;cases h2;rfl
  obtain ⟨u,hu,rv⟩:=r.get ha;have hp:ps[i]?=some y:=by
   rw [<- S.pre,List.getElem?_take_of_lt (by lia)];exact h1
  have ndP:ps.Nodup:=by rw [<- S.pre];exact S.nd.sublist (List.take_sublist _ _)
  refine ⟨u,rv,?_⟩;rcases S.par y (mem_of_getElem? hp) with k | k
  ·exact .inl ⟨k,bindL_get ndP hp hu k⟩
  ·obtain ⟨c,e⟩:=cell_has (n:=s.heap.objs.size + 1) k;refine .inr ⟨.inl k,c,e,?_⟩;have q:=x.cell y c e;rw [bindC_get ndP hp hu (by show scope.names.lookup y≠_;rw [k];decide)] at q;exact q
 ·exact e0.hok.fresh (Nat.le_of_lt (x.above y c (mem_of_lookup h)))
 ·unfold start;show _=N.length;rw [length_append,length_map,List.length_replicate];lia
theorem fn_of {CX:CXT} {P:Program} {w:World} {K:PySem.W.Frag} {mg:Str->Option Value} {base:Heap} {k:Nat} {f:Addr} {name qual:Str} {params:Arguments} {body:List Stmt} {scope:Scope} {dV kV doc pm cdv ct oc:Value} {an od:Option Addr}
  {osl:Array (Option Value)} {N ps:List Str} {sp:Sp} (lk:K.lookup f=some ⟨oc,od,.func (fnOf name qual params body scope dV kV doc pm an cdv ct),osl⟩) (hcd:codeIn K cdv qual=true) (S:FnScope N ps scope)
  (len:∀ vs H Q E,sp vs H Q E->vs.length=ps.length)
  (hbody:∀ (A:Around) (outer:List Env) (s:Shared) (H:Hp) (vs:List V) (Q:VK) (E:XK),Room k (A.deeper (envOfC qual scope s.heap.objs.size f cdv))->sp vs H Q E->
   ∃ t,PSs (cxOf CX P w K mg base N qual scope f cdv A outer s H E) body t/\t { nx:=fun _ H'=>Q .non H',rt:=Q } (start N vs) H) :
  FnOk P w K mg base CX (k + 1) f (fnOf name qual params body scope dV kV doc pm an cdv ct) ps sp:=by
 refine ⟨len,fun A outer s H args us vs Q E hr e0 hb r hsp=>?_⟩;have hl:=len _ _ _ _ hsp;have KX:K.In s.heap:=e0.mod.kin.keeps fun b o e=>(e0.bs b o e).1;have lim:s.heap.NoLimit:=e0.mod.nolimit.keeps fun b o e=>(e0.bs b o e).1;have hkind:∀ y∈ps.zip us,scope.names.lookup y.1=some .local\/(scope.names.lookup y.1=some .cell/\((cellsFrom (s.heap.objs.size + 1) scope.names []).lookup y.1).isSome=true):=fun h9 hy=>by
  obtain ⟨n,v⟩:=h9;rcases S.par n (List.of_mem_zip hy).1 with q | q
  ·exact .inl q
  ·exact .inr ⟨q,PySem.W.cellsFrom_some _ _ _ (.inl q)⟩
 refine codeAny_call_function hr.depth (KX _ _ lk) rfl S.co S.gen rfl (PySem.W.codeRec_of KX hcd) (hb _ _ _ _ ?_);refine wpAny_newFunctionEnv_cells S.kind hkind fun env he s1 x=>?_;subst he;refine ⟨lim.keeps x.toInCall.keep,codeAny_func ?_⟩;obtain ⟨t,ht,hq⟩:=hbody A outer s H vs Q E (hr.deeper _) hsp;have I:Inv (cxOf CX P w K mg base N qual scope f cdv A outer s H E) [] (start N vs) H s1:=inv_start S hr.hd e0 hl r x;refine wpAny_mono (ht [] s1 (start N vs) H _ I hq) (fun fl s' hs=>?_) fun e s' hs=>hs;have fin:∀ {σ':St} {H':Hp} {v:V} {u:Value},Inv (cxOf CX P w K mg base N qual scope f cdv A outer s H E) [] σ' H' s'->RelV v u->Q v H'->CE outer P w H s Q u s' :=
  fun {σ' H' v u} J rv q=>⟨v,H',J.os,J.bare,J.base,J.hok,rv,q⟩
 cases fl with
 | ret u =>
  obtain ⟨v,σ',H',J,rv,q⟩:=hs;exact fin J rv q
 | next =>
  obtain ⟨σ',H',J,q⟩:=hs;exact fin (v:=V.non) (u:=Value.none) J rfl q
 | brk =>
  obtain ⟨_,_,_,q⟩:=hs;exact False.elim q
 | cont =>
  obtain ⟨_,_,_,q⟩:=hs;exact False.elim q
end L2
namespace L2
open PySem PySem.Spec PyProof.Rows
section
variable {X:Cx} {x:Str} {p pos:Pos} {e:Expr} {es:List Expr} {t:TA} {id T:String} {r:List V->Hp->VK->Prop}
def tCB (r:List V->Hp->VK->Prop) (t:TA):TE:=fun σ H Q=>t σ H fun vs H1=>r vs H1 Q
theorem Jb (hc:CallR X (.builtin id) r) (hg:Gl X x) (hm:X.mg x=none) (hv:bootBuiltins x=some (.builtin id)) (ha:PA X (e :: es) t) (hn:x≠"__name__":=by decide) (hdb:(x == ("__debug__":Str))=false:=by decide)
  (he:starEach (e :: es) X.env=(false,eval e X.env) :: starEach es X.env:=by rfl) (hpl:(backTo pos (starEach es X.env)).any (·.1)=false:=by rfl):PE X (.Call (.Name x p) (e :: es) [] pos) (tCB r t):=by
 intro pins s σ H Q I h;refine wpAny_Call_Name_kw (J4k I hg hm hv ?_ hn hdb);exact PyProof.Rows.callWith_builtin1 (thn (ha pos pins s σ H _ I h) fun us s1 h9=>by obtain ⟨vs,H1,I1,r1,q1⟩:=h9;exact hc pins s1 σ H1 vs us Q I1 r1 q1) he hpl
theorem Jh (hc:CallR X (.type T) r) (hg:Gl X x) (hm:X.mg x=none) (hv:bootBuiltins x=some (.type T)) (ha:PA X (e :: es) t) (hn:x≠"__name__":=by decide) (hdb:(x == ("__debug__":Str))=false:=by decide)
  (he:starEach (e :: es) X.env=(false,eval e X.env) :: starEach es X.env:=by rfl) (hpl:(backTo pos (starEach es X.env)).any (·.1)=false:=by rfl):PE X (.Call (.Name x p) (e :: es) [] pos) (tCB r t):=by
 intro pins s σ H Q I h;refine wpAny_Call_Name_kw (J4k I hg hm hv ?_ hn hdb);exact callWith_type1 (thn (ha pos pins s σ H _ I h) fun us s1 h9=>by obtain ⟨vs,H1,I1,r1,q1⟩:=h9;exact hc pins s1 σ H1 vs us Q I1 r1 q1) he hpl
end
end L2
namespace HT
open PySem PyProof.Rows
section
variable {prog:Program} {w:World} {A:Around} {E:Value->Shared->Prop} {s:Shared}
def sIx (n d:Nat):Option Int->Nat
 | none=>d
 | some v=>if v < 0 then (v + (n:Int)).toNat else min v.toNat n
theorem sIx_none (n d:Nat):sIx n d none=d:=rfl
theorem sIx_nat (n d k:Nat):sIx n d (some (k:Int))=min k n:=by
 show (if (k:Int) < 0 then ((k:Int) + (n:Int)).toNat else min (k:Int).toNat n)=min k n;rw [if_neg (by lia),Int.toNat_natCast]
end
end HT
namespace L2
open PySem PySem.Spec PyProof.Rows
abbrev TO:=St->Hp->(Option Int->Hp->Prop)->Prop
def PO (X:Cx) (e:Option Expr) (t:TO):Prop :=
 ∀ (pins:List (Addr × Obj)) (s:Shared) (σ:St) (H:Hp) (Q:Option Int->Hp->Prop),Inv X pins σ H s->t σ H Q->
  wpAny (model X.prog X.w) X.A (evalPart e X.env) (fun u s'=>∃ o H',Inv X pins σ H' s'/\IsPart u o/\Q o H') X.xe s
def tNoPart:TO:=fun _ H Q=>Q none H
def tPart (t:TE):TO:=fun σ H Q=>t σ H fun x H1=>∃ i,x=.int i/\Q (some i) H1
theorem J19 {ns:List Int}:∀ {us:List Value},Vals (ns.map V.int) us->IntsAre us ns:=by
 induction ns with
 | nil=>intro us r;rw [map_nil] at r;cases r;exact .nil
 | cons n ns ih =>
  intro us r;rw [map_cons] at r
  cases r with
  | cons r1 r2 =>
   obtain ⟨t,e⟩:=r1;subst e;exact .cons n t (ih r2)
section
variable {X:Cx} {e:Expr} {te:TE} {lo hi:Option Expr} {tl th:TO} {pos p2:Pos}
theorem po_none:PO X none tNoPart:=by
 intro pins s σ H Q I h;rw [evalPart_none];exact wpAny_pure ⟨none,H,I,.none,h⟩
theorem po_some (h:PE X e te):PO X (some e) (tPart te):=by
 intro pins s σ H Q I hw;rw [evalPart_some];refine thn (h pins s σ H _ I hw) fun u s1 h9=>?_;obtain ⟨x,H1,I1,r1,q1⟩:=h9;obtain ⟨i,rfl,q⟩:=q1;obtain ⟨t,rfl⟩:=r1;exact ⟨some i,H1,I1,.int i t,q⟩
def SlR (X:Cx) (r:V->Option Int->Option Int->Hp->VK->Prop):Prop :=
 ∀ (pins:List (Addr × Obj)) (s:Shared) (σ:St) (H:Hp) (x:V) (v vl vu:Value) (lo hi:Option Int) (sl:Addr) (Q:VK),Inv X pins σ H s->RelV x v->s.heap.IsSliceOf sl vl vu .none->IsPart vl lo->IsPart vu hi->r x lo hi H Q->
  ∃ T id,typeLookup (.type T) "__getitem__"=pure (some (.builtin id))/\s.TypeIs v T/\wpAny (model X.prog X.w) X.A (getItem v (.ref sl)) (EP X pins σ Q) X.xe s
def tSl (r:V->Option Int->Option Int->Hp->VK->Prop) (te:TE) (tl th:TO):TE:=fun σ H Q=>te σ H fun x H1=>tl σ H1 fun l H2=>th σ H2 fun u H3=>r x l u H3 Q
theorem J3d {r:V->Option Int->Option Int->Hp->VK->Prop} (hr:SlR X r) (he:PE X e te) (hl:PO X lo tl) (hu:PO X hi th):PE X (.Subscript e (.Slice lo hi none p2) pos) (tSl r te tl th):=by
 intro pins s σ H Q I h;refine Subscript_ (thn (he pins s σ H _ I h) fun v s1 h9=>?_);obtain ⟨x,H1,I1,r1,q1⟩:=h9;refine wpAny_Slice (thn (hl pins s1 σ H1 _ I1 q1) fun vl s2 h9=>?_);obtain ⟨l,H2,I2,pl,q2⟩:=h9;refine thn (hu pins s2 σ H2 _ I2 q2) fun vu s3 h9=>?_;obtain ⟨u,H3,I3,pu,q3⟩:=h9;rw [evalPart_none];refine wpAny_pure ?_;have I4:Inv X pins σ H3 { s3 with heap:=s3.heap.push { cls:=.type "slice",data:=.fields #[vl,vu,.none] } }:=I3.kept (t':=s3.toks) fun b ob q=>get?_push_of_some _ q;obtain ⟨T,id,hT,ht,hg⟩:=hr pins { s3 with heap:=s3.heap.push { cls:=.type "slice",data:=.fields #[vl,vu,.none] } } σ H3 x v vl vu l u s3.heap.objs.size Q I4 r1 (Heap.IsSliceOf.new ..) pl pu q3;show wpAny (model X.prog X.w) X.A (subscriptTail e (.Slice lo hi none p2) v (.ref s3.heap.objs.size)) (EP X pins σ Q) X.xe { s3 with heap:=s3.heap.push { cls:=.type "slice",data:=.fields #[vl,vu,.none] } };exact tail_any (ops:=[.ref s3.heap.objs.size,v]) ht hT hg (by with_unfolding_all rfl)
def cutV (xs:List V) (lo hi:Option Int):List V:=(xs.drop (HT.sIx xs.length 0 lo)).take (HT.sIx xs.length xs.length hi - HT.sIx xs.length 0 lo)
theorem cutV_length (xs:List V) (lo hi:Option Int):(cutV xs lo hi).length<=xs.length:=by
 unfold cutV;rw [length_take,length_drop];lia
end
end L2
namespace L2
open PySem PySem.Spec PyProof.Rows
def ixN (n:Nat) (i:Int):Option Nat:=if 0<=i then (if i < n then some i.toNat else none) else if -(n:Int)<=i then some (i + n).toNat else none
def atI {α:Type} (xs:List α) (i:Int):Option α:=(ixN xs.length i).bind fun j=>xs[j]?
theorem ixN_seq {n:Nat} {i:Int} {j:Nat} (h:ixN n i=some j):seqIndex? i n=some j/\j < n/\-(n:Int)<=i/\i < n:=by
 unfold ixN at h;by_cases h0:0<=i
 ·rw [if_pos h0] at h;by_cases h1:i < n
  ·rw [if_pos h1] at h;have e:i.toNat=j:=Option.some.inj h;exact ⟨by rw [seqIndex_of h0 h1,e],by lia,by lia,h1⟩
  ·rw [if_neg h1] at h;cases h
 ·rw [if_neg h0] at h;by_cases h1:-(n:Int)<=i
  ·rw [if_pos h1] at h;have e:(i + n).toNat=j:=Option.some.inj h;exact ⟨by rw [seqIndex_neg (by lia) h1,e],by lia,h1,by lia⟩
  ·rw [if_neg h1] at h;cases h
theorem atI_get {α:Type} {xs:List α} {i:Int} {v:α} (h:atI xs i=some v):∃ j,seqIndex? i xs.length=some j/\xs[j]?=some v/\j < xs.length/\-(xs.length:Int)<=i/\i < xs.length:=by
 unfold atI at h
 cases e:ixN xs.length i with
 | none=>rw [e] at h;cases h
 | some j =>
  rw [e] at h;obtain ⟨h1,h2,h3,h4⟩:=ixN_seq e;exact ⟨j,h1,h,h2,h3,h4⟩
theorem Ji {α:Type} {xs:List α} {j:Nat} {v:α} (h:xs[j]?=some v):atI xs (j:Int)=some v:=by
 have hj:j < xs.length:=(List.getElem?_eq_some_iff.mp h).1;have e:ixN xs.length (j:Int)=some j:=by
  unfold ixN;rw [if_pos (by lia),if_pos (by lia)];simp
 unfold atI;rw [e];exact h
def PlainIx (b:Expr):Prop:=∀ o i,subscripted b false o i=operate [o,i] (getItem o i)
def IxR (X:Cx) (r:R2):Prop :=
 ∀ (value slice:Expr) (pins:List (Addr × Obj)) (s:Shared) (σ:St) (H:Hp) (x y:V) (v u:Value) (Q:VK),Inv X pins σ H s->RelV x v->RelV y u->r x y H Q->
  subscripted slice false v u=operate [v,u] (getItem v u)->wpAny (model X.prog X.w) X.A (subscriptTail value slice v u) (EP X pins σ Q) X.xe s
def MtR (X:Cx) (id:String) (r:V->List V->Hp->VK->Prop):Prop :=
 ∀ (pins:List (Addr × Obj)) (s:Shared) (σ:St) (H:Hp) (x:V) (xs:List V) (v:Value) (us:List Value) (Q:VK),Inv X pins σ H s->RelV x v->Vals xs us->r x xs H Q->
  wpAny (model X.prog X.w) X.A (call (.builtin id) (v :: us)) (EP X pins σ Q) X.xe s
section
variable {X:Cx} {a b:Expr} {ta tb:TE} {pos:Pos}
theorem pe_ix {r:R2} (hr:IxR X r) (ha:PE X a ta) (hb:PE X b tb) (hs:PlainIx b):PE X (.Subscript a b pos) (tOp r ta tb):=by
 intro pins s σ H Q I h;exact Subscript_ (binT ha hb I h fun v u s2 x y H2 I2 rx ry q=>hr a b pins s2 σ H2 x y v u Q I2 rx ry q (hs _ _))
def rIxL (K:PySem.W.Frag):R2:=fun x y H Q=>∃ p xs i v,x=.ref p/\y=.int i/\SqL K H p xs/\atI xs i=some v/\Q v H
def rIxT (K:PySem.W.Frag):R2:=fun x y H Q=>∃ p xs i v,x=.ref p/\y=.int i/\SqT K H p xs/\atI xs i=some v/\Q v H
theorem Jx:IxR X (rIxL X.K):=by
 intro value slice pins s σ H x y v u Q I rx ry h hs;obtain ⟨p,xs,i,z,rfl,rfl,hq,he,q⟩:=h;cases rx;obtain ⟨t,rfl⟩:=ry;obtain ⟨its,r,pl,hz⟩:=I.list hq;obtain ⟨j,h1,h2,h3,h4,h5⟩:=atI_get he;obtain ⟨w,ew,rw'⟩:=r.get h2;have hl:=r.length;have hn:=J4h;have fin:EP X pins σ Q w s:=⟨z,H,I,rw',q⟩;by_cases h0:0<=i
 ·have hj:i.toNat=j:=by
   rw [seqIndex_of h0 h5] at h1;exact Option.some.inj h1
  exact item_listR pl.isList h0 (by lia) (by rw [hj];simpa using ew) fin hs
 ·have hj:(i + (its.toArray.size:Int)).toNat=j:=by
   rw [seqIndex_neg (by lia) h4] at h1;rw [size_toArray,<- hl];exact Option.some.inj h1
  exact subscriptTail_builtinR (x:=w) pl.isList.typeIs slot_list_getitem.lookup
   (wpAny_getItem_list_neg (Q:=fun r s'=>r=w/\EP X pins σ Q r s') pl.isList (by lia) (by rw [size_toArray] <;> lia) (by lia) (by rw [hj];simpa using ew) ⟨rfl,fin⟩) hs
theorem J24:IxR X (rIxT X.K):=by
 intro value slice pins s σ H x y v u Q I rx ry h hs;obtain ⟨p,xs,i,z,rfl,rfl,hq,he,q⟩:=h;cases rx;obtain ⟨t,rfl⟩:=ry;obtain ⟨its,r,pl,hz⟩:=I.tuple hq;obtain ⟨j,h1,h2,h3,h4,h5⟩:=atI_get he;obtain ⟨w,ew,rw'⟩:=r.get h2;have hl:=r.length;have hn:=J4h;have fin:EP X pins σ Q w s:=⟨z,H,I,rw',q⟩;exact subscriptTail_builtinR (x:=w) pl.typeIs slot_tuple_getitem.lookup
  (getItem_tuple (j:=j) (Q:=fun r s'=>r=w/\EP X pins σ Q r s') pl (by lia) (by lia) (by rw [size_toArray,<- hl];exact h1) (by simpa using ew) ⟨rfl,fin⟩) hs
theorem mapSeq_set (its:List Value) (n j:Nat) (u:Value):Obj.mapSeq (·.setIfInBounds j u) { cls:=.type "list",data:=.seq its.toArray n }={ cls:=.type "list",data:=.seq (its.set j u).toArray n }:=by
 simp [Obj.mapSeq]
theorem Inv.lst {pins:List (Addr × Obj)} {σ:St} {H:Hp} {s:Shared} {p:Addr} {xs:List V} (I:Inv X pins σ H s) (h:H p=some (.lst xs)) :
  ∃ (its:List Value) (n:Nat),Vals xs its/\s.heap.get? p=some { cls:=.type "list",data:=.seq its.toArray n }/\xs.length<=sizeLine:=by
 obtain ⟨z,its,n,r,e⟩:=I.hok p _ h;exact ⟨its,n,r,e,z⟩
theorem Inv.lstUpd {pins:List (Addr × Obj)} {σ:St} {H:Hp} {s:Shared} {p:Addr} {xs ys:List V} {its its':List Value} {n n':Nat} {f:Obj->Obj} (I:Inv X pins σ H s) (h:H p=some (.lst xs))
  (ho:s.heap.get? p=some { cls:=.type "list",data:=.seq its.toArray n }) (hf:f { cls:=.type "list",data:=.seq its.toArray n }={ cls:=.type "list",data:=.seq its'.toArray n' }) (r:Vals ys its') (hz:ys.length<=sizeLine) (t:Nat) :
  Inv X pins σ (upd H p (.lst ys)) { s with heap:=s.heap.update p f,toks:=t }:=by
 have e:(s.heap.update p f).get? p=some { cls:=.type "list",data:=.seq its'.toArray n' }:=by
  rw [Heap.get?_update_self f ho (by rw [hf] <;> rfl),hf]
 refine I.write (x:=p) (e:=p) (by rw [h];trivial) (.inl rfl) (fun b u hb q=>(Heap.get?_update_other _ _ (Ne.symm hb)).trans q) ⟨_,e⟩ ?_;exact ⟨hz,its',n',r,e⟩
def rSetL:V->V->V->Hp->(Hp->Prop)->Prop:=fun o i v H Q=>∃ p xs k j,o=.ref p/\i=.int k/\H p=some (.lst xs)/\ixN xs.length k=some j/\Q (upd H p (.lst (xs.set j v)))
theorem J45:PSet X rSetL:=by
 intro pins s σ H o i v ov iv u Q I ro ri rv h;obtain ⟨p,xs,k,j,rfl,rfl,hp,hj,q⟩:=h;cases ro;obtain ⟨t,rfl⟩:=ri;obtain ⟨its,n,r,ho,hz⟩:=I.lst hp;obtain ⟨h1,h2,h3,h4⟩:=ixN_seq hj;have hl:=r.length;have hn:=J4h;have I':Inv X pins σ (upd H p (.lst (xs.set j v))) { s with heap:=s.heap.update p (Obj.mapSeq (·.setIfInBounds j u)) } :=
  I.lstUpd hp ho (mapSeq_set its n j u) (r.set rv j) (by rw [List.length_set];exact hz) s.toks
 by_cases h0:0<=k
 ·have hk:k.toNat=j:=by
   rw [seqIndex_of h0 h4] at h1;exact Option.some.inj h1
  exact PySem.W.ki_setAt ho h0 (by lia) (by rw [size_toArray,<- hl];exact h4) (by rw [hk];exact ⟨_,I',q⟩)
 ·have hk:(k + (its.toArray.size:Int)).toNat=j:=by
   rw [seqIndex_neg (by lia) h3] at h1;rw [size_toArray,<- hl];exact Option.some.inj h1
  exact PySem.W.ki_setBack ho (by lia) (by rw [size_toArray,<- hl];exact h3) (by lia) (by rw [hk];exact ⟨_,I',q⟩)
theorem J44 (lo hi:Option Int) (n:Nat):(sliceBounds lo hi none n).1=((HT.sIx n 0 lo:Nat):Int)/\(sliceBounds lo hi none n).2.1=((HT.sIx n n hi:Nat):Int)/\(sliceBounds lo hi none n).2.2=1:=by
 refine ⟨?_,?_,rfl⟩
 ·cases lo with
  | none=>simp [sliceBounds,HT.sIx]
  | some i =>
   simp only [sliceBounds,HT.sIx,Option.getD_none,show (1:Int) > 0 by decide,if_true];by_cases h:i < 0
   ·simp only [h,if_true] <;> lia
   ·simp only [h,if_false] <;> lia
 ·cases hi with
  | none=>simp [sliceBounds,HT.sIx]
  | some i =>
   simp only [sliceBounds,HT.sIx,Option.getD_none,show (1:Int) > 0 by decide,if_true];by_cases h:i < 0
   ·simp only [h,if_true] <;> lia
   ·simp only [h,if_false] <;> lia
theorem J3s (its:List Value) (lo hi:Option Int):slicePick its.toArray lo hi none=((its.drop (HT.sIx its.length 0 lo)).take (HT.sIx its.length its.length hi - HT.sIx its.length 0 lo)).toArray:=by
 obtain ⟨h1,h2,h3⟩:=J44 lo hi its.toArray.size;unfold slicePick;rw [h1,h2,h3];simp only [sliceRange_one,pick_run,size_toArray] <;> rfl
def rSlL (K:PySem.W.Frag):V->Option Int->Option Int->Hp->VK->Prop:=fun x lo hi H Q=>∃ a xs,x=.ref a/\SqL K H a xs/\∀ p,H p=none->Q (.ref p) (upd H p (.lst (cutV xs lo hi)))
theorem sl_list:SlR X (rSlL X.K):=by
 intro pins s σ H x v vl vu lo hi sl Q I rx hs pl pu h;obtain ⟨a,xs,rfl,hx,q⟩:=h;cases rx;obtain ⟨its,r,ht,hz⟩:=I.list hx;have hlen:=r.length;refine ⟨"list",_,slot_list_getitem.lookup,ht.isList.typeIs,?_⟩;refine wpAny_getItem_list_slice ht.isList hs pl pu .none (by simp) ?_ (by rw [size_toArray] <;> lia);rw [J3s,<- hlen];refine ⟨.ref s.heap.objs.size,_,I.laid (t':=s.toks) (o:=.lst (cutV xs lo hi)) (fun b ob q=>get?_push_of_some _ q) (Nat.le_refl _) ?_,rfl,q _ (I.hok.fresh (Nat.le_refl _))⟩;exact ⟨Nat.le_trans (cutV_length xs lo hi) hz,_,0,(r.drop (HT.sIx xs.length 0 lo)).take (HT.sIx xs.length xs.length hi - HT.sIx xs.length 0 lo),get?_push_size _ rfl⟩
def flatV:V->Bool
 | .non=>true
 | .bl _=>true
 | .int _=>true
 | .str _=>true
 | _=>false
def eqV:V->V->Bool
 | .non,.non=>true
 | .bl a,.bl b=>a == b
 | .bl a,.int b=>(if a then 1 else 0) == b
 | .int a,.bl b=>a == (if b then 1 else 0)
 | .int a,.int b=>a == b
 | .str a,.str b=>a == b
 | _,_=>false
theorem eqAt_V {A:Around} {s:Shared} {y x:V} {u v:Value} (ry:RelV y u) (rx:RelV x v) (fy:flatV y=true) (fx:flatV x=true):SeqAt.EqAt A s u v (eqV y x):=by
 cases y with
 | non =>
  cases ry
  cases x with
  | non=>cases rx;exact SeqAt.EqAt.same _
  | bl b=>cases rx;exact SeqAt.EqAt.none_bool b
  | int b=>obtain ⟨t,rfl⟩:=rx;exact SeqAt.EqAt.none_int b t
  | str b=>obtain ⟨t,rfl⟩:=rx;exact SeqAt.EqAt.none_str b t
  | _=>exact absurd (show false=true from fx) Bool.false_ne_true
 | bl a =>
  cases ry
  cases x with
  | non=>cases rx;exact SeqAt.EqAt.bool_none a
  | bl b=>cases rx;exact SeqAt.EqAt.bool_bool a b
  | int b=>obtain ⟨t,rfl⟩:=rx;exact SeqAt.EqAt.bool_int a b t
  | str b=>obtain ⟨t,rfl⟩:=rx;exact SeqAt.EqAt.bool_str a b t
  | _=>exact absurd (show false=true from fx) Bool.false_ne_true
 | int a =>
  obtain ⟨t',rfl⟩:=ry
  cases x with
  | non=>cases rx;exact SeqAt.EqAt.int_none a t'
  | bl b=>cases rx;exact SeqAt.EqAt.int_bool a t' b
  | int b=>obtain ⟨t,rfl⟩:=rx;exact SeqAt.EqAt.int_int a t' b t
  | str b=>obtain ⟨t,rfl⟩:=rx;exact SeqAt.EqAt.int_str a t' b t
  | _=>exact absurd (show false=true from fx) Bool.false_ne_true
 | str a =>
  obtain ⟨t',rfl⟩:=ry
  cases x with
  | non=>cases rx;exact SeqAt.EqAt.str_none a t'
  | bl b=>cases rx;exact SeqAt.EqAt.str_bool a t' b
  | int b=>obtain ⟨t,rfl⟩:=rx;exact SeqAt.EqAt.str_int a t' b t
  | str b=>obtain ⟨t,rfl⟩:=rx;exact SeqAt.EqAt.str_str a t' b t
  | _=>exact absurd (show false=true from fx) Bool.false_ne_true
 | _=>exact absurd (show false=true from fy) Bool.false_ne_true
def eqU (x:V) (u:Value):Bool:=match u with
 | .none=>eqV .non x
 | .bool b=>eqV (.bl b) x
 | .int i _=>eqV (.int i) x
 | .str z _=>eqV (.str z) x
 | _=>false
theorem eqU_of {x y:V} {u:Value} (r:RelV y u) (f:flatV y=true):eqU x u=eqV y x:=by
 cases y with
 | non=>cases r;rfl
 | bl b=>cases r;rfl
 | int i=>obtain ⟨t,rfl⟩:=r;rfl
 | str z=>obtain ⟨t,rfl⟩:=r;rfl
 | _=>exact absurd (show false=true from f) Bool.false_ne_true
theorem any_eqU {x:V}:∀ {xs:List V} {us:List Value},Vals xs us->xs.all flatV=true->us.any (eqU x)=xs.any fun y=>eqV y x
 | _,_,.nil,_=>rfl
 | y :: xs,u :: us,.cons r t,f=>by
  rw [List.all_cons,Bool.and_eq_true] at f;rw [any_cons,any_cons,eqU_of r f.1,any_eqU t f.2]
theorem J4g {A:Around} {s:Shared} {x:V} {v:Value} (rx:RelV x v) (fx:flatV x=true):∀ {xs:List V} {us:List Value},Vals xs us->xs.all flatV=true->∀ u∈us,SeqAt.EqAt A s u v (eqU x u)
 | _,_,.nil,_=>fun u hu=>by cases hu
 | y :: xs,u :: us,.cons r t,f=>fun u' hu=>by
  rw [List.all_cons,Bool.and_eq_true] at f;rcases mem_cons.mp hu with rfl | hu
  ·rw [eqU_of r f.1];exact eqAt_V r rx f.1 fx
  ·exact J4g rx fx t f.2 u' hu
def inV (x:V) (xs:List V):Bool:=xs.any fun y=>eqV y x
def rIn (K:PySem.W.Frag) (neg:Bool):R2:=fun x y H Q=>∃ p xs,y=.ref p/\(SqL K H p xs\/SqT K H p xs)/\flatV x=true/\xs.all flatV=true/\Q (.bl (if neg then !inV x xs else inV x xs)) H
theorem op_in_seq:OpR X (compareOp .In) (rIn X.K false):=by
 intro pins s σ H x y v u Q I rx ry h;obtain ⟨p,xs,rfl,hq,fx,fs,q⟩:=h;cases ry;rcases hq with hq | hq
 ·obtain ⟨its,r,pl,hz⟩:=I.list hq;refine SeqAt.in_listAt (eqU x) pl.isList (fun w hw=>J4g rx fx r fs w (by simpa using hw)) ⟨.bl _,H,I,rfl,?_⟩;rw [show its.toArray.any (eqU x)=its.any (eqU x) by simp,any_eqU r fs];exact q
 ·obtain ⟨its,r,pl,hz⟩:=I.tuple hq;refine SeqAt.in_tupleAt (eqU x) pl (fun w hw=>J4g rx fx r fs w (by simpa using hw)) ⟨.bl _,H,I,rfl,?_⟩;rw [show its.toArray.any (eqU x)=its.any (eqU x) by simp,any_eqU r fs];exact q
theorem Jf:CallR X (.builtin "len") (fun xs H Q=>∃ p ys,xs=[.ref p]/\(SqL X.K H p ys\/SqT X.K H p ys)/\Q (.int ys.length) H):=by
 intro pins s σ H xs us Q I r h;obtain ⟨p,ys,rfl,hq,q⟩:=h;obtain ⟨u,rfl,rx⟩:=vals1 r;cases rx;have hn:=J4h;rcases hq with hq | hq
 ·obtain ⟨its,r',pl,hz⟩:=I.list hq;have hlen:=r'.length;exact Calls.call_len_list pl.isList (by simp only [size_toArray] <;> lia) ⟨.int ys.length,H,I.tok _,⟨s.toks + 1,by rw [size_toArray,hlen]⟩,q⟩
 ·obtain ⟨its,r',pl,hz⟩:=I.tuple hq;have hlen:=r'.length;exact len_tuple pl (by simp only [size_toArray] <;> lia) ⟨.int ys.length,H,I.tok _,⟨s.toks + 1,by rw [size_toArray,hlen]⟩,q⟩
theorem Jn:CallR X (.type "list") (fun xs H Q=>∃ p ys,xs=[.ref p]/\(SqL X.K H p ys\/SqT X.K H p ys)/\∀ l,H l=none->Q (.ref l) (upd H l (.lst ys))):=by
 intro pins s σ H xs us Q I r h;obtain ⟨p,ys,rfl,hq,q⟩:=h;obtain ⟨u,rfl,rx⟩:=vals1 r;cases rx;have fin:∀ (its:List Value),Vals ys its->ys.length<=sizeLine->∀ (h':Heap) (c':Nat),(∀ b o',s.heap.get? b=some o'->h'.get? b=some o')->
   h'.get? s.heap.objs.size=some { cls:=.type "list",dict:=none,data:=.seq its.toArray c',slots:=#[] }->EP X pins σ Q (.ref s.heap.objs.size) { s with heap:=h' }:=fun its r' hz h' c' kp e =>
  ⟨.ref s.heap.objs.size,_,I.laid (t':=s.toks) kp (Nat.le_refl _) (show ObjOk X.prog X.w _ h' _ (.lst ys) from ⟨hz,its,c',r',e⟩),rfl,q _ (I.hok.fresh (Nat.le_refl _))⟩
 rcases hq with hq | hq
 ·obtain ⟨its,r',pl,hz⟩:=I.list hq;have hlen:=r'.length;obtain ⟨o,ho,hc,n,hd⟩:=pl.isList;exact call_list_seq p (.inl rfl) ho hc hd (fun h' c' kp e=>fin its r' hz h' c' kp e) (by simp only [size_toArray] <;> lia)
 ·obtain ⟨its,r',pl,hz⟩:=I.tuple hq;have hlen:=r'.length;obtain ⟨o,ho,hc,n,hd⟩:=pl;exact call_list_seq p (.inr rfl) ho hc hd (fun h' c' kp e=>fin its r' hz h' c' kp e) (by simp only [size_toArray] <;> lia)
theorem J3z:CallR X (.type "tuple") (fun xs H Q=>∃ p ys,xs=[.ref p]/\((SqL X.K H p ys/\∀ l,H l=none->Q (.ref l) (upd H l (.tup ys)))\/(SqT X.K H p ys/\Q (.ref p) H))):=by
 intro pins s σ H xs us Q I r h;obtain ⟨p,ys,rfl,h⟩:=h;obtain ⟨u,rfl,rx⟩:=vals1 r;cases rx;rcases h with ⟨hq,q⟩ | ⟨hq,q⟩
 ·obtain ⟨its,r',pl,hz⟩:=I.list hq;have hlen:=r'.length;refine call_tuple_list pl.isList (fun h' kp=>?_) (by simp only [size_toArray] <;> lia);have I1:Inv X pins σ H { s with heap:=h' }:=I.kept (t':=s.toks) kp;have I2:Inv X pins σ (upd H h'.objs.size (.tup ys)) { s with heap:=h'.push { cls:=.type "tuple",data:=.seq its.toArray } } :=
   I1.laid (t':=s.toks) (fun b o e=>get?_push_of_some _ e) (Nat.le_refl _) (show ObjOk X.prog X.w _ _ _ (.tup ys) from ⟨hz,its,r',TupX.new _ _⟩)
  exact ⟨.ref h'.objs.size,_,I2,rfl,q _ (I1.hok.fresh (Nat.le_refl _))⟩
 ·obtain ⟨its,r',pl,hz⟩:=I.tuple hq;exact call_tuple_same pl ⟨.ref p,H,I,rfl,q⟩
def tyV (K:PySem.W.Frag) (T:String) (x:V) (H:Hp):Prop:=match x with
 | .str _=>T="str"
 | .int _=>T="int"
 | .ref p=>(T="list"/\∃ xs,SqL K H p xs)\/(T="tuple"/\∃ o,K.lookup p=some o/\o.cls=.type "tuple"/\o.dict=none)\/
   (T="dict"/\((∃ kvs,H p=some (.dK kvs))\/∃ kvs,H p=some (.dT kvs)))\/(T="set"/\∃ S n,H p=some (.set S n))
 | _=>False
theorem tyV_is {pins:List (Addr × Obj)} {σ:St} {H:Hp} {s:Shared} {T:String} {x:V} {v:Value} (I:Inv X pins σ H s) (r:RelV x v) (ty:tyV X.K T x H) :
  s.TypeIs v T/\∀ a,v=.ref a->∃ ob,s.heap.get? a=some ob/\ob.dict=none:=by
 cases x with
 | str z =>
  obtain ⟨t,rfl⟩:=r;cases (show T="str" from ty);exact ⟨typeIs_str s z t,fun _ e=>nomatch e⟩
 | int i =>
  obtain ⟨t,rfl⟩:=r;cases (show T="int" from ty);exact ⟨typeIs_int s i t,fun _ e=>nomatch e⟩
 | ref p =>
  cases r;rcases ty with ⟨rfl,xs,hq⟩ | ⟨rfl,o,hk,hc,hd⟩ | ⟨rfl,hk⟩ | ⟨rfl,S,n,hk⟩
  ·obtain ⟨its,_,pl,_⟩:=I.list hq;refine ⟨pl.isList.typeIs,fun a e=>?_⟩;cases e;obtain ⟨o,n,e,c,hd,_⟩:=pl;exact ⟨o,e,hd⟩
  ·refine ⟨⟨o,I.kIn p o hk,hc⟩,fun a e=>?_⟩;cases e;exact ⟨o,I.kIn _ o hk,hd⟩
  ·have z:∃ o,s.heap.get? p=some o/\o.ExactDict:=by
    rcases hk with ⟨kvs,hk⟩ | ⟨kvs,hk⟩
    ·obtain ⟨_,_,_,_,o,_,_,e,ex,_⟩:=I.hok p _ hk;exact ⟨o,e,ex⟩
    ·obtain ⟨_,_,_,_,o,_,_,e,ex,_⟩:=I.hok p _ hk;exact ⟨o,e,ex⟩
   obtain ⟨o,e,ex⟩:=z;refine ⟨⟨o,e,ex.1⟩,fun a e2=>?_⟩;cases e2;exact ⟨o,e,ex.2.1⟩
  ·obtain ⟨o,_,_,_,e,ex,_⟩:=I.hok p _ hk;refine ⟨⟨o,e,ex.1⟩,fun a e2=>?_⟩;cases e2;exact ⟨o,e,ex.2.1⟩
 | _=>exact False.elim ty
def tBM (K:PySem.W.Frag) (T:String) (r:V->List V->Hp->VK->Prop) (to:TE) (t:TA):TE:=fun σ H Q=>to σ H fun x H1=>tyV K T x H1/\t σ H1 fun xs H2=>r x xs H2 Q
variable {o e:Expr} {es:List Expr} {to:TE} {t:TA} {name:Str} {apos cpos:Pos} {T id:String} {r:V->List V->Hp->VK->Prop}
theorem pe_bm (pa:PlainAttrs T) (slot:Slot T name id) (hty:typeOf (.builtin id)=pure (.type "method_descriptor")) (hm:MtR X id r) (ho:PE X o to) (ha:PA X (e :: es) t)
  (hbase:attributeBase o name X.env (eval o X.env)=eval o X.env:=by rfl)
  (hfew:((backTo cpos (starEach (e :: es) X.env)).all (fun x=>!x.1) && (backToKw cpos (keywordEach [] X.env)).all (fun x=>x.1.isSome)
   && decide ((e :: es).length + ([]:List Keyword).length + (if ([]:List Keyword).isEmpty then 0 else 1) < 30))=true:=by rfl)
  (hline:(apos.endLine == cpos.line)=true:=by rfl) (hs:starEach (e :: es) X.env=(false,eval e X.env) :: starEach es X.env:=by rfl) (hplain:(backTo cpos (starEach es X.env)).any (·.1)=false:=by rfl) :
  PE X (.Call (.Attribute o name apos) (e :: es) [] cpos) (tBM X.K T r to t):=by
 intro pins s σ H Q I h;refine wpAny_Call_method_late hbase hfew hline rfl (thn (ho pins s σ H _ I h) fun v s1 h9=>?_);obtain ⟨x,H1,I1,r1,ty,q1⟩:=h9;obtain ⟨h1,h2⟩:=tyV_is I1 r1 ty;refine ⟨T,id,pa,slot,hty,h1,h2,?_⟩;have hA:=ha cpos pins s1 σ H1 _ I1 q1;rw [hs] at hA ⊢;refine Calls.callWith_builtin (by show (false || (backTo cpos (starEach es X.env)).any (·.1))=false;rw [hplain] <;> rfl) (Calls.evalArgs_plain ?_);exact thn hA fun us s2 h9=>by obtain ⟨vs,H2,I2,r2,q2⟩:=h9;exact hm pins s2 σ H2 x vs v us Q I2 r1 r2 q2
end
end L2
namespace L2
open PySem PySem.Spec PyProof.Rows
def MtM (X:Cx) (id:String) (r:V->List V->Hp->VK->Prop):Prop :=
 ∀ (pins:List (Addr × Obj)) (s:Shared) (σ:St) (H:Hp) (x:V) (xs:List V) (v:Value) (us:List Value) (Q:VK),Inv X pins σ H s->RelV x v->Vals xs us->r x xs H Q->
  wpAny (model X.prog X.w) X.A (call (.builtin id) (v :: us)) (EP X pins σ Q) X.xe s
theorem Vals.one:∀ {x:V} {us:List Value},Vals [x] us->∃ u,us=[u]/\RelV x u:=fun r=>vals1 r
theorem Vals.two:∀ {x y:V} {us:List Value},Vals [x,y] us->∃ u v,us=[u,v]/\RelV x u/\RelV y v:=fun r=>vals2 r
theorem Vals.rep {xs:List V} {us:List Value} (h:Vals xs us):∀ k:Nat,Vals (List.replicate k xs).flatten (List.replicate k us).flatten
 | 0=>.nil
 | k + 1=>by
  rw [replicate_succ,replicate_succ,flatten_cons,flatten_cons];exact Vals.append h (Vals.rep h k)
theorem J3m (its:List Value):∀ (k:Nat) (acc:List Value),
  foldl (fun x1 x2=>x1 ++ x2) acc.toArray (List.replicate k its.toArray)=(acc ++ (List.replicate k its).flatten).toArray
 | 0,acc=>by simp
 | k + 1,acc=>by
  have e:acc.toArray ++ its.toArray=(acc ++ its).toArray:=by simp
  have e2:(acc ++ its) ++ (List.replicate k its).flatten=acc ++ (List.replicate (k + 1) its).flatten:=by
   rw [replicate_succ,flatten_cons,List.append_assoc]
  rw [<- e2,<- J3m its k (acc ++ its),<- e,replicate_succ,List.foldl_cons]
section
variable {X:Cx} {pins:List (Addr × Obj)} {σ:St} {H:Hp} {s:Shared} {l b:Addr} {xs ys zs:List V}
theorem Inv.lset {its its':List Value} {n:Nat} {f:Array Value->Array Value} {t':Nat} (I:Inv X pins σ H s) (hH:H l=some (.lst xs))
  (e:s.heap.get? l=some { cls:=.type "list",data:=.seq its.toArray n }) (hf:f its.toArray=its'.toArray) (hv:Vals ys its') (hz:ys.length<=sizeLine) :
  Inv X pins σ (upd H l (.lst ys)) { s with heap:=s.heap.update l (Obj.mapSeq f),toks:=t' }:=by
 have q:=PySem.IsL.update e f;rw [hf] at q;refine I.write (x:=l) (e:=l) (by rw [hH];exact trivial) (.inl rfl) (fun b' u hb hu=>(Heap.get?_update_other s.heap (Obj.mapSeq f) (Ne.symm hb)).trans hu) ⟨_,q⟩ ?_;exact ⟨hz,its',_,hv,q⟩
theorem Inv.lnew {its:List Value} {t':Nat} (I:Inv X pins σ H s) (hv:Vals ys its) (hz:ys.length<=sizeLine) :
  Inv X pins σ (upd H s.heap.objs.size (.lst ys)) { s with heap:=s.heap.push { cls:=.type "list",data:=.seq its.toArray },toks:=t' } :=
 I.laid (fun _ _ q=>get?_push_of_some _ q) (Nat.le_refl _) ⟨hz,its,0,hv,get?_push_size _ rfl⟩
theorem Inv.fresh (I:Inv X pins σ H s):H s.heap.objs.size=none:=I.hok.fresh (Nat.le_refl _)
theorem Inv.lstM (I:Inv X pins σ H s) (hH:H l=some (.lst xs)):xs.length<=sizeLine/\∃ (its:List Value) (n:Nat),Vals xs its/\xs.length=its.length/\s.heap.get? l=some { cls:=.type "list",data:=.seq its.toArray n }:=by
 obtain ⟨z,its,n,r,e⟩:=I.hok l _ hH;exact ⟨z,its,n,r,r.length,e⟩
theorem notLongL {n:Nat} (h:n<=sizeLine):Builtin.List.listTooLong n=false:=by
 unfold Builtin.List.listTooLong;exact decide_eq_false (by lia)
end
section
variable {X:Cx}
def rAppend:V->List V->Hp->VK->Prop:=fun x vs H Q=>∃ l xs y,x=.ref l/\vs=[y]/\H l=some (.lst xs)/\xs.length < sizeLine/\Q .non (upd H l (.lst (xs ++ [y])))
theorem J1y:MtM X "list.append" rAppend:=by
 intro pins s σ H x vs v us Q I rx rv h;obtain ⟨l,xs,y,rfl,rfl,hH,hz,q⟩:=h;cases rx;obtain ⟨u,rfl,ru⟩:=rv.one;obtain ⟨z,its,n,r,hl,e⟩:=I.lstM hH;refine call_meets F.slot_list_append ⟨_,e,rfl⟩ F.entry_list_append (F.args_list_append_2 _ _) (PySem.list_append l its.toArray n u (by rw [size_toArray];lia)) ⟨e,?_⟩;refine ⟨.non,_,I.lset (its':=its ++ [u]) hH e (by simp) (r.append (.cons ru .nil)) ?_,rfl,q⟩;rw [length_append,List.length_singleton];lia
def rExtend:V->List V->Hp->VK->Prop:=fun x vs H Q=>∃ l b xs zs,x=.ref l/\vs=[.ref b]/\H l=some (.lst xs)/\H b=some (.lst zs)/\xs.length + zs.length<=sizeLine/\Q .non (upd H l (.lst (xs ++ zs)))
theorem mt_extend:MtM X "list.extend" rExtend:=by
 intro pins s σ H x vs v us Q I rx rv h;obtain ⟨l,b,xs,zs,rfl,rfl,hH,hB,hz,q⟩:=h;cases rx;obtain ⟨u,rfl,ru⟩:=rv.one;cases ru;obtain ⟨z,its,n,r,hl,e⟩:=I.lstM hH;obtain ⟨z2,its2,n2,r2,hl2,e2⟩:=I.lstM hB;have hsz:its.toArray.size + its2.toArray.size<=sizeLine:=by rw [size_toArray,size_toArray];lia
 have hlong:¬ (!its.toArray.isEmpty && Builtin.List.listTooLong (its.toArray.size + its2.toArray.size))=true:=by
  rw [notLongL hsz,Bool.and_false];exact Bool.false_ne_true
 refine call_meets F.slot_list_extend ⟨_,e,rfl⟩ F.entry_list_extend (F.args_list_extend_2 _ _)
  (AutoSeq1.list_extend_list_list_0 l its.toArray n b its2.toArray n2 hlong (by rw [size_toArray];lia) (by lia)) ⟨e,e2,?_⟩
 refine ⟨.non,_,I.lset (its':=its ++ its2) hH e (by simp) (r.append r2) ?_,rfl,q⟩;rw [length_append];lia
def rCat:R2:=fun x y H Q=>∃ l b xs zs,x=.ref l/\y=.ref b/\H l=some (.lst xs)/\H b=some (.lst zs)/\xs.length + zs.length<=sizeLine/\∀ p,H p=none->Q (.ref p) (upd H p (.lst (xs ++ zs)))
theorem J2u:OpR X (binaryOp .Add) rCat:=by
 intro pins s σ H x y v u Q I rx ry h;obtain ⟨l,b,xs,zs,rfl,rfl,hH,hB,hz,q⟩:=h;cases rx;cases ry;obtain ⟨z,its,n,r,hl,e⟩:=I.lstM hH;obtain ⟨z2,its2,n2,r2,hl2,e2⟩:=I.lstM hB;refine PySem.P.add_list e e2 ?_ (by rw [size_toArray,size_toArray];lia);have ea:its.toArray ++ its2.toArray=(its ++ its2).toArray:=by simp
 rw [ea];exact ⟨.ref _,_,I.lnew (t':=s.toks) (r.append r2) (by rw [length_append];lia),rfl,q _ I.fresh⟩
def rRep:R2:=fun x y H Q=>∃ l k xs,x=.ref l/\y=.int k/\H l=some (.lst xs)/\-(2 ^ 63)<=k/\k < 2 ^ 63/\xs.length * k.toNat<=sizeLine/\
 ∀ p,H p=none->Q (.ref p) (upd H p (.lst (List.replicate k.toNat xs).flatten))
theorem len_rep {α:Type} (xs:List α) (k:Nat):(List.replicate k xs).flatten.length=k * xs.length:=by
 induction k with
 | zero=>simp
 | succ k ih=>rw [replicate_succ,flatten_cons,length_append,ih,Nat.succ_mul,Nat.add_comm]
theorem op_rep:OpR X (binaryOp .Mult) rRep:=by
 intro pins s σ H x y v u Q I rx ry h;obtain ⟨l,k,xs,rfl,rfl,hH,h1,h2,hz,q⟩:=h;cases rx;obtain ⟨t,rfl⟩:=ry;obtain ⟨z,its,n,r,hl,e⟩:=I.lstM hH;have hlen:its.toArray.size * k.toNat<=sizeLine:=by rw [size_toArray,<- hl];exact hz
 have hcap:¬ its.toArray.size * k.toNat > (2 ^ 63 - 1) / 8:=by
  have:(sizeLine:Nat)<=(2 ^ 63 - 1) / 8:=by decide
  lia
 have hfit:¬ (!Builtin.List.listFitsIndex k)=true:=by
  rw [fitsIndex_both h1 h2];exact Bool.false_ne_true
 have hlong:¬ Builtin.List.listTooLong (its.toArray.size * k.toNat)=true:=by
  rw [notLongL hlen];exact Bool.false_ne_true
 have hnew:foldl (fun x1 x2=>x1 ++ x2) #[] (List.replicate (if its.toArray.isEmpty=true then 0 else k.toNat) its.toArray)=(List.replicate k.toNat its).flatten.toArray:=by
  have f0:∀ m:Nat,foldl (fun x1 x2=>x1 ++ x2) #[] (List.replicate m its.toArray)=(List.replicate m its).flatten.toArray:=fun m=>by
   have:=J3m its m [];rw [List.nil_append] at this;exact this
  rw [f0]
  cases its with
  | nil=>simp
  | cons a r'=>rw [if_neg (by simp)]
 refine wpAny_binaryOp_repeat_ref (T:="list") (U:="int") (by decide) ⟨_,e,rfl⟩ (fun s'=>typeIs_int s' k t) noFill_list_mul F.fills_int_mul F.slot_int_rmul repeat_list F.slot_int_index.lookup
  (call_meets F.slot_int_rmul (typeIs_int s k t) F.entry_int_rmul (F.args_int_rmul_2 _ _) (int___rmul___int_list k t l its.toArray n)
   ⟨e,rfl,⟨_,e,rfl⟩,call_meets F.slot_list_mul ⟨_,e,rfl⟩ F.entry_list_mul (F.args_list_mul_2 _ _) (AutoListH.list___mul___list_int_3 l its.toArray n k t hfit hcap hlong) ⟨e,?_⟩⟩)
 rw [hnew];exact ⟨.ref _,_,I.lnew (t':=s.toks) (r.rep k.toNat) (by rw [len_rep,Nat.mul_comm];exact hz),rfl,q _ I.fresh⟩
end
section
variable {prog:Program} {w:World} {A:Around} {E:Value->Shared->Prop} {s:Shared}
set_option maxRecDepth 100000 in
end
end L2
namespace Att
open PySem PySem.W PySem.Calls PyProof.Rows
theorem J2w {P:Params} {h:Heap}:∀ (ns:List Int) (vs:List Value),WellAll P h vs (ns.map WData.int)->IntsAre vs ns:=by
 intro ns
 induction ns with
 | nil =>
  intro vs w;rw [map_nil] at w;cases w;exact .nil
 | cons n ns ih =>
  intro vs w;rw [map_cons] at w
  cases w with
  | cons a b =>
   cases a;exact .cons _ _ (ih _ b)
theorem script_of {l:OpenLaw} {n:Nat} (hn:l.most=some n) {P:Params} {h:Heap} {args:List WData} {vals:List Value}
  (hpre:l.row.toRowW.claim.pre args=true) (hwl:WellAll P h vals args) :
  ∃ a vs ns,vals=[Value.ref a]/\args=[WData.list (ns.map WData.int)]/\h.get? a=some { cls:=.type "list",data:=.seq vs.toArray }/\IntsAre vs ns/\ns.length<=n:=by
 have hsh:WShape.hasAll [] args [.list .int]=true:=(pre_splitW hpre).1;have hc:l.pre.holds [] { args:=args }=true:=(pre_splitW hpre).2;obtain ⟨d,r,rfl,h1,h2⟩:=hasAllW_cons hsh;obtain rfl:=hasAllW_nil h2;obtain ⟨xs,rfl,h3⟩:=hasW_list h1;obtain ⟨ns,rfl⟩:=items_int h3;have hlen:ns.length<=n:=by
  unfold OpenLaw.pre at hc;have h4:(WTm.not (.lt (.lit (.int (n:Int))) (.len (.arg 0)))).holds [] { args:=[.list (ns.map .int)] }=true:=by
   have h4:=(holds_andW hc).1;rw [hn] at h4;exact h4
  have h5:=condW_of h4 (w_not (w_lt w_lit (w_len_list (w_arg rfl))));rw [length_map] at h5;refine Nat.le_of_not_lt fun q=>?_;have q':(n:Int) < ((ns.length:Nat):Int):=by lia
  first
   | (rw [decide_eq_true q'] at h5;exact absurd h5 (by decide))
   | (simp at h5;lia)
 cases hwl with
 | cons w1 w2 =>
  cases w2
  cases w1 with
  | list ho hall=>exact ⟨_,_,ns,rfl,rfl,ho,J2w ns _ hall,hlen⟩
theorem post_true (l:OpenLaw) (args:List WData):l.row.toRowW.claim.post args (.bool true) args=true :=
 postW_of (r:=l.row.toRowW) (X:=(true == true))
  (show WShape.has [] (.bool true) .bool=true by first | rfl | decide | simp [WShape.has,WShape.arms,WShape.armsAll])
  (show (WTm.eq .res (.lit (.bool true))).value [] { args:=args,res:=some (.bool true),after:=args }=some (.bool (true == true)) from w_eq_bool (w_res rfl) w_lit) rfl
theorem attach_call {l:OpenLaw} {n:Nat} {q:Program} {loose:List Str} {XP:(Str->Option Value)->Heap->Prop} {YP:World->Heap->Prop} {d:DefRec}
  (hn:l.most=some n) (hdf:d.params.defaults=[])
  (call:∀ (w:World) (s₀ s₁:Shared) (mg mb:Str->Option Value) (fa:Addr) (o:Obj) (pm cd doc:Value) (a:Addr) (vs:List Value) (ns:List Int),
   Ground q loose [] XP w s₀ mg mb s₁.heap->YP w s₁.heap->
   s₁.heap.get? fa=some o->o.data=.func (docDef d.name d.params d.body d.scope pm cd doc)->s₁.heap.CodeRec cd d.name->mg d.name=some (.ref fa)->
   s₁.heap.get? a=some { cls:=.type "list",data:=.seq vs.toArray }->IntsAre vs ns->ns.length<=n->s₁.gens=#[]->
   codeAny (model l.prog w) callerA (.call (.ref fa) ⟨[.ref a],[]⟩) (fun r s'=>r=.ok (.ret (.bool true))/\OldK s₁.heap s'.heap/\s'.os=s₁.os/\AllBare s'.gens) s₁) :
  WalkO q loose XP YP l.row.toRowW d [] (fun f vs=>PySem.call f vs):=by
 intro w s₀ s₁ mg mb G Y fa o pm cd doc dV kV ho hd hcd hD hmg hg args vals as hpre hlay hrd hwl hlo;obtain rfl:dV=.none:=Dflts.none hD hdf;obtain rfl:kV=.none:=Dflts.noKw hD;obtain ⟨a,vs,ns,rfl,rfl,hobj,hints,hlen⟩:=script_of hn hpre hwl;refine enter_call (codeAny_mono (call w s₀ s₁ mg mb fa o pm cd doc a vs ns G Y ho (fd_plain hd) hcd hmg hobj hints hlen hg) fun r s' hq=>?_);obtain ⟨rfl,h2,h3,h4⟩:=hq;exact ⟨.inl ⟨.bool true,.bool true,[],rfl,fun _=>rfl,.bool true,post_true l _,fun _=>⟨List.Pairwise.nil,fun _ hm=>(nomatch hm)⟩⟩,h2,h3,h4⟩
end Att
namespace L2
open PySem PySem.Spec PyProof.Rows
theorem J36:∀ {vs:List Value} {ns:List Int},IntsAre vs ns->Vals (ns.map V.int) vs
 | _,_,.nil=>.nil
 | _,_,.cons n t h=>.cons ⟨t,rfl⟩ (J36 h)
end L2
namespace L2
open PySem PySem.Spec PyProof.Rows
end L2
namespace L2
open PySem PySem.Spec PyProof.Rows
def inClass (s:Stmt) (j:Nat):Stmt:=match s with
 | .ClassDef _ _ _ body _ _ _ _ _ _ _=>body.getD j (.Pass ⟨0,0,0,0⟩)
 | _=>.Pass ⟨0,0,0,0⟩
def J1m (s:Stmt):Arguments:=match s with
 | .FunctionDef _ a _ _ _ _ _ _ _ _=>a
 | _=>{ posonlyargs:=[],args:=[],vararg:=none,kwonlyargs:=[],kw_defaults:=[],kwarg:=none,defaults:=[] }
def J10 (s:Stmt):List Stmt:=match s with
 | .FunctionDef _ _ b _ _ _ _ _ _ _=>b
 | _=>[]
def J9 (s:Stmt):Scope:=match s with
 | .FunctionDef _ _ _ _ _ _ sc _ _ _=>sc
 | _=>{ kind:=.function,names:=[],isGenerator:=false,isCoroutine:=false }
abbrev CX0:CXT:=fun _ _ _ _ _ _=>False
abbrev E0:XK:=fun _ _ _=>False
theorem pass0 {X:Cx}:Passes CX0 X E0:=fun _ _ _ _ _ _ _ h=>h.elim
structure Fun (K:PySem.W.Frag) (x qual:Str) (st:Stmt) (f:Addr) (fd:FuncData):Prop where
 ex:∃ (oc:Value) (od:Option Addr) (kV doc pm:Value) (an:Option Addr) (cdv ct:Value) (osl:Array (Option Value)),
  fd=fnOf x qual (J1m st) (J10 st) (J9 st) .none kV doc pm an cdv ct/\K.lookup f=some ⟨oc,od,.func fd,osl⟩/\codeIn K cdv qual=true
 kp:keepIn K (.ref f)=true
section
variable {P:Program} {w:World} {K:PySem.W.Frag} {mg:Str->Option Value} {base:Heap}
theorem Fun.ok {x qual:Str} {st:Stmt} {f:Addr} {fd:FuncData} {N ps:List Str} {k:Nat} {sp:Sp} (F:Fun K x qual st f fd) (S:FnScope N ps (J9 st)) (len:∀ vs H Q E,sp vs H Q E->vs.length=ps.length)
  (hbody:∀ (cdv:Value) (A:Around) (outer:List Env) (s:Shared) (H:Hp) (vs:List V) (Q:VK) (E:XK),Room k (A.deeper (envOfC qual (J9 st) s.heap.objs.size f cdv))->sp vs H Q E->
   ∃ t,PSs (cxOf CX0 P w K mg base N qual (J9 st) f cdv A outer s H E).nox (J10 st) t/\t { nx:=fun _ H'=>Q .non H',rt:=Q } (start N vs) H):FnOk P w K mg base CX0 (k + 1) f fd ps sp:=by
 obtain ⟨oc,od,kV,doc,pm,an,cdv,ct,osl,rfl,lk,hcd⟩:=F.ex;refine fn_of lk hcd S len fun A outer s H vs Q E hr hsp=>?_;obtain ⟨t,h,q⟩:=hbody cdv A outer s H vs Q E hr hsp;exact ⟨t,h.nox,q⟩
theorem Fun.binds {x qual:Str} {st:Stmt} {f:Addr} {fd:FuncData} {ps:List Str} (F:Fun K x qual st f fd)
  (h:∀ (kV doc pm:Value) (an:Option Addr) (cdv ct:Value) (us:List Value),us.length=ps.length->bindArgs (fnOf x qual (J1m st) (J10 st) (J9 st) .none kV doc pm an cdv ct) ⟨us,[]⟩=pure (ps.zip us)):Binds K fd ps []:=by
 obtain ⟨oc,od,kV,doc,pm,an,cdv,ct,osl,rfl,lk,hcd⟩:=F.ex;exact .all (h kV doc pm an cdv ct)
theorem fun_mk {x qual:Str} {st:Stmt} {f:Addr} {oc:Value} {od an:Option Addr} {osl:Array (Option Value)} {kV doc pm cdv ct:Value} (l:K.lookup f=some ⟨oc,od,.func (fnOf x qual (J1m st) (J10 st) (J9 st) .none kV doc pm an cdv ct),osl⟩)
  (c:codeIn K cdv qual=true) (k:keepIn K (.ref f)=true):Fun K x qual st f (fnOf x qual (J1m st) (J10 st) (J9 st) .none kV doc pm an cdv ct):=⟨⟨oc,od,kV,doc,pm,an,cdv,ct,osl,rfl,l,c⟩,k⟩
end
theorem hu_of {A:Around} {k:Nat} (hr:Room k A):A.units + 1 < cLine:=Nat.lt_of_le_of_lt (Nat.add_le_add_left (by decide:1<=64) _) hr.units
theorem Jk {n:Nat} (h:n<=1000):n < sizeLine:=Nat.lt_of_le_of_lt h (by decide)
section
variable {X:Cx}
theorem pv (i:Nat) {x:Str} {pos:Pos} (hN:X.N[i]?=some x:=by rfl) (hv:Vis X.env.scope x:=by first | exact Or.inl rfl | exact Or.inr (Or.inl rfl) | exact Or.inr (Or.inr rfl)) (hd:(x == ("__debug__":Str))=false:=by decide)
  (hcd:(x == ("__classdict__":Str))=false:=by decide):PE X (.Name x pos) (tVar i):=pe_var hN hv hd hcd
end
theorem iteF {A B:Prop} (h:B):if false=true then A else B:=by
 rw [if_neg Bool.false_ne_true];exact h
theorem iteT {A B:Prop} (h:A):if true=true then A else B:=by
 rw [if_pos rfl];exact h
theorem iteNS {c A B:Prop} [Decidable c] (hc:c) (h:B):if (!decide c)=true then A else B:=by
 rw [decide_eq_true hc];exact iteF h
def Same (H H':Hp):Prop:=∀ b o,H b=some o->H' b=some o
theorem Same.refl (H:Hp):Same H H:=fun _ _ h=>h
theorem Same.trans {H H1 H2:Hp} (a:Same H H1) (b:Same H1 H2):Same H H2:=fun c o h=>b c o (a c o h)
theorem Same.free {H H':Hp} (e:Same H H') {l:Addr} (h:H' l=Option.none):H l=Option.none:=by
 cases q:H l with
 | none=>rfl
 | some o =>
  rw [e l o q] at h;cases h
theorem Same.seq {K:PySem.W.Frag} {H H':Hp} {a:Addr} {xs:List V} (e:Same H H') (h:SqL K H a xs):SqL K H' a xs:=by
 rcases h with (h | ⟨o,h⟩) | h
 ·exact .inl (.inl (e _ _ h))
 ·exact .inl (.inr ⟨o,e _ _ h⟩)
 ·exact .inr h
end L2
namespace L2
open PySem PySem.Spec PyProof.Rows
theorem J20 {prog:Program} {w:World} {A:Around} {R:Result->Shared->Prop} {s:Shared} {elt target iter:Expr} {scope:Scope} {pos:Pos} {it acc:Value} {env:Env} (J:Nat->Shared->Prop)
  (turn:∀ n s,J n s->wpAny (model prog w) A (pyNext it) (fun r s₁=>match r with
   | none=>R (.ok .next) s₁
   | some v=>wpAny (model prog w) A (letOwnedTupleGo target it v) (fun _ s₁'=>wpAny (model prog w) A (assign target env v) (fun _ s₂=>wpAny (model prog w) A (eval elt env) (fun x s₃ =>
     wpAny (model prog w) A (call (.builtin "list.append") [acc,x]) (fun _ s₄=>∃ m,m < n/\J m s₄) (fun _ _=>False) s₃) (fun _ _=>False) s₂) (fun _ _=>False) s₁') (fun _ _=>False) s₁) (fun _ _=>False) s)
  (n:Nat) (h:J n s):codeAny (model prog w) A (.compLoop (.ListComp elt [⟨target,iter,[],0⟩] scope pos) 0 it acc env) R s:=by
 refine codeAny_loop rfl J (fun n s hI=>?_) n h;show wpAny _ _ ((compTurn (.ListComp elt [⟨target,iter,[],0⟩] scope pos) 0 it acc env).onRaise (fun x=>do noteFrame x env;theTreesLotGoes x)) _ _ s;refine wpAny_noted ?_;rw [compTurn_list1];refine wpAny_bind (wpAny_standAt (wpAny_bind (wpAny_mono (turn n s hI) (fun r s₁ h₁=>?_) fun _ _ h'=>False.elim h')))
 cases r with
 | none=>exact wpAny_pure h₁
 | some v =>
  refine wpAny_bind (wpAny_mono h₁ (fun _ s₁' h₁'=>?_) fun _ _ h'=>False.elim h');exact wpAny_bind (wpAny_mono h₁' (fun _ s₂ h₂=>wpAny_bind (wpAny_bind (wpAny_mono h₂ (fun x s₃ h₃=>wpAny_bind (wpAny_mono h₃
   (fun _ s₄ h₄=>wpAny_pure (wpAny_pure ⟨rfl,h₄⟩)) fun _ _ h'=>False.elim h')) fun _ _ h'=>False.elim h'))) fun _ _ h'=>False.elim h')
abbrev Cx.block (X:Cx) (N:List Str) (scope:Scope) (cl:List (Str × Addr)) (C:Addr) (fp:List Addr) (s:Shared) (H:Hp):Cx :=
 { X with N:=N,s₀:=s,H₀:=H,env:=compEnvC scope cl C X.env,outer:=X.stack,stack:=X.stack,ex:=fp,fn:=fun _=>false,pn:=[],xe:=fun _ _=>False }
theorem J31 {env:Env}:∀ {names:List (Str × NameKind)} {x:Str} {k:NameKind},(names.map fun (n,k)=>if (k == NameKind.free && env.scope.kind == .function && env.kindOf n == some .cell) then (n,NameKind.cell) else (n,k)).lookup x=some k->
  k=.cell\/k=.free->(∀ p∈names,p.2≠.cell)->∃ p∈names,p.1=x/\p.2=.free
 | [],_,_,h,_,_=>by simp at h
 | (n,q) :: r,x,k,h,hk,hc=>by
  have ih:=@J31 env r x k;have hq:q≠.cell:=hc (n,q) mem_cons_self;rw [map_cons] at h;by_cases hx:x=n
  ·subst hx;by_cases e:(q == NameKind.free && env.scope.kind == .function && env.kindOf x == some .cell)=true
   ·simp only [Bool.and_eq_true] at e;exact ⟨(x,q),mem_cons_self,rfl,by simpa using e.1.1⟩
   ·have e2:List.lookup x ((x,q) :: List.map (fun (n,k)=>if (k == NameKind.free && env.scope.kind == .function && env.kindOf n == some .cell) then (n,NameKind.cell) else (n,k)) r)=some k:=by
     simpa only [e,if_false,Bool.false_eq_true] using h
    rw [List.lookup_cons_self] at e2;cases e2;rcases hk with hk | hk
    ·exact absurd hk hq
    ·exact ⟨(x,q),mem_cons_self,rfl,hk⟩
  ·have hb:(x == n)=false:=by simpa using hx
   have h':(List.map (fun (n,k)=>if (k == NameKind.free && env.scope.kind == .function && env.kindOf n == some .cell) then (n,NameKind.cell) else (n,k)) r).lookup x=some k:=by
    by_cases e:(q == NameKind.free && env.scope.kind == .function && env.kindOf n == some .cell)=true
    ·simp only [e,if_true,List.lookup_cons,hb] at h;exact h
    ·simp only [e,if_false,Bool.false_eq_true,List.lookup_cons,hb] at h;exact h
   obtain ⟨p,hp,e1,e2⟩:=ih h' hk fun p hp=>hc p (mem_cons_of_mem _ hp);exact ⟨p,mem_cons_of_mem _ hp,e1,e2⟩
def capv (σ:St) (js:List Nat):St:=js.map fun j=>(σ[j]?).join
theorem J2p {σ:St} {js:List Nat} {k:Nat} {v:V} (h:(capv σ js)[k]?=some (some v)):∃ j,js[k]?=some j/\σ[j]?=some (some v):=by
 unfold capv at h;rw [getElem?_map] at h
 cases e:js[k]? with
 | none=>rw [e] at h;cases h
 | some j =>
  rw [e] at h;refine ⟨j,rfl,?_⟩
  cases e2:σ[j]? with
  | none=>rw [Option.map_some,e2] at h;cases h
  | some o=>rw [Option.map_some,e2] at h;exact congrArg some (Option.some.inj h)
def tComp (wi:TI) (te:TE) (js:List Nat) (i:Nat):TS:=fun D σ H=>wi σ H fun J H1=>∃ (lo:Int) (n:Nat) (f:Nat->V),J=Itr lo n/\n<=1000/\
 (∀ (d:Addr) (H2:Hp) (k:Nat),H1 d=none->k < n->H2=upd H1 d (.lst ((List.range k).map f))->te (some (.int (lo + k)) :: capv σ js) H2 fun v H3=>H3=H2/\v=f k)/\
 ∀ d,H1 d=none->D.nx (σ.set i (some (.ref d))) (upd H1 d (.lst ((List.range n).map f)))
section
variable {X:Cx} {elt iter:Expr} {x y:Str} {px py:Pos} {scope:Scope} {cl:List (Str × Addr)} {pos spos:Pos} {wi:TI} {te:TE} {caps:List Str} {js:List Nat} {i:Nat}
theorem J26 {pins:List (Addr × Obj)} {σ:St} {H:Hp} {s:Shared} {C:Addr} {fp:List Addr} (I:Inv X pins σ H s) (hC:s.heap.objs.size<=C) (f2:∀ b∈fp,FpOk X pins H b) (fl:∀ b∈fp,b < s.heap.objs.size)
  (hkind:scope.kind=.function) (hcell:∀ p∈scope.names,p.2≠.cell) (hsub:∀ p∈cl,X.env.cells.lookup p.1=some p.2) (hhas:∀ p∈scope.names,p.2=.free->∃ c,cl.lookup p.1=some c) :
  (X.block (x :: caps) scope cl C fp s H).Ok where
 mod:=I.ok.mod
 kind:=hkind
 glob:=I.ok.glob
 blt:=I.ok.blt
 above:=hC
 inj:=fun a b c h1 h2=>I.ok.inj a b c (hsub _ (mem_of_lookup h1)) (hsub _ (mem_of_lookup h2))
 has:=fun a h=>by
  have h':(∃ k,(relabel scope X.env).names.lookup a=some k/\(k=.cell\/k=.free)):=by
   rcases h with h | h
   ·exact ⟨_,h,.inl rfl⟩
   ·exact ⟨_,h,.inr rfl⟩
  obtain ⟨k,h1,hk⟩:=h';obtain ⟨p,hp,e1,e2⟩:=J31 h1 hk hcell;rw [<- e1];exact hhas p hp e2
 cab:=fun _ _ h=>nomatch h
 hd:=I.ok.hd
 frames:=I.ok.frames
 stk:=.inl rfl
 exf:=fun b hb=>⟨Nat.ne_of_lt (Nat.lt_of_lt_of_le (fl b hb) hC),fun a c e=>(f2 b hb).2.2.2.2.1 a c (hsub _ (mem_of_lookup e))⟩
 bs:=I.bs
 bsz:=Nat.le_trans I.ok.bsz I.sz
 noex:=fun b o e hb=>by
  rcases (f2 b hb).2.2.2.1 with z | z
  ·exact I.ok.noex b o e z
  ·exact absurd (Nat.lt_of_lt_of_le (lt_size e) (Nat.le_trans I.ok.bsz z)) (Nat.lt_irrefl _)
 exfs:=fun b hb z=>by
  rcases mem_cons.mp (I.stkSub b z) with e | e
  ·exact (f2 b hb).2.1 e
  ·exact (f2 b hb).2.2.1 e
 funs:=I.stack
 frf:=I.stkFree
theorem ps_comp (hN:X.N.Nodup) (hi:X.N[i]?=some y) (hy:Loc X.env.scope y) (hc:X.calm=true) (hp:PI X (.Name x px) iter wi)
  (he:∀ (C:Addr) (fp:List Addr) (s:Shared) (H:Hp),PE (X.block (x :: caps) scope cl C fp s H) elt te)
  (hcell:∀ p∈scope.names,p.2≠.cell) (hnames:∀ p∈scope.names,p.2=.local->scope.names.lookup p.1=some .local) (hnd:(x :: caps).Nodup)
  (hsub:∀ p∈cl,X.env.cells.lookup p.1=some p.2) (hhas:∀ p∈scope.names,p.2=.free->∃ c,cl.lookup p.1=some c) (hlen:caps.length=js.length)
  (hcaps:∀ (k:Nat) (c:Str),caps[k]?=some c->∃ (j:Nat) (a:Addr),js[k]?=some j/\X.N[j]?=some c/\X.env.scope.names.lookup c=some .cell/\cl.lookup c=some a/\(relabel scope X.env).names.lookup c=some .cell)
  (hf:X.fn y=true\/X.env.scope.names.lookup y=some .local:=by first | exact .inl rfl | exact .inr rfl | assumption)
  (hsw:swapsWith (.ListComp elt [⟨.Name x px,iter,[],0⟩] scope pos) (some (.Name y py)) spos.line X.env=pure true:=by rfl) (hclos:closureFor scope X.env=pure cl:=by rfl)
  (hkind:scope.kind=.function:=by rfl) (hx:scope.names.lookup x=some .local:=by rfl) (hs:∀ v,foldedSetIterable iter X.env v=pure v:=by intro _;rfl) :
  PS X (.Assign [.Name y py] (.ListComp elt [⟨.Name x px,iter,[],0⟩] scope pos) spos) (tComp wi te js i):=by
 intro pins s σ H D I h;rw [exec_Assign_Name_used _ _ _ _ hsw];refine wpAny_bind (wpAny_standAt (wpAny_bind ?_));show wpAny _ X.A (do let _ <- comprehension (.ListComp elt [⟨.Name x px,iter,[],0⟩] scope pos) scope X.env _ (newList []) false (eval iter X.env) (some (assign (.Name y py) X.env))) _ _ s;refine wpAny_bind (wpAny_mono (wpAny_comprehension_free (cl:=cl) (use:=some (assign (.Name y py) X.env)) (Q:=fun _ s'=>SP X pins D .next s') rfl hs hclos hkind hnames
  (thn (hp pins s σ H _ I h) fun v s1 h1=>thn h1 fun itv s2 h2=>?_)) (fun _ s' hq=>wpAny_pure (wpAny_pure hq)) fun _ _ e=>e)
 obtain ⟨it,fp,tn,J,H2,e,I2,T,st2,f2,lo,n,f,rfl,hn,hel,hfin⟩:=h2;subst e;refine wpAny_newObj_type (wpAny_newFunctionEnv hcell (by intro y hy;simp at hy) (fun h₁ hns₁ hsb₁=>?_) hkind);dsimp only at hns₁ hsb₁ ⊢;generalize hH2:s2.heap.push { cls:=.type "list",dict:=none,data:=.seq ([]:List Value).toArray }=G at hns₁ hsb₁ ⊢;have hC:G.objs.size=s2.heap.objs.size + 1:=by rw [<- hH2,Heap.size_push]
 have hDC:s2.heap.objs.size≠G.objs.size:=by rw [hC];exact Nat.ne_of_lt (Nat.lt_succ_self _)
 have hCle:s2.heap.objs.size<=G.objs.size:=by rw [hC];exact Nat.le_succ _
 have old:∀ b o,s2.heap.get? b=some o->h₁.get? b=some o:=fun b o e=>hsb₁.extBut b o (by rw [hC];exact Nat.ne_of_lt (Nat.lt_succ_of_lt (lt_size e))) (get?_push_of_some _ (hH2 ▸ get?_push_of_some _ e));have hacc:h₁.get? s2.heap.objs.size=some { cls:=.type "list",dict:=none,data:=.seq ([]:List Value).toArray }:=hsb₁.extBut _ _ hDC (get?_push_of_some _ (hH2 ▸ get?_push_size _ rfl));have hfr:H2 s2.heap.objs.size=none:=I2.hok.fresh (Nat.le_refl _);have fl:∀ b∈fp,b < s2.heap.objs.size:=fun b hb=>by
  obtain ⟨o,e,_⟩:=T.obj _ _ st2 b hb;exact lt_size e
 have hDf:s2.heap.objs.size ∉ fp:=fun hm=>Nat.lt_irrefl _ (fl _ hm);have hok1:HOk X.prog X.w (upd H2 s2.heap.objs.size (.lst [])) h₁:=I2.hok.laid old (Nat.le_refl _) ⟨Nat.zero_le _,[],0,.nil,hacc⟩;have IY0:∀ tk,Inv (X.block (x :: caps) scope cl G.objs.size fp s2 H2) [] (none :: capv σ js) (upd H2 s2.heap.objs.size (.lst [])) { s2 with heap:=h₁,toks:=tk }:=fun tk=>by
  refine ⟨J26 I2 hCle f2 fl hkind hcell hsub hhas,rfl,I2.bare,Un.laid old (Nat.le_refl _) hfr,⟨_,hns₁,fun k z v e1 e2 e3=>?_⟩,fun z c e=>?_,?_,fun z c e=>?_,fun p hp=>absurd hp (by simp),hok1,?_⟩
  ·cases k with
   | zero=>simp at e2
   | succ k =>
    have e1':caps[k]?=some z:=by simpa using e1
    have e2':(capv σ js)[k]?=some (some v):=by simpa using e2
    obtain ⟨j,a,q1,q2,q3,q4,q5⟩:=hcaps k z e1';obtain ⟨j',r1,r2⟩:=J2p e2';rw [q1] at r1;cases r1;obtain ⟨m,hm,hl⟩:=I2.loc;obtain ⟨u,ru,lu⟩:=hl j z v q2 r2 (.inr (.inl q3));refine ⟨u,ru,.inr ⟨.inl q5,a,q4,?_⟩⟩;rcases lu with ⟨k1,_⟩ | ⟨_,c,ec,o,ho,hd⟩
    ·have k1':X.env.scope.names.lookup z=some .local:=k1;rw [q3] at k1';cases k1'
    ·have:=hsub _ (mem_of_lookup q4);rw [ec] at this;cases this;exact ⟨o,old _ _ ho,hd⟩
  ·obtain ⟨v,o,ho,hd⟩:=I2.cell z c (hsub _ (mem_of_lookup e));exact ⟨v,o,old _ _ ho,hd⟩
  ·show upd H2 s2.heap.objs.size (.lst []) G.objs.size=none;rw [Ja hDC.symm];exact I2.hok.fresh hCle
  ·have ec:=hsub _ (mem_of_lookup e);obtain ⟨v,o,ho,hd⟩:=I2.cell z c ec;rw [Ja (Nat.ne_of_lt (lt_size ho))];exact I2.freeC z c ec
  ·show (none :: capv σ js).length=(x :: caps).length;unfold capv;simp [hlen]
 have stat:∀ {H':Hp},(∀ b∈fp,H' b=none)->∀ b∈fp,FpOk (X.block (x :: caps) scope cl G.objs.size fp s2 H2) [] H' b:=fun hn b hb =>
  ⟨hn b hb,Nat.ne_of_lt (Nat.lt_of_lt_of_le (fl b hb) hCle),(J26 (x:=x) (caps:=caps) I2 hCle f2 fl hkind hcell hsub hhas).exfs b hb,.inl hb,fun z c e=>(f2 b hb).2.2.2.2.1 z c (hsub _ (mem_of_lookup e)),fun p hp=>absurd hp (by simp)⟩
 have fpn:∀ ys,∀ b∈fp,upd H2 s2.heap.objs.size (.lst ys) b=none:=fun ys b hb=>by
  rw [Ja (show b≠s2.heap.objs.size from fun e=>hDf (by rw [<- e];exact hb))];exact (f2 b hb).1
 have hxl:(relabel scope X.env).names.lookup x=some .local:=lookup_relabel_local hx;have fin:∀ (s5:Shared) (σ5:St),Inv (X.block (x :: caps) scope cl G.objs.size fp s2 H2) [] σ5 (upd H2 s2.heap.objs.size (.lst ((List.range n).map f))) s5->
   compPost (model X.prog X.w) X.A X.xe (some (assign (.Name y py) X.env)) (fun _ s'=>SP X pins D .next s') (.ref s2.heap.objs.size) G.objs.size (.ok .next) s5:=fun s5 σ5 I5=>by
  have J5:Inv X pins σ (upd H2 s2.heap.objs.size (.lst ((List.range n).map f))) s5:=I2.call' (ch:=fp) I5.os I5.base I5.hok I5.bare fun b hb=>⟨(f2 b hb).2.2.2.1,(f2 b hb).2.1,(f2 b hb).2.2.2.2.1,(f2 b hb).2.2.2.2.2⟩;have hnsC:∃ m,s5.heap.Ns G.objs.size m:=by obtain ⟨m,q,_⟩:=I5.loc;exact ⟨m,q⟩
  obtain ⟨mC,nsC⟩:=hnsC;show wpAny _ X.A (assign (.Name y py) X.env (.ref s2.heap.objs.size)) _ _ s5;refine wpAny_assign_Name ?_;refine J37 J5 hN hi hy (v:=.ref s2.heap.objs.size) rfl (fun s6 I6 keep6=>?_) hf;obtain ⟨a,sa,ha⟩:=keep6;have hLt:X.env.locals < s2.heap.objs.size:=I2.lt;have aC:a≠G.objs.size:=by
   rcases ha with e | e
   ·rw [e];exact Nat.ne_of_lt (Nat.lt_of_lt_of_le hLt hCle)
   ·obtain ⟨v,o,ho,_⟩:=I2.cell y a e;exact Nat.ne_of_lt (Nat.lt_of_lt_of_le (lt_size ho) hCle)
  refine ⟨mC,nsC.sameBut sa (Ne.symm aC),fun h' hs'=>?_⟩;have hCn:upd H2 s2.heap.objs.size (.lst ((List.range n).map f)) G.objs.size=none:=by
   rw [Ja hDC.symm];exact I2.hok.fresh hCle
  have I7:=I6.turned (h':=h') (t':=s6.toks) (it:=G.objs.size) (fun b o hb e=>(hs'.2 b hb).trans e) hCn (Nat.ne_of_gt (Nat.lt_of_lt_of_le hLt hCle)) (.inr (Nat.le_trans I2.sz hCle))
   (fun z c e=>by
    obtain ⟨v,o,ho,_⟩:=I2.cell z c e;exact Nat.ne_of_lt (Nat.lt_of_lt_of_le (lt_size ho) hCle))
   (fun p hp=>Nat.ne_of_lt (Nat.lt_of_lt_of_le (lt_size (I2.pin p hp).1) hCle))
  exact ⟨_,_,I7,hfin _ hfr⟩
 have loop:∀ tk,codeAny (model X.prog X.w) X.A (.compLoop (.ListComp elt [⟨.Name x px,iter,[],0⟩] scope pos) 0 (.ref it) (.ref s2.heap.objs.size) (compEnvC scope cl G.objs.size X.env))
   (compPost (model X.prog X.w) X.A X.xe (some (assign (.Name y py) X.env)) (fun _ s'=>SP X pins D .next s') (.ref s2.heap.objs.size) G.objs.size) { s2 with heap:=h₁,toks:=tk }:=fun tk=>by
  refine J20 (fun m s'=>∃ (k:Nat) (o:Option V),m=n - k/\k<=n/\Inv (X.block (x :: caps) scope cl G.objs.size fp s2 H2) [] (o :: capv σ js) (upd H2 s2.heap.objs.size (.lst ((List.range k).map f))) s'/\tn k s'.heap) ?_ n
   ⟨0,none,rfl,Nat.zero_le _,IY0 tk,T.keep _ _ _ st2 fun b hb o e=>old b o e⟩
  rintro m s3 ⟨k,o,rfl,hk,I3,st3⟩;by_cases hlt:k < n
  ·refine thn (T.item (X.block (x :: caps) scope cl G.objs.size fp s2 H2) rfl rfl rfl hc k [] s3 _ _ (fun _ _=>False) I3 (stat (fpn _)) st3 hlt) fun r s4 h9=>?_;obtain ⟨u,hr,h4⟩:=h9;subst hr;refine thn h4 fun _ s5 h9=>?_;obtain ⟨v,H5,I5,r5,y5,st5,fr5⟩:=h9;obtain ⟨rfl,rfl⟩:=y5;have I5':=I5.pinned (stat fr5) (T.obj _ _ st5);refine thn (Jm (X:=X.block (x :: caps) scope cl G.objs.size fp s2 H2) (i:=0) (pos:=px) hnd rfl (.inl hxl) (.inr hxl) _ s5 _ _ _ u
    (fun σ' H'=>σ'=some (.int (lo + k)) :: capv σ js/\H'=upd H2 s2.heap.objs.size (.lst ((List.range k).map f))) I5' r5 ⟨rfl,rfl⟩) fun _ s6 h9=>?_
   obtain ⟨σ6,H6,I6,q6⟩:=h9;obtain ⟨rfl,rfl⟩:=q6;refine thn (he _ _ _ _ _ s6 _ _ _ I6 (hel s2.heap.objs.size _ k hfr hlt rfl)) fun u7 s7 h9=>?_;obtain ⟨v7,H7,I7,r7,q7⟩:=h9;obtain ⟨rfl,rfl⟩:=q7;have hz:((List.range k).map f).length < sizeLine:=by
    rw [length_map,length_range];exact Jk (by lia)
   refine thn (J1y (X:=X.block (x :: caps) scope cl G.objs.size fp s2 H2) _ s7 _ _ (.ref s2.heap.objs.size) [f k] (.ref s2.heap.objs.size) [u7]
    (fun _ H'=>H'=upd (upd H2 s2.heap.objs.size (.lst ((List.range k).map f))) s2.heap.objs.size (.lst ((List.range k).map f ++ [f k]))) I7 rfl (.cons r7 .nil) ⟨s2.heap.objs.size,_,f k,rfl,rfl,J1,hz,rfl⟩) fun _ s8 h9=>?_
   obtain ⟨_,H8,I8,_,q8⟩:=h9;subst q8;have eH:upd (upd H2 s2.heap.objs.size (.lst ((List.range k).map f))) s2.heap.objs.size (.lst ((List.range k).map f ++ [f k]))=upd H2 s2.heap.objs.size (.lst ((List.range (k + 1)).map f)):=by
    rw [upd_upd,range_succ,map_append,List.map_singleton]
   rw [eH] at I8;refine ⟨n - (k + 1),by lia,k + 1,_,rfl,hlt,I8.unpinned,T.keep _ _ _ st5 fun b hb o e=>(I8.pin (b,o) (mem_append_right _ (mem_append_right _ (J18 hb e)))).1⟩
  ·have ek:k=n:=by lia
   subst ek;refine thn (T.done (X.block (x :: caps) scope cl G.objs.size fp s2 H2) rfl rfl rfl hc k [] s3 _ _ (fun _ _=>False) I3 (stat (fpn _)) st3 (Nat.le_refl _)) fun r s4 h9=>?_;obtain ⟨hr,I4⟩:=h9;subst hr;exact fin s4 _ I4
 have st1:tn 0 h₁:=T.keep _ _ _ st2 fun b hb o e=>old b o e;exact codeAny_compStart_list (loop _) (T.self X.A 0 _ _ _ st1 (loop _))
end
theorem ps_compB {X:Cx} {elt iter:Expr} {x y:Str} {px py:Pos} {scope:Scope} {cl:List (Str × Addr)} {pos spos:Pos} {wi:TI} {te:TE} {i:Nat} (caps:List Str) (js:List Nat)
  (hN:X.N.Nodup) (hi:X.N[i]?=some y) (hy:Loc X.env.scope y) (hc:X.calm=true) (hp:PI X (.Name x px) iter wi) (hclos:closureFor scope X.env=pure cl)
  (he:∀ (C:Addr) (fp:List Addr) (s:Shared) (H:Hp),PE (X.block (x :: caps) scope cl C fp s H) elt te)
  (hcell:∀ p∈scope.names,p.2≠.cell) (hnames:∀ p∈scope.names,p.2=.local->scope.names.lookup p.1=some .local) (hnd:(x :: caps).Nodup)
  (hsub:∀ p∈cl,X.env.cells.lookup p.1=some p.2)
  (hhas:(scope.names.all fun p=>p.2 != .free || (cl.lookup p.1).isSome)=true:=by rfl) (hlen:caps.length=js.length:=by rfl)
  (hcaps:((caps.zip js).all fun q=>X.N[q.2]? == some q.1 && X.env.scope.names.lookup q.1 == some .cell && (cl.lookup q.1).isSome && (relabel scope X.env).names.lookup q.1 == some .cell)=true:=by rfl)
  (hf:X.fn y=true\/X.env.scope.names.lookup y=some .local:=by first | exact .inl rfl | exact .inr rfl | assumption)
  (hsw:swapsWith (.ListComp elt [⟨.Name x px,iter,[],0⟩] scope pos) (some (.Name y py)) spos.line X.env=pure true:=by rfl)
  (hkind:scope.kind=.function:=by rfl) (hx:scope.names.lookup x=some .local:=by rfl) (hs:∀ v,foldedSetIterable iter X.env v=pure v:=by intro _;rfl) :
  PS X (.Assign [.Name y py] (.ListComp elt [⟨.Name x px,iter,[],0⟩] scope pos) spos) (tComp wi te js i):=by
 refine ps_comp (caps:=caps) (js:=js) hN hi hy hc hp he hcell hnames hnd hsub (fun p hp' e=>?_) hlen (fun k c hk=>?_) hf hsw hclos hkind hx hs
 ·have:=all_eq_true.mp hhas p hp';rw [e] at this;exact isSome_iff_exists.mp (by simpa using this)
 ·have hkl:k < caps.length:=(List.getElem?_eq_some_iff.mp hk).1;have hj:js[k]?=some (js[k]'(hlen ▸ hkl)):=getElem?_eq_getElem (hlen ▸ hkl);have hm:(c,js[k]'(hlen ▸ hkl))∈caps.zip js:=by
   refine List.mem_iff_getElem?.mpr ⟨k,?_⟩;rw [List.getElem?_zip_eq_some];exact ⟨hk,hj⟩
  have:=all_eq_true.mp hcaps _ hm;simp only [Bool.and_eq_true,beq_iff_eq] at this;obtain ⟨⟨⟨q1,q2⟩,q3⟩,q4⟩:=this;obtain ⟨a,ha⟩:=isSome_iff_exists.mp q3;exact ⟨_,a,hj,q1,q2,ha,q4⟩
section
variable {X:Cx}
def rInsert:V->List V->Hp->VK->Prop:=fun x vs H Q=>∃ (l:Addr) (xs:List V) (k:Nat) (y:V),x=.ref l/\vs=[.int k,y]/\H l=some (.lst xs)/\k<=xs.length/\xs.length < sizeLine/\Q .non (upd H l (.lst (xs.take k ++ y :: xs.drop k)))
theorem mt_insert:MtM X "list.insert" rInsert:=by
 intro pins s σ H x vs v us Q I rx rv h;obtain ⟨l,xs,k,y,rfl,rfl,hH,hk,hz,q⟩:=h;cases rx;obtain ⟨u1,u2,rfl,⟨t,rfl⟩,r2⟩:=rv.two;obtain ⟨z,its,n,r,hl,e⟩:=I.lstM hH;have hn:=J4h;obtain ⟨x,hx⟩:∃ x:Int,x=(k:Int):=⟨_,rfl⟩;rw [<- hx];have hfit:¬ (!Builtin.List.listFitsIndex x)=true:=by
  rw [fitsIndex_both (by lia) (by lia)];exact Bool.false_ne_true
 have hsz:its.toArray.size<=sizeLine:=by rw [size_toArray,<- hl];exact z
 refine call_meets F.slot_list_insert ⟨_,e,rfl⟩ F.entry_list_insert (F.args_list_insert_3 _ _ _) (PySem.AutoSeq1.list_insert_list_int_val_1 l its.toArray n x t u2 hfit hsz) ⟨e,?_⟩;refine ⟨.non,_,I.lset (its':=its.take k ++ u2 :: its.drop k) hH e ?_ ((r.take k).append (.cons r2 (r.drop k))) ?_,rfl,q⟩
 ·have e1:(if x < 0 then (x + (its.toArray.size:Int)).toNat else min x.toNat its.toArray.size)=k:=by
   rw [if_neg (by lia),size_toArray];lia
  dsimp only;rw [e1];apply Array.ext';simp;rw [take_of_length_le (by rw [length_drop];exact Nat.le_refl _)]
 ·rw [length_append,length_cons,length_take,length_drop];lia
end
section
variable {X:Cx}
abbrev SqI (K:PySem.W.Frag) (H:Hp) (p:Addr) (xs:List V):Prop:=SqL K H p xs\/SqT K H p xs
theorem J3j {its:List Value} {ns:List Int} (hi:IntsAre its ns):∃ xs:Array (Int × Tok),its.toArray=intItems xs/\preSum (numAt xs) xs.size=ns.sum/\ns=xs.toList.map (·.1):=by
 obtain ⟨xs,hx⟩:=hi.allInts.items;have e1:ns=xs.toList.map (·.1):=by
  rw [<- nums_intItems,<- hx];exact (show numsOf its.toArray.toList=ns from hi.numsOf).symm
 refine ⟨xs,hx,?_,e1⟩;rw [preSum_eq,take_of_length_le (by simp),e1]
theorem J1v (hc:X.calm=true):CallR X (.builtin "sum") (fun xs H Q=>∃ (p:Addr) (ns:List Int),xs=[.ref p]/\SqI X.K H p (ns.map V.int)/\Q (.int ns.sum) H):=by
 intro pins s σ H xs us Q I r h;obtain ⟨p,ns,rfl,hq,q⟩:=h;obtain ⟨u,rfl,rx⟩:=vals1 r;cases rx;have hh:=I.ok.hd hc;rcases hq with hq | hq
 ·obtain ⟨its,r',pl,hz⟩:=I.list hq;obtain ⟨xs,hx,e2,_⟩:=J3j (J19 r');refine sum_intListG hh (hx ▸ pl.isList) fun h' tk t' hk=>?_;rw [e2];exact ⟨.int ns.sum,H,I.kept hk,⟨t',rfl⟩,q⟩
 ·obtain ⟨its,r',pl,hz⟩:=I.tuple hq;obtain ⟨xs,hx,e2,_⟩:=J3j (J19 r');refine PySem.W.ktm_sumG hh (hx ▸ (show s.heap.IsTuple p its.toArray from pl)) fun h' tk t' hk=>?_;rw [e2];exact ⟨.int ns.sum,H,I.kept hk,⟨t',rfl⟩,q⟩
theorem J4f {prog:Program} {w:World} {A:Around} {E:Value->Shared->Prop} {s:Shared} {l:Addr} {xs:Array (Int × Tok)} {Q:Value->Shared->Prop} (hh:A.handled=none) (ht:s.heap.IsTuple l (intItems xs)) (hne:0 < xs.size)
  (h:∀ v h' tk,(intItems xs)[argBest (fun i j=>decide (numAt xs i < numAt xs j)) (xs.size - 1)]?=some v->(∀ b o,s.heap.get? b=some o->h'.get? b=some o)->Q v { s with heap:=h',toks:=tk }) :
  wpAny (model prog w) A (call (.builtin "min") [.ref l]) Q E s:=by
 obtain ⟨o,ho,hc,n,hd⟩:=id ht;have hne':l≠s.heap.objs.size:=Nat.ne_of_lt (lt_size ho);refine call_min_walk (wpAny_pyIter_tuple ht ?_);refine ⟨s.heap.objs.size,_,_,_,_,_,_,rfl,Walks.tuple (A:=A.in1) hh _ l hne' (intItems xs),⟨⟨_,get?_push_size _ rfl,rfl,rfl⟩,ht.at fun o e=>get?_push_of_some _ e⟩,fun b hb=>?_,by simpa [intItems] using hne,CmpOf.ints_lt (numAt xs) (fun _ _=>intItems_at),fun v h' tk hP hk=>?_⟩
 ·rcases mem_cons.mp hb with rfl | hb
  ·exact lt_size (get?_push_size _ rfl)
  ·obtain rfl:=mem_singleton.mp hb;exact lt_size (get?_push_of_some _ ho)
 ·refine h v h' tk (by simpa [intItems] using hP) fun b o e=>hk b o (fun hb=>absurd (lt_size e) ((mem_singleton.mp hb) ▸ Nat.lt_irrefl _)) (get?_push_of_some _ e)
theorem best_min {ns:List Int} {xs:Array (Int × Tok)} (hns:ns=xs.toList.map (·.1)) (hsz:0 < xs.size) :
  numAt xs (argBest (fun i j=>decide (numAt xs i < numAt xs j)) (xs.size - 1))∈ns/\∀ a∈ns,numAt xs (argBest (fun i j=>decide (numAt xs i < numAt xs j)) (xs.size - 1))<=a:=by
 obtain ⟨h1,h2⟩:=argBest_lt (numAt xs) (xs.size - 1);refine ⟨?_,fun a ha=>?_⟩
 ·rw [hns,numAt_eq];exact getD_mem (by rw [length_map,length_toList];lia)
 ·rw [hns] at ha;obtain ⟨j,hj,rfl⟩:=mem_getD ha;rw [length_map,length_toList] at hj;rw [<- numAt_eq];exact h2 j (by lia)
theorem call_min (hc:X.calm=true):CallR X (.builtin "min") (fun xs H Q=>∃ (p:Addr) (ns:List Int),xs=[.ref p]/\SqI X.K H p (ns.map V.int)/\0 < ns.length/\∀ M,M∈ns->(∀ a∈ns,M<=a)->Q (.int M) H):=by
 intro pins s σ H xs us Q I r h;obtain ⟨p,ns,rfl,hq,hne,q⟩:=h;obtain ⟨u,rfl,rx⟩:=vals1 r;cases rx;have hh:=I.ok.hd hc;rcases hq with hq | hq
 ·obtain ⟨its,r',pl,hz⟩:=I.list hq;obtain ⟨xs,hx,_,e1⟩:=J3j (J19 r');have hsz:0 < xs.size:=by rw [e1,length_map,length_toList] at hne;exact hne
  refine min_intList hh (hx ▸ pl.isList) hsz fun v h' tk hv hk=>?_;obtain ⟨t,rfl⟩:=intItems_at hv;obtain ⟨b1,b2⟩:=best_min e1 hsz;exact ⟨.int _,H,I.kept hk,⟨t,rfl⟩,q _ b1 b2⟩
 ·obtain ⟨its,r',pl,hz⟩:=I.tuple hq;obtain ⟨xs,hx,_,e1⟩:=J3j (J19 r');have hsz:0 < xs.size:=by rw [e1,length_map,length_toList] at hne;exact hne
  refine J4f hh (hx ▸ (show s.heap.IsTuple p its.toArray from pl)) hsz fun v h' tk hv hk=>?_;obtain ⟨t,rfl⟩:=intItems_at hv;obtain ⟨b1,b2⟩:=best_min e1 hsz;exact ⟨.int _,H,I.kept hk,⟨t,rfl⟩,q _ b1 b2⟩
end
end L2
namespace L2
open PySem PySem.Spec PyProof.Rows
section
variable {prog:Program} {w:World} {A:Around} {E:Value->Shared->Prop} {s:Shared}
theorem J3w {l:Addr} {vs:List Value} {Q:List Value->Shared->Prop} (hl:s.heap.IsTuple l vs.toArray)
  (h:Q vs { s with heap:=(s.heap.push (seqObj "list" #[] 0)).update s.heap.objs.size (Obj.mapSeq (· ++ vs.toArray)) }) (hsz:vs.length<=sizeLine) :
  wpAny (model prog w) A (collect (.ref l)) Q E s:=by
 obtain ⟨o,ho,hc,n,hd⟩:=id hl;unfold collect;refine wpAny_bind (wpAny_runValue (codeAny_builtin entry_proto_collect' ?_));show wpAny _ _ (do again (.builtin "list.__iadd__" ⟨[<- newList [],.ref l],[]⟩)) _ _ s;refine wpAny_bind (wpAny_newList (wpAny_pure ⟨Code.quiet_builtin _ (by decide +kernel),codeAny_builtin entry_list_iadd' ?_⟩));show wpAny _ _ (Builtin.List.listExtendWith (.ref s.heap.objs.size) (.ref l) (.ref s.heap.objs.size)) _ _ { s with heap:=s.heap.push (seqObj "list" #[] 0) };unfold Builtin.List.listExtendWith;have ho':(s.heap.push (seqObj "list" #[] 0)).get? l=some o:=get?_push_of_some _ ho;refine wpAny_bind (wpAny_typeOf (T:="tuple") ⟨o,ho',hc⟩ ?_);have ht:(Value.type "tuple" == Value.type "tuple")=true:=by rfl
 rw [if_pos (by rw [ht];simp)];refine wpAny_bind (listItems_at ho' hd ?_);refine wpAny_bind (listItems_at (xs:=#[]) (n:=0) (get?_push_size _ rfl) rfl ?_);rw [if_neg (by simp)];refine wpAny_bind (listUpdate_at (xs:=#[]) (n:=0) (get?_push_size _ rfl) rfl ?_ (Nat.zero_le _) (by show (#[] ++ vs.toArray).size<=sizeLine + 1;simp only [Array.size_append,size_toArray,length_nil];lia));refine wpAny_pure ?_;show wpAny (model prog w) A (do
   let o <- load s.heap.objs.size
   match o.data with
   | .seq xs _=>pure xs.toList
   | _=>unsupported "internal:collect") Q E { s with heap:=(s.heap.push (seqObj "list" #[] 0)).update s.heap.objs.size (Obj.mapSeq (· ++ vs.toArray)) }
 refine wpAny_bind (wpAny_load (get?_update_seq (get?_push_size _ rfl) _) ?_);show wpAny _ _ (pure ((#[]:Array Value) ++ vs.toArray).toList) Q E _;rw [show ((#[]:Array Value) ++ vs.toArray).toList=vs by simp];exact wpAny_pure h
theorem J43 {l:Addr} {vs:List Value} {ns:List Int} {Q:Value->Shared->Prop} (hl:s.heap.IsTuple l vs.toArray) (hI:IntsAre vs ns) (h64:vs.length < 64)
  (h:∀ (out:Array Value) (ns':List Int),IntsAre out.toList ns'->ns'.Perm ns->ns'.Pairwise (·<=·)->Q (.ref (s.heap.objs.size + 1)) { s with heap:=sortedAll s.heap vs out }) :
  wpAny (model prog w) A (call (.builtin "sorted") [.ref l]) Q E s:=by
 refine Calls.call_function_entry kind_sorted plain_sorted entry_sorted (args_sorted1 _) ?_;unfold Builtin.«sorted»;refine wpAny_bind (m:=checkCount "sorted" 1 1 _) (wpAny_pure ?_);refine wpAny_bind (J3w hl ?_ (Nat.le_of_lt (Nat.lt_of_lt_of_le h64 (by rw [sizeLine_eq];decide))));refine wpAny_bind (wpAny_newList ?_);have hsz:((s.heap.push (seqObj "list" #[] 0)).update s.heap.objs.size (Obj.mapSeq (· ++ vs.toArray))).objs.size=s.heap.objs.size + 1:=by
  rw [Heap.size_update,size_push']
 have hoL:(((s.heap.push (seqObj "list" #[] 0)).update s.heap.objs.size (Obj.mapSeq (· ++ vs.toArray))).push (seqObj "list" vs.toArray 0)).get? (s.heap.objs.size + 1)=some (seqObj "list" vs.toArray 0):=by
  rw [<- hsz];exact get?_push_size _ rfl
 show wpAny _ _ _ _ _ { s with heap:=((s.heap.push (seqObj "list" #[] 0)).update s.heap.objs.size (Obj.mapSeq (· ++ vs.toArray))).push (seqObj "list" vs.toArray 0) };rw [hsz];refine wpAny_bind (wpAny_holding (wpAny_call_entry slot_list_sort ⟨_,hoL,rfl⟩ entry_list_sort (list_sort_tree hoL hI h64 fun out ns' a1 a2 a3=>⟨_,rfl,?_⟩) (args_list_sort _)));exact wpAny_pure ⟨_,rfl,h out ns' a1 a2 a3⟩
end
section
variable {X:Cx}
theorem call_sorted:CallR X (.builtin "sorted") (fun xs H Q=>∃ (p:Addr) (ns:List Int),xs=[.ref p]/\SqI X.K H p (ns.map V.int)/\ns.length < 64/\∀ l (ns':List Int),H l=none->ns'.Perm ns->ns'.Pairwise (·<=·)->Q (.ref l) (upd H l (.lst (ns'.map V.int)))):=by
 intro pins s σ H xs us Q I r h;obtain ⟨p,ns,rfl,hq,h64,q⟩:=h;obtain ⟨u,rfl,rx⟩:=vals1 r;cases rx;have fin:∀ (its:List Value) (out:Array Value) (ns':List Int),IntsAre out.toList ns'->ns'.Perm ns->ns'.Pairwise (·<=·)->EP X pins σ Q (.ref (s.heap.objs.size + 1)) { s with heap:=sortedAll s.heap its out }:=fun its out ns' a1 a2 a3=>by
  obtain ⟨e,he⟩:=sortedAll_at s.heap its out;have hz:(ns'.map V.int).length<=sizeLine:=by
   rw [length_map,a2.length_eq];exact Nat.le_of_lt (Jk (by lia))
  refine ⟨.ref _,_,I.laid (t':=s.toks) (a:=s.heap.objs.size + 1) (o:=.lst (ns'.map V.int)) (fun b o e=>sortedAll_old e) (Nat.le_succ _) ⟨hz,out.toList,e,J36 a1,he⟩,rfl,q _ ns' (I.hok.fresh (Nat.le_succ _)) a2 a3⟩
 rcases hq with hq | hq
 ·obtain ⟨its,r',pl,hz⟩:=I.list hq;have hl:=r'.length;rw [length_map] at hl;exact sorted_ints pl.isList (J19 r') (by lia) (fin its)
 ·obtain ⟨its,r',pl,hz⟩:=I.tuple hq;have hl:=r'.length;rw [length_map] at hl;exact J43 (show s.heap.IsTuple p its.toArray from pl) (J19 r') (by lia) (fin its)
theorem J4n:CallR X (.type "range") (fun xs H Q=>∃ j:Int,xs=[.int j]/\∀ r,H r=none->Q (.ref r) (upd H r (.rng 0 j))):=by
 intro pins s σ H xs us Q I r h;obtain ⟨j,rfl,q⟩:=h;obtain ⟨u,rfl,t,rfl⟩:=vals1 r;refine call_range_1 ?_;exact ⟨.ref s.heap.objs.size,_,I.laid (o:=.rng 0 j) (fun b o e=>get?_push_of_some _ e) (Nat.le_refl _) ⟨_,_,_,get?_push_size _ rfl⟩,rfl,q _ (I.hok.fresh (Nat.le_refl _))⟩
theorem J1i {f:Nat->Int}:∀ {n:Nat} {us:List Value},us.length=n->(∀ (i:Nat) (v:Value),us[i]?=some v->∃ t,v=Value.int (f i) t)->Vals ((List.range n).map fun i=>V.int (f i)) us:=by
 intro n us hl h
 induction n generalizing f us with
 | zero=>cases us with
  | nil=>exact .nil
  | cons a r=>simp at hl
 | succ n ih=>cases us with
  | nil=>simp at hl
  | cons a r =>
   obtain ⟨t,e⟩:=h 0 a rfl;subst e;rw [List.range_succ_eq_map,map_cons,map_map];exact .cons ⟨t,rfl⟩ (ih (f:=fun i=>f (i + 1)) (by simpa using hl) fun i v e=>h (i + 1) v (by simpa using e))
theorem J28 (hc:X.calm=true):CallR X (.type "list") (fun xs H Q=>∃ (r:Addr) (n:Nat),xs=[.ref r]/\H r=some (.rng 0 (n:Int))/\n<=1000/\∀ l,H l=none->Q (.ref l) (upd H l (.lst (((List.range n).map fun (i:Nat)=>(i:Int)).map V.int)))):=by
 intro pins s σ H xs us Q I r h;obtain ⟨p,n,rfl,hq,hn,q⟩:=h;simp only [map_map,Function.comp_def] at q;obtain ⟨u,rfl,rx⟩:=vals1 r;cases rx;obtain ⟨t,u,v,e⟩:=I.hok p _ hq;refine call_list_range (I.ok.hd hc) (show IsRange s.heap p 0 (n:Int) 1 t u v from e) (small_one (by lia) (by lia) (by lia) (by lia)) (by rw [rangeSize_one];split <;> lia) (n:=n) (by lia) fun h' tk acc' c' hk hS' hacc=>?_;have hv:Vals ((List.range n).map fun (i:Nat)=>V.int (i:Int)) acc'.toList:=J1i (by rw [length_toList];exact hacc.1) fun i v e=>by
  obtain ⟨t,rfl⟩:=hacc.2 i v (by simpa using e);exact ⟨t,by simp⟩
 refine ⟨.ref s.heap.objs.size,_,I.laid (o:=.lst ((List.range n).map fun (i:Nat)=>V.int (i:Int))) hk (Nat.le_refl _) ⟨?_,acc'.toList,c',hv,by simpa using hS'⟩,rfl,q _ (I.hok.fresh (Nat.le_refl _))⟩;rw [length_map,length_range];exact Nat.le_of_lt (Jk hn)
def Kin (xs ys:List V):Prop:=∀ a∈xs,∀ b∈ys,flatV a=true/\flatV b=true/\eqV a b=decide (a=b)
theorem Kin.ints (ns ms:List Int):Kin (ns.map V.int) (ms.map V.int):=fun a ha b hb=>by
 obtain ⟨i,_,rfl⟩:=mem_map.mp ha;obtain ⟨j,_,rfl⟩:=mem_map.mp hb;refine ⟨rfl,rfl,?_⟩;show (i == j)=decide (V.int i=V.int j);by_cases e:i=j
 ·subst e;simp
 ·rw [decide_eq_false (fun h=>e (V.int.inj h))];simpa using e
theorem Kin.bls (ns ms:List Bool):Kin (ns.map V.bl) (ms.map V.bl):=fun a ha b hb=>by
 obtain ⟨i,_,rfl⟩:=mem_map.mp ha;obtain ⟨j,_,rfl⟩:=mem_map.mp hb;refine ⟨rfl,rfl,?_⟩;show (i == j)=decide (V.bl i=V.bl j);cases i <;> cases j <;> rfl
def eAt (xs ys:List V) (j:Nat):Bool:=match xs[j]?,ys[j]? with
 | some a,some b=>eqV a b
 | _,_=>true
theorem all_eAt {xs ys:List V} (hl:xs.length=ys.length) (hk:Kin xs ys):((List.range xs.length).all (eAt xs ys))=decide (xs=ys):=by
 rw [Bool.eq_iff_iff,all_eq_true,decide_eq_true_iff];constructor
 ·intro h;apply ext_getElem?;intro j;by_cases hj:j < xs.length
  ·have h1:xs[j]?=some xs[j]:=getElem?_eq_getElem hj;have h2:ys[j]?=some (ys[j]'(hl ▸ hj)):=getElem?_eq_getElem (hl ▸ hj);have:=h j (mem_range.mpr hj);unfold eAt at this;rw [h1,h2] at this;have k:=(hk _ (getElem_mem hj) _ (getElem_mem (hl ▸ hj))).2.2;have this:eqV xs[j] (ys[j]'(hl ▸ hj))=true:=this;rw [k,decide_eq_true_iff] at this;rw [h1,h2,this]
  ·rw [getElem?_eq_none (by lia),getElem?_eq_none (by lia)]
 ·rintro rfl j hj;have hj':=mem_range.mp hj;unfold eAt;rw [getElem?_eq_getElem hj'];have k:=(hk _ (getElem_mem hj') _ (getElem_mem hj')).2.2;show eqV _ _=true;rw [k];simp
theorem eAt_at {A:Around} {s:Shared} {xs ys:List V} {its its2:List Value} (r:Vals xs its) (r2:Vals ys its2) (hk:Kin xs ys) (j:Nat) (h1:j < its.toArray.size) (h2:j < its2.toArray.size):SeqAt.EqAt A s its.toArray[j] its2.toArray[j] (eAt xs ys j):=by
 have l1:=r.length;have l2:=r2.length;rw [size_toArray] at h1 h2;have g1:xs[j]?=some (xs[j]'(by lia)):=getElem?_eq_getElem (by lia);have g2:ys[j]?=some (ys[j]'(by lia)):=getElem?_eq_getElem (by lia);obtain ⟨u,e1,ru⟩:=r.get g1;obtain ⟨v,e2,rv⟩:=r2.get g2;have e1':its.toArray[j]=u:=by
  have:=getElem?_eq_getElem h1;rw [e1] at this;simpa using (Option.some.inj this).symm
 have e2':its2.toArray[j]=v:=by
  have:=getElem?_eq_getElem h2;rw [e2] at this;simpa using (Option.some.inj this).symm
 obtain ⟨f1,f2,_⟩:=hk _ (getElem_mem (by lia:j < xs.length)) _ (getElem_mem (by lia:j < ys.length));unfold eAt;rw [g1,g2,e1',e2'];exact eqAt_V ru rv f1 f2
def rEqL (K:PySem.W.Frag):R2:=fun x y H Q=>∃ p q xs ys,x=.ref p/\y=.ref q/\SqL K H p xs/\SqL K H q ys/\Kin xs ys/\Q (.bl (decide (xs=ys))) H
def rNeL (K:PySem.W.Frag):R2:=fun x y H Q=>∃ p q xs ys,x=.ref p/\y=.ref q/\SqL K H p xs/\SqL K H q ys/\Kin xs ys/\Q (.bl (!decide (xs=ys))) H
theorem op_eqL (hu:X.A.units < cLine):OpR X (compareOp .Eq) (rEqL X.K):=by
 intro pins s σ H x y v u Q I rx ry h;obtain ⟨p,q,xs,ys,rfl,rfl,hp,hq,hk,hQ⟩:=h;cases rx;cases ry;obtain ⟨its,r,pl,_⟩:=I.list hp;obtain ⟨its2,r2,pl2,_⟩:=I.list hq;have l1:=r.length;have l2:=r2.length;by_cases hl:xs.length=ys.length
 ·refine SeqAt.eq_listAt pl.isList pl2.isList (by rw [size_toArray,size_toArray];lia) hu (fun j h1 h2=>eAt_at r r2 hk j h1 h2) ?_;rw [size_toArray,<- l1,all_eAt hl hk];exact ⟨.bl _,H,I,rfl,hQ⟩
 ·refine SeqAt.eq_list_lengthsAt pl.isList pl2.isList (by rw [size_toArray,size_toArray];simp;lia) hu ?_;rw [decide_eq_false (fun e=>hl (congrArg List.length e))] at hQ;exact ⟨.bl false,H,I,rfl,hQ⟩
theorem op_neL (hu:X.A.units < cLine):OpR X (compareOp .NotEq) (rNeL X.K):=by
 intro pins s σ H x y v u Q I rx ry h;obtain ⟨p,q,xs,ys,rfl,rfl,hp,hq,hk,hQ⟩:=h;cases rx;cases ry;obtain ⟨its,r,pl,_⟩:=I.list hp;obtain ⟨its2,r2,pl2,_⟩:=I.list hq;have l1:=r.length;have l2:=r2.length;by_cases hl:xs.length=ys.length
 ·refine SeqAt.RcNeAt.lists pl.isList pl2.isList (by rw [size_toArray,size_toArray];lia) hu (fun j h1 h2=>eAt_at r r2 hk j h1 h2) _ _ _ _ ?_;rw [size_toArray,<- l1,all_eAt hl hk];exact ⟨.bl _,H,I,rfl,hQ⟩
 ·refine SeqAt.RcNeAt.lists_lengths pl.isList pl2.isList (by rw [size_toArray,size_toArray];simp;lia) hu _ _ _ _ ?_;rw [decide_eq_false (fun e=>hl (congrArg List.length e))] at hQ;exact ⟨.bl true,H,I,rfl,hQ⟩
theorem J35 {f:Value} (hf:f=.builtin "isinstance"):CallR X f (fun xs H Q=>∃ (x c:V) (t cv:Value) (b:Bool),xs=[x,c]/\RelV c cv/\(∀ v,RelV c v->v=cv)/\TyOf X.K H x t/\kitOne X.K t cv=some b/\Q (.bl b) H):=by
 subst hf;intro pins s σ H xs us Q I r h;obtain ⟨x,c,t,cv,b,rfl,rc,uc,ty,e,q⟩:=h;obtain ⟨u,v,rfl,ru,rv⟩:=vals2 r;obtain rfl:=uc v rv;exact isinst_ok I ru ty e fun tk=>⟨.bl b,H,I.tok tk,rfl,q⟩
end
end L2
namespace L2
open PySem PySem.Spec PyProof.Rows
theorem J2j:fillsNumberSlot (.type "tuple") "mul"=pure false :=
 PySem.fillsNumberSlot_seq (id:="tuple.__mul__") (r:=some (.builtin "tuple.__rmul__")) F.slot_tuple_mul.lookup (by decide +kernel) F.slot_tuple_rmul.lookup (by decide +kernel)
theorem J49:seqRepeat? (.type "tuple")=pure (some (.builtin "tuple.__mul__")):=by
 unfold seqRepeat?;rw [PySem.seqSlot_of (T:="tuple") (name:="__mul__") (id:="tuple.__mul__") F.slot_tuple_mul.lookup (by decide +kernel),PySem.seqSlot_of (T:="tuple") (name:="__rmul__") (id:="tuple.__rmul__") F.slot_tuple_rmul.lookup (by decide +kernel)];rfl
theorem J3k (a:Int) (t:Tok) (l:Addr) (items:Array Value) (n:Nat) (dd:Option Addr) (sl:Array (Option Value)) :
  Meets (Builtin.«int.__rmul__» ⟨[.int a t,.ref l],[]⟩) (fun _ R s=>s.heap.get? l=some { cls:=.type "tuple",dict:=dd,data:=.seq items n,slots:=sl }/\R (.ok (.ret Value.notImplemented)) s) :=
 .of_wp fun prog w A R s h=>by obtain ⟨hp,g,d,tk,os⟩:=s;obtain ⟨hl,h⟩:=h;wp_walk;exact ⟨_,rfl,h⟩
theorem tuple_mulW1 (l:Addr) (items:Array Value) (n:Nat) (dd:Option Addr) (sl:Array (Option Value)) (t:Tok) :
  Meets (Builtin.«tuple.__mul__» ⟨[.ref l,.int 1 t],[]⟩) (fun _ R s=>s.heap.get? l=some { cls:=.type "tuple",dict:=dd,data:=.seq items n,slots:=sl }/\R (.ok (.ret (.ref l))) { s with heap:=s.heap,toks:=s.toks }) :=
 .of_wp fun prog w A R s h=>by
  obtain ⟨hp,g,d,tk,os⟩:=s;obtain ⟨hl,h⟩:=h;have f1:=AutoSeq1.idx_int;have f2:=AutoSeq1.sub_tuple_tuple
  wp_walk using AutoSeq1.wpAny_loadPart' hl;exact ⟨_,rfl,h⟩
theorem tuple_mulWn (l:Addr) (items:Array Value) (n:Nat) (dd:Option Addr) (sl:Array (Option Value)) (k:Int) (t:Tok) (h1:1 < k) (h2:k < 2 ^ 63) (hne:items.isEmpty=false) (hsz:items.size * k.toNat<=sizeLine) :
  Meets (Builtin.«tuple.__mul__» ⟨[.ref l,.int k t],[]⟩) (fun _ R s=>s.heap.get? l=some { cls:=.type "tuple",dict:=dd,data:=.seq items n,slots:=sl }/\
   R (.ok (.ret (.ref s.heap.objs.size))) { s with heap:=s.heap.push { cls:=.type "tuple",data:=.seq ((List.replicate k.toNat items).foldl (· ++ ·) #[]) },toks:=s.toks }) :=
 .of_wp fun prog w A R s h=>by
  obtain ⟨hp,g,d,tk,os⟩:=s;obtain ⟨hl,h⟩:=h;have f1:=AutoSeq1.idx_int;have f2:=AutoSeq1.sub_tuple_tuple;have c1:¬ (decide (k < -(2 ^ 63)) || decide (k>=2 ^ 63))=true:=by simp;lia
  have c2:¬ (items.isEmpty || k == 1)=true:=by rw [hne];simp;lia
  have c3:¬ (decide (k<=0) || items.isEmpty)=true:=by rw [hne];simp;lia
  have ek:(items.size:Int) * k=((items.size * k.toNat:Nat):Int):=by
   rw [Int.natCast_mul,Int.toNat_of_nonneg (by lia)]
  have hs0:(sizeLine:Nat)<=(2 ^ 63 - 1) / 8:=by decide
  have c4:¬ ((items.size:Int) * k > (2 ^ 63 - 1) / 8):=by rw [ek];lia
  have c5:¬ Builtin.Tuple.tupleTooMany ((items.size:Int) * k)=true:=by
   unfold Builtin.Tuple.tupleTooMany;rw [ek,decide_eq_true_iff];lia
  have hsz2:((List.replicate k.toNat items).foldl (· ++ ·) #[]).size<=sizeLine:=by
   rw [AutoSeq1.size_joined];simp;rw [Nat.mul_comm];exact hsz
  wp_walk using AutoSeq1.wpAny_loadPart' hl
  refine wpAny_ite_false (decide_eq_false c1) ?_
  wp_walk using AutoSeq1.wpAny_loadPart' hl
  refine wpAny_ite_false (decide_eq_false c2) ?_;refine wpAny_ite_false (decide_eq_false c3) ?_;refine wpAny_ite_false (decide_eq_false c4) ?_;refine wpAny_ite_false (decide_eq_false c5) ?_
  wp_walk using AutoSeq1.wpAny_loadPart' hl
  exact ⟨_,rfl,h⟩
section
variable {X:Cx}
def rRepT:R2:=fun x y H Q=>∃ (l:Addr) (k:Int) (xs:List V),x=.ref l/\y=.int k/\H l=some (.tup xs)/\xs≠[]/\1<=k/\k < 2 ^ 63/\xs.length * k.toNat<=sizeLine/\(k=1->Q (.ref l) H)/\(1 < k->∀ p,H p=none->Q (.ref p) (upd H p (.tup (List.replicate k.toNat xs).flatten)))
theorem op_repT:OpR X (binaryOp .Mult) rRepT:=by
 intro pins s σ H x y v u Q I rx ry h;obtain ⟨l,k,xs,rfl,rfl,hH,hne,h1,h2,hz,q1,q2⟩:=h;cases rx;obtain ⟨t,rfl⟩:=ry;obtain ⟨its,r,pl,hz'⟩:=I.tuple (SqT.of hH);obtain ⟨⟨cls,dd,data,sl⟩,ho,hc,n,hd⟩:=id pl;simp only at hc hd;subst hc hd;have hl:=r.length;refine wpAny_binaryOp_repeat_ref (T:="tuple") (U:="int") (by decide) ⟨_,ho,rfl⟩ (fun s'=>typeIs_int s' k t) J2j F.fills_int_mul F.slot_int_rmul J49 F.slot_int_index.lookup
  (call_meets F.slot_int_rmul (typeIs_int s k t) F.entry_int_rmul (F.args_int_rmul_2 _ _) (J3k k t l its.toArray n dd sl) ⟨ho,rfl,⟨_,ho,rfl⟩,?_⟩)
 by_cases e:k=1
 ·subst e;exact call_meets F.slot_tuple_mul ⟨_,ho,rfl⟩ F.entry_tuple_mul (F.args_tuple_mul_2 _ _) (tuple_mulW1 l its.toArray n dd sl t) ⟨ho,⟨.ref l,H,I,rfl,q1 rfl⟩⟩
 ·have hni:its.toArray.isEmpty=false:=by
   cases its with
   | nil=>exact absurd (List.length_eq_zero_iff.mp (by simpa using hl)) hne
   | cons a r'=>rfl
  refine call_meets F.slot_tuple_mul ⟨_,ho,rfl⟩ F.entry_tuple_mul (F.args_tuple_mul_2 _ _) (tuple_mulWn l its.toArray n dd sl k t (by lia) h2 hni (by rw [size_toArray,<- hl];exact hz)) ⟨ho,?_⟩;have hnew:foldl (fun x1 x2=>x1 ++ x2) #[] (List.replicate k.toNat its.toArray)=(List.replicate k.toNat its).flatten.toArray:=by
   have:=J3m its k.toNat [];rw [List.nil_append] at this;exact this
  rw [hnew];refine ⟨.ref _,_,I.laid (t':=s.toks) (o:=.tup (List.replicate k.toNat xs).flatten) (fun b ob q=>get?_push_of_some _ q) (Nat.le_refl _) ⟨?_,_,r.rep k.toNat,⟨_,get?_push_size _ rfl,⟨rfl,rfl⟩,_,rfl⟩⟩,rfl,q2 (by lia) _ (I.hok.fresh (Nat.le_refl _))⟩;rw [len_rep,Nat.mul_comm];exact hz
end
section
variable {X:Cx}
@[irreducible] def rTup (K:PySem.W.Frag):List V->Hp->VK->Prop:=fun xs H Q=>∃ p ys,xs=[.ref p]/\((SqL K H p ys/\∀ l,H l=none->Q (.ref l) (upd H l (.tup ys)))\/(SqT K H p ys/\Q (.ref p) H))
theorem J2q:CallR X (.type "tuple") (rTup X.K):=by
 unfold rTup;exact J3z
end
end L2
namespace L2
open PySem PySem.Spec PyProof.Rows
section
variable {prog:Program} {w:World} {A:Around} {E:Value->Shared->Prop} {z:Shared}
theorem J2v {nu tu:Addr} {j:Nat} {xs:Array Value} {y:Value} {Q:Value->Shared->Prop} (hn:z.heap.IsTupleIter nu tu j) (ht:z.heap.IsTuple tu xs) (hy:xs[j]?=some y)
  (hQ:∀ g,g.IsTupleIter nu tu (j + 1)->Heap.SameBut nu z.heap g->Q y { z with heap:=g }):wpAny (model prog w) A (Builtin.SmallTypes.nextOf (.ref nu)) Q E z:=by
 obtain ⟨on,hon,cn,dn⟩:=id hn;obtain ⟨ot,hot,_,nt,dt⟩:=ht;unfold Builtin.SmallTypes.nextOf;refine wpAny_bind (wpAny_callSpecial?_slot (name:=Str.ofString "__next__") hn.typeIs F.slot_tuple_iterator_next (wpAny_call_entry F.slot_tuple_iterator_next hn.typeIs F.entry_tuple_iterator_next ?_ (F.args_tuple_iterator_next_1 _)));show wpAny _ _ (field (.ref nu) 0 >>= _) _ _ z;refine wpAny_bind (wpAny_field hon dn (x:=.ref tu) rfl ?_);show wpAny _ _ (if (Value.ref tu == Value.none)=true then _ else _) _ _ z;rw [if_neg (show ¬ ((Value.ref tu == Value.none)=true) from Bool.false_ne_true)];show wpAny _ _ (field (.ref nu) 1 >>= _) _ _ z;refine wpAny_bind (wpAny_field hon dn (x:=.int j 0) rfl ?_);show wpAny _ _ (seqItems? (.ref tu) >>= _) _ _ z;refine wpAny_bind (wpAny_seqItems hot dt ?_);simp only [Int.toNat_natCast,hy];refine wpAny_bind (wpAny_setField hon dn (by simp) (wpAny_pure ⟨y,rfl,wpAny_pure (hQ _ ?_ (Heap.SameBut.update ..))⟩));exact ⟨_,Heap.get?_update_self _ hon (Obj.isFreed_of_fields (Obj.data_mapFields dn _)),(Obj.cls_mapFields ..).trans cn,by rw [Obj.data_mapFields dn];simp [rawInt]⟩
theorem J3f {nu tu:Addr} {j:Nat} {xs:Array Value} {Q:Value->Shared->Prop} (hh:A.handled=none) (hn:z.heap.IsTupleIter nu tu j) (ht:z.heap.IsTuple tu xs) (hy:xs[j]?=none)
  (hE:∀ g e,Heap.ExtBut nu z.heap g->(∃ o,g.get? e=some o/\o.cls=.type "StopIteration")->E (.ref e) { z with heap:=g }):wpAny (model prog w) A (Builtin.SmallTypes.nextOf (.ref nu)) Q E z:=by
 obtain ⟨on,hon,cn,dn⟩:=id hn;obtain ⟨ot,hot,_,nt,dt⟩:=ht;unfold Builtin.SmallTypes.nextOf;refine wpAny_bind (wpAny_callSpecial?_slot (name:=Str.ofString "__next__") hn.typeIs F.slot_tuple_iterator_next (wpAny_call_entry F.slot_tuple_iterator_next hn.typeIs F.entry_tuple_iterator_next ?_ (F.args_tuple_iterator_next_1 _)));show wpAny _ _ (field (.ref nu) 0 >>= _) _ _ z;refine wpAny_bind (wpAny_field hon dn (x:=.ref tu) rfl ?_);show wpAny _ _ (if (Value.ref tu == Value.none)=true then _ else _) _ _ z;rw [if_neg (show ¬ ((Value.ref tu == Value.none)=true) from Bool.false_ne_true)];show wpAny _ _ (field (.ref nu) 1 >>= _) _ _ z;refine wpAny_bind (wpAny_field hon dn (x:=.int j 0) rfl ?_);show wpAny _ _ (seqItems? (.ref tu) >>= _) _ _ z;refine wpAny_bind (wpAny_seqItems hot dt ?_);simp only [Int.toNat_natCast,hy];refine wpAny_bind (wpAny_rule (wpAny_bind (wpAny_setField hon dn (by simp) ?_)));show wpAny _ _ (newExc (.type "StopIteration") [] >>= _) _ _ _;refine wpAny_bind ?_;simp only [newExc,newTuple];refine wpAny_bind (wpAny_newObj_type ?_ (by size_fits));refine wpAny_bind (m:=firstArgMember _ _) (wpAny_of_eq (a:=Value.none) (by first | rfl | (simp only [firstArgMember];rfl)) ?_);refine wpAny_newObj_type ?_ (by size_fits);simp only [raiseNew];refine wpAny_bind (wpAny_handled ?_)
 first | rw [show A.in1.handled=none from hh] | rw [hh]
 refine wpAny_bind (wpAny_pure (wpAny_throw ?_));exact hE _ _ (((Heap.SameBut.update ..).extBut.push _).push _) ⟨_,get?_push_size _ rfl,rfl⟩
theorem enum_turn {en nu:Addr} {j:Nat} {y old:Value} {St:Heap->Prop} {Q:Value->Shared->Prop} (he:IsEnum z.heap en nu j old) (hne:en≠nu) (keepSt:∀ g g':Heap,St g->(∀ o,g.get? nu=some o->g'.get? nu=some o)->St g')
  (NX:∀ (A':Around) (E':Value->Shared->Prop) (Q':Value->Shared->Prop),(∀ g,St g->Heap.SameBut nu z.heap g->Q' y { z with heap:=g })->wpAny (model prog w) A' (Builtin.SmallTypes.nextOf (.ref nu)) Q' E' z)
  (hQ:∀ g,IsEnumOut g en nu ((j:Int) + 1) y z.heap.objs.size->St g->g.get? z.heap.objs.size=some { cls:=.type "tuple",data:=.seq #[.int j z.toks,y] }->g.objs.size=z.heap.objs.size + 1->
   (∀ b o,b≠en->b≠nu->z.heap.get? b=some o->g.get? b=some o)->Q (.ref z.heap.objs.size) { z with heap:=g,toks:=z.toks + 1 }) :
  wpAny (model prog w) A (Builtin.«enumerate.__next__» ⟨[.ref en],[]⟩) (fun fin s'=>∃ v,fin=.done (.ret v)/\Q v s') E z:=by
 obtain ⟨hp,gg,d,tk,os⟩:=z;show wpAny _ _ (field (.ref en) 2 >>= _) _ _ _;refine wpAny_bind (wpAny_field he rfl (x:=.ref nu) rfl (wpAny_bind (NX _ _ _ fun g₁ st₁ sb₁=>?_)));have sb₁:Heap.SameBut nu hp g₁:=sb₁;have e₁:IsEnum g₁ en nu j old:=(sb₁.2 en hne).trans he;show wpAny _ _ (field (.ref en) 3 >>= _) _ _ ⟨g₁,gg,d,tk,os⟩;refine wpAny_bind (wpAny_field e₁ rfl (x:=rawInt j) rfl ?_);show wpAny _ _ (field (.ref en) 4 >>= _) _ _ ⟨g₁,gg,d,tk,os⟩;refine wpAny_bind (wpAny_field e₁ rfl (x:=.none) rfl ?_);show wpAny _ _ (mkInt j >>= _) _ _ ⟨g₁,gg,d,tk,os⟩;refine wpAny_bind (wpAny_mkInt ?_);show wpAny _ _ (setField (.ref en) 3 (rawInt ((j:Int) + 1)) >>= _) _ _ ⟨g₁,gg,d,tk + 1,os⟩;refine wpAny_bind (wpAny_setField_rec e₁ (by simp) fun g₂ e₂ sb₂=>?_);have sb₂:Heap.SameBut en g₁ g₂:=sb₂;have e₂:IsEnum g₂ en nu ((j:Int) + 1) old:=e₂;show wpAny _ _ (setField (.ref en) 4 .none >>= _) _ _ ⟨g₂,gg,d,tk + 1,os⟩;refine wpAny_bind (wpAny_setField_rec e₂ (by simp) fun g₃ e₃ sb₃=>?_);have sb₃:Heap.SameBut en g₂ g₃:=sb₃;have e₃:IsEnum g₃ en nu ((j:Int) + 1) old:=e₃;show wpAny _ _ (newTuple [.int j tk,y] >>= _) _ _ ⟨g₃,gg,d,tk + 1,os⟩;refine wpAny_bind (wpAny_newTuple ?_);have st₃:St g₃:=keepSt _ _ st₁ fun o e=>sb₃.extBut _ _ (Ne.symm hne) (sb₂.extBut _ _ (Ne.symm hne) e);have e₄:IsEnum (g₃.push { cls:=.type "tuple",data:=.seq #[.int j tk,y] }) en nu ((j:Int) + 1) old:=get?_push_of_some _ e₃;have st₄:St (g₃.push { cls:=.type "tuple",data:=.seq #[.int j tk,y] }):=keepSt _ _ st₃ fun o e=>get?_push_of_some _ e;have hz:g₃.objs.size=hp.objs.size:=by rw [sb₃.1,sb₂.1,sb₁.1]
 have hel:en < hp.objs.size:=lt_size he;have t₄:(g₃.push { cls:=.type "tuple",data:=.seq #[.int j tk,y] }).get? hp.objs.size=some { cls:=.type "tuple",data:=.seq #[.int j tk,y] }:=by rw [<- hz];exact get?_push_size _ rfl
 have z₄:(g₃.push { cls:=.type "tuple",data:=.seq #[.int j tk,y] }).objs.size=hp.objs.size + 1:=by rw [Heap.size_push,hz]
 have k₄:∀ b o,b≠en->b≠nu->hp.get? b=some o->(g₃.push { cls:=.type "tuple",data:=.seq #[.int j tk,y] }).get? b=some o:=fun b o h1 h2 e =>
  get?_push_of_some _ (sb₃.extBut b o h1 (sb₂.extBut b o h1 (sb₁.extBut b o h2 e)))
 generalize g₃.push { cls:=.type "tuple",data:=.seq #[.int j tk,y] }=g₄ at e₄ st₄ t₄ z₄ k₄;show wpAny _ _ (Builtin.SmallTypes.ownedTupleIsFree (.ref en) >>= _) _ _ ⟨g₄,gg,d,tk + 1,os⟩;rw [hz];refine wpAny_bind ?_
 ·unfold Builtin.SmallTypes.ownedTupleIsFree;refine wpAny_bind (wpAny_field e₄ rfl (x:=.none) rfl (wpAny_pure ?_));simp only [if_true];refine wpAny_bind (wpAny_rule (wpAny_bind (wpAny_field e₄ rfl (x:=old) rfl (wpAny_bind (wpAny_setField_rec e₄ (by simp) fun g₅ e₅ sb₅=>?_)))));have sb₅:Heap.SameBut en g₄ g₅:=sb₅;have e₅:IsEnum g₅ en nu ((j:Int) + 1) y:=e₅;show wpAny _ _ (Builtin.SmallTypes.ownedTupleHandOut (.ref en) (.ref hp.objs.size) >>= _) _ _ ⟨g₅,gg,d,tk + 1,os⟩;refine wpAny_bind ?_
  ·unfold Builtin.SmallTypes.ownedTupleHandOut;refine wpAny_bind (wpAny_setField_rec e₅ (by simp) fun g₆ e₆ sb₆=>?_);have sb₆:Heap.SameBut en g₅ g₆:=sb₆;have e₆:IsEnumOut g₆ en nu ((j:Int) + 1) y hp.objs.size:=e₆;refine wpAny_setField_rec e₆ (by simp) fun g₇ e₇ sb₇=>?_;have sb₇:Heap.SameBut en g₆ g₇:=sb₇;have e₇:IsEnumOut g₇ en nu ((j:Int) + 1) y hp.objs.size:=e₇;have up:∀ b o,b≠en->g₄.get? b=some o->g₇.get? b=some o:=fun b o h1 e=>sb₇.extBut b o h1 (sb₆.extBut b o h1 (sb₅.extBut b o h1 e));exact wpAny_bind (wpAny_letGo (wpAny_pure ⟨_,rfl,hQ g₇ e₇ (keepSt _ _ st₄ fun o e=>up _ _ (Ne.symm hne) e) (up _ _ (Nat.ne_of_gt hel) t₄) (by rw [sb₇.1,sb₆.1,sb₅.1,z₄]) fun b o h1 h2 e=>up b o h1 (k₄ b o h1 h2 e)⟩))
theorem enumT_item {en nu tu:Addr} {j:Nat} {xs:Array Value} {y old:Value} {Q:Option Value->Shared->Prop} (he:IsEnum z.heap en nu j old) (hn:z.heap.IsTupleIter nu tu j) (ht:z.heap.IsTuple tu xs) (hy:xs[j]?=some y) (hne:en≠nu)
  (hQ:∀ g,IsEnumOut g en nu ((j:Int) + 1) y z.heap.objs.size->g.IsTupleIter nu tu (j + 1)->g.get? z.heap.objs.size=some { cls:=.type "tuple",data:=.seq #[.int j z.toks,y] }->g.objs.size=z.heap.objs.size + 1->
   (∀ b o,b≠en->b≠nu->z.heap.get? b=some o->g.get? b=some o)->Q (some (.ref z.heap.objs.size)) { z with heap:=g,toks:=z.toks + 1 }) :
  wpAny (model prog w) A (pyNext (.ref en)) Q E z:=by
 have hT:z.TypeIs (.ref en) "enumerate":=⟨_,he,rfl⟩;unfold pyNext;exact wpAny_bind (wpAny_attempt (wpAny_callSpecial?_slot (name:=Str.ofString "__next__") hT F.slot_enumerate_next (wpAny_call_entry F.slot_enumerate_next hT F.entry_enumerate_next
   (enum_turn (St:=fun g=>g.IsTupleIter nu tu (j + 1)) he hne (fun g g' st k=>let ⟨o,ho,r⟩:=st;⟨o,k o ho,r⟩) (fun A' E' Q' h=>J2v hn ht hy h) fun g a b c d k=>wpAny_pure (hQ g a b c d k)) (F.args_enumerate_next_1 _))))
theorem enumT_end {en nu tu:Addr} {j:Nat} {xs:Array Value} {old:Value} {Q:Option Value->Shared->Prop} (hh:A.handled=none) (he:IsEnum z.heap en nu j old) (hn:z.heap.IsTupleIter nu tu j) (ht:z.heap.IsTuple tu xs) (hy:xs[j]?=none)
  (hQ:∀ g,Heap.ExtBut nu z.heap g->Q none { z with heap:=g }):wpAny (model prog w) A (pyNext (.ref en)) Q E z:=by
 have hT:z.TypeIs (.ref en) "enumerate":=⟨_,he,rfl⟩;unfold pyNext;refine wpAny_bind (wpAny_attempt (wpAny_callSpecial?_slot (name:=Str.ofString "__next__") hT F.slot_enumerate_next (wpAny_call_entry F.slot_enumerate_next hT F.entry_enumerate_next ?_ (F.args_enumerate_next_1 _))));show wpAny _ _ (field (.ref en) 2 >>= _) _ _ _;refine wpAny_bind (wpAny_field he rfl (x:=.ref nu) rfl (wpAny_bind (J3f hh hn ht hy fun g x he' hx'=>?_)));obtain ⟨o,ho,hc⟩:=hx';exact wpAny_bind (wpAny_isInstance (T:="StopIteration") (b:=true) ⟨o,ho,hc⟩ isSubtype_stop (wpAny_pure (hQ _ he')))
theorem enum_newT (l:Addr) (xs:Array Value) (n:Nat) (dct:Option Addr) (sl:Array (Option Value)) :
  Meets (Builtin.«enumerate.__new__» ⟨[.type "enumerate",.ref l],[]⟩) (fun _ R s=>s.heap.get? l=some { cls:=.type "tuple",dict:=dct,data:=.seq xs n,slots:=sl }/\
   R (.ok (.ret (.ref (s.heap.push { cls:=.type "tuple_iterator",data:=.fields #[.ref l,.int 0 0] }).objs.size)))
    { s with heap:=(s.heap.push { cls:=.type "tuple_iterator",data:=.fields #[.ref l,.int 0 0] }).push { cls:=.type "enumerate",data:=.fields #[.none,.bool false,.ref s.heap.objs.size,rawInt 0,.none,.none] } }) :=
 .of_wp fun prog w A R s h=>by
  obtain ⟨hp,g,d,tk,os⟩:=s;obtain ⟨hl,h⟩:=h;have hsub:=sub_enumerate;have hTT:Heap.IsTuple (Shared.heap ⟨hp,g,d,tk,os⟩) l xs:=⟨_,hl,rfl,n,rfl⟩
  wp_walk using AutoSeq1.wpAny_loadPart' hl
  refine wpAny_stack_any fun st=>wpAny_pure ?_;split
  ·rename_i c _ _ _ _ _;cases (c == Value.type "enumerate") <;> (wp_walk using AutoSeq1.wpAny_loadPart' hl,wpAny_pyIter_tuple hTT;exact ⟨_,rfl,h⟩)
  ·(wp_walk using AutoSeq1.wpAny_loadPart' hl,wpAny_pyIter_tuple hTT;exact ⟨_,rfl,h⟩)
theorem call_enumT {l:Addr} {xs:Array Value} {Q:Value->Shared->Prop} (hL:z.heap.IsTuple l xs)
  (h:∀ g,IsEnum g (z.heap.objs.size + 1) z.heap.objs.size 0 .none->g.IsTupleIter z.heap.objs.size l 0->g.objs.size=z.heap.objs.size + 2->(∀ b o,z.heap.get? b=some o->g.get? b=some o)->Q (.ref (z.heap.objs.size + 1)) { z with heap:=g }) :
  wpAny (model prog w) A (call (.type "enumerate") [.ref l]) Q E z:=by
 obtain ⟨⟨c,dct,dt,sl⟩,hl,hc,n,hd⟩:=hL;have hc:c=.type "tuple":=hc;have hd:dt=.seq xs n:=hd;subst hc hd;refine callType_new F.called_enumerate (by decide) (F.typeCall_enumerate_1 _) (F.newCall_enumerate_1 _) (fun obj=>F.args_object_init_2 obj _) F.entry_enumerate_new (enum_newT l xs n dct sl) ⟨hl,?_⟩;have hz:(z.heap.push { cls:=.type "tuple_iterator",data:=.fields #[.ref l,.int 0 0] }).objs.size=z.heap.objs.size + 1:=Heap.size_push ..;show _/\_;rw [hz];have he:IsEnum ((z.heap.push { cls:=.type "tuple_iterator",data:=.fields #[.ref l,.int 0 0] }).push { cls:=.type "enumerate",data:=.fields #[.none,.bool false,.ref z.heap.objs.size,rawInt 0,.none,.none] }) (z.heap.objs.size + 1) z.heap.objs.size 0 .none:=by
  have q:=get?_push_size (z.heap.push { cls:=.type "tuple_iterator",data:=.fields #[.ref l,.int 0 0] }) (o:={ cls:=.type "enumerate",data:=.fields #[.none,.bool false,.ref z.heap.objs.size,rawInt 0,.none,.none] }) rfl;rw [hz] at q;exact q
 exact ⟨⟨_,he,rfl⟩,h _ he ⟨_,get?_push_of_some _ (get?_push_size _ rfl),rfl,rfl⟩ (by rw [Heap.size_push,hz]) fun b o q=>get?_push_of_some _ (get?_push_of_some _ q)⟩
end
section
variable {X:Cx} {pins:List (Addr × Obj)} {σ:St} {H:Hp} {s:Shared} {h':Heap}
theorem Inv.turned2 {t':Nat} {en nu p:Addr} {o:HO} (I:Inv X pins σ H s) (k:∀ b u,b≠en->b≠nu->s.heap.get? b=some u->h'.get? b=some u) (f1:FpOk X pins H en) (f2:FpOk X pins H nu) (hp:s.heap.objs.size<=p)
  (he:∃ u,h'.get? en=some u) (hu:∃ u,h'.get? nu=some u) (new:ObjOk X.prog X.w (upd H p o) h' p o):Inv X pins σ (upd H p o) { s with heap:=h',toks:=t' }:=by
 have hn:H p=none:=I.hok.fresh hp;have lt:∀ b u,s.heap.get? b=some u->b≠p:=fun b u e=>Nat.ne_of_lt (Nat.lt_of_lt_of_le (lt_size e) hp);have ne1:∀ b u,H b=some u->b≠en:=fun b u e z=>by rw [z,f1.1] at e;cases e
 have ne2:∀ b u,H b=some u->b≠nu:=fun b u e z=>by rw [z,f2.1] at e;cases e
 have nc:∀ b,b ∉ [en,nu]->b≠en/\b≠nu:=fun b hb=>⟨fun z=>hb (by simp [z]),fun z=>hb (by simp [z])⟩;refine I.step (g':=s.gens) (d':=s.drawn) (ch:=[en,nu]) (fun b hb=>?_) (fun b u _ _ hc e _=>k b u (nc b hc).1 (nc b hc).2 e) (fun b u _ _ hc e _=>⟨u.slots,k b u (nc b hc).1 (nc b hc).2 e⟩) (fun b u hc e n=>by rw [Ja (lt b u e)];exact n)
  (fun b u hc e=>⟨u,k b u (nc b hc).1 (nc b hc).2 e⟩) (fun b xs e=>by rw [Ja (J6 e hn)];exact e) (fun b u v e=>by rw [Ja (J6 e hn)];exact e) (fun b ps e=>⟨#[],by rw [Ja (J6 e hn),e];simp⟩) (fun m hm=>?_) (fun b u e=>?_) I.bare
 ·have hb:b=en\/b=nu:=by simpa using hb
  rcases hb with rfl | rfl
  ·exact ⟨f1.2.2.2.1,f1.2.1,f1.2.2.2.2.1,f1.2.2.2.2.2⟩
  ·exact ⟨f2.2.2.2.1,f2.2.1,f2.2.2.2.2.1,f2.2.2.2.2.2⟩
 ·obtain ⟨ob,es,ep,ho,r⟩:=hm;exact ⟨ob,es,ep,k _ ob (Ne.symm f1.2.1) (Ne.symm f2.2.1) ho,r⟩
 ·by_cases hb:b=p
  ·subst hb;rw [J1] at e;cases e;exact new
  ·rw [Ja hb] at e;refine (I.hok b u e).stay (fun c v hc q=>k c v ?_ ?_ q) (fun c q=>by rw [Ja (J6 q hn)];exact q) fun c xs q=>by rw [Ja (J6 q hn)];exact q
   ·rcases hc with q | q
    ·rw [q];exact ne1 b u e
    ·exact ne1 c _ q
   ·rcases hc with q | q
    ·rw [q];exact ne2 b u e
    ·exact ne2 c _ q
end
def Ite (K:PySem.W.Frag) (a:Addr):It :=
 ⟨fun i H=>∃ xs x,SqT K H a xs/\xs[i]?=some x,fun i H v H'=>∃ p x,v=.ref p/\H p=none/\H'=upd H p (.tup [.int (i:Int),x])/\∀ xs,SqT K H a xs->xs[i]?=some x,fun i H=>∃ xs,SqT K H a xs/\xs.length<=i⟩
theorem turn_enum {P:Program} {w:World} {K:PySem.W.Frag} {elts:List Expr} {kk:Nat} {tp:Pos} (a en nu:Addr) (hne:en≠nu):Turn P w K (.Tuple elts kk tp) (Ite K a) [en,nu] en (fun i h=>(∃ old,IsEnum h en nu (i:Int) old)/\h.IsTupleIter nu a i) where
 mem:=by simp
 obj:=fun i h st b hb=>by
  obtain ⟨⟨old,e1⟩,o,e2,_,d2⟩:=st;have hb:b=en\/b=nu:=by simpa using hb
  rcases hb with rfl | rfl
  ·exact ⟨_,e1,fun v z=>by
    have z':Data.fields _=Data.cell v:=z;cases z'⟩
  ·exact ⟨_,e2,fun v z=>by rw [d2] at z;cases z⟩
 keep:=fun i h h' st k=>by
  obtain ⟨⟨old,e1⟩,o,e2,r⟩:=st;exact ⟨⟨old,k en (by simp) _ e1⟩,o,k nu (by simp) _ e2,r⟩
 item:=by
  intro X hP hw hK hc i pins s σ H E I hf st hg;subst hP hw hK;obtain ⟨⟨old,e1⟩,e2⟩:=st;obtain ⟨xs,x,hq,hx⟩:=hg;obtain ⟨its,r,pl,hz⟩:=I.tuple hq;obtain ⟨u,hu,ru⟩:=r.get hx;have f1:=hf en (by simp);have f2:=hf nu (by simp);refine enumT_item e1 e2 (show s.heap.IsTuple a its.toArray from pl) (y:=u) (by simpa using hu) hne fun g o1 n1 t1 z1 k1=>?_;refine ⟨_,rfl,?_⟩;have he:en < s.heap.objs.size:=lt_size e1;refine wpAny_letOwnedTupleGo_enum o1 fun g2 e3 sb=>?_;have sb:Heap.SameBut en g g2:=sb;have n2:g2.IsTupleIter nu a (i + 1):=n1.extBut sb.extBut (Ne.symm hne);have kk2:∀ b o,b≠en->b≠nu->s.heap.get? b=some o->g2.get? b=some o:=fun b o h1 h2 e=>(sb.2 b h1).trans (k1 b o h1 h2 e);have t2:g2.get? s.heap.objs.size=some { cls:=.type "tuple",data:=.seq #[.int i s.toks,u] }:=(sb.2 _ (Nat.ne_of_gt he)).trans t1;obtain ⟨on,hon,_⟩:=id n2;have J:=I.turned2 (t':=s.toks + 1) (o:=.tup [.int (i:Int),x]) (p:=s.heap.objs.size) kk2 f1 f2 (Nat.le_refl _) ⟨_,e3⟩ ⟨_,hon⟩
   ⟨(by show 2<=sizeLine;decide),[.int i s.toks,u],.cons ⟨_,rfl⟩ (.cons ru .nil),⟨_,t2,⟨rfl,rfl⟩,_,rfl⟩⟩
  have hfr:H s.heap.objs.size=none:=I.hok.fresh (Nat.le_refl _);have cast:((i + 1:Nat):Int)=(i:Int) + 1:=by omega
  refine ⟨.ref s.heap.objs.size,_,J,rfl,⟨_,x,rfl,hfr,rfl,fun ys hy=>?_⟩,⟨⟨u,by rw [cast];exact e3⟩,n2⟩,fun b hb=>?_⟩
  ·rw [<- I.tuple_inj hq hy];exact hx
  ·have hbl:b < s.heap.objs.size:=by
    have hb:b=en\/b=nu:=by simpa using hb
    rcases hb with rfl | rfl
    ·exact he
    ·obtain ⟨o,ho,_⟩:=e2;exact lt_size ho
   rw [Ja (Nat.ne_of_lt hbl)];exact (hf b hb).1
 done:=by
  intro X hP hw hK hc i pins s σ H E I hf st hg;subst hP hw hK;obtain ⟨⟨old,e1⟩,e2⟩:=st;obtain ⟨xs,hq,hl⟩:=hg;obtain ⟨its,r,pl,hz⟩:=I.tuple hq;obtain ⟨f0,f1,f2,f3,f4,f5⟩:=hf nu (by simp);refine enumT_end (I.ok.hd hc) e1 e2 (show s.heap.IsTuple a its.toArray from pl) (by have:=r.length;simp;omega) fun g eb=>⟨rfl,I.turned (t':=s.toks) (fun b o hb e=>eb b o hb e) f0 f1 f3 f4 f5⟩
 self:=fun A i s Q E st h=>by
  obtain ⟨⟨old,e1⟩,_⟩:=st;exact wpAny_pyIter_enum e1 h
section
variable {X:Cx}
def iEnum (K:PySem.W.Frag) (ta:TA):TI:=fun σ H R=>ta σ H fun vs H1=>∃ a,vs=[.ref a]/\(∃ xs,SqT K H1 a xs)/\R (Ite K a) H1
theorem pi_enum {elts:List Expr} {kk:Nat} {tp:Pos} {a:Expr} {ta:TA} {p pos:Pos} (hg:Gl X "enumerate") (hm:X.mg "enumerate"=none) (ha:PA X [a] ta) (hs:starEach [a] X.env=[(false,eval a X.env)]:=by rfl):PI X (.Tuple elts kk tp) (.Call (.Name "enumerate" p) [a] [] pos) (iEnum X.K ta):=by
 intro pins s σ H R I h;refine Call_ (J4k I hg hm boot_enumerate (callWith_type1 (thn (ha pos pins s σ H _ I h) fun us s1 h9=>?_) hs rfl));obtain ⟨vs,H1,I1,r1,q1⟩:=h9;obtain ⟨a,e,⟨xs,hq⟩,q⟩:=q1;subst e;obtain ⟨u,rfl,ru⟩:=vals1 r1;cases ru;obtain ⟨its,r,pl,hz⟩:=I1.tuple hq;refine call_enumT (show s1.heap.IsTuple a its.toArray from pl) fun g e1 e2 z1 k1=>?_;have I2:Inv X pins σ H1 { s1 with heap:=g }:=I1.kept (t':=s1.toks) k1;refine wpAny_pyIter_enum e1 ?_;refine ⟨_,_,_,_,H1,rfl,I2,turn_enum a _ _ (Nat.succ_ne_self _),⟨⟨.none,e1⟩,e2⟩,fun b hb=>?_,q⟩;have hb:b=s1.heap.objs.size + 1\/b=s1.heap.objs.size:=by simpa using hb
 have hbs:s1.heap.objs.size<=b:=by
  rcases hb with e | e
  ·rw [e];exact Nat.le_succ _
  ·rw [e];exact Nat.le_refl _
 exact I1.fpOk hbs (I1.hok.fresh hbs)
end
end L2
namespace L2
open PySem PySem.Spec PyProof.Rows
end L2
namespace L2
open PySem PySem.Spec PyProof.Rows
def bmV:List Value:=[.type "ValueError",.type "Exception",.type "BaseException",.type "object"]
theorem ObjOk.has {P:Program} {w:World} {H:Hp} {h:Heap} {a:Addr} {o:HO} (x:ObjOk P w H h a o):∃ u,h.get? a=some u:=by
 cases o with
 | lst xs=>obtain ⟨_,_,_,_,e⟩:=x;exact ⟨_,e⟩
 | tup xs=>obtain ⟨_,_,_,ob,e,_⟩:=x;exact ⟨_,e⟩
 | dK kvs=>obtain ⟨_,_,_,_,o,_,_,e,_⟩:=x;exact ⟨_,e⟩
 | dT kvs=>obtain ⟨_,_,_,_,o,_,_,e,_⟩:=x;exact ⟨_,e⟩
 | set S n=>obtain ⟨o,_,_,_,e,_⟩:=x;exact ⟨_,e⟩
 | ins C dx fs=>obtain ⟨_,_,_,e,_⟩:=x;exact ⟨_,e⟩
 | own y=>exact x
 | xd fs=>obtain ⟨_,⟨_,_,_,e,_⟩,_⟩:=x;exact ⟨_,e⟩
 | rng lo hi=>obtain ⟨_,_,_,e⟩:=x;exact ⟨_,e⟩
 | frz ob u=>obtain ⟨e,_⟩:=x;exact ⟨_,e⟩
 | tbl ps=>exact ⟨_,(show h.get? a=some _ from x)⟩
 | met f y=>exact ⟨_,(show h.get? a=some _ from x)⟩
 | ext φ=>obtain ⟨_,e,_⟩:=x;exact e
theorem HOk.over {P:Program} {w:World} {H:Hp} {h h' B:Heap} (ok:HOk P w H h) (t:∀ b o,H b=some o->∃ u,B.get? b=some u) (k:B.StaysIn h) (k':B.StaysIn h'):HOk P w H h':=fun b u e=>by
 refine (ok b u e).stay (fun c v hc q=>?_) (fun _ q=>q) fun _ _ q=>q;have hc':∃ x,B.get? c=some x:=by
  rcases hc with z | z
  ·rw [z];exact t b u e
  ·exact t c _ z
 obtain ⟨x,hx⟩:=hc';have:=k c x hx;rw [q] at this;cases this;exact k' c _ hx
def Exc1 (P:Program) (w:World):CXT:=fun outer H s E e s'=>∃ (ea:Addr) (cls:Value) (H':Hp) (B:Heap) (a0:Value),e=.ref ea/\s'.os=s.os/\AllBare s'.gens/\Heap.FlyingW B outer ea cls a0 s'.heap/\
 Un (frs outer) [] H H' s.heap s'.heap/\HOk P w H' s'.heap/\H' ea=none/\s.heap.get? ea=none/\(∀ b o,H' b=some o->∃ u,B.get? b=some u)/\(∀ b u,s.heap.get? b=some u->b ∉ frs outer->∃ v,B.get? b=some v)/\E cls none H'
section
variable {P:Program} {w:World} {K:PySem.W.Frag} {mg:Str->Option Value} {base:Heap} {N:List Str} {qual:Str} {scope:Scope} {f:Addr} {cd:Value} {A:Around} {outer:List Env} {s0:Shared} {H0:Hp} {E:XK} {pins:List (Addr × Obj)} {σ:St} {H:Hp} {s:Shared}
theorem noFlds {h B:Heap} {l:List Env} (x:h.FunFrames B l) {b:Addr} (hb:b∈frs l):∃ o,h.get? b=some o/\∀ vs,o.data≠.fields vs:=(x.mem hb).2
theorem frs_cons {b:Addr} {env:Env} {L:Addr} (hf:env.frame=some L) {l:List Env}:b∈frs (env :: l)↔b=L\/b∈frs l:=by
 unfold frs;rw [List.filterMap_cons,hf];simp
theorem xe_made {ea:Addr} {cls:Value} {args:List Value} {h':Heap} (I:Inv (cxOf (Exc1 P w) P w K mg base N qual scope f cd A outer s0 H0 E) pins σ H s) (hx:Heap.MadeExcOf s.heap h' ea cls args) (q:E cls none H) :
  (cxOf (Exc1 P w) P w K mg base N qual scope f cd A outer s0 H0 E).xe (.ref ea) { s with heap:=h' }:=by
 have fr:s.heap.FunFrames base (envOfC qual scope s0.heap.objs.size f cd :: outer):=I.stack;have hin:∀ env∈(envOfC qual scope s0.heap.objs.size f cd :: outer),∀ b,env.frame=some b->b∈frs (envOfC qual scope s0.heap.objs.size f cd :: outer):=fun env he b hb=>List.mem_filterMap.mpr ⟨env,he,hb⟩;have fl:∀ {b:Addr},b∈frs (envOfC qual scope s0.heap.objs.size f cd :: outer)↔b=s0.heap.objs.size\/b∈frs outer:=frs_cons rfl;have inB:∀ b u,s.heap.get? b=some u->b ∉ frs (envOfC qual scope s0.heap.objs.size f cd :: outer)->(hideAll s.heap (frs (envOfC qual scope s0.heap.objs.size f cd :: outer))).get? b=some u:=fun b u e n=>PySem.W.hideAll_get _ e n;have nL:∀ b u,s0.heap.get? b=some u->b≠s0.heap.objs.size:=fun b u e=>Nat.ne_of_lt (lt_size e);have nf:∀ b u,s0.heap.get? b=some u->b ∉ frs outer->b ∉ frs (envOfC qual scope s0.heap.objs.size f cd :: outer):=fun b u e n z=>(fl.mp z).elim (nL b u e) n;refine wpAny_leaves_madeW (base:=hideAll s.heap (frs (envOfC qual scope s0.heap.objs.size f cd :: outer))) (h:=s.heap) (L:=s0.heap.objs.size) I.ok.frames rfl (fun b o z=>of_hideAll _ z) (PySem.W.funFrames_hide fr hin) hx fun h'' t fly tup nt ups=>?_;have up:∀ b o,s.heap.get? b=some o->b∈frs (envOfC qual scope s0.heap.objs.size f cd :: outer)->∃ sl,h''.get? b=some { o with slots:=sl }:=fun b o e hb=>by
  obtain ⟨o',e',nd⟩:=noFlds fr hb;rw [e] at e';cases e';exact ups b o (hx.keeps b o e) nd
 have there:∀ b o,s.heap.get? b=some o->∃ o',h''.get? b=some o':=fun b o e=>by
  by_cases hb:b∈frs (envOfC qual scope s0.heap.objs.size f cd :: outer)
  ·obtain ⟨sl,z⟩:=up b o e hb;exact ⟨_,z⟩
  ·exact ⟨o,fly.1 b o (inB b o e hb)⟩
 have trk:∀ b o,H b=some o->∃ u,(hideAll s.heap (frs (envOfC qual scope s0.heap.objs.size f cd :: outer))).get? b=some u:=fun b o e=>by
  obtain ⟨u,hu⟩:=(I.hok b o e).has;refine ⟨u,inB b u hu fun z=>?_⟩;have:=I.stkFree b z;rw [e] at this;cases this
 refine ⟨ea,cls,H,_,_,rfl,I.os,I.bare,fly,⟨fun b o e n hb _=>?_,fun b o e n hb _=>?_,fun b o e n hb=>I.base.free b o e n hb,fun b o e _=>?_,I.base.tups,I.base.frzs,I.base.tbls⟩,I.hok.over trk (fun b o z=>of_hideAll _ z) fly.1,?_,?_,trk,fun b u e n=>?_,q⟩
 ·exact fly.1 b o (inB b o (I.base.keep b o e n hb (by simp [cxOf])) (nf b o e hb))
 ·obtain ⟨sl,e1⟩:=I.base.slot b o e n hb (by simp [cxOf]);obtain ⟨sl',e2⟩:=up b _ e1 (fl.mpr (.inr hb));exact ⟨sl',e2⟩
 ·obtain ⟨o',e1⟩:=I.base.there b o e (by simp [cxOf]);exact there b o' e1
 ·cases z:H ea with
  | none=>rfl
  | some o =>
   obtain ⟨u,hu⟩:=(I.hok ea o z).has;have hnew:=hx.new;rw [hu] at hnew;cases hnew
 ·cases z:s0.heap.get? ea with
  | none=>rfl
  | some o =>
   obtain ⟨o',e1⟩:=I.base.there ea o z (by simp [cxOf]);have hnew:=hx.new;rw [e1] at hnew;cases hnew
 ·obtain ⟨o',e1⟩:=I.base.there b u e (by simp [cxOf]);exact ⟨o',inB b o' e1 (nf b u e n)⟩
theorem pass1:Passes (Exc1 P w) (cxOf (Exc1 P w) P w K mg base N qual scope f cd A outer s0 H0 E) E:=by
 rintro pins σ H s e s' I ⟨ea,cls,H',B,a0,rfl,os,bare,fly,un,hok,hea,new,trk,inB,q⟩;have fl:∀ {b:Addr},b∈frs (envOfC qual scope s0.heap.objs.size f cd :: outer)↔b=s0.heap.objs.size\/b∈frs outer:=frs_cons rfl;have nf:∀ b u,s0.heap.get? b=some u->b ∉ frs outer->b ∉ frs (envOfC qual scope s0.heap.objs.size f cd :: outer):=fun b u e n z=>(fl.mp z).elim (Nat.ne_of_lt (lt_size e)) n;have fly0:Heap.FlyingW B (envOfC qual scope s0.heap.objs.size f cd :: outer) ea cls a0 s'.heap:=fly;have un:Un (frs (envOfC qual scope s0.heap.objs.size f cd :: outer)) [] H H' s.heap s'.heap:=un;have inB:∀ b u,s.heap.get? b=some u->b ∉ frs (envOfC qual scope s0.heap.objs.size f cd :: outer)->∃ v,B.get? b=some v:=inB;refine wpAny_leaves_onW (L:=s0.heap.objs.size) I.ok.frames rfl fly0 fun h'' fly2 ups=>?_;have stay:∀ b o,s.heap.get? b=some o->b ∉ frs (envOfC qual scope s0.heap.objs.size f cd :: outer)->∀ o',s'.heap.get? b=some o'->h''.get? b=some o':=fun b o e n o' e'=>by
  obtain ⟨v,hv⟩:=inB b o e n;have:=fly0.1 b v hv;rw [e'] at this;cases this;exact fly2.1 b _ hv
 refine ⟨ea,cls,H',B,a0,rfl,os.trans I.os,bare,fly2,⟨fun b o e n hb _=>?_,fun b o e n hb _=>?_,fun b o e n _=>?_,fun b o e _=>?_,fun b xs e=>un.tups b xs (I.base.tups b xs e),fun b o u e=>un.frzs b o u (I.base.frzs b o u e),fun b ps e=>?_⟩,hok.over trk fly0.1 fly2.1,hea,?_,trk,fun b u e n=>?_,q⟩
 ·have e1:=I.base.keep b o e n hb (by simp [cxOf]);have n1:=I.base.free b o e n (by simp [cxOf]);exact stay b o e1 (nf b o e hb) o (un.keep b o e1 n1 (nf b o e hb) (by simp))
 ·obtain ⟨sl,e1⟩:=I.base.slot b o e n hb (by simp [cxOf]);have n1:=I.base.free b o e n (by simp [cxOf]);obtain ⟨sl',e2⟩:=un.slot b _ e1 n1 (fl.mpr (.inr hb)) (by simp);obtain ⟨o',e3,nd⟩:=noFlds fly0.2.2.1 (fl.mpr (.inr hb));rw [e2] at e3;cases e3;obtain ⟨sl'',e4⟩:=ups b _ e2 nd;exact ⟨sl'',e4⟩
 ·obtain ⟨o',e1⟩:=I.base.there b o e (by simp [cxOf]);exact un.free b o' e1 (I.base.free b o e n (by simp [cxOf])) (by simp)
 ·obtain ⟨o',e1⟩:=I.base.there b o e (by simp [cxOf]);obtain ⟨o2,e2⟩:=un.there b o' e1 (by simp);by_cases hb:b∈frs outer
  ·obtain ⟨o3,e3,nd⟩:=noFlds fly0.2.2.1 (fl.mpr (.inr hb));obtain ⟨sl,e4⟩:=ups b o3 e3 nd;exact ⟨_,e4⟩
  ·exact ⟨o2,stay b o' e1 (nf b o e hb) o2 e2⟩
 ·obtain ⟨m1,e1⟩:=I.base.tbls b ps e;obtain ⟨m2,e2⟩:=un.tbls b _ e1;exact ⟨m1 ++ m2,by rw [e2,Array.append_assoc]⟩
 ·cases z:s0.heap.get? ea with
  | none=>rfl
  | some o =>
   obtain ⟨o',e1⟩:=I.base.there ea o z (by simp [cxOf]);rw [e1] at new;cases new
 ·obtain ⟨o',e1⟩:=I.base.there b u e (by simp [cxOf]);exact inB b o' e1 (nf b u e n)
theorem exc_obj {h:Heap} {C:Addr} {bmB:List Value} {nid:String} (X:K.In h) (q:excIn K C bmB nid=true) :
  ∃ bm N nm qn bs hdct sn sub ab col dd k0 k1 k2 k3 k5 mN,h.get? C=some (excClassObj nm qn C N bs bm hdct sn sub ab col dd k0 k1 k2 k3 k5 nid)/\h.Ns N mN/\mN "__init__"=none/\OwnTail h bmB bm:=by
 unfold excIn at q;split at q
 ·rename_i dd cdd sl ho;split at q
  ·rename_i C' bm k0 k1 k2 k3 n k5 hm hs;simp only [Bool.and_eq_true,beq_iff_eq,Bool.not_eq_true'] at q;obtain ⟨⟨⟨⟨⟨rfl,rfl⟩,q1⟩,q2⟩,q3⟩,q4⟩:=q;obtain ⟨nm,bs,mro,ns,qn,hd,sn,sub,ab,col,del⟩:=cdd;dsimp only at hm q1 q3 q4;subst hm q1;obtain ⟨l⟩:=sl;simp only at hs;subst hs;exact ⟨bm,ns,nm,qn,bs,hd,sn,sub,ab,col,dd,k0,k1,k2,k3,k5,_,X _ _ ho,.of_isNs (PySem.W.isNs_of_in X q3),PySem.W.nsMap_none_of_in X q3 q4,PySem.W.tail_of_in X q2⟩
  ·cases q
 ·cases q
theorem ps_raise {x:Str} {C:Addr} {msg:Str} {j:Nat} {p1 np cpos pos:Pos} (hg:Gl (cxOf (Exc1 P w) P w K mg base N qual scope f cd A outer s0 H0 E) x) (hm:mg x=some (.ref C)) (q:excIn K C bmV "ValueError.__new__"=true) (hdb:(x == ("__debug__":Str))=false:=by decide) :
  PS (cxOf (Exc1 P w) P w K mg base N qual scope f cd A outer s0 H0 E) (.Raise (some (.Call (.Name x np) [.Constant (.str msg) j p1] [] cpos)) none pos) (fun D σ H=>E (.ref C) none H):=by
 intro pins s σ H D I h;obtain ⟨bm,NN,nm,qn,bs,hdct,sn,sub,ab,col,dd,k0,k1,k2,k3,k5,mN,hC,hN,hni,T⟩:=exc_obj (I.ok.mod.kin) q;refine wpAny_Raise_call_subT (C:=C) (nm:=nm) (q:=qn) (N:=NN) (bs:=bs) (bm:=bm) (hdct:=hdct) (sn:=sn) (sub:=sub) (ab:=ab) (col:=col) (dd:=dd) (k0:=k0) (k1:=k1) (k2:=k2) (k3:=k3) (k5:=k5)
  PySem.F.excBase_ValueError (mN:=mN) (T.hasType PySem.F.excBase_ValueError.hasBase) (I.ok.hd rfl) rfl hni (J2k I hg hm ⟨rfl,?_⟩ hdb)
 refine Calls.evalArgs_plain (thn ((J0 (pe_str (X:=cxOf (Exc1 P w) P w K mg base N qual scope f cd A outer s0 H0 E)) J4) cpos pins s σ H (fun vs H'=>H'=H/\vs.length=1) I ⟨rfl,rfl⟩) fun us s2 h9=>?_);obtain ⟨vs,H2,I2,r,e2,e3⟩:=h9;subst e2;have hl:us.length<=sizeLine:=by rw [<- r.length,e3];decide
 exact ⟨rfl,hl,I2.bk _ _ hC,hN.keeps I2.bk,T.keeps I2.bk,fun h' e hm=>xe_made I2 hm h⟩
end
theorem ps_nox {X:Cx} {st:Stmt} {t:TS} (h:PS X.nox st t):PS X st t:=fun pins s σ H D I hw =>
 wpAny_mono (h pins s σ H D (I.wish _) hw) (fun _ _ z=>z.unwish) fun _ _ z=>False.elim z
end L2
namespace L2
open PySem PySem.Spec PyProof.Rows
def excO (ea:Addr) (cls:Value):HO:=.ext fun h=>∃ o,h.get? ea=some o/\o.cls=cls
def Cx.caught (X:Cx) (ea:Addr):Cx:={ X with A:=X.A.mark (some (.ref ea)),calm:=false,xe:=fun _ _=>False }
def Ends.unset (D:Ends) (i:Nat):Ends:={ nx:=fun σ H=>D.nx (σ.set i none) H,rt:=D.rt,bk:=fun σ H=>D.bk (σ.set i none) H,ct:=fun σ H=>D.ct (σ.set i none) H }
section
variable {X:Cx} {pins:List (Addr × Obj)} {σ:St} {H:Hp} {s:Shared} {ea:Addr}
theorem Cx.Ok.caught (ok:X.Ok) (ea:Addr):(X.caught ea).Ok :=
 ⟨ok.mod,ok.kind,ok.glob,ok.blt,ok.above,ok.inj,ok.has,ok.cab,(fun z=>Bool.noConfusion z),ok.frames,ok.stk,ok.exf,ok.bs,ok.bsz,ok.noex,ok.exfs,ok.funs,ok.frf⟩
theorem Inv.caught (I:Inv X pins σ H s) (ea:Addr):Inv (X.caught ea) pins σ H s:=⟨I.ok.caught ea,I.os,I.bare,I.base,I.loc,I.cell,I.free,I.freeC,I.pin,I.hok,I.len⟩
theorem Inv.uncaught (I:Inv (X.caught ea) pins σ H s) (ok:X.Ok):Inv X pins σ H s:=⟨ok,I.os,I.bare,I.base,I.loc,I.cell,I.free,I.freeC,I.pin,I.hok,I.len⟩
theorem J2b {M:Model} {A:Around} {E:Value->Shared->Prop} {i:Nat} {x:Str} {pos:Pos} {Q:Unit->Shared->Prop} (I:Inv X pins σ H s) (hN:X.N.Nodup) (hi:X.N[i]?=some x) (hk:X.env.scope.names.lookup x=some .local)
  (h:∀ s',Inv X pins (σ.set i none) H s'->Q () s'):wpAny M A (do bindName X.env x .none;unbindBehindTheSuite X.env x pos) Q E s:=by
 obtain ⟨m,hn,hl⟩:=id I.loc;have hcls:(X.env.scope.kind == .class || (X.env.scope.kind == .module && X.env.locals != X.env.globals))=false:=by rw [I.ok.kind];rfl
 have hiσ:i < σ.length:=by rw [I.len];exact (List.getElem?_eq_some_iff.mp hi).1
 have cne:=I.cne;obtain ⟨oL,_,_,hoL,_⟩:=id hn;refine wpAny_nameGoes_keeps hk hn hcls fun h' v hn' hs=>?_;have nL:∀ b o,X.s₀.heap.get? b=some o->b≠X.env.locals:=fun b o e=>Nat.ne_of_lt (Nat.lt_of_lt_of_le (lt_size e) I.ok.above);refine h _ ⟨I.ok,I.os,I.bare,⟨fun b o e n hb hx=>?_,fun b o e n hb hx=>?_,I.base.free,fun b o e hx=>?_,I.base.tups,I.base.frzs,I.base.tbls⟩,⟨_,hn',fun j y v' e1 e2 e3=>?_⟩,fun y c e=>?_,I.free,I.freeC,fun p hp=>?_,fun b ob e=>?_,by simpa using I.len⟩
 ·exact (hs.2 b (nL b o e)).trans (I.base.keep b o e n hb hx)
 ·obtain ⟨sl,e1⟩:=I.base.slot b o e n hb hx;exact ⟨sl,(hs.2 b (nL b o e)).trans e1⟩
 ·obtain ⟨o',e1⟩:=I.base.there b o e hx;exact ⟨o',(hs.2 b (nL b o e)).trans e1⟩
 ·by_cases hj:j=i
  ·subst hj;rw [List.getElem?_set_self hiσ] at e2;cases e2
  ·rw [List.getElem?_set_ne (Ne.symm hj)] at e2;obtain ⟨u',r',q⟩:=hl j y v' e1 e2 e3;refine ⟨u',r',?_⟩;rcases q with ⟨k,e⟩ | ⟨k,c,e,z⟩
   ·refine .inl ⟨k,?_⟩;have:y≠x:=fun e=>hj (J4e hN e1 (e ▸ hi));simp [this,e]
   ·exact .inr ⟨k,c,e,z.sameBut hs (cne y c e)⟩
 ·obtain ⟨w',z⟩:=I.cell y c e;exact ⟨w',z.sameBut hs (cne y c e)⟩
 ·obtain ⟨e,n,ne,nf,d⟩:=I.pin p hp;exact ⟨(hs.2 p.1 ne).trans e,n,ne,nf,d⟩
 ·refine (I.hok b ob e).stay (fun c w' hc q=>(hs.2 c ?_).trans q) (fun _ q=>q) fun _ _ q=>q;rintro rfl;have hfree:=I.free;rcases hc with z | hc
  ·rw [<- z,hfree] at e;cases e
  ·rw [hfree] at hc;cases hc
theorem land {s1:Shared} {H':Hp} {B:Heap} {cls a0:Value} {h':Heap} (I:Inv X pins σ H s) (ho:s1.os=s.os) (bare:AllBare s1.gens) (fly:Heap.FlyingW B X.stack ea cls a0 s1.heap)
  (un:Un (frs X.stack) [] H H' s.heap s1.heap) (hok:HOk X.prog X.w H' s1.heap) (hea:H' ea=none) (new:s.heap.get? ea=none) (trk:∀ b o,H' b=some o->∃ u,B.get? b=some u)
  (inB:∀ b u,s.heap.get? b=some u->b ∉ frs X.stack->∃ v,B.get? b=some v) (fly':Heap.FlyingW B X.stack ea cls a0 h') (up:s1.heap.UpToSlots h') :
  Inv X pins σ (upd H' ea (excO ea cls)) { s1 with heap:=h' }:=by
 have neE:∀ b o,s.heap.get? b=some o->b≠ea:=fun b o e z=>by rw [z,new] at e;cases e
 have slots:∀ b o,b∈frs X.stack->s1.heap.get? b=some o->∃ sl,h'.get? b=some { o with slots:=sl }:=fun b o hb e=>by
  obtain ⟨o',e',nd⟩:=noFlds fly.2.2.1 hb;rw [e] at e';cases e';exact up b o e nd
 have stay:∀ b o,s.heap.get? b=some o->b ∉ frs X.stack->∀ o',s1.heap.get? b=some o'->h'.get? b=some o':=fun b o e n o' e'=>by
  obtain ⟨v,hv⟩:=inB b o e n;have:=fly.1 b v hv;rw [e'] at this;cases this;exact fly'.1 b _ hv
 refine I.call' (s':={ s1 with heap:=h' }) (ch:=[]) ho ⟨fun b o e n hb _=>?_,fun b o e n hb _=>?_,fun b o e n _=>?_,fun b o e _=>?_,fun b xs e=>?_,fun b o u e=>?_,fun b ps e=>?_⟩ (fun b u e=>?_) bare (fun _ z=>nomatch z)
 ·exact stay b o e hb o (un.keep b o e n hb (by simp))
 ·obtain ⟨sl,e1⟩:=un.slot b o e n hb (by simp);obtain ⟨sl',e2⟩:=slots b _ hb e1;exact ⟨sl',e2⟩
 ·rw [Ja (neE b o e)];exact un.free b o e n (by simp)
 ·obtain ⟨o',e1⟩:=un.there b o e (by simp);by_cases hb:b∈frs X.stack
  ·obtain ⟨sl,e2⟩:=slots b o' hb e1;exact ⟨_,e2⟩
  ·exact ⟨o',stay b o e hb o' e1⟩
 ·have q:=un.tups b xs e;rw [Ja (J6 q hea)];exact q
 ·have q:=un.frzs b o u e;rw [Ja (J6 q hea)];exact q
 ·obtain ⟨m,q⟩:=un.tbls b ps e;exact ⟨m,by rw [Ja (J6 q hea)];exact q⟩
 ·have hok2:=hok.over trk fly.1 fly'.1;by_cases hb:b=ea
  ·subst hb;rw [J1] at e;cases e;obtain ⟨ob,e1,e2⟩:=fly'.there;exact ⟨⟨ob,e1,e2⟩,⟨ob,e1⟩,fun h1 h2 ⟨o1,z1,z2⟩ k=>⟨o1,k o1 z1,z2⟩⟩
  ·rw [Ja hb] at e;exact (hok2 b u e).stay (fun c v _ q=>q) (fun c q=>by rw [Ja (J6 q hea)];exact q) fun c xs q=>by rw [Ja (J6 q hea)];exact q
def xCatch (K:PySem.W.Frag) (c:Value) (i:Nat) (tb:Addr->TS) (D:Ends) (σ:St):XK:=fun cls _ H2=>exmOne K cls c=some true/\∀ ea,H2 ea=none->tb ea (D.unset i) (σ.set i (some (.ref ea))) (upd H2 ea (excO ea cls))
variable {i:Nat} {n cx:Str} {c:Value} {b₀:Stmt} {suite:List Stmt} {hpos np:Pos} {tb:Addr->TS} {D:Ends}
theorem caught_at {e:Value} {s1:Shared} (hst:X.stack=X.env :: X.outer) (hfr:X.env.frame=some X.env.locals) (hgC:Gl X cx) (hmC:X.mg cx=some c) (hN:X.N.Nodup) (hi:X.N[i]?=some n) (hk:X.env.scope.names.lookup n=some .local)
  (hb:∀ ea,PSs (X.caught ea) (b₀ :: suite) (tb ea)) (I:Inv X pins σ H s) (x:Exc1 X.prog X.w X.stack H s (xCatch X.K c i tb D σ) e s1) (hdb:(cx == ("__debug__":Str))=false:=by decide) :
  wpAny (model X.prog X.w) X.A (noteFrame e X.env) (fun _ s₂=>wpAny (model X.prog X.w) X.A (setFlight e none) (fun _ s₃=>wpAny (model X.prog X.w) X.A (handleBy e X.env [.ExceptHandler (some (.Name cx np)) (some n) (b₀ :: suite) hpos]) (SP X pins D) X.xe s₃) X.xe s₂) X.xe s1:=by
 obtain ⟨ea,cls,H',B,a0,rfl,os,bare,fly,un,hok,hea,new,trk,inB,hx,q⟩:=x;have fr:X.A.frames=some (X.env :: X.outer):=by rw [<- hst];exact I.ok.frames
 have fly':Heap.FlyingW B (X.env :: X.outer) ea cls a0 s1.heap:=by rw [<- hst];exact fly
 refine wpAny_looks_onW fr hfr fly' fun h2 held up2=>?_;refine wpAny_landsW held fun h3 fly3 up3=>?_;have fly3':Heap.FlyingW B X.stack ea cls a0 h3:=by rw [hst];exact fly3
 have I3:Inv X pins σ (upd H' ea (excO ea cls)) { s1 with heap:=h3 }:=land I os bare fly un hok hea new trk inB fly3' (up2.trans up3);refine wpAny_handleBy_cons (codeAny_handlers_test ?_) (by intro q;cases q);refine J2k (X:=X.caught ea) (I3.caught ea) hgC hmC ?_ hdb;have LT:PySem.W.Looks (model X.prog X.w) h3 (typeOf (.ref ea)) cls:=by
  obtain ⟨ob,e1,e2⟩:=fly3.there;exact e2 ▸ (PySem.W.Looks.ld e1).andThen .now
 refine (PySem.W.exm_one (M:=model X.prog X.w) I3.kIn LT hx).here ?_;refine codeAny_handlers_suite_as ?_;refine lands_againW fly3 fun h4 fly4 up4=>?_;have fly4':Heap.FlyingW B X.stack ea cls a0 h4:=by rw [hst];exact fly4
 have I4:Inv X pins σ (upd H' ea (excO ea cls)) { s1 with heap:=h4 }:=land I os bare fly un hok hea new trk inB fly4' ((up2.trans up3).trans up4);refine J38 (X:=X.caught ea) (I4.caught ea) hN hi (.inl hk) (v:=.ref ea) rfl (fun s5 I5=>?_) (.inr hk);refine wpAny_mono (hb ea pins s5 _ _ (D.unset i) I5 (q ea hea)) (fun fl s6 z=>?_) fun _ _ z=>False.elim z
 cases fl with
 | next=>obtain ⟨σ',H2,I6,q6⟩:=z;exact J2b (I6.uncaught I.ok) hN hi hk fun s7 I7=>⟨_,H2,I7,q6⟩
 | brk=>obtain ⟨σ',H2,I6,q6⟩:=z;exact J2b (I6.uncaught I.ok) hN hi hk fun s7 I7=>⟨_,H2,I7,q6⟩
 | cont=>obtain ⟨σ',H2,I6,q6⟩:=z;exact J2b (I6.uncaught I.ok) hN hi hk fun s7 I7=>⟨_,H2,I7,q6⟩
 | ret u=>obtain ⟨v,σ',H2,I6,r6,q6⟩:=z;exact J2b (I6.uncaught I.ok) hN hi hk fun s7 I7=>⟨v,_,H2,I7,r6,q6⟩
end
theorem Fun.okX {P:Program} {w:World} {K:PySem.W.Frag} {mg:Str->Option Value} {base:Heap} {x qual:Str} {st:Stmt} {f:Addr} {fd:FuncData} {N ps:List Str} {k:Nat} {sp:Sp} (F:Fun K x qual st f fd) (S:FnScope N ps (J9 st)) (len:∀ vs H Q E,sp vs H Q E->vs.length=ps.length)
  (hbody:∀ (cdv:Value) (A:Around) (outer:List Env) (s:Shared) (H:Hp) (vs:List V) (Q:VK) (E:XK),Room k (A.deeper (envOfC qual (J9 st) s.heap.objs.size f cdv))->sp vs H Q E->
   ∃ t,PSs (cxOf (Exc1 P w) P w K mg base N qual (J9 st) f cdv A outer s H E) (J10 st) t/\t { nx:=fun _ H'=>Q .non H',rt:=Q } (start N vs) H):FnOk P w K mg base (Exc1 P w) (k + 1) f fd ps sp:=by
 obtain ⟨oc,od,kV,doc,pm,an,cdv,ct,osl,rfl,lk,hcd⟩:=F.ex;exact fn_of lk hcd S len fun A outer s H vs Q E hr hsp=>hbody cdv A outer s H vs Q E hr hsp
end L2
namespace L2
open PySem PySem.Spec PyProof.Rows
structure XCls (K:PySem.W.Frag) (D:Addr):Prop where
 ga:findIn K (.ref D) "__getattribute__"=some (some (.builtin "BaseException.__getattribute__"))
 no:findIn K (.ref D) "__getattr__"=some none
 cl:findIn K (.ref D) "__class__"=some (some (.builtin "object.__class__"))
 get:specialIn K (.builtin "object.__class__") "__get__"=some (some (.builtin "getset_descriptor.__get__"))
 tk:takesIn K (.builtin "object.__class__")=some true
 mo:mroIn K D (.type "object")=some true
 mb:mroIn K D (.type "BaseException")=some true
 hd:hasDictIn K D=true
section
open PySem.W
variable {prog:Program} {w:World} {A:Around} {E:Value->Shared->Prop} {K:Frag} {x D:Addr} {hh:Heap} {g:Array GenState} {d:Drawn} {t:Nat} {os:OsState}
theorem x_find {M:Model} (X:K.In hh) (W:XCls K D):Looks M hh (Builtin.ObjectAttr.find (.ref x) (.ref D) "__class__") (.bind (.builtin "getset_descriptor.__get__") (.builtin "object.__class__")):=by
 have e1:=looks_findIn (M:=M) X W.cl;have e2:Looks M hh (Builtin.ObjectAttr.getOf (some (.builtin "object.__class__"))) (some (.builtin "getset_descriptor.__get__")):=looks_specialIn X W.get;have e3:=looks_takesIn (M:=M) X W.tk;have e4:Looks M hh (Builtin.ObjectAttr.dataDescriptor? (some (.builtin "object.__class__")) (some (.builtin "getset_descriptor.__get__"))) (some (.builtin "getset_descriptor.__get__",.builtin "object.__class__")):=e3.andThen .now;exact e1.andThen (e2.andThen (e4.andThen (Looks.tag .now)))
theorem x_get {R:Result->Shared->Prop} {tp:Value} (X:K.In hh) (W:XCls K D) (p:∃ o,hh.get? x=some o/\o.cls=.ref D) (h:R (.ok (.ret (.ref D))) ⟨hh,g,d,t,os⟩) :
  codeAny (model prog w) A (.call (.builtin "getset_descriptor.__get__") ⟨[.builtin "object.__class__",.ref x,tp],[]⟩) R ⟨hh,g,d,t,os⟩:=by
 obtain ⟨o,p1,p2⟩:=p;have L0:Looks (model prog w) hh (typeOf (.ref x)) (.ref D):=p2 ▸ (Looks.ld p1).andThen .now;have L1:=looks_mroIn (M:=model prog w) X W.mo;have ck:=KF.slot_gs.check (M:=model prog w) (A:=A);refine codeAny_call_builtin KF.slot_gs.plain KF.entry_gs ?_;refine KF.slot_gs.check _ _ _ _ _ _ _ _ KF.type_class (KF.args_gs ..) ?_;unfold Builtin.«getset_descriptor.__get__»;unfold Builtin.Getset_descriptor.descrGet;rw [dga_obj];apply wpAny_bind;apply wpAny_pure;unfold Builtin.Getset_descriptor.descrGetter Builtin.Getset_descriptor.descrCheckInstance;unfold Builtin.Getset_descriptor.descrNameAndClass isInstance;simp only [KF.owner_class]
 repeat lk
 refine ⟨Code.quiet_builtin _ (by decide +kernel),?_⟩;refine codeAny_builtin KF.entry_class ?_;unfold Builtin.«object.__class__»;unfold shownTypeOf
 repeat lk
 exact h
theorem x_class {Q:Option Value->Shared->Prop} (X:K.In hh) (W:XCls K D) (p:∃ o,hh.get? x=some o/\o.cls=.ref D) (h:Q (some (.ref D)) ⟨hh,g,d,t + 1,os⟩) :
  wpAny (model prog w) A (getAttr? (.ref x) "__class__") Q E ⟨hh,g,d,t,os⟩:=by
 have p':=p;obtain ⟨o,p1,p2⟩:=p';have L0:Looks (model prog w) hh (typeOf (.ref x)) (.ref D):=p2 ▸ (Looks.ld p1).andThen .now;have L1:=looks_findIn (M:=model prog w) X W.ga;have L2:=looks_findIn (M:=model prog w) X W.no;have L3:=x_find (x:=x) (M:=model prog w) X W;have L4:=looks_mroIn (M:=model prog w) X W.mb;have gb:=PySem.F.attrBase_ValueError.ga.bind (.ref x);unfold getAttr? getAttrBy?;unfold getAttrBy;apply wpAny_bind;apply wpAny_mkText;apply wpAny_bind;apply wpAny_attempt;apply wpAny_holding;apply wpAny_bind;refine L0.at ?_;apply wpAny_bind;refine L1.at ?_;have nb:(Value.builtin "BaseException.__getattribute__" == Value.builtin "object.__getattribute__")=false:=by decide +kernel
 show wpAny _ _ (if (onTheHeap (Value.ref D) && Value.builtin "BaseException.__getattribute__" == Value.builtin "object.__getattribute__")=true then _ else _) _ _ _;rw [nb,Bool.and_false,if_neg Bool.false_ne_true];unfold getAttrByItsOwn hookBefore;apply wpAny_bind;show wpAny _ _ (if onTheHeap (Value.ref D)=true then _ else _) _ _ _;rw [if_pos (show onTheHeap (Value.ref D)=true from rfl)];refine L2.at ?_;apply wpAny_bind;apply wpAny_attempt;apply wpAny_holding;unfold callGetattribute;rw [Bool.false_and,if_neg Bool.false_ne_true];unfold boundAndCalled;rw [gb];apply wpAny_bind;apply wpAny_pure;refine wpAny_call (codeAny_call_builtin PySem.F.attrBase_ValueError.ga.plain PySem.F.entry_bexc_ga ?_);have hk:builtinKind "BaseException.__getattribute__"=some .slot:=by decide +kernel
 have hs:splitId "BaseException.__getattribute__"=some ("BaseException","__getattribute__"):=by decide +kernel
 have ha:=PySem.F.args_bexc_ga (.ref x) (.str "__class__" t);have L5:Looks (model prog w) hh (isInstance (.ref x) (.type "BaseException")) true:=L0.andThen L4;simp only [checkBuiltinCall,hk,hs];apply wpAny_bind;refine L5.at ?_
 repeat (first | assumption | wp_step)
 rw [p2];have e2:Looks (model prog w) hh (Builtin.ObjectAttr.getOf (some (.builtin "object.__class__"))) (some (.builtin "getset_descriptor.__get__")):=looks_specialIn X W.get;have e3:=looks_takesIn (M:=model prog w) X W.tk;have e4:Looks (model prog w) hh (Builtin.ObjectAttr.dataDescriptor? (some (.builtin "object.__class__")) (some (.builtin "getset_descriptor.__get__"))) (some (.builtin "getset_descriptor.__get__",.builtin "object.__class__")):=e3.andThen .now;refine (looks_findIn (M:=model prog w) X W.cl).at ?_;apply wpAny_bind;refine e2.at ?_;apply wpAny_bind;refine e4.at ?_
 repeat (first | assumption | wp_step)
 refine x_get X W p ?_
 repeat (first | assumption | wp_step)
theorem x_isType {M:Model} (X:K.In hh) (W:XCls K D):Looks M hh (isType (.ref D)) true:=by
 obtain ⟨cd,hc,_⟩:=any_some W.hd;unfold clsIn at hc;split at hc
 next ho =>
  intro A' Q' E' s' k q;unfold isType loadHead;apply wpAny_bind;exact wpAny_loadPart (k _ _ (X _ _ ho)) (wpAny_pure q)
 next=>cases hc
theorem kitx_exc (W:XCls K D):KitX K (.ref x) (.ref D) (fun h=>∃ o,h.get? x=some o/\o.cls=.ref D) where
 ty:=fun _ _ _ h9=>by obtain ⟨_,p1,p2⟩:=h9;exact p2 ▸ (Looks.ld p1).andThen .now
 it:=fun _ _ X _=>x_isType X W
 ne:=fun h tp dd its n sl X htp=>by
  obtain ⟨cd,hc,_⟩:=any_some W.hd;apply Bool.eq_false_iff.mpr;intro q;cases beq_iff_eq.mp q;unfold clsIn at hc;split at hc
  next ho=>have z:=X _ _ ho;rw [htp] at z;cases z
  next=>cases hc
 ca:=fun {_ _ _ _ _ s} X p k=>by
  obtain ⟨h0,g0,d0,t0,o0⟩:=s;exact x_class X W p k
end
theorem call_isany {X:Cx} {f:Value} (hf:f=.builtin "isinstance"):CallR X f (fun xs H Q=>∃ (ea D:Addr) (c:V) (cv:Value) (b:Bool),xs=[.ref ea,c]/\RelV c cv/\(∀ v,RelV c v->v=cv)/\H ea=some (excO ea (.ref D))/\XCls X.K D/\kitOne X.K (.ref D) cv=some b/\Q (.bl b) H):=by
 subst hf;intro pins s σ H xs us Q I r h;obtain ⟨ea,D,c,cv,b,rfl,rc,uc,e,W,kb,q⟩:=h;obtain ⟨u,v,rfl,ru,rv⟩:=vals2 r;cases (show u=Value.ref ea from ru);obtain rfl:=uc v rv;have:=I.hok ea _ e;exact kia_one (kitx_exc W) I.kIn this.1 kb (fun z=>nomatch z) fun tk=>⟨.bl b,H,I.tok tk,rfl,q⟩
end L2
namespace L2
open PySem PySem.Spec PyProof.Rows
section
variable {X:Cx} {k:Nat} {f:Addr} {fd:FuncData} {ps:List Str} {sp:Sp} {dvs:List V} {ds:List Value} {x y n cx:Str} {i j:Nat} {p py pos cpos epos hpos np:Pos} {e:Expr} {es:List Expr} {t:TA} {c:Value} {b₀:Stmt} {suite:List Stmt} {tb:Addr->TS}
def tTrya (K:PySem.W.Frag) (sp:Sp) (dvs:List V) (c:Value) (i j:Nat) (t:TA) (tb:Addr->TS):TS:=fun D σ H=>t σ H fun vs H1=>sp (vs ++ dvs) H1 (fun v H2=>D.nx (σ.set j (some v)) H2) (xCatch K c i tb D σ)
theorem ps_trya (F:FnOk X.prog X.w X.K X.mg X.base (Exc1 X.prog X.w) k f fd ps sp) (hr:Room k X.A) (hg:Gl X x) (hm:X.mg x=some (.ref f)) (hk:keepIn X.K (.ref f)=true) (hb:Binds X.K fd ps ds) (hd:Vals dvs ds)
  (ha:PA X.nox (e :: es) t) (hst:X.stack=X.env :: X.outer) (hfr:X.env.frame=some X.env.locals) (hgC:Gl X cx) (hmC:X.mg cx=some c) (hN:X.N.Nodup) (hi:X.N[i]?=some n) (hkn:X.env.scope.names.lookup n=some .local)
  (hj:X.N[j]?=some y) (hy:Loc X.env.scope y)
  (hsu:∀ ea,PSs (X.caught ea) (b₀ :: suite) (tb ea)) (hdbC:(cx == ("__debug__":Str))=false:=by decide) (hs:swapsWith (.Call (.Name x p) (e :: es) [] cpos) (some (.Name y py)) epos.line X.env=pure false:=by rfl)
  (hdb:(x == ("__debug__":Str))=false:=by decide) (he:starEach (e :: es) X.env=(false,eval e X.env) :: starEach es X.env:=by rfl) (hpl:(backTo cpos (starEach es X.env)).any (·.1)=false:=by rfl)
  (hf:X.fn y=true\/X.env.scope.names.lookup y=some .local:=by first | exact .inl rfl | exact .inr rfl | assumption) :
  PS X (.Try [.Assign [.Name y py] (.Call (.Name x p) (e :: es) [] cpos) epos] [.ExceptHandler (some (.Name cx np)) (some n) (b₀ :: suite) hpos] [] [] pos) (tTrya X.K sp dvs c i j t tb):=by
 intro pins s σ H D I h;refine wpAny_Try_except (wpAny_execs_cons (wpAny_Assign_Name ?_ hs));refine wpAny_Call_Name_kw (J2k I hg hm ?_ hdb);refine callWith_K (h₀:=X.base) I.ok.mod.kin hk (wpAny_mono (ha cpos pins s σ H _ (I.wish _) h) (fun us s1 ⟨vs,H1,I1,r,q⟩=>⟨I1.kIn,?_⟩) fun _ _ z=>False.elim z) he hpl;have I1:=I1.unwish;have r2:Vals (vs ++ dvs) (us ++ ds):=r.append hd;have hl:(us ++ ds).length=ps.length:=by rw [<- r2.length];exact F.len _ _ _ _ q
 refine wpAny_call (codeAny_mono (F.run X.A X.stack s1 H1 ⟨us,[]⟩ (us ++ ds) (vs ++ dvs) _ _ hr I1.env0 (hb s1 us I1.kIn hl) r2 q) fun r s' hq=>?_)
 cases r with
 | error e=>exact caught_at hst hfr hgC hmC hN hi hkn hsu I1 hq hdbC
 | ok fl =>
  cases fl with
  | ret u =>
   obtain ⟨v,H2,I2,rv,q2⟩:=I1.after hq;exact J38 I2 hN hj hy rv (fun s3 I3=>wpAny_execs_nil (wpAny_execs_nil (show SP X pins D .next s3 from ⟨_,H2,I3,q2⟩))) hf
  | next=>exact False.elim hq
  | brk=>exact False.elim hq
  | cont=>exact False.elim hq
end
end L2
namespace Rl
def cellN (ns:List Int) (k:Nat):Int:=ns.getD k 0
def drawL (ns:List Int) (many:Nat) (top:Int):List Int:=(List.range many).map fun k=>1 + cellN ns (2 + k) % top
def insAt (xs:List Nat) (i y:Nat):List Nat:=xs.take i ++ y :: xs.drop i
def spotO (ns:List Int) (many k:Nat):Nat:=(cellN ns (2 + many + k) % ((k:Int) + 1)).toNat
def drawO (ns:List Int) (many:Nat):Nat->List Nat
 | 0=>[]
 | k + 1=>insAt (drawO ns many k) (spotO ns many k) k
theorem spotO_le (ns:List Int) (many k:Nat):spotO ns many k<=k/\((spotO ns many k:Nat):Int)=cellN ns (2 + many + k) % ((k:Int) + 1):=by
 unfold spotO;have h1:0<=cellN ns (2 + many + k) % ((k:Int) + 1):=Int.emod_nonneg _ (by lia);have h2:cellN ns (2 + many + k) % ((k:Int) + 1) < (k:Int) + 1:=Int.emod_lt_of_pos _ (by lia);lia
theorem insAt_perm (xs:List Nat) (i y:Nat):(insAt xs i y).Perm (y :: xs):=by
 unfold insAt;have h:(xs.take i ++ y :: xs.drop i).Perm (y :: (xs.take i ++ xs.drop i)):=List.perm_middle;rwa [List.take_append_drop] at h
theorem J2o (ns:List Int) (many:Nat):∀ k,(drawO ns many k).Perm (List.range k)
 | 0=>List.Perm.refl _
 | k + 1=>by
  have h1:=insAt_perm (drawO ns many k) (spotO ns many k) k;have h2:(k :: drawO ns many k).Perm (k :: List.range k):=(J2o ns many k).cons k;have h3:(k :: List.range k).Perm (List.range (k + 1)):=by
   rw [range_succ];exact (List.perm_append_singleton k (List.range k)).symm
  exact h1.trans (h2.trans h3)
theorem drawO_len (ns:List Int) (many k:Nat):(drawO ns many k).length=k:=by
 rw [(J2o ns many k).length_eq,length_range]
theorem J1g (ns:List Int) (many:Nat) (top:Int):(drawL ns many top).length=many:=by simp [drawL]
theorem J3n {ns:List Int} {many:Nat} {top:Int} (ht:0 < top):∀ a∈drawL ns many top,1<=a/\a<=top:=fun a h=>by
 obtain ⟨k,_,rfl⟩:=mem_map.mp h;have h1:=Int.emod_nonneg (cellN ns (2 + k)) (Int.ne_of_gt ht);have h2:=Int.emod_lt_of_pos (cellN ns (2 + k)) ht;lia
theorem sum_le {b:Int}:∀ (xs:List Int),(∀ a∈xs,a<=b)->xs.sum<=(xs.length:Int) * b
 | [],_=>by simp
 | x :: xs,h=>by
  have h1:=h x mem_cons_self;have h2:=sum_le xs fun a ha=>h a (mem_cons_of_mem _ ha);rw [sum_cons,length_cons];have e:(((xs.length + 1:Nat):Int)) * b=(xs.length:Int) * b + b:=by
   rw [Int.natCast_add,Int.add_mul];simp
  lia
theorem mul_top {n:Nat} {b:Int} (hn:n<=24) (hb:0<=b):(n:Int) * b<=24 * b:=Int.mul_le_mul_of_nonneg_right (by lia) hb
def sumsF (ls:List Int) (os:List Nat):Nat->List Int × Int
 | 0=>(List.replicate ls.length 0,0)
 | i + 1=>((sumsF ls os i).1.set (os.getD i 0) (sumsF ls os i).2,(sumsF ls os i).2 + ls.getD (os.getD i 0) 0)
theorem J2c (ls:List Int) (os:List Nat):∀ i,(sumsF ls os i).1.length=ls.length
 | 0=>by simp [sumsF]
 | i + 1=>by
  show ((sumsF ls os i).1.set _ _).length=_;rw [List.length_set];exact J2c ls os i
def firsts (ls:List Int) (os:List Nat):List Int:=(sumsF ls os os.length).1
theorem J3v (ls:List Int) (os:List Nat):(firsts ls os).length=ls.length:=J2c ls os _
theorem J2z:∀ {xs ys:List Int},xs.Perm ys->xs.Pairwise (·<=·)->ys.Pairwise (·<=·)->xs=ys
 | [],ys,h,_,_=>(List.Perm.nil_eq h)
 | x :: xs,[],h,_,_=>absurd h.length_eq (by simp)
 | x :: xs,y :: ys,h,hx,hy=>by
  have hx':=pairwise_cons.mp hx;have hy':=pairwise_cons.mp hy;have m1:x∈y :: ys:=h.mem_iff.mp mem_cons_self;have m2:y∈x :: xs:=h.mem_iff.mpr mem_cons_self;have e:x=y:=by
   rcases mem_cons.mp m1 with e | m1
   ·exact e
   ·rcases mem_cons.mp m2 with e | m2
    ·exact e.symm
    ·have a:=hx'.1 y m2;have b:=hy'.1 x m1;lia
  subst e;rw [J2z h.cons_inv hx'.2 hy'.2]
def natI (os:List Nat):List Int:=os.map fun (n:Nat)=>(n:Int)
theorem J4a (n:Nat):(natI (List.range n)).Pairwise (·<=·):=by
 unfold natI;rw [pairwise_map];exact List.pairwise_lt_range.imp fun h=>by lia
theorem J42 {os:List Nat} {n:Nat} {ns':List Int} (hp:os.Perm (List.range n)) (h1:ns'.Perm (natI os)) (h2:ns'.Pairwise (·<=·)):ns'=natI (List.range n) :=
 J2z (h1.trans (hp.map _)) h2 (J4a n)
end Rl
namespace Rl
structure Sr where
 fi:Int
 le:Int
 la:Int
 tu:Bool
def fgo (s:Sr):Int:=if s.tu=true then s.la + s.le - 1 else s.la
def lgo (s:Sr):Int:=if s.tu=true then s.la else s.la + s.le - 1
def gtog (a b:Sr):Bool:=decide ((if fgo b - lgo a < 0 then -(fgo b - lgo a) else fgo b - lgo a)=1)
def mk1 (a b:Sr):Sr:=⟨a.fi,a.le + b.le,if b.la < a.la then b.la else a.la,decide (b.la < a.la) && decide (1 < a.le + b.le)⟩
def lstp (acc:List Sr) (s:Sr):List Sr:=match acc.getLast? with
 | some a=>if gtog a s=true then acc.dropLast ++ [mk1 a s] else acc ++ [s]
 | none=>[s]
def lgst (ss:List Sr):List Sr:=ss.foldl lstp []
structure Pc (g:Int->Int) (a:Int) (s:Sr):Prop where
 fi:s.fi=a
 le:1<=s.le
 tu:s.tu=true->1 < s.le
 up:s.tu=false->∀ x,0<=x->x < s.le->g (a + x)=s.la + x
 dn:s.tu=true->∀ x,0<=x->x < s.le->g (a + x)=s.la + s.le - 1 - x
def near (u v:Int):Prop:=u - v=1\/v - u=1
def Rep (g:Int->Int):Int->List Sr->Int->Prop
 | a,[],b=>a=b
 | a,s :: r,b=>Pc g a s/\Rep g (a + s.le) r b
def RepS (g:Int->Int):Int->List Sr->Int->Prop
 | a,[],b=>a=b
 | a,s :: r,b=>Pc g a s/\(r≠[]->¬ near (g (a + s.le)) (g (a + s.le - 1)))/\RepS g (a + s.le) r b
theorem Pc.fgo {g:Int->Int} {a:Int} {s:Sr} (p:Pc g a s):fgo s=g a:=by
 unfold Rl.fgo;have l:=p.le;by_cases t:s.tu=true
 ·rw [if_pos t];have:=p.dn t 0 (by omega) (by omega);rw [show a + 0=a by omega] at this;omega
 ·rw [if_neg t];have:=p.up (by simpa using t) 0 (by omega) (by omega);rw [show a + 0=a by omega] at this;omega
theorem Pc.lgo {g:Int->Int} {a:Int} {s:Sr} (p:Pc g a s):lgo s=g (a + s.le - 1):=by
 unfold Rl.lgo;have l:=p.le;by_cases t:s.tu=true
 ·rw [if_pos t];have:=p.dn t (s.le - 1) (by omega) (by omega);rw [show a + (s.le - 1)=a + s.le - 1 by omega] at this;omega
 ·rw [if_neg t];have:=p.up (by simpa using t) (s.le - 1) (by omega) (by omega);rw [show a + (s.le - 1)=a + s.le - 1 by omega] at this;omega
theorem gtog_iff {g:Int->Int} {a:Int} {p q:Sr} (hp:Pc g a p) (hq:Pc g (a + p.le) q):gtog p q=true↔near (g (a + p.le)) (g (a + p.le - 1)):=by
 unfold gtog near;rw [hq.fgo,hp.lgo,decide_eq_true_iff];generalize g (a + p.le)=u;generalize g (a + p.le - 1)=v;split <;> omega
theorem Pc.merge {g:Int->Int} {a b:Int} {p q:Sr} (inj:∀ x y,a<=x->x < b->a<=y->y < b->g x=g y->x=y) (hp:Pc g a p) (hq:Pc g (a + p.le) q) (hb:a + p.le + q.le<=b)
  (h:near (g (a + p.le)) (g (a + p.le - 1))):Pc g a (mk1 p q):=by
 have l1:=hp.le;have l2:=hq.le;have f1:=hp.lgo;have f2:=hq.fgo;unfold Rl.lgo at f1;unfold Rl.fgo at f2;rcases h with h | h
 ·-- upward
  have pt:p.tu=false:=by
   cases t:p.tu with
   | false=>rfl
   | true =>
    have h1:=hp.tu t;have e:=hp.dn t (p.le - 2) (by omega) (by omega);rw [if_pos t] at f1;have:=inj (a + (p.le - 2)) (a + p.le) (by omega) (by omega) (by omega) (by omega) (by omega);omega
  have qt:q.tu=false:=by
   cases t:q.tu with
   | false=>rfl
   | true =>
    have h1:=hq.tu t;have e:=hq.dn t 1 (by omega) (by omega);rw [if_pos t] at f2;have:=inj (a + p.le + 1) (a + p.le - 1) (by omega) (by omega) (by omega) (by omega) (by omega);omega
  rw [pt,if_neg (by decide)] at f1;rw [qt,if_neg (by decide)] at f2;have ln:¬ q.la < p.la:=by omega
  refine ⟨hp.fi,by show 1<=p.le + q.le;omega,fun t=>by show 1 < p.le + q.le;omega,fun t x h0 h1=>?_,fun t=>?_⟩
  ·have h1:x < p.le + q.le:=h1;show g (a + x)=(if q.la < p.la then q.la else p.la) + x;rw [if_neg ln];rcases Int.lt_or_le x p.le with hx | hx
   ·exact hp.up pt x h0 hx
   ·have:=hq.up qt (x - p.le) (by omega) (by omega);rw [show a + p.le + (x - p.le)=a + x by omega] at this;omega
  ·have t:(decide (q.la < p.la) && decide (1 < p.le + q.le))=true:=t;rw [decide_eq_false ln] at t;cases t
 ·-- downward
  have pd:∀ x,0<=x->x < p.le->g (a + x)=p.la + p.le - 1 - x:=by
   cases t:p.tu with
   | true=>exact hp.dn t
   | false =>
    intro x h0 h1;rw [t,if_neg (by decide)] at f1;rcases Int.lt_or_le 1 p.le with l | l
    ·have e:=hp.up t (p.le - 2) (by omega) (by omega);have:=inj (a + (p.le - 2)) (a + p.le) (by omega) (by omega) (by omega) (by omega) (by omega);omega
    ·have e:=hp.up t x h0 h1;omega
  have qd:∀ x,0<=x->x < q.le->g (a + p.le + x)=q.la + q.le - 1 - x:=by
   cases t:q.tu with
   | true=>exact hq.dn t
   | false =>
    intro x h0 h1;rw [t,if_neg (by decide)] at f2;rcases Int.lt_or_le 1 q.le with l | l
    ·have e:=hq.up t 1 (by omega) (by omega);have:=inj (a + p.le + 1) (a + p.le - 1) (by omega) (by omega) (by omega) (by omega) (by omega);omega
    ·have e:=hq.up t x h0 h1;omega
  have e1:=pd (p.le - 1) (by omega) (by omega);have e2:=qd 0 (by omega) (by omega);rw [show a + (p.le - 1)=a + p.le - 1 by omega] at e1;rw [show a + p.le + 0=a + p.le by omega] at e2;have ln:q.la < p.la:=by omega
  refine ⟨hp.fi,by show 1<=p.le + q.le;omega,fun t=>by show 1 < p.le + q.le;omega,fun t=>?_,fun t x h0 h1=>?_⟩
  ·have t:(decide (q.la < p.la) && decide (1 < p.le + q.le))=false:=t;rw [decide_eq_true ln,decide_eq_true (by omega:1 < p.le + q.le)] at t;cases t
  ·have h1:x < p.le + q.le:=h1;show g (a + x)=(if q.la < p.la then q.la else p.la) + (p.le + q.le) - 1 - x;rw [if_pos ln];rcases Int.lt_or_le x p.le with hx | hx
   ·have:=pd x h0 hx;omega
   ·have:=qd (x - p.le) (by omega) (by omega);rw [show a + p.le + (x - p.le)=a + x by omega] at this;omega
theorem RepS.last {g:Int->Int}:∀ {init:List Sr} {a m:Int} {p:Sr},RepS g a (init ++ [p]) m->∃ k,a<=k/\Pc g k p/\m=k + p.le/\(∀ p',Pc g k p'->RepS g a (init ++ [p']) (k + p'.le))/\
  ∀ q,Pc g m q->¬ near (g m) (g (m - 1))->RepS g a (init ++ [p] ++ [q]) (m + q.le)
 | [],a,m,p,h=>by
  obtain ⟨h1,_,h3⟩:=h;have h3:a + p.le=m:=h3;subst h3;exact ⟨a,Int.le_refl _,h1,rfl,fun p' hp=>⟨hp,fun z=>absurd rfl z,rfl⟩,fun q hq hn=>⟨h1,fun _=>hn,hq,fun z=>absurd rfl z,rfl⟩⟩
 | s :: r,a,m,p,h=>by
  obtain ⟨h1,h2,h3⟩:=h;obtain ⟨k,k1,k2,k3,k4,k5⟩:=RepS.last (init:=r) h3;have:=h1.le;refine ⟨k,by omega,k2,k3,fun p' hp=>⟨h1,fun _=>h2 (by simp),k4 p' hp⟩,fun q hq hn=>⟨h1,fun _=>h2 (by simp),k5 q hq hn⟩⟩
theorem RepS.le {g:Int->Int}:∀ {ss:List Sr} {a b:Int},RepS g a ss b->a<=b
 | [],a,b,h=>Int.le_of_eq h
 | s :: r,a,b,⟨h1,_,h3⟩=>by have:=RepS.le h3;have:=h1.le;omega
theorem sr_split {acc:List Sr} {a:Sr} (e:acc.getLast?=some a):acc=acc.dropLast ++ [a]:=by
 rcases List.eq_nil_or_concat acc with rfl | ⟨l,b,rfl⟩
 ·cases e
 ·rw [List.concat_eq_append] at *;rw [List.getLast?_concat] at e;cases e;rw [List.dropLast_concat]
theorem RepS.step {g:Int->Int} {a m b:Int} {acc:List Sr} {s:Sr} (inj:∀ x y,a<=x->x < b->a<=y->y < b->g x=g y->x=y) (h:RepS g a acc m) (hs:Pc g m s) (hb:m + s.le<=b):RepS g a (lstp acc s) (m + s.le):=by
 unfold lstp
 cases e:acc.getLast? with
 | none =>
  have:acc=[]:=List.getLast?_eq_none_iff.mp e;subst this;have h:a=m:=h;subst h;exact ⟨hs,fun z=>absurd rfl z,rfl⟩
 | some p =>
  have sp:=sr_split e;dsimp only;rw [sp] at h;obtain ⟨k,k1,k2,k3,k4,k5⟩:=h.last;subst k3;by_cases c:gtog p s=true
  ·rw [if_pos c];have M:=Pc.merge (a:=k) (b:=b) (fun x y x0 x1 y0 y1 e=>inj x y (by omega) x1 (by omega) y1 e) k2 hs (by omega) ((gtog_iff k2 hs).mp c);have:=k4 _ M;rw [show k + p.le + s.le=k + (mk1 p s).le by show _=k + (p.le + s.le);omega];exact this
  ·rw [if_neg c];have:=k5 s hs fun n=>c ((gtog_iff k2 hs).mpr n);rw [<- sp] at this;exact this
theorem Rep.le {g:Int->Int}:∀ {ss:List Sr} {a b:Int},Rep g a ss b->a<=b
 | [],a,b,h=>Int.le_of_eq h
 | s :: r,a,b,⟨h1,h3⟩=>by have:=Rep.le h3;have:=h1.le;omega
theorem fold_rep {g:Int->Int} {a b:Int} (inj:∀ x y,a<=x->x < b->a<=y->y < b->g x=g y->x=y):∀ (ss:List Sr) {acc:List Sr} {m:Int},RepS g a acc m->Rep g m ss b->RepS g a (ss.foldl lstp acc) b
 | [],acc,m,h,e=>by
  have e:m=b:=e;subst e;exact h
 | s :: r,acc,m,h,⟨h1,h2⟩=>by
  rw [List.foldl_cons];exact fold_rep inj r (RepS.step inj h h1 h2.le) h2
theorem J4i {g:Int->Int} {a b:Int} {ss:List Sr} (inj:∀ x y,a<=x->x < b->a<=y->y < b->g x=g y->x=y) (h:Rep g a ss b):RepS g a (lgst ss) b:=fold_rep inj ss (acc:=[]) (m:=a) rfl h
theorem Pc.near {g:Int->Int} {a m:Int} {s:Sr} (p:Pc g a s) (h0:a < m) (h1:m < a + s.le):near (g m) (g (m - 1)):=by
 cases t:s.tu with
 | false =>
  have e1:=p.up t (m - a) (by omega) (by omega);have e2:=p.up t (m - 1 - a) (by omega) (by omega);rw [show a + (m - a)=m by omega] at e1;rw [show a + (m - 1 - a)=m - 1 by omega] at e2;left;omega
 | true =>
  have e1:=p.dn t (m - a) (by omega) (by omega);have e2:=p.dn t (m - 1 - a) (by omega) (by omega);rw [show a + (m - a)=m by omega] at e1;rw [show a + (m - 1 - a)=m - 1 by omega] at e2;right;omega
end Rl
namespace Rl
def Jc (ls:List Int) (os:List Nat) (i:Nat):Int:=(sumsF ls os i).2
theorem Jg (ls:List Int) (os:List Nat):Jc ls os 0=0:=rfl
theorem Jj (ls:List Int) (os:List Nat) (i:Nat):Jc ls os (i + 1)=Jc ls os i + ls.getD (os.getD i 0) 0:=rfl
structure Ord (ls:List Int) (os:List Nat):Prop where
 pos:∀ a∈ls,1<=a
 perm:os.Perm (List.range ls.length)
theorem Ord.range {ls:List Int} {os:List Nat} (h:Ord ls os):Ord ls (List.range ls.length):=⟨h.pos,List.Perm.refl _⟩
theorem Ord.len {ls:List Int} {os:List Nat} (h:Ord ls os):os.length=ls.length:=by rw [h.perm.length_eq,length_range]
theorem Ord.nodup {ls:List Int} {os:List Nat} (h:Ord ls os):os.Nodup:=h.perm.nodup_iff.mpr List.nodup_range
theorem J3l {os:List Nat} {i:Nat} (h:i < os.length):os.getD i 0∈os:=by
 rw [getD_eq_getElem?_getD,getElem?_eq_getElem h];exact getElem_mem h
theorem getD_memI {ls:List Int} {i:Nat} (h:i < ls.length):ls.getD i 0∈ls:=by
 rw [getD_eq_getElem?_getD,getElem?_eq_getElem h];exact getElem_mem h
theorem Ord.lt {ls:List Int} {os:List Nat} (h:Ord ls os) {i:Nat} (hi:i < ls.length):os.getD i 0 < ls.length :=
 mem_range.mp (h.perm.mem_iff.mp (J3l (by rw [h.len];exact hi)))
theorem Ord.one {ls:List Int} {os:List Nat} (h:Ord ls os) {j:Nat} (hj:j < ls.length):1<=ls.getD j 0:=h.pos _ (getD_memI hj)
theorem Ord.inj {ls:List Int} {os:List Nat} (h:Ord ls os) {i j:Nat} (hi:i < ls.length) (hj:j < ls.length) (e:os.getD i 0=os.getD j 0):i=j:=by
 rw [getD_eq_getElem?_getD,getD_eq_getElem?_getD,getElem?_eq_getElem (by rw [h.len];exact hi),getElem?_eq_getElem (by rw [h.len];exact hj)] at e;exact (List.getElem_inj h.nodup).mp e
theorem Ord.onto {ls:List Int} {os:List Nat} (h:Ord ls os) {j:Nat} (hj:j < ls.length):∃ i,i < ls.length/\os.getD i 0=j:=by
 obtain ⟨i,hi,e⟩:=List.getElem_of_mem (h.perm.mem_iff.mpr (mem_range.mpr hj));refine ⟨i,by rw [<- h.len];exact hi,?_⟩;rw [getD_eq_getElem?_getD,getElem?_eq_getElem hi];exact e
theorem Ord.step {ls:List Int} {os:List Nat} (h:Ord ls os) {i:Nat} (hi:i < ls.length):Jc ls os i < Jc ls os (i + 1):=by
 have:=h.one (h.lt hi);rw [Jj];lia
theorem Ord.mono {ls:List Int} {os:List Nat} (h:Ord ls os) {i:Nat}:∀ {k:Nat},i<=k->k<=ls.length->Jc ls os i<=Jc ls os k
 | 0,h1,_=>by rw [Nat.le_zero.mp h1];exact Int.le_refl _
 | k + 1,h1,h2=>by
  by_cases e:i=k + 1
  ·rw [e];exact Int.le_refl _
  ·have a:=h.mono (i:=i) (k:=k) (by lia) (by lia);have b:=h.step (i:=k) (by lia);lia
theorem set_get (f:List Int) (p q:Nat) (v:Int) (hp:p < f.length):(f.set p v).getD q 0=if q=p then v else f.getD q 0:=by
 rw [getD_eq_getElem?_getD,getD_eq_getElem?_getD];by_cases e:q=p
 ·subst e;rw [List.getElem?_set_self hp,if_pos rfl];rfl
 ·rw [List.getElem?_set_ne (Ne.symm e),if_neg e]
theorem Ord.at {ls:List Int} {os:List Nat} (h:Ord ls os) {i:Nat}:∀ {k:Nat},i < k->k<=ls.length->(sumsF ls os k).1.getD (os.getD i 0) 0=Jc ls os i
 | 0,h1,_=>absurd h1 (Nat.not_lt_zero _)
 | k + 1,h1,h2=>by
  show ((sumsF ls os k).1.set (os.getD k 0) (sumsF ls os k).2).getD (os.getD i 0) 0=_;rw [set_get _ _ _ _ (by rw [J2c];exact h.lt (by lia))];by_cases e:i=k
  ·subst e;rw [if_pos rfl];rfl
  ·rw [if_neg (fun q=>e (h.inj (by lia) (by lia) q))];exact h.at (by lia) (by lia)
theorem Ord.first {ls:List Int} {os:List Nat} (h:Ord ls os) {i:Nat} (hi:i < ls.length):(firsts ls os).getD (os.getD i 0) 0=Jc ls os i:=by
 unfold firsts;rw [h.len];exact h.at hi (Nat.le_refl _)
theorem J3g (ls:List Int):(List.range ls.length).map (fun j=>ls.getD j 0)=ls:=by
 apply ext_getElem?;intro k;rw [getElem?_map];by_cases hk:k < ls.length
 ·rw [getElem?_range hk,getElem?_eq_getElem hk];show some (ls.getD k 0)=_;rw [getD_eq_getElem?_getD,getElem?_eq_getElem hk];rfl
 ·rw [getElem?_eq_none (by simpa using hk),getElem?_eq_none (by lia)];rfl
theorem J1f (ls:List Int) (os:List Nat):∀ i,i<=os.length->Jc ls os i=((os.take i).map fun j=>ls.getD j 0).sum
 | 0,_=>by simp [Jg]
 | i + 1,h=>by
  rw [Jj,J1f ls os i (by lia),List.take_succ,getElem?_eq_getElem (by lia)];simp only [Option.toList_some,map_append,map_cons,map_nil,List.sum_append,sum_cons,List.sum_nil];rw [getD_eq_getElem?_getD (l:=os),getElem?_eq_getElem (by lia)];simp
theorem perm_sum {xs ys:List Int} (h:xs.Perm ys):xs.sum=ys.sum:=by
 induction h with
 | nil=>rfl
 | cons x _ ih=>rw [sum_cons,sum_cons,ih]
 | swap x y l=>rw [sum_cons,sum_cons,sum_cons,sum_cons];lia
 | trans _ _ a b=>exact a.trans b
theorem Ord.whole {ls:List Int} {os:List Nat} (h:Ord ls os):Jc ls os ls.length=ls.sum:=by
 rw [J1f ls os _ (by rw [h.len];exact Nat.le_refl _),take_of_length_le (by rw [h.len];exact Nat.le_refl _)];have p:(os.map fun j=>ls.getD j 0).Perm ((List.range ls.length).map fun j=>ls.getD j 0):=h.perm.map _;rw [perm_sum p,J3g]
def Lies (fs ls:List Int) (x:Int) (j:Nat):Prop:=j < ls.length/\fs.getD j 0<=x/\x < fs.getD j 0 + ls.getD j 0
theorem J2m {S:Nat->Int} {x:Int}:∀ (k:Nat),S 0<=x->x < S k->∃ i,i < k/\S i<=x/\x < S (i + 1)
 | 0,h0,h1=>by lia
 | k + 1,h0,h1=>by
  by_cases e:x < S k
  ·obtain ⟨i,hi,q⟩:=J2m k h0 e;exact ⟨i,by lia,q⟩
  ·exact ⟨k,by lia,by lia,h1⟩
theorem Ord.lies {ls:List Int} {os:List Nat} (h:Ord ls os) {i:Nat} {x:Int} (hi:i < ls.length) (h1:Jc ls os i<=x) (h2:x < Jc ls os (i + 1)):Lies (firsts ls os) ls x (os.getD i 0):=by
 refine ⟨h.lt hi,?_,?_⟩
 ·rw [h.first hi];exact h1
 ·rw [h.first hi];rw [Jj] at h2;exact h2
theorem Ord.lies_of {ls:List Int} {os:List Nat} (h:Ord ls os) {j:Nat} {x:Int} (q:Lies (firsts ls os) ls x j):∃ i,i < ls.length/\os.getD i 0=j/\Jc ls os i<=x/\x < Jc ls os (i + 1):=by
 obtain ⟨hj,q1,q2⟩:=q;obtain ⟨i,hi,e⟩:=h.onto hj;subst e;rw [h.first hi] at q1 q2;exact ⟨i,hi,rfl,q1,by rw [Jj];exact q2⟩
theorem Ord.exists {ls:List Int} {os:List Nat} (h:Ord ls os) {x:Int} (h0:0<=x) (h1:x < ls.sum):∃ j,Lies (firsts ls os) ls x j:=by
 obtain ⟨i,hi,a,b⟩:=J2m (S:=Jc ls os) ls.length (by rw [Jg];exact h0) (by rw [h.whole];exact h1);exact ⟨_,h.lies hi a b⟩
theorem Ord.unique {ls:List Int} {os:List Nat} (h:Ord ls os) {x:Int} {j k:Nat} (a:Lies (firsts ls os) ls x j) (b:Lies (firsts ls os) ls x k):j=k:=by
 obtain ⟨i,hi,rfl,a1,a2⟩:=h.lies_of a;obtain ⟨i',hi',rfl,b1,b2⟩:=h.lies_of b;have:i=i':=by
  by_cases e:i < i'
  ·have:=h.mono (i:=i + 1) (k:=i') e (by lia);lia
  ·by_cases e':i' < i
   ·have:=h.mono (i:=i' + 1) (k:=i) e' (by lia);lia
   ·lia
 rw [this]
theorem Ord.inside {ls:List Int} {os:List Nat} (h:Ord ls os) {x:Int} {j:Nat} (a:Lies (firsts ls os) ls x j):0<=x/\x < ls.sum:=by
 obtain ⟨i,hi,rfl,a1,a2⟩:=h.lies_of a;have b1:=h.mono (i:=0) (k:=i) (Nat.zero_le _) (by lia);have b2:=h.mono (i:=i + 1) (k:=ls.length) (by lia) (Nat.le_refl _);rw [h.whole] at b2;rw [Jg] at b1;lia
def moveN (ls:List Int) (ts:List Bool) (j:Nat) (off:Int) (fs:List Int):Int:=if ts.getD j false=true then fs.getD j 0 + ls.getD j 0 - 1 - off else fs.getD j 0 + off
theorem J2e {ls fs gs:List Int} {ts:List Bool} {x:Int} {j:Nat} (q:Lies fs ls x j):Lies gs ls (moveN ls ts j (x - fs.getD j 0) gs) j/\moveN ls ts j (moveN ls ts j (x - fs.getD j 0) gs - gs.getD j 0) fs=x:=by
 obtain ⟨h0,h1,h2⟩:=q;unfold Lies moveN;split <;> refine ⟨⟨h0,?_,?_⟩,?_⟩ <;> lia
end Rl
namespace Rl
end Rl
namespace Rl
theorem J1n {n k:Nat} (h:k < n):(List.range n).getD k 0=k:=by
 rw [getD_eq_getElem?_getD,getElem?_range h];rfl
end Rl
namespace Rl
def srO (ls:List Int) (os:List Nat) (ts:List Bool) (i:Nat):Sr:=⟨(firsts ls (List.range ls.length)).getD i 0,ls.getD i 0,(firsts ls os).getD i 0,ts.getD i false && decide (1 < ls.getD i 0)⟩
def srsL (ls:List Int) (os:List Nat) (ts:List Bool):List Sr:=(List.range ls.length).map (srO ls os ts)
noncomputable def gL (ls:List Int) (os:List Nat) (ts:List Bool) (x:Int):Int:=by
 classical exact if h:∃ j,Lies (firsts ls (List.range ls.length)) ls x j then moveN ls ts h.choose (x - (firsts ls (List.range ls.length)).getD h.choose 0) (firsts ls os) else 0
theorem gL_eq {ls:List Int} {os:List Nat} {ts:List Bool} (O:Ord ls os) {x:Int} {j:Nat} (q:Lies (firsts ls (List.range ls.length)) ls x j):gL ls os ts x=moveN ls ts j (x - (firsts ls (List.range ls.length)).getD j 0) (firsts ls os):=by
 unfold gL;have h:∃ j,Lies (firsts ls (List.range ls.length)) ls x j:=⟨j,q⟩;rw [dif_pos h,O.range.unique h.choose_spec q]
theorem gL_lies {ls:List Int} {os:List Nat} {ts:List Bool} (O:Ord ls os) {x:Int} {j:Nat} (q:Lies (firsts ls (List.range ls.length)) ls x j):Lies (firsts ls os) ls (gL ls os ts x) j:=by
 rw [gL_eq O q];exact (J2e q).1
theorem gL_inj {ls:List Int} {os:List Nat} {ts:List Bool} (O:Ord ls os) {x y:Int} (x0:0<=x) (x1:x < ls.sum) (y0:0<=y) (y1:y < ls.sum) (e:gL ls os ts x=gL ls os ts y):x=y:=by
 obtain ⟨j,hj⟩:=O.range.exists x0 x1;obtain ⟨k,hk⟩:=O.range.exists y0 y1;have a:=gL_lies (ts:=ts) O hj;have b:=gL_lies (ts:=ts) O hk;rw [e] at a;have jk:=O.unique a b;subst jk;rw [gL_eq O hj,gL_eq O hk] at e;obtain ⟨_,_,_⟩:=hj;unfold moveN at e;split at e <;> omega
theorem gL_in {ls:List Int} {os:List Nat} {ts:List Bool} (O:Ord ls os) {x:Int} (x0:0<=x) (x1:x < ls.sum):0<=gL ls os ts x/\gL ls os ts x < ls.sum:=by
 obtain ⟨j,hj⟩:=O.range.exists x0 x1;exact O.inside (gL_lies O hj)
theorem J16 {ls:List Int} {os:List Nat} (O:Ord ls os) {k:Nat} (h:k < ls.length):(firsts ls (List.range ls.length)).getD k 0=Jc ls (List.range ls.length) k:=by
 have:=O.range.first h;rwa [J1n h] at this
theorem sr_pc {ls:List Int} {os:List Nat} {ts:List Bool} (O:Ord ls os) {k:Nat} (h:k < ls.length):Pc (gL ls os ts) (Jc ls (List.range ls.length) k) (srO ls os ts k):=by
 have fr:=J16 O h;have one:=O.one h;have at_:∀ x,0<=x->x < ls.getD k 0->gL ls os ts (Jc ls (List.range ls.length) k + x)=if ts.getD k false=true then (firsts ls os).getD k 0 + ls.getD k 0 - 1 - x else (firsts ls os).getD k 0 + x:=fun x h0 h1=>by
  rw [gL_eq O (j:=k) ⟨h,by omega,by omega⟩];unfold moveN;rw [fr,show Jc ls (List.range ls.length) k + x - Jc ls (List.range ls.length) k=x by omega]
 refine ⟨fr,one,fun t=>?_,fun t x h0 h1=>?_,fun t x h0 h1=>?_⟩
 ·have t:(ts.getD k false && decide (1 < ls.getD k 0))=true:=t;rw [Bool.and_eq_true] at t;exact of_decide_eq_true t.2
 ·have h1:x < ls.getD k 0:=h1;have t:(ts.getD k false && decide (1 < ls.getD k 0))=false:=t;rw [at_ x h0 h1];show _=(firsts ls os).getD k 0 + x;by_cases c:ts.getD k false=true
  ·rw [c,Bool.true_and] at t;have:=of_decide_eq_false t;rw [if_pos c];omega
  ·rw [if_neg c]
 ·have h1:x < ls.getD k 0:=h1;have t:(ts.getD k false && decide (1 < ls.getD k 0))=true:=t;rw [Bool.and_eq_true] at t;rw [at_ x h0 h1,if_pos t.1];rfl
theorem srs_from {ls:List Int} {os:List Nat} {ts:List Bool} (O:Ord ls os):∀ (d k:Nat),k + d=ls.length->Rep (gL ls os ts) (Jc ls (List.range ls.length) k) (((List.range ls.length).drop k).map (srO ls os ts)) ls.sum
 | 0,k,e=>by
  have e:k=ls.length:=by omega
  subst e;rw [List.drop_of_length_le (by simp)];exact O.range.whole
 | d + 1,k,e=>by
  have hk:k < ls.length:=by omega
  rw [List.drop_eq_getElem_cons (by simpa using hk),getElem_range,map_cons];refine ⟨sr_pc O hk,?_⟩;have:=srs_from (ts:=ts) O d (k + 1) (by omega);rw [Jj,J1n hk] at this;exact this
theorem srs_rep {ls:List Int} {os:List Nat} {ts:List Bool} (O:Ord ls os):Rep (gL ls os ts) 0 (srsL ls os ts) ls.sum:=srs_from O ls.length 0 (by omega)
theorem lgst_line {ls:List Int} {os:List Nat} {ts:List Bool} (O:Ord ls os):RepS (gL ls os ts) 0 (lgst (srsL ls os ts)) ls.sum :=
 J4i (fun x y x0 x1 y0 y1 e=>gL_inj O x0 x1 y0 y1 e) (srs_rep O)
theorem Pc.val {g h:Int->Int} {a:Int} {s:Sr} (p:Pc g a s) (q:Pc h a s) {x:Int} (x0:a<=x) (x1:x < a + s.le):g x=h x:=by
 cases t:s.tu with
 | false =>
  have e1:=p.up t (x - a) (by omega) (by omega);have e2:=q.up t (x - a) (by omega) (by omega);rw [show a + (x - a)=x by omega] at e1 e2;omega
 | true =>
  have e1:=p.dn t (x - a) (by omega) (by omega);have e2:=q.dn t (x - a) (by omega) (by omega);rw [show a + (x - a)=x by omega] at e1 e2;omega
end Rl
namespace Rl
theorem RepS.at {g:Int->Int}:∀ {L:List Sr} {a b:Int},RepS g a L b->∀ (i:Nat) (s:Sr),L[i]?=some s->Pc g s.fi s/\a<=s.fi/\s.fi + s.le<=b
 | [],_,_,_,i,s,e=>by simp at e
 | t :: r,a,b,⟨h1,h2,h3⟩,0,s,e=>by
  have e:some t=some s:=e;cases e;have:=h3.le;have f:=h1.fi;rw [f];exact ⟨h1,Int.le_refl _,this⟩
 | t :: r,a,b,⟨h1,h2,h3⟩,i + 1,s,e=>by
  obtain ⟨p1,p2,p3⟩:=RepS.at h3 i s e;have:=h1.le;exact ⟨p1,by omega,p3⟩
theorem RepS.next {g:Int->Int}:∀ {L:List Sr} {a b:Int},RepS g a L b->∀ (i:Nat) (s t:Sr),L[i]?=some s->L[i + 1]?=some t->t.fi=s.fi + s.le
 | [],_,_,_,i,s,t,e,_=>by simp at e
 | u :: r,a,b,⟨h1,h2,h3⟩,0,s,t,e,e2=>by
  have e:some u=some s:=e;cases e
  cases r with
  | nil=>simp at e2
  | cons v r' =>
   have e2:some v=some t:=e2;cases e2;rw [h3.1.fi,h1.fi]
 | u :: r,a,b,⟨h1,h2,h3⟩,i + 1,s,t,e,e2=>RepS.next h3 i s t e e2
theorem RepS.before {g:Int->Int}:∀ {L:List Sr} {a b:Int},RepS g a L b->∀ (i j:Nat) (s t:Sr),i < j->L[i]?=some s->L[j]?=some t->s.fi + s.le<=t.fi
 | [],_,_,_,i,j,s,t,_,e,_=>by simp at e
 | u :: r,a,b,⟨h1,h2,h3⟩,0,j + 1,s,t,_,e,e2=>by
  have e:some u=some s:=e;cases e;obtain ⟨_,p2,_⟩:=RepS.at h3 j t e2;have:=h1.fi;omega
 | u :: r,a,b,⟨h1,h2,h3⟩,i + 1,j + 1,s,t,h,e,e2=>RepS.before h3 i j s t (by omega) e e2
theorem RepS.tot {g:Int->Int}:∀ {L:List Sr} {a b:Int},RepS g a L b->a + (L.map Sr.le).sum=b
 | [],a,b,e=>by
  have e:a=b:=e;simp [e]
 | s :: r,a,b,⟨_,_,h3⟩=>by
  have:=RepS.tot h3;rw [map_cons,sum_cons];omega
theorem Pc.hit {g:Int->Int} {a v:Int} {s:Sr} (p:Pc g a s) (v0:s.la<=v) (v1:v < s.la + s.le):∃ x,a<=x/\x < a + s.le/\g x=v:=by
 cases t:s.tu with
 | false=>exact ⟨a + (v - s.la),by omega,by omega,by rw [p.up t _ (by omega) (by omega)];omega⟩
 | true=>exact ⟨a + (s.la + s.le - 1 - v),by omega,by omega,by rw [p.dn t _ (by omega) (by omega)];omega⟩
theorem Pc.low {g:Int->Int} {a:Int} {s:Sr} (p:Pc g a s):∃ x,a<=x/\x < a + s.le/\g x=s.la:=p.hit (Int.le_refl _) (by have:=p.le;omega)
theorem Pc.high {g:Int->Int} {a:Int} {s:Sr} (p:Pc g a s):∃ x,a<=x/\x < a + s.le/\g x=s.la + s.le - 1:=p.hit (by have:=p.le;omega) (by omega)
def s0:Sr:=⟨0,0,0,false⟩
section
variable {g:Int->Int} {L:List Sr} {N:Int} {os:List Nat}
theorem getL {i:Nat} (h:i < L.length):L[i]?=some (L.getD i s0):=by rw [getD_eq_getElem?_getD,getElem?_eq_getElem h];rfl
theorem leD {i:Nat} (h:i < L.length):(L.map Sr.le).getD i 0=(L.getD i s0).le:=by
 rw [getD_eq_getElem?_getD,getElem?_map,getL h];rfl
theorem laD {i:Nat} (h:i < L.length):(L.map Sr.la).getD i 0=(L.getD i s0).la:=by
 rw [getD_eq_getElem?_getD,getElem?_map,getL h];rfl
theorem tuD {i:Nat} (h:i < L.length):(L.map Sr.tu).getD i false=(L.getD i s0).tu:=by
 rw [getD_eq_getElem?_getD,getElem?_map,getL h];rfl
theorem RepS.ord (R:RepS g 0 L N) (p:os.Perm (List.range L.length)):Ord (L.map Sr.le) os :=
 ⟨fun a ha=>by
  obtain ⟨s,hs,rfl⟩:=mem_map.mp ha;obtain ⟨i,hi,e⟩:=List.getElem_of_mem hs;exact (R.at i s (by rw [getElem?_eq_getElem hi,e])).1.le,by rw [length_map];exact p⟩
theorem RepS.apart (R:RepS g 0 L N) (inj:∀ x y,0<=x->x < N->0<=y->y < N->g x=g y->x=y) {i j:Nat} (hi:i < L.length) (hj:j < L.length) (ne:i≠j) (h:(L.getD i s0).la<=(L.getD j s0).la):(L.getD i s0).la + (L.getD i s0).le<=(L.getD j s0).la:=by
 obtain ⟨p1,p2,p3⟩:=R.at i _ (getL hi);obtain ⟨q1,q2,q3⟩:=R.at j _ (getL hj);rcases Int.lt_or_le (L.getD j s0).la ((L.getD i s0).la + (L.getD i s0).le) with c | c
 ·obtain ⟨x,x0,x1,ex⟩:=p1.hit h c;obtain ⟨y,y0,y1,ey⟩:=q1.low;have:=inj x y (by omega) (by omega) (by omega) (by omega) (by omega);subst this;rcases Nat.lt_or_gt_of_ne ne with l | l
  ·have:=R.before i j _ _ l (getL hi) (getL hj);omega
  ·have:=R.before j i _ _ l (getL hj) (getL hi);omega
 ·exact c
theorem RepS.laid (R:RepS g 0 L N) (inj:∀ x y,0<=x->x < N->0<=y->y < N->g x=g y->x=y) (inn:∀ x,0<=x->x < N->0<=g x/\g x < N) (p:os.Perm (List.range L.length))
  (srt:os.Pairwise (fun i j=>(L.map Sr.la).getD i 0<=(L.map Sr.la).getD j 0)):∀ k,k < L.length->(L.getD (os.getD k 0) s0).la=Jc (L.map Sr.le) os k:=by
 have O:=R.ord p;have lm:(L.map Sr.le).length=L.length:=length_map ..;have ol:os.length=L.length:=by rw [p.length_eq,length_range]
 have lt:∀ k,k < L.length->os.getD k 0 < L.length:=fun k h=>by have:=O.lt (i:=k) (by omega);omega
 have nxt:∀ k,Jc (L.map Sr.le) os (k + 1)=Jc (L.map Sr.le) os k + (L.map Sr.le).getD (os.getD k 0) 0:=fun k=>Jj _ _ k;have step:∀ k,k + 1 < L.length->(L.getD (os.getD k 0) s0).la + (L.getD (os.getD k 0) s0).le<=(L.getD (os.getD (k + 1) 0) s0).la:=fun k h=>by
  refine R.apart inj (lt k (by omega)) (lt (k + 1) h) (fun e=>?_) ?_
  ·have:=O.inj (i:=k) (j:=k + 1) (by omega) (by omega) e;omega
  ·have:=(List.pairwise_iff_getElem.mp srt) k (k + 1) (by omega) (by omega) (by omega);rw [<- laD (lt k (by omega)),<- laD (lt (k + 1) h)];rw [getD_eq_getElem?_getD (l:=os),getElem?_eq_getElem (by omega:k < os.length),getD_eq_getElem?_getD (l:=os),getElem?_eq_getElem (by omega:k + 1 < os.length)];exact this
 have lowB:∀ k,k < L.length->Jc (L.map Sr.le) os k<=(L.getD (os.getD k 0) s0).la:=by
  intro k
  induction k with
  | zero =>
   intro h;obtain ⟨p1,p2,p3⟩:=R.at _ _ (getL (lt 0 h));obtain ⟨x,x0,x1,ex⟩:=p1.low;have:=inn x (by omega) (by omega);rw [Jg];omega
  | succ k ih =>
   intro h;have h1:=ih (by omega);have h2:=step k h;rw [nxt,leD (lt k (by omega))];omega
 have tot:Jc (L.map Sr.le) os L.length=N:=by
  have h:=O.whole;rw [lm] at h;have:=R.tot;omega
 have upB:∀ d k,k + d + 1=L.length->(L.getD (os.getD k 0) s0).la + (L.getD (os.getD k 0) s0).le<=Jc (L.map Sr.le) os (k + 1):=by
  intro d
  induction d with
  | zero =>
   intro k h;obtain ⟨p1,p2,p3⟩:=R.at _ _ (getL (lt k (by omega)));obtain ⟨x,x0,x1,ex⟩:=p1.high;have:=inn x (by omega) (by omega);rw [show k + 1=L.length by omega,tot];omega
  | succ d ih =>
   intro k h;have h1:=ih (k + 1) (by omega);have h2:=step k (by omega);have h3:=nxt (k + 1);rw [leD (lt (k + 1) (by omega))] at h3;omega
 intro k h;have h1:=lowB k h;have h2:=upB (L.length - 1 - k) k (by omega);rw [nxt,leD (lt k h)] at h2;omega
theorem RepS.fis (R:RepS g 0 L N):∀ k,k < L.length->(L.getD k s0).fi=Jc (L.map Sr.le) (List.range L.length) k
 | 0,h=>by
  rw [Jg]
  cases L with
  | nil=>simp at h
  | cons s r=>exact R.1.fi
 | k + 1,h=>by
  have h1:=RepS.fis R k (by omega);have h2:=R.next k _ _ (getL (by omega)) (getL h);rw [h2,h1,Jj,J1n (by omega:k < L.length),leD (by omega)]
theorem RepS.own (R:RepS g 0 L N) (inj:∀ x y,0<=x->x < N->0<=y->y < N->g x=g y->x=y) (inn:∀ x,0<=x->x < N->0<=g x/\g x < N) (p:os.Perm (List.range L.length))
  (srt:os.Pairwise (fun i j=>(L.map Sr.la).getD i 0<=(L.map Sr.la).getD j 0)):srsL (L.map Sr.le) os (L.map Sr.tu)=L:=by
 have O:=R.ord p;have lm:(L.map Sr.le).length=L.length:=length_map ..;apply ext_getElem?;intro i;unfold srsL;rw [lm,getElem?_map];by_cases h:i < L.length
 ·rw [getElem?_range h,getL h];refine congrArg some ?_;obtain ⟨k,hk,ek⟩:=O.onto (j:=i) (by omega);have e1:=R.laid inj inn p srt k (by omega);rw [ek] at e1;have e2:=O.first (i:=k) hk;rw [ek] at e2;have e3:=R.fis i h;have e4:=J16 O (k:=i) (by omega);rw [lm] at e4;have P:=(R.at i _ (getL h)).1;unfold srO;rw [lm,e4,<- e3,leD h,e2,<- e1,tuD h];generalize L.getD i s0=s at *;have t:(s.tu && decide (1 < s.le))=s.tu:=by
   cases q:s.tu with
   | false=>rfl
   | true=>rw [decide_eq_true (P.tu q)];rfl
  rw [t]
 ·rw [getElem?_eq_none (by simpa using h),getElem?_eq_none (by simpa using h)];rfl
end
theorem RepS.rep {g:Int->Int}:∀ {L:List Sr} {a b:Int},RepS g a L b->Rep g a L b
 | [],_,_,h=>h
 | s :: r,_,_,⟨h1,_,h3⟩=>⟨h1,RepS.rep h3⟩
theorem Rep.val {g h:Int->Int}:∀ {ss:List Sr} {a b c:Int},Rep g a ss b->Rep h a ss c->b=c/\∀ x,a<=x->x < b->g x=h x
 | [],a,b,c,e1,e2=>by
  have e1:a=b:=e1;have e2:a=c:=e2;exact ⟨by omega,fun x x0 x1=>by omega⟩
 | s :: r,a,b,c,⟨h1,h3⟩,⟨k1,k3⟩=>by
  obtain ⟨e,v⟩:=Rep.val h3 k3;refine ⟨e,fun x x0 x1=>?_⟩;rcases Int.lt_or_le x (a + s.le) with c | c
  ·exact h1.val k1 x0 c
  ·exact v x c x1
end Rl
namespace Rl
structure PlO (L:List Sr) (os:List Nat):Prop where
 perm:os.Perm (List.range L.length)
 srt:os.Pairwise (fun i j=>(L.map Sr.la).getD i 0<=(L.map Sr.la).getD j 0)
end Rl
namespace Rl
end Rl
namespace Rl
theorem Rep.all {g:Int->Int}:∀ {L:List Sr} {a b:Int},Rep g a L b->∀ s∈L,Pc g s.fi s/\a<=s.fi/\s.fi + s.le<=b
 | [],_,_,_,s,h=>by cases h
 | t :: r,a,b,⟨h1,h2⟩,s,h=>by
  have e:=h1.fi;have l:=h1.le;have lb:=h2.le;rcases mem_cons.mp h with rfl | h
  ·rw [e];exact ⟨h1,Int.le_refl _,lb⟩
  ·obtain ⟨k1,k2,k3⟩:=Rep.all h2 s h;exact ⟨k1,by omega,k3⟩
theorem Rep.pair {g:Int->Int}:∀ {L:List Sr} {a b:Int},Rep g a L b->L.Pairwise (fun s t=>s.fi + s.le<=t.fi)
 | [],_,_,_=>.nil
 | t :: r,a,b,⟨h1,h2⟩=>.cons (fun s hs=>by have:=(h2.all s hs).2.1;have:=h1.fi;omega) (Rep.pair h2)
theorem Rep.cover {g:Int->Int}:∀ {L:List Sr} {a b:Int},Rep g a L b->∀ x,a<=x->x < b->∃ s∈L,s.fi<=x/\x < s.fi + s.le
 | [],a,b,h,x,x0,x1=>by have h:a=b:=h;omega
 | t :: r,a,b,⟨h1,h2⟩,x,x0,x1=>by
  have e:=h1.fi;by_cases c:x < a + t.le
  ·exact ⟨t,mem_cons_self ..,by omega,by omega⟩
  ·obtain ⟨s,hs,k⟩:=Rep.cover h2 x (by omega) x1;exact ⟨s,mem_cons_of_mem _ hs,k⟩
theorem J3o {f:Int->Int}:∀ (L:List Sr) (a N:Int),(∀ s∈L,Pc f s.fi s)->(∀ s∈L,a<=s.fi/\s.fi + s.le<=N)->L.Pairwise (fun s t=>s.fi<=t.fi)->L.Pairwise (fun s t=>s.fi + s.le<=t.fi\/t.fi + t.le<=s.fi)->
  (∀ x,a<=x->x < N->∃ s∈L,s.fi<=x/\x < s.fi + s.le)->a<=N->Rep f a L N
 | [],a,N,_,_,_,_,cv,h=>by
  show a=N;rcases Int.lt_or_le a N with c | c
  ·obtain ⟨s,hs,_⟩:=cv a (Int.le_refl _) c;cases hs
  ·omega
 | s :: r,a,N,hp,hb,hs,hd,cv,h=>by
  obtain ⟨s1,s2⟩:=pairwise_cons.mp hs;obtain ⟨d1,d2⟩:=pairwise_cons.mp hd;have hs0:=hp s (mem_cons_self ..);have l:=hs0.le;obtain ⟨b1,b2⟩:=hb s (mem_cons_self ..);have e:s.fi=a:=by
   obtain ⟨t,ht,t1,t2⟩:=cv a (Int.le_refl _) (by omega);rcases mem_cons.mp ht with rfl | ht
   ·omega
   ·have:=s1 t ht;have:=(hb t (mem_cons_of_mem _ ht)).1;omega
  refine ⟨e ▸ hs0,?_⟩;refine J3o r (a + s.le) N (fun t ht=>hp t (mem_cons_of_mem _ ht)) (fun t ht=>?_) s2 d2 (fun x x0 x1=>?_) (by omega)
  ·obtain ⟨c1,c2⟩:=hb t (mem_cons_of_mem _ ht);have:=(hp t (mem_cons_of_mem _ ht)).le;have:=s1 t ht;rcases d1 t ht with z | z
   ·exact ⟨by omega,c2⟩
   ·exact ⟨by omega,c2⟩
  ·obtain ⟨t,ht,t1,t2⟩:=cv x (by omega) x1;rcases mem_cons.mp ht with rfl | ht
   ·omega
   ·exact ⟨t,ht,t1,t2⟩
def jb (o t:Sr):Int:=if t.fi > o.la then t.fi else o.la
def je (o t:Sr):Int:=if t.fi + t.le < o.la + o.le then t.fi + t.le else o.la + o.le
def jpart (o t:Sr):Sr:=⟨o.fi + (if o.tu=true then o.la + o.le - je o t else jb o t - o.la),je o t - jb o t,t.la + (if t.tu=true then t.fi + t.le - je o t else jb o t - t.fi),(o.tu != t.tu) && decide (1 < je o t - jb o t)⟩
def part1 (o t:Sr):List Sr:=if je o t<=jb o t then [] else [jpart o t]
theorem j_bds (o t:Sr):o.la<=jb o t/\t.fi<=jb o t/\je o t<=o.la + o.le/\je o t<=t.fi + t.le:=by
 unfold jb je;refine ⟨?_,?_,?_,?_⟩ <;> split <;> omega
theorem j_in {o t:Sr} {v:Int} (h1:o.la<=v) (h2:v < o.la + o.le) (h3:t.fi<=v) (h4:v < t.fi + t.le):jb o t<=v/\v < je o t:=by
 unfold jb je;refine ⟨?_,?_⟩ <;> split <;> omega
theorem Pc.image {g:Int->Int} {a x:Int} {s:Sr} (p:Pc g a s) (x0:a<=x) (x1:x < a + s.le):s.la<=g x/\g x < s.la + s.le:=by
 cases t:s.tu with
 | true =>
  have:=p.dn t (x - a) (by omega) (by omega);rw [show a + (x - a)=x by omega] at this;omega
 | false =>
  have:=p.up t (x - a) (by omega) (by omega);rw [show a + (x - a)=x by omega] at this;omega
theorem J2l {g h:Int->Int} {o t:Sr} (po:Pc g o.fi o) (pt:Pc h t.fi t) (hb:jb o t < je o t) :
  Pc (fun x=>h (g x)) (jpart o t).fi (jpart o t)/\o.fi<=(jpart o t).fi/\(jpart o t).fi + (jpart o t).le<=o.fi + o.le/\∀ x,(jpart o t).fi<=x->x < (jpart o t).fi + (jpart o t).le->jb o t<=g x/\g x < je o t:=by
 obtain ⟨b1,b2,b3,b4⟩:=j_bds o t;unfold jpart;dsimp only;generalize jb o t=b at *;generalize je o t=e at *;have go:∀ x,0<=x->x < e - b->g (o.fi + (if o.tu=true then o.la + o.le - e else b - o.la) + x)=if o.tu=true then e - 1 - x else b + x:=fun x x0 x1=>by
  cases tu:o.tu with
  | true =>
   rw [if_pos rfl,if_pos rfl];have:=po.dn tu (o.la + o.le - e + x) (by omega) (by omega);rw [show o.fi + (o.la + o.le - e) + x=o.fi + (o.la + o.le - e + x) by omega,this];omega
  | false =>
   rw [if_neg (by decide),if_neg (by decide)];have:=po.up tu (b - o.la + x) (by omega) (by omega);rw [show o.fi + (b - o.la) + x=o.fi + (b - o.la + x) by omega,this];omega
 have ht:∀ v,b<=v->v < e->h v=if t.tu=true then t.la + t.le - 1 - (v - t.fi) else t.la + (v - t.fi):=fun v v0 v1=>by
  cases tu:t.tu with
  | true =>
   rw [if_pos rfl];have:=pt.dn tu (v - t.fi) (by omega) (by omega);rw [show t.fi + (v - t.fi)=v by omega] at this;exact this
  | false =>
   rw [if_neg (by decide)];have:=pt.up tu (v - t.fi) (by omega) (by omega);rw [show t.fi + (v - t.fi)=v by omega] at this;exact this
 have val:∀ x,0<=x->x < e - b->h (g (o.fi + (if o.tu=true then o.la + o.le - e else b - o.la) + x))=if (o.tu != t.tu)=true then t.la + (if t.tu=true then t.fi + t.le - e else b - t.fi) + (e - b) - 1 - x else t.la + (if t.tu=true then t.fi + t.le - e else b - t.fi) + x:=fun x x0 x1=>by
  rw [go x x0 x1,ht _ (by split <;> omega) (by split <;> omega)];cases o.tu <;> cases t.tu <;> simp <;> omega
 refine ⟨⟨rfl,by show 1<=e - b;omega,fun z=>?_,fun z x x0 x1=>?_,fun z x x0 x1=>?_⟩,?_,?_,fun x x0 x1=>?_⟩
 ·have z:((o.tu != t.tu) && decide (1 < e - b))=true:=z;rw [Bool.and_eq_true,decide_eq_true_iff] at z;exact z.2
 ·have z:((o.tu != t.tu) && decide (1 < e - b))=false:=z;have x1:x < e - b:=x1;show h (g (o.fi + _ + x))=_;rw [val x x0 x1];by_cases c:(o.tu != t.tu)=true
  ·rw [if_pos c];rw [c,Bool.true_and,decide_eq_false_iff_not] at z;show _=t.la + (if t.tu=true then t.fi + t.le - e else b - t.fi) + x;omega
  ·rw [if_neg c]
 ·have z:((o.tu != t.tu) && decide (1 < e - b))=true:=z;rw [Bool.and_eq_true] at z;have x1:x < e - b:=x1;show h (g (o.fi + _ + x))=_;rw [val x x0 x1,if_pos z.1]
 ·show o.fi<=o.fi + (if o.tu=true then o.la + o.le - e else b - o.la);split <;> omega
 ·show o.fi + (if o.tu=true then o.la + o.le - e else b - o.la) + (e - b)<=o.fi + o.le;split <;> omega
 ·have x0:o.fi + (if o.tu=true then o.la + o.le - e else b - o.la)<=x:=x0;have x1:x < o.fi + (if o.tu=true then o.la + o.le - e else b - o.la) + (e - b):=x1;have:=go (x - (o.fi + (if o.tu=true then o.la + o.le - e else b - o.la))) (by omega) (by omega);rw [show o.fi + (if o.tu=true then o.la + o.le - e else b - o.la) + (x - (o.fi + (if o.tu=true then o.la + o.le - e else b - o.la)))=x by omega] at this;rw [this];by_cases tu:o.tu=true
  ·rw [if_pos tu] at x0 x1;rw [if_pos tu,if_pos tu];omega
  ·rw [if_neg tu] at x0 x1;rw [if_neg tu,if_neg tu];omega
theorem jpart_has {g h:Int->Int} {o t:Sr} (po:Pc g o.fi o) {x:Int} (x0:o.fi<=x) (x1:x < o.fi + o.le) (h3:t.fi<=g x) (h4:g x < t.fi + t.le):jb o t < je o t/\(jpart o t).fi<=x/\x < (jpart o t).fi + (jpart o t).le:=by
 obtain ⟨i1,i2⟩:=po.image x0 x1;obtain ⟨v1,v2⟩:=j_in i1 i2 h3 h4;obtain ⟨b1,b2,b3,b4⟩:=j_bds o t;unfold jpart;dsimp only;generalize jb o t=b at *;generalize je o t=e at *;have:g x=if o.tu=true then o.la + o.le - 1 - (x - o.fi) else o.la + (x - o.fi):=by
  cases tu:o.tu with
  | true =>
   rw [if_pos rfl];have:=po.dn tu (x - o.fi) (by omega) (by omega);rwa [show o.fi + (x - o.fi)=x by omega] at this
  | false =>
   rw [if_neg (by decide)];have:=po.up tu (x - o.fi) (by omega) (by omega);rwa [show o.fi + (x - o.fi)=x by omega] at this
 rw [this] at v1 v2;by_cases tu:o.tu=true
 ·rw [if_pos tu] at v1 v2;rw [if_pos tu];exact ⟨by omega,by omega,by omega⟩
 ·rw [if_neg tu] at v1 v2;rw [if_neg tu];exact ⟨by omega,by omega,by omega⟩
def jn (os ts:List Sr):List Sr:=os.flatMap fun o=>ts.flatMap (part1 o)
theorem mem_part {o t s:Sr}:s∈part1 o t↔jb o t < je o t/\s=jpart o t:=by
 unfold part1;split
 ·constructor
  ·intro h;cases h
  ·rintro ⟨h,_⟩;omega
 ·rw [mem_singleton];exact ⟨fun h=>⟨by omega,h⟩,fun h=>h.2⟩
theorem mem_jn {os ts:List Sr} {s:Sr}:s∈jn os ts↔∃ o∈os,∃ t∈ts,jb o t < je o t/\s=jpart o t:=by
 unfold jn;simp only [List.mem_flatMap,mem_part]
theorem jn_rep {g h:Int->Int} {N:Int} {os ts L:List Sr} (ho:Rep g 0 os N) (ht:Rep h 0 ts N) (inn:∀ x,0<=x->x < N->0<=g x/\g x < N) (h0:0<=N) (p:L.Perm (jn os ts)) (srt:L.Pairwise (fun s t=>s.fi<=t.fi)):Rep (fun x=>h (g x)) 0 L N:=by
 have fact:∀ s∈jn os ts,∃ o∈os,∃ t∈ts,s=jpart o t/\Pc (fun x=>h (g x)) s.fi s/\o.fi<=s.fi/\s.fi + s.le<=o.fi + o.le/\∀ x,s.fi<=x->x < s.fi + s.le->t.fi<=g x/\g x < t.fi + t.le:=fun s hs=>by
  obtain ⟨o,ho',t,ht',hb,rfl⟩:=mem_jn.mp hs;obtain ⟨k1,k2,k3,k4⟩:=J2l (ho.all o ho').1 (ht.all t ht').1 hb;obtain ⟨b1,b2,b3,b4⟩:=j_bds o t;exact ⟨o,ho',t,ht',rfl,k1,k2,k3,fun x x0 x1=>by have:=k4 x x0 x1;omega⟩
 have dis:(jn os ts).Pairwise (fun s t=>s.fi + s.le<=t.fi\/t.fi + t.le<=s.fi):=by
  unfold jn;rw [List.pairwise_flatMap];refine ⟨fun o ho'=>?_,?_⟩
  ·rw [List.pairwise_flatMap];refine ⟨fun t ht'=>?_,?_⟩
   ·unfold part1;split
    ·exact .nil
    ·exact List.pairwise_singleton _ _
   ·refine ht.pair.imp_of_mem fun {t1 t2} m1 m2 hlt s hs u hu=>?_;obtain ⟨hb1,rfl⟩:=mem_part.mp hs;obtain ⟨hb2,rfl⟩:=mem_part.mp hu;obtain ⟨k1,k2,k3,k4⟩:=J2l (ho.all o ho').1 (ht.all t1 m1).1 hb1;obtain ⟨q1,q2,q3,q4⟩:=J2l (ho.all o ho').1 (ht.all t2 m2).1 hb2;obtain ⟨_,_,_,c4⟩:=j_bds o t1;obtain ⟨_,c2,_,_⟩:=j_bds o t2;have l1:=k1.le;have l2:=q1.le;rcases Int.lt_or_le (jpart o t1).fi (jpart o t2).fi with c | c
    ·rcases Int.lt_or_le (jpart o t2).fi ((jpart o t1).fi + (jpart o t1).le) with d | d
     ·have a1:=k4 (jpart o t2).fi (by omega) d;have a2:=q4 (jpart o t2).fi (Int.le_refl _) (by omega);omega
     ·exact .inl d
    ·rcases Int.lt_or_le (jpart o t1).fi ((jpart o t2).fi + (jpart o t2).le) with d | d
     ·have a1:=k4 (jpart o t1).fi (Int.le_refl _) (by omega);have a2:=q4 (jpart o t1).fi c d;omega
     ·exact .inr d
  ·refine ho.pair.imp_of_mem fun {o1 o2} m1 m2 hlt s hs u hu=>?_;obtain ⟨t1,n1,hs⟩:=List.mem_flatMap.mp hs;obtain ⟨t2,n2,hu⟩:=List.mem_flatMap.mp hu;obtain ⟨hb1,rfl⟩:=mem_part.mp hs;obtain ⟨hb2,rfl⟩:=mem_part.mp hu;obtain ⟨k1,k2,k3,k4⟩:=J2l (ho.all o1 m1).1 (ht.all t1 n1).1 hb1;obtain ⟨q1,q2,q3,q4⟩:=J2l (ho.all o2 m2).1 (ht.all t2 n2).1 hb2;left;omega
 refine J3o L 0 N (fun s hs=>?_) (fun s hs=>?_) srt ?_ (fun x x0 x1=>?_) h0
 ·obtain ⟨o,_,t,_,_,k,_⟩:=fact s (p.mem_iff.mp hs);exact k
 ·obtain ⟨o,ho',t,_,_,k,k2,k3,_⟩:=fact s (p.mem_iff.mp hs);have:=(ho.all o ho').2;omega
 ·exact (p.pairwise_iff (fun {a b} h=>h.symm)).mpr dis
 ·obtain ⟨o,ho',o1,o2⟩:=ho.cover x x0 x1;obtain ⟨i1,i2⟩:=inn x x0 x1;obtain ⟨t,ht',t1,t2⟩:=ht.cover (g x) i1 i2;obtain ⟨c1,c2,c3⟩:=jpart_has (h:=h) (ho.all o ho').1 o1 o2 t1 t2;exact ⟨jpart o t,p.mem_iff.mpr (mem_jn.mpr ⟨o,ho',t,ht',c1,rfl⟩),c2,c3⟩
theorem ind_le {α:Type} (p:α->Prop) [DecidablePred p]:∀ (L:List α),L.Pairwise (fun a b=>¬ (p a/\p b))->(L.map fun a=>if p a then 1 else 0).sum<=1
 | [],_=>by simp
 | a :: r,h=>by
  obtain ⟨h1,h2⟩:=pairwise_cons.mp h;rw [map_cons,sum_cons];by_cases c:p a
  ·have:(r.map fun a=>if p a then 1 else 0).sum=0:=by
    have:(r.map fun a=>if p a then 1 else 0)=r.map fun _=>0:=List.map_congr_left fun b hb=>if_neg fun z=>h1 b hb ⟨c,z⟩;rw [this];clear this h h1 h2
    induction r with
    | nil=>rfl
    | cons b r ih=>rw [map_cons,sum_cons,ih]
   rw [if_pos c,this];omega
  ·have:=ind_le p r h2;rw [if_neg c];omega
theorem sum_add {α:Type} (f g:α->Nat):∀ L:List α,(L.map fun a=>f a + g a).sum=(L.map f).sum + (L.map g).sum
 | []=>rfl
 | a :: r=>by simp only [map_cons,sum_cons,sum_add f g r];omega
theorem sum_swap {α β:Type} (f:α->β->Nat) (ys:List β):∀ xs:List α,(xs.map fun a=>(ys.map fun b=>f a b).sum).sum=(ys.map fun b=>(xs.map fun a=>f a b).sum).sum
 | []=>by
  have:∀ ys:List β,(ys.map fun _=>([]:List Nat).sum).sum=0:=fun ys=>by
   induction ys with
   | nil=>rfl
   | cons b r ih=>rw [map_cons,sum_cons,ih];rfl
  exact (this ys).symm
 | a :: r=>by
  rw [map_cons,sum_cons,sum_swap f ys r,<- sum_add]
  congr 1
theorem J21 {α:Type} {f g:α->Nat}:∀ {L:List α},(∀ a∈L,f a<=g a)->(L.map f).sum<=(L.map g).sum
 | [],_=>Nat.le_refl _
 | a :: r,h=>by
  rw [map_cons,sum_cons,map_cons,sum_cons];have:=h a (mem_cons_self ..);have:=J21 (L:=r) fun b hb=>h b (mem_cons_of_mem _ hb);omega
theorem J40 {α:Type}:∀ L:List α,(L.map fun _=>1).sum=L.length
 | []=>rfl
 | a :: r=>by rw [map_cons,sum_cons,J40 r,length_cons];omega
end Rl
namespace Rl
structure Bij (N:Int) (g k:Int->Int):Prop where
 inn:∀ x,0<=x->x < N->0<=g x/\g x < N
 ink:∀ x,0<=x->x < N->0<=k x/\k x < N
 kg:∀ x,0<=x->x < N->k (g x)=x
 gk:∀ x,0<=x->x < N->g (k x)=x
theorem Bij.inj {N:Int} {g k:Int->Int} (b:Bij N g k):∀ x y,0<=x->x < N->0<=y->y < N->g x=g y->x=y:=fun x y x0 x1 y0 y1 e=>by
 rw [<- b.kg x x0 x1,<- b.kg y y0 y1,e]
theorem Bij.symm {N:Int} {g k:Int->Int} (b:Bij N g k):Bij N k g:=⟨b.ink,b.inn,b.gk,b.kg⟩
theorem Bij.comp {N : Int} {g k h l : Int -> Int} (a : Bij N g k) (b : Bij N h l) : Bij N (fun x => h (g x)) (fun x => k (l x)) :=
  ⟨fun x x0 x1 => let ⟨i, j⟩ := a.inn x x0 x1; b.inn _ i j, fun x x0 x1 => let ⟨i, j⟩ := b.ink x x0 x1; a.ink _ i j,
   fun x x0 x1 => by obtain ⟨i, j⟩ := a.inn x x0 x1; show k (l (h (g x))) = x; rw [b.kg _ i j, a.kg x x0 x1],
   fun x x0 x1 => by obtain ⟨i, j⟩ := b.ink x x0 x1; show h (g (k (l x))) = x; rw [a.gk _ i j, b.gk x x0 x1]⟩
theorem Bij.id (N:Int):Bij N (fun x=>x) (fun x=>x):=⟨fun _ a b=>⟨a,b⟩,fun _ a b=>⟨a,b⟩,fun _ _ _=>rfl,fun _ _ _=>rfl⟩
noncomputable def kL (ls:List Int) (os:List Nat) (ts:List Bool) (y:Int):Int:=by
 classical exact if h:∃ x,(0<=x/\x < ls.sum)/\gL ls os ts x=y then h.choose else 0
theorem gL_sur {ls:List Int} {os:List Nat} {ts:List Bool} (O:Ord ls os) {y:Int} (y0:0<=y) (y1:y < ls.sum):∃ x,(0<=x/\x < ls.sum)/\gL ls os ts x=y:=by
 obtain ⟨j,q⟩:=O.exists y0 y1;have m:=J2e (gs:=firsts ls (List.range ls.length)) (ts:=ts) q;obtain ⟨m1,m2⟩:=m;have i:=O.range.inside m1;refine ⟨_,i,?_⟩;rw [gL_eq O m1];exact m2
theorem J1t {ls:List Int} {os:List Nat} {ts:List Bool} (O:Ord ls os):Bij ls.sum (gL ls os ts) (kL ls os ts):=by
 have sp:∀ y,0<=y->y < ls.sum->(0<=kL ls os ts y/\kL ls os ts y < ls.sum)/\gL ls os ts (kL ls os ts y)=y:=fun y y0 y1=>by
  have h:=gL_sur (ts:=ts) O y0 y1;unfold kL;rw [dif_pos h];exact h.choose_spec
 refine ⟨fun x x0 x1=>gL_in O x0 x1,fun y y0 y1=>(sp y y0 y1).1,fun x x0 x1=>?_,fun y y0 y1=>(sp y y0 y1).2⟩;obtain ⟨i,j⟩:=gL_in (ts:=ts) O x0 x1;obtain ⟨⟨a,b⟩,c⟩:=sp _ i j;exact gL_inj O a b x0 x1 c
structure PlG (g:Int->Int) (N:Int) (ls:List Int) (os:List Nat) (ts:List Bool):Prop where
 ex:∃ L,RepS g 0 L N/\ls=L.map Sr.le/\ts=L.map Sr.tu/\PlO L os
theorem PlG.ord {g:Int->Int} {N:Int} {ls:List Int} {os:List Nat} {ts:List Bool} (h:PlG g N ls os ts):Ord ls os:=by
 obtain ⟨L,R,rfl,rfl,P⟩:=h.ex;exact R.ord P.perm
theorem PlG.len {g:Int->Int} {N:Int} {ls:List Int} {os:List Nat} {ts:List Bool} (h:PlG g N ls os ts):ts.length=ls.length:=by
 obtain ⟨L,R,rfl,rfl,P⟩:=h.ex;rw [length_map,length_map]
theorem PlG.sum {g:Int->Int} {N:Int} {ls:List Int} {os:List Nat} {ts:List Bool} (h:PlG g N ls os ts):ls.sum=N:=by
 obtain ⟨L,R,rfl,rfl,P⟩:=h.ex;have:=R.tot;omega
theorem PlG.goes {g k:Int->Int} {N:Int} {ls:List Int} {os:List Nat} {ts:List Bool} (h:PlG g N ls os ts) (b:Bij N g k):∀ x,0<=x->x < N->gL ls os ts x=g x:=by
 have O:=h.ord;obtain ⟨L,R,rfl,rfl,P⟩:=h.ex;have h1:=srs_rep (ts:=L.map Sr.tu) O;rw [R.own b.inj b.inn P.perm P.srt] at h1;exact fun x x0 x1=>((R.rep.val h1).2 x x0 x1).symm
def bk1 (s:Sr):Sr:=⟨s.la,s.le,s.fi,s.tu && decide (1 < s.le)⟩
theorem bk1_pc {g k:Int->Int} {N:Int} {s:Sr} (b:Bij N g k) (p:Pc g s.fi s) (h0:0<=s.fi) (h1:s.fi + s.le<=N):Pc k s.la (bk1 s):=by
 have tu:(s.tu && decide (1 < s.le))=s.tu:=by
  cases e:s.tu with
  | true=>simp [p.tu e]
  | false=>rfl
 refine ⟨rfl,p.le,fun z=>?_,fun z x x0 x1=>?_,fun z x x0 x1=>?_⟩
 ·have z:(s.tu && decide (1 < s.le))=true:=z;exact p.tu (tu ▸ z)
 ·have z:(s.tu && decide (1 < s.le))=false:=z;have x1:x < s.le:=x1;show k (s.la + x)=s.fi + x;rw [<- p.up (tu ▸ z) x x0 x1];exact b.kg _ (by omega) (by omega)
 ·have z:(s.tu && decide (1 < s.le))=true:=z;have x1:x < s.le:=x1;show k (s.la + x)=s.fi + s.le - 1 - x;have:=p.dn (tu ▸ z) (s.le - 1 - x) (by omega) (by omega);rw [show s.la + x=g (s.fi + (s.le - 1 - x)) by rw [this];omega,b.kg _ (by omega) (by omega)];omega
theorem bk_rep {g k:Int->Int} {N:Int} {ss L:List Sr} (b:Bij N g k) (h:Rep g 0 ss N) (h0:0<=N) (p:L.Perm (ss.map bk1)) (srt:L.Pairwise (fun s t=>s.fi<=t.fi)):Rep k 0 L N:=by
 have mem:∀ s∈L,∃ t∈ss,s=bk1 t:=fun s hs=>by
  obtain ⟨t,ht,e⟩:=mem_map.mp (p.mem_iff.mp hs);exact ⟨t,ht,e.symm⟩
 refine J3o L 0 N (fun s hs=>?_) (fun s hs=>?_) srt ?_ (fun y y0 y1=>?_) h0
 ·obtain ⟨t,ht,rfl⟩:=mem s hs;obtain ⟨q,q1,q2⟩:=h.all t ht;exact bk1_pc b q q1 q2
 ·obtain ⟨t,ht,rfl⟩:=mem s hs;obtain ⟨q,q1,q2⟩:=h.all t ht;have l:=q.le;obtain ⟨x,x0,x1,e⟩:=q.low;obtain ⟨z,z0,z1,e'⟩:=q.high;have i1:=b.inn x (by omega) (by omega);have i2:=b.inn z (by omega) (by omega);show 0<=t.la/\t.la + t.le<=N;omega
 ·refine (p.pairwise_iff (fun {a b} h=>h.symm)).mpr ?_;rw [pairwise_map];refine h.pair.imp_of_mem fun {s t} m1 m2 hlt=>?_;obtain ⟨p1,p2,p3⟩:=h.all s m1;obtain ⟨q1,q2,q3⟩:=h.all t m2;show s.la + s.le<=t.la\/t.la + t.le<=s.la;rcases Int.lt_or_le t.la (s.la + s.le) with c | c
  ·rcases Int.lt_or_le s.la (t.la + t.le) with d | d
   ·exfalso;have l1:=p1.le;have l2:=q1.le;obtain ⟨v,v1,v2,v3,v4⟩:∃ v,s.la<=v/\v < s.la + s.le/\t.la<=v/\v < t.la + t.le:=by
     rcases Int.le_total s.la t.la with e | e
     ·exact ⟨t.la,e,c,Int.le_refl _,by omega⟩
     ·exact ⟨s.la,Int.le_refl _,by omega,e,d⟩
    obtain ⟨x,x0,x1,ex⟩:=p1.hit v1 v2;obtain ⟨y,y0,y1,ey⟩:=q1.hit v3 v4;have:=b.inj x y (by omega) (by omega) (by omega) (by omega) (by rw [ex,ey]);omega
   ·exact .inr d
  ·exact .inl c
 ·obtain ⟨k0,k1⟩:=b.ink y y0 y1;obtain ⟨s,hs,s0,s1⟩:=h.cover _ k0 k1;obtain ⟨q,q1,q2⟩:=h.all s hs;have:=q.image s0 s1;rw [b.gk y y0 y1] at this;exact ⟨bk1 s,p.mem_iff.mpr (List.mem_map_of_mem hs),this⟩
def itF (f:Int->Int):Nat->Int->Int
 | 0,x=>x
 | n + 1,x=>f (itF f n x)
theorem J33 {N:Int} {g k:Int->Int} (b:Bij N g k):∀ n,∃ k',Bij N (itF g n) k'
 | 0=>⟨_,Bij.id N⟩
 | n + 1=>by
  obtain ⟨k',h⟩:=J33 b n;exact ⟨_,h.comp b⟩
theorem one_rep {N:Int} (h:1<=N):RepS (fun x=>x) 0 [⟨0,N,0,false⟩] N :=
 ⟨⟨rfl,h,(fun z=>by cases z),(fun _ x _ _=>rfl),(fun z=>by cases z)⟩,fun z=>absurd rfl z,by show (0:Int) + N=N;omega⟩
theorem jn_repS {g h k l:Int->Int} {N:Int} {os ts L:List Sr} (bg:Bij N g k) (bh:Bij N h l) (ho:Rep g 0 os N) (ht:Rep h 0 ts N) (h0:0<=N) (p:L.Perm (jn os ts)) (srt:L.Pairwise (fun s t=>s.fi<=t.fi)):RepS (fun x=>h (g x)) 0 (lgst L) N :=
 J4i (bg.comp bh).inj (jn_rep ho ht bg.inn h0 p srt)
end Rl
namespace Rl
def bndS (S:List Sr):List Int:=(S.drop 1).map Sr.fi
theorem RepS.fis_gt {g:Int->Int}:∀ {S:List Sr} {a b:Int},RepS g a S b->∀ m∈S.map Sr.fi,a<=m/\m < b
 | [],_,_,_,m,h=>by cases h
 | s :: r,a,b,⟨h1,h2,h3⟩,m,h=>by
  have l:=h1.le;have e:=h1.fi;have lb:=h3.le;rw [map_cons] at h;rcases mem_cons.mp h with rfl | h
  ·exact ⟨by omega,by omega⟩
  ·have:=RepS.fis_gt h3 m h;exact ⟨by omega,this.2⟩
theorem RepS.cuts {g:Int->Int}:∀ {S:List Sr} {a b:Int},RepS g a S b->∀ m,a < m->m < b->(m∈bndS S↔¬ near (g m) (g (m - 1)))
 | [],a,b,h,m,m0,m1=>by have h:a=b:=h;omega
 | s :: r,a,b,⟨h1,h2,h3⟩,m,m0,m1=>by
  have l:=h1.le;show m∈r.map Sr.fi↔_;rcases Int.lt_trichotomy m (a + s.le) with c | c | c
  ·have n:=h1.near m0 c;exact ⟨fun h=>by have:=(h3.fis_gt m h).1;omega,fun h=>absurd n h⟩
  ·subst c
   cases r with
   | nil=>have h3:a + s.le=b:=h3;omega
   | cons t r' =>
    have e:=h3.1.fi;refine ⟨fun _=>h2 (by simp),fun _=>?_⟩;rw [map_cons,e];exact mem_cons_self ..
  ·have ih:=RepS.cuts h3 m c m1
   cases r with
   | nil=>have h3:a + s.le=b:=h3;omega
   | cons t r' =>
    have e:=h3.1.fi;rw [<- ih];show m∈t.fi :: r'.map Sr.fi↔m∈r'.map Sr.fi;rw [mem_cons];exact ⟨fun h=>h.resolve_left (by omega),.inr⟩
theorem RepS.bnd_in {g:Int->Int} {S:List Sr} {b:Int} (R:RepS g 0 S b):∀ m∈bndS S,0 < m/\m < b:=by
 cases S with
 | nil=>intro m h;cases h
 | cons s r =>
  obtain ⟨h1,h2,h3⟩:=R;intro m h;have:=h3.fis_gt m h;have:=h1.le;omega
theorem RepS.bnd_nodup {g:Int->Int}:∀ {S:List Sr} {a b:Int},RepS g a S b->(S.map Sr.fi).Nodup
 | [],_,_,_=>List.nodup_nil
 | s :: r,a,b,⟨h1,h2,h3⟩=>by
  rw [map_cons,nodup_cons];refine ⟨fun h=>?_,RepS.bnd_nodup h3⟩;have:=(h3.fis_gt _ h).1;have:=h1.le;have:=h1.fi;omega
theorem RepS.count {g:Int->Int} {S:List Sr} {N:Int} {D:List Int} (R:RepS g 0 S N) (nd:D.Nodup) (h:∀ x,x∈D↔(0 < x/\x < N)/\¬ near (g x) (g (x - 1))):D.length=S.length - 1:=by
 have n2:(bndS S).Nodup:=by
  have:=R.bnd_nodup;unfold bndS;rw [List.map_drop];exact this.sublist (List.drop_sublist _ _)
 have p:D.Perm (bndS S):=(List.perm_ext_iff_of_nodup nd n2).mpr fun x=>by
  rw [h x];constructor
  ·rintro ⟨⟨x0,x1⟩,n⟩;exact (R.cuts x x0 x1).mpr n
  ·intro m;obtain ⟨x0,x1⟩:=R.bnd_in x m;exact ⟨⟨x0,x1⟩,(R.cuts x x0 x1).mp m⟩
 rw [p.length_eq];unfold bndS;simp
theorem line_near {ls:List Int} {os:List Nat} {ts:List Bool} (O:Ord ls os) {m:Int} (m0:0 < m) (m1:m < ls.sum):(∃ j,1<=j/\j < ls.length/\m=Jc ls (List.range ls.length) j)\/near (gL ls os ts m) (gL ls os ts (m - 1)):=by
 obtain ⟨j,q⟩:=O.range.exists (Int.le_of_lt m0) m1;have hj:=q.1;have fj:=J16 O hj;by_cases c:m=(firsts ls (List.range ls.length)).getD j 0
 ·left;refine ⟨j,?_,hj,by rw [c,fj]⟩;rcases Nat.eq_zero_or_pos j with z | z
  ·subst z;rw [c,fj,Jg] at m0;omega
  ·exact z
 ·right;have q2:Lies (firsts ls (List.range ls.length)) ls (m - 1) j:=⟨hj,by have:=q.2.1;omega,by have:=q.2.2;omega⟩;rw [gL_eq O q,gL_eq O q2];unfold moveN near;split <;> omega
theorem start_in {ls:List Int} {os:List Nat} (O:Ord ls os) {j:Nat} (h1:1<=j) (hj:j < ls.length):0 < Jc ls (List.range ls.length) j/\Jc ls (List.range ls.length) j < ls.sum:=by
 have m1:=O.range.mono (i:=1) (k:=j) h1 (by omega);have s0:Jc ls (List.range ls.length) 0 < Jc ls (List.range ls.length) 1:=O.range.step (i:=0) (by omega);have s1:=O.range.step (i:=j) hj;have m2:=O.range.mono (i:=j + 1) (k:=ls.length) (by omega) (by omega);rw [O.range.whole] at m2;rw [Jg] at s0;omega
end Rl
namespace Rl
theorem jn_few {g h:Int->Int} {N:Int} {os ts:List Sr} (ho:Rep g 0 os N) (ht:Rep h 0 ts N) (inj:∀ x y,0<=x->x < N->0<=y->y < N->g x=g y->x=y) (inn:∀ x,0<=x->x < N->0<=g x/\g x < N) (ne:ts≠[]):(jn os ts).length + 1<=os.length + ts.length:=by
 have e:(jn os ts).length=(os.map fun o=>(ts.map fun t=>(part1 o t).length).sum).sum:=by
  unfold jn;rw [List.length_flatMap]
  congr 1
  refine List.map_congr_left fun o _=>?_;rw [List.length_flatMap]
 have b:∀ o t:Sr,(part1 o t).length<=(if t.fi<=o.la/\o.la < t.fi + t.le then 1 else 0) + (if o.la < t.fi/\t.fi < o.la + o.le then 1 else 0):=fun o t=>by
  unfold part1;split
  ·simp
  ·rename_i c;show 1<=_;have c:jb o t < je o t:=by omega
   unfold jb je at c;by_cases d:t.fi > o.la
   ·rw [if_pos d] at c;have:o.la < t.fi/\t.fi < o.la + o.le:=⟨d,by split at c <;> omega⟩;rw [if_pos this];omega
   ·rw [if_neg d] at c;have:t.fi<=o.la/\o.la < t.fi + t.le:=⟨by omega,by split at c <;> omega⟩;rw [if_pos this];omega
 rw [e];have h1:(os.map fun o=>(ts.map fun t=>(part1 o t).length).sum).sum<=(os.map fun o=>(ts.map fun t=>if t.fi<=o.la/\o.la < t.fi + t.le then 1 else 0).sum + (ts.map fun t=>if o.la < t.fi/\t.fi < o.la + o.le then 1 else 0).sum).sum :=
  J21 fun o _=>by rw [<- sum_add];exact J21 fun t _=>b o t
 rw [sum_add] at h1;have h2:(os.map fun o=>(ts.map fun t=>if t.fi<=o.la/\o.la < t.fi + t.le then 1 else 0).sum).sum<=os.length:=by
  rw [<- J40 os];refine J21 fun o _=>ind_le (fun t=>t.fi<=o.la/\o.la < t.fi + t.le) ts (ht.pair.imp fun {t1 t2} hlt z=>?_);omega
 have one:∀ t:Sr,(os.map fun o=>if o.la < t.fi/\t.fi < o.la + o.le then 1 else 0).sum<=1:=fun t=>by
  refine ind_le (fun o=>o.la < t.fi/\t.fi < o.la + o.le) os (ho.pair.imp_of_mem fun {o1 o2} m1 m2 hlt z=>?_);obtain ⟨p1,p2,p3⟩:=ho.all o1 m1;obtain ⟨q1,q2,q3⟩:=ho.all o2 m2;obtain ⟨x,x0,x1,ex⟩:=p1.hit (v:=t.fi) (by omega) (by omega);obtain ⟨y,y0,y1,ey⟩:=q1.hit (v:=t.fi) (by omega) (by omega);have:=inj x y (by omega) (by omega) (by omega) (by omega) (by rw [ex,ey]);omega
 have h3:(os.map fun o=>(ts.map fun t=>if o.la < t.fi/\t.fi < o.la + o.le then 1 else 0).sum).sum + 1<=ts.length:=by
  rw [sum_swap]
  cases ts with
  | nil=>exact absurd rfl ne
  | cons t0 r =>
   rw [map_cons,sum_cons,length_cons];have z0:(os.map fun o=>if o.la < t0.fi/\t0.fi < o.la + o.le then 1 else 0).sum<=(os.map fun _=>0).sum:=J21 fun o m=>by
    obtain ⟨p1,p2,p3⟩:=ho.all o m;have l:=p1.le;obtain ⟨x,x0,x1,ex⟩:=p1.hit (v:=o.la) (by omega) (by omega);have:=(inn x (by omega) (by omega)).1;have f0:=ht.1.fi;rw [if_neg (by omega)];exact Nat.le_refl _
   have zz:∀ L:List Sr,(L.map fun _=>0).sum=0:=fun L=>by
    induction L with
    | nil=>rfl
    | cons b r ih=>rw [map_cons,sum_cons,ih]
   rw [zz] at z0;have z1:(r.map fun t=>(os.map fun o=>if o.la < t.fi/\t.fi < o.la + o.le then 1 else 0).sum).sum<=(r.map fun _=>1).sum:=J21 fun t _=>one t;rw [J40] at z1;omega
 omega
end Rl
namespace Rl
theorem map_getDN {ls:List Int} {os:List Nat} {i:Nat} (h:i < os.length):(os.map fun j=>ls.getD j 0).getD i 0=ls.getD (os.getD i 0) 0:=by
 rw [getD_eq_getElem?_getD,getElem?_map,getD_eq_getElem?_getD (l:=os),getElem?_eq_getElem h];rfl
theorem lay_ahead (ls:List Int) (os:List Nat):∀ i,i<=os.length->Jc (os.map fun j=>ls.getD j 0) (List.range (os.map fun j=>ls.getD j 0).length) i=Jc ls os i
 | 0,_=>rfl
 | i + 1,h=>by
  have hi:i < (os.map fun j=>ls.getD j 0).length:=by rw [length_map];omega
  rw [Jj,Jj,lay_ahead ls os i (by omega),J1n hi,map_getDN (by omega)]
theorem back_near {ls:List Int} {os:List Nat} {ts:List Bool} (O:Ord ls os) {m:Int} (m0:0 < m) (m1:m < ls.sum):(∃ j,1<=j/\j < (os.map fun j=>ls.getD j 0).length/\m=Jc (os.map fun j=>ls.getD j 0) (List.range (os.map fun j=>ls.getD j 0).length) j)\/near (kL ls os ts m) (kL ls os ts (m - 1)):=by
 obtain ⟨j,q⟩:=O.exists (Int.le_of_lt m0) m1;have hj:=q.1;have ol:=O.len;by_cases c:m=(firsts ls os).getD j 0
 ·left;have hm:j∈os:=O.perm.mem_iff.mpr (mem_range.mpr hj);obtain ⟨i,hi,e⟩:=List.getElem_of_mem hm;have e':os.getD i 0=j:=by rw [getD_eq_getElem?_getD,getElem?_eq_getElem hi];exact e
  have f:=O.first (i:=i) (by omega);rw [e',<- c] at f;refine ⟨i,?_,by rw [length_map];exact hi,by rw [lay_ahead ls os i (by omega)];exact f⟩;rcases Nat.eq_zero_or_pos i with z | z
  ·subst z;rw [f,Jg] at m0;omega
  ·exact z
 ·right;have q2:Lies (firsts ls os) ls (m - 1) j:=⟨hj,by have:=q.2.1;omega,by have:=q.2.2;omega⟩;have b:=J1t (ts:=ts) O;have key:∀ {x:Int},Lies (firsts ls os) ls x j->kL ls os ts x=moveN ls ts j (x - (firsts ls os).getD j 0) (firsts ls (List.range ls.length)):=fun {x} q=>by
   obtain ⟨a1,a2⟩:=J2e (gs:=firsts ls (List.range ls.length)) (ts:=ts) q;have i:=O.range.inside a1;have e:gL ls os ts (moveN ls ts j (x - (firsts ls os).getD j 0) (firsts ls (List.range ls.length)))=x:=by rw [gL_eq O a1];exact a2
   have k:=b.kg _ i.1 i.2;rw [e] at k;exact k
  rw [key q,key q2];unfold moveN near;split <;> omega
theorem itF_comm (f:Int->Int):∀ n x,itF f n (f x)=f (itF f n x)
 | 0,_=>rfl
 | n + 1,x=>by show f (itF f n (f x))=f (f (itF f n x));rw [itF_comm f n x]
theorem J4l {N:Int} {f k:Int->Int} (b:Bij N f k):∀ n x,0<=x->x < N->itF k n (itF f n x)=x
 | 0,_,_,_=>rfl
 | n + 1,x,x0,x1=>by
  have i:=b.inn x x0 x1;show k (itF k n (f (itF f n x)))=x;rw [<- itF_comm f n x,J4l b n _ i.1 i.2];exact b.kg x x0 x1
theorem itF_inn {N:Int} {f k:Int->Int} (b:Bij N f k) (n:Nat) {x:Int} (x0:0<=x) (x1:x < N):0<=itF f n x/\itF f n x < N:=by
 obtain ⟨k',b'⟩:=J33 b n;exact b'.inn x x0 x1
theorem itF_inj {N:Int} {f k:Int->Int} (b:Bij N f k) (n:Nat) {x y:Int} (x0:0<=x) (x1:x < N) (y0:0<=y) (y1:y < N) (e:itF f n x=itF f n y):x=y:=by
 obtain ⟨k',b'⟩:=J33 b n;exact b'.inj x y x0 x1 y0 y1 e
theorem it_cuts {N:Int} {f k:Int->Int} {zs:List Int} (b:Bij N f k) (hz:∀ m,0 < m->m < N->¬ near (f m) (f (m - 1))->m∈zs):∀ (n:Nat) (c:Int),0 < c->c < N->¬ near (itF f n c) (itF f n (c - 1))->
  ∃ s∈zs,∃ i,i < n/\near (itF k i (s - 1)) (itF k i s)/\c=max (itF k i (s - 1)) (itF k i s)
 | 0,c,c0,c1,h=>absurd (Or.inl (by show c - (c - 1)=1;omega)) h
 | n + 1,c,c0,c1,h=>by
  by_cases g:near (itF f n c) (itF f n (c - 1))
  ·have a1:=J4l b n c (by omega) c1;have a2:=J4l b n (c - 1) (by omega) (by omega);have i1:=itF_inn b n (x:=c) (by omega) c1;have i2:=itF_inn b n (x:=c - 1) (by omega) (by omega);have h':¬ near (f (itF f n c)) (f (itF f n (c - 1))):=h;generalize itF f n c=u at *;generalize itF f n (c - 1)=v at *;rcases g with g | g
   ·have e:v=u - 1:=by omega
    subst e;refine ⟨u,hz u (by omega) (by omega) h',n,Nat.lt_succ_self _,?_,?_⟩
    ·rw [a1,a2];unfold near;omega
    ·rw [a1,a2];omega
   ·have e:u=v - 1:=by omega
    subst e;refine ⟨v,hz v (by omega) (by omega) (fun z=>h' (by unfold near at *;omega)),n,Nat.lt_succ_self _,?_,?_⟩
    ·rw [a1,a2];unfold near;omega
    ·rw [a1,a2];omega
  ·obtain ⟨s,hs,i,hi,r⟩:=it_cuts b hz n c c0 c1 g;exact ⟨s,hs,i,Nat.lt_succ_of_lt hi,r⟩
theorem ahead_all {ls:List Int} {m:Int} (h:∃ j,1<=j/\j < ls.length/\m=Jc ls (List.range ls.length) j):m∈(List.range (ls.length - 1)).map fun j=>Jc ls (List.range ls.length) (j + 1):=by
 obtain ⟨j,j1,j2,e⟩:=h;exact mem_map.mpr ⟨j - 1,mem_range.mpr (by omega),by rw [show j - 1 + 1=j by omega];exact e.symm⟩
theorem RepS.few {g:Int->Int} {S:List Sr} {N:Int} {cs:List Int} (R:RepS g 0 S N) (nd:cs.Nodup) (hin:∀ c∈cs,0 < c/\c < N) (all:∀ c,0 < c->c < N->¬ near (g c) (g (c - 1))->c∈cs) (P:Int->Bool) (hp:∀ c∈cs,P c=true↔¬ near (g c) (g (c - 1))):(cs.filter P).length=S.length - 1:=by
 refine R.count (nd.filter _) fun x=>?_;rw [List.mem_filter];constructor
 ·rintro ⟨h1,h2⟩;exact ⟨hin x h1,(hp x h1).mp h2⟩
 ·rintro ⟨⟨h1,h2⟩,h3⟩;have m:=all x h1 h2 h3;exact ⟨m,(hp x m).mpr h3⟩
end Rl
namespace Rl
def blkL (ls:List Int) (os:List Nat):List Int:=[ls.sum] ++ ls ++ [ls.sum] ++ os.map fun j=>ls.getD j 0
def blkO (os:List Nat):List Nat:=((List.range os.length).map fun j=>os.length + 2 + os.idxOf j) ++ [0] ++ (os.map fun j=>j + 1) ++ [os.length + 1]
def blkT (ts:List Bool) (os:List Nat):List Bool:=[false] ++ ts ++ [false] ++ os.map fun j=>ts.getD j false
theorem idx_at {os:List Nat} (nd:os.Nodup) {i:Nat} (h:i < os.length):os.idxOf os[i]=i:=by
 have h1:os.idxOf os[i] < os.length:=List.idxOf_lt_length_of_mem (getElem_mem h);have h2:os[os.idxOf os[i]]=os[i]:=List.getElem_idxOf h1;exact (List.getElem_inj nd).mp h2
theorem blk_perm {os:List Nat} (h:os.Perm (List.range os.length)):(blkO os).Perm (List.range (2 * os.length + 2)):=by
 have nd:os.Nodup:=h.nodup_iff.mpr List.nodup_range;obtain ⟨n,en⟩:∃ n,n=os.length:=⟨_,rfl⟩;have e1:(os.map fun j=>n + 2 + os.idxOf j)=(List.range n).map fun i=>n + 2 + i:=by
  refine ext_getElem (by simp [en]) fun i a b=>?_;have hi:i < os.length:=by simpa using a
  rw [getElem_map,getElem_map,getElem_range,idx_at nd hi]
 have p1:((List.range n).map fun j=>n + 2 + os.idxOf j).Perm ((List.range n).map fun i=>n + 2 + i):=by
  rw [<- e1];rw [en];exact (h.map _).symm
 have p2:(os.map fun j=>j + 1).Perm ((List.range n).map fun j=>j + 1):=by rw [en];exact h.map _
 unfold blkO;rw [<- en];refine (((p1.append_right [0]).append p2).append_right [n + 1]).trans ?_;have e2:List.range (2 * n + 2)=([0] ++ ((List.range n).map fun j=>j + 1) ++ [n + 1]) ++ (List.range n).map fun i=>n + 2 + i:=by
  rw [show 2 * n + 2=(n + 1) + (n + 1) by omega,List.range_add,List.range_succ_eq_map (n:=n),map_cons,map_map];simp only [List.cons_append,List.nil_append,List.append_assoc,Nat.add_zero];have:((fun x=>n + 1 + x) ∘ Nat.succ)=fun i=>n + 2 + i:=funext fun i=>by show n + 1 + (i + 1)=n + 2 + i;omega
  rw [this]
 rw [e2];simp only [List.append_assoc];have:=List.perm_append_comm (l₁:=(List.range n).map fun i=>n + 2 + i) (l₂:=[0] ++ ((List.range n).map (fun j=>j + 1) ++ [n + 1]));simp only [List.append_assoc] at this;exact this
theorem blkL_sum {ls:List Int} {os:List Nat} (h:(os.map fun j=>ls.getD j 0).sum=ls.sum):(blkL ls os).sum=4 * ls.sum:=by
 unfold blkL;simp only [List.sum_append,sum_cons,List.sum_nil,h];omega
theorem J4o (ls:List Int) (os:List Nat):(blkL ls os).length=ls.length + os.length + 2:=by
 unfold blkL;simp;omega
theorem blkT_len (ts:List Bool) (os:List Nat):(blkT ts os).length=ts.length + os.length + 2:=by
 unfold blkT;simp;omega
end Rl
namespace L2
open PySem PySem.Spec PyProof.Rows
end L2
namespace L2
open PySem PySem.Spec PyProof.Rows
def PTs (X:Cx) (ifs:List Expr) (t:TT):Prop :=
 ∀ (pins:List (Addr × Obj)) (s:Shared) (σ:St) (H:Hp) (Q:Bool->Hp->Prop),Inv X pins σ H s->t σ H Q->
  wpAny (model X.prog X.w) X.A (forIn ifs true fun c r=>if r=true then do let ok <- isTrue c X.env (eval c X.env);pure (ForInStep.yield ok) else pure (ForInStep.yield r)) (TP X pins σ Q) X.xe s
def tYes:TT:=fun _ H Q=>Q true H
theorem J1h {X:Cx}:PTs X [] tYes:=fun _ s σ H Q I h=>wpAny_tests_nil ⟨H,I,h⟩
theorem pts_one {X:Cx} {c:Expr} {t:TT} (h:PT X c t):PTs X [c] t:=fun pins s σ H Q I q=>wpAny_tests_one (h pins s σ H Q I q)
theorem J1b {prog:Program} {w:World} {A:Around} {R:Result->Shared->Prop} {s:Shared} {elt target iter:Expr} {ifs:List Expr} {scope:Scope} {pos:Pos} {it acc:Value} {env:Env} (J:Nat->Shared->Prop)
  (turn:∀ n s,J n s->wpAny (model prog w) A (pyNext it) (fun r s₁=>match r with
   | none=>R (.ok .next) s₁
   | some v=>wpAny (model prog w) A (letOwnedTupleGo target it v) (fun _ s₁'=>wpAny (model prog w) A (assign target env v) (fun _ s₂ =>
     wpAny (model prog w) A (forIn ifs true fun c r=>if r=true then do let ok <- isTrue c env (eval c env);pure (ForInStep.yield ok) else pure (ForInStep.yield r)) (fun ok s₃ =>
      if ok=true then wpAny (model prog w) A (eval elt env) (fun x s₄ =>
       wpAny (model prog w) A (call (.builtin "list.append") [acc,x]) (fun _ s₅=>∃ m,m < n/\J m s₅) (fun _ _=>False) s₄) (fun _ _=>False) s₃
      else ∃ m,m < n/\J m s₃) (fun _ _=>False) s₂) (fun _ _=>False) s₁') (fun _ _=>False) s₁) (fun _ _=>False) s)
  (n:Nat) (h:J n s):codeAny (model prog w) A (.compLoop (.ListComp elt [⟨target,iter,ifs,0⟩] scope pos) 0 it acc env) R s:=by
 refine codeAny_loop rfl J (fun n s hI=>?_) n h;show wpAny _ _ ((compTurn (.ListComp elt [⟨target,iter,ifs,0⟩] scope pos) 0 it acc env).onRaise (fun x=>do noteFrame x env;theTreesLotGoes x)) _ _ s;refine wpAny_noted ?_;rw [compTurn_list];refine wpAny_bind (wpAny_standAt (wpAny_bind (wpAny_mono (turn n s hI) (fun r s₁ h₁=>?_) fun _ _ h'=>False.elim h')))
 cases r with
 | none=>exact wpAny_pure h₁
 | some v =>
  refine wpAny_bind (wpAny_mono h₁ (fun _ s₁' h₁'=>?_) fun _ _ h'=>False.elim h');refine wpAny_bind (wpAny_mono h₁' (fun _ s₂ h₂=>wpAny_bind (wpAny_mono h₂ (fun ok s₃ h₃=>?_) fun _ _ h'=>False.elim h')) fun _ _ h'=>False.elim h')
  cases ok with
  | false=>exact wpAny_pure ⟨rfl,h₃⟩
  | true =>
   exact wpAny_bind (wpAny_bind (wpAny_mono h₃ (fun x s₄ h₄=>wpAny_bind (wpAny_mono h₄ (fun _ s₅ h₅=>wpAny_pure (wpAny_pure ⟨rfl,h₅⟩)) fun _ _ h'=>False.elim h')) fun _ _ h'=>False.elim h'))
def LCW (J:It) (tc:TT) (te:TE) (σ:St) (js:List Nat) (Q:VK) (H1:Hp) (d:Addr):Prop:=∃ W:Nat->Nat->List V->Hp->Prop,(∃ m,W 0 m [] (upd H1 d (.lst [])))/\
 ∀ i m ys H2,W i m ys H2->H2 d=some (.lst ys)/\((J.stop i H2/\Q (.ref d) H2)\/(J.go i H2/\ys.length < sizeLine/\∀ v H3,J.yld i H2 v H3->
  tc (some v :: capv σ js) H3 fun b H4=>if b=true then te (some v :: capv σ js) H4 fun y H5=>H5 d=some (.lst ys)/\∃ m',m' < m/\W (i + 1) m' (ys ++ [y]) (upd H5 d (.lst (ys ++ [y])))
   else ∃ m',m' < m/\W (i + 1) m' ys H4))
def tLC (wi:TI) (tc:TT) (te:TE) (js:List Nat):TE:=fun σ H Q=>wi σ H fun J H1=>∀ d,H1 d=none->LCW J tc te σ js Q H1 d
section
variable {X:Cx} {elt iter:Expr} {ifs:List Expr} {x y:Str} {px py:Pos} {scope:Scope} {cl:List (Str × Addr)} {pos spos:Pos} {wi:TI} {tc:TT} {te:TE} {caps:List Str} {js:List Nat} {i:Nat}
theorem comp_core {p0:Pos} {use:Option (Value->Sem Unit)} {QV:Value->Shared->Prop} {Q:VK} {pins:List (Addr × Obj)} {s:Shared} {σ:St} {H:Hp} (hc:X.calm=true) (hp:PI X (.Name x px) iter wi)
  (he:∀ (C:Addr) (fp:List Addr) (s:Shared) (H:Hp),PE (X.block (x :: caps) scope cl C fp s H) elt te)
  (ht:∀ (C:Addr) (fp:List Addr) (s:Shared) (H:Hp),PTs (X.block (x :: caps) scope cl C fp s H) ifs tc)
  (hcell:∀ p∈scope.names,p.2≠.cell) (hnames:∀ p∈scope.names,p.2=.local->scope.names.lookup p.1=some .local) (hnd:(x :: caps).Nodup)
  (hsub:∀ p∈cl,X.env.cells.lookup p.1=some p.2) (hhas:∀ p∈scope.names,p.2=.free->∃ c,cl.lookup p.1=some c) (hlen:caps.length=js.length)
  (hcaps:∀ (k:Nat) (c:Str),caps[k]?=some c->∃ (j:Nat) (a:Addr),js[k]?=some j/\X.N[j]?=some c/\X.env.scope.names.lookup c=some .cell/\cl.lookup c=some a/\(relabel scope X.env).names.lookup c=some .cell)
  (hclos:closureFor scope X.env=pure cl) (hkind:scope.kind=.function) (hx:scope.names.lookup x=some .local) (hs:∀ v,foldedSetIterable iter X.env v=pure v)
  (I:Inv X pins σ H s) (h:tLC wi tc te js σ H Q)
  (fin:∀ (d:Addr) (H':Hp) (s5:Shared) (C:Addr),Inv X pins σ H' s5->Q (.ref d) H'->(∃ m,s5.heap.Ns C m)->FpOk X pins H' C->compPost (model X.prog X.w) X.A X.xe use QV (.ref d) C (.ok .next) s5) :
  wpAny (model X.prog X.w) X.A (comprehension (.ListComp elt [⟨.Name x px,iter,ifs,0⟩] scope pos) scope X.env p0 (newList []) false (eval iter X.env) use) QV X.xe s:=by
 refine wpAny_comprehension_free (cl:=cl) (use:=use) (Q:=QV) rfl hs hclos hkind hnames (thn (hp pins s σ H _ I h) fun v s1 h1=>thn h1 fun itv s2 h2=>?_);obtain ⟨it,fp,tn,J,H2,e,I2,T,st2,f2,h3⟩:=h2;subst e;have hfr:H2 s2.heap.objs.size=none:=I2.hok.fresh (Nat.le_refl _);obtain ⟨W,⟨m0,w0⟩,hW⟩:=h3 s2.heap.objs.size hfr;refine wpAny_newObj_type (wpAny_newFunctionEnv hcell (by intro y hy;simp at hy) (fun h₁ hns₁ hsb₁=>?_) hkind);dsimp only at hns₁ hsb₁ ⊢;generalize hH2:s2.heap.push { cls:=.type "list",dict:=none,data:=.seq ([]:List Value).toArray }=G at hns₁ hsb₁ ⊢;have hC:G.objs.size=s2.heap.objs.size + 1:=by rw [<- hH2,Heap.size_push]
 have hDC:s2.heap.objs.size≠G.objs.size:=by rw [hC];exact Nat.ne_of_lt (Nat.lt_succ_self _)
 have hCle:s2.heap.objs.size<=G.objs.size:=by rw [hC];exact Nat.le_succ _
 have old:∀ b o,s2.heap.get? b=some o->h₁.get? b=some o:=fun b o e=>hsb₁.extBut b o (by rw [hC];exact Nat.ne_of_lt (Nat.lt_succ_of_lt (lt_size e))) (get?_push_of_some _ (hH2 ▸ get?_push_of_some _ e));have hacc:h₁.get? s2.heap.objs.size=some { cls:=.type "list",dict:=none,data:=.seq ([]:List Value).toArray }:=hsb₁.extBut _ _ hDC (get?_push_of_some _ (hH2 ▸ get?_push_size _ rfl));have fl:∀ b∈fp,b < s2.heap.objs.size:=fun b hb=>by
  obtain ⟨o,e,_⟩:=T.obj _ _ st2 b hb;exact lt_size e
 have hDf:s2.heap.objs.size ∉ fp:=fun hm=>Nat.lt_irrefl _ (fl _ hm);have hok1:HOk X.prog X.w (upd H2 s2.heap.objs.size (.lst [])) h₁:=I2.hok.laid old (Nat.le_refl _) ⟨Nat.zero_le _,[],0,.nil,hacc⟩;have IY0:∀ tk,Inv (X.block (x :: caps) scope cl G.objs.size fp s2 H2) [] (none :: capv σ js) (upd H2 s2.heap.objs.size (.lst [])) { s2 with heap:=h₁,toks:=tk }:=fun tk=>by
  refine ⟨J26 I2 hCle f2 fl hkind hcell hsub hhas,rfl,I2.bare,Un.laid old (Nat.le_refl _) hfr,⟨_,hns₁,fun k z v e1 e2 e3=>?_⟩,fun z c e=>?_,?_,fun z c e=>?_,fun p hp=>absurd hp (by simp),hok1,?_⟩
  ·cases k with
   | zero=>simp at e2
   | succ k =>
    have e1':caps[k]?=some z:=by simpa using e1
    have e2':(capv σ js)[k]?=some (some v):=by simpa using e2
    obtain ⟨j,a,q1,q2,q3,q4,q5⟩:=hcaps k z e1';obtain ⟨j',r1,r2⟩:=J2p e2';rw [q1] at r1;cases r1;obtain ⟨m,hm,hl⟩:=I2.loc;obtain ⟨u,ru,lu⟩:=hl j z v q2 r2 (.inr (.inl q3));refine ⟨u,ru,.inr ⟨.inl q5,a,q4,?_⟩⟩;rcases lu with ⟨k1,_⟩ | ⟨_,c,ec,o,ho,hd⟩
    ·have k1':X.env.scope.names.lookup z=some .local:=k1;rw [q3] at k1';cases k1'
    ·have:=hsub _ (mem_of_lookup q4);rw [ec] at this;cases this;exact ⟨o,old _ _ ho,hd⟩
  ·obtain ⟨v,o,ho,hd⟩:=I2.cell z c (hsub _ (mem_of_lookup e));exact ⟨v,o,old _ _ ho,hd⟩
  ·show upd H2 s2.heap.objs.size (.lst []) G.objs.size=none;rw [Ja hDC.symm];exact I2.hok.fresh hCle
  ·have ec:=hsub _ (mem_of_lookup e);obtain ⟨v,o,ho,hd⟩:=I2.cell z c ec;rw [Ja (Nat.ne_of_lt (lt_size ho))];exact I2.freeC z c ec
  ·show (none :: capv σ js).length=(x :: caps).length;unfold capv;simp [hlen]
 have stat:∀ {H':Hp},(∀ b∈fp,H' b=none)->∀ b∈fp,FpOk (X.block (x :: caps) scope cl G.objs.size fp s2 H2) [] H' b:=fun hn b hb =>
  ⟨hn b hb,Nat.ne_of_lt (Nat.lt_of_lt_of_le (fl b hb) hCle),(J26 (x:=x) (caps:=caps) I2 hCle f2 fl hkind hcell hsub hhas).exfs b hb,.inl hb,fun z c e=>(f2 b hb).2.2.2.2.1 z c (hsub _ (mem_of_lookup e)),fun p hp=>absurd hp (by simp)⟩
 have hxl:(relabel scope X.env).names.lookup x=some .local:=lookup_relabel_local hx;have loop:∀ tk,codeAny (model X.prog X.w) X.A (.compLoop (.ListComp elt [⟨.Name x px,iter,ifs,0⟩] scope pos) 0 (.ref it) (.ref s2.heap.objs.size) (compEnvC scope cl G.objs.size X.env))
   (compPost (model X.prog X.w) X.A X.xe use QV (.ref s2.heap.objs.size) G.objs.size) { s2 with heap:=h₁,toks:=tk }:=fun tk=>by
  refine J1b (fun m s'=>∃ (k:Nat) (o:Option V) (ys:List V) (H':Hp),Inv (X.block (x :: caps) scope cl G.objs.size fp s2 H2) [] (o :: capv σ js) H' s'/\tn k s'.heap/\(∀ b∈fp,H' b=none)/\W k m ys H') ?_ m0
   ⟨0,none,[],_,IY0 tk,T.keep _ _ _ st2 fun b hb o e=>old b o e,fun b hb=>by
    rw [Ja (show b≠s2.heap.objs.size from fun e=>hDf (by rw [<- e];exact hb))];exact (f2 b hb).1,w0⟩
  rintro m s3 ⟨k,o,ys,H',I3,st3,fr3,w3⟩;obtain ⟨hd,hW3⟩:=hW k m ys H' w3;rcases hW3 with ⟨stop,q⟩ | ⟨go,hz,step⟩
  ·refine thn (T.done (X.block (x :: caps) scope cl G.objs.size fp s2 H2) rfl rfl rfl hc k [] s3 _ _ (fun _ _=>False) I3 (stat fr3) st3 stop) fun r s4 h9=>?_;obtain ⟨hr,I4⟩:=h9;subst hr;have J5:Inv X pins σ H' s4:=I2.call' (ch:=fp) I4.os I4.base I4.hok I4.bare fun b hb=>⟨(f2 b hb).2.2.2.1,(f2 b hb).2.1,(f2 b hb).2.2.2.2.1,(f2 b hb).2.2.2.2.2⟩;exact fin _ H' s4 _ J5 q (by obtain ⟨m,q,_⟩:=I4.loc;exact ⟨m,q⟩) (I2.fpOk hCle I4.free)
  ·refine thn (T.item (X.block (x :: caps) scope cl G.objs.size fp s2 H2) rfl rfl rfl hc k [] s3 _ _ (fun _ _=>False) I3 (stat fr3) st3 go) fun r s4 h9=>?_;obtain ⟨u,hr,h4⟩:=h9;subst hr;refine thn h4 fun _ s5 h9=>?_;obtain ⟨v,H5,I5,r5,y5,st5,fr5⟩:=h9;have I5':=I5.pinned (stat fr5) (T.obj _ _ st5);have stp:=step v H5 y5;refine thn (Jm (X:=X.block (x :: caps) scope cl G.objs.size fp s2 H2) (i:=0) (pos:=px) hnd rfl (.inl hxl) (.inr hxl) _ s5 _ _ _ u
    (fun σ' H'=>σ'=some v :: capv σ js/\H'=H5) I5' r5 ⟨rfl,rfl⟩) fun _ s6 h9=>?_
   obtain ⟨σ6,H6,I6,q6⟩:=h9;obtain ⟨rfl,rfl⟩:=q6;refine thn (ht _ _ _ _ _ s6 _ _ _ I6 stp) fun ok s7 h9=>?_;obtain ⟨H7,I7,q7⟩:=h9;have back:∀ {s8:Shared} {H8:Hp} {o8:Option V} {ys8:List V} {m':Nat},Inv (X.block (x :: caps) scope cl G.objs.size fp s2 H2) ([] ++ pinsAt fp s5.heap) (o8 :: capv σ js) H8 s8->m' < m->W (k + 1) m' ys8 H8->
     ∃ m',m' < m/\∃ (k:Nat) (o:Option V) (ys:List V) (H':Hp),Inv (X.block (x :: caps) scope cl G.objs.size fp s2 H2) [] (o :: capv σ js) H' s8/\tn k s8.heap/\(∀ b∈fp,H' b=none)/\W k m' ys H':=fun {s8 H8 o8 ys8 m'} I8 hm w8=>by
    refine ⟨m',hm,k + 1,o8,ys8,H8,I8.unpinned,T.keep _ _ _ st5 fun b hb o e=>(I8.pin (b,o) (mem_append_right _ (mem_append_right _ (J18 hb e)))).1,fun b hb=>?_,w8⟩;obtain ⟨o,e,d⟩:=T.obj _ _ st5 b hb;exact (I8.pin (b,o) (mem_append_right _ (mem_append_right _ (J18 hb e)))).2.1
   cases ok with
   | false =>
    have q7':∃ m',m' < m/\W (k + 1) m' ys H7:=by
     have:=q7;rwa [if_neg (by decide)] at this
    obtain ⟨m',hm,w8⟩:=q7';exact back I7 hm w8
   | true =>
    have q7':te (some v :: capv σ js) H7 fun y H5=>H5 s2.heap.objs.size=some (.lst ys)/\∃ m',m' < m/\W (k + 1) m' (ys ++ [y]) (upd H5 s2.heap.objs.size (.lst (ys ++ [y]))):=by
     have:=q7;rwa [if_pos rfl] at this
    refine (show wpAny _ _ _ _ _ _ from thn (he _ _ _ _ _ s7 _ _ _ I7 q7') fun u8 s8 h9=>?_);obtain ⟨v8,H8,I8,r8,hd8,m',hm,w8⟩:=h9;refine thn (J1y (X:=X.block (x :: caps) scope cl G.objs.size fp s2 H2) _ s8 _ _ (.ref s2.heap.objs.size) [v8] (.ref s2.heap.objs.size) [u8]
     (fun _ H'=>H'=upd H8 s2.heap.objs.size (.lst (ys ++ [v8]))) I8 rfl (.cons r8 .nil) ⟨s2.heap.objs.size,_,v8,rfl,rfl,hd8,hz,rfl⟩) fun _ s9 h9=>?_
    obtain ⟨_,H9,I9,_,q9⟩:=h9;subst q9;exact back I9 hm w8
 have st1:tn 0 h₁:=T.keep _ _ _ st2 fun b hb o e=>old b o e;exact codeAny_compStart_list (loop _) (T.self X.A 0 _ _ _ st1 (loop _))
def capsOk (X:Cx) (scope:Scope) (cl:List (Str × Addr)) (caps:List Str) (js:List Nat):Bool :=
 (caps.zip js).all fun q=>X.N[q.2]? == some q.1 && X.env.scope.names.lookup q.1 == some .cell && (cl.lookup q.1).isSome && (relabel scope X.env).names.lookup q.1 == some .cell
theorem capsOk.get (hlen:caps.length=js.length) (h:capsOk X scope cl caps js=true):∀ (k:Nat) (c:Str),caps[k]?=some c->∃ (j:Nat) (a:Addr),js[k]?=some j/\X.N[j]?=some c/\X.env.scope.names.lookup c=some .cell/\cl.lookup c=some a/\(relabel scope X.env).names.lookup c=some .cell:=fun k c hk=>by
 have hkl:k < caps.length:=(List.getElem?_eq_some_iff.mp hk).1;have hj:js[k]?=some (js[k]'(hlen ▸ hkl)):=getElem?_eq_getElem (hlen ▸ hkl);have hm:(c,js[k]'(hlen ▸ hkl))∈caps.zip js:=by
  refine List.mem_iff_getElem?.mpr ⟨k,?_⟩;rw [List.getElem?_zip_eq_some];exact ⟨hk,hj⟩
 have:=all_eq_true.mp h _ hm;simp only [Bool.and_eq_true,beq_iff_eq] at this;obtain ⟨⟨⟨q1,q2⟩,q3⟩,q4⟩:=this;obtain ⟨a,ha⟩:=isSome_iff_exists.mp q3;exact ⟨_,a,hj,q1,q2,ha,q4⟩
def freeOk (scope:Scope) (cl:List (Str × Addr)):Bool:=scope.names.all fun p=>p.2 != .free || (cl.lookup p.1).isSome
theorem freeOk.get (h:freeOk scope cl=true):∀ p∈scope.names,p.2=.free->∃ c,cl.lookup p.1=some c:=fun p hp' e=>by
 have:=all_eq_true.mp h p hp';rw [e] at this;exact isSome_iff_exists.mp (by simpa using this)
theorem pe_lc (hc:X.calm=true) (hp:PI X (.Name x px) iter wi) (hclos:closureFor scope X.env=pure cl)
  (ht:∀ (C:Addr) (fp:List Addr) (s:Shared) (H:Hp),PTs (X.block (x :: caps) scope cl C fp s H) ifs tc)
  (he:∀ (C:Addr) (fp:List Addr) (s:Shared) (H:Hp),PE (X.block (x :: caps) scope cl C fp s H) elt te)
  (hcell:∀ p∈scope.names,p.2≠.cell) (hnames:∀ p∈scope.names,p.2=.local->scope.names.lookup p.1=some .local) (hnd:(x :: caps).Nodup)
  (hsub:∀ p∈cl,X.env.cells.lookup p.1=some p.2)
  (hhas:freeOk scope cl=true:=by rfl) (hlen:caps.length=js.length:=by rfl) (hcaps:capsOk X scope cl caps js=true:=by rfl)
  (hkind:scope.kind=.function:=by rfl) (hx:scope.names.lookup x=some .local:=by rfl) (hs:∀ v,foldedSetIterable iter X.env v=pure v:=by intro _;rfl) :
  PE X (.ListComp elt [⟨.Name x px,iter,ifs,0⟩] scope pos) (tLC wi tc te js):=by
 intro pins s σ H Q I h;rw [eval_ListComp];refine comp_core (use:=none) hc hp he ht hcell hnames hnd hsub (freeOk.get hhas) hlen (capsOk.get hlen hcaps) hclos hkind hx hs I h fun d H' s5 C J5 q hC fp=>?_;obtain ⟨m,nsC⟩:=hC;exact ⟨m,nsC,fun h' hs'=>⟨.ref d,H',J5.turned (h':=h') (t':=s5.toks) (it:=C) (fun b o hb e=>(hs'.2 b hb).trans e) fp.1 fp.2.1 fp.2.2.2.1 fp.2.2.2.2.1 fp.2.2.2.2.2,rfl,q⟩⟩
def tSetLC (t:TE) (i:Nat):TS:=fun D σ H=>t σ H fun v H'=>D.nx (σ.set i (some v)) H'
theorem ps_lc (hN:X.N.Nodup) (hi:X.N[i]?=some y) (hy:Loc X.env.scope y) (hc:X.calm=true) (hp:PI X (.Name x px) iter wi) (hclos:closureFor scope X.env=pure cl)
  (ht:∀ (C:Addr) (fp:List Addr) (s:Shared) (H:Hp),PTs (X.block (x :: caps) scope cl C fp s H) ifs tc)
  (he:∀ (C:Addr) (fp:List Addr) (s:Shared) (H:Hp),PE (X.block (x :: caps) scope cl C fp s H) elt te)
  (hcell:∀ p∈scope.names,p.2≠.cell) (hnames:∀ p∈scope.names,p.2=.local->scope.names.lookup p.1=some .local) (hnd:(x :: caps).Nodup)
  (hsub:∀ p∈cl,X.env.cells.lookup p.1=some p.2)
  (hhas:freeOk scope cl=true:=by rfl) (hlen:caps.length=js.length:=by rfl) (hcaps:capsOk X scope cl caps js=true:=by rfl)
  (hf:X.fn y=true\/X.env.scope.names.lookup y=some .local:=by first | exact .inl rfl | exact .inr rfl | assumption)
  (hsw:swapsWith (.ListComp elt [⟨.Name x px,iter,ifs,0⟩] scope pos) (some (.Name y py)) spos.line X.env=pure true:=by rfl)
  (hkind:scope.kind=.function:=by rfl) (hx:scope.names.lookup x=some .local:=by rfl) (hs:∀ v,foldedSetIterable iter X.env v=pure v:=by intro _;rfl) :
  PS X (.Assign [.Name y py] (.ListComp elt [⟨.Name x px,iter,ifs,0⟩] scope pos) spos) (tSetLC (tLC wi tc te js) i):=by
 intro pins s σ H D I h;rw [exec_Assign_Name_used _ _ _ _ hsw];refine wpAny_bind (wpAny_standAt (wpAny_bind ?_));show wpAny _ X.A (do let _ <- comprehension (.ListComp elt [⟨.Name x px,iter,ifs,0⟩] scope pos) scope X.env _ (newList []) false (eval iter X.env) (some (assign (.Name y py) X.env))) _ _ s;refine wpAny_bind (wpAny_mono (comp_core (use:=some (assign (.Name y py) X.env)) (QV:=fun _ s'=>SP X pins D .next s') hc hp he ht hcell hnames hnd hsub (freeOk.get hhas) hlen (capsOk.get hlen hcaps) hclos hkind hx hs I h fun d H' s5 C J5 q hC fp=>?_)
  (fun _ s' hq=>wpAny_pure (wpAny_pure hq)) fun _ _ e=>e)
 obtain ⟨mC,nsC⟩:=hC;show wpAny _ X.A (assign (.Name y py) X.env (.ref d)) _ _ s5;refine wpAny_assign_Name ?_;refine J37 J5 hN hi hy (v:=.ref d) rfl (fun s6 I6 keep6=>?_) hf;obtain ⟨a,sa,ha⟩:=keep6;have aC:a≠C:=by
  rcases ha with e | e
  ·rw [e];exact Ne.symm fp.2.1
  ·exact fp.2.2.2.2.1 y a e
 exact ⟨mC,nsC.sameBut sa (Ne.symm aC),fun h' hs'=>⟨_,H',I6.turned (h':=h') (t':=s6.toks) (it:=C) (fun b o hb e=>(hs'.2 b hb).trans e) fp.1 fp.2.1 fp.2.2.2.1 fp.2.2.2.2.1 fp.2.2.2.2.2,q⟩⟩
end
theorem lc_over {J:It} {H1:Hp} {tc:TT} {te:TE} {σ:St} {js:List Nat} {Q:VK} {d:Addr} (n:Nat) (g:Nat->Bool) (f:Nat->V) (hd:H1 d=none) (hn:n<=1000)
  (hgo:∀ i H,i < n->Same H1 H->J.go i H) (hst:∀ H,Same H1 H->J.stop n H) (vv:Nat->V) (hy:∀ i H v H',i < n->Same H1 H->J.yld i H v H'->H'=H/\v=vv i)
  (hs:∀ i H Qt,i < n->Same H1 H->(∀ H',Same H H'->Qt (g i) H')->tc (some (vv i) :: capv σ js) H Qt)
  (he:∀ i H Qe,i < n->g i=true->Same H1 H->(∀ H',Same H H'->Qe (f i) H')->te (some (vv i) :: capv σ js) H Qe)
  (hq:∀ H',Same H1 H'->H' d=some (.lst (((List.range n).filter g).map f))->Q (.ref d) H') :
  ∃ W:Nat->Nat->List V->Hp->Prop,(∃ m,W 0 m [] (upd H1 d (.lst [])))/\
   ∀ i m ys H2,W i m ys H2->H2 d=some (.lst ys)/\((J.stop i H2/\Q (.ref d) H2)\/(J.go i H2/\ys.length < sizeLine/\∀ v H3,J.yld i H2 v H3->
    tc (some v :: capv σ js) H3 fun b H4=>if b=true then te (some v :: capv σ js) H4 fun y H5=>H5 d=some (.lst ys)/\∃ m',m' < m/\W (i + 1) m' (ys ++ [y]) (upd H5 d (.lst (ys ++ [y])))
     else ∃ m',m' < m/\W (i + 1) m' ys H4)):=by
 have s0:∀ o,Same H1 (upd H1 d o):=fun o b u e=>by rw [Ja (J6 e hd)];exact e
 refine ⟨fun i m ys H=>m=n - i/\i<=n/\ys=((List.range i).filter g).map f/\Same H1 H/\H d=some (.lst ys),⟨n,rfl,Nat.zero_le _,rfl,s0 _,J1⟩,?_⟩;rintro i m ys H2 ⟨rfl,hi,rfl,sm,h2⟩;refine ⟨h2,?_⟩;by_cases hlt:i < n
 ·refine .inr ⟨hgo i H2 hlt sm,?_,fun v H3 y3=>?_⟩
  ·have h1:(((List.range i).filter g).map f).length<=i:=by
    rw [length_map];exact Nat.le_trans (List.length_filter_le _ _) (by rw [length_range];exact Nat.le_refl _)
   exact Jk (by omega)
  ·obtain ⟨rfl,rfl⟩:=hy i H2 v H3 hlt sm y3;refine hs i H3 _ hlt sm fun H4 s4=>?_
   cases hg:g i with
   | false =>
    rw [if_neg (by decide)];refine ⟨n - (i + 1),by omega,rfl,hlt,?_,sm.trans s4,s4 _ _ h2⟩;rw [range_succ,List.filter_append,map_append];simp [hg]
   | true =>
    rw [if_pos rfl];refine he i H4 _ hlt hg (sm.trans s4) fun H5 s5=>⟨s5 _ _ (s4 _ _ h2),n - (i + 1),by omega,rfl,hlt,?_,?_,J1⟩
    ·rw [range_succ,List.filter_append,map_append];simp [hg]
    ·intro b u e;rw [Ja (J6 e hd)];exact s5 _ _ (s4 _ _ (sm _ _ e))
 ·have e:i=n:=by omega
  subst e;exact .inl ⟨hst H2 sm,hq H2 sm h2⟩
theorem Same.tup {K:PySem.W.Frag} {H H':Hp} {a:Addr} {xs:List V} (e:Same H H') (h:SqT K H a xs):SqT K H' a xs:=by
 rcases h with (h | ⟨o,h⟩) | h
 ·exact .inl (.inl (e _ _ h))
 ·exact .inl (.inr ⟨o,e _ _ h⟩)
 ·exact .inr h
theorem pick_all {α:Type} (G:α->Bool) (F:α->V):∀ xs:List α,
  ((List.range xs.length).filter fun i=>match xs[i]? with | some v=>G v | none=>false).map (fun i=>match xs[i]? with | some v=>F v | none=>V.non)=(xs.filter G).map F
 | []=>rfl
 | a :: r=>by
  have ih:=pick_all G F r;rw [length_cons,List.range_succ_eq_map,List.filter_cons,List.filter_map,List.filter_cons];have e:(fun i=>match (a :: r)[i]? with | some v=>G v | none=>false) ∘ Nat.succ=fun i=>match r[i]? with | some v=>G v | none=>false:=by
   funext i;simp
  have e2:(fun i=>match (a :: r)[i]? with | some v=>F v | none=>V.non) ∘ Nat.succ=fun i=>match r[i]? with | some v=>F v | none=>V.non:=by
   funext i;simp
  rw [e]
  cases hg:G a with
  | true =>
   simp only [List.getElem?_cons_zero,hg,if_true,map_cons,map_map];rw [e2,ih]
  | false =>
   simp only [List.getElem?_cons_zero,hg,Bool.false_eq_true,if_false,map_map];rw [e2,ih]
section
variable {α:Type} {K:PySem.W.Frag} {a:Addr} {H1:Hp} {tc:TT} {te:TE} {σ:St} {js:List Nat} {Q:VK} {d:Addr}
theorem lc_seq {J:It} (e:α->V) (xs:List α) (G:α->Bool) (F:α->V) (hn:xs.length<=1000) (hd:H1 d=none)
  (hgo:∀ i H,i < xs.length->Same H1 H->J.go i H) (hst:∀ H,Same H1 H->J.stop xs.length H) (hy:∀ i H v H',i < xs.length->Same H1 H->J.yld i H v H'->H'=H/\(xs.map e)[i]?=some v)
  (hs:∀ v∈xs,∀ H Qt,Same H1 H->(∀ H',Same H H'->Qt (G v) H')->tc (some (e v) :: capv σ js) H Qt)
  (he:∀ v∈xs,∀ H Qe,G v=true->Same H1 H->(∀ H',Same H H'->Qe (F v) H')->te (some (e v) :: capv σ js) H Qe)
  (hq:∀ H',Same H1 H'->H' d=some (.lst ((xs.filter G).map F))->Q (.ref d) H'):LCW J tc te σ js Q H1 d:=by
 have at_:∀ i,i < xs.length->∃ v,xs[i]?=some v/\v∈xs:=fun i hi=>⟨_,getElem?_eq_getElem hi,getElem_mem hi⟩
 refine lc_over xs.length (fun i=>match xs[i]? with | some v=>G v | none=>false) (fun i=>match xs[i]? with | some v=>F v | none=>V.non) hd hn hgo hst (fun i=>((xs.map e)[i]?).getD .non)
  (fun i H v H' hi s y=>?_) (fun i H Qt hi s k=>?_) (fun i H Qe hi hg s k=>?_) (fun H' s h=>?_)
 ·obtain ⟨e1,e2⟩:=hy i H v H' hi s y;exact ⟨e1,by rw [e2];rfl⟩
 ·obtain ⟨v,e1,hv⟩:=at_ i hi
  rw [getElem?_map,e1];refine hs v hv H Qt s fun H' s'=>?_;have:=k H' s';rw [e1] at this;exact this
 ·obtain ⟨v,e1,hv⟩:=at_ i hi
  rw [e1] at hg;rw [getElem?_map,e1];refine he v hv H Qe hg s fun H' s'=>?_;have:=k H' s';rw [e1] at this;exact this
 ·rw [pick_all] at h;exact hq H' s h
theorem lc_lst (e:α->V) (xs:List α) (G:α->Bool) (F:α->V) (hx:SqL K H1 a (xs.map e)) (hn:xs.length<=1000) (hd:H1 d=none)
  (hs:∀ v∈xs,∀ H Qt,Same H1 H->(∀ H',Same H H'->Qt (G v) H')->tc (some (e v) :: capv σ js) H Qt)
  (he:∀ v∈xs,∀ H Qe,G v=true->Same H1 H->(∀ H',Same H H'->Qe (F v) H')->te (some (e v) :: capv σ js) H Qe)
  (hq:∀ H',Same H1 H'->H' d=some (.lst ((xs.filter G).map F))->Q (.ref d) H'):LCW (Itl K a) tc te σ js Q H1 d :=
 lc_seq e xs G F hn hd (fun i H hi s=>⟨_,_,s.seq hx,by rw [getElem?_map,getElem?_eq_getElem hi];rfl⟩) (fun H s=>⟨_,s.seq hx,by rw [length_map];exact Nat.le_refl _⟩)
  (fun i H v H' hi s y=>⟨y.1,y.2 _ (s.seq hx)⟩) hs he hq
theorem lc_rng (lo:Int) (n:Nat) (G:Nat->Bool) (F:Nat->V) (hn:n<=1000) (hd:H1 d=none)
  (hs:∀ i,i < n->∀ H Qt,Same H1 H->(∀ H',Same H H'->Qt (G i) H')->tc (some (.int (lo + i)) :: capv σ js) H Qt)
  (he:∀ i,i < n->∀ H Qe,G i=true->Same H1 H->(∀ H',Same H H'->Qe (F i) H')->te (some (.int (lo + i)) :: capv σ js) H Qe)
  (hq:∀ H',Same H1 H'->H' d=some (.lst (((List.range n).filter G).map F))->Q (.ref d) H'):LCW (Itr lo n) tc te σ js Q H1 d :=
 lc_over n G F hd hn (fun i H hi _=>hi) (fun H _=>Nat.le_refl _) (fun i=>.int (lo + i)) (fun i H v H' hi _ y=>y) (fun i H Qt hi s k=>hs i hi H Qt s k) (fun i H Qe hi hg s k=>he i hi H Qe hg s k) hq
end
theorem J1a {α:Type} (xs:List α):xs.filter (fun _=>true)=xs:=List.filter_eq_self.mpr fun _ _=>rfl
theorem J2t {X:Cx} {a b:Expr} {pos:Pos} {ta tb:TE} {r:R2} (hr:IxR X r) (ha:PE X a ta) (hb:PE X b tb) (hs:PlainIx b:=by intro _ _;rfl):PE X (.Subscript a b pos) (tOp r ta tb):=pe_ix hr ha hb hs
end L2
namespace L2
open PySem PySem.Spec PyProof.Rows
section
variable {X:Cx}
def rIndexL (K:PySem.W.Frag):V->List V->Hp->VK->Prop:=fun x vs H Q=>∃ (l:Addr) (ns:List Int) (k:Int),x=.ref l/\vs=[.int k]/\SqL K H l (ns.map V.int)/\k∈ns/\Q (.int (ns.idxOf k:Nat)) H
theorem mt_indexL:MtM X "list.index" (rIndexL X.K):=by
 intro pins s σ H x vs v us Q I rx rv h;obtain ⟨l,ns,k,rfl,rfl,hH,hk,q⟩:=h;cases rx;obtain ⟨u1,rfl,⟨t,rfl⟩⟩:=rv.one;obtain ⟨its,r',pl,hz⟩:=I.list hH;have hi:=J19 r';have hlen:=hi.length;obtain ⟨⟨cls,dd,data,sl⟩,ho,hc,n,hd⟩:=id pl.isList;simp only at hc hd;subst hc hd;have hj:ns.idxOf k < ns.length:=List.idxOf_lt_length_iff.mpr hk;have h63:=J4h;rw [length_map] at hz;refine call_meets PySem.F.slot_list_index ⟨_,ho,rfl⟩ PySem.F.entry_list_index (PySem.F.args_list_index_2 _ _)
  (SeqAt.list_indexAt l its.toArray n dd sl (.int k t) (isInt k) (ns.idxOf k) (by simpa [hlen] using hj) (by lia) ?_ ?_) ⟨ho,fun y hy=>(eq_isInt k t hi y (by simpa using hy)).at _ _,⟨.int _,H,I.tok _,⟨_,rfl⟩,q⟩⟩
 ·show isInt k its[ns.idxOf k]=true;rw [isInt_at k hi _ (by lia) hj];simpa using List.getElem_idxOf hj
 ·intro j hjs hlt;show isInt k its[j]=false;rw [isInt_at k hi j (by simpa using hjs) (by lia)];exact ne_of_lt_idxOf hlt _
end
end L2
namespace L2
open PySem PySem.Spec PyProof.Rows
section
variable {X:Cx}
theorem J25 (K:PySem.W.Frag) (h:X.K=K:=by rfl):IxR X (rIxL K):=by subst h;exact Jx
theorem ix_tupK (K:PySem.W.Frag) (h:X.K=K:=by rfl):IxR X (rIxT K):=by subst h;exact J24
theorem J29 {e:Expr} {f:Str} {pos:Pos} {ta:TE} (K:PySem.W.Frag) (he:PE X e ta) (h:X.K=K:=by rfl) (hb:attributeBase e f X.env (eval e X.env)=eval e X.env:=by rfl):PE X (.Attribute e f pos) (tFld K ta f):=by subst h;exact Jl he hb
end
end L2
namespace L2
open PySem PySem.Spec PyProof.Rows
end L2
namespace L2
open PySem PySem.Spec PyProof.Rows
structure Refs (Pr:Addr->Nat->Prop) (xs:List V) (n:Nat):Prop where
 len:xs.length=n
 at_:∀ i,i < n->∃ q,xs[i]?=some (.ref q)/\Pr q i
theorem Refs.nil {Pr:Addr->Nat->Prop}:Refs Pr [] 0:=⟨rfl,fun i h=>absurd h (Nat.not_lt_zero _)⟩
theorem Refs.snoc {Pr:Addr->Nat->Prop} {xs:List V} {n:Nat} {q:Addr} (h:Refs Pr xs n) (hq:Pr q n):Refs Pr (xs ++ [.ref q]) (n + 1):=by
 refine ⟨by rw [length_append,h.len];rfl,fun i hi=>?_⟩;by_cases c:i < n
 ·obtain ⟨p,e,hp⟩:=h.at_ i c;exact ⟨p,by rw [getElem?_append_left (by rw [h.len];exact c)];exact e,hp⟩
 ·have e:i=n:=by lia
  subst e;refine ⟨q,?_,hq⟩;rw [getElem?_append_right (by rw [h.len];exact Nat.le_refl _),h.len,Nat.sub_self];rfl
theorem Refs.mono {Pr Pr':Addr->Nat->Prop} {xs:List V} {n:Nat} (h:Refs Pr xs n) (m:∀ q i,i < n->Pr q i->Pr' q i):Refs Pr' xs n :=
 ⟨h.len,fun i hi=>by obtain ⟨q,e,p⟩:=h.at_ i hi;exact ⟨q,e,m q i hi p⟩⟩
def KeepD (d:Addr) (H H':Hp):Prop:=∀ b o,H b=some o->b≠d->H' b=some o
theorem pe_bmK {X:Cx} {T:String} {name:Str} {id:String} {r:V->List V->Hp->VK->Prop} {o e:Expr} {es:List Expr} {to:TE} {t:TA} {apos cpos:Pos} (K:PySem.W.Frag) (pa:PlainAttrs T) (slot:Slot T name id) (hty:typeOf (.builtin id)=pure (.type "method_descriptor")) (hm:MtR X id r) (ho:PE X o to) (ha:PA X (e :: es) t)
  (h:X.K=K:=by rfl) (hbase:attributeBase o name X.env (eval o X.env)=eval o X.env:=by rfl)
  (hfew:((backTo cpos (starEach (e :: es) X.env)).all (fun x=>!x.1) && (backToKw cpos (keywordEach [] X.env)).all (fun x=>x.1.isSome)
   && decide ((e :: es).length + ([]:List Keyword).length + (if ([]:List Keyword).isEmpty then 0 else 1) < 30))=true:=by rfl)
  (hline:(apos.endLine == cpos.line)=true:=by rfl) (hs:starEach (e :: es) X.env=(false,eval e X.env) :: starEach es X.env:=by rfl) (hplain:(backTo cpos (starEach es X.env)).any (·.1)=false:=by rfl) :
  PE X (.Call (.Attribute o name apos) (e :: es) [] cpos) (tBM K T r to t):=by
 subst h;exact pe_bm pa slot hty hm ho ha hbase hfew hline hs hplain
theorem mt_indexLK {X:Cx} (K:PySem.W.Frag) (h:X.K=K:=by rfl):MtM X "list.index" (rIndexL K):=by subst h;exact mt_indexL
end L2
namespace L2
open PySem PySem.Spec PyProof.Rows
section
variable {κ:Type} [DecidableEq κ]
def valV (kvs:List (κ × V)) (k:κ):Option V:=(kvs.find? fun kv=>decide (kv.1=k)).map (·.2)
def putK (kvs:List (κ × V)) (k:κ) (v:V):List (κ × V) :=
 if (kvs.any fun kv=>decide (kv.1=k))=true then kvs.map (fun kv=>if kv.1=k then (kv.1,v) else kv) else kvs ++ [(k,v)]
theorem valV_pos {p:κ × V} {r:List (κ × V)} {k:κ} (e:p.1=k):valV (p :: r) k=some p.2:=by simp [valV,find?_cons,e]
theorem valV_neg {p:κ × V} {r:List (κ × V)} {k:κ} (e:¬ p.1=k):valV (p :: r) k=valV r k:=by simp [valV,find?_cons,e]
theorem valV_any (k:κ):∀ kvs:List (κ × V),(kvs.any fun kv=>decide (kv.1=k))=(valV kvs k).isSome
 | []=>rfl
 | p :: r=>by
  rw [any_cons];by_cases e:p.1=k
  ·simp only [valV_pos e,decide_eq_true e,Bool.true_or,Option.isSome_some]
  ·rw [valV_neg e,decide_eq_false e,Bool.false_or];exact valV_any k r
theorem J23 (kvs:List (κ × V)) (k:κ) (v:V):(putK kvs k v).length<=kvs.length + 1:=by
 unfold putK;split
 ·rw [length_map];omega
 ·rw [length_append,length_cons,length_nil];omega
theorem RelO.isSome_eq {o:Option V} {u:Option Value} (r:RelO o u):o.isSome=u.isSome:=by
 cases o with
 | none=>cases u with
  | none=>rfl
  | some _=>exact (show False from r).elim
 | some _=>cases u with
  | none=>exact (show False from r).elim
  | some _=>rfl
theorem KV.any {kvs:List (κ × V)} {vs:List (κ × Value)} (r:KV kvs vs) (k:κ):(kvs.any fun kv=>decide (kv.1=k))=vs.any fun kv=>decide (kv.1=k):=by
 unfold KV at r
 induction r with
 | nil=>rfl
 | cons h t ih=>rw [any_cons,any_cons,ih,h.1]
theorem KV.repl {kvs:List (κ × V)} {vs:List (κ × Value)} (r:KV kvs vs) (k:κ) {y:V} {u:Value} (ry:RelV y u) :
  KV (kvs.map fun kv=>if kv.1=k then (kv.1,y) else kv) (vs.map fun kv=>if kv.1=k then (kv.1,u) else kv):=by
 unfold KV at r ⊢
 induction r with
 | nil=>exact .nil
 | @cons p q ps qs h t ih =>
  rw [map_cons,map_cons];refine .cons ?_ ih;obtain ⟨h1,h2⟩:=h;by_cases e:p.1=k
  ·rw [if_pos e,if_pos (h1.symm.trans e)];exact ⟨h1,ry⟩
  ·rw [if_neg e,if_neg (fun z=>e (h1.trans z))];exact ⟨h1,h2⟩
theorem KV.put {kvs:List (κ × V)} {vs:List (κ × Value)} (r:KV kvs vs) (k:κ) {y:V} {u:Value} (ry:RelV y u):KV (putK kvs k y) (stored vs k u):=by
 unfold putK stored;rw [r.any k];by_cases e:(vs.any fun kv=>decide (kv.1=k))=true
 ·rw [if_pos e,if_pos e];exact r.repl k ry
 ·rw [if_neg e,if_neg e];exact Paired.snoc r ⟨rfl,ry⟩
theorem KV.keys {kvs:List (κ × V)} {vs:List (κ × Value)} (r:KV kvs vs):kvs.map (·.1)=vs.map (·.1):=by
 unfold KV at r
 induction r with
 | nil=>rfl
 | cons h t ih=>rw [map_cons,map_cons,ih,h.1]
theorem KV.length {kvs:List (κ × V)} {vs:List (κ × Value)} (r:KV kvs vs):kvs.length=vs.length:=Paired.length r
end
theorem kV_is {P:Program} {w:World} {k:Key} {u:Value} (r:RelV (kV k) u):(Jy P w).is k u=true:=by
 cases k with
 | inl i=>obtain ⟨t,e⟩:=(show ∃ t,u=Value.int i t from r);subst e;exact mixKind_int P w i t
 | inr x=>obtain ⟨t,e⟩:=(show ∃ t,u=Value.str x t from r);subst e;exact mixKind_str P w x t
theorem items_are {P:Program} {w:World}:∀ {ks:List Key} {us:List Value},Vals (ks.map kV) us->ItemsAre (Jy P w) ks us
 | [],_,r=>by rw [map_nil] at r;cases r;exact .nil
 | k :: ks,_,r=>by
  rw [map_cons] at r
  cases r with
  | cons h t=>exact .cons (kV_is h) (items_are t)
abbrev KT (H:Hp):List (List Key × V)->List (List Key × Addr × Value)->Prop:=Paired fun p q=>p.1=q.1/\H q.2.1=some (.tup (p.1.map kV))/\RelV p.2 q.2.2
theorem KT.val {H:Hp} {kvs:List (List Key × V)} {xs:List (List Key × Addr × Value)} (r:KT H kvs xs) (k:List Key):RelO (valV kvs k) ((atKey xs k).map (·.2)):=by
 induction r with
 | nil=>exact True.intro
 | @cons p q ps qs h t ih =>
  obtain ⟨h1,_,h2⟩:=h;by_cases e:p.1=k
  ·have e':q.1=k:=h1.symm.trans e;have b:atKey (q :: qs) k=some q.2:=by simp [atKey,find?_cons,e']
   rw [valV_pos e,b];exact h2
  ·have e':¬ q.1=k:=fun z=>e (h1.trans z);have b:atKey (q :: qs) k=atKey qs k:=by simp [atKey,find?_cons,e']
   rw [valV_neg e,b];exact ih
theorem KT.repl {H:Hp} {kvs:List (List Key × V)} {xs:List (List Key × Addr × Value)} (r:KT H kvs xs) (k:List Key) {y:V} {u:Value} (ry:RelV y u) :
  KT H (kvs.map fun kv=>if kv.1=k then (kv.1,y) else kv) (xs.map (putAt k u)):=by
 induction r with
 | nil=>exact .nil
 | @cons p q ps qs h t ih =>
  rw [map_cons,map_cons];refine .cons ?_ ih;obtain ⟨h1,h2,h3⟩:=h;unfold putAt;by_cases e:p.1=k
  ·rw [if_pos e,if_pos (h1.symm.trans e)];exact ⟨h1,h2,ry⟩
  ·rw [if_neg e,if_neg (fun z=>e (h1.trans z))];exact ⟨h1,h2,h3⟩
theorem KT.put {H:Hp} {kvs:List (List Key × V)} {xs:List (List Key × Addr × Value)} (r:KT H kvs xs) (k:List Key) {b:Addr} {y:V} {u:Value} (hb:H b=some (.tup (k.map kV))) (ry:RelV y u) :
  KT H (putK kvs k y) (storedH xs k b u):=by
 have e:(kvs.any fun kv=>decide (kv.1=k))=(atKey xs k).isSome:=by
  rw [valV_any,(r.val k).isSome_eq,Option.isSome_map]
 unfold putK storedH;rw [e];by_cases q:(atKey xs k).isSome=true
 ·rw [if_pos q,if_pos q];exact r.repl k ry
 ·rw [if_neg q,if_neg q];exact Paired.snoc r ⟨rfl,hb,ry⟩
theorem KT.keeps {H H':Hp} {kvs:List (List Key × V)} {xs:List (List Key × Addr × Value)} (r:KT H kvs xs) (ht:∀ b ys,H b=some (.tup ys)->H' b=some (.tup ys)):KT H' kvs xs :=
 Paired.mapP r fun _ _ z=>⟨z.1,ht _ _ z.2.1,z.2.2⟩
section
variable {P:Program} {w:World} {H:Hp} {h:Heap} {a:Addr}
theorem rd_of {u:HO} (ok:HOk P w H h) (e:Rd H a u):ObjOk P w H h a u:=e.ok ok
theorem dk_rd {kvs:List (Key × V)} (ok:HOk P w H h) (e:Rd H a (.dK kvs)):kvs.length<=sizeLine/\(a == sysModules)=false/\∃ vs,KV kvs vs/\h.DictOf (Jy P w) a vs :=
 show ObjOk P w H h a (.dK kvs) from rd_of ok e
theorem dk_of {kvs:List (Key × V)} (ok:HOk P w H h) (e:H a=some (.dK kvs)):kvs.length<=sizeLine/\(a == sysModules)=false/\∃ vs,KV kvs vs/\h.DictOf (Jy P w) a vs:=dk_rd ok (.inl e)
theorem key_of {ks:List Key} (ok:HOk P w H h) (e:H a=some (.tup (ks.map kV))):(tupleKind (Jy P w)).is h ks a:=by
 obtain ⟨_,its,r,o,h1,h2,n,h3⟩:=(show ObjOk P w H h a (.tup (ks.map kV)) from ok a _ e);exact ⟨o,its.toArray,n,h1,h2.1,h3,by simpa using items_are r⟩
theorem dt_rd {kvs:List (List Key × V)} (ok:HOk P w H h) (e:Rd H a (.dT kvs)):kvs.length<=sizeLine/\(a == sysModules)=false/\
  ∃ xs,KT H kvs xs/\h.DictOfH (tupleKind (Jy P w)) a xs:=by
 obtain ⟨z,y,xs,r,o,es,ep,h1,h2,h3,h4,h5⟩:=(show ObjOk P w H h a (.dT kvs) from rd_of ok e);refine ⟨z,y,xs,r,o,es,ep,h1,h2,h3,h4,fun x hx=>?_,h5⟩;have all:∀ {l:List (List Key × V)} {m:List (List Key × Addr × Value)},KT H l m->∀ x∈m,(tupleKind (Jy P w)).is h x.1 x.2.1:=by
  intro l m q
  induction q with
  | nil=>intro x hx;exact nomatch hx
  | @cons p q ps qs hq t ih =>
   intro x hx;rcases mem_cons.mp hx with e | hx
   ·subst e;exact key_of ok (by rw [<- hq.1];exact hq.2.1)
   ·exact ih x hx
 exact all r x hx
theorem dt_of {kvs:List (List Key × V)} (ok:HOk P w H h) (e:H a=some (.dT kvs)):kvs.length<=sizeLine/\(a == sysModules)=false/\
  ∃ xs,KT H kvs xs/\h.DictOfH (tupleKind (Jy P w)) a xs:=dt_rd ok (.inl e)
end
def DPut (H:Hp) (a:Addr) (y v:V) (H':Hp):Prop :=
 (∃ kvs k,H a=some (.dK kvs)/\y=kV k/\kvs.length < sizeLine/\H'=upd H a (.dK (putK kvs k v)))\/
 ∃ kvs k b,H a=some (.dT kvs)/\y=.ref b/\H b=some (.tup (k.map kV))/\kvs.length < sizeLine/\H'=upd H a (.dT (putK kvs k v))
theorem DPut.k {H:Hp} {a:Addr} {kvs:List (Key × V)} {k:Key} {v:V} (e:H a=some (.dK kvs)) (hl:kvs.length < sizeLine):DPut H a (kV k) v (upd H a (.dK (putK kvs k v))):=.inl ⟨kvs,k,e,rfl,hl,rfl⟩
section
variable {X:Cx} {pins:List (Addr × Obj)} {σ:St} {H:Hp} {s:Shared} {a:Addr} {y v:V} {u r:Value} {o:Option V} {A:Around} {E:Value->Shared->Prop}
theorem Inv.big (I:Inv X pins σ H s):sysModules < s.heap.objs.size:=by
 have h:mainGlobals < s.heap.objs.size:=(I.mod.glob.keeps I.bk).lt;exact Nat.lt_trans (by decide) h
theorem d_write {h':Heap} {t':Nat} {ob:HO} (I:Inv X pins σ H s) (mu:Mut (H a)) (hs:Heap.SameBut a s.heap h') (he:∃ q,h'.get? a=some q) (new:ObjOk X.prog X.w (upd H a ob) h' a ob) :
  Inv X pins σ (upd H a ob) { s with heap:=h',toks:=t' } :=
 I.write (x:=a) (e:=a) mu (.inl rfl) (fun b q hb z=>(hs.2 b hb).trans z) he new
theorem dk_new {P:Program} {w:World} {H':Hp} {h':Heap} {kvs:List (Key × V)} {vs:List (Key × Value)} (z:kvs.length<=sizeLine) (hd:(a == sysModules)=false) (rel:KV kvs vs) (dd:h'.DictOf (Jy P w) a vs) :
  ObjOk P w H' h' a (.dK kvs):=⟨z,hd,vs,rel,dd⟩
theorem d_setItem {H':Hp} {Q:Unit->Shared->Prop} (hu:A.units + 1 < cLine) (I:Inv X pins σ H s) (g:DPut H a y v H') (ry:RelV y u) (rv:RelV v r) (h:∀ s',Inv X pins σ H' s'->Q () s') :
  wpAny (model X.prog X.w) A (setItem (.ref a) u r) Q E s:=by
 rcases g with ⟨kvs,k,e,ey,l,eH⟩ | ⟨kvs,k,b,e,ey,eb,l,eH⟩
 ·subst ey eH;obtain ⟨z,hd,vs,rel,dd⟩:=dk_of I.hok e;have hz:vs.length<=sizeLine:=by rw [<- rel.length];exact z
  have hl:(putK kvs k v).length<=sizeLine:=by have:=J23 kvs k v;omega
  refine wpAny_setItem_pairs (hsz:=hz) (kV_is ry) dd fun h' dd' hs=>h _ ?_;have he:∃ q,h'.get? a=some q:=by obtain ⟨q,_,_,hq,_⟩:=dd';exact ⟨q,hq⟩
  exact d_write I (by rw [e];exact True.intro) hs he (dk_new hl hd (rel.put k rv) dd')
 ·subst ey eH;cases (show u=Value.ref b from ry);obtain ⟨z,hd,xs,rel,dd⟩:=dt_of I.hok e;have hz:xs.length<=sizeLine:=by rw [<- Paired.length rel];exact z
  have hl:(putK kvs k v).length<=sizeLine:=by have:=J23 kvs k v;omega
  refine wpAny_setItem_heap (hsz:=hz) (tupleKind_room_in1 hu) (key_of I.hok eb) dd fun h' dd' hs=>h _ ?_;obtain ⟨q,es,ep,hq,h2,h3,h4,_,h5⟩:=dd';refine d_write I (by rw [e];exact True.intro) hs ⟨q,hq⟩ ⟨hl,hd,_,(rel.put k eb rv).keeps fun c ys ec=>?_,q,es,ep,hq,h2,h3,h4,h5⟩;rw [Ja (ne_of ec e (fun z=>nomatch z))];exact ec
end
def sDPut (td ty tv:TE):TS:=fun D σ H=>tv σ H fun v H1=>td σ H1 fun x H2=>ty σ H2 fun y H3=>∃ a H4,x=.ref a/\DPut H3 a y v H4/\D.nx σ H4
section
variable {X:Cx} {o i e value:Expr} {pos pos' tpos:Pos} {td ty tv:TE}
theorem ps_dput (hu:X.A.units + 1 < cLine) (ho:PE X o td) (hi:PE X i ty) (hv:PE X value tv) (hs:swapsWith value (some (.Subscript o i pos')) pos.line X.env=pure false) :
  PS X (.Assign [.Subscript o i pos'] value pos) (sDPut td ty tv):=by
 intro pins s σ H D I h;refine wpAny_Assign_Subscript (thn (hv pins s σ H _ I h) fun r s1 ⟨v,H1,I1,rv,q1⟩=>thn (ho pins s1 σ H1 _ I1 q1) fun u s2 ⟨x,H2,I2,rx,q2⟩=>thn (hi pins s2 σ H2 _ I2 q2) fun iv s3 h9=>?_) hs;obtain ⟨y,H3,I3,ry,a,H4,ex,g,q3⟩:=h9;subst ex;obtain rfl:u=Value.ref a:=rx;exact d_setItem hu I3 g ry rv fun s4 I4=>⟨σ,H4,I4,q3⟩
end
theorem dk_empty {P:Program} {w:World} {H:Hp} (h:Heap) (hb:sysModules < h.objs.size):ObjOk P w H (h.push { cls:=.type "dict",data:=.dict #[] }) h.objs.size (.dK []) :=
 ⟨Nat.zero_le _,beq_eq_false_iff_ne.mpr (Ne.symm (Nat.ne_of_lt hb)),[],.nil,Heap.DictOf.new h⟩
def tDNewK:TE:=fun _ H Q=>∀ p,H p=none->Q (.ref p) (upd H p (.dK []))
section
variable {X:Cx} {pos:Pos}
theorem pe_dnewK:PE X (.Dict [] [] pos) tDNewK:=fun pins s σ H Q I h =>
 wpAny_Dict_empty ⟨.ref s.heap.objs.size,_,I.laid (a:=s.heap.objs.size) (o:=.dK []) (t':=s.toks) (fun _ _ q=>get?_push_of_some _ q) (Nat.le_refl _) (dk_empty s.heap I.big),rfl,h _ (I.hok.fresh (Nat.le_refl _))⟩
end
def tPairs:List (TE × TE)->St->Hp->(List (V × V)->Hp->Prop)->Prop
 | [],_,H,Q=>Q [] H
 | (tk,tv) :: r,σ,H,Q=>tk σ H fun x H1=>tv σ H1 fun y H2=>tPairs r σ H2 fun ps H3=>Q ((x,y) :: ps) H3
abbrev VV:List (V × V)->List (Value × Value)->Prop:=Paired fun p q=>RelV p.1 q.1/\RelV p.2 q.2
def PPs (X:Cx) (pos:Pos) (keys:List (Option Expr)) (values:List Expr) (trs:List (TE × TE)):Prop :=
 ∀ (pins:List (Addr × Obj)) (s:Shared) (σ:St) (H:Hp) (Q:List (V × V)->Hp->Prop),Inv X pins σ H s->tPairs trs σ H Q->
  wpAny (model X.prog X.w) X.A (evalPairs (pairTrees keys values X.env pos)) (fun vs s'=>∃ ps H',Inv X pins σ H' s'/\VV ps vs/\Q ps H') X.xe s
theorem pps_nil {X:Cx} {pos:Pos}:PPs X pos [] [] []:=fun pins s σ H Q I h=>pairTrees_nil_walk ⟨[],H,I,.nil,h⟩
theorem pps_cons {X:Cx} {pos:Pos} {k v:Expr} {ks:List (Option Expr)} {vs:List Expr} {tk tv:TE} {trs:List (TE × TE)} (hk:PE X k tk) (hv:PE X v tv) (hr:PPs X pos ks vs trs) :
  PPs X pos (some k :: ks) (v :: vs) ((tk,tv) :: trs):=fun pins s σ H Q I h =>
 pairTrees_cons_walk (thn (hk pins s σ H _ I h) fun u s1 ⟨x,H1,I1,rx,q1⟩=>thn (hv pins s1 σ H1 _ I1 q1) fun w2 s2 ⟨y,H2,I2,ry,q2⟩ =>
  thn (hr pins s2 σ H2 _ I2 q2) fun ws s3 ⟨ps,H3,I3,rel,q3⟩=>⟨(x,y) :: ps,H3,I3,.cons ⟨rx,ry⟩ rel,q3⟩)
def mergeK (kvs more:List (Key × V)):List (Key × V):=more.foldl (fun acc kv=>putK acc kv.1 kv.2) kvs
theorem KV.merge:∀ {more:List (Key × V)} {rs:List (Key × Value)} {kvs:List (Key × V)} {vs:List (Key × Value)},KV more rs->KV kvs vs->KV (mergeK kvs more) (merged vs rs):=by
 intro more rs kvs vs r;unfold KV at r
 induction r generalizing kvs vs with
 | nil=>intro q;exact q
 | @cons p q ps qs h t ih =>
  intro r0;have e:KV (putK kvs p.1 p.2) (stored vs q.1 q.2):=by
   have:=r0.put p.1 h.2;rw [<- h.1];exact this
  exact ih e
theorem J27:∀ (more kvs:List (Key × V)),(mergeK kvs more).length<=kvs.length + more.length
 | [],kvs=>by show kvs.length<=kvs.length + 0;omega
 | p :: r,kvs=>by
  have h1:=J27 r (putK kvs p.1 p.2);have h2:=J23 kvs p.1 p.2;show (mergeK (putK kvs p.1 p.2) r).length<=_;rw [length_cons];omega
theorem J3y {P:Program} {w:World}:∀ {kvs:List (Key × V)} {ws:List (Value × Value)},VV (kvs.map fun kv=>(kV kv.1,kv.2)) ws->∃ rs,Carries (Jy P w) ws rs/\KV kvs rs
 | [],_,r=>by rw [map_nil] at r;cases r;exact ⟨[],True.intro,.nil⟩
 | p :: kvs,_,r=>by
  rw [map_cons] at r
  cases r with
  | @cons a b as bs h t =>
   obtain ⟨rs,c,q⟩:=J3y (P:=P) (w:=w) t;obtain ⟨b1,b2⟩:=b;exact ⟨(p.1,b2) :: rs,⟨kV_is h.1,rfl,c⟩,.cons ⟨rfl,h.2⟩ q⟩
def tDisp (trs:List (TE × TE)):TE:=fun σ H Q=>∀ p,H p=none->tPairs trs σ (upd H p (.dK [])) fun ps H2=>H2 p=some (.dK [])/\∃ kvs:List (Key × V),ps=kvs.map (fun kv=>(kV kv.1,kv.2))/\kvs.length<=15/\Q (.ref p) (upd H2 p (.dK (mergeK [] kvs)))
theorem pe_disp {X:Cx} {pos:Pos} {keys:List (Option Expr)} {values:List Expr} {trs:List (TE × TE)} (h:PPs X pos keys values trs) (hall:keys.all (·.isSome)=true) (hl:keys.length=values.length) (h0:keys≠[])
  (h15:keys.length<=15):PE X (.Dict keys values pos) (tDisp trs):=by
 intro pins s σ H Q I q;have hn:=I.hok.fresh (Nat.le_refl s.heap.objs.size);have I1:=I.laid (a:=s.heap.objs.size) (o:=.dK []) (h':=s.heap.push { cls:=.type "dict",data:=.dict #[] }) (t':=s.toks) (fun _ _ q=>get?_push_of_some _ q) (Nat.le_refl _) (dk_empty s.heap I.big);refine wpAny_Dict_walk (knd:=Jy X.prog X.w) hall hl h0 h15 (thn (h pins _ σ _ _ I1 (q _ hn)) fun ws s2 h9=>?_);obtain ⟨ps,H2,I2,rel,e,kvs,ep,lk,q2⟩:=h9;subst ep;obtain ⟨rs,c,rk⟩:=J3y (P:=X.prog) (w:=X.w) rel;obtain ⟨z,hd,vs0,r0,dd⟩:=dk_of I2.hok e;cases r0;refine ⟨rs,c,dd,fun h' dd' hs=>⟨.ref s.heap.objs.size,_,?_,rfl,q2⟩⟩;have hz:(mergeK [] kvs).length<=sizeLine:=by
  have h1:=J27 kvs [];rw [length_nil] at h1;rw [sizeLine_eq];omega
 have he:∃ q,h'.get? s.heap.objs.size=some q:=by obtain ⟨q,_,_,hq,_⟩:=dd';exact ⟨q,hq⟩
 exact d_write I2 (by rw [e];exact True.intro) hs he (dk_new hz hd (rk.merge .nil) dd')
end L2
namespace L2
open PySem PySem.Spec PyProof.Rows
end L2
namespace L2
open PySem PySem.Spec PyProof.Rows
section
variable {X:Cx}
theorem vals_getD {ns:List Int} {us:List Value} (hl:us.length=ns.length) (h:∀ (i:Nat) (v:Value),us[i]?=some v->∃ t,v=Value.int (ns.getD i 0) t):Vals (ns.map V.int) us:=by
 have:=J1i (f:=fun i=>ns.getD i 0) hl h;have e:((List.range ns.length).map fun i=>V.int (ns.getD i 0))=ns.map V.int:=by
  apply ext_getElem?;intro i;by_cases c:i < ns.length
  ·rw [getElem?_map,getElem?_map,getElem?_range c,getElem?_eq_getElem c];show some (V.int (ns.getD i 0))=some (V.int ns[i]);rw [getD_eq_getElem?_getD,getElem?_eq_getElem c];rfl
  ·rw [getElem?_eq_none (by rw [length_map,length_range];lia),getElem?_eq_none (by rw [length_map];lia)]
 rwa [e] at this
end
end L2
namespace L2
open PySem PySem.Spec PyProof.Rows
section
variable {X:Cx} {e:Expr} {te:TE} {p pos pos' apos:Pos}
def tLKeys (te:TE):TE:=fun σ H Q=>te σ H fun x H1=>∃ (q:Addr) (kvs:List (Key × V)) (ns:List Int),x=.ref q/\H1 q=some (.dK kvs)/\kvs.map (·.1)=ns.map Sum.inl/\∀ l,H1 l=none->Q (.ref l) (upd H1 l (.lst (ns.map V.int)))
theorem pe_lkeys (hc:X.calm=true) (hg:Gl X "list") (hm:X.mg "list"=none) (ha:PE X e te)
  (hbase:attributeBase e "keys" X.env (eval e X.env)=eval e X.env:=by rfl) (hline:(apos.endLine == pos'.line)=true:=by rfl)
  (he':starEach [Expr.Call (.Attribute e "keys" apos) [] [] pos'] X.env=[(false,eval (Expr.Call (.Attribute e "keys" apos) [] [] pos') X.env)]:=by rfl) :
  PE X (.Call (.Name "list" p) [.Call (.Attribute e "keys" apos) [] [] pos'] [] pos) (tLKeys te):=by
 intro pins s σ H Q I h;refine wpAny_Call_Name_kw (J4k I hg hm boot_list ?_ (by decide) (by decide));refine callWith_type1 (rest:=[]) ?_ (by rw [he'];rfl) rfl;rw [he'];show wpAny _ _ (spliced [(false,eval (Expr.Call (.Attribute e "keys" apos) [] [] pos') X.env)]) _ _ s;refine Calls.spliced_cons ?_;refine wpAny_Call_method0_late hbase hline (thn (ha pins s σ H _ I h) fun v s1 hh=>?_);obtain ⟨x,H1,I1,r1,q,kvs,ns,rfl,hp,hk,k⟩:=hh;cases r1;obtain ⟨h1,h2⟩:=tyV_is (T:="dict") (x:=.ref q) I1 rfl (.inr (.inr (.inl ⟨rfl,.inl ⟨kvs,hp⟩⟩)));obtain ⟨hz,hd,vs,kv,dd⟩:=dk_of I1.hok hp;obtain ⟨ep,hat⟩:=dd.dictAt;have hl:vs.length=kvs.length:=kv.length.symm;have hlk:kvs.length=ns.length:=by have:=congrArg List.length hk;rwa [length_map,length_map] at this
 have hks:vs.map (·.1)=ns.map Sum.inl:=kv.keys.symm.trans hk;refine ⟨"dict","dict.keys",PySem.F.plainAttrs_dict,PySem.F.slot_dict_keys,PySem.F.type_dict_keys,h1,h2,Calls.callWith_builtin rfl (PySem.evalArgs_none ?_)⟩;refine call_meetsIn PySem.F.slot_dict_keys h1 PySem.F.entry_dict_keys (PySem.F.args_dict_keys_1 _) (PySem.W.kdl_meets_keys (Jy X.prog X.w) q hd) ⟨⟨_,dd⟩,?_⟩;refine Calls.spliced_nil ?_;have hS2:(s1.heap.push { cls:=Value.type "dict_keys",data:=Data.fields #[Value.ref q] }).objs.size=s1.heap.objs.size + 1:=by simp [Heap.push]
 have hS3:s1.heap.objs.size<=(s1.heap.push { cls:=Value.type "dict_keys",data:=Data.fields #[Value.ref q] }).objs.size:=by rw [hS2];exact Nat.le_succ _
 refine PySem.W.kdl_call (PySem.W.kdl_keys (knd:=Jy X.prog X.w) (d:=q) (r:=s1.heap.objs.size) (kvs:=vs) (ep:=ep)) (I1.ok.hd hc) ⟨⟨_,get?_push_size _ rfl,rfl,rfl⟩,?_⟩ (by rw [hl];exact hz) fun h' tk acc c' hk' hS' hacc=>?_
 ·obtain ⟨o,es,ho,rest⟩:=hat;exact ⟨o,es,get?_push_of_some _ ho,rest⟩
 have hI:Vals (ns.map V.int) acc.toList:=by
  refine vals_getD (by rw [length_toList];exact hacc.1.trans (by rw [hl,hlk])) fun i v e=>?_;obtain ⟨k,x,e1,e2⟩:=hacc.2 i v (by rw [<- Array.getElem?_toList];exact e);have e3:(vs.map (·.1))[i]?=some k:=by rw [getElem?_map,e1];rfl
  rw [hks,getElem?_map] at e3;obtain ⟨n,e4,rfl⟩:=Option.map_eq_some_iff.mp e3;rw [getD_eq_getElem?_getD,e4];exact PyProof.V.Flat.int_inv (PySem.W.kdl_flat_int (prog:=X.prog) (w:=X.w) e2)
 refine ⟨.ref (s1.heap.push { cls:=Value.type "dict_keys",data:=Data.fields #[Value.ref q] }).objs.size,_,I1.laid (o:=.lst (ns.map V.int)) (fun b o eb=>hk' b o (get?_push_of_some _ eb)) hS3 ⟨by rw [length_map,<- hlk];exact hz,acc.toList,c',hI,hS'⟩,rfl,k _ (I1.hok.fresh hS3)⟩
end
end L2
namespace L2
open PySem PySem.Spec PyProof.Rows
theorem Inv.freeze {X:Cx} {pins:List (Addr × Obj)} {σ:St} {H:Hp} {s:Shared} {a:Addr} {kvs:List (Key × V)} {o:Obj} (I:Inv X pins σ H s) (e:H a=some (.dK kvs)) (ho:s.heap.get? a=some o):Inv X pins σ (upd H a (.frz o (.dK kvs))) s:=by
 have kp:∀ b u,H b=some u->u≠.dK kvs->upd H a (.frz o (.dK kvs)) b=some u:=fun b u q n=>by
  rw [Ja (fun z=>by rw [z,e] at q;cases q;exact n rfl)];exact q
 have kn:∀ b,H b=none->upd H a (.frz o (.dK kvs)) b=none:=fun b q=>by
  rw [Ja (fun z=>by rw [z,e] at q;cases q)];exact q
 refine ⟨I.ok,I.os,I.bare,⟨I.base.keep,I.base.slot,fun b ob q n hx=>kn _ (I.base.free b ob q n hx),I.base.there,fun b xs q=>kp _ _ (I.base.tups b xs q) (fun z=>by cases z),fun b ob u q=>kp _ _ (I.base.frzs b ob u q) (fun z=>by cases z),fun b ps q=>?_⟩,I.loc,I.cell,kn _ I.free,fun x c q=>kn _ (I.freeC x c q),fun p hp=>?_,fun b u q=>?_,I.len⟩
 ·obtain ⟨more,q'⟩:=I.base.tbls b ps q;exact ⟨more,kp _ _ q' (fun z=>by cases z)⟩
 ·obtain ⟨p1,p2,p3⟩:=I.pin p hp;exact ⟨p1,kn _ p2,p3⟩
 ·by_cases hb:b=a
  ·subst hb;rw [J1] at q;cases q;exact ⟨ho,(I.hok b _ e).stay (fun c v _ q=>q) (fun c q=>kp _ _ q (fun z=>by cases z)) fun c xs q=>kp _ _ q (fun z=>by cases z)⟩
  ·rw [Ja hb] at q;exact (I.hok b u q).stay (fun c v _ q=>q) (fun c q=>kp _ _ q (fun z=>by cases z)) fun c xs q=>kp _ _ q (fun z=>by cases z)
def Itd (a:Addr) (o:Obj) (kvs:List (Key × V)) (ns:List Int):It :=
 ⟨fun i H=>i < ns.length/\H a=some (.frz o (.dK kvs)),fun i H x H'=>H'=H/\x=.int (ns.getD i 0),fun i H=>ns.length<=i/\H a=some (.frz o (.dK kvs))⟩
theorem turn_keys {P:Program} {w:World} {K:PySem.W.Frag} {tg:Expr} (a it:Addr) (o:Obj) (kvs:List (Key × V)) (ns:List Int) (vs:List (Key × Value)) (ep:Nat) (hD:∀ h:Heap,h.get? a=some o->h.DictAt (Jy P w) a vs ep) (hks:vs.map (·.1)=ns.map Sum.inl) :
  Turn P w K tg (Itd a o kvs ns) [it] it (fun i h=>h.IsKeyIter it a i vs.length ep) where
 mem:=by simp
 obj:=fun i h st b hb=>by
  have e:b=it:=by simpa using hb
  subst e;obtain ⟨o,e,c,d⟩:=st;exact ⟨o,e,fun v z=>by rw [d] at z;cases z⟩
 keep:=fun i h h' st k=>st.at fun o e=>k it (by simp) o e
 item:=by
  intro X hP hw hK hc i pins s σ H E I hf st hg;subst hP hw hK;have ea:=(I.hok a _ hg.2).1;have hl:vs.length=ns.length:=by have:=congrArg List.length hks;rwa [length_map,length_map] at this
  obtain ⟨⟨k,x⟩,hx⟩:∃ p,vs[i]?=some p:=⟨vs[i]'(by have:=hg.1;omega),getElem?_eq_getElem _⟩;obtain ⟨f0,f1,f2,f3,f4,f5⟩:=hf it (by simp);refine wpAny_pyNext_dict_item st (hD _ ea) hx fun key h' hkey st' sb=>?_;have I1:Inv X pins σ H { s with heap:=h' }:=I.turned (t':=s.toks) (fun b o hb e=>sb.extBut b o hb e) f0 f1 f3 f4 f5;have e3:(vs.map (·.1))[i]?=some k:=by rw [getElem?_map,hx];rfl
  rw [hks,getElem?_map] at e3;obtain ⟨n,e4,rfl⟩:=Option.map_eq_some_iff.mp e3;obtain ⟨t,rfl⟩:=PyProof.V.Flat.int_inv (PySem.W.kdl_flat_int (prog:=X.prog) (w:=X.w) hkey);obtain ⟨o',e',c,d⟩:=id st';exact ⟨_,rfl,go_of (s:={ s with heap:=h' }) e' c d (by decide) ⟨.int n,H,I1,⟨t,rfl⟩,⟨rfl,by rw [getD_eq_getElem?_getD,e4];rfl⟩,st',fun b hb=>(hf b hb).1⟩⟩
 done:=by
  intro X hP hw hK hc i pins s σ H E I hf st hg;subst hP hw hK;have ea:=(I.hok a _ hg.2).1;have hl:vs.length=ns.length:=by have:=congrArg List.length hks;rwa [length_map,length_map] at this
  obtain ⟨f0,f1,f2,f3,f4,f5⟩:=hf it (by simp);exact wpAny_pyNext_dict_end (I.ok.hd hc) st (hD _ ea) (getElem?_eq_none (by have:=hg.1;omega)) fun h' eb=>⟨rfl,I.turned (t':=s.toks) (fun b o hb e=>eb b o hb e) f0 f1 f3 f4 f5⟩
 self:=fun _ _ _ _ _ st h=>wpAny_pyIter_keyiter st h
def iDict (tl:TE):TI:=fun σ H R=>tl σ H fun x H1=>∃ (a:Addr) (kvs:List (Key × V)) (ns:List Int),x=.ref a/\H1 a=some (.dK kvs)/\kvs.map (·.1)=ns.map Sum.inl/\∀ o,R (Itd a o kvs ns) (upd H1 a (.frz o (.dK kvs)))
theorem pi_dict {X:Cx} {tg l:Expr} {tl:TE} (hl:PE X l tl):PI X tg l (iDict tl):=by
 intro pins s σ H R I h;refine thn (hl pins s σ H _ I h) fun v s1 h9=>?_;obtain ⟨x,H1,I1,r1,q1⟩:=h9;obtain ⟨a,kvs,ns,e,hq,hk,q⟩:=q1;subst e;cases r1;obtain ⟨hz,hd,vs,kv,dd⟩:=dk_of I1.hok hq;obtain ⟨ep,hat⟩:=dd.dictAt;have hks:vs.map (·.1)=ns.map Sum.inl:=kv.keys.symm.trans hk;obtain ⟨o,es,ho,rest⟩:=id hat;refine wpAny_pyIter_dict hd hat ?_;have I2:=I1.freeze hq ho;refine ⟨s1.heap.objs.size,[s1.heap.objs.size],_,_,_,rfl,I2.kept (t':=s1.toks) fun b o e=>get?_push_of_some _ e,turn_keys a _ o kvs ns vs ep (fun h e=>⟨o,es,e,rest⟩) hks,⟨_,get?_push_size _ rfl,rfl,rfl⟩,fun b hb=>?_,q o⟩;have e:b=s1.heap.objs.size:=by simpa using hb
 subst e;exact I2.fpOk (Nat.le_refl _) (I2.hok.fresh (Nat.le_refl _))
theorem for_dict {a:Addr} {o:Obj} {kvs:List (Key × V)} {ns:List Int} {g:TG} {tb:TS} {D:Ends} {σ:St} {H:Hp} (Pv:Nat->St->Hp->Prop) (h0:Pv 0 σ H) (hl:∀ i σ H,i<=ns.length->Pv i σ H->H a=some (.frz o (.dK kvs)))
  (hs:∀ i σ H,i < ns.length->Pv i σ H->g (.int (ns.getD i 0)) σ H fun σ2 H2=>tb { D with nx:=Pv (i + 1),ct:=Pv (i + 1),bk:=D.nx } σ2 H2) (hd:∀ σ H,Pv ns.length σ H->D.nx σ H) :
  ∃ W:Nat->Nat->St->Hp->Prop,(∃ m,W 0 m σ H)/\∀ i m σ H,W i m σ H->
   ((Itd a o kvs ns).stop i H/\D.nx σ H)\/((Itd a o kvs ns).go i H/\∃ N:St->Hp->Prop,(∀ σ' H',N σ' H'->∃ m',m' < m/\W (i + 1) m' σ' H')/\∀ x H',(Itd a o kvs ns).yld i H x H'->g x σ H' fun σ2 H2=>tb { D with nx:=N,ct:=N,bk:=D.nx } σ2 H2):=by
 refine ⟨fun i m σ H=>m=ns.length - i/\i<=ns.length/\Pv i σ H,⟨ns.length,by simp,Nat.zero_le _,h0⟩,?_⟩;rintro i m σ H ⟨rfl,hi,p⟩;have q:=hl i σ H hi p;by_cases hlt:i < ns.length
 ·refine .inr ⟨⟨hlt,q⟩,Pv (i + 1),fun σ' H' p'=>⟨ns.length - (i + 1),by omega,rfl,hlt,p'⟩,fun x H' y=>?_⟩;obtain ⟨e,y⟩:=y;subst e y;exact hs i σ _ hlt p
 ·have e:i=ns.length:=by omega
  subst e;exact .inl ⟨⟨Nat.le_refl _,q⟩,hd σ H p⟩
end L2
namespace L2
open PySem PySem.Spec PySem.Calls PyProof.Rows PySem.W
section
variable {X:Cx} {pins:List (Addr × Obj)} {σ:St} {H:Hp} {A:Around} {E:Value->Shared->Prop} {s:Shared} {a kS:Addr} {vs:List Value} {kz:List Int} {keys:Array Value} {e e1:Nat} {P:PySem.Fin->Shared->Prop}
theorem fp_turn (I:Inv X pins σ H s) {b:Addr} {h':Heap} {t':Nat} (f:FpOk X pins H b) (k:Heap.SameBut b s.heap h'):Inv X pins σ H { s with heap:=h',toks:=t' } :=
 I.turned (h':=h') (t':=t') (it:=b) (fun c o hc e=>(k.2 c hc).trans e) f.1 f.2.1 f.2.2.2.1 f.2.2.2.2.1 f.2.2.2.2.2
theorem skey_tail {st:SortSt} (I:Inv X pins σ H s) (fk:FpOk X pins H kS) (fa:FpOk X pins H a) (nk:s.heap.get? kS=some (seqObj "list" keys e)) (na:s.heap.get? a=some (seqObj "list" #[] e1)) (hka:kS≠a)
  (hk:IntsAre keys.toList kz) (hlen:kz.length=vs.length) (h64:vs.length < 64) (hp:(arrOf st).Perm (keys.zip vs.toArray)) (hs:SortedTo (arrOf st) (arrOf st).size) (hfl:failedOf st=none)
  (h:∀ h' tk out c,Inv X pins σ H { s with heap:=h',toks:=tk }->h'.get? a=some (seqObj "list" out c)->KskOut false kz vs out.toList->P (.done (.ret .none)) { s with heap:=h',toks:=tk }) :
  wpAny (model X.prog X.w) A (ksk_tail a false e1 (.ref kS) st) P E s:=by
 have hsz:keys.size=vs.length:=by
  have h1:=hk.length;rw [length_toList] at h1;omega
 have hsz2:(arrOf st).size=vs.length:=by rw [hp.size_eq,Array.size_zip,hsz,size_toArray,Nat.min_self]
 have hout:(if false=true then ((arrOf st).map (·.2)).reverse else (arrOf st).map (·.2)).size=vs.length:=by
  simp only [Bool.false_eq_true,if_false,Array.size_map];exact hsz2
 have s1:=Heap.SameBut.update s.heap kS (Obj.mapSeq fun _=>(#[]:Array Value));have na1:(s.heap.update kS (Obj.mapSeq fun _=>(#[]:Array Value))).get? a=some (seqObj "list" #[] e1):=(s1.2 a hka.symm).trans na;have s2:=Heap.SameBut.update (s.heap.update kS (Obj.mapSeq fun _=>(#[]:Array Value))) a (Obj.mapSeq fun _=>if false=true then ((arrOf st).map (·.2)).reverse else (arrOf st).map (·.2));obtain ⟨c2,hc2⟩:∃ c2,((s.heap.update kS (Obj.mapSeq fun _=>(#[]:Array Value))).update a (Obj.mapSeq fun _=>if false=true then ((arrOf st).map (·.2)).reverse else (arrOf st).map (·.2))).get? a=some (seqObj "list" (if false=true then ((arrOf st).map (·.2)).reverse else (arrOf st).map (·.2)) c2) :=
  ⟨_,get?_update_seq na1 fun _=>if false=true then ((arrOf st).map (·.2)).reverse else (arrOf st).map (·.2)⟩
 unfold ksk_tail
 try dsimp only
 refine wpAny_bind (listUpdate_at nk rfl ?_ (by rw [hsz,sizeLine_eq];omega) (Nat.zero_le _));refine wpAny_bind (wpAny_letGo ?_);refine wpAny_bind (seqEpoch_at na1 rfl ?_);refine wpAny_bind (listUpdate_at na1 rfl ?_ (Nat.zero_le _) (Nat.le_trans (Nat.le_of_eq hout) (by rw [sizeLine_eq];omega)));rw [hfl];simp only [bne_self_eq_false,Bool.false_eq_true,if_false];have I1:Inv X pins σ H { s with heap:=s.heap.update kS (Obj.mapSeq fun _=>(#[]:Array Value)) }:=fp_turn (t':=s.toks) I fk s1;exact wpAny_pure (h _ _ _ c2 (fp_turn (t':=_) I1 fa s2) hc2 (ksk_out (b:=false) hk hp hs))
theorem skey_end (I:Inv X pins σ H s) (fk:FpOk X pins H kS) (fa:FpOk X pins H a) (nk:s.heap.get? kS=some (seqObj "list" keys e)) (na:s.heap.get? a=some (seqObj "list" #[] e1)) (hka:kS≠a)
  (hk:IntsAre keys.toList kz) (hlen:kz.length=vs.length) (h64:vs.length < 64)
  (h:∀ h' tk out c,Inv X pins σ H { s with heap:=h',toks:=tk }->h'.get? a=some (seqObj "list" out c)->KskOut false kz vs out.toList->P (.done (.ret .none)) { s with heap:=h',toks:=tk }) :
  wpAny (model X.prog X.w) A (ksk_end a false vs.toArray e1 (.ref kS) keys) P E s:=by
 have hsz:keys.size=vs.length:=by
  have h1:=hk.length;rw [length_toList] at h1;omega
 have hzs:(keys.zip vs.toArray).size=vs.length:=by rw [Array.size_zip,hsz,size_toArray,Nat.min_self]
 unfold ksk_end
 try dsimp only
 simp only [Bool.false_eq_true,if_false];by_cases h2:vs.toArray.size < 2
 ·rw [if_pos h2,if_pos h2];refine wpAny_bind (wpAny_pure ?_);rw [StateT.run_pure];refine wpAny_bind (wpAny_pure ?_)
  try dsimp only
  refine skey_tail (st:=SortSt.mk' general' (keys.zip vs.toArray) #[] 7 none) I fk fa nk na hka hk hlen h64 (Array.Perm.refl _) ?_ rfl h;intro i j hij hj;have hj2:j < (keys.zip vs.toArray).size:=hj;rw [hzs] at hj2;rw [size_toArray] at h2;have:i=j:=by omega
  subst this;exact Int.le_refl _
 ·rw [if_neg h2,if_neg h2];rw [size_toArray] at h2;rw [ksk_kind hk (by rw [hsz];omega)];refine wpAny_bind (wpAny_pure ?_);refine wpAny_bind (wpAny_mono (wpS_sortRuns (a₀:=keys.zip vs.toArray) (st:=SortSt.mk' oneType' (keys.zip vs.toArray) #[] 7 none)
   (Q:=fun _ st'=>(arrOf st').Perm (keys.zip vs.toArray)/\failedOf st'=none/\SortedTo (arrOf st') (keys.zip vs.toArray).size)
   (ksk_intKeys hk) ⟨Array.Perm.refl _,rfl,rfl,rfl⟩ (by rw [hzs];omega) (by rw [hzs];exact h64) fun st' a1 a2 a3=>⟨a1,a2,a3⟩) ?_ fun _ _ e=>e)
  rintro ⟨⟨⟩,st'⟩ s' ⟨rfl,hp,hf,hs⟩
  try dsimp only
  exact skey_tail I fk fa nk na hka hk hlen h64 hp (by rw [hp.size_eq];exact hs) hf h
def KeyTurn (X:Cx) (pins:List (Addr × Obj)) (σ:St) (H:Hp) (A:Around) (f v:Value) (k:Int):Prop:=∀ s',Inv X pins σ H s'->
 wpAny (model X.prog X.w) A (call f [v]) (fun r s''=>∃ t,r=.int k t/\Inv X pins σ H s''/\∀ b o,FpOk X pins H b->s'.heap.get? b=some o->s''.heap.get? b=some o) (fun _ _=>False) s'
theorem skey_rest {f:Value} (I:Inv X pins σ H s) (fk:FpOk X pins H kS) (fa:FpOk X pins H a) (nk:s.heap.get? kS=some (seqObj "list" #[] 0)) (na:s.heap.get? a=some (seqObj "list" #[] e1)) (hka:kS≠a)
  (hlen:kz.length=vs.length) (h64:vs.length < 64) (turn:∀ (i:Nat) (v:Value) (k:Int),vs[i]?=some v->kz[i]?=some k->KeyTurn X pins σ H A f v k)
  (h:∀ s' out c,Inv X pins σ H s'->s'.heap.get? a=some (seqObj "list" out c)->KskOut false kz vs out.toList->P (.done (.ret .none)) s') :
  wpAny (model X.prog X.w) A (ksk_rest a f false vs.toArray e1 (.ref kS)) P E s:=by
 unfold ksk_rest;refine wpAny_bind (wpAny_rule ?_)
 first
  | rw [List.forIn_toArray]
  | (rw [<- Array.forIn_toList];simp only [List.toList_toArray])
  | rw [<- Array.forIn_toList]
 refine wpAny_bind (ksk_fold (fun i s'=>∃ kA e,Inv X pins σ H s'/\s'.heap.get? kS=some (seqObj "list" kA e)/\s'.heap.get? a=some (seqObj "list" #[] e1)/\IntsAre kA.toList (kz.take i)) vs 0 s
  ⟨#[],0,I,nk,na,by simpa using IntsAre.nil⟩ ?step ?done)
 case step =>
  rintro j x s' hx ⟨kA,e,I',nk',na',hk⟩;simp only [Nat.zero_add] at hk ⊢;have hj:j < vs.length:=(List.getElem?_eq_some_iff.mp hx).1;obtain ⟨k,hkj⟩:∃ k,kz[j]?=some k:=⟨_,getElem?_eq_getElem (by omega)⟩;have hz:kA.size<=vs.length:=by
   have h1:=hk.length;rw [length_toList,length_take] at h1;omega
  refine wpAny_bind (wpAny_attempt (wpAny_mono (turn j x k hx hkj s' I') (fun v s'' he=>?_) fun _ _ hF=>hF.elim));obtain ⟨t2,rfl,I2,keep⟩:=he
  try dsimp only
  have nk2:=keep _ _ fk nk';have na2:=keep _ _ fa na';have s1:=Heap.SameBut.update s''.heap kS (Obj.mapSeq (·.push (.int k t2)));obtain ⟨c2,hc2⟩:∃ c2,(s''.heap.update kS (Obj.mapSeq (·.push (.int k t2)))).get? kS=some (seqObj "list" (kA.push (.int k t2)) c2):=⟨_,get?_update_seq nk2 (·.push (.int k t2))⟩;have ek:kz.take (j + 1)=kz.take j ++ [k]:=by rw [List.take_add_one,hkj];simp
  have ea:(kA.push (Value.int k t2)).toList=kA.toList ++ [Value.int k t2]:=by simp
  refine wpAny_bind (listUpdate_at nk2 rfl ?_ (by rw [sizeLine_eq];omega) (Nat.le_trans (Nat.le_of_eq (Array.size_push ..)) (by rw [sizeLine_eq];omega)));exact wpAny_pure ⟨rfl,kA.push (.int k t2),c2,fp_turn (t':=s''.toks) I2 fk s1,hc2,(s1.2 a hka.symm).trans na2,by rw [ea,ek];exact ksk_snoc hk⟩
 case done =>
  rintro s' ⟨kA,e,I',nk',na',hk⟩;have hk':IntsAre kA.toList kz:=by
   have e3:kz.take (0 + vs.length)=kz:=take_of_length_le (by omega);rw [e3] at hk;exact hk
  try dsimp only
  refine wpAny_bind (listItems_at nk' rfl ?_);exact skey_end I' fk fa nk' na' hka hk' hlen h64 fun h3 tk3 out c I3 n3 k3=>h _ out c I3 n3 k3
theorem skey_sort {f:Value} {n:Nat} (I:Inv X pins σ H s) (fa:FpOk X pins H a) (ho:s.heap.get? a=some (seqObj "list" vs.toArray n))
  (hlen:kz.length=vs.length) (h64:vs.length < 64) (turn:∀ (i:Nat) (v:Value) (k:Int),vs[i]?=some v->kz[i]?=some k->KeyTurn X pins σ H A f v k)
  (h:∀ s' out c,Inv X pins σ H s'->s'.heap.get? a=some (seqObj "list" out c)->KskOut false kz vs out.toList->P (.done (.ret .none)) s') :
  wpAny (model X.prog X.w) A (ksk_tree a f false) P E s:=by
 have ha:a < s.heap.objs.size:=lt_size ho;have s1:=Heap.SameBut.update s.heap a (Obj.mapSeq fun _=>(#[]:Array Value));obtain ⟨e1,ho1⟩:∃ e1,(s.heap.update a (Obj.mapSeq fun _=>(#[]:Array Value))).get? a=some (seqObj "list" #[] e1):=⟨_,get?_update_seq ho fun _=>#[]⟩;have hkS:((s.heap.update a (Obj.mapSeq fun _=>(#[]:Array Value))).push (seqObj "tuple" vs.toArray 0)).objs.size=s.heap.objs.size + 1:=by rw [size_push',Heap.size_update]
 unfold ksk_tree;refine wpAny_bind (listItems_at ho rfl ?_);refine wpAny_bind (listUpdate_at ho rfl ?_ (by rw [size_toArray,sizeLine_eq];omega) (Nat.zero_le _));refine wpAny_bind (seqEpoch_at ho1 rfl ?_);refine wpAny_bind (wpAny_newTuple ?_ (by show vs.length<=_;rw [sizeLine_eq];omega));refine wpAny_bind (wpAny_newList ?_ (Nat.zero_le _));refine wpAny_holding ?_;have I1:Inv X pins σ H { s with heap:=s.heap.update a (Obj.mapSeq fun _=>(#[]:Array Value)) }:=fp_turn (t':=s.toks) I fa s1;have I2:Inv X pins σ H { s with heap:=((s.heap.update a (Obj.mapSeq fun _=>(#[]:Array Value))).push (seqObj "tuple" vs.toArray 0)).push (seqObj "list" #[] 0) }:=I1.kept (t':=s.toks) fun b o e=>get?_push_of_some _ (get?_push_of_some _ e);have fk:FpOk X pins H ((s.heap.update a (Obj.mapSeq fun _=>(#[]:Array Value))).push (seqObj "tuple" vs.toArray 0)).objs.size:=by
  rw [hkS];exact I.fpOk (Nat.le_succ _) (I.hok.fresh (Nat.le_succ _))
 exact skey_rest (s:={ s with heap:=((s.heap.update a (Obj.mapSeq fun _=>(#[]:Array Value))).push (seqObj "tuple" vs.toArray 0)).push (seqObj "list" #[] 0) }) I2 fk fa (get?_push_size _ rfl)
  (get?_push_of_some _ (get?_push_of_some _ ho1)) (by rw [hkS];exact Nat.ne_of_gt (Nat.lt_succ_of_lt ha)) hlen h64 turn h
end
def cxLam (X:Cx) (A:Around) (N:List Str) (qual:Str) (scope:Scope) (f:Addr) (cd:Value) (cl:List (Str × Addr)) (s:Shared) (H:Hp):Cx where
 prog:=X.prog
 w:=X.w
 K:=X.K
 mg:=X.mg
 base:=X.base
 A:=A.deeper (envX qual scope s.heap.objs.size f cd cl)
 N:=N
 s₀:=s
 H₀:=H
 env:=envX qual scope s.heap.objs.size f cd cl
 outer:=X.stack
 stack:=envX qual scope s.heap.objs.size f cd cl :: X.stack
 ex:=[]
 calm:=true
 fn:=fun _=>false
 pn:=[]
 xe:=fun _ _=>False
structure LamOk (X:Cx) (scope:Scope) (cl:List (Str × Addr)) (x:Str) (caps:List Str) (js:List Nat):Prop where
 co:scope.isCoroutine=false
 gen:scope.isGenerator=false
 kind:scope.kind=.function
 cell:∀ p∈scope.names,p.2≠.cell
 loc:scope.names.lookup x=some .local
 sub:∀ p∈cl,X.env.cells.lookup p.1=some p.2
 has:∀ p∈scope.names,p.2=.free->∃ c,cl.lookup p.1=some c
 len:caps.length=js.length
 caps:∀ (k:Nat) (c:Str),caps[k]?=some c->∃ (j:Nat) (a:Addr),js[k]?=some j/\X.N[j]?=some c/\X.env.scope.names.lookup c=some .cell/\cl.lookup c=some a/\scope.names.lookup c=some .free
section
variable {X:Cx} {pins:List (Addr × Obj)} {σ:St} {H:Hp} {A:Around} {s:Shared} {name qual:Str} {params:Arguments} {body:Expr} {scope:Scope} {cl:List (Str × Addr)} {pm ctv:Value} {c' f:Addr} {x:Str} {caps:List Str} {js:List Nat} {te:TE}
theorem inv_lam {v:V} {u:Value} (I:Inv X pins σ H s) (L:LamOk X scope cl x caps js) (hA:A.frames=some X.stack) (hd:A.handled=none) (r:RelV v u) {h₁:Heap}
  (hns:h₁.Ns s.heap.objs.size (fun y=>([(x,u)]:List (Str × Value)).reverse.lookup y)) (hsb:Heap.SameBut s.heap.objs.size (s.heap.push { cls:=.type "frame",data:=.dict #[] }) h₁) :
  Inv (cxLam X A (x :: caps) qual scope f (.ref c') cl s H) [] (some v :: capv σ js) H { s with heap:=h₁,toks:=s.toks + 1 }:=by
 have keep:∀ b o,s.heap.get? b=some o->h₁.get? b=some o:=fun b o e=>hsb.extBut b o (Nat.ne_of_lt (lt_size e)) (get?_push_of_some _ e);have e0:=I.env0;have noA:∀ b:Addr,b ∉ (cxLam X A (x :: caps) qual scope f (.ref c') cl s H).ex:=fun b z=>absurd (show b∈([]:List Addr) from z) (by simp);refine ⟨⟨e0.mod,L.kind,rfl,rfl,Nat.le_refl _,fun a b c h1 h2=>?_,fun a h=>?_,(fun _ _ h=>nomatch h),fun _=>hd,Around.frames_deeper hA,.inr ⟨rfl,rfl⟩,fun b z=>absurd z (noA b),e0.bs,e0.bsz,fun b _ _=>noA b,fun b z=>absurd z (noA b),e0.funs,e0.frf⟩,
  rfl,I.bare,Un.kept keep,⟨_,hns,fun k q w e1 e2 e3=>?_⟩,fun q c e=>?_,I.hok.fresh (Nat.le_refl _),fun q c e=>?_,fun p hp=>absurd (show p∈([]:List (Addr × Obj)) from hp) (by simp),I.hok.kept keep,?_⟩
 ·exact I.ok.inj a b c (L.sub _ (mem_of_lookup h1)) (L.sub _ (mem_of_lookup h2))
 ·have h:scope.names.lookup a=some .cell\/scope.names.lookup a=some .free:=h;rcases h with h | h
  ·exact absurd rfl (L.cell _ (mem_of_lookup h))
  ·exact L.has _ (mem_of_lookup h) rfl
 ·cases k with
  | zero =>
   have e1:some x=some q:=e1;cases e1;have e2:some (some v)=some (some w):=e2;cases e2;refine ⟨u,r,.inl ⟨L.loc,?_⟩⟩;show (([(x,u)]:List (Str × Value)).reverse.lookup x)=some u;simp
  | succ k =>
   have e1:(x :: caps)[k + 1]?=some q:=e1;have e1':caps[k]?=some q:=by simpa using e1
   have e2':(capv σ js)[k]?=some (some w):=by simpa using e2
   obtain ⟨j,a,q1,q2,q3,q4,q5⟩:=L.caps k q e1';obtain ⟨j',r1,r2⟩:=J2p e2';rw [q1] at r1;cases r1;obtain ⟨m,hm,hl⟩:=I.loc;obtain ⟨u',ru,lu⟩:=hl j q w q2 r2 (.inr (.inl q3));refine ⟨u',ru,.inr ⟨.inr q5,a,q4,?_⟩⟩;rcases lu with ⟨k1,_⟩ | ⟨_,c,ec,o,ho,hd'⟩
   ·have k1':X.env.scope.names.lookup q=some .local:=k1;rw [q3] at k1';cases k1'
   ·have:=L.sub _ (mem_of_lookup q4);rw [ec] at this;cases this;exact ⟨o,keep _ _ ho,hd'⟩
 ·obtain ⟨w,o,ho,hd'⟩:=I.cell q c (L.sub _ (mem_of_lookup e));exact ⟨w,o,keep _ _ ho,hd'⟩
 ·exact I.freeC q c (L.sub _ (mem_of_lookup e))
 ·show (some v :: capv σ js).length=(x :: caps).length;unfold capv;simp [L.len]
theorem lam_turn {v:V} {u:Value} {k:Int} (I:Inv X pins σ H s) (L:LamOk X scope cl x caps js) (hA:A.frames=some X.stack) (hd:A.handled=none) (hroom:A.depth < recursionLimit) (r:RelV v u)
  (ho:s.heap.get? f=some (kla_obj name qual params body scope cl pm c' ctv)) (hcd:s.heap.CodeRec (.ref c') qual)
  (hbind:bindArgs (kla_fn name qual params body scope cl pm (.ref c') ctv) ⟨[u],[]⟩=pure [(x,u)])
  (he:PE (cxLam X A (x :: caps) qual scope f (.ref c') cl s H) body te) (q:te (some v :: capv σ js) H fun y H'=>y=.int k/\H'=H) :
  wpAny (model X.prog X.w) A (call (.ref f) [u]) (fun r s''=>∃ t,r=.int k t/\Inv X pins σ H s''/\∀ b o,FpOk X pins H b->s.heap.get? b=some o->s''.heap.get? b=some o) (fun _ _=>False) s:=by
 have lim:s.heap.NoLimit:=I.env0.mod.nolimit.keeps fun b o e=>(I.env0.bs b o e).1;refine wpAny_call (kla_callFunE hroom ho rfl L.co L.gen rfl hcd ?_);rw [hbind];refine wpAny_pure (wpAny_newFunctionEnv L.cell (fun y hy=>by
  have hy:y=(x,u):=by simpa using hy
  rw [hy];exact L.loc) (fun h₁ hns hsb=>⟨lim.fresh _ hsb,?_⟩) L.kind)
 refine kla_codeExpr ?_;have J:=inv_lam (qual:=qual) (f:=f) (c':=c') I L hA hd r hns hsb;refine wpAny_mono (he [] _ _ H _ J q) (fun z s' h'=>?_) fun _ _ h'=>h'.elim;obtain ⟨y,H',J',ry,ey,eH⟩:=h';rw [eH] at J';rw [ey] at ry;obtain ⟨t,rfl⟩:=ry;obtain ⟨v2,H2,I2,r2,e2,e3⟩:=I.after (Q:=fun y H'=>y=.int k/\H'=H) (u:=.int k t) (s':=s') ⟨.int k,H,J'.os,J'.bare,J'.base,J'.hok,⟨t,rfl⟩,rfl,rfl⟩;rw [e3] at I2;refine ⟨t,rfl,I2,fun b o fb e=>J'.base.keep b o e fb.1 (fun z=>?_) (fun z=>absurd (show b∈([]:List Addr) from z) (by simp))⟩;rcases mem_cons.mp (I.stkSub b z) with z | z
 ·exact fb.2.1 z
 ·exact fb.2.2.1 z
end
structure TabOk (H:Hp) (P:Addr) (pos:Pos) (qual:Str):Prop where
 ex:∃ ps,H P=some (.tbl ps)/\TriplesOk ps.toList/\∀ cv,codeAmong pos ps.toList=some cv->∃ c' oc vs t,cv=.ref c'/\H c'=some (.frz oc (.own c'))/\oc.data=.fields vs/\vs[1]?=some (.str qual t)
def isTbl:HO->Bool
 | .tbl _=>true
 | _=>false
def SameT (H H':Hp):Prop:=∀ b u,H b=some u->isTbl u=false->H' b=some u
structure BltAt (base:Heap) (mg:Str->Option Value) (P:Addr):Prop where
 ex:∃ bm o,mg "__builtins__"=some (.ref bm)/\bm≠builtinsNs/\bm≠mainGlobals/\bm≠P/\base.get? bm=some o/\o.cls=.type "module"/\o.dict=some builtinsNs/\o.data=.plain
section
variable {X:Cx} {pins:List (Addr × Obj)} {σ:St} {H:Hp} {A:Around} {s:Shared} {params:Arguments} {body:Expr} {scope:Scope} {cl:List (Str × Addr)} {c P:Addr} {pos:Pos}
theorem lam_make {Q:Value->Shared->Prop} {E:Value->Shared->Prop} (I:Inv X pins σ H s) (hdef:defaultsOf params X.env=([],[])) (hcl:closureFor scope X.env=pure cl) (hcode:X.env.code=.ref c) (C:codeHdIn X.K c P=true) (B:BltAt X.base X.mg P) (T:TabOk H P pos (X.env.qual ++ "<lambda>"))
  (h:∀ f c' ctv H' s',Inv X pins σ H' s'->s'.heap.get? f=some (kla_obj "<lambda>" (X.env.qual ++ "<lambda>") params body scope cl ((X.mg "__name__").getD .none) c' ctv)->FpOk X pins H' f->(∃ oc vs t,H' c'=some (.frz oc (.own c'))/\oc.data=.fields vs/\vs[1]?=some (.str (X.env.qual ++ "<lambda>") t))->
   SameT H H'->TabOk H' P pos (X.env.qual ++ "<lambda>")->(∀ Q pos' qual',Q≠P->TabOk H Q pos' qual'->TabOk H' Q pos' qual')->(∀ b,b < s.heap.objs.size->H b=none->H' b=none)->Q (.ref f) s') :
  wpAny (model X.prog X.w) A (eval (.Lambda params body scope pos) X.env) Q E s:=by
 obtain ⟨ps,hP,ht,hc⟩:=T.ex;obtain ⟨bm,ob,b1,b2,b3,b4,b5,b6,b7,b8⟩:=B.ex;have KX:X.K.In s.heap:=I.env0.mod.kin.keeps fun b o e=>(I.env0.bs b o e).1;have hgs:s.heap.Ns mainGlobals X.mg:=by obtain ⟨o,es,ep,e,r⟩:=I.env0.mod.glob;exact ⟨o,es,ep,(I.env0.bs _ _ e).1,r⟩
 have hPh:s.heap.get? P=some (tabObj ps):=I.hok P _ hP;have hbA:s.heap.BuiltinsAt X.mg P:=⟨bm,ob,b1,b2,b3,b4,(I.env0.bs _ _ b5).1,b6,b7,b8⟩;have hgP:mainGlobals≠P:=fun q=>by
  obtain ⟨o,es,ep,e,hd,_⟩:=hgs;rw [q,hPh] at e;cases e;cases hd
 have CH:=codeHd_of_K KX C;refine kla_eval hdef ?_
 cases ca:codeAmong pos ps.toList with
 | none =>
  refine kla_makeFunction (mg:=X.mg) hcl I.ok.glob hgs hcode CH hPh ht ca hgP hbA fun c' ctv h' tk hx hge hlt hrec htb=>?_;obtain ⟨c2,oc,vs,t,e2,hoc,hd,hv⟩:=hrec;obtain rfl:c'=c2:=by cases e2;rfl
  have hn:H c'=none:=I.hok.fresh hge;have hPc:P≠c':=Nat.ne_of_lt (Nat.lt_of_lt_of_le (lt_size hPh) hge);obtain ⟨H',eH⟩:∃ H',H'=upd (upd H c' (.frz oc (.own c'))) P (.tbl (ps ++ #[rawInt pos.line,rawInt pos.col,.ref c'])):=⟨_,rfl⟩;have hP':H' P=some (.tbl (ps ++ #[rawInt pos.line,rawInt pos.col,.ref c'])):=by rw [eH,J1]
  have hc':H' c'=some (.frz oc (.own c')):=by rw [eH,Ja hPc.symm,J1]
  have oth:∀ b,b≠P->b≠c'->H' b=H b:=fun b n1 n2=>by rw [eH,Ja n1,Ja n2]
  have old:∀ b o,s.heap.get? b=some o->b≠c':=fun b o e=>Nat.ne_of_lt (Nat.lt_of_lt_of_le (lt_size e) hge);have tr:∀ b u,H b=some u->b≠c':=fun b u e=>J6 e hn;have kp:∀ b o,b≠P->s.heap.get? b=some o->(h'.push (kla_obj "<lambda>" (X.env.qual ++ "<lambda>") params body scope cl ((X.mg "__name__").getD .none) c' ctv)).get? b=some o:=fun b o n e=>get?_push_of_some _ (hx b o n e);have hokN:HOk X.prog X.w H' (h'.push (kla_obj "<lambda>" (X.env.qual ++ "<lambda>") params body scope cl ((X.mg "__name__").getD .none) c' ctv)):=fun b u e=>by
   by_cases e1:b=P
   ·subst e1;rw [hP'] at e;cases e;exact get?_push_of_some _ htb
   ·by_cases e2:b=c'
    ·subst e2;rw [hc'] at e;cases e;exact ⟨get?_push_of_some _ hoc,_,get?_push_of_some _ hoc⟩
    ·rw [oth b e1 e2] at e;refine (I.hok b u e).stay (fun d v hd q=>kp d v ?_ q) (fun d q=>?_) fun d xs q=>?_
     ·rcases hd with rfl | hd
      ·exact e1
      ·intro z;rw [z,hP] at hd;cases hd
     ·rw [oth d (fun z=>by rw [z,hP] at q;cases q) (tr _ _ q)];exact q
     ·rw [oth d (fun z=>by rw [z,hP] at q;cases q) (tr _ _ q)];exact q
  have un:Un X.fs [] H H' s.heap (h'.push (kla_obj "<lambda>" (X.env.qual ++ "<lambda>") params body scope cl ((X.mg "__name__").getD .none) c' ctv)):=by
   refine ⟨fun b o e n _ _=>kp b o (fun z=>by rw [z,hP] at n;cases n) e,fun b o e n _ _=>⟨o.slots,kp b o (fun z=>by rw [z,hP] at n;cases n) e⟩,fun b o e n _=>?_,fun b o e _=>?_,fun b xs e=>?_,fun b o u e=>?_,fun b qs e=>?_⟩
   ·rw [oth b (fun z=>by rw [z,hP] at n;cases n) (old b o e)];exact n
   ·by_cases z:b=P
    ·rw [z];exact ⟨_,get?_push_of_some _ htb⟩
    ·exact ⟨o,kp b o z e⟩
   ·rw [oth b (fun z=>by rw [z,hP] at e;cases e) (tr _ _ e)];exact e
   ·rw [oth b (fun z=>by rw [z,hP] at e;cases e) (tr _ _ e)];exact e
   ·by_cases z:b=P
    ·rw [z,hP] at e;cases e;exact ⟨_,by rw [z];exact hP'⟩
    ·exact ⟨#[],by rw [oth b z (tr _ _ e),e];simp⟩
  have hsz:s.heap.objs.size<=h'.objs.size:=Nat.le_trans hge (Nat.le_of_lt hlt);have hfn:H' h'.objs.size=none:=by
   rw [oth _ (Nat.ne_of_gt (Nat.lt_of_lt_of_le (lt_size hPh) hsz)) (Nat.ne_of_gt hlt)];exact I.hok.fresh hsz
  refine h _ c' ctv H' _ (I.un (t':=tk) un hokN) (get?_push_size _ rfl) (I.fpOk hsz hfn) ⟨oc,vs,t,hc',hd,hv⟩ (fun b u e z=>?_) ⟨_,hP',?_,fun cv e=>?_⟩ (fun Q pos' qual' nQ TQ=>?_) (fun b hb n=>?_)
  ·rw [oth b (fun q=>by rw [q,hP] at e;cases e;cases z) (tr _ _ e)];exact e
  ·rw [Array.toList_append];exact TriplesOk_snoc _ _ _ _ ht
  ·rw [Array.toList_append] at e;have e':codeAmong pos (ps.toList ++ [rawInt pos.line,rawInt pos.col,.ref c'])=some cv:=e;rw [codeAmong_snoc _ ht ca] at e';cases e';exact ⟨c',oc,vs,t,rfl,hc',hd,hv⟩
  ·obtain ⟨qs,q1,q2,q3⟩:=TQ.ex;refine ⟨qs,by rw [oth Q nQ (tr _ _ q1)];exact q1,q2,fun cv e=>?_⟩;obtain ⟨d,od,ws,t',r1,r2,r3,r4⟩:=q3 cv e;exact ⟨d,od,ws,t',r1,by rw [oth d (fun z=>by rw [z,hP] at r2;cases r2) (tr _ _ r2)];exact r2,r3,r4⟩
  ·rw [oth b (fun z=>by rw [z,hP] at n;cases n) (Nat.ne_of_lt (Nat.lt_of_lt_of_le hb hge))];exact n
 | some cv =>
  obtain ⟨c',oc,vs,t,rfl,hcH,hd,hv⟩:=hc cv ca;refine kla_makeFunctionHit (mg:=X.mg) hcl I.ok.glob hgs hcode CH hPh ht ca hbA fun ctv h' tk hk hsz=>?_;have kp:∀ b o,s.heap.get? b=some o->(h'.push (kla_obj "<lambda>" (X.env.qual ++ "<lambda>") params body scope cl ((X.mg "__name__").getD .none) c' ctv)).get? b=some o:=fun b o e=>get?_push_of_some _ (hk b o e);exact h _ c' ctv H _ (I.kept (t':=tk) kp) (get?_push_size _ rfl) (I.fpOk hsz (I.hok.fresh hsz)) ⟨oc,vs,t,hcH,hd,hv⟩ (fun b u e _=>e) T (fun _ _ _ _ T=>T) (fun _ _ n=>n)
end
end L2
namespace L2
open PySem PySem.Spec PySem.Calls PyProof.Rows PySem.W
section
variable {prog:Program} {w:World} {A:Around} {E:Value->Shared->Prop} {s:Shared}
theorem J3x {r:Addr} {n:Nat} {t u v:Tok} {Q:List Value->Shared->Prop} (hh:A.handled=none) (hr:IsRange s.heap r 0 (n:Int) 1 t u v) (hn:n<=1000)
  (h:∀ h' tk (acc:Array Value),(∀ b o,s.heap.get? b=some o->h'.get? b=some o)->ItemsOf (fun i v=>∃ t,v=.int (0 + (i:Int) * 1) t) acc n->Q acc.toList { s with heap:=h',toks:=tk }) :
  wpAny (model prog w) A (collect (.ref r)) Q E s:=by
 unfold collect;refine wpAny_bind (wpAny_runValue (codeAny_builtin PySem.F.entry_proto_collect ?_));rw [Around.under_plainId PySem.F.plain_proto_collect _];show wpAny _ A.in1 (newList [] >>= fun l=>again (.builtin "list.__iadd__" ⟨[l,.ref r],[]⟩)) _ _ s;refine wpAny_bind (wpAny_newObj_type ?_);refine wpAny_pure ⟨plainId_quiet PySem.F.plain_list_iadd _,codeAny_builtin PySem.F.entry_list_iadd ?_⟩;rw [Around.under_plainId PySem.F.plain_list_iadd _];have hS:(s.heap.push { cls:=.type "list",data:=.seq ([]:List Value).toArray }).get? s.heap.objs.size=some { cls:=.type "list",data:=.seq ([]:List Value).toArray }:=get?_push_size _ rfl;show wpAny _ A.in1 (Builtin.List.listExtendWith (.ref s.heap.objs.size) (.ref r) (.ref s.heap.objs.size)) _ _ _;refine wpAny_extend_range (A:=A) (prog:=prog) (w:=w) (R:=fun (res:Result) s'=>match res with
  | .ok (.ret v)=>wpAny (model prog w) A (match v with
   | .ref a=>do
    let o <- load a
    match o.data with
    | .seq xs _=>pure xs.toList
    | _=>unsupported "internal:collect"
   | _=>unsupported "internal:collect") Q E s'
  | .ok _=>False
  | .error e=>E e s') (s:={ s with heap:=s.heap.push { cls:=.type "list",data:=.seq ([]:List Value).toArray } }) hh (get?_push_of_some _ hr) (small_one (a:=0) (b:=(n:Int)) (by omega) (by omega) (by omega) (by omega)) (n:=n) (by rw [rangeSize_one];split <;> omega) (by omega) s.heap.objs.size _ _ hS fun h' tk acc' c' hk hS' hacc=>?_
 show wpAny _ A (load s.heap.objs.size >>= _) _ _ _;refine wpAny_bind (wpAny_load hS' ?_);exact wpAny_pure (h h' tk acc' (fun b o e=>hk b o (Nat.ne_of_lt (lt_size e)) (get?_push_of_some _ e)) hacc)
end
section
variable {X:Cx} {pins:List (Addr × Obj)} {σ:St} {H:Hp} {A:Around} {E:Value->Shared->Prop} {s:Shared} {vs:List Value} {kz:List Int}
theorem skey_col {f:Addr} {l:Addr} {xs:List V} {Q:Value->Shared->Prop} (hlen:kz.length=xs.length) (h64:xs.length < 64)
  (col:wpAny (model X.prog X.w) A.in1 (collect (.ref l)) (fun ws s1=>Vals xs ws/\Inv X pins σ H s1) E s)
  (turn:∀ (i:Nat) (y:V) (v:Value) (k:Int),xs[i]?=some y->RelV y v->kz[i]?=some k->KeyTurn X pins σ H A.in1.in1 (.ref f) v k)
  (h:∀ s' D out c us,Vals xs us->Inv X pins σ H s'->FpOk X pins H D->X.s₀.heap.objs.size<=D->s'.heap.get? D=some (seqObj "list" out c)->KskOut false kz us out.toList->Q (.ref D) s') :
  wpAny (model X.prog X.w) A (call (.builtin "sorted") [.ref l] [(Str.ofString "key",.ref f)]) Q E s:=by
 refine call_function_entry_kw kind_sorted plain_sorted entry_sorted (ksk_s1 _ _) ?_;unfold Builtin.«sorted»;refine wpAny_bind (m:=checkCount "sorted" 1 1 _) (wpAny_pure ?_);refine wpAny_bind (wpAny_mono col (fun vs s1 h9=>?_) fun _ _ x=>x);obtain ⟨r,I1⟩:=h9;have lv:=r.length;refine wpAny_bind (wpAny_newList ?_ (by rw [sizeLine_eq];omega));have hoL:(s1.heap.push (seqObj "list" vs.toArray 0)).get? s1.heap.objs.size=some (seqObj "list" vs.toArray 0):=get?_push_size _ rfl;have fD:FpOk X pins H s1.heap.objs.size:=I1.fpOk (Nat.le_refl _) (I1.hok.fresh (Nat.le_refl _));have hz:X.s₀.heap.objs.size<=s1.heap.objs.size:=I1.sz;show wpAny _ _ _ _ _ { s1 with heap:=s1.heap.push (seqObj "list" vs.toArray 0) };refine wpAny_bind (wpAny_holding (wpAny_call_entry_kw slot_list_sort ⟨_,hoL,rfl⟩ entry_list_sort ?body (ksk_l1 _ _)))
 case body =>
  show wpAny (model X.prog X.w) A.in1.in1 (Builtin.«list.sort» ⟨[.ref s1.heap.objs.size],[(Str.ofString "key",.ref f)]⟩) _ _ _;rw [ksk_t1];refine skey_sort (s:={ s1 with heap:=s1.heap.push (seqObj "list" vs.toArray 0) })
   (I1.kept (t':=s1.toks) fun b o e=>get?_push_of_some _ e) fD hoL (show kz.length=vs.length by omega) (by omega) (fun i v k e1 e2=>?_) fun s' out c I' n' k'=>⟨_,rfl,?_⟩
  ·obtain ⟨y,ey⟩:∃ y,xs[i]?=some y:=by
    have hi:i < vs.length:=(List.getElem?_eq_some_iff.mp e1).1;exact ⟨xs[i]'(by omega),getElem?_eq_getElem _⟩
   obtain ⟨u,eu,ru⟩:=r.get ey;rw [e1] at eu;cases eu;exact turn i y v k ey ru e2
  ·exact wpAny_pure ⟨_,rfl,h s' _ out c vs r I' fD hz n' k'⟩
theorem Inv.adopt {D:Addr} {o:HO} (I:Inv X pins σ H s) (f:FpOk X pins H D) (hz:X.s₀.heap.objs.size<=D) (new:ObjOk X.prog X.w (upd H D o) s.heap D o):Inv X pins σ (upd H D o) s:=by
 obtain ⟨f1,f2,f3,f4,f5,f6⟩:=f;have nn:∀ b u,H b=some u->b≠D:=fun b u e z=>by rw [z,f1] at e;cases e
 have kp:∀ b u,H b=some u->upd H D o b=some u:=fun b u e=>by rw [Ja (nn b u e)];exact e
 refine ⟨I.ok,I.os,I.bare,⟨I.base.keep,I.base.slot,fun b ob q n hx=>?_,I.base.there,fun b xs q=>kp _ _ (I.base.tups b xs q),fun b ob u q=>kp _ _ (I.base.frzs b ob u q),fun b ps q=>?_⟩,I.loc,I.cell,?_,fun x c e=>?_,fun p hp=>?_,fun b u e=>?_,I.len⟩
 ·rw [Ja (Nat.ne_of_lt (Nat.lt_of_lt_of_le (lt_size q) hz))];exact I.base.free b ob q n hx
 ·obtain ⟨more,e⟩:=I.base.tbls b ps q;exact ⟨more,kp _ _ e⟩
 ·rw [Ja (Ne.symm f2)];exact I.free
 ·rw [Ja (f5 x c e)];exact I.freeC x c e
 ·obtain ⟨p1,p2,p3⟩:=I.pin p hp;exact ⟨p1,by rw [Ja (f6 p hp)];exact p2,p3⟩
 ·by_cases hb:b=D
  ·subst hb;rw [J1] at e;cases e;exact new
  ·rw [Ja hb] at e;exact (I.hok b u e).stay (fun c v _ q=>q) (fun c q=>kp _ _ q) fun c xs q=>kp _ _ q
end
theorem J4b {α β:Type} {f:α->β} {ps qs:List β} (p:ps.Perm qs):∀ {z:List α},qs=z.map f->∃ zs:List α,zs.Perm z/\ps=zs.map f:=by
 induction p with
 | nil =>
  intro z e
  cases z with
  | nil=>exact ⟨[],.refl _,rfl⟩
  | cons a r=>cases e
 | cons x _ ih =>
  intro z e
  cases z with
  | nil=>cases e
  | cons a r =>
   rw [map_cons] at e;obtain ⟨e1,e2⟩:=List.cons.inj e;obtain ⟨zs,h1,h2⟩:=ih e2;exact ⟨a :: zs,.cons a h1,by rw [map_cons,<- h2,<- e1]⟩
 | swap x y l =>
  intro z e
  match z,e with
  | [],e=>cases e
  | [a],e=>simp at e
  | a :: b :: r,e =>
   simp only [map_cons,List.cons.injEq] at e;exact ⟨b :: a :: r,.swap _ _ _,by rw [map_cons,map_cons,e.1,e.2.1,e.2.2]⟩
 | trans _ _ ih1 ih2 =>
  intro z e;obtain ⟨z1,h1,h2⟩:=ih2 e;obtain ⟨z2,h3,h4⟩:=ih1 h2;exact ⟨z2,h3.trans h1,h4⟩
theorem vals_trip:∀ {ks:List Int} {xs:List V} {us:List Value},ks.length=xs.length->Vals xs us->
  ∃ z:List (Int × V × Value),z.map (fun t=>(t.1,t.2.1))=ks.zip xs/\z.map (fun t=>(t.1,t.2.2))=ks.zip us/\∀ t∈z,RelV t.2.1 t.2.2
 | [],[],_,_,.nil=>⟨[],rfl,rfl,fun _ h=>by simp at h⟩
 | k :: ks,x :: xs,u :: us,hl,.cons r rs=>by
  obtain ⟨z,h1,h2,h3⟩:=vals_trip (ks:=ks) (by simpa using hl) rs;refine ⟨(k,x,u) :: z,by simp [h1],by simp [h2],fun t ht=>?_⟩;rcases mem_cons.mp ht with rfl | ht
  ·exact r
  ·exact h3 t ht
theorem J2f:∀ {z:List (Int × V × Value)},(∀ t∈z,RelV t.2.1 t.2.2)->Vals ((z.map (fun t=>(t.1,t.2.1))).map Prod.snd) ((z.map (fun t=>(t.1,t.2.2))).map Prod.snd)
 | [],_=>.nil
 | a :: r,h=>.cons (h a (mem_cons_self ..)) (J2f fun t ht=>h t (mem_cons_of_mem _ ht))
theorem kskV {ks:List Int} {xs:List V} {us out:List Value} (hl:ks.length=xs.length) (r:Vals xs us) (k:KskOut false ks us out) :
  ∃ ys:List (Int × V),ys.Perm (ks.zip xs)/\Vals (ys.map Prod.snd) out/\ys.Pairwise (fun p q=>p.1<=q.1):=by
 obtain ⟨ps,p1,rfl,p3⟩:=k;obtain ⟨z,h1,h2,h3⟩:=vals_trip hl r;rw [<- h2] at p1;obtain ⟨zs,q1,rfl⟩:=J4b p1 rfl;refine ⟨zs.map fun t=>(t.1,t.2.1),by rw [<- h1];exact q1.map _,J2f fun t ht=>h3 t (q1.mem_iff.mp ht),?_⟩;rw [pairwise_map] at p3 ⊢;exact p3.imp fun h=>by simpa using h
def SrtOf (H:Hp) (p:Addr) (xs:List V):Prop:=H p=some (.lst xs)\/∃ n:Nat,H p=some (.rng 0 (n:Int))/\xs=(List.range n).map fun (i:Nat)=>V.int (i:Int)
def srtR (P:Addr) (pos:Pos) (qual:Str) (js:List Nat) (te:TE) (σ:St) (Q:VK) (v:V) (H1:Hp):Prop:=∃ (p:Addr) (xs:List V) (ks:List Int),v=.ref p/\SrtOf H1 p xs/\xs.length < 64/\ks.length=xs.length/\TabOk H1 P pos qual/\
 (∀ H2,SameT H1 H2->∀ (i:Nat) (y:V) (k:Int),xs[i]?=some y->ks[i]?=some k->te (some y :: capv σ js) H2 fun z H3=>z=.int k/\H3=H2)/\
 ∀ H2 l (ys:List (Int × V)),SameT H1 H2->TabOk H2 P pos qual->(∀ Q' pos' qual',Q'≠P->TabOk H1 Q' pos' qual'->TabOk H2 Q' pos' qual')->H2 l=none->ys.Perm (ks.zip xs)->ys.Pairwise (fun a b=>a.1<=b.1)->Q (.ref l) (upd H2 l (.lst (ys.map Prod.snd)))
def tSortK (P:Addr) (pos:Pos) (qual:Str) (js:List Nat) (te t1:TE):TE:=fun σ H Q=>t1 σ H (srtR P pos qual js te σ Q)
section
variable {X:Cx} {params:Arguments} {body e1:Expr} {scope:Scope} {cl:List (Str × Addr)} {c P:Addr} {lpos kp p pos:Pos} {x:Str} {caps:List Str} {js:List Nat} {te t1:TE}
theorem J4c (hc:X.calm=true) (hr:Room 1 X.A) (hg:Gl X "sorted") (hm:X.mg "sorted"=none)
  (hdef:defaultsOf params X.env=([],[])) (hcl:closureFor scope X.env=pure cl) (hcode:X.env.code=.ref c) (C:codeHdIn X.K c P=true) (B:BltAt X.base X.mg P)
  (L:LamOk X scope cl x caps js) (hbind:∀ u pm cdv ctv,bindArgs (kla_fn "<lambda>" (X.env.qual ++ "<lambda>") params body scope cl pm cdv ctv) ⟨[u],[]⟩=pure [(x,u)])
  (he:∀ A f c' s H,PE (cxLam X A (x :: caps) (X.env.qual ++ "<lambda>") scope f (.ref c') cl s H) body te)
  (h1:PE X e1 t1)
  (hs:starEach [e1] X.env=(false,eval e1 X.env) :: starEach [] X.env:=by rfl) :
  PE X (.Call (.Name "sorted" p) [e1] [⟨some "key",.Lambda params body scope lpos,kp⟩] pos) (tSortK P lpos (X.env.qual ++ "<lambda>") js te t1):=by
 intro pins s σ H Q I h;refine wpAny_Call_Name_kw (J4k I hg hm rfl ?_ (by decide) (by decide));refine PyProof.Rows.callWith_kw ?_ (by rw [hs];rfl) (by rw [hs];rfl);refine thn ((J0 h1 J4 hs) pos pins s σ H (fun vs H1=>match vs with
  | [v]=>srtR P lpos (X.env.qual ++ "<lambda>") js te σ Q v H1
  | _=>False) I h) fun us s1 ⟨vs,H1,I1,r1,q1⟩=>?_
 match vs,r1,q1 with
 | [v],r1,q1 =>
  obtain ⟨q,xs,ks,rfl,hS,h64,hk,T,ht,fin⟩:=q1;obtain ⟨u,rfl,rx⟩:=vals1 r1;cases rx;refine kws_cons (lam_make I1 hdef hcl hcode C B T fun f c' ctv H2 s2 I2 ho ff cd sT T2 TQ nn=>kws_nil ?_);obtain ⟨oc,ws,t,e1,e2,e3⟩:=cd;show wpAny _ _ (call (.builtin "sorted") [.ref q] [(Str.ofString "key",.ref f)]) _ _ s2;have I3:Inv X ((f,kla_obj "<lambda>" (X.env.qual ++ "<lambda>") params body scope cl ((X.mg "__name__").getD .none) c' ctv) :: pins) σ H2 s2:=I2.pins_of fun p hp=>(mem_cons.mp hp).elim (fun z=>by
   rw [z];exact ⟨ho,ff.1,ff.2.1,ff.2.2.1,fun v q=>by cases q⟩) fun z=>I2.pin p (mem_append_right _ z)
  refine skey_col (pins:=(f,kla_obj "<lambda>" (X.env.qual ++ "<lambda>") params body scope cl ((X.mg "__name__").getD .none) c' ctv) :: pins) (σ:=σ) (H:=H2) hk h64 ?_ (fun i y v k ey ry ek s' I'=>?_) fun s' D out cc us' ru I' fD hz hD kk=>?_
  ·rcases hS with hS | ⟨n,hS,rfl⟩
   ·obtain ⟨its,r',pl,hz⟩:=I3.list (.inl (.inl (sT _ _ hS rfl)));refine collect_list pl.isList ⟨r',I3.kept (t':=s2.toks) fun b o e=>?_⟩ (by rw [sizeLine_eq];have:=r'.length;omega);have hlt:b < s2.heap.objs.size:=lt_size e;rw [Heap.get?_update_ne _ _ _ _ (Nat.ne_of_lt hlt),Heap.get?_push_ne _ _ _ (Nat.ne_of_lt hlt)];exact e
   ·obtain ⟨t,u,v,e⟩:=I3.hok q _ (sT _ _ hS rfl);refine J3x (I3.ok.hd hc) (show IsRange s2.heap q 0 (n:Int) 1 t u v from e) (by rw [length_map,length_range] at h64;omega) fun h' tk acc hkp hacc=>⟨J1i (by rw [length_toList];exact hacc.1) fun i v e=>?_,I3.kept (t':=tk) hkp⟩;obtain ⟨t,rfl⟩:=hacc.2 i v (by simpa using e);exact ⟨t,by simp⟩
  ·have po:=(I'.pin _ (mem_append_right _ (mem_cons_self ..))).1;have cr:s'.heap.CodeRec (.ref c') (X.env.qual ++ "<lambda>"):=⟨c',oc,ws,t,rfl,(I'.hok c' _ e1).1,e2,e3⟩;exact lam_turn I' L I'.ok.frames (I'.ok.hd hc) hr.depth ry po cr (hbind _ _ _ _) (he _ _ _ _ _) (ht H2 sT i y k ey ek)
  ·obtain ⟨ys,y1,y2,y3⟩:=kskV hk ru kk;have len:(ys.map Prod.snd).length<=sizeLine:=by
    rw [length_map,y1.length_eq,List.length_zip,sizeLine_eq];omega
   have J:=I'.adopt (o:=.lst (ys.map Prod.snd)) fD hz ⟨len,out.toList,cc,y2,hD⟩;exact ⟨.ref D,_,J.pins_of fun p hp=>J.pin p (mem_append_right _ (mem_cons_of_mem _ hp)),rfl,fin H2 D ys sT T2 TQ fD.1 y1 y3⟩
end
end L2
namespace L2
open PySem PySem.Spec PySem.Calls PyProof.Rows PySem.W
def adC (cl:List (Str × Addr)):List Addr:=cl.map Prod.snd
def dropC (cl:List (Str × Addr)) (H:Hp):Hp:=fun b=>if b∈adC cl then none else H b
def lendC (cl:List (Str × Addr)) (oc:Addr->Obj) (H:Hp):Hp:=fun b=>if b∈adC cl then some (.frz (oc b) (.own b)) else H b
def restC (cl:List (Str × Addr)) (H H':Hp):Hp:=fun b=>if b∈adC cl then H b else H' b
def FrC (cl:List (Str × Addr)) (H:Hp):Prop:=∀ b∈adC cl,∃ o,H b=some (.frz o (.own b))
section
variable {cl:List (Str × Addr)} {H H' H2:Hp} {oc:Addr->Obj} {b:Addr} {P:Program} {w:World} {K:PySem.W.Frag} {mg:Str->Option Value} {base:Heap} {A:Around} {outer:List Env} {s s':Shared} {h:Heap}
theorem J2n (hb:b∈adC cl):dropC cl H b=none:=if_pos hb
theorem Jv (hb:b ∉ adC cl):dropC cl H b=H b:=if_neg hb
theorem J1u (hb:b∈adC cl):lendC cl oc H b=some (.frz (oc b) (.own b)):=if_pos hb
theorem Jz (hb:b ∉ adC cl):lendC cl oc H b=H b:=if_neg hb
theorem J48 (hb:b∈adC cl):restC cl H H' b=H b:=if_pos hb
theorem J1c (hb:b ∉ adC cl):restC cl H H' b=H' b:=if_neg hb
theorem J1l (n:H b=none):dropC cl H b=none:=by
 unfold dropC;split
 ·rfl
 ·exact n
theorem FrC.out (fr:FrC cl H) {u:HO} (e:H b=some u) (n:∀ o,u≠.frz o (.own b)):b ∉ adC cl:=fun z=>by
 obtain ⟨o,q⟩:=fr b z;rw [e] at q;cases q;exact n o rfl
theorem HOk.dropC (x:HOk P w H h) (fr:FrC cl H):HOk P w (dropC cl H) h:=fun b u e=>by
 by_cases hb:b∈adC cl
 ·rw [J2n hb] at e;cases e
 ·rw [Jv hb] at e;refine (x b u e).stay (fun _ _ _ q=>q) (fun c q=>?_) fun c xs q=>?_
  ·rw [Jv (fr.out q (fun _ z=>by cases z))];exact q
  ·rw [Jv (fr.out q (fun _ z=>by cases z))];exact q
theorem Env0.dropC (e0:Env0 P w K mg base A outer s H) (fr:FrC cl H):Env0 P w K mg base A outer s (dropC cl H) :=
 ⟨e0.frames,e0.mod,fun b o e=>⟨(e0.bs b o e).1,J1l (e0.bs b o e).2⟩,e0.bsz,e0.funs,fun b hb=>J1l (e0.frf b hb),e0.hok.dropC fr,e0.bare⟩
theorem CE.rest {Q:VK} {u:Value} (e0:Env0 P w K mg base A outer s H) (fr:FrC cl H) (h:CE outer P w (L2.dropC cl H) s (fun y H2=>Q y (restC cl H H2)) u s'):CE outer P w H s Q u s':=by
 obtain ⟨v,H',os,bare,un,hok,r,q⟩:=h;have fr':∀ b∈adC cl,H' b=none:=fun b hb=>by
  obtain ⟨o,e⟩:=fr b hb;exact un.free b o (e0.hok b _ e).1 (J2n hb) (by simp)
 refine ⟨v,restC cl H H',os,bare,⟨fun b o e n=>un.keep b o e (J1l n),fun b o e n=>un.slot b o e (J1l n),fun b o e n hx=>?_,un.there,fun b xs e=>?_,fun b o w e=>?_,fun b ps e=>?_⟩,fun b o e=>?_,r,q⟩
 ·have hb:b ∉ adC cl:=fun z=>by obtain ⟨o,q⟩:=fr b z;rw [n] at q;cases q
  rw [J1c hb];exact un.free b o e (J1l n) hx
 ·have hb:=fr.out e (fun _ z=>by cases z);rw [J1c hb];exact un.tups b xs (by rw [Jv hb];exact e)
 ·by_cases hb:b∈adC cl
  ·rw [J48 hb];exact e
  ·rw [J1c hb];exact un.frzs b o w (by rw [Jv hb];exact e)
 ·have hb:=fr.out e (fun _ z=>by cases z);obtain ⟨more,e'⟩:=un.tbls b ps (by rw [Jv hb];exact e);exact ⟨more,by rw [J1c hb];exact e'⟩
 ·by_cases hb:b∈adC cl
  ·rw [J48 hb] at e;obtain ⟨o',e'⟩:=fr b hb;rw [e] at e';cases e';have g:=(e0.hok b _ e).1;have g':=un.keep b o' g (J2n hb) (fun z=>by have:=e0.frf b z;rw [e] at this;cases this) (by simp);exact ⟨g',_,g'⟩
  ·rw [J1c hb] at e;refine (hok b o e).stay (fun _ _ _ q=>q) (fun c q=>?_) fun c xs q=>?_
   ·rw [J1c (fun z=>by rw [fr' c z] at q;cases q)];exact q
   ·rw [J1c (fun z=>by rw [fr' c z] at q;cases q)];exact q
theorem J2d (n:∀ b∈adC cl,H b=none):Same H (lendC cl oc H):=fun b u e=>by
 rw [Jz (fun z=>by rw [n b z] at e;cases e)];exact e
theorem J30 (n:∀ b∈adC cl,H b=none) (s:Same (lendC cl oc H) H2):Same H (dropC cl H2):=fun b u e=>by
 have hb:b ∉ adC cl:=fun z=>by rw [n b z] at e;cases e
 rw [Jv hb];exact s b u (by rw [Jz hb];exact e)
end
structure GoOk (P:Program) (w:World) (K:PySem.W.Frag) (mg:Str->Option Value) (base:Heap) (k:Nat) (f:Addr) (I0:Hp->Prop) (sp:V->Hp->VK->Prop):Prop where
 fn:∀ H,I0 H->∃ oc od fd osl,H f=some (.frz ⟨oc,od,.func fd,osl⟩ (.own f))
 run:∀ (A:Around) (outer:List Env) (s:Shared) (H:Hp) (u:Value) (v:V) (Q:VK) (E:XK),Room k A->Env0 P w K mg base A outer s H->RelV v u->I0 H->sp v H Q->
  codeAny (model P w) A (.call (.ref f) ⟨[u],[]⟩) (CR CX0 outer P w H s Q E) s
theorem callWith_F {M:Model} {A:Around} {E:Value->Shared->Prop} {s:Shared} {env:Env} {pos:Pos} {f:Addr} {first:List Value} {Q:Value->Shared->Prop} {e:Expr} {rest:List Expr}
  (h:wpAny M A (spliced (backTo pos (starEach (e :: rest) env))) (fun vs s₁=>(∃ oc od fd osl,s₁.heap.get? f=some ⟨oc,od,.func fd,osl⟩)/\wpAny M A (call (.ref f) (first ++ vs)) Q E s₁) E s)
  (he:starEach (e :: rest) env=(false,eval e env) :: starEach rest env:=by rfl) (hplain:(backTo pos (starEach rest env)).any (·.1)=false:=by rfl) :
  wpAny M A (callWith pos (.ref f) first (backTo pos (starEach (e :: rest) env)) []) Q E s:=by
 rw [he] at h ⊢;refine PySem.W.callWith_of (P:=fun h=>∃ oc od fd osl,h.get? f=some ⟨oc,od,.func fd,osl⟩) (by show ((false || (backTo pos (starEach rest env)).any (·.1)) || false)=false;rw [hplain];rfl) (fun h hx=>?_) (evalArgs_plain h);obtain ⟨oc,od,fd,osl,hx⟩:=hx;exact ⟨.frame,.inl rfl,(Looks.ld (part:=none) hx).andThen .now⟩
def tGo (P:Program) (w:World) (K:PySem.W.Frag) (mg:Str->Option Value) (base:Heap) (k i:Nat) (t:TA):TE:=fun σ H Q=>tVar i σ H fun y H0=>∃ f,y=.ref f/\t σ H0 fun vs H1=>∃ v I0 sp,vs=[v]/\GoOk P w K mg base k f I0 sp/\I0 H1/\sp v H1 Q
section
variable {X:Cx}
theorem J3e {x:Str} {i k:Nat} {p pos:Pos} {e:Expr} {t:TA} (hr:Room k X.A) (hN:X.N[i]?=some x) (hv:Vis X.env.scope x) (ha:PA X [e] t)
  (hd:(x == ("__debug__":Str))=false:=by decide) (hcd:(x == ("__classdict__":Str))=false:=by decide) (he:starEach [e] X.env=(false,eval e X.env) :: starEach [] X.env:=by rfl) :
  PE X (.Call (.Name x p) [e] [] pos) (tGo X.prog X.w X.K X.mg X.base k i t):=by
 intro pins s σ H Q I h;refine wpAny_Call_Name_kw (thn ((pe_var hN hv hd hcd:PE X (.Name x p) (tVar i)) pins s σ H _ I h) fun u s1 h9=>?_);obtain ⟨y,H0,I0',r0,q0⟩:=h9;obtain ⟨f,rfl,q0⟩:=q0;cases r0;refine callWith_F (thn (ha pos pins s1 σ H0 _ I0' q0) fun us s2 h9=>?_) he rfl;obtain ⟨vs,H1,I1,r,q⟩:=h9;obtain ⟨v,I0,sp,rfl,G,i0,q⟩:=q;obtain ⟨u,rfl,ru⟩:=vals1 r;obtain ⟨oc,od,fd,osl,ef⟩:=G.fn H1 i0;refine ⟨⟨oc,od,fd,osl,(I1.hok f _ ef).1⟩,?_⟩;refine wpAny_call (codeAny_mono (G.run X.A X.stack s2 H1 u v Q (fun _ _ _=>False) hr I1.env0 ru i0 q) fun r s' hq=>?_)
 cases r with
 | error e=>exact False.elim hq
 | ok fl =>
  cases fl with
  | ret u=>exact I1.after hq
  | next=>exact False.elim hq
  | brk=>exact False.elim hq
  | cont=>exact False.elim hq
end
def cxLamF (P:Program) (w:World) (K:PySem.W.Frag) (mg:Str->Option Value) (base:Heap) (A:Around) (outer:List Env) (N:List Str) (qual:Str) (scope:Scope) (f:Addr) (cd:Value) (cl:List (Str × Addr)) (s:Shared) (H:Hp):Cx where
 prog:=P
 w:=w
 K:=K
 mg:=mg
 base:=base
 A:=A.deeper (envX qual scope s.heap.objs.size f cd cl)
 N:=N
 s₀:=s
 H₀:=H
 env:=envX qual scope s.heap.objs.size f cd cl
 outer:=outer
 stack:=envX qual scope s.heap.objs.size f cd cl :: outer
 ex:=[]
 calm:=true
 fn:=fun _=>false
 pn:=[]
 xe:=fun _ _=>False
structure ScLam (scope:Scope) (cl:List (Str × Addr)) (x:Str) (caps:List Str):Prop where
 co:scope.isCoroutine=false
 gen:scope.isGenerator=false
 kind:scope.kind=.function
 cell:∀ p∈scope.names,p.2≠.cell
 loc:scope.names.lookup x=some .local
 inj:∀ a b c,cl.lookup a=some c->cl.lookup b=some c->a=b
 has:∀ p∈scope.names,p.2=.free->∃ c,cl.lookup p.1=some c
 free:∀ c∈caps,scope.names.lookup c=some .free
structure LamAt (H:Hp) (f:Addr) (qual:Str) (params:Arguments) (body:Expr) (scope:Scope) (cl:List (Str × Addr)) (c':Addr) (pm ctv:Value) (caps:List Str) (vals:List V):Prop where
 fn:H f=some (.frz (kla_obj "<lambda>" qual params body scope cl pm c' ctv) (.own f))
 cd:∃ oc vs t,H c'=some (.frz oc (.own c'))/\oc.data=.fields vs/\vs[1]?=some (.str qual t)
 fr:∀ p∈cl,∃ o u,H p.2=some (.frz o (.own p.2))/\o.data=.cell u
 ce:∀ (k:Nat) (x:Str) (v:V),caps[k]?=some x->vals[k]?=some v->∃ a o u,cl.lookup x=some a/\H a=some (.frz o (.own a))/\o.data=.cell (some u)/\RelV v u
section
variable {P:Program} {w:World} {K:PySem.W.Frag} {mg:Str->Option Value} {base:Heap} {A:Around} {outer:List Env} {s:Shared} {H:Hp} {qual:Str} {params:Arguments} {body:Expr} {scope:Scope} {cl:List (Str × Addr)} {pm ctv:Value} {c' f:Addr} {x:Str} {caps:List Str} {vals:List V} {te:TE} {k:Nat}
theorem LamAt.sub {H':Hp} (L:LamAt H f qual params body scope cl c' pm ctv caps vals) (s:Same H H'):LamAt H' f qual params body scope cl c' pm ctv caps vals:=by
 obtain ⟨oc,vs,t,c1,c2,c3⟩:=L.cd;refine ⟨s _ _ L.fn,⟨oc,vs,t,s _ _ c1,c2,c3⟩,fun p hp=>?_,fun k x v h1 h2=>?_⟩
 ·obtain ⟨o,u,e1,e2⟩:=L.fr p hp;exact ⟨o,u,s _ _ e1,e2⟩
 ·obtain ⟨a,o,u,e0,e1,e2,e3⟩:=L.ce k x v h1 h2;exact ⟨a,o,u,e0,s _ _ e1,e2,e3⟩
theorem LamAt.frC (L:LamAt H f qual params body scope cl c' pm ctv caps vals):FrC cl H:=fun b hb=>by
 obtain ⟨p,hp,rfl⟩:=mem_map.mp hb;obtain ⟨o,u,e,_⟩:=L.fr p hp;exact ⟨o,e⟩
theorem inv_lamF {v:V} {u:Value} (e0:Env0 P w K mg base A outer s H) (S:ScLam scope cl x caps) (hd:A.handled=none) (r:RelV v u) (hlen:vals.length=caps.length)
  (hcell:∀ p∈cl,H p.2=none/\∃ u,s.heap.IsCell p.2 u) (hval:∀ (k:Nat) (x:Str) (v:V),caps[k]?=some x->vals[k]?=some v->∃ a u,cl.lookup x=some a/\s.heap.IsCell a (some u)/\RelV v u) {h₁:Heap}
  (hns:h₁.Ns s.heap.objs.size (fun y=>([(x,u)]:List (Str × Value)).reverse.lookup y)) (hsb:Heap.SameBut s.heap.objs.size (s.heap.push { cls:=.type "frame",data:=.dict #[] }) h₁) :
  Inv (cxLamF P w K mg base A outer (x :: caps) qual scope f (.ref c') cl s H) [] (some v :: vals.map some) H { s with heap:=h₁,toks:=s.toks + 1 }:=by
 have keep:∀ b o,s.heap.get? b=some o->h₁.get? b=some o:=fun b o e=>hsb.extBut b o (Nat.ne_of_lt (lt_size e)) (get?_push_of_some _ e);have noA:∀ b:Addr,b ∉ (cxLamF P w K mg base A outer (x :: caps) qual scope f (.ref c') cl s H).ex:=fun b z=>absurd (show b∈([]:List Addr) from z) (by simp);refine ⟨⟨e0.mod,S.kind,rfl,rfl,Nat.le_refl _,S.inj,fun a h=>?_,(fun _ _ h=>nomatch h),fun _=>hd,Around.frames_deeper e0.frames,.inr ⟨rfl,rfl⟩,fun b z=>absurd z (noA b),e0.bs,e0.bsz,fun b _ _=>noA b,fun b z=>absurd z (noA b),e0.funs,e0.frf⟩,
  rfl,e0.bare,Un.kept keep,⟨_,hns,fun k q w e1 e2 e3=>?_⟩,fun q c e=>?_,e0.hok.fresh (Nat.le_refl _),fun q c e=>?_,fun p hp=>absurd (show p∈([]:List (Addr × Obj)) from hp) (by simp),e0.hok.kept keep,?_⟩
 ·have h:scope.names.lookup a=some .cell\/scope.names.lookup a=some .free:=h;rcases h with h | h
  ·exact absurd rfl (S.cell _ (mem_of_lookup h))
  ·exact S.has _ (mem_of_lookup h) rfl
 ·cases k with
  | zero =>
   have e1:some x=some q:=e1;cases e1;have e2:some (some v)=some (some w):=e2;cases e2;refine ⟨u,r,.inl ⟨S.loc,?_⟩⟩;show (([(x,u)]:List (Str × Value)).reverse.lookup x)=some u;simp
  | succ k =>
   have e1:(x :: caps)[k + 1]?=some q:=e1;have e1':caps[k]?=some q:=by simpa using e1
   have e2':vals[k]?=some w:=by
    rw [List.getElem?_cons_succ,getElem?_map] at e2
    cases e3:vals[k]? with
    | none=>rw [e3] at e2;cases e2
    | some z=>rw [e3] at e2;cases e2;rfl
   obtain ⟨a,u',q1,q2,q3⟩:=hval k q w e1' e2';exact ⟨u',q3,.inr ⟨.inr (S.free q (mem_of_getElem? e1')),a,q1,q2.keeps keep⟩⟩
 ·obtain ⟨u,h⟩:=(hcell _ (mem_of_lookup e)).2;exact ⟨u,h.keeps keep⟩
 ·exact (hcell _ (mem_of_lookup e)).1
 ·show (some v :: vals.map some).length=(x :: caps).length;simp [hlen]
theorem lam_go (S:ScLam scope cl x caps) (hlen:vals.length=caps.length) (hbind:∀ u,bindArgs (kla_fn "<lambda>" qual params body scope cl pm (.ref c') ctv) ⟨[u],[]⟩=pure [(x,u)])
  (he:∀ (A:Around) (outer:List Env) (s:Shared) (H:Hp),Room k (A.deeper (envX qual scope s.heap.objs.size f (.ref c') cl))->PE (cxLamF P w K mg base A outer (x :: caps) qual scope f (.ref c') cl s H) body te) :
  GoOk P w K mg base (k + 1) f (fun H=>LamAt H f qual params body scope cl c' pm ctv caps vals) (fun v H Q=>te (some v :: vals.map some) (dropC cl H) fun y H2=>Q y (restC cl H H2)):=by
 refine ⟨fun H L=>⟨_,_,_,_,L.fn⟩,fun A outer s H u v Q E hr e0 r L q=>?_⟩;have fr:=L.frC;have e1:=e0.dropC fr;have lim:s.heap.NoLimit:=e0.mod.nolimit.keeps fun b o e=>(e0.bs b o e).1;obtain ⟨oc,vs,t,c1,c2,c3⟩:=L.cd;have hcd:s.heap.CodeRec (.ref c') qual:=⟨c',oc,vs,t,rfl,(e0.hok c' _ c1).1,c2,c3⟩;refine kla_callFunE hr.depth (e0.hok f _ L.fn).1 rfl S.co S.gen rfl hcd ?_;rw [hbind];refine wpAny_pure (wpAny_newFunctionEnv S.cell (fun y hy=>by
  have hy:y=(x,u):=by simpa using hy
  rw [hy];exact S.loc) (fun h₁ hns hsb=>⟨lim.fresh _ hsb,?_⟩) S.kind)
 refine kla_codeExpr ?_;have J:=inv_lamF (qual:=qual) (f:=f) (c':=c') (vals:=vals) e1 S hr.hd r hlen (fun p hp=>by
   obtain ⟨o,u,a1,a2⟩:=L.fr p hp;exact ⟨J2n (mem_map.mpr ⟨p,hp,rfl⟩),u,o,(e0.hok _ _ a1).1,a2⟩) (fun k x v h1 h2=>by
   obtain ⟨a,o,u,b0,b1,b2,b3⟩:=L.ce k x v h1 h2;exact ⟨a,u,b0,⟨o,(e0.hok _ _ b1).1,b2⟩,b3⟩) hns hsb
 refine wpAny_mono (he A outer s (dropC cl H) (hr.deeper _) [] _ _ _ _ J q) (fun z s' h'=>?_) fun _ _ h'=>h'.elim;obtain ⟨y,H',J',ry,q'⟩:=h';exact CE.rest e0 fr ⟨y,H',J'.os,J'.bare,J'.base,J'.hok,ry,q'⟩
end
def tLam (P:Addr) (pos:Pos) (qual:Str) (ob:Addr->Value->Obj):TE:=fun _ H Q=>TabOk H P pos qual/\∀ f c' ctv H',SameT H H'->TabOk H' P pos qual->(∀ Q pos' qual',Q≠P->TabOk H Q pos' qual'->TabOk H' Q pos' qual')->
 (∃ oc vs t,H' c'=some (.frz oc (.own c'))/\oc.data=.fields vs/\vs[1]?=some (.str qual t))->H' f=none->Q (.ref f) (upd H' f (.frz (ob c' ctv) (.own f)))
section
variable {X:Cx} {params:Arguments} {body:Expr} {scope:Scope} {cl:List (Str × Addr)} {c P:Addr} {pos:Pos}
theorem pe_lam (hex:X.ex=[]) (hdef:defaultsOf params X.env=([],[])) (hcl:closureFor scope X.env=pure cl) (hcode:X.env.code=.ref c) (C:codeHdIn X.K c P=true) (B:BltAt X.base X.mg P) :
  PE X (.Lambda params body scope pos) (tLam P pos (X.env.qual ++ "<lambda>") fun c' ctv=>kla_obj "<lambda>" (X.env.qual ++ "<lambda>") params body scope cl ((X.mg "__name__").getD .none) c' ctv):=by
 intro pins s σ H Q I ⟨T,h⟩;refine lam_make I hdef hcl hcode C B T fun f c' ctv H2 s2 I2 ho ff cd sT T2 TQ nn=>?_;have hz:X.s₀.heap.objs.size<=f:=by
  rcases ff.2.2.2.1 with z | z
  ·rw [hex] at z;cases z
  ·exact z
 have J:=I2.adopt (o:=.frz (kla_obj "<lambda>" (X.env.qual ++ "<lambda>") params body scope cl ((X.mg "__name__").getD .none) c' ctv) (.own f)) ff hz ⟨ho,_,ho⟩;exact ⟨.ref f,_,J,rfl,h f c' ctv H2 sT T2 TQ cd ff.1⟩
end
def tCallLe (sp:Sp) (E:XK) (cl:List (Str × Addr)) (caps:List Str) (js:List Nat) (t:TA):TE:=fun σ H Q=>t σ H fun vs H1=>∀ oc:Addr->Obj,(∀ b∈adC cl,H1 b=none)->(∀ p∈cl,∃ u,(oc p.2).data=.cell u)->
 (∀ (k:Nat) (x:Str) (v:V),caps[k]?=some x->(capv σ js)[k]?=some (some v)->∃ a u,cl.lookup x=some a/\(oc a).data=.cell (some u)/\RelV v u)->sp vs (lendC cl oc H1) (fun y H2=>Q y (dropC cl H2)) E
section
variable {X:Cx} {x:Str} {p pos:Pos} {e:Expr} {es:List Expr} {t:TA} {k:Nat} {f:Addr} {fd:FuncData} {ps:List Str} {sp:Sp} {cl:List (Str × Addr)} {caps:List Str} {js:List Nat} {E:XK}
theorem pe_callLe (F:FnOk X.prog X.w X.K X.mg X.base CX0 k f fd ps sp) (hr:Room k X.A) (hg:Gl X x) (hm:X.mg x=some (.ref f)) (hk:keepIn X.K (.ref f)=true) (hb:Binds X.K fd ps [])
  (hfn:∀ x,X.fn x=true) (hsub:∀ p∈cl,X.env.cells.lookup p.1=some p.2)
  (hcap:∀ (k:Nat) (c:Str),caps[k]?=some c->∃ (j:Nat) (a:Addr),js[k]?=some j/\X.N[j]?=some c/\X.env.scope.names.lookup c=some .cell/\cl.lookup c=some a)
  (ha:PA X (e :: es) t) (hdb:(x == ("__debug__":Str))=false:=by decide) (he:starEach (e :: es) X.env=(false,eval e X.env) :: starEach es X.env:=by rfl) (hpl:(backTo pos (starEach es X.env)).any (·.1)=false:=by rfl) :
  PE X (.Call (.Name x p) (e :: es) [] pos) (tCallLe sp E cl caps js t):=by
 intro pins s σ H Q I h;refine wpAny_Call_Name_kw (J2k I hg hm ?_ hdb);refine callWith_K (h₀:=X.base) I.ok.mod.kin hk (thn (ha pos pins s σ H _ I h) fun us s1 h9=>?_) he hpl;obtain ⟨vs,H1,I1,r,q⟩:=h9;refine ⟨I1.kIn,?_⟩;obtain ⟨oc,eoc⟩:∃ oc:Addr->Obj,oc=fun b=>(s1.heap.get? b).getD default:=⟨_,rfl⟩;have hc:∀ p∈cl,∃ u,s1.heap.get? p.2=some (oc p.2)/\(oc p.2).data=.cell u:=fun p hp=>by
  obtain ⟨u,o,e1,e2⟩:=I1.cell _ _ (hsub p hp);have:oc p.2=o:=by rw [eoc];show (s1.heap.get? p.2).getD default=o;rw [e1];rfl
  exact ⟨u,by rw [this];exact e1,by rw [this];exact e2⟩
 have hc':∀ b∈adC cl,H1 b=none/\s1.heap.get? b=some (oc b)/\X.s₀.heap.objs.size<=b/\b≠X.env.locals:=fun b hb=>by
  obtain ⟨p,hp,rfl⟩:=mem_map.mp hb;obtain ⟨u,e1,_⟩:=hc p hp;exact ⟨I1.freeC _ _ (hsub p hp),e1,I1.ok.cab _ _ (hfn _) (hsub p hp),I1.cne _ _ (hsub p hp)⟩
 have nfs:∀ b∈adC cl,b ∉ frs X.stack:=fun b hb z=>by
  obtain ⟨_,_,h3,h4⟩:=hc' b hb;rcases mem_cons.mp (I1.stkSub b z) with z | z
  ·exact h4 z
  ·obtain ⟨_,o,ho,_⟩:=I1.ok.funs.mem z;exact absurd (Nat.lt_of_lt_of_le (lt_size ho) h3) (Nat.lt_irrefl _)
 have hspec:=q oc (fun b hb=>(hc' b hb).1) (fun p hp=>let ⟨u,_,e⟩:=hc p hp;⟨u,e⟩) (fun k c v h1 h2=>by
  obtain ⟨j,a,q1,q2,q3,q4⟩:=hcap k c h1;obtain ⟨j',r1,r2⟩:=J2p h2;rw [q1] at r1;cases r1;obtain ⟨m,hm,hl⟩:=I1.loc;obtain ⟨u',ru,lu⟩:=hl j c v q2 r2 (.inr (.inl q3));rcases lu with ⟨k1,_⟩ | ⟨_,a',ea,o,ho,hd'⟩
  ·have k1':X.env.scope.names.lookup c=some .local:=k1;rw [q3] at k1';cases k1'
  ·have:=hsub _ (mem_of_lookup q4);rw [ea] at this;cases this;obtain ⟨_,e1,_⟩:=hc _ (mem_of_lookup q4);rw [ho] at e1;cases e1;exact ⟨a,u',q4,hd',ru⟩)
 have e0:=I1.env0;have hl:us.length=ps.length:=by rw [<- r.length];exact F.len _ _ _ _ hspec
 have e1:Env0 X.prog X.w X.K X.mg X.base X.A X.stack s1 (lendC cl oc H1):=by
  refine ⟨e0.frames,e0.mod,fun b o e=>⟨(e0.bs b o e).1,?_⟩,e0.bsz,e0.funs,fun b hb=>?_,fun b u e=>?_,e0.bare⟩
  ·rw [Jz (fun z=>by
    have h3:=(hc' b z).2.2.1;exact absurd (Nat.lt_of_lt_of_le (Nat.lt_of_lt_of_le (lt_size e) I1.ok.bsz) h3) (Nat.lt_irrefl _))]
   exact (e0.bs b o e).2
  ·rw [Jz (fun z=>nfs b z hb)];exact e0.frf b hb
  ·by_cases z:b∈adC cl
   ·rw [J1u z] at e;cases e;exact ⟨(hc' b z).2.1,_,(hc' b z).2.1⟩
   ·rw [Jz z] at e;exact (e0.hok b u e).stay (fun _ _ _ q=>q) (fun c q=>J2d (fun b hb=>(hc' b hb).1) _ _ q) fun c xs q=>J2d (fun b hb=>(hc' b hb).1) _ _ q
 refine wpAny_call (codeAny_mono (F.run X.A X.stack s1 (lendC cl oc H1) ⟨us,[]⟩ us vs _ E hr e1 (by have:=hb s1 us I1.kIn (by rw [append_nil];exact hl);rw [append_nil] at this;exact this) r hspec) fun r s' hq=>?_)
 cases r with
 | error e=>exact False.elim hq
 | ok fl =>
  cases fl with
  | next=>exact False.elim hq
  | brk=>exact False.elim hq
  | cont=>exact False.elim hq
  | ret u =>
   obtain ⟨v,H2,os,bare,un,hok,rv,qv⟩:=hq;have fr2:FrC cl H2:=fun b hb=>⟨oc b,un.frzs b (oc b) (.own b) (J1u hb)⟩;refine I1.after ⟨v,dropC cl H2,os,bare,⟨fun b o e n hf hx=>?_,fun b o e n hf hx=>?_,fun b o e n hx=>?_,fun b o e hx=>un.there b o e hx,fun b xs e=>?_,fun b o u e=>?_,fun b ps e=>?_⟩,hok.dropC fr2,rv,qv⟩
   ·by_cases z:b∈adC cl
    ·have g:=(hok b _ (un.frzs b (oc b) (.own b) (J1u z))).1;rw [(hc' b z).2.1] at e;cases e;exact g
    ·exact un.keep b o e (by rw [Jz z];exact n) hf hx
   ·exact un.slot b o e (by rw [Jz (fun z=>nfs b z hf)];exact n) hf hx
   ·by_cases z:b∈adC cl
    ·exact J2n z
    ·rw [Jv z];exact un.free b o e (by rw [Jz z];exact n) hx
   ·have z:b ∉ adC cl:=fun z=>by rw [(hc' b z).1] at e;cases e
    rw [Jv z];exact un.tups b xs (by rw [Jz z];exact e)
   ·have z:b ∉ adC cl:=fun z=>by rw [(hc' b z).1] at e;cases e
    rw [Jv z];exact un.frzs b o u (by rw [Jz z];exact e)
   ·have z:b ∉ adC cl:=fun z=>by rw [(hc' b z).1] at e;cases e
    rw [Jv z];exact un.tbls b ps (by rw [Jz z];exact e)
end
end L2
namespace L2
open PySem PySem.Spec PyProof.Rows
end L2
namespace L2
open PySem PySem.Spec PySem.Calls PyProof.Rows PySem.W
theorem Fun.okK {P:Program} {w:World} {K:PySem.W.Frag} {mg:Str->Option Value} {base:Heap} {x qual:Str} {st:Stmt} {f c:Addr} {fd:FuncData} {N ps:List Str} {k:Nat} {sp:Sp} (F:Fun K x qual st f fd) (hcode:fd.code=.ref c) (S:FnScope N ps (J9 st)) (len:∀ vs H Q E,sp vs H Q E->vs.length=ps.length)
  (hbody:∀ (A:Around) (outer:List Env) (s:Shared) (H:Hp) (vs:List V) (Q:VK) (E:XK),Room k (A.deeper (envOfC qual (J9 st) s.heap.objs.size f (.ref c)))->sp vs H Q E->
   ∃ t,PSs (cxOf CX0 P w K mg base N qual (J9 st) f (.ref c) A outer s H E).nox (J10 st) t/\t { nx:=fun _ H'=>Q .non H',rt:=Q } (start N vs) H):FnOk P w K mg base CX0 (k + 1) f fd ps sp:=by
 obtain ⟨oc,od,kV,doc,pm,an,cdv,ct,osl,rfl,lk,hcd⟩:=F.ex;obtain rfl:cdv=.ref c:=hcode;refine fn_of lk hcd S len fun A outer s H vs Q E hr hsp=>?_;obtain ⟨t,h,q⟩:=hbody A outer s H vs Q E hr hsp;exact ⟨t,h.nox,q⟩
theorem isTab_of {K:PySem.W.Frag} {h:Heap} {c P:Addr} (X:K.In h) (e:codeHdIn K c P=true):isCodeTable h P:=by
 obtain ⟨o,vs,_,_,_,_,_,_,_,e1,e2,e3,e4,_⟩:=codeHd_of_K X e;exact ⟨c,o,vs,e1,e2,e3,e4⟩
theorem law_callT {P:Program} {w:World} {K:PySem.W.Frag} {mg mb:Str->Option Value} {CX:CXT} {k:Nat} {fa a:Addr} {fd:FuncData} {x:Str} {sp:Sp} {s₁:Shared} {vs:List Value} {ns:List Int} {Ps:List Addr}
  (KX:K.In s₁.heap) (hns:s₁.heap.Ns mainGlobals mg) (hb:s₁.heap.Ns builtinsNs mb) (hbb:∀ x:Str,x≠"__name__"->mb x=bootBuiltins x) (hlim:s₁.heap.NoLimit) (hg:s₁.gens=#[])
  (ha:s₁.heap.get? a=some { cls:=.type "list",data:=.seq vs.toArray }) (hi:IntsAre vs ns) (hl:ns.length<=sizeLine) (hr:Room k callerA)
  (tabs:∀ P∈Ps,s₁.heap.get? P=some (tabObj #[])/\isCodeTable s₁.heap P/\K.lookup P=none)
  (hbm:∃ bm ob,mg "__builtins__"=some (.ref bm)/\bm≠builtinsNs/\s₁.heap.get? bm=some ob/\ob.cls=.type "module"/\ob.dict=some builtinsNs/\ob.data=.plain)
  (F:∀ base:Heap,K.In base->base.Ns mainGlobals mg->(∀ P∈Ps,BltAt base mg P)->FnOk P w K mg base CX k fa fd [x] sp) (hbind:∀ (s:Shared) (u:Value),BindsTo s fd ⟨[u],[]⟩ [(x,u)])
  (hsp:∀ H:Hp,(∀ P∈Ps,H P=some (.tbl #[]))->SqL K H a (ns.map V.int)->sp [.ref a] H (fun v _=>v=.bl true) fun _ _ _=>False)
  (hCX:∀ H e s',CX [] H s₁ (fun _ _ _=>False) e s'->False) :
  codeAny (model P w) callerA (.call (.ref fa) ⟨[.ref a],[]⟩) (fun r s'=>r=.ok (.ret (.bool true))/\OldK s₁.heap s'.heap/\s'.os=s₁.os/\AllBare s'.gens) s₁:=by
 have rv:=J36 hi;have lenV:=hi.length;have core:∀ H:Hp,(∀ P∈Ps,H P=some (.tbl #[]))->SqL K H a (ns.map V.int)->
   (∀ b u,H b=some u->(b∈Ps/\u=.tbl #[])\/(b=a/\K.lookup a=none/\u=.frz { cls:=.type "list",data:=.seq vs.toArray } (.lst (ns.map V.int))))->
   codeAny (model P w) callerA (.call (.ref fa) ⟨[.ref a],[]⟩) (fun r s'=>r=.ok (.ret (.bool true))/\OldK s₁.heap s'.heap/\s'.os=s₁.os/\AllBare s'.gens) s₁:=by
  intro H hT hS hA;have hok:HOk P w H s₁.heap:=fun b u e=>by
   rcases hA b u e with ⟨hb,rfl⟩ | ⟨rfl,_,rfl⟩
   ·exact (tabs b hb).1
   ·exact ⟨ha,by rw [length_map];exact hl,vs,_,rv,ha⟩
  have dictFree:∀ {b:Addr} {o:Obj} {es:Array DictEntry} {ep:Nat},s₁.heap.get? b=some o->o.data=.dict es ep->H b=none:=fun {b o es ep} e d=>by
   cases q:H b with
   | none=>rfl
   | some u =>
    rcases hA b u q with ⟨hb,_⟩ | ⟨rfl,_⟩
    ·rw [(tabs b hb).1] at e;cases e;cases d
    ·rw [ha] at e;cases e;cases d
  have nsK:∀ {b:Addr} {m:Str->Option Value},s₁.heap.Ns b m->(hidT s₁.heap H).Ns b m:=fun {b m} h9=>by obtain ⟨o,es,ep,e,d,r⟩:=h9;exact ⟨o,es,ep,J4m e (dictFree e d),d,r⟩
  have hKb:K.In (hidT s₁.heap H):=fun b o e=>J4m (KX b o e) (by
   cases q:H b with
   | none=>rfl
   | some u =>
    rcases hA b u q with ⟨hb,_⟩ | ⟨rfl,hk,_⟩
    ·rw [(tabs b hb).2.2] at e;cases e
    ·rw [hk] at e;cases e)
  have hM:Mod K mg (hidT s₁.heap H):=⟨hKb,nsK hns,⟨mb,nsK hb,hbb⟩,by obtain ⟨mc,h1,h2⟩:=hlim;exact ⟨mc,nsK h1,h2⟩⟩;have e0:Env0 P w K mg (hidT s₁.heap H) callerA [] s₁ H:=⟨rfl,hM,fun b o e=>of_hidT e,Nat.le_of_eq (hidT_size _ _),trivial,fun b hb=>absurd (show b∈([]:List Addr) from hb) (by simp),hok,.of_eq hg⟩;have hBl:∀ Q∈Ps,BltAt (hidT s₁.heap H) mg Q:=fun Q hQ=>by
   obtain ⟨bm,ob,b1,b2,b3,b4,b5,b6⟩:=hbm;refine ⟨bm,ob,b1,b2,fun e=>?_,fun e=>?_,J4m b3 ?_,b4,b5,b6⟩
   ·obtain ⟨o,es,ep,e1,e2,_⟩:=hns;rw [e,e1] at b3;cases b3;rw [e2] at b6;cases b6
   ·rw [e,(tabs Q hQ).1] at b3;cases b3;cases b6
   ·cases q:H bm with
    | none=>rfl
    | some u =>
     rcases hA bm u q with ⟨hb,_⟩ | ⟨rfl,_⟩
     ·rw [(tabs bm hb).1] at b3;cases b3;cases b6
     ·rw [ha] at b3;cases b3;cases b6
  refine codeAny_mono ((F _ hKb (nsK hns) hBl).run callerA [] s₁ H ⟨[.ref a],[]⟩ [.ref a] [.ref a] _ _ hr e0 (hbind s₁ (.ref a)) (.cons rfl .nil) (hsp H hT hS)) fun r s' h=>?_
  cases r with
  | error e=>exact (hCX H e s' h).elim
  | ok fl =>
   cases fl with
   | next=>exact False.elim h
   | brk=>exact False.elim h
   | cont=>exact False.elim h
   | ret u =>
    obtain ⟨v,H',os,bare,un,hok',r',q⟩:=h;obtain rfl:v=.bl true:=q;obtain rfl:u=Value.bool true:=r';have kp:∀ b o,s₁.heap.get? b=some o->asItWas s₁.heap s'.heap b o:=fun b o e=>by
     cases q:H b with
     | none=>exact .inl (un.keep b o e q (by intro z;exact absurd (show b∈([]:List Addr) from z) (by simp)) (by simp))
     | some u =>
      rcases hA b u q with ⟨hb,rfl⟩ | ⟨rfl,_,rfl⟩
      ·obtain ⟨more,z⟩:=un.tbls b #[] q;obtain ⟨t1,t2,_⟩:=tabs b hb;rw [t1] at e;cases e;exact .inr (.inl ⟨t2,rfl,#[],more,rfl,hok' b _ z⟩)
      ·obtain ⟨e2,_⟩:=hok' b _ (un.frzs b _ _ q);rw [ha] at e;cases e;exact .inl e2
    exact ⟨rfl,⟨kp,fun b o e=>un.there b o e (by simp)⟩,os,bare⟩
 have nP:a ∉ Ps:=fun h=>by
  have e:=(tabs a h).1;rw [ha] at e;cases e
 cases hk:K.lookup a with
 | some o =>
  have e:=KX a o hk;rw [ha] at e;cases e;refine core (fun b=>if b∈Ps then some (.tbl #[]) else none) (fun P hP=>if_pos hP) (.inr ⟨_,vs.toArray,_,hk,rfl,rfl,rfl,by rw [size_toArray,lenV];exact hl,by simpa using rv⟩) fun b u z=>?_;by_cases hb:b∈Ps
  ·have z':=(if_pos hb).symm.trans z;cases z';exact .inl ⟨hb,rfl⟩
  ·have z':=(if_neg hb).symm.trans z;cases z'
 | none =>
  refine core (fun b=>if b∈Ps then some (.tbl #[]) else if b=a then some (.frz { cls:=.type "list",data:=.seq vs.toArray } (.lst (ns.map V.int))) else none) (fun P hP=>if_pos hP)
   (.inl (.inr ⟨{ cls:=.type "list",data:=.seq vs.toArray },(if_neg nP).trans (if_pos rfl)⟩)) fun b u z=>?_
  by_cases hb:b∈Ps
  ·have z':=(if_pos hb).symm.trans z;cases z';exact .inl ⟨hb,rfl⟩
  ·have z1:=(if_neg hb).symm.trans z;by_cases hba:b=a
   ·have z':=(if_pos hba).symm.trans z1;cases z';exact .inr ⟨hba,hk,rfl⟩
   ·have z':=(if_neg hba).symm.trans z1;cases z'
theorem TabOk.empty {H:Hp} {P:Addr} {pos:Pos} {qual:Str} (h:H P=some (.tbl #[])):TabOk H P pos qual:=⟨#[],h,by first | trivial | exact .nil | simp [TriplesOk],fun cv e=>by simp [codeAmong] at e⟩
end L2
namespace L2
open PySem PySem.Spec PySem.Calls PyProof.Rows PySem.W
theorem lc_inv {K:PySem.W.Frag} {a d:Addr} {H1:Hp} {te:TE} {σ:St} {js:List Nat} {Q:VK} (xs:List V) (Pr:Nat->List V->Hp->Prop) (h0:Pr 0 [] (upd H1 d (.lst [])))
  (hl:∀ i ys H,i<=xs.length->Pr i ys H->SqL K H a xs) (hn:xs.length<=1000)
  (step:∀ i v ys H (Qe:VK),xs[i]?=some v->Pr i ys H->H d=some (.lst ys)->ys.length=i->(∀ y H5,H5 d=some (.lst ys)->Pr (i + 1) (ys ++ [y]) (upd H5 d (.lst (ys ++ [y])))->Qe y H5)->te (some v :: capv σ js) H Qe)
  (fin:∀ ys H,Pr xs.length ys H->H d=some (.lst ys)->ys.length=xs.length->Q (.ref d) H):LCW (Itl K a) tYes te σ js Q H1 d:=by
 refine ⟨fun i m ys H=>m=xs.length - i/\i<=xs.length/\H d=some (.lst ys)/\ys.length=i/\Pr i ys H,⟨xs.length,by simp,Nat.zero_le _,J1,rfl,h0⟩,?_⟩;rintro i m ys H ⟨rfl,hi,hd,hy,p⟩;have q:=hl i ys H hi p;refine ⟨hd,?_⟩;rcases Nat.lt_or_ge i xs.length with c | c
 ·right;refine ⟨⟨xs,xs[i],q,getElem?_eq_getElem c⟩,?_,?_⟩
  ·rw [hy,sizeLine_eq];omega
  rintro v H' ⟨rfl,hv⟩;have ev:=hv xs q;unfold tYes;dsimp only;rw [if_pos rfl];exact step i v ys H' _ ev p hd hy fun y H5 h5 pr=>⟨h5,xs.length - (i + 1),by omega,rfl,c,J1,by simp [hy],pr⟩
 ·left;obtain rfl:i=xs.length:=by omega
  exact ⟨⟨xs,q,Nat.le_refl _⟩,fin ys H p hd hy⟩
theorem walk_ofU {l:PySem.W.OpenLaw} {n k:Nat} {q:Program} {loose:List Str} {XP:(Str->Option Value)->Heap->Prop} {YP:World->Heap->Prop} {d:DefRec} {K:Params->PySem.W.Frag} {CX:World->CXT} {sp:World->Sp} {x:Str} {Ps:List Addr}
  (hn:l.most=some n) (hn2:n<=sizeLine) (hdf:d.params.defaults=[]) (hr:Room k callerA)
  (hY:∀ (w:World) (h:Heap),YP w h->(K w.params).In h/\∀ P∈Ps,h.get? P=some (tabObj #[]))
  (hP:∀ (w:World),∀ P∈Ps,(K w.params).lookup P=none)
  (F:∀ (w:World) (mg:Str->Option Value) (fa:Addr) (h:Heap),(K w.params).In h->h.Ns mainGlobals mg->mg d.name=some (.ref fa)->
   (∀ P∈Ps,∃ c,codeHdIn (K w.params) c P=true)/\∃ fd:FuncData,(∀ (s:Shared) (u:Value),BindsTo s fd ⟨[u],[]⟩ [(x,u)])/\
    ∀ base:Heap,(K w.params).In base->base.Ns mainGlobals mg->(∀ P∈Ps,BltAt base mg P)->FnOk l.prog w (K w.params) mg base (CX w) k fa fd [x] (sp w))
  (hsp:∀ (w:World) (H:Hp) (a:Addr) (ns:List Int),ns.length<=n->(∀ P∈Ps,H P=some (.tbl #[]))->SqL (K w.params) H a (ns.map V.int)->sp w [.ref a] H (fun v _=>v=.bl true) fun _ _ _=>False)
  (hCX:∀ (w:World) (H:Hp) (s:Shared) (e:Value) (s':Shared),CX w [] H s (fun _ _ _=>False) e s'->False) :
  PySem.W.WalkO q loose XP YP l.row.toRowW d [] (fun f vs=>PySem.call f vs):=by
 refine Att.attach_call hn hdf fun w s₀ s₁ mg mb fa o pm cd doc a vs ns G Y ho hd hcd hmg hobj hints hlen hg=>?_;obtain ⟨KX,tb⟩:=hY w _ Y;obtain ⟨hC,fd,hb,hF⟩:=F w mg fa _ KX G.T.g hmg;refine law_callT KX G.T.g G.T.b G.T.builtins G.T.nolimit hg hobj hints (Nat.le_trans hlen hn2) hr (fun P hPs=>⟨tb P hPs,?_,hP w P hPs⟩) G.T.bmain hF hb (fun H hO hS=>hsp w H a ns hlen hO hS) fun H e s'=>hCX w H s₁ e s';obtain ⟨c,e⟩:=hC P hPs;exact isTab_of KX e
end L2
namespace L2
open PySem PySem.Spec PyProof.Rows
end L2
namespace L2
open PySem PySem.Spec PyProof.Rows
end L2
namespace L2
open PySem PyProof.Rows
end L2
namespace L2
open PySem PyProof.Rows
end L2
namespace L2
open PySem PySem.Spec PyProof.Rows
def LCW2 (K:PySem.W.Frag) (J:It) (tc:TT) (te:TE) (σ:St) (js:List Nat) (Q:VK) (H1:Hp) (d:Addr):Prop:=∃ W:Nat->Nat->List V->Hp->Prop,(∃ m,W 0 m [] (upd H1 d (.lst [])))/\
 ∀ i m ys H2,W i m ys H2->H2 d=some (.lst ys)/\((J.stop i H2/\Q (.ref d) H2)\/(J.go i H2/\ys.length < sizeLine/\∀ v H3,J.yld i H2 v H3->
  ∃ p a b,v=.ref p/\SqT K H3 p [a,b]/\tc (some a :: some b :: capv σ js) H3 fun bb H4=>if bb=true then te (some a :: some b :: capv σ js) H4 fun y H5=>H5 d=some (.lst ys)/\∃ m',m' < m/\W (i + 1) m' (ys ++ [y]) (upd H5 d (.lst (ys ++ [y])))
   else ∃ m',m' < m/\W (i + 1) m' ys H4))
def tLC2 (K:PySem.W.Frag) (wi:TI) (tc:TT) (te:TE) (js:List Nat):TE:=fun σ H Q=>wi σ H fun J H1=>∀ d,H1 d=none->LCW2 K J tc te σ js Q H1 d
section
variable {X:Cx} {elt iter:Expr} {ifs:List Expr} {x y z:Str} {px py pz tp:Pos} {kk:Nat} {scope:Scope} {cl:List (Str × Addr)} {pos spos:Pos} {wi:TI} {tc:TT} {te:TE} {caps:List Str} {js:List Nat} {i:Nat}
theorem comp_core2 {p0:Pos} {use:Option (Value->Sem Unit)} {QV:Value->Shared->Prop} {Q:VK} {pins:List (Addr × Obj)} {s:Shared} {σ:St} {H:Hp} (hc:X.calm=true) (hp:PI X (.Tuple [.Name x px,.Name z pz] kk tp) iter wi)
  (he:∀ (C:Addr) (fp:List Addr) (s:Shared) (H:Hp),PE (X.block (x :: z :: caps) scope cl C fp s H) elt te)
  (ht:∀ (C:Addr) (fp:List Addr) (s:Shared) (H:Hp),PTs (X.block (x :: z :: caps) scope cl C fp s H) ifs tc)
  (hcell:∀ p∈scope.names,p.2≠.cell) (hnames:∀ p∈scope.names,p.2=.local->scope.names.lookup p.1=some .local) (hnd:(x :: z :: caps).Nodup)
  (hsub:∀ p∈cl,X.env.cells.lookup p.1=some p.2) (hhas:∀ p∈scope.names,p.2=.free->∃ c,cl.lookup p.1=some c) (hlen:caps.length=js.length)
  (hcaps:∀ (k:Nat) (c:Str),caps[k]?=some c->∃ (j:Nat) (a:Addr),js[k]?=some j/\X.N[j]?=some c/\X.env.scope.names.lookup c=some .cell/\cl.lookup c=some a/\(relabel scope X.env).names.lookup c=some .cell)
  (hclos:closureFor scope X.env=pure cl) (hkind:scope.kind=.function) (hx:scope.names.lookup x=some .local) (hz':scope.names.lookup z=some .local) (hs:∀ v,foldedSetIterable iter X.env v=pure v)
  (I:Inv X pins σ H s) (h:tLC2 X.K wi tc te js σ H Q)
  (fin:∀ (d:Addr) (H':Hp) (s5:Shared) (C:Addr),Inv X pins σ H' s5->Q (.ref d) H'->(∃ m,s5.heap.Ns C m)->FpOk X pins H' C->compPost (model X.prog X.w) X.A X.xe use QV (.ref d) C (.ok .next) s5) :
  wpAny (model X.prog X.w) X.A (comprehension (.ListComp elt [⟨.Tuple [.Name x px,.Name z pz] kk tp,iter,ifs,0⟩] scope pos) scope X.env p0 (newList []) false (eval iter X.env) use) QV X.xe s:=by
 refine wpAny_comprehension_free (cl:=cl) (use:=use) (Q:=QV) rfl hs hclos hkind hnames (thn (hp pins s σ H _ I h) fun v s1 h1=>thn h1 fun itv s2 h2=>?_);obtain ⟨it,fp,tn,J,H2,e,I2,T,st2,f2,h3⟩:=h2;subst e;have hfr:H2 s2.heap.objs.size=none:=I2.hok.fresh (Nat.le_refl _);obtain ⟨W,⟨m0,w0⟩,hW⟩:=h3 s2.heap.objs.size hfr;refine wpAny_newObj_type (wpAny_newFunctionEnv hcell (by intro y hy;simp at hy) (fun h₁ hns₁ hsb₁=>?_) hkind);dsimp only at hns₁ hsb₁ ⊢;generalize hH2:s2.heap.push { cls:=.type "list",dict:=none,data:=.seq ([]:List Value).toArray }=G at hns₁ hsb₁ ⊢;have hC:G.objs.size=s2.heap.objs.size + 1:=by rw [<- hH2,Heap.size_push]
 have hDC:s2.heap.objs.size≠G.objs.size:=by rw [hC];exact Nat.ne_of_lt (Nat.lt_succ_self _)
 have hCle:s2.heap.objs.size<=G.objs.size:=by rw [hC];exact Nat.le_succ _
 have old:∀ b o,s2.heap.get? b=some o->h₁.get? b=some o:=fun b o e=>hsb₁.extBut b o (by rw [hC];exact Nat.ne_of_lt (Nat.lt_succ_of_lt (lt_size e))) (get?_push_of_some _ (hH2 ▸ get?_push_of_some _ e));have hacc:h₁.get? s2.heap.objs.size=some { cls:=.type "list",dict:=none,data:=.seq ([]:List Value).toArray }:=hsb₁.extBut _ _ hDC (get?_push_of_some _ (hH2 ▸ get?_push_size _ rfl));have fl:∀ b∈fp,b < s2.heap.objs.size:=fun b hb=>by
  obtain ⟨o,e,_⟩:=T.obj _ _ st2 b hb;exact lt_size e
 have hDf:s2.heap.objs.size ∉ fp:=fun hm=>Nat.lt_irrefl _ (fl _ hm);have hok1:HOk X.prog X.w (upd H2 s2.heap.objs.size (.lst [])) h₁:=I2.hok.laid old (Nat.le_refl _) ⟨Nat.zero_le _,[],0,.nil,hacc⟩;have IY0:∀ tk,Inv (X.block (x :: z :: caps) scope cl G.objs.size fp s2 H2) [] (none :: none :: capv σ js) (upd H2 s2.heap.objs.size (.lst [])) { s2 with heap:=h₁,toks:=tk }:=fun tk=>by
  refine ⟨J26 I2 hCle f2 fl hkind hcell hsub hhas,rfl,I2.bare,Un.laid old (Nat.le_refl _) hfr,⟨_,hns₁,fun k q v e1 e2 e3=>?_⟩,fun q c e=>?_,?_,fun q c e=>?_,fun p hp=>absurd hp (by simp),hok1,?_⟩
  ·rcases k with _ | _ | k
   ·simp at e2
   ·simp at e2
   ·have e1':caps[k]?=some q:=by simpa using e1
    have e2':(capv σ js)[k]?=some (some v):=by simpa using e2
    obtain ⟨j,a,q1,q2,q3,q4,q5⟩:=hcaps k q e1';obtain ⟨j',r1,r2⟩:=J2p e2';rw [q1] at r1;cases r1;obtain ⟨m,hm,hl⟩:=I2.loc;obtain ⟨u,ru,lu⟩:=hl j q v q2 r2 (.inr (.inl q3));refine ⟨u,ru,.inr ⟨.inl q5,a,q4,?_⟩⟩;rcases lu with ⟨k1,_⟩ | ⟨_,c,ec,o,ho,hd⟩
    ·have k1':X.env.scope.names.lookup q=some .local:=k1;rw [q3] at k1';cases k1'
    ·have:=hsub _ (mem_of_lookup q4);rw [ec] at this;cases this;exact ⟨o,old _ _ ho,hd⟩
  ·obtain ⟨v,o,ho,hd⟩:=I2.cell q c (hsub _ (mem_of_lookup e));exact ⟨v,o,old _ _ ho,hd⟩
  ·show upd H2 s2.heap.objs.size (.lst []) G.objs.size=none;rw [Ja hDC.symm];exact I2.hok.fresh hCle
  ·have ec:=hsub _ (mem_of_lookup e);obtain ⟨v,o,ho,hd⟩:=I2.cell q c ec;rw [Ja (Nat.ne_of_lt (lt_size ho))];exact I2.freeC q c ec
  ·show (none :: none :: capv σ js).length=(x :: z :: caps).length;unfold capv;simp [hlen]
 have stat:∀ {H':Hp},(∀ b∈fp,H' b=none)->∀ b∈fp,FpOk (X.block (x :: z :: caps) scope cl G.objs.size fp s2 H2) [] H' b:=fun hn b hb =>
  ⟨hn b hb,Nat.ne_of_lt (Nat.lt_of_lt_of_le (fl b hb) hCle),(J26 (x:=x) (caps:=z :: caps) I2 hCle f2 fl hkind hcell hsub hhas).exfs b hb,.inl hb,fun q c e=>(f2 b hb).2.2.2.2.1 q c (hsub _ (mem_of_lookup e)),fun p hp=>absurd hp (by simp)⟩
 have hxl:(relabel scope X.env).names.lookup x=some .local:=lookup_relabel_local hx;have hzl:(relabel scope X.env).names.lookup z=some .local:=lookup_relabel_local hz';have loop:∀ tk,codeAny (model X.prog X.w) X.A (.compLoop (.ListComp elt [⟨.Tuple [.Name x px,.Name z pz] kk tp,iter,ifs,0⟩] scope pos) 0 (.ref it) (.ref s2.heap.objs.size) (compEnvC scope cl G.objs.size X.env))
   (compPost (model X.prog X.w) X.A X.xe use QV (.ref s2.heap.objs.size) G.objs.size) { s2 with heap:=h₁,toks:=tk }:=fun tk=>by
  refine J1b (fun m s'=>∃ (k:Nat) (o o2:Option V) (ys:List V) (H':Hp),Inv (X.block (x :: z :: caps) scope cl G.objs.size fp s2 H2) [] (o :: o2 :: capv σ js) H' s'/\tn k s'.heap/\(∀ b∈fp,H' b=none)/\W k m ys H') ?_ m0
   ⟨0,none,none,[],_,IY0 tk,T.keep _ _ _ st2 fun b hb o e=>old b o e,fun b hb=>by
    rw [Ja (show b≠s2.heap.objs.size from fun e=>hDf (by rw [<- e];exact hb))];exact (f2 b hb).1,w0⟩
  rintro m s3 ⟨k,o,o2,ys,H',I3,st3,fr3,w3⟩;obtain ⟨hd,hW3⟩:=hW k m ys H' w3;rcases hW3 with ⟨stop,q⟩ | ⟨go,hz,step⟩
  ·refine thn (T.done (X.block (x :: z :: caps) scope cl G.objs.size fp s2 H2) rfl rfl rfl hc k [] s3 _ _ (fun _ _=>False) I3 (stat fr3) st3 stop) fun r s4 h9=>?_;obtain ⟨hr,I4⟩:=h9;subst hr;have J5:Inv X pins σ H' s4:=I2.call' (ch:=fp) I4.os I4.base I4.hok I4.bare fun b hb=>⟨(f2 b hb).2.2.2.1,(f2 b hb).2.1,(f2 b hb).2.2.2.2.1,(f2 b hb).2.2.2.2.2⟩;exact fin _ H' s4 _ J5 q (by obtain ⟨m,q,_⟩:=I4.loc;exact ⟨m,q⟩) (I2.fpOk hCle I4.free)
  ·refine thn (T.item (X.block (x :: z :: caps) scope cl G.objs.size fp s2 H2) rfl rfl rfl hc k [] s3 _ _ (fun _ _=>False) I3 (stat fr3) st3 go) fun r s4 h9=>?_;obtain ⟨u,hr,h4⟩:=h9;subst hr;refine thn h4 fun _ s5 h9=>?_;obtain ⟨v,H5,I5,r5,y5,st5,fr5⟩:=h9;have I5':=I5.pinned (stat fr5) (T.obj _ _ st5);obtain ⟨pq,va,vb,rfl,sq5,stp⟩:=step v H5 y5;refine thn (pg_tup (X:=X.block (x :: z :: caps) scope cl G.objs.size fp s2 H2) (pos:=tp) (k:=kk) (n:=2) hc
     (J17 (Jm (X:=X.block (x :: z :: caps) scope cl G.objs.size fp s2 H2) (i:=0) (pos:=px) hnd rfl (.inl hxl) (.inr hxl))
      (J17 (Jm (X:=X.block (x :: z :: caps) scope cl G.objs.size fp s2 H2) (i:=1) (pos:=pz) hnd rfl (.inl hzl) (.inr hzl)) pgs_nil)) rfl rfl _ s5 _ _ _ u
    (fun σ' H'=>σ'=some va :: some vb :: capv σ js/\H'=H5) I5' r5 ⟨pq,[va,vb],rfl,sq5,rfl,va,[vb],rfl,vb,[],rfl,rfl,rfl,rfl⟩) fun _ s6 h9=>?_
   obtain ⟨σ6,H6,I6,q6⟩:=h9;obtain ⟨rfl,rfl⟩:=q6;refine thn (ht _ _ _ _ _ s6 _ _ _ I6 stp) fun ok s7 h9=>?_;obtain ⟨H7,I7,q7⟩:=h9;have back:∀ {s8:Shared} {H8:Hp} {o8 o9:Option V} {ys8:List V} {m':Nat},Inv (X.block (x :: z :: caps) scope cl G.objs.size fp s2 H2) ([] ++ pinsAt fp s5.heap) (o8 :: o9 :: capv σ js) H8 s8->m' < m->W (k + 1) m' ys8 H8->
     ∃ m',m' < m/\∃ (k:Nat) (o o2:Option V) (ys:List V) (H':Hp),Inv (X.block (x :: z :: caps) scope cl G.objs.size fp s2 H2) [] (o :: o2 :: capv σ js) H' s8/\tn k s8.heap/\(∀ b∈fp,H' b=none)/\W k m' ys H':=fun {s8 H8 o8 o9 ys8 m'} I8 hm w8=>by
    refine ⟨m',hm,k + 1,o8,o9,ys8,H8,I8.unpinned,T.keep _ _ _ st5 fun b hb o e=>(I8.pin (b,o) (mem_append_right _ (mem_append_right _ (J18 hb e)))).1,fun b hb=>?_,w8⟩;obtain ⟨o,e,d⟩:=T.obj _ _ st5 b hb;exact (I8.pin (b,o) (mem_append_right _ (mem_append_right _ (J18 hb e)))).2.1
   cases ok with
   | false =>
    have q7':∃ m',m' < m/\W (k + 1) m' ys H7:=by
     have:=q7;rwa [if_neg (by decide)] at this
    obtain ⟨m',hm,w8⟩:=q7';exact back I7 hm w8
   | true =>
    have q7':te (some va :: some vb :: capv σ js) H7 fun y H5=>H5 s2.heap.objs.size=some (.lst ys)/\∃ m',m' < m/\W (k + 1) m' (ys ++ [y]) (upd H5 s2.heap.objs.size (.lst (ys ++ [y]))):=by
     have:=q7;rwa [if_pos rfl] at this
    refine (show wpAny _ _ _ _ _ _ from thn (he _ _ _ _ _ s7 _ _ _ I7 q7') fun u8 s8 h9=>?_);obtain ⟨v8,H8,I8,r8,hd8,m',hm,w8⟩:=h9;refine thn (J1y (X:=X.block (x :: z :: caps) scope cl G.objs.size fp s2 H2) _ s8 _ _ (.ref s2.heap.objs.size) [v8] (.ref s2.heap.objs.size) [u8]
     (fun _ H'=>H'=upd H8 s2.heap.objs.size (.lst (ys ++ [v8]))) I8 rfl (.cons r8 .nil) ⟨s2.heap.objs.size,_,v8,rfl,rfl,hd8,hz,rfl⟩) fun _ s9 h9=>?_
    obtain ⟨_,H9,I9,_,q9⟩:=h9;subst q9;exact back I9 hm w8
 have st1:tn 0 h₁:=T.keep _ _ _ st2 fun b hb o e=>old b o e;exact codeAny_compStart_list (loop _) (T.self X.A 0 _ _ _ st1 (loop _))
theorem pe_lc2 (hc:X.calm=true) (hp:PI X (.Tuple [.Name x px,.Name z pz] kk tp) iter wi) (hclos:closureFor scope X.env=pure cl)
  (ht:∀ (C:Addr) (fp:List Addr) (s:Shared) (H:Hp),PTs (X.block (x :: z :: caps) scope cl C fp s H) ifs tc)
  (he:∀ (C:Addr) (fp:List Addr) (s:Shared) (H:Hp),PE (X.block (x :: z :: caps) scope cl C fp s H) elt te)
  (hcell:∀ p∈scope.names,p.2≠.cell) (hnames:∀ p∈scope.names,p.2=.local->scope.names.lookup p.1=some .local) (hnd:(x :: z :: caps).Nodup)
  (hsub:∀ p∈cl,X.env.cells.lookup p.1=some p.2)
  (hhas:freeOk scope cl=true:=by rfl) (hlen:caps.length=js.length:=by rfl) (hcaps:capsOk X scope cl caps js=true:=by rfl)
  (hkind:scope.kind=.function:=by rfl) (hx:scope.names.lookup x=some .local:=by rfl) (hz':scope.names.lookup z=some .local:=by rfl) (hs:∀ v,foldedSetIterable iter X.env v=pure v:=by intro _;rfl) :
  PE X (.ListComp elt [⟨.Tuple [.Name x px,.Name z pz] kk tp,iter,ifs,0⟩] scope pos) (tLC2 X.K wi tc te js):=by
 intro pins s σ H Q I h;rw [eval_ListComp];refine comp_core2 (use:=none) hc hp he ht hcell hnames hnd hsub (freeOk.get hhas) hlen (capsOk.get hlen hcaps) hclos hkind hx hz' hs I h fun d H' s5 C J5 q hC fp=>?_;obtain ⟨m,nsC⟩:=hC;exact ⟨m,nsC,fun h' hs'=>⟨.ref d,H',J5.turned (h':=h') (t':=s5.toks) (it:=C) (fun b o hb e=>(hs'.2 b hb).trans e) fp.1 fp.2.1 fp.2.2.2.1 fp.2.2.2.2.1 fp.2.2.2.2.2,rfl,q⟩⟩
end
section
variable {K:PySem.W.Frag} {a:Addr} {H1:Hp} {tc:TT} {te:TE} {σ:St} {js:List Nat} {Q:VK} {d:Addr}
theorem lc_enumR (xs:List V) (Pr:Hp->Addr->Nat->Prop) (hx:SqT K H1 a xs) (hn:xs.length<=sizeLine) (hd:H1 d=none)
  (mono:∀ H H' q i,KeepD d H H'->q≠d->Pr H q i->Pr H' q i)
  (he:∀ (i:Nat) (v:V),xs[i]?=some v->∀ H Qe,Same H1 H->(∃ ys,H d=some (.lst ys))->(∀ q H',Same H H'->q≠d->Pr H' q i->Qe (.ref q) H')->te (some (.int (i:Nat)) :: some v :: capv σ js) H Qe)
  (hq:∀ ys H',Same H1 H'->H' d=some (.lst ys)->Refs (fun q i=>Pr H' q i) ys xs.length->Q (.ref d) H'):LCW2 K (Ite K a) tYes te σ js Q H1 d:=by
 have s0:∀ o,Same H1 (upd H1 d o):=fun o b u e=>by rw [Ja (J6 e hd)];exact e
 refine ⟨fun i m ys H=>m=xs.length - i/\i<=xs.length/\Same H1 H/\H d=some (.lst ys)/\Refs (fun q i=>q≠d/\Pr H q i) ys i,⟨_,rfl,Nat.zero_le _,s0 _,J1,Refs.nil⟩,?_⟩;rintro i m ys H2 ⟨rfl,hi,sm,h2,rf⟩;refine ⟨h2,?_⟩;by_cases hlt:i < xs.length
 ·refine .inr ⟨⟨_,_,sm.tup hx,getElem?_eq_getElem hlt⟩,by rw [rf.len];lia,fun v H3 y3=>?_⟩;obtain ⟨p,x,rfl,hp,rfl,hv⟩:=y3;have hv:=hv _ (sm.tup hx);have s3:Same H2 (upd H2 p (.tup [.int (i:Int),x])):=fun b u e=>by rw [Ja (J6 e hp)];exact e
  refine ⟨p,_,_,rfl,SqT.of J1,?_⟩;unfold tYes;dsimp only;rw [if_pos rfl];refine he i x hv _ _ (sm.trans s3) ⟨_,s3 _ _ h2⟩ fun q H5 s5 hqd hpq=>⟨s5 _ _ (s3 _ _ h2),xs.length - (i + 1),by lia,rfl,hlt,?_,J1,?_⟩
  ·intro b u e;rw [Ja (J6 e hd)];exact s5 _ _ (s3 _ _ (sm _ _ e))
  ·have kd:∀ H,KeepD d H (upd H d (.lst (ys ++ [.ref q]))):=fun H b o e n=>by rw [Ja n];exact e
   refine (rf.mono fun a j _ x=>⟨x.1,?_⟩).snoc ⟨hqd,mono _ _ _ _ (kd _) hqd hpq⟩;exact mono _ _ _ _ (fun b o e n=>kd _ _ _ (s5 _ _ (s3 _ _ e)) n) x.1 x.2
 ·have e:i=xs.length:=by lia
  subst e;exact .inl ⟨⟨_,sm.tup hx,Nat.le_refl _⟩,hq ys H2 sm h2 (rf.mono fun _ _ _ x=>x.2)⟩
end
end L2
namespace Rl
end Rl
namespace Rl
end Rl
namespace Rl
end Rl
namespace Rl
def nS (f:Nat->Nat) (row:List Nat):Nat:=(row.map f).sum
end Rl
namespace Rl
end Rl
namespace Rl
end Rl
namespace Rl
end Rl
namespace Rl
end Rl
namespace Rl
end Rl
namespace Rl
end Rl
namespace Rl
end Rl
namespace Rl
end Rl
namespace Rl
end Rl
namespace Rl
end Rl
namespace Rl
end Rl
namespace Rl
end Rl
namespace Rl
end Rl
namespace PySem
namespace F
end F
end PySem
namespace L2
open PySem PyProof.Rows
end L2
namespace R49
open PySem L2 Rl
def top (i:Nat):Stmt:=PySem.Challenge.pw_relaid_k49_lines_repeated.main.body.getD i (.Pass ⟨0,0,0,0⟩)
abbrev sRefL:Stmt:=top 9
abbrev sRefO:Stmt:=top 10
abbrev sRefT:Stmt:=top 11
abbrev sTold:Stmt:=top 12
abbrev sFirst:Stmt:=top 13
abbrev sStrOf:Stmt:=top 17
abbrev sFirstG:Stmt:=top 18
abbrev sLastG:Stmt:=top 19
abbrev sGoTog:Stmt:=top 20
abbrev sMade1:Stmt:=top 21
abbrev J46:Stmt:=top 22
abbrev sLineOf:Stmt:=top 23
abbrev sPartsB:Stmt:=top 25
abbrev sJoinS:Stmt:=top 26
abbrev sBackS:Stmt:=top 27
abbrev sLineW:Stmt:=top 28
abbrev J3b:Stmt:=top 29
abbrev sCell:Stmt:=top 31
abbrev sDrawn:Stmt:=top 32
abbrev sLGoes:Stmt:=top 33
abbrev sLComes:Stmt:=top 34
abbrev sLLine:Stmt:=top 35
abbrev sStarts:Stmt:=top 36
abbrev sLPlain:Stmt:=top 37
abbrev sLGone:Stmt:=top 38
abbrev J47:Stmt:=top 39
abbrev sBlocks:Stmt:=top 40
abbrev sLaw:Stmt:=top 41
abbrev sInit:Stmt:=inClass (top 14) 0
abbrev sSrInit:Stmt:=inClass (top 16) 0
abbrev iV (ns:List Int):List V:=ns.map V.int
abbrev nV (os:List Nat):List V:=(natI os).map V.int
abbrev bV (bs:List Bool):List V:=bs.map V.bl
def SqH (H:Hp) (p:Addr) (xs:List V):Prop:=H p=some (.lst xs)\/H p=some (.tup xs)
theorem SqH.sq {K:PySem.W.Frag} {H:Hp} {p:Addr} {xs:List V} (h:SqH H p xs):SqL K H p xs\/SqT K H p xs:=h.elim (fun h=>.inl (SqL.of h)) fun h=>.inr (SqT.of h)
theorem SqH.same {H H':Hp} {p:Addr} {xs:List V} (h:SqH H p xs) (s:Same H H'):SqH H' p xs:=h.elim (fun h=>.inl (s _ _ h)) fun h=>.inr (s _ _ h)
theorem J3 {H:Hp} {l:Addr} {o:HO} (h:H l=none):Same H (upd H l o):=fun b u e=>by rw [Ja (J6 e h)];exact e
theorem iteD {c A B:Prop} [Decidable c] (hc:¬ c) (h:B):if decide c=true then A else B:=by
 rw [decide_eq_false hc];exact iteF h
theorem iteDT {c A B:Prop} [Decidable c] (hc:c) (h:A):if decide c=true then A else B:=by
 rw [decide_eq_true hc];exact iteT h
theorem iteBT {c:Bool} {A B:Prop} (h:c=true) (q:A):if c=true then A else B:=by rw [if_pos h];exact q
theorem iteBF {c:Bool} {A B:Prop} (h:¬ c=true) (q:B):if c=true then A else B:=by rw [if_neg h];exact q
theorem J3c {K:PySem.W.Frag} {H:Hp} {p:Addr} {xs:List V} {Q:VK} (h:SqH H p xs) (k:∀ l H',Same H H'->H' l=some (.tup xs)->Q (.ref l) H'):rTup K [V.ref p] H Q:=by
 unfold rTup;rcases h with h | h
 ·exact ⟨p,xs,rfl,.inl ⟨SqL.of h,fun l hl=>k l _ (J3 hl) J1⟩⟩
 ·exact ⟨p,xs,rfl,.inr ⟨SqT.of h,k p H (Same.refl _) h⟩⟩
theorem vint_ne {i j:Int} (h:i≠j):¬ V.int i=V.int j:=fun e=>h (V.int.inj e)
theorem ixN_nat {n o:Nat} (h:o < n):ixN n (o:Int)=some o:=by
 unfold ixN;rw [if_pos (by lia),if_pos (by lia)];simp
theorem J1p {ns:List Int} {j:Nat} (h:j < ns.length):(iV ns)[j]?=some (V.int (ns.getD j 0)):=by
 rw [getElem?_map,getElem?_eq_getElem h,getD_eq_getElem?_getD,getElem?_eq_getElem h];rfl
theorem iV_set (ns:List Int) (j:Nat) (z:Int):(iV ns).set j (V.int z)=iV (ns.set j z):=by
 show (ns.map V.int).set j (V.int z)=(ns.set j z).map V.int;rw [List.map_set]
theorem nV_get {os:List Nat} {j:Nat} {y:V} (h:(nV os)[j]?=some y):j < os.length/\y=V.int (os.getD j 0:Nat)/\os.getD j 0∈os:=by
 have hj:j < os.length:=by
  have:=(List.getElem?_eq_some_iff.mp h).1;simpa [natI] using this
 refine ⟨hj,?_,?_⟩
 ·rw [getElem?_map] at h;unfold natI at h;rw [getElem?_map,getElem?_eq_getElem hj] at h;rw [getD_eq_getElem?_getD,getElem?_eq_getElem hj];exact (Option.some.inj h).symm
 ·rw [getD_eq_getElem?_getD,getElem?_eq_getElem hj];exact getElem_mem hj
theorem flat_zero (n:Nat):(List.replicate n [V.int 0]).flatten=iV (List.replicate n 0):=by
 induction n with
 | zero=>rfl
 | succ n ih=>rw [replicate_succ,flatten_cons,ih,replicate_succ];rfl
theorem flat_false (n:Nat):(List.replicate n [V.bl false]).flatten=bV (List.replicate n false):=by
 induction n with
 | zero=>rfl
 | succ n ih=>rw [replicate_succ,flatten_cons,ih,replicate_succ];rfl
theorem J1r {f:Str} {v:V} {fs:List (Str × V)}:(putF f v fs).lookup f=some v:=by rw [J1o,if_pos rfl]
theorem lk_ne {f g:Str} {v:V} {fs:List (Str × V)} (h:¬ g=f):(putF f v fs).lookup g=fs.lookup g:=by rw [J1o,if_neg h]
theorem J4j (ls:List Int):(iV ls).length=ls.length:=length_map ..
def KeepX (x:Addr) (H H':Hp):Prop:=∀ b o,H b=some o->b≠x->H' b=some o
theorem KeepX.of {x:Addr} {H H':Hp} (s:Same H H'):KeepX x H H':=fun b o e _=>s b o e
theorem KeepX.trans {x:Addr} {H H1 H2:Hp} (a:KeepX x H H1) (b:KeepX x H1 H2):KeepX x H H2:=fun c o e n=>b c o (a c o e n) n
theorem KeepX.upd {x:Addr} {H:Hp} {o:HO}:KeepX x H (upd H x o):=fun b u e n=>by rw [Ja n];exact e
theorem KeepX.sqH {x p:Addr} {H H':Hp} {xs:List V} (k:KeepX x H H') (h:SqH H p xs) (n:p≠x):SqH H' p xs:=h.elim (fun h=>.inl (k _ _ h n)) fun h=>.inr (k _ _ h n)
theorem SqH.ne {H:Hp} {p x C dx:Addr} {xs:List V} {fs:List (Str × V)} (h:SqH H p xs) (hx:H x=some (.ins C dx fs)):p≠x:=h.elim (fun h=>ne_of h hx (by intro z;cases z)) fun h=>ne_of h hx (by intro z;cases z)
theorem bV_get {ts:List Bool} {j:Nat} (h:j < ts.length):(bV ts)[j]?=some (V.bl (ts.getD j false)):=by
 rw [getElem?_map,getElem?_eq_getElem h,getD_eq_getElem?_getD,getElem?_eq_getElem h];rfl
structure TxtX (K:PySem.W.Frag) (mg:Str->Option Value) (x:Str) (CO:Addr):Prop where
 mg:mg x=some (.ref CO)
 ex:excIn K CO bmV "ValueError.__new__"=true
structure TxtR (mg:Str->Option Value):Prop where
 len:mg "len"=none
 sum:mg "sum"=none
 tuple:mg "tuple"=none
 list:mg "list"=none
 range:mg "range"=none
theorem nV_eq (row:List Nat):nV row=row.map fun (j:Nat)=>V.int (j:Int):=by
 show (row.map fun (n:Nat)=>(n:Int)).map V.int=_;rw [map_map];rfl
theorem len_nV (row:List Nat):(nV row).length=row.length:=by rw [nV_eq,length_map]
theorem nV_at {row:List Nat} {i:Nat} (h:i < row.length):(nV row)[i]?=some (V.int (row.getD i 0:Nat)):=by
 rw [nV_eq,getElem?_map,getD_eq_getElem?_getD,getElem?_eq_getElem h];rfl
section
variable {P:Program} {w:World} {K:PySem.W.Frag} {mg:Str->Option Value} {base:Heap}
def spFirst:Sp:=fun vs H Q _=>∃ (p q:Addr) (ls:List Int) (os:List Nat),vs=[.ref p,.ref q]/\H p=some (.tup (iV ls))/\SqH H q (nV os)/\(∀ o∈os,o < ls.length)/\ls.length<=24/\
 ∀ l H',Same H H'->H' l=some (.tup (iV (firsts ls os)))->Q (.ref l) H'
theorem scFirst:FnScope ["lengths","order","firsts","place","piece"] ["lengths","order"] (J9 sFirst):=fS
def PvF (p q fl:Addr) (ls:List Int) (os:List Nat) (H:Hp) (i:Nat) (σ:St) (H2:Hp):Prop :=
 ∃ v,σ=[some (.ref p),some (.ref q),some (.ref fl),some (.int (sumsF ls os i).2),v]/\H2 fl=some (.lst (iV (sumsF ls os i).1))/\H fl=none/\Same H H2
theorem ok_first {f:Addr} {fd:FuncData} (F:Fun K "first_places" "first_places" sFirst f fd) (T:TxtR mg):FnOk P w K mg base CX0 1 f fd ["lengths","order"] spFirst:=by
 refine F.ok scFirst (fun vs H Q E h=>?_) (fun cdv A outer s H vs Q E hr h=>?_)
 ·obtain ⟨p,q,ls,os,rfl,_⟩:=h;rfl
 ·obtain ⟨p,q,ls,os,rfl,hp,hq,hlt,hn,k⟩:=h;have hl:(iV ls).length=ls.length:=length_map ..;have turn:∀ (fl:Addr) (i:Nat) (y:V) (σ:St) (H2:Hp) (D:Ends),(nV os)[i]?=some y->PvF p q fl ls os H i σ H2->D.nx=PvF p q fl ls os H (i + 1)->
    gName 4 y σ H2 fun σ2 H2=>tSeq (tAsg (tVar 3) (gSub (tVar 2) (tVar 4) rSetL)) (tAsg (tOp (rI0 fun i j=>.int (i + j)) (tVar 3) (tOp (rIxT K) (tVar 0) (tVar 4))) (gName 3)) D σ2 H2:=by
   rintro fl i y σ H2 D hy ⟨v,rfl,h1,h2,h3⟩ hD;obtain ⟨hi,rfl,hm⟩:=nV_get hy;have ho:=hlt _ hm;refine ⟨_,rfl,_,rfl,_,rfl,fl,_,_,os.getD i 0,rfl,rfl,h1,ixN_nat (by rw [length_map,J2c];exact ho),?_⟩;refine ⟨_,rfl,_,rfl,_,rfl,p,_,_,_,rfl,rfl,SqT.of (xs:=iV ls) ?_,Ji (J1p ho),_,_,rfl,rfl,?_⟩
   ·rw [Ja (ne_of (h3 _ _ hp) h1 (by intro z;cases z))];exact h3 _ _ hp
   ·show D.nx _ _;rw [hD];refine ⟨_,rfl,?_,h2,fun b o e=>?_⟩
    ·rw [J1,iV_set];rfl
    ·rw [Ja (J6 e h2)];exact h3 _ _ e
  have start0:∀ fl,H fl=none->∀ H1,Same H H1->H1 fl=some (.lst (iV (List.replicate ls.length 0)))->PvF p q fl ls os H 0 [some (.ref p),some (.ref q),some (.ref fl),some (.int 0),none] H1:=fun fl h1 H1 h2 h3=>⟨none,rfl,h3,h1,h2⟩;have done:∀ fl (σ:St) (H2:Hp),PvF p q fl ls os H (nV os).length σ H2->tRet (tCB (rTup K) (tCons (tVar 2) tNil)) { nx:=fun _ H'=>Q .non H',rt:=Q } σ H2:=by
   rintro fl σ H2 ⟨v,rfl,h1,h2,h3⟩;have e:(nV os).length=os.length:=by simp [natI]
   rw [e] at h1;exact ⟨_,rfl,J3c (.inl h1) fun l H' s hl=>k l _ (h3.trans s) hl⟩
  have rep:∀ fl,H fl=none->∀ l2,(upd H fl (.lst [V.int 0])) l2=none->PvF p q l2 ls os H 0 [some (.ref p),some (.ref q),some (.ref l2),some (.int 0),none] (upd (upd H fl (.lst [V.int 0])) l2 (.lst (List.replicate ((iV ls).length:Int).toNat [V.int 0]).flatten)):=fun fl hf l2 h2 =>
   start0 l2 ((J3 hf).free h2) _ ((J3 hf).trans (J3 h2)) (by rw [J1,flat_zero,hl];rfl)
  rcases hq with hq | hq
  ·refine ⟨_,J2 (Je (i:=2) scFirst.nd rfl (Or.inl rfl) (pe_op op_rep (J1e (J0 J8 J4)) (Jb Jf (by rfl) T.len boot_len (J0 (pv 0) J4))))
    (J2 (Je (i:=3) scFirst.nd rfl (Or.inl rfl) J8)
    (J2 (J1s PassesOwn.never rfl (J13 (pv 1)) (Jm (i:=4) scFirst.nd rfl (Or.inl rfl)) (J2 (ps_asg (pv 3) (pg_sub (pv 2) (pv 4) J45)) (J7 (Je (i:=3) scFirst.nd rfl (Or.inl rfl) (pe_op J11 (pv 3) (pe_ix J24 (pv 0) (pv 4) (fun _ _=>rfl)))))))
    (J7 (Jo (Jh J2q (by rfl) T.tuple boot_tuple (J0 (pv 2) J4)))))),?_⟩
   refine ⟨by show 1<=sizeLine;decide,fun fl hf=>⟨_,rfl,p,_,rfl,.inr (SqT.of (J3 hf _ _ hp)),fl,_,[V.int 0],rfl,rfl,J1,by lia,by lia,?_,fun l2 h2=>?_⟩⟩
   ·show 1 * ((iV ls).length:Int).toNat<=sizeLine;have:=Jk (n:=ls.length) (by lia);lia
   ·have p0:=rep fl hf l2 h2;exact ⟨_,rfl,q,rfl,⟨_,SqL.of (((J3 hf).trans (J3 h2)) _ _ hq)⟩,J1k (K:=K) (a:=q) (xs:=nV os) (PvF p q l2 ls os H) p0 (fun i σ H2 _ h9=>by obtain ⟨_,_,_,_,s⟩:=h9;exact SqL.of (s _ _ hq)) (fun i y σ H2 hi pv=>turn l2 i y σ H2 _ hi pv rfl) (fun σ H2 pv=>done l2 σ H2 pv)⟩
  ·refine ⟨_,J2 (Je (i:=2) scFirst.nd rfl (Or.inl rfl) (pe_op op_rep (J1e (J0 J8 J4)) (Jb Jf (by rfl) T.len boot_len (J0 (pv 0) J4))))
    (J2 (Je (i:=3) scFirst.nd rfl (Or.inl rfl) J8)
    (J2 (J1s PassesOwn.never rfl (pi_tup (pv 1)) (Jm (i:=4) scFirst.nd rfl (Or.inl rfl)) (J2 (ps_asg (pv 3) (pg_sub (pv 2) (pv 4) J45)) (J7 (Je (i:=3) scFirst.nd rfl (Or.inl rfl) (pe_op J11 (pv 3) (pe_ix J24 (pv 0) (pv 4) (fun _ _=>rfl)))))))
    (J7 (Jo (Jh J2q (by rfl) T.tuple boot_tuple (J0 (pv 2) J4)))))),?_⟩
   refine ⟨by show 1<=sizeLine;decide,fun fl hf=>⟨_,rfl,p,_,rfl,.inr (SqT.of (J3 hf _ _ hp)),fl,_,[V.int 0],rfl,rfl,J1,by lia,by lia,?_,fun l2 h2=>?_⟩⟩
   ·show 1 * ((iV ls).length:Int).toNat<=sizeLine;have:=Jk (n:=ls.length) (by lia);lia
   ·have p0:=rep fl hf l2 h2;exact ⟨_,rfl,q,rfl,⟨_,SqT.of (((J3 hf).trans (J3 h2)) _ _ hq)⟩,for_tup (K:=K) (a:=q) (xs:=nV os) (PvF p q l2 ls os H) p0 (fun i σ H2 _ h9=>by obtain ⟨_,_,_,_,s⟩:=h9;exact SqT.of (s _ _ hq)) (fun i y σ H2 hi pv=>turn l2 i y σ H2 _ hi pv rfl) (fun σ H2 pv=>done l2 σ H2 pv)⟩
end
end R49
namespace R49
open PySem L2 Rl
structure Good (ls:List Int) (os:List Nat):Prop where
 lo:1<=ls.length
 hi:ls.length<=24
 pos:∀ a∈ls,1<=a
 sum:ls.sum<=10 ^ 30
 perm:os.Perm (List.range ls.length)
theorem Good.olt {ls:List Int} {os:List Nat} (g:Good ls os):∀ o∈os,o < ls.length:=fun o h=>mem_range.mp (g.perm.mem_iff.mp h)
structure Txt (K:PySem.W.Frag) (mg:Str->Option Value):Prop where
 len:mg "len"=none
 min:mg "min"=none
 sum:mg "sum"=none
 sorted:mg "sorted"=none
 list:mg "list"=none
 range:mg "range"=none
 tuple:mg "tuple"=none
 most:∃ t,mg "MOST_PIECES"=some (.int 24 t)
section
variable {P:Program} {w:World} {K:PySem.W.Frag} {mg:Str->Option Value} {base:Heap}
def spRefL:Sp:=fun vs H Q _=>∃ (p:Addr) (ls:List Int) (os:List Nat),vs=[.ref p]/\SqH H p (iV ls)/\Good ls os/\Q .non H
theorem scRefL:FnScope ["lengths"] ["lengths"] (J9 sRefL):=fS
theorem ok_refL {f:Addr} {fd:FuncData} (F:Fun K "refuse_lengths" "refuse_lengths" sRefL f fd) (T:Txt K mg):FnOk P w K mg base CX0 1 f fd ["lengths"] spRefL:=by
 refine F.ok scRefL (fun vs H Q E h=>?_) (fun cdv A outer s H vs Q E hr h=>?_)
 ·obtain ⟨p,ls,os,rfl,_⟩:=h;rfl
 ·obtain ⟨p,ls,os,rfl,hp,g,k⟩:=h;obtain ⟨t24,h24⟩:=T.most;have g1:=g.lo;have g2:=g.hi;refine ⟨_,J2 (ps_if (Jq op_eq (Jb Jf (by rfl) T.len boot_len (J0 (pv 0) J4)) J8 (Ju _)) (J7 J22) Js)
   (J2 (ps_if (Jq op_gt (Jb Jf (by rfl) T.len boot_len (J0 (pv 0) J4)) (J3t (v:=.int 24) rfl h24 ⟨_,rfl⟩) (Ju _)) (J7 J22) Js)
   (J2 (ps_if (Jq op_lt (Jb (call_min rfl) (by rfl) T.min boot_min (J0 (pv 0) J4)) J8 (Ju _)) (J7 J22) Js)
   (J7 (ps_if (Jq op_gt (Jb (J1v rfl) (by rfl) T.sum boot_sum (J0 (pv 0) J4)) (pe_op op_pow J8 J8) (Ju _)) (J7 J22) Js)))),?_⟩
  have hl:(iV ls).length=ls.length:=length_map ..;refine ⟨_,rfl,p,_,rfl,hp.sq,rfl,_,rfl,iteD (vint_ne (by rw [hl];lia)) ?_⟩;refine ⟨_,rfl,p,_,rfl,hp.sq,_,_,rfl,rfl,_,rfl,iteD (by rw [hl];lia) ?_⟩;refine ⟨_,rfl,p,ls,rfl,hp.sq,by lia,fun M hM hall=>⟨_,_,rfl,rfl,_,rfl,iteD (by have:=g.pos M hM;lia) ?_⟩⟩;refine ⟨_,rfl,p,ls,rfl,hp.sq,_,_,rfl,rfl,⟨by decide,by decide,by decide⟩,_,_,rfl,rfl,_,rfl,iteD ?_ ?_⟩
  ·have:=g.sum;show ¬ (10:Int) ^ 30 < ls.sum;lia
  ·exact k
def spRefO:Sp:=fun vs H Q _=>∃ (q:Addr) (os:List Nat) (n:Nat),vs=[.ref q,.int n]/\SqH H q (nV os)/\os.Perm (List.range n)/\n<=24/\∀ H',Same H H'->Q .non H'
theorem scRefO:FnScope ["order","pieces"] ["order","pieces"] (J9 sRefO):=fS
theorem ok_refO {f:Addr} {fd:FuncData} (F:Fun K "refuse_order" "refuse_order" sRefO f fd) (T:Txt K mg):FnOk P w K mg base CX0 1 f fd ["order","pieces"] spRefO:=by
 refine F.ok scRefO (fun vs H Q E h=>?_) (fun cdv A outer s H vs Q E hr h=>?_)
 ·obtain ⟨q,os,n,rfl,_⟩:=h;rfl
 ·obtain ⟨q,os,n,rfl,hq,hp,hn,k⟩:=h;have hu:=hr.units0;refine ⟨_,J7 (ps_if (Jq (op_neL hu) (Jb call_sorted (by rfl) T.sorted PyProof.Rows.boot_sorted (J0 (pv 0) J4))
   (Jh (J28 rfl) (by rfl) T.list boot_list (J0 (Jh J4n (by rfl) T.range PyProof.Rows.boot_range (J0 (pv 1) J4)) J4)) (Ju _)) (J7 J22) Js),?_⟩
  have ho:(natI os).length < 64:=by
   unfold natI;rw [length_map,hp.length_eq,length_range];lia
  refine ⟨_,rfl,q,natI os,rfl,hq.sq,ho,fun l ns' hl h1 h2=>?_⟩;refine ⟨_,rfl,(n:Int),rfl,fun r hr'=>⟨r,n,rfl,J1,by lia,fun l2 hl2=>?_⟩⟩;have e:=J42 hp h1 h2;have n1:l≠r:=J6 (H:=upd H l (.lst (ns'.map V.int))) J1 hr';have s1:Same (upd H l (.lst (ns'.map V.int))) (upd (upd (upd H l (.lst (ns'.map V.int))) r (.rng 0 n)) l2 (.lst (((List.range n).map fun (i:Nat)=>(i:Int)).map V.int))):=(J3 hr').trans (J3 hl2);refine ⟨l,l2,_,_,rfl,rfl,SqL.of (s1 _ _ J1),SqL.of J1,Kin.ints _ _,_,rfl,iteNS (by rw [e];rfl) ?_⟩;exact k _ ((J3 hl).trans s1)
def spRefT:Sp:=fun vs H Q _=>∃ (q:Addr) (xs:List V) (n:Nat),vs=[.ref q,.int n]/\SqH H q xs/\xs.length=n/\Q .non H
theorem scRefT:FnScope ["turned","pieces"] ["turned","pieces"] (J9 sRefT):=fS
theorem ok_refT {f:Addr} {fd:FuncData} (F:Fun K "refuse_turned" "refuse_turned" sRefT f fd) (T:Txt K mg):FnOk P w K mg base CX0 1 f fd ["turned","pieces"] spRefT:=by
 refine F.ok scRefT (fun vs H Q E h=>?_) (fun cdv A outer s H vs Q E hr h=>?_)
 ·obtain ⟨q,xs,n,rfl,_⟩:=h;rfl
 ·obtain ⟨q,xs,n,rfl,hq,hn,k⟩:=h;refine ⟨_,J7 (ps_if (Jq op_ne (Jb Jf (by rfl) T.len boot_len (J0 (pv 0) J4)) (pv 1) (Ju _)) (J7 J22) Js),?_⟩;refine ⟨_,rfl,q,_,rfl,hq.sq,_,rfl,rfl,_,rfl,iteNS (by rw [hn]) ?_⟩;exact k
def TurnsOf (H:Hp) (tv:V) (n:Nat) (ts:List Bool):Prop:=ts.length=n/\((tv=.non/\ts=List.replicate n false)\/∃ t,tv=.ref t/\SqH H t (bV ts))
theorem TurnsOf.same {H H':Hp} {tv:V} {n:Nat} {ts:List Bool} (h:TurnsOf H tv n ts) (s:Same H H'):TurnsOf H' tv n ts:=⟨h.1,h.2.elim .inl fun h9=>by obtain ⟨t,e,q⟩:=h9;exact .inr ⟨t,e,q.same s⟩⟩
def spTold:Sp:=fun vs H Q _=>∃ (tv:V) (n:Nat) (ts:List Bool),vs=[tv,.int n]/\1<=n/\n<=24/\TurnsOf H tv n ts/\∀ p H',Same H H'->H' p=some (.tup (bV ts))->Q (.ref p) H'
theorem scTold:FnScope ["turned","pieces"] ["turned","pieces"] (J9 sTold):=fS
theorem ok_told {f fT:Addr} {fd fdT:FuncData} (F:Fun K "turns_told" "turns_told" sTold f fd) (T:Txt K mg) (FT:Fun K "refuse_turned" "refuse_turned" sRefT fT fdT) (bT:Binds K fdT ["turned","pieces"] []) (mT:mg "refuse_turned"=some (.ref fT)):FnOk P w K mg base CX0 2 f fd ["turned","pieces"] spTold:=by
 have GT:FnOk P w K mg base CX0 1 fT fdT ["turned","pieces"] spRefT:=ok_refT FT T;refine F.ok scTold (fun vs H Q E h=>?_) (fun cdv A outer s H vs Q E hr h=>?_)
 ·obtain ⟨tv,n,ts,rfl,_⟩:=h;rfl
 ·obtain ⟨tv,n,ts,rfl,h1,h2,⟨ht,h3⟩,k⟩:=h;refine ⟨_,J2 (ps_if (pt_cmp (pc_isN (pv 0))) (J7 (Jo (pe_op op_repT (pe_tup (J0 pe_bl J4)) (pv 1)))) Js)
   (J2 (J2g (Jd GT hr rfl mT FT.kp bT .nil pass0 (J0 (pv 0) (J0 (pv 1) J4))))
   (J7 (Jo (Jh J2q (by rfl) T.tuple boot_tuple (J0 (pv 0) J4))))),?_⟩
  rcases h3 with ⟨rfl,rfl⟩ | ⟨t,rfl,hq⟩
  ·refine ⟨_,rfl,_,rfl,iteDT rfl ?_⟩;refine ⟨by show 1<=sizeLine;decide,fun p hp=>⟨_,rfl,p,(n:Int),[V.bl false],rfl,rfl,J1,by simp,by lia,by lia,?_,fun e=>?_,fun hk p2 hp2=>?_⟩⟩
   ·show 1 * (n:Int).toNat<=sizeLine;have:=Jk (n:=n) (by lia);lia
   ·have en:n=1:=by lia
    subst en;exact k p _ (J3 hp) J1
   ·refine k p2 _ ((J3 hp).trans (J3 hp2)) ?_;rw [J1,<- flat_false];rfl
  ·refine ⟨_,rfl,_,rfl,iteD (by intro e;cases e) ?_⟩;refine ⟨_,rfl,_,rfl,t,bV ts,n,rfl,hq,by rw [length_map];exact ht,?_⟩;exact ⟨_,rfl,J3c hq k⟩
def tCut (t:TS):TS:=fun D σ H=>∃ post:St->Hp->Prop,t { D with nx:=post } σ H/\∀ σ' H',post σ' H'->D.nx σ' H'
theorem J1d {X:Cx} {st:Stmt} {t:TS} (h:PS X st t):PS X st (tCut t):=by
 intro pins s σ H D I ⟨post,q,m⟩;refine thn (h pins s σ H _ I q) fun f s' z=>?_
 cases f with
 | next=>obtain ⟨σ',H',I',z⟩:=z;exact ⟨σ',H',I',m σ' H' z⟩
 | brk=>exact z
 | cont=>exact z
 | ret u=>exact z
structure LineAt (C:Addr) (H:Hp) (x:Addr) (ls:List Int) (os:List Nat) (ts:List Bool):Prop where
 ex:∃ (dx:Addr) (fs:List (Str × V)) (pl po pt ps pd:Addr),H x=some (.ins C dx fs)/\(fs.lookup ("lengths":Str)=some (.ref pl)/\fs.lookup ("order":Str)=some (.ref po)/\fs.lookup ("turned":Str)=some (.ref pt)/\
  fs.lookup ("starts":Str)=some (.ref ps)/\fs.lookup ("laid":Str)=some (.ref pd)/\fs.lookup ("size":Str)=some (.int ls.sum))/\
  H pl=some (.tup (iV ls))/\H po=some (.tup (nV os))/\H pt=some (.tup (bV ts))/\H ps=some (.tup (iV (firsts ls (List.range ls.length))))/\H pd=some (.tup (iV (firsts ls os)))
theorem LineAt.same {C:Addr} {H H':Hp} {x:Addr} {ls:List Int} {os:List Nat} {ts:List Bool} (h:LineAt C H x ls os ts) (s:Same H H'):LineAt C H' x ls os ts:=by
 obtain ⟨dx,fs,pl,po,pt,ps,pd,h0,hl,h1,h2,h3,h4,h5⟩:=h.ex;exact ⟨dx,fs,pl,po,pt,ps,pd,s _ _ h0,hl,s _ _ h1,s _ _ h2,s _ _ h3,s _ _ h4,s _ _ h5⟩
structure TxtC (K:PySem.W.Frag) (mg:Str->Option Value) (C:Addr):Prop where
 cl:Cls K C
 nL:NoAttr K C "lengths"
 nO:NoAttr K C "order"
 nT:NoAttr K C "turned"
 nS:NoAttr K C "starts"
 nD:NoAttr K C "laid"
 nZ:NoAttr K C "size"
structure FunD (K:PySem.W.Frag) (x qual:Str) (st:Stmt) (f:Addr) (fd:FuncData) (TD:Addr):Prop where
 ex:∃ (oc:Value) (od:Option Addr) (kV doc pm:Value) (an:Option Addr) (cdv ct:Value) (osl:Array (Option Value)),
  fd=fnOf x qual (J1m st) (J10 st) (J9 st) (.ref TD) kV doc pm an cdv ct/\K.lookup f=some ⟨oc,od,.func fd,osl⟩/\codeIn K cdv qual=true
 kp:keepIn K (.ref f)=true
theorem FunD.ok {x qual:Str} {st:Stmt} {f TD:Addr} {fd:FuncData} {N ps:List Str} {k:Nat} {sp:Sp} (F:FunD K x qual st f fd TD) (S:FnScope N ps (J9 st)) (len:∀ vs H Q E,sp vs H Q E->vs.length=ps.length)
  (hbody:∀ (cdv:Value) (A:Around) (outer:List Env) (s:Shared) (H:Hp) (vs:List V) (Q:VK) (E:XK),Room k (A.deeper (PyProof.Rows.envOfC qual (J9 st) s.heap.objs.size f cdv))->sp vs H Q E->
   ∃ t,PSs (cxOf CX0 P w K mg base N qual (J9 st) f cdv A outer s H E).nox (J10 st) t/\t { nx:=fun _ H'=>Q .non H',rt:=Q } (start N vs) H):FnOk P w K mg base CX0 (k + 1) f fd ps sp:=by
 obtain ⟨oc,od,kV,doc,pm,an,cdv,ct,osl,rfl,lk,hcd⟩:=F.ex;refine fn_of lk hcd S len fun A outer s H vs Q E hr hsp=>?_;obtain ⟨t,h,q⟩:=hbody cdv A outer s H vs Q E hr hsp;exact ⟨t,h.nox,q⟩
def spInit (C:Addr):Sp:=fun vs H Q _=>∃ (x dx p q:Addr) (tv:V) (ls:List Int) (os:List Nat) (ts:List Bool),vs=[.ref x,.ref p,.ref q,tv]/\H x=some (.ins C dx [])/\SqH H p (iV ls)/\SqH H q (nV os)/\Good ls os/\TurnsOf H tv ls.length ts/\
 ∀ H',LineAt C H' x ls os ts->(∀ b o,H b=some o->b≠x->H' b=some o)->Q .non H'
theorem scInit:FnScope ["self","lengths","order","turned"] ["self","lengths","order","turned"] (J9 sInit):=fS
theorem ok_init {f fL fO fT fF TD C:Addr} {fd fdL fdO fdT fdF:FuncData} (F:FunD K "__init__" "Line.__init__" sInit f fd TD) (T:Txt K mg) (TC:TxtC K mg C)
  (GL:FnOk P w K mg base CX0 1 fL fdL ["lengths"] spRefL) (bL:Binds K fdL ["lengths"] []) (mL:mg "refuse_lengths"=some (.ref fL)) (kL:keepIn K (.ref fL)=true)
  (GO:FnOk P w K mg base CX0 1 fO fdO ["order","pieces"] spRefO) (bO:Binds K fdO ["order","pieces"] []) (mO:mg "refuse_order"=some (.ref fO)) (kO:keepIn K (.ref fO)=true)
  (GT:FnOk P w K mg base CX0 2 fT fdT ["turned","pieces"] spTold) (bT:Binds K fdT ["turned","pieces"] []) (mT:mg "turns_told"=some (.ref fT)) (kT:keepIn K (.ref fT)=true)
  (GF:FnOk P w K mg base CX0 1 fF fdF ["lengths","order"] spFirst) (bF:Binds K fdF ["lengths","order"] []) (mF:mg "first_places"=some (.ref fF)) (kF:keepIn K (.ref fF)=true) :
  FnOk P w K mg base CX0 3 f fd ["self","lengths","order","turned"] (spInit C):=by
 refine F.ok scInit (fun vs H Q E h=>?_) (fun cdv A outer s H vs Q E hr h=>?_)
 ·obtain ⟨x,dx,p,q,tv,ls,os,ts,rfl,_⟩:=h;rfl
 ·obtain ⟨x,dx,p,q,tv,ls,os,ts,rfl,hx,hp,hq,g,ht,k⟩:=h;have hr1:Room 1 _:=rm hr;have g1:=g.lo;have g2:=g.hi;have npx:=hp.ne hx;have nqx:=hq.ne hx;refine ⟨_,J2 (J2g (Jd GL hr1 rfl mL kL bL .nil pass0 (J0 (pv 1) J4)))
   (J2 (J2g (Jd GO hr1 rfl mO kO bO .nil pass0 (J0 (pv 2) (J0 (Jb Jf (by rfl) T.len boot_len (J0 (pv 1) J4)) J4))))
   (J2 (J2s (pv 0) (Jd GT hr rfl mT kT bT .nil pass0 (J0 (pv 3) (J0 (Jb Jf (by rfl) T.len boot_len (J0 (pv 1) J4)) J4))) rfl)
   (J2 (J2s (pv 0) (Jh J2q (by rfl) T.tuple boot_tuple (J0 (pv 1) J4)) rfl)
   (J2 (J2s (pv 0) (Jh J2q (by rfl) T.tuple boot_tuple (J0 (pv 2) J4)) rfl)
   (J2 (J2s (pv 0) (Jd GF hr1 rfl mF kF bF .nil pass0 (J0 (Jl (pv 0) rfl) (J0 (Jh (J28 rfl) (by rfl) T.list boot_list (J0 (Jh J4n (by rfl) T.range PyProof.Rows.boot_range (J0 (Jb Jf (by rfl) T.len boot_len (J0 (pv 1) J4)) J4)) J4)) J4))) rfl)
   (J2 (J2s (pv 0) (Jd GF hr1 rfl mF kF bF .nil pass0 (J0 (Jl (pv 0) rfl) (J0 (Jl (pv 0) rfl) J4))) rfl)
   (J7 (J2s (pv 0) (Jb (J1v rfl) (by rfl) T.sum boot_sum (J0 (Jl (pv 0) rfl) J4)) rfl)))))))),?_⟩
  refine ⟨_,rfl,p,ls,os,rfl,hp,g,?_⟩;refine ⟨_,rfl,_,rfl,p,_,rfl,hp.sq,q,os,ls.length,(by rw [J4j];rfl),hq,g.perm,g2,fun H1 s1=>?_⟩;refine ⟨_,rfl,_,rfl,p,_,rfl,(hp.same s1).sq,tv,ls.length,ts,(by rw [J4j];rfl),g1,g2,ht.same s1,fun pt H2 s2 hpt=>?_⟩;have s12:=s1.trans s2;refine ⟨_,rfl,x,C,dx,[],rfl,s12 _ _ hx,TC.cl,TC.nT,(by show 0 < 1000;decide),?_⟩;generalize hfs1:putF ("turned":Str) (.ref pt) []=fs1;generalize hH3:upd H2 x (.ins C dx fs1)=H3;have l1:fs1.length<=1:=by rw [<- hfs1];exact Jp ..
  have k3:KeepX x H H3:=by rw [<- hH3];exact (KeepX.of s12).trans KeepX.upd
  have hx3:H3 x=some (.ins C dx fs1):=by rw [<- hH3];exact J1
  have ptx:pt≠x:=ne_of hpt (s12 _ _ hx) (by intro z;cases z);have hpt3:H3 pt=some (.tup (bV ts)):=by rw [<- hH3,Ja ptx];exact hpt
  refine ⟨_,rfl,J3c (k3.sqH hp npx) fun pl H4 s4 hpl=>⟨_,rfl,x,C,dx,fs1,rfl,s4 _ _ hx3,TC.cl,TC.nL,(by lia),?_⟩⟩;generalize hfs2:putF ("lengths":Str) (.ref pl) fs1=fs2;generalize hH5:upd H4 x (.ins C dx fs2)=H5;have l2:fs2.length<=2:=by rw [<- hfs2];have:=Jp ("lengths":Str) (.ref pl) fs1;lia
  have k35:KeepX x H3 H5:=by rw [<- hH5];exact (KeepX.of s4).trans KeepX.upd
  have k5:KeepX x H H5:=k3.trans k35;have hx5:H5 x=some (.ins C dx fs2):=by rw [<- hH5];exact J1
  have plx:pl≠x:=ne_of hpl (s4 _ _ hx3) (by intro z;cases z);have hpl5:H5 pl=some (.tup (iV ls)):=by rw [<- hH5,Ja plx];exact hpl
  refine ⟨_,rfl,J3c (k5.sqH hq nqx) fun po H6 s6 hpo=>⟨_,rfl,x,C,dx,fs2,rfl,s6 _ _ hx5,TC.cl,TC.nO,(by lia),?_⟩⟩;generalize hfs3:putF ("order":Str) (.ref po) fs2=fs3;generalize hH7:upd H6 x (.ins C dx fs3)=H7;have l3:fs3.length<=3:=by rw [<- hfs3];have:=Jp ("order":Str) (.ref po) fs2;lia
  have k57:KeepX x H5 H7:=by rw [<- hH7];exact (KeepX.of s6).trans KeepX.upd
  have k7:KeepX x H H7:=k5.trans k57;have hx7:H7 x=some (.ins C dx fs3):=by rw [<- hH7];exact J1
  have pox:po≠x:=ne_of hpo (s6 _ _ hx5) (by intro z;cases z);have hpo7:H7 po=some (.tup (nV os)):=by rw [<- hH7,Ja pox];exact hpo
  have hpl7:H7 pl=some (.tup (iV ls)):=k57 _ _ hpl5 plx;have lkL:fs3.lookup ("lengths":Str)=some (.ref pl):=by rw [<- hfs3,lk_ne (by decide +kernel),<- hfs2,J1r]
  have lkO:fs3.lookup ("order":Str)=some (.ref po):=by rw [<- hfs3,J1r]
  have lkT:fs3.lookup ("turned":Str)=some (.ref pt):=by rw [<- hfs3,lk_ne (by decide +kernel),<- hfs2,lk_ne (by decide +kernel),<- hfs1,J1r]
  refine ⟨_,rfl,x,C,dx,fs3,_,rfl,hx7,TC.cl,TC.nL,lkL,_,rfl,p,_,rfl,(k7.sqH hp npx).sq,_,rfl,fun r hr'=>⟨r,_,rfl,J1,(by rw [J4j];lia),fun l hl=>?_⟩⟩;have s8:Same H7 (upd (upd H7 r (.rng 0 ((iV ls).length:Nat))) l (.lst (((List.range (iV ls).length).map fun (i:Nat)=>(i:Int)).map V.int))):=(J3 hr').trans (J3 hl);refine ⟨pl,l,ls,List.range ls.length,rfl,s8 _ _ hpl7,.inl (by rw [J1,J4j];rfl),fun o ho=>mem_range.mp ho,g2,fun ps H9 s9 hps=>?_⟩;have s79:=s8.trans s9;refine ⟨_,rfl,x,C,dx,fs3,rfl,s79 _ _ hx7,TC.cl,TC.nS,(by lia),?_⟩;generalize hfs4:putF ("starts":Str) (.ref ps) fs3=fs4;generalize hHa:upd H9 x (.ins C dx fs4)=Ha;have l4:fs4.length<=4:=by rw [<- hfs4];have:=Jp ("starts":Str) (.ref ps) fs3;lia
  have k7a:KeepX x H7 Ha:=by rw [<- hHa];exact (KeepX.of s79).trans KeepX.upd
  have hxa:Ha x=some (.ins C dx fs4):=by rw [<- hHa];exact J1
  have psx:ps≠x:=ne_of hps (s79 _ _ hx7) (by intro z;cases z);have hpsa:Ha ps=some (.tup (iV (firsts ls (List.range ls.length)))):=by rw [<- hHa,Ja psx];exact hps
  have hpla:=k7a _ _ hpl7 plx;have hpoa:=k7a _ _ hpo7 pox;have lkL4:fs4.lookup ("lengths":Str)=some (.ref pl):=by rw [<- hfs4,lk_ne (by decide +kernel),lkL]
  have lkO4:fs4.lookup ("order":Str)=some (.ref po):=by rw [<- hfs4,lk_ne (by decide +kernel),lkO]
  have lkT4:fs4.lookup ("turned":Str)=some (.ref pt):=by rw [<- hfs4,lk_ne (by decide +kernel),lkT]
  have lkS4:fs4.lookup ("starts":Str)=some (.ref ps):=by rw [<- hfs4,J1r]
  refine ⟨_,rfl,x,C,dx,fs4,_,rfl,hxa,TC.cl,TC.nL,lkL4,_,rfl,x,C,dx,fs4,_,rfl,hxa,TC.cl,TC.nO,lkO4,pl,po,ls,os,rfl,hpla,.inr hpoa,g.olt,g2,fun pd Hb sb hpd=>?_⟩;refine ⟨_,rfl,x,C,dx,fs4,rfl,sb _ _ hxa,TC.cl,TC.nD,(by lia),?_⟩;generalize hfs5:putF ("laid":Str) (.ref pd) fs4=fs5;generalize hHc:upd Hb x (.ins C dx fs5)=Hc;have l5:fs5.length<=5:=by rw [<- hfs5];have:=Jp ("laid":Str) (.ref pd) fs4;lia
  have kac:KeepX x Ha Hc:=by rw [<- hHc];exact (KeepX.of sb).trans KeepX.upd
  have hxc:Hc x=some (.ins C dx fs5):=by rw [<- hHc];exact J1
  have pdx:pd≠x:=ne_of hpd (sb _ _ hxa) (by intro z;cases z);have hpdc:Hc pd=some (.tup (iV (firsts ls os))):=by rw [<- hHc,Ja pdx];exact hpd
  have lkL5:fs5.lookup ("lengths":Str)=some (.ref pl):=by rw [<- hfs5,lk_ne (by decide +kernel),lkL4]
  refine ⟨_,rfl,x,C,dx,fs5,_,rfl,hxc,TC.cl,TC.nL,lkL5,pl,ls,rfl,.inr (SqT.of (kac _ _ hpla plx)),_,rfl,x,C,dx,fs5,rfl,hxc,TC.cl,TC.nZ,(by lia),?_⟩;have kz:KeepX x Hc (upd Hc x (.ins C dx (putF ("size":Str) (.int ls.sum) fs5))):=KeepX.upd;refine k _ ⟨dx,_,pl,po,pt,ps,pd,J1,⟨?_,?_,?_,?_,?_,J1r⟩,kz _ _ (kac _ _ hpla plx) plx,kz _ _ (kac _ _ hpoa pox) pox,kz _ _ (kac _ _ (k7a _ _ (k57 _ _ (k35 _ _ hpt3 ptx) ptx) ptx) ptx) ptx,kz _ _ (kac _ _ hpsa psx) psx,kz _ _ hpdc pdx⟩ (k7.trans (k7a.trans (kac.trans kz)))
  ·rw [lk_ne (by decide +kernel),lkL5]
  ·rw [lk_ne (by decide +kernel),<- hfs5,lk_ne (by decide +kernel),lkO4]
  ·rw [lk_ne (by decide +kernel),<- hfs5,lk_ne (by decide +kernel),lkT4]
  ·rw [lk_ne (by decide +kernel),<- hfs5,lk_ne (by decide +kernel),lkS4]
  ·rw [lk_ne (by decide +kernel),<- hfs5,J1r]
end
theorem Good.ord {ls:List Int} {os:List Nat} (g:Good ls os):Ord ls os:=⟨g.pos,g.perm⟩
theorem Good.pos_sum {ls:List Int} {os:List Nat} (g:Good ls os):0 < ls.sum:=by
 have h:=g.ord.range.mono (i:=0) (k:=ls.length) (Nat.zero_le _) (Nat.le_refl _);have h1:Jc ls (List.range ls.length) 0 < Jc ls (List.range ls.length) 1:=g.ord.range.step (i:=0) g.lo;have h2:=g.ord.range.mono (i:=1) (k:=ls.length) g.lo (Nat.le_refl _);rw [g.ord.range.whole] at h2;rw [Jg] at h1;lia
end R49
namespace R49
open PySem L2 Rl
section
variable {P:Program} {w:World} {K:PySem.W.Frag} {mg:Str->Option Value} {base:Heap}
structure TxtSr (K:PySem.W.Frag) (CW:Addr):Prop where
 cl:Cls K CW
 nF:NoAttr K CW "first"
 nL:NoAttr K CW "length"
 nA:NoAttr K CW "laid"
 nT:NoAttr K CW "turned"
structure SrAt (CW:Addr) (H:Hp) (x:Addr) (s:Sr):Prop where
 ex:∃ (dx:Addr) (fs:List (Str × V)),H x=some (.ins CW dx fs)/\fs.lookup ("first":Str)=some (.int s.fi)/\fs.lookup ("length":Str)=some (.int s.le)/\fs.lookup ("laid":Str)=some (.int s.la)/\fs.lookup ("turned":Str)=some (.bl s.tu)
theorem SrAt.same {CW:Addr} {H H':Hp} {x:Addr} {s:Sr} (h:SrAt CW H x s) (k:Same H H'):SrAt CW H' x s :=
 by obtain ⟨dx,fs,h0,r⟩:=h.ex;exact ⟨dx,fs,k _ _ h0,r⟩
theorem SrAt.keep {CW d:Addr} {H H':Hp} {x:Addr} {s:Sr} (h:SrAt CW H x s) (hd:x≠d) (k:∀ b u,H b=some u->b≠d->H' b=some u):SrAt CW H' x s :=
 by obtain ⟨dx,fs,h0,r⟩:=h.ex;exact ⟨dx,fs,k _ _ h0 hd,r⟩
def spSr (CW:Addr):Sp:=fun vs H Q _=>∃ (x dx:Addr) (f l a:Int) (t:Bool),vs=[.ref x,.int f,.int l,.int a,.bl t]/\H x=some (.ins CW dx [])/\∀ H',SrAt CW H' x ⟨f,l,a,t && decide (1 < l)⟩->KeepX x H H'->Q .non H'
theorem scSrInit:FnScope ["self","first","length","laid","turned"] ["self","first","length","laid","turned"] (J9 sSrInit):=fS
theorem ok_sr {f  CW : Addr} {fd  : FuncData}  (F : Fun K "__init__" "Stretch.__init__" sSrInit f fd) (TW : TxtSr K CW)
 :
    FnOk P w K mg base CX0 1 f fd ["self", "first", "length", "laid", "turned"] (spSr CW) := by
  refine F.ok scSrInit (fun vs H Q E h => ?_) (fun cdv A outer s H vs Q E hr h => ?_)
  · obtain ⟨x, dx, f, l, a, t, rfl, _⟩ := h
    rfl
  · obtain ⟨x, dx, f, l, a, t, rfl, hx, k⟩ := h
    refine ⟨_, (J2 (J2s (pv 0) (pv 1) rfl)
      (J2 (J2s (pv 0) (pv 2) rfl)
      (J2 (J2s (pv 0) (pv 3) rfl)
      (J7 (J2s (pv 0) (pe_and (pv 4) (pe_one (J1q op_gt (pv 2) J8 (Ju _)))) rfl))))), ?_⟩
    refine ⟨_, rfl, _, rfl, x, CW, dx, [], rfl, hx, TW.cl, TW.nF, (by show 0 < 1000; decide), ?_⟩;generalize hfs1 : putF ("first" : Str) (.int f) [] = fs1;generalize hH1 : upd H x (.ins CW dx fs1) = H1;have l1 : fs1.length <= 1 := by rw [<- hfs1]; exact Jp ..
    have k1 : KeepX x H H1 := by rw [<- hH1]; exact KeepX.upd
    have hx1 : H1 x = some (.ins CW dx fs1) := by rw [<- hH1]; exact J1
    refine ⟨_, rfl, _, rfl, x, CW, dx, fs1, rfl, hx1, TW.cl, TW.nL, (by lia), ?_⟩;generalize hfs2 : putF ("length" : Str) (.int l) fs1 = fs2;generalize hH2 : upd H1 x (.ins CW dx fs2) = H2;have l2 : fs2.length <= 2 := by rw [<- hfs2]; have := Jp ("length" : Str) (.int l) fs1; lia
    have k2 : KeepX x H1 H2 := by rw [<- hH2]; exact KeepX.upd
    have hx2 : H2 x = some (.ins CW dx fs2) := by rw [<- hH2]; exact J1
    refine ⟨_, rfl, _, rfl, x, CW, dx, fs2, rfl, hx2, TW.cl, TW.nA, (by lia), ?_⟩;generalize hfs3 : putF ("laid" : Str) (.int a) fs2 = fs3;generalize hH3 : upd H2 x (.ins CW dx fs3) = H3;have l3 : fs3.length <= 3 := by rw [<- hfs3]; have := Jp ("laid" : Str) (.int a) fs2; lia
    have k3 : KeepX x H2 H3 := by rw [<- hH3]; exact KeepX.upd
    have hx3 : H3 x = some (.ins CW dx fs3) := by rw [<- hH3]; exact J1
    have fin : ∀ b : Bool, b = (t && decide (1 < l)) -> sFld K (tVar 0) (tC (.bl b)) "turned" { nx := fun _ H' => Q .non H', rt := Q } (start ["self", "first", "length", "laid", "turned"] [.ref x, .int f, .int l, .int a, .bl t]) H3 := fun b eb => by
      refine ⟨_, rfl, x, CW, dx, fs3, rfl, hx3, TW.cl, TW.nT, (by lia), ?_⟩;refine k _ ⟨dx, _, J1, ?_, ?_, ?_, by rw [J1r, eb]⟩ (k1.trans (k2.trans (k3.trans KeepX.upd)))
      · rw [lk_ne (by decide +kernel), <- hfs3, lk_ne (by decide +kernel), <- hfs2, lk_ne (by decide +kernel), <- hfs1, J1r]
      · rw [lk_ne (by decide +kernel), <- hfs3, lk_ne (by decide +kernel), <- hfs2, J1r]
      · rw [lk_ne (by decide +kernel), <- hfs3, J1r]
    refine ⟨_, rfl, t, rfl, ?_⟩
    cases t with
    | true =>
      rw [if_pos rfl];exact ⟨_, rfl, _, _, rfl, rfl, fin _ (by simp)⟩
    | false =>
      rw [if_neg (by decide)];exact fin false rfl
theorem J3r {CW:Addr} {H:Hp} {f l a:Int} {t:Bool} {Q:VK} (k:∀ p H',Same H H'->SrAt CW H' p ⟨f,l,a,t && decide (1 < l)⟩->(∀ b u,H b=some u->p≠b)->Q (.ref p) H') :
  ∀ x dx,H x=none->H dx=none->dx≠x->spSr CW (.ref x :: ([.int f,.int l,.int a,.bl t] ++ [])) (upd (upd H dx (.own x)) x (.ins CW dx [])) (fun v H2=>v=.non/\Q (.ref x) H2) E0:=fun x dx hx hdx hne=>by
 have sx:=(J3 (o:=.own x) hdx).trans (J3 (l:=x) (o:=.ins CW dx []) (by rw [Ja (Ne.symm hne)];exact hx));exact ⟨x,dx,f,l,a,t,rfl,J1,fun H' S kp=>⟨rfl,k x H' (fun b u e=>kp _ _ (sx _ _ e) (J6 e hx)) S fun b u e z=>J6 e hx z.symm⟩⟩
def spFirstG (CW:Addr):Sp:=fun vs H Q _=>∃ (q:Addr) (s:Sr),vs=[.ref q]/\SrAt CW H q s/\Q (.int (fgo s)) H
def spLastG (CW:Addr):Sp:=fun vs H Q _=>∃ (q:Addr) (s:Sr),vs=[.ref q]/\SrAt CW H q s/\Q (.int (lgo s)) H
def spGoTog (CW:Addr):Sp:=fun vs H Q _=>∃ (p q:Addr) (a b:Sr),vs=[.ref p,.ref q]/\SrAt CW H p a/\SrAt CW H q b/\Q (.bl (gtog a b)) H
def spMade1 (CW:Addr):Sp:=fun vs H Q _=>∃ (p q:Addr) (a b:Sr),vs=[.ref p,.ref q]/\SrAt CW H p a/\SrAt CW H q b/\∀ r H',Same H H'->SrAt CW H' r (mk1 a b)->(∀ b u,H b=some u->r≠b)->Q (.ref r) H'
theorem scFirstG:FnScope ["stretch"] ["stretch"] (J9 sFirstG):=fS
theorem ok_firstG {f  CW : Addr} {fd  : FuncData}  (F : Fun K "first_goes" "first_goes" sFirstG f fd) (TW : TxtSr K CW)
 :
    FnOk P w K mg base CX0 1 f fd ["stretch"] (spFirstG CW) := by
  refine F.ok scFirstG (fun vs H Q E h => ?_) (fun cdv A outer s H vs Q E hr h => ?_)
  · obtain ⟨q, s0, rfl, _⟩ := h
    rfl
  · obtain ⟨q, s0, rfl, A0, k⟩ := h
    refine ⟨_, (J7 (Jo (J2i (J2r (Jl (pv 0) rfl)) (pe_op J14 (pe_op J11 (Jl (pv 0) rfl) (Jl (pv 0) rfl)) J8) (Jl (pv 0) rfl)))), ?_⟩;obtain ⟨da, fa, a0, aF, aL, aA, aT⟩ := A0.ex;refine ⟨_, rfl, q, CW, da, fa, _, rfl, a0, TW.cl, TW.nT, aT, s0.tu, rfl, ?_⟩;unfold fgo at k;by_cases e : s0.tu = true
    · rw [if_pos e] at k ⊢
      exact ⟨_, rfl, q, CW, da, fa, _, rfl, a0, TW.cl, TW.nA, aA, _, rfl, q, CW, da, fa, _, rfl, a0, TW.cl, TW.nL, aL, _, _, rfl, rfl, _, _, rfl, rfl, k⟩
    · rw [if_neg e] at k ⊢
      exact ⟨_, rfl, q, CW, da, fa, _, rfl, a0, TW.cl, TW.nA, aA, k⟩
theorem scLastG:FnScope ["stretch"] ["stretch"] (J9 sLastG):=fS
theorem ok_lastG {f  CW : Addr} {fd  : FuncData}  (F : Fun K "last_goes" "last_goes" sLastG f fd) (TW : TxtSr K CW)
 :
    FnOk P w K mg base CX0 1 f fd ["stretch"] (spLastG CW) := by
  refine F.ok scLastG (fun vs H Q E h => ?_) (fun cdv A outer s H vs Q E hr h => ?_)
  · obtain ⟨q, s0, rfl, _⟩ := h
    rfl
  · obtain ⟨q, s0, rfl, A0, k⟩ := h
    refine ⟨_, (J7 (Jo (J2i (J2r (Jl (pv 0) rfl)) (Jl (pv 0) rfl) (pe_op J14 (pe_op J11 (Jl (pv 0) rfl) (Jl (pv 0) rfl)) J8)))), ?_⟩;obtain ⟨da, fa, a0, aF, aL, aA, aT⟩ := A0.ex;refine ⟨_, rfl, q, CW, da, fa, _, rfl, a0, TW.cl, TW.nT, aT, s0.tu, rfl, ?_⟩;unfold lgo at k;by_cases e : s0.tu = true
    · rw [if_pos e] at k ⊢
      exact ⟨_, rfl, q, CW, da, fa, _, rfl, a0, TW.cl, TW.nA, aA, k⟩
    · rw [if_neg e] at k ⊢
      exact ⟨_, rfl, q, CW, da, fa, _, rfl, a0, TW.cl, TW.nA, aA, _, rfl, q, CW, da, fa, _, rfl, a0, TW.cl, TW.nL, aL, _, _, rfl, rfl, _, _, rfl, rfl, k⟩
theorem scGoTog:FnScope ["one","two"] ["one","two"] (J9 sGoTog):=fS
theorem ok_goTog {f fFG fLG CW:Addr} {fd fdFG fdLG:FuncData}  (F:Fun K "go_together" "go_together" sGoTog f fd) (habs:mg "abs"=none)
  (GFG:FnOk P w K mg base CX0 1 fFG fdFG ["stretch"] (spFirstG CW)) (bFG:Binds K fdFG ["stretch"] []) (mFG:mg "first_goes"=some (.ref fFG)) (kFG:keepIn K (.ref fFG)=true)
  (GLG:FnOk P w K mg base CX0 1 fLG fdLG ["stretch"] (spLastG CW)) (bLG:Binds K fdLG ["stretch"] []) (mLG:mg "last_goes"=some (.ref fLG)) (kLG:keepIn K (.ref fLG)=true) :
  FnOk P w K mg base CX0 2 f fd ["one","two"] (spGoTog CW):=by
 refine F.ok scGoTog (fun vs H Q E h=>?_) (fun cdv A outer s H vs Q E hr h=>?_)
 ·obtain ⟨p,q,a,b,rfl,_⟩:=h;rfl
 ·obtain ⟨p,q,a,b,rfl,A0,B0,k⟩:=h;have hr1:Room 1 _:=rm hr;refine ⟨_,(J7 (Jo (J1q op_eq (Jb J1w (by rfl) habs boot_abs (J0 (pe_op J14 (Jd GFG hr1 rfl mFG kFG bFG .nil pass0 (J0 (pv 1) J4)) (Jd GLG hr1 rfl mLG kLG bLG .nil pass0 (J0 (pv 0) J4))) J4)) J8 (Ju _)))),?_⟩;refine ⟨_,rfl,q,b,rfl,B0,_,rfl,p,a,rfl,A0,_,_,rfl,rfl,_,rfl,?_⟩;have e:decide (V.int (if fgo b - lgo a < 0 then -(fgo b - lgo a) else fgo b - lgo a)=V.int 1)=gtog a b:=by unfold gtog;simp only [V.int.injEq]
  exact ⟨rfl,by rw [e];exact k⟩
theorem scMade1:FnScope ["one","two"] ["one","two"] (J9 sMade1):=fS
theorem ok_made1 {f fSR CW:Addr} {fd fdSR:FuncData}  (F:Fun K "made_one" "made_one" sMade1 f fd) (TW:TxtSr K CW) (hmin:mg "min"=none)
  (MSR:Mk K CW fSR) (GSR:FnOk P w K mg base CX0 1 fSR fdSR ["self","first","length","laid","turned"] (spSr CW)) (bSR:Binds K fdSR ["self","first","length","laid","turned"] []) (mgSR:mg "Stretch"=some (.ref CW)) :
  FnOk P w K mg base CX0 3 f fd ["one","two"] (spMade1 CW):=by
 refine F.ok scMade1 (fun vs H Q E h=>?_) (fun cdv A outer s H vs Q E hr h=>?_)
 ·obtain ⟨p,q,a,b,rfl,_⟩:=h;rfl
 ·obtain ⟨p,q,a,b,rfl,A0,B0,k⟩:=h;have hr2:Room 2 _:=rm hr;refine ⟨_,(J7 (Jo (J2h MSR GSR hr2 rfl mgSR bSR .nil pass0 (J0 (Jl (pv 0) rfl) (J0 (pe_op J11 (Jl (pv 0) rfl) (Jl (pv 1) rfl)) (J0 (Jb (call_min2 rfl) (by rfl) hmin boot_min (J0 (Jl (pv 0) rfl) (J0 (Jl (pv 1) rfl) J4))) (J0 (J1q op_lt (Jl (pv 1) rfl) (Jl (pv 0) rfl) (Ju _)) J4))))))),?_⟩;obtain ⟨da,fa,a0,aF,aL,aA,aT⟩:=A0.ex;obtain ⟨db,fb,b0,bF,bL,bA,bT⟩:=B0.ex;exact ⟨_,rfl,p,CW,da,fa,_,rfl,a0,TW.cl,TW.nF,aF,_,rfl,p,CW,da,fa,_,rfl,a0,TW.cl,TW.nL,aL,_,rfl,q,CW,db,fb,_,rfl,b0,TW.cl,TW.nL,bL,_,_,rfl,rfl,_,rfl,p,CW,da,fa,_,rfl,a0,TW.cl,TW.nA,aA,_,rfl,q,CW,db,fb,_,rfl,b0,TW.cl,TW.nA,bA,_,_,rfl,_,rfl,q,CW,db,fb,_,rfl,b0,TW.cl,TW.nA,bA,_,rfl,p,CW,da,fa,_,rfl,a0,TW.cl,TW.nA,aA,_,_,rfl,rfl,J3r fun r H' s' R fr=>k r H' s' R fr⟩
def spStrOf (C CW:Addr):Sp:=fun vs H Q _=>∃ (x:Addr) (ls:List Int) (os:List Nat) (ts:List Bool),vs=[.ref x]/\LineAt C H x ls os ts/\ls.length<=24/\ts.length=ls.length/\∀ d ys H',Same H H'->H' d=some (.lst ys)->Refs (fun q i=>SrAt CW H' q (srO ls os ts i)) ys ls.length->Q (.ref d) H'
theorem scStrOf:FnScope ["line"] ["line"] (J9 sStrOf):=fS
theorem ok_strOf {f fSR C CW:Addr} {fd fdSR:FuncData}  (F:Fun K "stretches_of" "stretches_of" sStrOf f fd) (TC:TxtC K mg C) (henum:mg "enumerate"=none)
  (MSR:Mk K CW fSR) (GSR:FnOk P w K mg base CX0 1 fSR fdSR ["self","first","length","laid","turned"] (spSr CW)) (bSR:Binds K fdSR ["self","first","length","laid","turned"] []) (mgSR:mg "Stretch"=some (.ref CW)) :
  FnOk P w K mg base CX0 3 f fd ["line"] (spStrOf C CW):=by
 refine F.ok scStrOf (fun vs H Q E h=>?_) (fun cdv A outer s H vs Q E hr h=>?_)
 ·obtain ⟨x,ls,os,ts,rfl,_⟩:=h;rfl
 ·obtain ⟨x,ls,os,ts,rfl,L0,hn,ht,k⟩:=h;have hr2:Room 2 _:=rm hr;refine ⟨_,(J7 (Jo (pe_lc2 (caps:=["line"]) (js:=[0]) rfl (pi_enum rfl henum (J0 (Jl (pv 0) rfl) J4)) rfl (fun _ _ _ _=>J1h) (fun C fp s H=>(J2h MSR GSR hr2 rfl mgSR bSR .nil pass0 (J0 (J2t (ix_tupK K) (J29 K (pv 2)) (pv 0)) (J0 (pv 1) (J0 (J2t (ix_tupK K) (J29 K (pv 2)) (pv 0)) (J0 (J2t (ix_tupK K) (J29 K (pv 2)) (pv 0)) J4)))))) (by decide +kernel) (by decide +kernel) (by decide +kernel) (by intro p hp;simp only [mem_cons,not_mem_nil,or_false] at hp;rcases hp with rfl;rfl)))),?_⟩;obtain ⟨dx,fl,pl,po,pt,ps,pd,h0,⟨k1,k2,k3,k4,k5,k6⟩,e1,e2,e3,e4,e5⟩:=L0.ex;refine ⟨_,rfl,x,C,dx,fl,_,rfl,h0,TC.cl,TC.nL,k1,pl,rfl,⟨_,SqT.of e1⟩,fun d hd=>lc_enumR (iV ls) (fun H q i=>SrAt CW H q (srO ls os ts i)) (SqT.of e1) (by rw [J4j];exact Nat.le_of_lt (Jk (by lia))) hd (fun H H' q i kd hq A=>A.keep hq kd) (fun i v hv H1 Qe s1 hex ke=>?_) (fun ys H' s' hd' rf=>k d ys H' s' hd' (by rw [J4j] at rf;exact rf))⟩;have hi:i < ls.length:=by have:=(List.getElem?_eq_some_iff.mp hv).1;rwa [J4j] at this
  obtain rfl:V.int (ls.getD i 0)=v:=Option.some.inj ((J1p hi).symm.trans hv);obtain ⟨yd,hyd⟩:=hex;exact ⟨_,rfl,x,C,dx,fl,_,rfl,s1 _ _ h0,TC.cl,TC.nS,k4,_,rfl,ps,_,_,_,rfl,rfl,SqT.of (s1 _ _ e4),Ji (J1p (by rw [J3v];exact hi)),_,rfl,_,rfl,x,C,dx,fl,_,rfl,s1 _ _ h0,TC.cl,TC.nD,k5,_,rfl,pd,_,_,_,rfl,rfl,SqT.of (s1 _ _ e5),Ji (J1p (by rw [J3v];exact hi)),_,rfl,x,C,dx,fl,_,rfl,s1 _ _ h0,TC.cl,TC.nT,k3,_,rfl,pt,_,_,_,rfl,rfl,SqT.of (s1 _ _ e3),Ji (bV_get (by rw [ht];exact hi)),J3r fun r H' s' R fr=>ke r H' s' (fr _ _ hyd) R⟩
structure SrsAt (CW:Addr) (H:Hp) (ys:List V) (ss:List Sr):Prop where
 len:ys.length=ss.length
 at_:∀ (i:Nat) (s:Sr),ss[i]?=some s->∃ q,ys[i]?=some (.ref q)/\SrAt CW H q s
theorem SrsAt.same {CW:Addr} {H H':Hp} {ys:List V} {ss:List Sr} (h:SrsAt CW H ys ss) (k:Same H H'):SrsAt CW H' ys ss:=⟨h.len,fun i s e=>by obtain ⟨q,e1,e2⟩:=h.at_ i s e;exact ⟨q,e1,e2.same k⟩⟩
theorem SrsAt.keepD {CW d:Addr} {H H':Hp} {ys xs:List V} {ss:List Sr} (h:SrsAt CW H ys ss) (hl:H d=some (.lst xs)) (k:∀ b u,H b=some u->b≠d->H' b=some u):SrsAt CW H' ys ss :=
 ⟨h.len,fun i s e=>let ⟨q,e1,e2⟩:=h.at_ i s e;⟨q,e1,e2.keep (by
  intro z;obtain ⟨_,_,h0,_⟩:=e2.ex;rw [z,hl] at h0;cases h0) k⟩⟩
theorem SrsAt.snoc {CW:Addr} {H:Hp} {ys:List V} {ss:List Sr} {q:Addr} {s:Sr} (h:SrsAt CW H ys ss) (A:SrAt CW H q s):SrsAt CW H (ys ++ [.ref q]) (ss ++ [s]):=by
 have hl:=h.len;refine ⟨by simp [hl],fun i t e=>?_⟩;rcases Nat.lt_or_ge i ss.length with hi | hi
 ·rw [getElem?_append_left hi] at e;obtain ⟨p,e1,e2⟩:=h.at_ i t e;exact ⟨p,by rw [getElem?_append_left (by lia)];exact e1,e2⟩
 ·rw [getElem?_append_right hi] at e;obtain ⟨h0,e0⟩:=List.getElem?_eq_some_iff.mp e;have h1:i - ss.length=0:=by simpa using h0
  rw [h1] at e;cases e;exact ⟨q,by rw [getElem?_append_right (by lia),hl,h1];rfl,A⟩
theorem SrsAt.init {CW:Addr} {H:Hp} {ys:List V} {ss:List Sr} (h:SrsAt CW H ys ss):SrsAt CW H ys.dropLast ss.dropLast:=by
 have hl:=h.len;refine ⟨by simp [hl],fun i t e=>?_⟩;rw [List.getElem?_dropLast] at e;by_cases hi:i < ss.length - 1
 ·rw [if_pos hi] at e;obtain ⟨p,e1,e2⟩:=h.at_ i t e;exact ⟨p,by rw [List.getElem?_dropLast,if_pos (by lia)];exact e1,e2⟩
 ·rw [if_neg hi] at e;cases e
theorem set_last {α:Type} {ys:List α} {x:α} (h:ys≠[]):ys.set (ys.length - 1) x=ys.dropLast ++ [x]:=by
 rcases List.eq_nil_or_concat ys with rfl | ⟨l,b,rfl⟩
 ·exact absurd rfl h
 ·rw [List.concat_eq_append,List.dropLast_concat,length_append,List.set_append_right _ _ (by simp)];simp
theorem ixN_last {n:Nat} (h:1<=n):ixN n (-1)=some (n - 1):=by
 unfold ixN;rw [if_neg (by decide),if_pos (by lia)]
 congr 1
 lia
theorem J1j {α:Type} {xs:List α} {j:Nat} {x:α} (h:xs[j]?=some x):xs.take (j + 1)=xs.take j ++ [x]:=by
 obtain ⟨hj,e⟩:=List.getElem?_eq_some_iff.mp h;rw [<- e];exact (List.take_append_getElem hj).symm
theorem lgst_snoc {ss:List Sr} {i:Nat} {s:Sr} (h:ss[i]?=some s):lgst (ss.take (i + 1))=lstp (lgst (ss.take i)) s:=by
 unfold lgst;rw [J1j h,List.foldl_append];rfl
theorem lstp_len (acc:List Sr) (s:Sr):(lstp acc s).length<=acc.length + 1:=by
 unfold lstp
 cases e:acc.getLast? with
 | none=>simp
 | some a=>dsimp only;split <;> simp
theorem fold_len:∀ (ss acc:List Sr),(ss.foldl lstp acc).length<=acc.length + ss.length
 | [],acc=>Nat.le_refl _
 | s :: r,acc=>by
  have h1:=fold_len r (lstp acc s);have h2:=lstp_len acc s;rw [List.foldl_cons,length_cons];lia
theorem J3h (ss:List Sr):(lgst ss).length<=ss.length:=by
 have:=fold_len ss [];rw [length_nil,Nat.zero_add] at this;exact this
def PvL (CW l d:Addr) (ss:List Sr) (H:Hp) (i:Nat) (σ:St) (H2:Hp):Prop:=∃ v zs,σ=[some (.ref l),some (.ref d),v]/\H2 d=some (.lst zs)/\SrsAt CW H2 zs (lgst (ss.take i))/\Same H H2
def J3a (CW:Addr):Sp:=fun vs H Q _=>∃ (l:Addr) (ys:List V) (ss:List Sr),vs=[.ref l]/\H l=some (.lst ys)/\SrsAt CW H ys ss/\ss.length<=1000/\∀ d zs H',Same H H'->H' d=some (.lst zs)->SrsAt CW H' zs (lgst ss)->Q (.ref d) H'
theorem scLongest:FnScope ["stretches","told","stretch"] ["stretches"] (J9 J46):=fS
theorem ok_longest {f fGT fMO CW:Addr} {fd fdGT fdMO:FuncData}  (F:Fun K "longest" "longest" J46 f fd)
  (GGT:FnOk P w K mg base CX0 2 fGT fdGT ["one","two"] (spGoTog CW)) (bGT:Binds K fdGT ["one","two"] []) (mGT:mg "go_together"=some (.ref fGT)) (kGT:keepIn K (.ref fGT)=true)
  (GMO:FnOk P w K mg base CX0 3 fMO fdMO ["one","two"] (spMade1 CW)) (bMO:Binds K fdMO ["one","two"] []) (mMO:mg "made_one"=some (.ref fMO)) (kMO:keepIn K (.ref fMO)=true) :
  FnOk P w K mg base CX0 4 f fd ["stretches"] (J3a CW):=by
 refine F.ok scLongest (fun vs H Q E h=>?_) (fun cdv A outer s H vs Q E hr h=>?_)
 ·obtain ⟨l,ys,ss,rfl,_⟩:=h;rfl
 ·obtain ⟨l,ys,ss,rfl,hl,B,hn,k⟩:=h;have hr2:Room 2 _:=rm hr;have hr3:Room 3 _:=rm hr;refine ⟨_,(J2 (Je (i:=1) scLongest.nd rfl (Or.inl rfl) (J1e J4))
   (J2 (J1s PassesOwn.never rfl (J13 (pv 0)) (Jm (i:=2) scLongest.nd rfl (Or.inl rfl))
    (J7 (ps_if (PW.pt (pw_and (pt_truth (pv 1) (fun _=>rfl)) (pw_and1 (J2r (Jd GGT hr2 rfl mGT kGT bGT .nil pass0 (J0 (pe_ix Jx (pv 1) (pe_un un_neg J8) (fun _ _=>rfl)) (J0 (pv 2) J4))))))) (J7 (ps_asg (Jd GMO hr3 rfl mMO kMO bMO .nil pass0 (J0 (pe_ix Jx (pv 1) (pe_un un_neg J8) (fun _ _=>rfl)) (J0 (pv 2) J4))) (pg_sub (pv 1) (pe_un un_neg J8) J45))) (J7 (J2g (pe_bm PySem.F.plainAttrs_list PySem.F.slot_list_append PySem.F.type_list_append J1y (pv 1) (J0 (pv 2) J4)))))))
   (J7 (Jo (pv 1))))),?_⟩
  refine ⟨by show 0<=sizeLine;exact Nat.zero_le _,fun d hd=>?_⟩;have s0:=J3 (o:=.lst []) hd;refine ⟨_,rfl,l,rfl,⟨_,SqL.of (s0 _ _ hl)⟩,J1k (K:=K) (a:=l) (xs:=ys) (PvL CW l d ss H) ⟨none,[],rfl,J1,⟨rfl,fun i s e=>by simp [lgst] at e⟩,s0⟩ (fun i σ H2 _ h9=>by obtain ⟨_,_,_,_,_,s⟩:=h9;exact SqL.of (s _ _ hl)) (fun i y σ H2 hy pv=>?_) (fun σ H2 ⟨v,zs,e,h,A2,s⟩=>?_)⟩
  ·obtain ⟨v,zs,rfl,h2,A2,s2⟩:=pv;have hi:i < ss.length:=by rw [<- B.len];exact (List.getElem?_eq_some_iff.mp hy).1
   have es:ss[i]?=some ss[i]:=getElem?_eq_getElem hi;obtain ⟨q,eq,As⟩:=B.at_ i _ es;obtain rfl:V.ref q=y:=Option.some.inj (eq.symm.trans hy);generalize ss[i]=t0 at *;have As2:=As.same s2;have nx:=lgst_snoc es;have zl:(lgst (ss.take i)).length<=1000:=Nat.le_trans (J3h _) (by rw [length_take];lia);generalize lgst (ss.take i)=acc at *;have al:=A2.len;have nd:∀ b u,H b=some u->b≠d:=fun b u e=>J6 e hd;have app:lstp acc t0=acc ++ [t0]->PvL CW l d ss H (i + 1) [some (.ref l),some (.ref d),some (.ref q)] (upd H2 d (.lst (zs ++ [.ref q]))):=fun e=>by
    refine ⟨_,_,rfl,J1,?_,fun b u x=>by rw [Ja (nd b u x)];exact s2 _ _ x⟩;rw [nx,e];have kp:∀ b u,H2 b=some u->b≠d->upd H2 d (.lst (zs ++ [.ref q])) b=some u:=fun b u x n=>by rw [Ja n];exact x
    exact (A2.keepD h2 kp).snoc (As2.keep (by
     intro z;obtain ⟨_,_,h0,_⟩:=As2.ex;rw [z,h2] at h0;cases h0) kp)
   by_cases ze:zs=[]
   ·have ae:acc=[]:=List.eq_nil_of_length_eq_zero (by rw [<- al,ze];rfl);refine ⟨_,rfl,false,.inl ⟨zs,SqL.of h2,by rw [ze];rfl⟩,iteF (iteF ⟨_,rfl,.inl ⟨rfl,_,SqL.of h2⟩,_,rfl,d,zs,_,rfl,rfl,h2,Nat.lt_of_le_of_lt (by lia) (Jk (Nat.le_refl _)),app (by rw [ae];rfl)⟩)⟩
   ·have zn:1<=zs.length:=by cases zs with | nil=>exact absurd rfl ze | cons a r=>simp
    have ea:acc[acc.length - 1]?=some (acc[acc.length - 1]'(by lia)):=getElem?_eq_getElem _;obtain ⟨pa,epa,Aa⟩:=A2.at_ _ _ ea;have gl:acc.getLast?=some (acc[acc.length - 1]'(by lia)):=by rw [List.getLast?_eq_getElem?];exact ea
    generalize acc[acc.length - 1]'(by lia)=a0 at *;have lst:atI zs (-1)=some (.ref pa):=by
     unfold atI;rw [ixN_last zn,al];exact epa
    refine ⟨_,rfl,true,.inl ⟨zs,SqL.of h2,by cases zs with | nil=>exact absurd rfl ze | cons a r=>rfl⟩,iteT ⟨_,rfl,1,rfl,d,zs,_,_,rfl,rfl,SqL.of h2,lst,_,rfl,pa,q,a0,t0,rfl,Aa,As2,gtog a0 t0,rfl,?_⟩⟩;by_cases g:gtog a0 t0=true
    ·show if gtog a0 t0=true then _ else _
     rw [if_pos g];refine ⟨_,rfl,1,rfl,d,zs,_,_,rfl,rfl,SqL.of h2,lst,_,rfl,pa,q,a0,t0,rfl,Aa,As2,fun r H3 s3 R fr=>⟨_,rfl,1,rfl,d,zs,_,zs.length - 1,rfl,rfl,s3 _ _ h2,ixN_last zn,?_⟩⟩;refine ⟨_,_,rfl,J1,?_,fun b u x=>by rw [Ja (nd b u x)];exact s3 _ _ (s2 _ _ x)⟩;have el:lstp acc t0=acc.dropLast ++ [mk1 a0 t0]:=by unfold lstp;rw [gl];exact if_pos g
     have kp:∀ b u,H3 b=some u->b≠d->upd H3 d (.lst (zs.set (zs.length - 1) (.ref r))) b=some u:=fun b u x n=>by rw [Ja n];exact x
     have R':=R.keep (fr _ _ h2) kp;have A3:=((A2.same s3).keepD (s3 _ _ h2) kp).init.snoc R';rw [nx,el];rw [<- set_last ze] at A3;exact A3
    ·show if gtog a0 t0=true then _ else _
     rw [if_neg g];exact ⟨_,rfl,.inl ⟨rfl,_,SqL.of h2⟩,_,rfl,d,zs,_,rfl,rfl,h2,Nat.lt_of_le_of_lt (by lia) (Jk (Nat.le_refl _)),app (by unfold lstp;rw [gl];exact if_neg g)⟩
  ·subst e;rw [B.len,take_length] at A2;exact ⟨_,rfl,k d zs H2 s h A2⟩
def lamP:Stmt->Pos
 | .Assign _ (.Call _ _ [⟨_,.Lambda _ _ _ p,_⟩] _) _=>p
 | _=>⟨0,0,0,0⟩
abbrev lpLO:Pos:=lamP ((J10 sLineOf).getD 0 (.Pass ⟨0,0,0,0⟩))
theorem SrsAt.sameT {CW:Addr} {H H':Hp} {ys:List V} {ss:List Sr} (h:SrsAt CW H ys ss) (k:SameT H H'):SrsAt CW H' ys ss:=⟨h.len,fun i s e=>by obtain ⟨q,e1,e2⟩:=h.at_ i s e;exact ⟨q,e1,by obtain ⟨dx,fs,h0,r⟩:=e2.ex;exact ⟨dx,fs,k _ _ h0 rfl,r⟩⟩⟩
theorem Same.t {H H':Hp} (s:Same H H'):SameT H H':=fun b u e _=>s b u e
theorem SameT.trans {H H1 H2:Hp} (a:SameT H H1) (b:SameT H1 H2):SameT H H2:=fun c u e z=>b c u (a c u e z) z
theorem Jr {H H':Hp} {P:Addr} {pos:Pos} {q:Str} (h:TabOk H P pos q) (s:Same H H'):TabOk H' P pos q :=
 by obtain ⟨ps,h1,h2,h3⟩:=h.ex;exact ⟨ps,s _ _ h1,h2,fun cv e=>by obtain ⟨c,oc,vs,t,r1,r2,r3⟩:=h3 cv e;exact ⟨c,oc,vs,t,r1,s _ _ r2,r3⟩⟩
theorem lc_idx {K:PySem.W.Frag} {a d:Addr} {H1:Hp} {te:TE} {σ:St} {js:List Nat} {Q:VK} (ys:List V) (f:Nat->V) (hx:SqL K H1 a ys) (hn:ys.length<=1000) (hd:H1 d=none)
  (he:∀ (i:Nat) (v:V),ys[i]?=some v->∀ H Qe,Same H1 H->(∀ H',Same H H'->Qe (f i) H')->te (some v :: capv σ js) H Qe)
  (hq:∀ H',Same H1 H'->H' d=some (.lst ((List.range ys.length).map f))->Q (.ref d) H'):LCW (Itl K a) tYes te σ js Q H1 d :=
 lc_over ys.length (fun _=>true) f hd hn (fun i H hi s=>⟨_,_,s.seq hx,getElem?_eq_getElem hi⟩) (fun H s=>⟨_,s.seq hx,Nat.le_refl _⟩) (fun i=>(ys[i]?).getD .non)
  (fun i H v H' hi s y=>⟨y.1,by rw [y.2 _ (s.seq hx)];rfl⟩) (fun i H Qt hi s k=>k H (Same.refl _))
  (fun i H Qe hi _ s k=>by
   show te (some ((ys[i]?).getD .non) :: capv σ js) H Qe;rw [getElem?_eq_getElem hi];exact he i _ (getElem?_eq_getElem hi) H Qe s k) (fun H' s h=>hq H' s (by rw [J1a] at h;exact h))
theorem range_map {α β:Type} (xs:List α) (g:α->β) (f:Nat->β) (h:∀ i x,xs[i]?=some x->f i=g x):(List.range xs.length).map f=xs.map g:=by
 apply ext_getElem?;intro i;rw [getElem?_map,getElem?_map];by_cases hi:i < xs.length
 ·rw [getElem?_range hi,getElem?_eq_getElem hi];exact congrArg some (h i _ (getElem?_eq_getElem hi))
 ·rw [getElem?_eq_none (by simpa using hi),getElem?_eq_none (by simpa using hi)];rfl
theorem zip_range (ks:List Int):ks.zip ((List.range ks.length).map fun (i:Nat)=>V.int (i:Int))=(List.range ks.length).map fun (i:Nat)=>(ks.getD i 0,V.int (i:Int)):=by
 apply ext_getElem?;intro i;by_cases hi:i < ks.length
 ·have e1:ks[i]?=some (ks.getD i 0):=by rw [getD_eq_getElem?_getD,getElem?_eq_getElem hi];rfl
  have e2:((List.range ks.length).map fun (i:Nat)=>V.int (i:Int))[i]?=some (V.int (i:Int)):=by rw [getElem?_map,getElem?_range hi];rfl
  rw [getElem?_map,getElem?_range hi];have:=(List.getElem?_zip_eq_some (l₁:=ks) (l₂:=(List.range ks.length).map fun (i:Nat)=>V.int (i:Int)) (i:=i) (z:=(ks.getD i 0,V.int (i:Int)))).mpr ⟨e1,e2⟩;exact this
 ·rw [getElem?_eq_none (by simp;lia),getElem?_eq_none (by simpa using hi)]
def TKeep (P:Addr) (H H':Hp):Prop:=∀ (Q:Addr) (pos:Pos) (q:Str),Q≠P->TabOk H Q pos q->TabOk H' Q pos q
theorem TKeep.same {P:Addr} {H H':Hp} (s:Same H H'):TKeep P H H':=fun _ _ _ _ t=>Jr t s
theorem TKeep.trans {P:Addr} {H H1 H2:Hp} (a:TKeep P H H1) (b:TKeep P H1 H2):TKeep P H H2:=fun Q p q n t=>b Q p q n (a Q p q n t)
def spLineOf (C CW TB:Addr) (qq:Str):Sp:=fun vs H Q _=>∃ (l:Addr) (ys:List V) (ss:List Sr),vs=[.ref l]/\H l=some (.lst ys)/\SrsAt CW H ys ss/\TabOk H TB lpLO qq/\ss.length < 64/\
 (∀ os:List Nat,os.Perm (List.range ss.length)->os.Pairwise (fun i j=>(ss.map Sr.la).getD i 0<=(ss.map Sr.la).getD j 0)->Good (ss.map Sr.le) os/\
  ∀ x H',SameT H H'->TabOk H' TB lpLO qq->TKeep TB H H'->LineAt C H' x (ss.map Sr.le) os (ss.map Sr.tu)->Q (.ref x) H')
theorem scLineOf:FnScope ["stretches","order","lengths"] ["stretches"] (J9 sLineOf):=fS
theorem ok_lineOf {f fI C CW TB cc:Addr} {fd fdI:FuncData}  (F:Fun K "line_of" "line_of" sLineOf f fd) (T:TxtR mg) (hsorted:mg "sorted"=none) (TW:TxtSr K CW) (hcode:fd.code=.ref cc) (CD:PySem.W.codeHdIn K cc TB=true) (BL:BltAt base mg TB)
  (MI:Mk K C fI) (GI:FnOk P w K mg base CX0 3 fI fdI ["self","lengths","order","turned"] (spInit C)) (bI:Binds K fdI ["self","lengths","order","turned"] []) (mgI:mg "Line"=some (.ref C)) :
  FnOk P w K mg base CX0 5 f fd ["stretches"] (spLineOf C CW TB "line_of.<locals>.<lambda>"):=by
 refine F.okK hcode scLineOf (fun vs H Q E h=>?_) (fun A outer s H vs Q E hr h=>?_)
 ·obtain ⟨l,ys,ss,rfl,_⟩:=h;rfl
 ·obtain ⟨l,ys,ss,rfl,hl,B,TT,hn,k⟩:=h;have hr4:Room 4 _:=rm hr;refine ⟨_,(J2 (Je (i:=1) scLineOf.nd rfl (Or.inl rfl) (J4c (x:="piece") (caps:=["stretches"]) (js:=[0]) rfl (rm hr) (by rfl) hsorted rfl rfl rfl CD BL ⟨rfl,rfl,rfl,by decide +kernel,rfl,(by intro p hp;simp only [mem_cons,not_mem_nil,or_false] at hp;rcases hp with rfl;rfl),freeOk.get rfl,rfl,fun k c e=>match k,e with | 0,e=>by cases e;exact ⟨0,_,rfl,rfl,rfl,rfl,rfl⟩ | k + 1,e=>by simp at e⟩ (fun _ _ _ _=>rfl) (fun A f c s H=>(J29 K (J2t (J25 K) (pv 1) (pv 0)))) (Jh J4n (by rfl) T.range PyProof.Rows.boot_range (J0 (Jb Jf (by rfl) T.len boot_len (J0 (pv 0) J4)) J4))))
   (J2 (ps_lc (i:=2) (caps:=[]) (js:=[]) scLineOf.nd rfl (Or.inl rfl) rfl (J13 (pv 0)) rfl (fun _ _ _ _=>J1h) (fun C fp s H=>(J29 K (pv 0))) (by decide +kernel) (by decide +kernel) (by decide +kernel) (by intro p hp;cases hp))
   (J7 (Jo (J2h MI GI hr4 rfl mgI bI .nil pass0 (J0 (pv 2) (J0 (pv 1) (J0 (pe_lc (caps:=[]) (js:=[]) rfl (J13 (pv 0)) rfl (fun _ _ _ _=>J1h) (fun C fp s H=>(J29 K (pv 0))) (by decide +kernel) (by decide +kernel) (by decide +kernel) (by intro p hp;cases hp)) J4)))))))),?_⟩
  have bl:=B.len;refine ⟨_,rfl,l,ys,rfl,.inl (SqL.of hl),_,rfl,fun r hr'=>?_⟩;have s1:=J3 (o:=.rng 0 (ys.length:Int)) hr';refine ⟨r,(List.range ss.length).map fun (i:Nat)=>V.int (i:Int),ss.map Sr.la,rfl,.inr ⟨ys.length,J1,by rw [bl]⟩,(by rw [length_map,length_range];exact hn),(by simp),Jr TT s1,fun H2 sT i y z ey ek=>?_,fun H2 lo zs sT T2 TQ hlo pm pw=>?_⟩
  ·have hi:i < ss.length:=by have:=(List.getElem?_eq_some_iff.mp ey).1;simpa using this
   rw [getElem?_map,getElem?_range hi] at ey;cases ey;obtain ⟨q,eq,Aq⟩:=B.at_ i _ (getElem?_eq_getElem hi);rw [getElem?_map,getElem?_eq_getElem hi] at ek;cases ek;obtain ⟨dx,fs,h0,lF,lL,lA,lT⟩:=Aq.ex;exact ⟨_,rfl,_,rfl,l,ys,_,_,rfl,rfl,SqL.of (sT _ _ (s1 _ _ hl) rfl),Ji eq,q,CW,dx,fs,_,rfl,sT _ _ (s1 _ _ h0) rfl,TW.cl,TW.nA,lA,rfl,rfl⟩
  have zr:(ss.map Sr.la).zip ((List.range ss.length).map fun (i:Nat)=>V.int (i:Int))=(List.range ss.length).map fun (i:Nat)=>((ss.map Sr.la).getD i 0,V.int (i:Int)):=by
   have:=zip_range (ss.map Sr.la);rwa [length_map] at this
  rw [zr] at pm;obtain ⟨os,po,rfl⟩:=J4b pm rfl;rw [pairwise_map] at pw;obtain ⟨gd,k⟩:=k os po pw;have en:(os.map fun (i:Nat)=>((ss.map Sr.la).getD i 0,V.int (i:Int))).map Prod.snd=nV os:=by rw [map_map,nV_eq];rfl
  rw [en];have s2:=J3 (o:=.lst (nV os)) hlo;have h3l:=s2 _ _ (sT _ _ (s1 _ _ hl) rfl);have B3:SrsAt CW (upd H2 lo (.lst (nV os))) ys ss:=((B.same s1).sameT sT).same s2;have T3:=Jr T2 s2;have TK3:TKeep TB H (upd H2 lo (.lst (nV os))):=(TKeep.same s1).trans (TKeep.trans (fun Q p q n t=>TQ Q p q n t) (TKeep.same s2));have ho:upd H2 lo (.lst (nV os)) lo=some (.lst (nV os)):=J1;have sT3:SameT H (upd H2 lo (.lst (nV os))):=SameT.trans (SameT.trans (Same.t s1) sT) (Same.t s2);generalize upd H2 lo (.lst (nV os))=H3 at *;have lc:∀ (H4:Hp) (σ:St) (d:Addr) (g:Sr->V) (nm:Str) (QQ:VK),SrsAt CW H4 ys ss->H4 l=some (.lst ys)->H4 d=none->NoAttr K CW nm->(∀ (fs:List (Str × V)) (s:Sr),fs.lookup ("first":Str)=some (.int s.fi)/\fs.lookup ("length":Str)=some (.int s.le)/\fs.lookup ("laid":Str)=some (.int s.la)/\fs.lookup ("turned":Str)=some (.bl s.tu)->fs.lookup nm=some (g s))->
    (∀ H',Same H4 H'->H' d=some (.lst (ss.map g))->QQ (.ref d) H')->LCW (Itl K l) tYes (tFld K (tVar 0) nm) σ [] QQ H4 d:=fun H4 σ d g nm QQ B4 h4 hd na lk q=>by
   refine lc_idx ys (fun i=>((ss[i]?).map g).getD .non) (SqL.of h4) (by lia) hd (fun i v hv H5 Qe s5 ke=>?_) (fun H' s' h'=>q H' s' ?_)
   ·have hi:i < ss.length:=by have:=(List.getElem?_eq_some_iff.mp hv).1;lia
    obtain ⟨q',eq,Aq⟩:=B4.at_ i _ (getElem?_eq_getElem hi);obtain rfl:V.ref q'=v:=Option.some.inj (eq.symm.trans hv);obtain ⟨dx,fs,h0,lF,lL,lA,lT⟩:=Aq.ex;refine ⟨_,rfl,q',CW,dx,fs,_,rfl,s5 _ _ h0,TW.cl,na,lk fs _ ⟨lF,lL,lA,lT⟩,?_⟩;have:=ke H5 (Same.refl _);rw [getElem?_eq_getElem hi] at this;exact this
   ·rw [h',bl];exact congrArg (fun x=>some (HO.lst x)) (range_map ss g _ fun i x e=>by show ((ss[i]?).map g).getD .non=g x;rw [e];rfl)
  refine ⟨_,rfl,l,rfl,⟨_,SqL.of h3l⟩,fun d1 hd1=>lc H3 _ d1 (fun s=>.int s.le) "length" _ B3 h3l hd1 TW.nL (fun fs s h=>h.2.1) (fun H4 s4 e4=>?_)⟩;refine ⟨_,rfl,_,rfl,_,rfl,l,rfl,⟨_,SqL.of (s4 _ _ h3l)⟩,fun d2 hd2=>lc H4 _ d2 (fun s=>.bl s.tu) "turned" _ (B3.same s4) (s4 _ _ h3l) hd2 TW.nT (fun fs s h=>h.2.2.2) (fun H5 s5 e5=>?_)⟩;have e4':H4 d1=some (.lst (iV (ss.map Sr.le))):=by rw [e4];exact congrArg (fun x=>some (HO.lst x)) (by show _=List.map V.int (ss.map Sr.le);rw [map_map];rfl)
  have e5':H5 d2=some (.lst (bV (ss.map Sr.tu))):=by rw [e5];exact congrArg (fun x=>some (HO.lst x)) (by show _=List.map V.bl (ss.map Sr.tu);rw [map_map];rfl)
  intro x dx hx hdx hne;have s6:=(J3 (o:=.own x) hdx).trans (J3 (l:=x) (o:=.ins C dx []) (by rw [Ja (Ne.symm hne)];exact hx));refine ⟨x,dx,d1,lo,.ref d2,ss.map Sr.le,os,ss.map Sr.tu,rfl,J1,.inl (s6 _ _ (s5 _ _ e4')),.inl (s6 _ _ (s5 _ _ (s4 _ _ ho))),gd,⟨by simp,.inr ⟨d2,rfl,.inl (s6 _ _ e5')⟩⟩,fun H' L kp=>⟨rfl,?_⟩⟩;have s7:Same H3 H':=fun b u e=>kp _ _ (s6 _ _ (s5 _ _ (s4 _ _ e))) (J6 (s5 _ _ (s4 _ _ e)) hx);exact k x H' (SameT.trans sT3 (Same.t s7)) (Jr T3 s7) (TK3.trans (TKeep.same s7)) L
theorem Refs.srs {CW:Addr} {H:Hp} {ys:List V} {ls:List Int} {os:List Nat} {ts:List Bool} (h:Refs (fun q i=>SrAt CW H q (srO ls os ts i)) ys ls.length):SrsAt CW H ys (srsL ls os ts):=by
 refine ⟨by unfold srsL;rw [h.len];simp,fun i s e=>?_⟩;have hi:i < ls.length:=by have:=(List.getElem?_eq_some_iff.mp e).1;simpa [srsL] using this
 unfold srsL at e;rw [getElem?_map,getElem?_range hi] at e;cases e;exact h.at_ i hi
theorem J39 (ls:List Int) (os:List Nat) (ts:List Bool):(srsL ls os ts).length=ls.length:=by unfold srsL;simp
def spPartsB (CW:Addr):Sp:=fun vs H Q _=>∃ (p q:Addr) (o t:Sr),vs=[.ref p,.ref q]/\SrAt CW H p o/\SrAt CW H q t/\∀ d ys H',H d=none->Same H H'->H' d=some (.lst ys)->SrsAt CW H' ys (part1 o t)->Q (.ref d) H'
theorem scPartsB:FnScope ["one","two","begin","one_end","two_end","end","first","laid"] ["one","two"] (J9 sPartsB):=fS
theorem ok_partsB {f fSR CW:Addr} {fd fdSR:FuncData}  (F:Fun K "parts_between" "parts_between" sPartsB f fd) (TW:TxtSr K CW) (hmax:mg "max"=none) (hmin:mg "min"=none)
  (MSR:Mk K CW fSR) (GSR:FnOk P w K mg base CX0 1 fSR fdSR ["self","first","length","laid","turned"] (spSr CW)) (bSR:Binds K fdSR ["self","first","length","laid","turned"] []) (mgSR:mg "Stretch"=some (.ref CW)) :
  FnOk P w K mg base CX0 3 f fd ["one","two"] (spPartsB CW):=by
 refine F.ok scPartsB (fun vs H Q E h=>?_) (fun cdv A outer s H vs Q E hr h=>?_)
 ·obtain ⟨p,q,o,t,rfl,_⟩:=h;rfl
 ·obtain ⟨p,q,o,t,rfl,A0,B0,k⟩:=h;have hr2:Room 2 _:=rm hr;refine ⟨_,(J2 (J1d (Je (i:=2) scPartsB.nd rfl (Or.inl rfl) (Jb (call_max2 rfl) (by rfl) hmax boot_max (J0 (Jl (pv 0) rfl) (J0 (Jl (pv 1) rfl) J4)))))
   (J2 (J1d (Je (i:=3) scPartsB.nd rfl (Or.inl rfl) (pe_op J11 (Jl (pv 0) rfl) (Jl (pv 0) rfl))))
   (J2 (J1d (Je (i:=4) scPartsB.nd rfl (Or.inl rfl) (pe_op J11 (Jl (pv 1) rfl) (Jl (pv 1) rfl))))
   (J2 (J1d (Je (i:=5) scPartsB.nd rfl (Or.inl rfl) (Jb (call_min2 rfl) (by rfl) hmin boot_min (J0 (pv 3) (J0 (pv 4) J4)))))
   (J2 (ps_if (Jq op_ge (pv 2) (pv 5) (Ju _)) (J7 (Jo (J1e J4))) Js)
   (J2 (J1d (Je (i:=6) scPartsB.nd rfl (Or.inl rfl) (pe_op J11 (Jl (pv 0) rfl) (J2i (J2r (Jl (pv 0) rfl)) (pe_op J14 (pv 3) (pv 5)) (pe_op J14 (pv 2) (Jl (pv 0) rfl))))))
   (J2 (J1d (Je (i:=7) scPartsB.nd rfl (Or.inl rfl) (pe_op J11 (Jl (pv 1) rfl) (J2i (J2r (Jl (pv 1) rfl)) (pe_op J14 (pv 4) (pv 5)) (pe_op J14 (pv 2) (Jl (pv 1) rfl))))))
   (J7 (Jo (J1e (J0 (J2h MSR GSR hr2 rfl mgSR bSR .nil pass0 (J0 (pv 6) (J0 (pe_op J14 (pv 5) (pv 2)) (J0 (pv 7) (J0 (J1q op_ne (Jl (pv 0) rfl) (Jl (pv 1) rfl) (Ju _)) J4))))) J4))))))))))),?_⟩
  obtain ⟨da,fa,a0,aF,aL,aA,aT⟩:=A0.ex;obtain ⟨db,fb,b0,bF,bL,bA,bT⟩:=B0.ex;refine ⟨fun σ' H'=>σ'=[some (.ref p),some (.ref q),some (.int (jb o t)),none,none,none,none,none]/\H=H',?_,?_⟩
  ·exact ⟨_,rfl,p,CW,da,fa,_,rfl,a0,TW.cl,TW.nA,aA,_,rfl,q,CW,db,fb,_,rfl,b0,TW.cl,TW.nF,bF,_,_,rfl,rfl,rfl⟩
  rintro σ _ ⟨rfl,rfl⟩;refine ⟨fun σ' H'=>σ'=[some (.ref p),some (.ref q),some (.int (jb o t)),some (.int (o.la + o.le)),none,none,none,none]/\H=H',?_,?_⟩
  ·exact ⟨_,rfl,p,CW,da,fa,_,rfl,a0,TW.cl,TW.nA,aA,_,rfl,p,CW,da,fa,_,rfl,a0,TW.cl,TW.nL,aL,_,_,rfl,rfl,rfl,rfl⟩
  rintro σ _ ⟨rfl,rfl⟩;refine ⟨fun σ' H'=>σ'=[some (.ref p),some (.ref q),some (.int (jb o t)),some (.int (o.la + o.le)),some (.int (t.fi + t.le)),none,none,none]/\H=H',?_,?_⟩
  ·exact ⟨_,rfl,q,CW,db,fb,_,rfl,b0,TW.cl,TW.nF,bF,_,rfl,q,CW,db,fb,_,rfl,b0,TW.cl,TW.nL,bL,_,_,rfl,rfl,rfl,rfl⟩
  rintro σ _ ⟨rfl,rfl⟩;refine ⟨fun σ' H'=>σ'=[some (.ref p),some (.ref q),some (.int (jb o t)),some (.int (o.la + o.le)),some (.int (t.fi + t.le)),some (.int (je o t)),none,none]/\H=H',?_,?_⟩
  ·exact ⟨_,rfl,_,rfl,_,_,rfl,rfl,rfl⟩
  rintro σ _ ⟨rfl,rfl⟩;refine ⟨_,rfl,_,rfl,_,_,rfl,rfl,_,rfl,?_⟩;by_cases c:je o t<=jb o t
  ·refine iteDT c ⟨by show 0<=sizeLine;exact Nat.zero_le _,fun d hd=>k d [] _ hd (J3 hd) J1 ?_⟩;have e:part1 o t=[]:=by unfold part1;exact if_pos c
   rw [e];exact ⟨rfl,fun i s z=>by simp at z⟩
  refine iteD c ?_;have ep:part1 o t=[jpart o t]:=by unfold part1;exact if_neg c
  refine ⟨fun σ' H'=>σ'=[some (.ref p),some (.ref q),some (.int (jb o t)),some (.int (o.la + o.le)),some (.int (t.fi + t.le)),some (.int (je o t)),some (.int (jpart o t).fi),none]/\H=H',?_,?_⟩
  ·refine ⟨_,rfl,p,CW,da,fa,_,rfl,a0,TW.cl,TW.nF,aF,_,rfl,p,CW,da,fa,_,rfl,a0,TW.cl,TW.nT,aT,o.tu,rfl,?_⟩;by_cases e:o.tu=true
   ·refine iteBT e ⟨_,rfl,_,rfl,_,_,rfl,rfl,_,_,rfl,rfl,?_,rfl⟩;rw [show (jpart o t).fi=o.fi + (o.la + o.le - je o t) by unfold jpart;rw [if_pos e]];rfl
   ·refine iteBF e ⟨_,rfl,_,rfl,p,CW,da,fa,_,rfl,a0,TW.cl,TW.nA,aA,_,_,rfl,rfl,_,_,rfl,rfl,?_,rfl⟩;rw [show (jpart o t).fi=o.fi + (jb o t - o.la) by unfold jpart;rw [if_neg e]];rfl
  rintro σ _ ⟨rfl,rfl⟩;refine ⟨fun σ' H'=>σ'=[some (.ref p),some (.ref q),some (.int (jb o t)),some (.int (o.la + o.le)),some (.int (t.fi + t.le)),some (.int (je o t)),some (.int (jpart o t).fi),some (.int (jpart o t).la)]/\H=H',?_,?_⟩
  ·refine ⟨_,rfl,q,CW,db,fb,_,rfl,b0,TW.cl,TW.nA,bA,_,rfl,q,CW,db,fb,_,rfl,b0,TW.cl,TW.nT,bT,t.tu,rfl,?_⟩;by_cases e:t.tu=true
   ·refine iteBT e ⟨_,rfl,_,rfl,_,_,rfl,rfl,_,_,rfl,rfl,?_,rfl⟩;rw [show (jpart o t).la=t.la + (t.fi + t.le - je o t) by unfold jpart;dsimp only;rw [if_pos e]];rfl
   ·refine iteBF e ⟨_,rfl,_,rfl,q,CW,db,fb,_,rfl,b0,TW.cl,TW.nF,bF,_,_,rfl,rfl,_,_,rfl,rfl,?_,rfl⟩;rw [show (jpart o t).la=t.la + (jb o t - t.fi) by unfold jpart;dsimp only;rw [if_neg e]];rfl
  rintro σ _ ⟨rfl,rfl⟩;refine ⟨_,rfl,_,rfl,_,rfl,_,_,rfl,rfl,_,rfl,_,rfl,p,CW,da,fa,_,rfl,a0,TW.cl,TW.nT,aT,_,rfl,q,CW,db,fb,_,rfl,b0,TW.cl,TW.nT,bT,rfl,fun x dx hx hdx hne=>J3r (CW:=CW) (H:=H) (f:=(jpart o t).fi) (l:=je o t - jb o t) (a:=(jpart o t).la) (t:=!decide (V.bl o.tu=V.bl t.tu)) (Q:=fun v H1=>1<=sizeLine/\∀ p,H1 p=none->Q (V.ref p) (upd H1 p (.lst [v]))) (fun r H1 s1 R fr=>⟨by show 1<=sizeLine;decide,fun d hd=>k d [.ref r] _ (s1.free hd) (s1.trans (J3 hd)) J1 ?_⟩) x dx hx hdx hne⟩;have et:(!decide (V.bl o.tu=V.bl t.tu))=(o.tu != t.tu):=by cases o.tu <;> cases t.tu <;> rfl
  rw [et] at R;have R':SrAt CW H1 r (jpart o t):=R;rw [ep];refine ⟨rfl,fun i s z=>?_⟩
  match i,z with
  | 0,z=>cases Option.some.inj z;exact ⟨r,rfl,R'.same (J3 hd)⟩
  | n + 1,z=>simp at z
def lamPR:Stmt->Pos
 | .Return (some (.Call _ [.Call _ _ [⟨_,.Lambda _ _ _ p,_⟩] _] _ _)) _=>p
 | .Return (some (.Call _ _ [⟨_,.Lambda _ _ _ p,_⟩] _)) _=>p
 | _=>⟨0,0,0,0⟩
abbrev lpJS:Pos:=lamPR ((J10 sJoinS).getD 2 (.Pass ⟨0,0,0,0⟩))
theorem SrsAt.app {CW:Addr} {H:Hp} {ys zs:List V} {ss tt:List Sr} (a:SrsAt CW H ys ss) (b:SrsAt CW H zs tt):SrsAt CW H (ys ++ zs) (ss ++ tt):=by
 have hl:=a.len;refine ⟨by rw [length_append,length_append,a.len,b.len],fun i s e=>?_⟩;rcases Nat.lt_or_ge i ss.length with hi | hi
 ·rw [getElem?_append_left hi] at e;obtain ⟨q,e1,e2⟩:=a.at_ i s e;exact ⟨q,by rw [getElem?_append_left (by lia)];exact e1,e2⟩
 ·rw [getElem?_append_right hi] at e;obtain ⟨q,e1,e2⟩:=b.at_ _ s e;exact ⟨q,by rw [getElem?_append_right (by lia),hl];exact e1,e2⟩
theorem zip_idx {J:List Sr} {xs:List V} (h:xs.length=J.length):(J.map Sr.fi).zip xs=(List.range J.length).map fun i=>((J.getD i s0).fi,xs.getD i .non):=by
 apply ext_getElem?;intro i;by_cases hi:i < J.length
 ·rw [getElem?_map,getElem?_range hi];refine (List.getElem?_zip_eq_some (z:=((J.getD i s0).fi,xs.getD i .non))).mpr ⟨?_,?_⟩
  ·rw [getElem?_map,getElem?_eq_getElem hi,getD_eq_getElem?_getD,getElem?_eq_getElem hi];rfl
  ·show xs[i]?=some (xs.getD i .non);rw [getD_eq_getElem?_getD,getElem?_eq_getElem (by lia:i < xs.length)];rfl
 ·rw [getElem?_eq_none (by simp;lia),getElem?_eq_none (by simpa using hi)]
theorem map_getD_sr (J:List Sr):(List.range J.length).map (fun i=>J.getD i s0)=J:=by
 refine ext_getElem (by simp) fun i h1 h2=>?_;rw [getElem_map,getElem_range,getD_eq_getElem?_getD,getElem?_eq_getElem h2];rfl
theorem srt_srs {CW:Addr} {H:Hp} {xs:List V} {J:List Sr} (B:SrsAt CW H xs J) {ys:List (Int × V)} (pm:ys.Perm ((J.map Sr.fi).zip xs)) (pw:ys.Pairwise (fun a b=>a.1<=b.1)) :
  ∃ L,L.Perm J/\L.Pairwise (fun s t=>s.fi<=t.fi)/\SrsAt CW H (ys.map Prod.snd) L:=by
 rw [zip_idx B.len] at pm;obtain ⟨ix,po,rfl⟩:=J4b pm rfl;rw [pairwise_map] at pw;refine ⟨ix.map fun i=>J.getD i s0,?_,?_,?_⟩
 ·have:=po.map fun i=>J.getD i s0;rwa [map_getD_sr] at this
 ·rw [pairwise_map];exact pw
 ·refine ⟨by simp,fun i s e=>?_⟩;rw [getElem?_map] at e
  cases q:ix[i]? with
  | none=>rw [q] at e;cases e
  | some j =>
   rw [q] at e;cases e;have hj:j < J.length:=mem_range.mp (po.mem_iff.mp (mem_of_getElem? q));obtain ⟨a,e1,e2⟩:=B.at_ j (J.getD j s0) (getL hj);refine ⟨a,?_,e2⟩;rw [getElem?_map,getElem?_map,q];show some (xs.getD j .non)=_;rw [getD_eq_getElem?_getD,e1];rfl
def spJoinS (CW TJ:Addr):Sp:=fun vs H Q _=>∃ (a b:Addr) (xs ys:List V) (os ts:List Sr),vs=[.ref a,.ref b]/\H a=some (.lst xs)/\H b=some (.lst ys)/\SrsAt CW H xs os/\SrsAt CW H ys ts/\(jn os ts).length < 64/\os.length<=1000/\ts.length<=1000/\TabOk H TJ lpJS "joined_stretches.<locals>.<lambda>"/\
 ∀ L d zs H',L.Perm (jn os ts)->L.Pairwise (fun s t=>s.fi<=t.fi)->SameT H H'->TabOk H' TJ lpJS "joined_stretches.<locals>.<lambda>"->TKeep TJ H H'->H' d=some (.lst zs)->SrsAt CW H' zs (lgst L)->Q (.ref d) H'
theorem jn_snoc {os ts:List Sr} {i:Nat} {o:Sr} (h:os[i]?=some o):jn (os.take (i + 1)) ts=jn (os.take i) ts ++ ts.flatMap (part1 o):=by
 unfold jn;rw [J1j h,List.flatMap_append,List.flatMap_cons,List.flatMap_nil,append_nil]
theorem fm_snoc {ts:List Sr} {o:Sr} {j:Nat} {t:Sr} (h:ts[j]?=some t):(ts.take (j + 1)).flatMap (part1 o)=(ts.take j).flatMap (part1 o) ++ part1 o t:=by
 rw [J1j h,List.flatMap_append,List.flatMap_cons,List.flatMap_nil,append_nil]
theorem fm_le {ts:List Sr} {o:Sr} (j:Nat):((ts.take j).flatMap (part1 o)).length<=(ts.flatMap (part1 o)).length:=by
 have:ts.flatMap (part1 o)=(ts.take j).flatMap (part1 o) ++ (ts.drop j).flatMap (part1 o):=by rw [<- List.flatMap_append,List.take_append_drop]
 rw [this,length_append];lia
theorem jn_le {os ts:List Sr} (i:Nat):(jn (os.take i) ts).length<=(jn os ts).length:=by
 have:jn os ts=jn (os.take i) ts ++ jn (os.drop i) ts:=by unfold jn;rw [<- List.flatMap_append,List.take_append_drop]
 rw [this,length_append];lia
theorem scJoinS:FnScope ["ones","twos","parts","one","two"] ["ones","twos"] (J9 sJoinS):=fS
theorem ok_joinS {f fPB fLN CW TJ cc:Addr} {fd fdPB fdLN:FuncData}  (F:Fun K "joined_stretches" "joined_stretches" sJoinS f fd) (T:TxtR mg) (hsorted:mg "sorted"=none) (TW:TxtSr K CW) (hcode:fd.code=.ref cc) (CD:PySem.W.codeHdIn K cc TJ=true) (BL:BltAt base mg TJ)
  (GPB:FnOk P w K mg base CX0 3 fPB fdPB ["one","two"] (spPartsB CW)) (bPB:Binds K fdPB ["one","two"] []) (mPB:mg "parts_between"=some (.ref fPB)) (kPB:keepIn K (.ref fPB)=true)
  (GLN:FnOk P w K mg base CX0 4 fLN fdLN ["stretches"] (J3a CW)) (bLN:Binds K fdLN ["stretches"] []) (mLN:mg "longest"=some (.ref fLN)) (kLN:keepIn K (.ref fLN)=true) :
  FnOk P w K mg base CX0 5 f fd ["ones","twos"] (spJoinS CW TJ):=by
 refine F.okK hcode scJoinS (fun vs H Q E h=>?_) (fun A outer s H vs Q E hr h=>?_)
 ·obtain ⟨a,b,xs,ys,os,ts,rfl,_⟩:=h;rfl
 ·obtain ⟨a,b,xs,ys,os,ts,rfl,ha,hb,A,B,h64,n1,n2,TT,k⟩:=h;have hr3:Room 3 _:=rm hr;have hr4:Room 4 _:=rm hr;refine ⟨_,(J2 (Je (i:=2) scJoinS.nd rfl (Or.inl rfl) (J1e J4))
   (J2 (J1s PassesOwn.never rfl (J13 (pv 0)) (Jm (i:=3) scJoinS.nd rfl (Or.inl rfl))
    (J7 (J1s PassesOwn.never rfl (J13 (pv 1)) (Jm (i:=4) scJoinS.nd rfl (Or.inl rfl))
     (J7 (J2g (pe_bm PySem.F.plainAttrs_list PySem.F.slot_list_extend PySem.F.type_list_extend mt_extend (pv 2) (J0 (Jd GPB hr3 rfl mPB kPB bPB .nil pass0 (J0 (pv 3) (J0 (pv 4) J4))) J4)))))))
   (J7 (Jo (Jd GLN hr4 rfl mLN kLN bLN .nil pass0 (J0 (J4c (x:="part") (caps:=[]) (js:=[]) rfl (rm hr) (by rfl) hsorted rfl rfl rfl CD BL ⟨rfl,rfl,rfl,by decide +kernel,rfl,(by intro p hp;cases hp),freeOk.get rfl,rfl,fun k c e=>by simp at e⟩ (fun _ _ _ _=>rfl) (fun A f c s H=>(J29 K (pv 0))) (pv 2)) J4)))))),?_⟩
  refine ⟨by show 0<=sizeLine;exact Nat.zero_le _,fun d hd=>?_⟩;have s0':=J3 (o:=.lst []) hd;have nd:∀ {b':Addr} {u:HO},H b'=some u->b'≠d:=fun {b' u} e=>J6 e hd;have sm:=Jk (n:=100) (by decide);refine ⟨_,rfl,a,rfl,⟨_,SqL.of (s0' _ _ ha)⟩,J1k (K:=K) (a:=a) (xs:=xs) (fun i σ Hw=>∃ v3 v4 zs,σ=[some (.ref a),some (.ref b),some (.ref d),v3,v4]/\Hw d=some (.lst zs)/\SrsAt CW Hw zs (jn (os.take i) ts)/\Same H Hw)
   ⟨none,none,[],rfl,J1,⟨rfl,fun i s e=>by simp [jn] at e⟩,s0'⟩ (fun i σ Hw _ ⟨_,_,_,_,_,_,s⟩=>SqL.of (s _ _ ha)) (fun i y σ Hw hy pv=>?_) (fun σ Hw ⟨v3,v4,zs,e,hdw,Z,s⟩=>?_)⟩
  ·obtain ⟨v3,v4,zs,rfl,hdw,Z,sw⟩:=pv;have hi:i < os.length:=by rw [<- A.len];exact (List.getElem?_eq_some_iff.mp hy).1
   have eo:os[i]?=some os[i]:=getElem?_eq_getElem hi;obtain ⟨p,ep,Ap⟩:=A.at_ i _ eo;obtain rfl:V.ref p=y:=Option.some.inj (ep.symm.trans hy);generalize os[i]=o at eo Ap;have sj:=jn_snoc (ts:=ts) eo;have j64:=jn_le (ts:=ts) (os:=os) (i + 1);rw [sj,length_append] at j64;refine ⟨_,rfl,b,rfl,⟨_,SqL.of (sw _ _ hb)⟩,J1k (K:=K) (a:=b) (xs:=ys) (fun j σ Hx=>∃ v4 zs,σ=[some (.ref a),some (.ref b),some (.ref d),some (.ref p),v4]/\Hx d=some (.lst zs)/\SrsAt CW Hx zs (jn (os.take i) ts ++ (ts.take j).flatMap (part1 o))/\Same H Hx)
    ⟨v4,zs,rfl,hdw,by rw [show (ts.take 0).flatMap (part1 o)=[] from rfl,append_nil];exact Z,sw⟩ (fun j σ Hx _ ⟨_,_,_,_,_,s⟩=>SqL.of (s _ _ hb)) (fun j y σ Hx hy pv=>?_) (fun σ Hx ⟨v4,zs,e,hdx,Z,s⟩=>?_)⟩
   ·obtain ⟨v4,zs,rfl,hdx,Z,sx⟩:=pv;have hj:j < ts.length:=by rw [<- B.len];exact (List.getElem?_eq_some_iff.mp hy).1
    have et:ts[j]?=some ts[j]:=getElem?_eq_getElem hj;obtain ⟨q,eq,Bq⟩:=B.at_ j _ et;obtain rfl:V.ref q=y:=Option.some.inj (eq.symm.trans hy);generalize ts[j]=t at et Bq;have zl:=Z.len;rw [length_append] at zl;have f1:=fm_le (ts:=ts) (o:=o) (j + 1);rw [fm_snoc et,length_append] at f1;refine ⟨_,rfl,.inl ⟨rfl,_,SqL.of hdx⟩,_,rfl,_,rfl,p,q,o,t,rfl,Ap.same sx,Bq.same sx,fun e ws Hy he sy hy' W=>⟨d,e,zs,ws,rfl,rfl,sy _ _ hdx,hy',(by rw [W.len];lia),?_⟩⟩;have ned:e≠d:=fun z=>by rw [z,hdx] at he;cases he
    have kp:∀ b' u,Hy b'=some u->b'≠d->upd Hy d (.lst (zs ++ ws)) b'=some u:=fun b' u e' n=>by rw [Ja n];exact e'
    refine ⟨_,_,rfl,J1,?_,fun b' u e'=>kp _ _ (sy _ _ (sx _ _ e')) (nd e')⟩;rw [fm_snoc et,<- List.append_assoc];exact ((Z.same sy).keepD (sy _ _ hdx) kp).app (W.keepD (sy _ _ hdx) kp)
   ·subst e;rw [B.len,take_length,<- sj] at Z;exact ⟨_,_,_,rfl,hdx,Z,s⟩
  subst e;rw [A.len,take_length] at Z;have zl:=Z.len;refine ⟨_,rfl,d,zs,(jn os ts).map Sr.fi,rfl,.inl hdw,(by rw [zl];exact h64),(by rw [length_map,zl]),Jr TT s,fun H2 sT i y z ey ek=>?_,fun H2 l us sT T2 TQ hl pm pw=>?_⟩
  ·have hi:i < (jn os ts).length:=by rw [<- zl];exact (List.getElem?_eq_some_iff.mp ey).1
   obtain ⟨q,eq,Aq⟩:=Z.at_ i _ (getElem?_eq_getElem hi);obtain rfl:V.ref q=y:=Option.some.inj (eq.symm.trans ey);rw [getElem?_map,getElem?_eq_getElem hi] at ek;cases ek;obtain ⟨dx,fs,h0,lF,lL,lA,lT⟩:=Aq.ex;exact ⟨_,rfl,q,CW,dx,fs,_,rfl,sT _ _ h0 rfl,TW.cl,TW.nF,lF,rfl,rfl⟩
  obtain ⟨L,p1,p2,S⟩:=srt_srs (Z.sameT sT) pm pw;have s2:=J3 (o:=.lst (us.map Prod.snd)) hl;have ll:=p1.length_eq;refine ⟨l,_,L,rfl,J1,S.same s2,(by lia),fun d2 ws H3 s3 e3 W=>?_⟩;exact k L d2 ws H3 p1 p2 (SameT.trans (Same.t s) (SameT.trans sT (Same.t (s2.trans s3)))) (Jr T2 (s2.trans s3)) ((TKeep.same s).trans (TKeep.trans (fun Q p q n t=>TQ Q p q n t) (TKeep.same (s2.trans s3)))) e3 W
theorem repS_good {g:Int->Int} {N:Int} {L:List Sr} {os:List Nat} (R:RepS g 0 L N) (h1:1<=N) (h2:N<=10 ^ 30) (hl:L.length<=24) (p:os.Perm (List.range L.length)):Good (L.map Sr.le) os:=by
 have O:=R.ord p;have t:=R.tot;refine ⟨?_,by rw [length_map];exact hl,O.pos,by lia,O.perm⟩;rw [length_map]
 cases L with
 | nil=>have:(0:Int)=N:=R;lia
 | cons a r=>simp
def spLineWX (C CW TB CM:Addr):Sp:=fun vs H Q E=>∃ (l:Addr) (ys:List V) (ss:List Sr),vs=[.ref l]/\H l=some (.lst ys)/\SrsAt CW H ys ss/\TabOk H TB lpLO "line_of.<locals>.<lambda>"/\(24 < ss.length->E (.ref CM) none H)/\
 (ss.length<=24->∀ os:List Nat,os.Perm (List.range ss.length)->os.Pairwise (fun i j=>(ss.map Sr.la).getD i 0<=(ss.map Sr.la).getD j 0)->Good (ss.map Sr.le) os/\
  ∀ x H',SameT H H'->TabOk H' TB lpLO "line_of.<locals>.<lambda>"->TKeep TB H H'->LineAt C H' x (ss.map Sr.le) os (ss.map Sr.tu)->Q (.ref x) H')
theorem scLineW:FnScope ["stretches"] ["stretches"] (J9 sLineW):=fS
theorem ok_lineWX {f fLO C CW TB CM:Addr} {fd fdLO:FuncData} {t24:Tok} (F:Fun K "line_within" "line_within" sLineW f fd) (T:TxtR mg) (h24:mg "MOST_PIECES"=some (.int 24 t24)) (TM:TxtX K mg "TooMany" CM)
  (GLO:FnOk P w K mg base CX0 5 fLO fdLO ["stretches"] (spLineOf C CW TB "line_of.<locals>.<lambda>")) (bLO:Binds K fdLO ["stretches"] []) (mLO:mg "line_of"=some (.ref fLO)) (kLO:keepIn K (.ref fLO)=true) :
  FnOk P w K mg base (Exc1 P w) 6 f fd ["stretches"] (spLineWX C CW TB CM):=by
 refine F.okX scLineW (fun vs H Q E h=>?_) (fun cdv A outer s H vs Q E hr h=>?_)
 ·obtain ⟨l,ys,ss,rfl,_⟩:=h;rfl
 ·obtain ⟨l,ys,ss,rfl,hl,B,TT,kx,k⟩:=h;have hr5:Room 5 _:=rm hr;refine ⟨_,(J2 (ps_if (Jq op_gt (Jb Jf (by rfl) T.len boot_len (J0 (pv 0) J4)) (J3t (v:=.int 24) rfl h24 ⟨_,rfl⟩) (Ju _)) (J7 (ps_raise rfl TM.mg TM.ex)) Js)
   (J7 (Jo (Jd GLO hr5 rfl mLO kLO bLO .nil pass0 (J0 (pv 0) J4))))),?_⟩
  have bl:=B.len;refine ⟨_,rfl,l,ys,rfl,.inl (SqL.of hl),_,_,rfl,rfl,_,rfl,?_⟩;by_cases c:(24:Int) < (ys.length:Int)
  ·exact iteDT c (kx (by lia))
  ·exact iteD c ⟨_,rfl,l,ys,ss,rfl,hl,B,TT,by lia,k (by lia)⟩
abbrev lpBS:Pos:=lamPR ((J10 sBackS).getD 1 (.Pass ⟨0,0,0,0⟩))
def spBackS (C CW TK:Addr):Sp:=fun vs H Q _=>∃ (x:Addr) (ls:List Int) (os:List Nat) (ts:List Bool),vs=[.ref x]/\LineAt C H x ls os ts/\ls.length<=24/\ts.length=ls.length/\TabOk H TK lpBS "back_stretches.<locals>.<lambda>"/\
 ∀ L d zs H',L.Perm ((srsL ls os ts).map bk1)->L.Pairwise (fun s t=>s.fi<=t.fi)->SameT H H'->TabOk H' TK lpBS "back_stretches.<locals>.<lambda>"->TKeep TK H H'->H' d=some (.lst zs)->SrsAt CW H' zs L->Q (.ref d) H'
theorem scBackS:FnScope ["line","back"] ["line"] (J9 sBackS):=fS
theorem ok_backS {f fSO fSR C CW TK cc:Addr} {fd fdSO fdSR:FuncData}  (F:Fun K "back_stretches" "back_stretches" sBackS f fd) (T:TxtR mg) (hsorted:mg "sorted"=none) (TW:TxtSr K CW) (hcode:fd.code=.ref cc) (CD:PySem.W.codeHdIn K cc TK=true) (BL:BltAt base mg TK)
  (GSO:FnOk P w K mg base CX0 3 fSO fdSO ["line"] (spStrOf C CW)) (bSO:Binds K fdSO ["line"] []) (mSO:mg "stretches_of"=some (.ref fSO)) (kSO:keepIn K (.ref fSO)=true)
  (MSR:Mk K CW fSR) (GSR:FnOk P w K mg base CX0 1 fSR fdSR ["self","first","length","laid","turned"] (spSr CW)) (bSR:Binds K fdSR ["self","first","length","laid","turned"] []) (mgSR:mg "Stretch"=some (.ref CW)) :
  FnOk P w K mg base CX0 4 f fd ["line"] (spBackS C CW TK):=by
 refine F.okK hcode scBackS (fun vs H Q E h=>?_) (fun A outer s H vs Q E hr h=>?_)
 ·obtain ⟨x,ls,os,ts,rfl,_⟩:=h;rfl
 ·obtain ⟨x,ls,os,ts,rfl,L0,hn,ht,TT,k⟩:=h;have hr2:Room 2 _:=rm hr;have hr3:Room 3 _:=rm hr;refine ⟨_,(J2 (ps_lc (i:=1) (caps:=[]) (js:=[]) scBackS.nd rfl (Or.inl rfl) rfl (J13 (Jd GSO hr3 rfl mSO kSO bSO .nil pass0 (J0 (pv 0) J4))) rfl (fun _ _ _ _=>J1h) (fun C fp s H=>(J2h MSR GSR hr2 rfl mgSR bSR .nil pass0 (J0 (J29 K (pv 0)) (J0 (J29 K (pv 0)) (J0 (J29 K (pv 0)) (J0 (J29 K (pv 0)) J4)))))) (by decide +kernel) (by decide +kernel) (by decide +kernel) (by intro p hp;cases hp))
   (J7 (Jo (J4c (x:="stretch") (caps:=[]) (js:=[]) rfl (rm hr) (by rfl) hsorted rfl rfl rfl CD BL ⟨rfl,rfl,rfl,by decide +kernel,rfl,(by intro p hp;cases hp),freeOk.get rfl,rfl,fun k c e=>by simp at e⟩ (fun _ _ _ _=>rfl) (fun A f c s H=>(J29 K (pv 0))) (pv 1))))),?_⟩
  refine ⟨_,rfl,x,ls,os,ts,rfl,L0,hn,ht,fun d ys H1 s1 e1 rf=>?_⟩;have B:=Refs.srs rf;have bl:=B.len;have sl:(srsL ls os ts).length=ls.length:=J39 ..;refine ⟨d,rfl,⟨_,SqL.of e1⟩,fun bd hbd=>lc_inv ys (fun i zs Hx=>SrsAt CW Hx zs (((srsL ls os ts).take i).map bk1)/\Same H1 Hx) ⟨⟨rfl,fun i s e=>by simp at e⟩,J3 hbd⟩ (fun i zs Hx _ ⟨_,s⟩=>SqL.of (s _ _ e1)) (by lia) (fun i v zs Hx Qe ev ⟨Z,sx⟩ hbx hzl ke=>?_) (fun zs H2 ⟨Z,s2⟩ hd2 hzl=>?_)⟩
  ·have hi:i < (srsL ls os ts).length:=by rw [<- bl];exact (List.getElem?_eq_some_iff.mp ev).1
   have es:(srsL ls os ts)[i]?=some (srsL ls os ts)[i]:=getElem?_eq_getElem hi;obtain ⟨q,eq,A0⟩:=B.at_ i _ es;obtain rfl:V.ref q=v:=Option.some.inj (eq.symm.trans ev);generalize (srsL ls os ts)[i]=s0' at es A0;have A0:=A0.same sx;obtain ⟨da,fa,a0,aF,aL,aA,aT⟩:=A0.ex;refine ⟨_,rfl,q,CW,da,fa,_,rfl,a0,TW.cl,TW.nA,aA,_,rfl,q,CW,da,fa,_,rfl,a0,TW.cl,TW.nL,aL,_,rfl,q,CW,da,fa,_,rfl,a0,TW.cl,TW.nF,aF,_,rfl,q,CW,da,fa,_,rfl,a0,TW.cl,TW.nT,aT,fun x dx hx hdx hne=>J3r (CW:=CW) (H:=Hx) (f:=s0'.la) (l:=s0'.le) (a:=s0'.fi) (t:=s0'.tu) (Q:=Qe) (fun r H3 s3 R fr=>ke (.ref r) H3 (s3 _ _ hbx) ?_) x dx hx hdx hne⟩;have kp:∀ b u,H3 b=some u->b≠bd->upd H3 bd (.lst (zs ++ [.ref r])) b=some u:=fun b u e n=>by rw [Ja n];exact e
   refine ⟨?_,fun b u e=>kp _ _ (s3 _ _ (sx _ _ e)) (J6 e hbd)⟩;rw [J1j es,map_append];exact ((Z.same s3).keepD (s3 _ _ hbx) kp).snoc (R.keep (fr _ _ hbx) kp)
  rw [bl,take_length] at Z;have zl:=Z.len;rw [length_map] at zl;have s12:=s1.trans s2;refine ⟨_,rfl,bd,zs,((srsL ls os ts).map bk1).map Sr.fi,rfl,.inl hd2,(by lia),(by rw [length_map,length_map,zl]),Jr TT s12,fun H3 sT i y z ey ek=>?_,fun H3 l us sT T2 TQ hl pm pw=>?_⟩
  ·have hi:i < ((srsL ls os ts).map bk1).length:=by rw [length_map,<- zl];exact (List.getElem?_eq_some_iff.mp ey).1
   obtain ⟨q,eq,Aq⟩:=Z.at_ i _ (getElem?_eq_getElem hi);obtain rfl:V.ref q=y:=Option.some.inj (eq.symm.trans ey);rw [getElem?_map,getElem?_eq_getElem hi] at ek;cases ek;obtain ⟨dx,fs,h0,lF,lL,lA,lT⟩:=Aq.ex;exact ⟨_,rfl,q,CW,dx,fs,_,rfl,sT _ _ h0 rfl,TW.cl,TW.nF,lF,rfl,rfl⟩
  obtain ⟨L,p1,p2,S⟩:=srt_srs (Z.sameT sT) pm pw;have s4:=J3 (o:=.lst (us.map Prod.snd)) hl;exact k L l _ _ p1 p2 (SameT.trans (Same.t s12) (SameT.trans sT (Same.t s4))) (Jr T2 s4) ((TKeep.same s12).trans (TKeep.trans (fun Q p q n t=>TQ Q p q n t) (TKeep.same s4))) J1 (S.same s4)
structure Tb3 (H:Hp) (TB TJ TK:Addr):Prop where
 b:TabOk H TB lpLO "line_of.<locals>.<lambda>"
 j:TabOk H TJ lpJS "joined_stretches.<locals>.<lambda>"
 k:TabOk H TK lpBS "back_stretches.<locals>.<lambda>"
theorem Tb3.same {H H':Hp} {TB TJ TK:Addr} (t:Tb3 H TB TJ TK) (s:Same H H'):Tb3 H' TB TJ TK:=⟨Jr t.b s,Jr t.j s,Jr t.k s⟩
structure TNe (TB TJ TK:Addr):Prop where
 bj:TB≠TJ
 bk:TB≠TK
 jk:TJ≠TK
theorem Tb3.j' {H H':Hp} {TB TJ TK:Addr} (t:Tb3 H TB TJ TK) (n:TNe TB TJ TK) (h:TabOk H' TJ lpJS "joined_stretches.<locals>.<lambda>") (k:TKeep TJ H H'):Tb3 H' TB TJ TK:=⟨k _ _ _ n.bj t.b,h,k _ _ _ (Ne.symm n.jk) t.k⟩
theorem Tb3.k' {H H':Hp} {TB TJ TK:Addr} (t:Tb3 H TB TJ TK) (n:TNe TB TJ TK) (h:TabOk H' TK lpBS "back_stretches.<locals>.<lambda>") (k:TKeep TK H H'):Tb3 H' TB TJ TK:=⟨k _ _ _ n.bk t.b,k _ _ _ n.jk t.j,h⟩
noncomputable def rpF (ls:List Int) (os:List Nat) (ts:List Bool) (m:Int):Int->Int:=if 0 < m then gL ls os ts else kL ls os ts
def TKeep3 (A B D:Addr) (H H':Hp):Prop:=∀ (Q:Addr) (pos:Pos) (q:Str),Q≠A->Q≠B->Q≠D->TabOk H Q pos q->TabOk H' Q pos q
def J2y (C CW TB TJ TK CM:Addr):Sp:=fun vs H Q E=>∃ (x:Addr) (ls:List Int) (os:List Nat) (ts:List Bool) (m:Int),vs=[.ref x,.int m]/\LineAt C H x ls os ts/\Good ls os/\ts.length=ls.length/\m.natAbs<=1000/\m.natAbs * (ls.length - 1)<=62/\Tb3 H TB TJ TK/\
 ∀ S,RepS (itF (rpF ls os ts m) m.natAbs) 0 S ls.sum->(24 < S.length->∀ H',SameT H H'->E (.ref CM) none H')/\
  (S.length<=24->∀ z l o t H',SameT H H'->TKeep3 TB TJ TK H H'->PlG (itF (rpF ls os ts m) m.natAbs) ls.sum l o t->l.length=S.length->Good l o->LineAt C H' z l o t->Q (.ref z) H')
theorem rp_bij {ls:List Int} {os:List Nat} {ts:List Bool} (O:Ord ls os) (m:Int):∃ k,Bij ls.sum (rpF ls os ts m) k:=by
 unfold rpF;split
 ·exact ⟨_,J1t O⟩
 ·exact ⟨_,(J1t O).symm⟩
theorem scRepeated:FnScope ["line","times","once","told","turn"] ["line","times"] (J9 J3b):=fS
theorem J4d {f fLW fJS fLN fSO fBS fSR C CW TB TJ TK CM:Addr} {fd fdLW fdJS fdLN fdSO fdBS fdSR:FuncData}  (F:Fun K "repeated" "repeated" J3b f fd) (TC:TxtC K mg C) (TN:TNe TB TJ TK) (T:TxtR mg) (habs:mg "abs"=none)
  (GLW:FnOk P w K mg base (Exc1 P w) 6 fLW fdLW ["stretches"] (spLineWX C CW TB CM)) (bLW:Binds K fdLW ["stretches"] []) (mLW:mg "line_within"=some (.ref fLW)) (kLW:keepIn K (.ref fLW)=true)
  (GJS:FnOk P w K mg base CX0 5 fJS fdJS ["ones","twos"] (spJoinS CW TJ)) (bJS:Binds K fdJS ["ones","twos"] []) (mJS:mg "joined_stretches"=some (.ref fJS)) (kJS:keepIn K (.ref fJS)=true)
  (GLN:FnOk P w K mg base CX0 4 fLN fdLN ["stretches"] (J3a CW)) (bLN:Binds K fdLN ["stretches"] []) (mLN:mg "longest"=some (.ref fLN)) (kLN:keepIn K (.ref fLN)=true)
  (GSO:FnOk P w K mg base CX0 3 fSO fdSO ["line"] (spStrOf C CW)) (bSO:Binds K fdSO ["line"] []) (mSO:mg "stretches_of"=some (.ref fSO)) (kSO:keepIn K (.ref fSO)=true)
  (GBS:FnOk P w K mg base CX0 4 fBS fdBS ["line"] (spBackS C CW TK)) (bBS:Binds K fdBS ["line"] []) (mBS:mg "back_stretches"=some (.ref fBS)) (kBS:keepIn K (.ref fBS)=true)
  (MSR:Mk K CW fSR) (GSR:FnOk P w K mg base CX0 1 fSR fdSR ["self","first","length","laid","turned"] (spSr CW)) (bSR:Binds K fdSR ["self","first","length","laid","turned"] []) (mgSR:mg "Stretch"=some (.ref CW)) :
  FnOk P w K mg base (Exc1 P w) 7 f fd ["line","times"] (J2y C CW TB TJ TK CM):=by
 refine F.okX scRepeated (fun vs H Q E h=>?_) (fun cdv A outer s H vs Q E hr h=>?_)
 ·obtain ⟨x,ls,os,ts,m,rfl,_⟩:=h;rfl
 ·obtain ⟨x,ls,os,ts,m,rfl,L1,G1,t1,h1000,h62,T3,k⟩:=h;have hr2:Room 2 _:=rm hr;have hr3:Room 3 _:=rm hr;have hr4:Room 4 _:=rm hr;have hr5:Room 5 _:=rm hr;have hr6:Room 6 _:=rm hr;refine ⟨_,(J2 (J1d (Je (i:=2) scRepeated.nd rfl (Or.inl rfl) (Jd GLN hr4 rfl mLN kLN bLN .nil pass0 (J0 (J2i (Jq op_gt (pv 1) J8 (Ju _)) (Jd GSO hr3 rfl mSO kSO bSO .nil pass0 (J0 (pv 0) J4)) (Jd GBS hr4 rfl mBS kBS bBS .nil pass0 (J0 (pv 0) J4))) J4))))
   (J2 (J1d (Je (i:=3) scRepeated.nd rfl (Or.inl rfl) (J1e (J0 (J2h MSR GSR hr2 rfl mgSR bSR .nil pass0 (J0 J8 (J0 (Jl (pv 0) rfl) (J0 J8 (J0 pe_bl J4))))) J4))))
   (J2 (ps_nox (J1s PassesOwn.never rfl (J15 rfl T.range (J0 (Jb J1w (by rfl) habs boot_abs (J0 (pv 1) J4)) J4)) (Jm (i:=4) scRepeated.nd rfl (Or.inl rfl))
    (J7 (Je (i:=3) scRepeated.nd rfl (Or.inl rfl) (Jd GJS hr5 rfl mJS kJS bJS .nil pass0 (J0 (pv 3) (J0 (pv 2) J4)))))))
   (J7 (Jo (Jd GLW hr6 rfl mLW kLW bLW .nil pass1 (J0 (pv 3) J4))))))),?_⟩
  obtain ⟨dx,fl,pl,po,pt,ps,pd,h0,⟨k1,k2,k3,k4,k5,k6⟩,e1,e2,e3,e4,e5⟩:=L1.ex;have O1:=G1.ord;have b1:=J1t (ts:=ts) O1;have r1:=srs_rep (ts:=ts) O1;have p1:=G1.pos_sum;have hi:=G1.hi;obtain ⟨f,ef⟩:∃ f,f=rpF ls os ts m:=⟨_,rfl⟩;obtain ⟨fk,bf⟩:∃ fk,Bij ls.sum f fk:=by rw [ef];exact rp_bij O1 m
  refine ⟨fun σ' Hw=>∃ e ws on,σ'=[some (.ref x),some (.int m),some (.ref e),none,none]/\Hw e=some (.lst ws)/\SrsAt CW Hw ws on/\RepS f 0 on ls.sum/\on.length<=ls.length/\SameT H Hw/\Tb3 Hw TB TJ TK/\TKeep3 TB TJ TK H Hw,?_,?_⟩
  ·refine ⟨_,rfl,_,_,rfl,rfl,_,rfl,?_⟩;by_cases c:0 < m
   ·refine iteDT c ⟨_,rfl,x,ls,os,ts,rfl,L1,G1.hi,t1,fun d ys H1 s1 q1 rf1=>?_⟩;refine ⟨d,ys,srsL ls os ts,rfl,q1,Refs.srs rf1,(by rw [J39];lia),fun d2 zs H2 s2 q2 S2=>?_⟩;refine ⟨d2,zs,_,rfl,q2,S2,?_,?_,Same.t (s1.trans s2),T3.same (s1.trans s2),fun Q pos q _ _ _ t=>Jr t (s1.trans s2)⟩
    ·rw [ef];unfold rpF;rw [if_pos c];exact lgst_line O1
    ·have:=J3h (srsL ls os ts);rw [J39] at this;exact this
   ·refine iteD c ⟨_,rfl,x,ls,os,ts,rfl,L1,G1.hi,t1,T3.k,fun L d zs H1 pm pw sT T4 TK4 e S=>?_⟩;have R:=J4i b1.symm.inj (bk_rep b1 r1 (by lia) pm pw);have ll:=J3h L;have lp:=pm.length_eq;rw [length_map,J39] at lp;refine ⟨d,zs,L,rfl,e,S,(by lia),fun d2 ws H2 s2 q2 S2=>?_⟩;refine ⟨d2,ws,_,rfl,q2,S2,?_,by lia,SameT.trans sT (Same.t s2),(T3.k' TN T4 TK4).same s2,fun Q pos q _ _ n t=>Jr (TK4 _ _ _ n t) s2⟩;rw [ef];unfold rpF;rw [if_neg c];exact R
  rintro σ H1 ⟨e,ws,on,rfl,qe,SO,RO,ol,s1,T1,K1⟩;refine ⟨fun σ' Hw=>∃ d zs,σ'=[some (.ref x),some (.int m),some (.ref e),some (.ref d),none]/\Hw d=some (.lst zs)/\SrsAt CW Hw zs [⟨0,ls.sum,0,false⟩]/\Same H1 Hw,?_,?_⟩
  ·refine ⟨_,rfl,x,C,dx,fl,_,rfl,s1 _ _ h0 rfl,TC.cl,TC.nZ,k6,fun y dy hy hdy hne=>J3r (CW:=CW) (H:=H1) (f:=0) (l:=ls.sum) (a:=0) (t:=false) (Q:=fun v H2=>1<=sizeLine/\∀ p,H2 p=none->∃ d zs,([some (V.ref x),some (V.int m),some (V.ref e),some (V.ref p),none]:List (Option V))=[some (V.ref x),some (V.int m),some (V.ref e),some (V.ref d),none]/\(upd H2 p (.lst [v])) d=some (.lst zs)/\SrsAt CW (upd H2 p (.lst [v])) zs [⟨0,ls.sum,0,false⟩]/\Same H1 (upd H2 p (.lst [v]))) (fun r H2 s2 R fr=>⟨by decide,fun p hp=>⟨p,_,rfl,J1,?_,s2.trans (J3 hp)⟩⟩) y dy hy hdy hne⟩;have R':SrAt CW H2 r ⟨0,ls.sum,0,false⟩:=R;refine ⟨rfl,fun i s z=>?_⟩
   match i,z with
   | 0,z=>cases Option.some.inj z;exact ⟨r,rfl,R'.same (J3 hp)⟩
   | n + 1,z=>simp at z
  rintro σ H2 ⟨d,zs,rfl,qd',SZ,s2⟩;have qe2:=s2 _ _ qe;have SO2:=SO.same s2;have T2:=T1.same s2;have sH2:=SameT.trans s1 (Same.t s2);have na:(if m < 0 then -m else m)=((m.natAbs:Nat):Int):=by split <;> lia
  have mul:∀ i:Nat,i<=m.natAbs->i * (ls.length - 1)<=62:=fun i hi'=>by have:=Nat.mul_le_mul_right (ls.length - 1) hi';lia
  have nl:1<=ls.length:=G1.lo;have K2:TKeep3 TB TJ TK H H2:=fun Q pos q a b c t=>Jr (K1 Q pos q a b c t) s2;have on0:on≠[]:=fun z=>by rw [z] at RO;have:(0:Int)=ls.sum:=RO;lia
  refine ⟨_,rfl,_,rfl,?_⟩;rw [na];refine ⟨((m.natAbs:Nat):Int),rfl,by lia,by lia,J1z (lo:=0) (n:=m.natAbs) (fun i σ Hw=>∃ d zs ss v,σ=[some (.ref x),some (.int m),some (.ref e),some (.ref d),v]/\Hw d=some (.lst zs)/\SrsAt CW Hw zs ss/\RepS (itF f i) 0 ss ls.sum/\ss.length<=1 + i * (ls.length - 1)/\Hw e=some (.lst ws)/\SrsAt CW Hw ws on/\SameT H Hw/\Tb3 Hw TB TJ TK/\TKeep3 TB TJ TK H Hw)
   ⟨d,zs,_,none,rfl,qd',SZ,one_rep p1,by simp,qe2,SO2,sH2,T2,K2⟩ ?_ ?_⟩
  ·rintro i σ Hw hi' ⟨d,zs,ss,v,rfl,qd',SZ,RZ,sl,qe,SO,sw,TW',KW⟩;obtain ⟨ki,bi⟩:=J33 bf i;have jl:=jn_few RZ.rep RO.rep bi.inj bi.inn on0;have m1:=mul (i + 1) (by lia);rw [Nat.add_mul,Nat.one_mul] at m1;refine ⟨_,rfl,_,rfl,d,e,zs,ws,ss,on,rfl,qd',qe,SZ,SO,(by lia),(by lia),(by lia),TW'.j,fun L d2 us H3 pm pw sT T4 TK4 e3 S3=>?_⟩;have R:=jn_repS bi bf RZ.rep RO.rep (by lia) pm pw;have ll:=J3h L;have lp:=pm.length_eq;exact ⟨d2,us,lgst L,_,rfl,e3,S3,R,(by rw [Nat.add_mul,Nat.one_mul];lia),sT _ _ qe rfl,SO.sameT sT,SameT.trans sw sT,TW'.j' TN T4 TK4,fun Q pos q n1 n2 n3 t=>TK4 _ _ _ n2 (KW Q pos q n1 n2 n3 t)⟩
  ·rintro σ Hw ⟨d,zs,ss,v,rfl,qd',SZ,RZ,sl,qe,SO,sw,TW',KW⟩;rw [ef] at RZ;obtain ⟨kx,kq⟩:=k ss RZ;refine ⟨_,rfl,d,zs,ss,rfl,qd',SZ,TW'.b,fun c=>kx c Hw sw,fun c o po' pw'=>⟨repS_good RZ p1 G1.sum c po',fun z H4 sT4 T6 TK6 LZ=>?_⟩⟩;exact kq c z _ o _ H4 (SameT.trans sw sT4) (fun Q pos q n1 n2 n3 t=>TK6 _ _ _ n1 (KW Q pos q n1 n2 n3 t)) ⟨ss,RZ,rfl,rfl,⟨po',pw'⟩⟩ (length_map ..) (repS_good RZ p1 G1.sum c po') LZ
def spCell (K:PySem.W.Frag):Sp:=fun vs H Q _=>∃ (a:Addr) (ns:List Int) (j:Nat),vs=[.ref a,.int j]/\SqL K H a (iV ns)/\Q (.int (cellN ns j)) H
theorem scCell:FnScope ["script","k"] ["script","k"] (J9 sCell):=fS
theorem ok_cell {f:Addr} {fd:FuncData} (F:Fun K "_law_cell" "_law_cell" sCell f fd) (T:TxtR mg):FnOk P w K mg base CX0 1 f fd ["script","k"] (spCell K):=by
 refine F.ok scCell (fun vs H Q E h=>?_) (fun cdv A outer s H vs Q E hr h=>?_)
 ·obtain ⟨a,ns,j,rfl,_⟩:=h;rfl
 ·obtain ⟨a,ns,j,rfl,hS,k⟩:=h;refine ⟨_,J2 (ps_if (Jq op_lt (pv 1) (Jb Jf (by rfl) T.len boot_len (J0 (pv 0) J4)) (Ju _)) (J7 (Jo (pe_ix Jx (pv 0) (pv 1) (fun _ _=>rfl)))) Js) (J7 (Jo J8)),?_⟩;refine ⟨_,rfl,_,rfl,a,_,rfl,.inl hS,_,_,rfl,rfl,_,rfl,?_⟩;have hl:(iV ns).length=ns.length:=length_map ..;by_cases hj:j < ns.length
  ·refine iteDT (by rw [hl];lia) ?_;exact ⟨_,rfl,_,rfl,a,_,_,_,rfl,rfl,hS,Ji (J1p hj),k⟩
  ·refine iteD (by rw [hl];lia) ?_;have e:cellN ns j=0:=by
    unfold cellN;rw [getD_eq_getElem?_getD,getElem?_eq_none (by lia)];rfl
   rw [e] at k;exact k
end
section
def bitsN (ns:List Int):Int:=cellN ns 1 % (1 * 2 ^ (24:Int).toNat)
def turnB (ns:List Int) (k:Nat):Bool:=decide (V.int (Builtin.bitAnd (bitsN ns / 2 ^ k) 1)=V.int 1)
def drawT (ns:List Int) (many:Nat):List Bool:=(List.range many).map (turnB ns)
theorem drawT_len (ns:List Int) (many:Nat):(drawT ns many).length=many:=by simp [drawT]
structure DrawnAt (H:Hp) (p:Addr) (ls:List Int) (os:List Nat) (ts:List Bool):Prop where
 ex:∃ l o t:Addr,H p=some (.tup [.ref l,.ref o,.ref t])/\H l=some (.lst (iV ls))/\H o=some (.lst (nV os))/\H t=some (.lst (bV ts))
theorem DrawnAt.same {H H':Hp} {p:Addr} {ls:List Int} {os:List Nat} {ts:List Bool} (h:DrawnAt H p ls os ts) (s:Same H H'):DrawnAt H' p ls os ts:=by
 obtain ⟨l,o,t,h0,h1,h2,h3⟩:=h.ex;exact ⟨l,o,t,s _ _ h0,s _ _ h1,s _ _ h2,s _ _ h3⟩
theorem insV (os:List Nat) (i y:Nat):(nV os).take i ++ V.int (y:Int) :: (nV os).drop i=nV (insAt os i y):=by
 show ((os.map fun (n:Nat)=>(n:Int)).map V.int).take i ++ V.int (y:Int) :: ((os.map fun (n:Nat)=>(n:Int)).map V.int).drop i=((insAt os i y).map fun (n:Nat)=>(n:Int)).map V.int;unfold insAt;simp only [map_append,map_cons,List.map_take,List.map_drop]
end
section
variable {P:Program} {w:World} {K:PySem.W.Frag} {mg:Str->Option Value} {base:Heap}
def spDrawn9 (K:PySem.W.Frag):Sp:=fun vs H Q _=>∃ (a:Addr) (ns ms:List Int) (t many:Nat) (top:Int),vs=[.ref a,.int (t:Nat),.int many,.int top]/\SqL K H a (iV ns)/\(∀ k,cellN ms (1 + k)=cellN ns (t + k))/\1<=many/\many<=24/\0 < top/\
 ∀ p H',Same H H'->DrawnAt H' p (drawL ms many top) (drawO ms many many) (drawT ms many)->Q (.ref p) H'
theorem scDrawn9:FnScope ["script","at","many","top","lengths","order","k","bits"] ["script","at","many","top"] (J9 sDrawn):=fS
theorem ok_drawn9 {f fc:Addr} {fd fdc:FuncData} (F:Fun K "_law_drawn" "_law_drawn" sDrawn f fd) (T:TxtR mg) (GC:FnOk P w K mg base CX0 1 fc fdc ["script","k"] (spCell K)) (bC:Binds K fdc ["script","k"] []) (mC:mg "_law_cell"=some (.ref fc)) (kC:keepIn K (.ref fc)=true) :
  FnOk P w K mg base CX0 2 f fd ["script","at","many","top"] (spDrawn9 K):=by
 refine F.ok scDrawn9 (fun vs H Q E h=>?_) (fun cdv A outer s H vs Q E hr h=>?_)
 ·obtain ⟨a,ns,ms,t,many,top,rfl,_⟩:=h;rfl
 ·obtain ⟨a,ns,ms,t,many,top,rfl,hS,hm,h1,h2,h3,k⟩:=h;refine ⟨_,J2 (ps_compB (i:=4) ["script","at","top"] [0,1,3] scDrawn9.nd rfl (Or.inl rfl) rfl (J15 rfl T.range (J0 (pv 2) J4)) rfl
    (fun C fp s H=>pe_op J11 J8 (pe_op J2a (Jd GC hr rfl mC kC bC .nil pass0 (J0 (pv 1) (J0 (pe_op J11 (pe_op J11 (pv 2) J8) (pv 0)) J4))) (pv 3)))
    (by decide +kernel) (by decide +kernel) (by decide +kernel) (by intro p hp;simp only [mem_cons,not_mem_nil,or_false] at hp;rcases hp with rfl | rfl | rfl <;> rfl))
   (J2 (Je (i:=5) scDrawn9.nd rfl (Or.inl rfl) (J1e J4))
   (J2 (J1s PassesOwn.never rfl (J15 rfl T.range (J0 (pv 2) J4)) (Jm (i:=6) scDrawn9.nd rfl (Or.inl rfl))
    (J7 (J2g (pe_bm PySem.F.plainAttrs_list PySem.F.slot_list_insert PySem.F.type_list_insert mt_insert (pv 5)
     (J0 (pe_op J2a (Jd GC hr rfl mC kC bC .nil pass0 (J0 (pv 0) (J0 (pe_op J11 (pe_op J11 (pe_op J11 (pv 1) J8) (pv 2)) (pv 6)) J4))) (pe_op J11 (pv 6) J8)) (J0 (pv 6) J4))))))
   (J2 (Je (i:=7) scDrawn9.nd rfl (Or.inr rfl) (pe_op J2a (Jd GC hr rfl mC kC bC .nil pass0 (J0 (pv 0) (J0 (pv 1) J4))) (pe_op op_shl J8 J8)))
   (J7 (Jo (pe_tup (J0 (pv 4) (J0 (pv 5) (J0
    (pe_lc (caps:=["bits"]) (js:=[7]) rfl (J15 rfl T.range (J0 (pv 2) J4)) rfl (fun _ _ _ _=>J1h)
     (fun C fp s H=>J1q op_eq (pe_op op_and (pe_op op_shr (pv 1) (pv 0)) J8) J8 (Ju _))
     (by decide +kernel) (by decide +kernel) (by decide +kernel) (by intro p hp;simp only [mem_cons,not_mem_nil,or_false] at hp;rcases hp with rfl;rfl)) J4))))))))),?_⟩
  refine ⟨_,rfl,(many:Int),rfl,by lia,by lia,0,many,fun k=>V.int (1 + cellN ns (t + 1 + k) % top),rfl,by lia,?_,fun d hd=>?_⟩
  ·rintro d H2 j hd hj rfl;have e:((t:Int) + 1 + (0 + (j:Int)))=((t + 1 + j:Nat):Int):=by lia
   exact ⟨_,rfl,_,rfl,_,_,rfl,rfl,_,rfl,_,_,rfl,rfl,a,ns,t + 1 + j,(by rw [<- e];rfl),(J3 hd).seq hS,_,rfl,_,_,rfl,rfl,h3,_,_,rfl,rfl,rfl,rfl⟩
  have eL:(List.range many).map (fun k=>V.int (1 + cellN ns (t + 1 + k) % top))=iV (drawL ms many top):=by
   show _=(drawL ms many top).map V.int;unfold drawL;rw [map_map];refine List.map_congr_left fun k _=>?_;show V.int (1 + cellN ns (t + 1 + k) % top)=V.int (1 + cellN ms (2 + k) % top);rw [show 2 + k=1 + (1 + k) by lia,hm (1 + k),show t + (1 + k)=t + 1 + k by lia]
  rw [eL];have s1:Same H (upd H d (.lst (iV (drawL ms many top)))):=J3 hd;generalize hH1:upd H d (.lst (iV (drawL ms many top)))=H1 at s1;have hd1:H1 d=some (.lst (iV (drawL ms many top))):=by rw [<- hH1];exact J1
  refine ⟨Nat.zero_le _,fun ol hol=>?_⟩;refine ⟨_,rfl,(many:Int),rfl,by lia,by lia,J1z (lo:=0) (n:=many) (fun i σ H2=>∃ v,σ=[some (.ref a),some (.int (t:Nat)),some (.int many),some (.int top),some (.ref d),some (.ref ol),v,none]/\H2 ol=some (.lst (nV (drawO ms many i)))/\Same H1 H2)
   ⟨none,rfl,J1,J3 hol⟩ ?_ ?_⟩
  ·rintro i σ H2 hi ⟨v,rfl,ho,s2⟩;rw [Int.zero_add];obtain ⟨q1,q2⟩:=spotO_le ms many i;have e:((t:Int) + 1 + (many:Int) + (i:Int))=((t + 1 + many + i:Nat):Int):=by lia
   have hlen:(nV (drawO ms many i)).length=i:=by rw [len_nV,drawO_len]
   refine ⟨_,rfl,.inl ⟨rfl,_,SqL.of ho⟩,_,rfl,_,rfl,_,_,rfl,rfl,_,rfl,_,_,rfl,rfl,_,rfl,_,_,rfl,rfl,a,ns,t + 1 + many + i,(by rw [<- e];rfl),(s1.trans s2).seq hS,_,rfl,_,_,rfl,rfl,_,_,rfl,rfl,(by lia),_,rfl,
    ol,_,spotO ms many i,V.int (i:Int),rfl,(by rw [q2,show 2 + many + i=1 + (1 + many + i) by lia,hm,show t + (1 + many + i)=t + 1 + many + i by lia]),ho,(by rw [hlen];exact q1),(by rw [hlen];exact Jk (by lia)),?_⟩
   refine ⟨_,rfl,?_,fun b o z=>?_⟩
   ·rw [J1,insV];rfl
   ·rw [Ja (J6 z hol)];exact s2 _ _ z
  ·rintro σ H2 ⟨v,rfl,ho,s2⟩;have s3:=s1.trans s2;refine ⟨_,rfl,_,rfl,a,ns,t,rfl,s3.seq hS,_,_,rfl,rfl,⟨by decide,by decide,by decide⟩,_,_,rfl,rfl,(by show (0:Int) < 1 * 2 ^ 24;decide),?_⟩;refine ⟨_,rfl,_,rfl,_,rfl,(many:Int),rfl,by lia,by lia,fun tl htl=>lc_rng 0 many (fun _=>true) (fun k=>V.bl (turnB ms k)) (by lia) htl (fun _ _ H _ _ q=>q H (Same.refl _)) (fun j hj H3 Qe _ s3' q=>?_) (fun H3 s3' htl'=>?_)⟩
   ·have e:(0 + (j:Int)).toNat=j:=by lia
    refine ⟨_,rfl,_,rfl,_,_,rfl,rfl,(by lia),_,_,rfl,rfl,rfl,?_⟩;have:=q H3 (Same.refl _);unfold turnB bitsN at this;rw [show (1:Nat)=1 + 0 from rfl,hm 0,Nat.add_zero] at this;rw [e];exact this
   rw [J1a] at htl';have eT:(List.range many).map (fun k=>V.bl (turnB ms k))=bV (drawT ms many):=by
    show _=(drawT ms many).map V.bl;unfold drawT;rw [map_map];rfl
   rw [eT] at htl';refine ⟨(by show 3<=sizeLine;rw [sizeLine_eq];decide),fun p hp=>?_⟩;have s4:=s3'.trans (J3 (o:=.tup [.ref d,.ref ol,.ref tl]) hp);exact k p _ (s3.trans s4) ⟨d,ol,tl,J1,s4 _ _ (s2 _ _ hd1),s4 _ _ ho,J3 hp _ _ htl'⟩
theorem J34 (ns:List Int) {many:Nat} {top:Int} (h1:1<=many) (h2:many<=24) (h3:0 < top) (h4:top<=10 ^ 28):Good (drawL ns many top) (drawO ns many many):=by
 have hl:=J1g ns many top;refine ⟨by lia,by lia,fun a ha=>(J3n h3 a ha).1,?_,by rw [hl];exact J2o ns many many⟩;have e1:=sum_le (drawL ns many top) fun a ha=>(J3n h3 a ha).2;rw [hl] at e1;have e2:=mul_top h2 (Int.le_of_lt h3);have e3:(24:Int) * top<=10 ^ 30:=by
  have:(24:Int) * top<=24 * 10 ^ 28:=by lia
  exact Int.le_trans this (by decide)
 lia
end
section
structure DrGood (H:Hp) (p:Addr) (ls:List Int) (os:List Nat) (ts:List Bool):Prop where
 at_:DrawnAt H p ls os ts
 good:Good ls os
 len:ts.length=ls.length
theorem DrGood.same {H H':Hp} {p:Addr} {ls:List Int} {os:List Nat} {ts:List Bool} (h:DrGood H p ls os ts) (s:Same H H'):DrGood H' p ls os ts:=⟨h.at_.same s,h.good,h.len⟩
theorem cutV_to (xs:List V) (n:Nat) (h:n<=xs.length):cutV xs none (some (n:Int))=xs.take n:=by
 unfold cutV;rw [HT.sIx_nat,HT.sIx_none,Nat.min_eq_left h,List.drop_zero,Nat.sub_zero]
end
section
variable {P:Program} {w:World} {K:PySem.W.Frag} {mg:Str->Option Value} {base:Heap}
def spLGoes:Sp:=fun vs H Q _=>∃ (p:Addr) (ls:List Int) (os:List Nat) (ts:List Bool) (x:Int),vs=[.ref p,.int x]/\DrawnAt H p ls os ts/\Good ls os/\ts.length=ls.length/\(0<=x/\x < ls.sum)/\∀ H',Same H H'->Q (.int (gL ls os ts x)) H'
theorem idx_nat:∀ (os:List Nat) (i:Nat),(natI os).idxOf (i:Int)=os.idxOf i
 | [],i=>rfl
 | a :: r,i=>by
  show ((a:Int) :: natI r).idxOf (i:Int)=_;rw [List.idxOf_cons,List.idxOf_cons,idx_nat r i];by_cases h:a=i
  ·subst h;simp
  ·rw [show (((a:Int)) == (i:Int))=false by simpa using (fun e=>h (by lia):¬ ((a:Int)=(i:Int))),show (a == i)=false by simpa using h]
theorem idx_sum {ls:List Int} {os:List Nat} (O:Ord ls os) {j:Nat} (hj:j < ls.length):((List.range (os.idxOf j)).map fun k=>ls.getD (os.getD k 0) 0).sum=(firsts ls os).getD j 0:=by
 have hm:j∈os:=O.perm.mem_iff.mpr (mem_range.mpr hj);have hi:os.idxOf j < os.length:=List.idxOf_lt_length_of_mem hm;have e:os.getD (os.idxOf j) 0=j:=by
  rw [getD_eq_getElem?_getD,getElem?_eq_getElem hi];exact List.getElem_idxOf hi
 have h1:=O.first (i:=os.idxOf j) (by rw [<- O.len];exact hi);rw [e] at h1;rw [h1,J1f _ _ _ (Nat.le_of_lt hi)]
 congr 1
 refine ext_getElem (by simp;lia) fun k k1 k2=>?_;have hk:k < os.idxOf j:=by simpa using k1
 rw [getElem_map,getElem_map,getElem_range,List.getElem_take,getD_eq_getElem?_getD (l:=os),getElem?_eq_getElem (by lia)];rfl
theorem scLGoes:FnScope ["drawn","x","lengths","order","turned","piece","laid"] ["drawn","x"] (J9 sLGoes):=fS
theorem ok_lgoes {f   : Addr} {fd  : FuncData}  (F : Fun K "_law_goes" "_law_goes" sLGoes f fd) (T : TxtR mg)
 :
    FnOk P w K mg base CX0 1 f fd ["drawn", "x"] spLGoes := by
  refine F.ok scLGoes (fun vs H Q E h => ?_) (fun cdv A outer s H vs Q E hr h => ?_)
  · obtain ⟨p, ls, os, ts, x, rfl, _⟩ := h
    rfl
  · obtain ⟨p, ls, os, ts, x, rfl, D, G, hts, hx, q⟩ := h
    refine ⟨_, (J2 (ps_asg (pv 0) (pg_tup rfl (J17 (Jm (i := 2) scLGoes.nd rfl (Or.inr rfl)) (J17 (Jm (i := 3) scLGoes.nd rfl (Or.inr rfl)) (J17 (Jm (i := 4) scLGoes.nd rfl (Or.inl rfl)) pgs_nil)))))
      (J2 (Je (i := 5) scLGoes.nd rfl (Or.inl rfl) J8)
      (J2 (ps_while PassesOwn.never (Jq op_ge (pv 1) (pe_ix Jx (pv 2) (pv 5) (fun _ _ => rfl)) (Ju _))
        (J2 (Je (i := 1) scLGoes.nd rfl (Or.inl rfl) (pe_op J14 (pv 1) (pe_ix Jx (pv 2) (pv 5) (fun _ _ => rfl))))
        (J7 (Je (i := 5) scLGoes.nd rfl (Or.inl rfl) (pe_op J11 (pv 5) J8)))))
      (J2 (Je (i := 6) scLGoes.nd rfl (Or.inl rfl) (Jb (J1v rfl) (by rfl) T.sum boot_sum (J0 (pe_lc (caps := ["lengths", "order"]) (js := [2, 3]) rfl (J15 rfl T.range (J0 (pe_bm PySem.F.plainAttrs_list PySem.F.slot_list_index PySem.F.type_list_index mt_indexL (pv 3) (J0 (pv 5) J4)) J4)) rfl (fun _ _ _ _ => J1h) (fun C fp s H => (J2t (J25 K) (pv 1) (J2t (J25 K) (pv 2) (pv 0)))) (by decide +kernel) (by decide +kernel) (by decide +kernel) (by intro p hp; simp only [mem_cons, not_mem_nil, or_false] at hp; rcases hp with rfl | rfl <;> rfl)) J4)))
      (J2 (ps_if (J2r (pe_ix Jx (pv 4) (pv 5) (fun _ _ => rfl))) (J7 (Jo (pe_op J14 (pe_op J14 (pe_op J11 (pv 6) (pe_ix Jx (pv 2) (pv 5) (fun _ _ => rfl))) J8) (pv 1)))) Js)
      (J7 (Jo (pe_op J11 (pv 6) (pv 1))))))))), ?_⟩
    obtain ⟨dl, ol, dt, d0, d1, d2, d3⟩ := D.ex;have O := G.ord;have wh : Jc ls (List.range ls.length) ls.length = ls.sum := O.range.whole;have rg : ∀ {i : Nat}, i < ls.length -> (List.range ls.length).getD i 0 = i := fun {i} h => by rw [getD_eq_getElem?_getD, getElem?_range h]; rfl
    have l1 := G.lo;refine ⟨_, rfl, p, _, rfl, SqT.of d0, rfl, _, _, rfl, _, _, rfl, _, _, rfl, rfl, ?_⟩;refine ⟨fun m σ Hw => ∃ i : Nat, i < ls.length /\ Jc ls (List.range ls.length) i <= x /\ m = ls.length - i /\ σ = [some (.ref p), some (.int (x - Jc ls (List.range ls.length) i)), some (.ref dl), some (.ref ol), some (.ref dt), some (.int (i : Nat)), none] /\ H = Hw, ⟨_, 0, by lia, by rw [Jg]; exact hx.1, rfl, by rw [Jg, Int.sub_zero]; rfl, rfl⟩, ?_⟩;rintro m σ _ ⟨i, hi, ha, rfl, rfl, rfl⟩;have es : Jc ls (List.range ls.length) (i + 1) = Jc ls (List.range ls.length) i + ls.getD i 0 := by rw [Jj, rg hi]
    refine ⟨_, rfl, _, rfl, _, rfl, dl, _, _, _, rfl, rfl, SqL.of d1, Ji (J1p hi), _, _, rfl, rfl, _, rfl, ?_⟩;by_cases c : x - Jc ls (List.range ls.length) i >= ls.getD i 0
    · refine iteDT c ?_
      refine ⟨_, fun σ' H' h => h, ?_⟩;have hi1 : i + 1 < ls.length := by
        apply Classical.byContradiction;intro k;obtain e : i + 1 = ls.length := by lia
        rw [e, wh] at es;lia
      refine ⟨_, rfl, _, rfl, _, rfl, dl, _, _, _, rfl, rfl, SqL.of d1, Ji (J1p hi), _, _, rfl, rfl, ?_⟩;refine ⟨_, rfl, _, _, rfl, rfl, ls.length - (i + 1), by lia, i + 1, hi1, by lia, rfl, ?_, rfl⟩;rw [es, show (((i + 1 : Nat) : Int)) = (i : Int) + 1 by lia, show x - (Jc ls (List.range ls.length) i + ls.getD i 0) = x - Jc ls (List.range ls.length) i - ls.getD i 0 by lia]; rfl
    · refine iteD c ?_
      have q1 : Lies (firsts ls (List.range ls.length)) ls x i := by
        have := O.range.lies (x := x) hi ha (by lia);rwa [rg hi] at this
      have fi : (firsts ls (List.range ls.length)).getD i 0 = Jc ls (List.range ls.length) i := by
        have := O.range.first hi;rwa [rg hi] at this
      have ge := gL_eq (ts := ts) O q1;rw [fi] at ge;have hmem : (i : Int) ∈ natI os := mem_map.mpr ⟨i, O.perm.mem_iff.mpr (mem_range.mpr hi), rfl⟩;have hidx : (natI os).idxOf (i : Int) = os.idxOf i := idx_nat os i;have hil : os.idxOf i < os.length := List.idxOf_lt_length_of_mem (O.perm.mem_iff.mpr (mem_range.mpr hi));have hol := O.len;have hhi := G.hi;refine ⟨_, rfl, .inl ⟨rfl, _, SqL.of d2⟩, _, rfl, ol, natI os, (i : Int), rfl, rfl, SqL.of d2, hmem, ?_⟩;rw [hidx];refine ⟨(os.idxOf i : Nat), rfl, by lia, by lia, fun e he => lc_rng 0 (os.idxOf i) (fun _ => true) (fun k => V.int (ls.getD (os.getD k 0) 0)) (by lia) he (fun _ _ H _ _ q => q H (Same.refl _)) (fun j hj H3 Qe _ s3 ke => ?_) (fun H3 s3 he3 => ?_)⟩
      · rw [Int.zero_add]
        have hlt : os.getD j 0 < ls.length := mem_range.mp (O.perm.mem_iff.mp (J3l (by lia)));exact ⟨_, rfl, _, rfl, _, rfl, ol, _, _, _, rfl, rfl, SqL.of (s3 _ _ d2), Ji (nV_at (by lia)), dl, _, _, _, rfl, rfl, SqL.of (s3 _ _ d1), Ji (J1p hlt), ke H3 (Same.refl _)⟩
      rw [J1a] at he3;have he3 : H3 e = some (.lst (((List.range (os.idxOf i)).map fun k => ls.getD (os.getD k 0) 0).map V.int)) := by rw [he3, map_map]; rfl
      refine ⟨e, _, rfl, .inl (SqL.of he3), ?_⟩;rw [idx_sum O hi];refine ⟨_, rfl, _, rfl, dt, _, _, _, rfl, rfl, SqL.of (s3 _ _ d3), Ji (bV_get (by rw [hts]; exact hi)), _, rfl, ?_⟩;have qq := q H3 s3;rw [ge] at qq;unfold moveN at qq;by_cases ct : ts.getD i false = true
      · rw [if_pos ct] at qq
        exact iteBT ct ⟨_, rfl, _, rfl, _, rfl, dl, _, _, _, rfl, rfl, SqL.of (s3 _ _ d1), Ji (J1p hi), _, _, rfl, rfl, _, _, rfl, rfl, _, rfl, _, _, rfl, rfl, qq⟩
      · rw [if_neg ct] at qq
        exact iteBF ct ⟨_, rfl, _, rfl, _, _, rfl, rfl, qq⟩
def spLLine (C:Addr):Sp:=fun vs H Q _=>∃ (p:Addr) (ls:List Int) (os:List Nat) (ts:List Bool),vs=[.ref p]/\DrGood H p ls os ts/\∀ x H',Same H H'->LineAt C H' x ls os ts->Q (.ref x) H'
theorem scLLine:FnScope ["drawn"] ["drawn"] (J9 sLLine):=fS
theorem ok_lline {f fI C:Addr} {fd fdI:FuncData}  (F:Fun K "_law_line" "_law_line" sLLine f fd) (T:TxtR mg)
  (MI:Mk K C fI) (GI:FnOk P w K mg base CX0 3 fI fdI ["self","lengths","order","turned"] (spInit C)) (bI:Binds K fdI ["self","lengths","order","turned"] []) (mgI:mg "Line"=some (.ref C)) :
  FnOk P w K mg base CX0 5 f fd ["drawn"] (spLLine C):=by
 refine F.ok scLLine (fun vs H Q E h=>?_) (fun cdv A outer s H vs Q E hr h=>?_)
 ·obtain ⟨dp,ls,os,ts,rfl,_⟩:=h;rfl
 ·obtain ⟨dp,ls,os,ts,rfl,D,k⟩:=h;have hr4:Room 4 _:=rm hr;refine ⟨_,(J7 (Jo (J2h MI GI hr4 rfl mgI bI .nil pass0 (J0 (Jh Jn (by rfl) T.list boot_list (J0 (pe_ix J24 (pv 0) J8 (fun _ _=>rfl)) J4)) (J0 (Jh Jn (by rfl) T.list boot_list (J0 (pe_ix J24 (pv 0) J8 (fun _ _=>rfl)) J4)) (J0 (Jh Jn (by rfl) T.list boot_list (J0 (pe_ix J24 (pv 0) J8 (fun _ _=>rfl)) J4)) J4)))))),?_⟩;obtain ⟨dl,ol,dt,d0,d1,d2,d3⟩:=D.at_.ex;refine ⟨_,rfl,dp,_,_,_,rfl,rfl,SqT.of d0,Ji (j:=0) rfl,dl,_,rfl,.inl (SqL.of d1),fun l1 hl1=>?_⟩;have w1:=J3 (o:=.lst (iV ls)) hl1;refine ⟨_,rfl,dp,_,_,_,rfl,rfl,SqT.of (w1 _ _ d0),Ji (j:=1) rfl,ol,_,rfl,.inl (SqL.of (w1 _ _ d2)),fun l2 hl2=>?_⟩;have w2:=w1.trans (J3 (o:=.lst (nV os)) hl2);refine ⟨_,rfl,dp,_,_,_,rfl,rfl,SqT.of (w2 _ _ d0),Ji (j:=2) rfl,dt,_,rfl,.inl (SqL.of (w2 _ _ d3)),fun l3 hl3=>?_⟩;have w3:=J3 (o:=.lst (bV ts)) hl3;have w23:=(J3 (o:=.lst (nV os)) hl2).trans w3;have e1:=w23 l1 _ J1;have e2:=w3 l2 _ J1;have e3:upd (upd (upd H l1 (.lst (iV ls))) l2 (.lst (nV os))) l3 (.lst (bV ts)) l3=_:=J1;have w0:=w2.trans w3;generalize upd (upd (upd H l1 (.lst (iV ls))) l2 (.lst (nV os))) l3 (.lst (bV ts))=Hc at *;refine fun x dx hx hdx hne=>?_;have s6:=(J3 (o:=.own x) hdx).trans (J3 (l:=x) (o:=.ins C dx []) (by rw [Ja (Ne.symm hne)];exact hx));refine ⟨x,dx,l1,l2,.ref l3,ls,os,ts,rfl,J1,.inl (s6 _ _ e1),.inl (s6 _ _ e2),D.good,⟨D.len,.inr ⟨l3,rfl,.inl (s6 _ _ e3)⟩⟩,fun H' L kp=>⟨rfl,?_⟩⟩;exact k x H' (fun b u e=>kp _ _ (s6 _ _ (w0 _ _ e)) (J6 (w0 _ _ e) hx)) L
def spLComes:Sp:=fun vs H Q _=>∃ (p:Addr) (ls:List Int) (os:List Nat) (ts:List Bool) (y:Int),vs=[.ref p,.int y]/\DrGood H p ls os ts/\(0<=y/\y < ls.sum)/\∀ H',Same H H'->Q (.int (kL ls os ts y)) H'
theorem kL_eq {ls:List Int} {os:List Nat} {ts:List Bool} (O:Ord ls os) {i:Nat} (hi:i < ls.length) {y:Int} (h1:Jc ls os i<=y) (h2:y < Jc ls os (i + 1)):kL ls os ts y=(ls.take (os.getD i 0)).sum + (if ts.getD (os.getD i 0) false=true then ls.getD (os.getD i 0) 0 - 1 - (y - Jc ls os i) else y - Jc ls os i):=by
 have q:=O.lies hi h1 h2;obtain ⟨m1,m2⟩:=J2e (gs:=firsts ls (List.range ls.length)) (ts:=ts) q;have ins:=O.range.inside m1;have hy:=O.inside q;have b:=J1t (ts:=ts) O;have e:=gL_eq (ts:=ts) O m1;rw [m2] at e;have hj:os.getD i 0 < ls.length:=q.1;have fj:(firsts ls (List.range ls.length)).getD (os.getD i 0) 0=(ls.take (os.getD i 0)).sum:=by
  rw [J16 O hj,J1f _ _ _ (by rw [length_range];lia)]
  congr 1
  refine ext_getElem (by simp) fun k k1 k2=>?_;rw [getElem_map,List.getElem_take,List.getElem_take,getElem_range,getD_eq_getElem?_getD,getElem?_eq_getElem (by simp at k2;lia)];rfl
 have fi:=O.first hi;have:kL ls os ts y=moveN ls ts (os.getD i 0) (y - (firsts ls os).getD (os.getD i 0) 0) (firsts ls (List.range ls.length)):=by
  rw [<- b.kg _ ins.1 ins.2,e]
 rw [this,fi];unfold moveN;rw [fj];split <;> lia
theorem scLComes:FnScope ["drawn","y","lengths","order","turned","at","piece"] ["drawn","y"] (J9 sLComes):=fS
theorem ok_lcomes {f   : Addr} {fd  : FuncData}  (F : Fun K "_law_comes" "_law_comes" sLComes f fd) (T : TxtR mg)
 :
    FnOk P w K mg base CX0 1 f fd ["drawn", "y"] spLComes := by
  refine F.ok scLComes (fun vs H Q E h => ?_) (fun cdv A outer s H vs Q E hr h => ?_)
  · obtain ⟨p, ls, os, ts, y, rfl, _⟩ := h
    rfl
  · obtain ⟨p, ls, os, ts, y, rfl, D, hy, q⟩ := h
    refine ⟨_, (J2 (ps_asg (pv 0) (pg_tup rfl (J17 (Jm (i := 2) scLComes.nd rfl (Or.inl rfl)) (J17 (Jm (i := 3) scLComes.nd rfl (Or.inl rfl)) (J17 (Jm (i := 4) scLComes.nd rfl (Or.inl rfl)) pgs_nil)))))
      (J2 (Je (i := 5) scLComes.nd rfl (Or.inl rfl) J8)
      (J2 (ps_while PassesOwn.never (Jq op_ge (pv 1) (pe_ix Jx (pv 2) (pe_ix Jx (pv 3) (pv 5) (fun _ _ => rfl)) (fun _ _ => rfl)) (Ju _))
        (J2 (Je (i := 1) scLComes.nd rfl (Or.inl rfl) (pe_op J14 (pv 1) (pe_ix Jx (pv 2) (pe_ix Jx (pv 3) (pv 5) (fun _ _ => rfl)) (fun _ _ => rfl))))
        (J7 (Je (i := 5) scLComes.nd rfl (Or.inl rfl) (pe_op J11 (pv 5) J8)))))
      (J2 (Je (i := 6) scLComes.nd rfl (Or.inl rfl) (pe_ix Jx (pv 3) (pv 5) (fun _ _ => rfl)))
      (J2 (J1d (ps_if (J2r (pe_ix Jx (pv 4) (pv 6) (fun _ _ => rfl))) (J7 (Je (i := 1) scLComes.nd rfl (Or.inl rfl) (pe_op J14 (pe_op J14 (pe_ix Jx (pv 2) (pv 6) (fun _ _ => rfl)) J8) (pv 1)))) Js))
      (J7 (Jo (pe_op J11 (Jb (J1v rfl) (by rfl) T.sum boot_sum (J0 (J3d sl_list (pv 2) po_none (po_some (pv 6))) J4)) (pv 1))))))))), ?_⟩
    obtain ⟨dl, ol, dt, d0, d1, d2, d3⟩ := D.at_.ex;have G := D.good;have hts := D.len;have O := G.ord;have hol := O.len;have l1 := G.lo;have hhi := G.hi;have wh := O.whole;refine ⟨_, rfl, p, _, rfl, SqT.of d0, rfl, _, _, rfl, _, _, rfl, _, _, rfl, rfl, ?_⟩;refine ⟨fun m σ Hw => ∃ i : Nat, i < ls.length /\ Jc ls os i <= y /\ m = ls.length - i /\ σ = [some (.ref p), some (.int (y - Jc ls os i)), some (.ref dl), some (.ref ol), some (.ref dt), some (.int (i : Nat)), none] /\ H = Hw, ⟨_, 0, by lia, by rw [Jg]; exact hy.1, rfl, by rw [Jg, Int.sub_zero]; rfl, rfl⟩, ?_⟩;rintro m σ _ ⟨i, hi, ha, rfl, rfl, rfl⟩;have es := Jj ls os i;have hj : os.getD i 0 < ls.length := mem_range.mp (O.perm.mem_iff.mp (J3l (by lia)));refine ⟨_, rfl, _, rfl, _, rfl, _, rfl, ol, _, _, _, rfl, rfl, SqL.of d2, Ji (nV_at (by lia)), dl, _, _, _, rfl, rfl, SqL.of d1, Ji (J1p hj), _, _, rfl, rfl, _, rfl, ?_⟩;by_cases c : y - Jc ls os i >= ls.getD (os.getD i 0) 0
    · refine iteDT c ?_
      refine ⟨_, fun σ' H' h => h, ?_⟩;have hi1 : i + 1 < ls.length := by
        apply Classical.byContradiction;intro k;obtain e : i + 1 = ls.length := by lia
        rw [e, wh] at es;lia
      refine ⟨_, rfl, _, rfl, _, rfl, _, rfl, ol, _, _, _, rfl, rfl, SqL.of d2, Ji (nV_at (by lia)), dl, _, _, _, rfl, rfl, SqL.of d1, Ji (J1p hj), _, _, rfl, rfl, ?_⟩;refine ⟨_, rfl, _, _, rfl, rfl, ls.length - (i + 1), by lia, i + 1, hi1, by lia, rfl, ?_, rfl⟩;rw [es, show (((i + 1 : Nat) : Int)) = (i : Int) + 1 by lia, show y - (Jc ls os i + ls.getD (os.getD i 0) 0) = y - Jc ls os i - ls.getD (os.getD i 0) 0 by lia]; rfl
    refine iteD c ?_;have ke := kL_eq (ts := ts) O hi ha (by lia);refine ⟨_, rfl, _, rfl, ol, _, _, _, rfl, rfl, SqL.of d2, Ji (nV_at (by lia)), ?_⟩;refine ⟨fun σ' H' => σ' = [some (.ref p), some (.int (if ts.getD (os.getD i 0) false = true then ls.getD (os.getD i 0) 0 - 1 - (y - Jc ls os i) else y - Jc ls os i)), some (.ref dl), some (.ref ol), some (.ref dt), some (.int (i : Nat)), some (.int (os.getD i 0 : Nat))] /\ H = H', ?_, ?_⟩
    · refine ⟨_, rfl, _, rfl, dt, _, _, _, rfl, rfl, SqL.of d3, Ji (bV_get (by rw [hts]; exact hj)), _, rfl, ?_⟩
      by_cases ct : ts.getD (os.getD i 0) false = true
      · refine iteBT ct ⟨_, rfl, _, rfl, dl, _, _, _, rfl, rfl, SqL.of d1, Ji (J1p hj), _, _, rfl, rfl, _, rfl, _, _, rfl, rfl, ?_, rfl⟩
        rw [if_pos ct]; rfl
      · refine iteBF ct ⟨?_, rfl⟩
        rw [if_neg ct]; rfl
    rintro σ _ ⟨rfl, rfl⟩;refine ⟨_, rfl, _, rfl, _, rfl, dl, _, rfl, SqL.of d1, fun e he => ?_⟩;rw [cutV_to _ _ (by rw [length_map]; lia)];have s1 := J3 (o := .lst ((iV ls).take (os.getD i 0))) he;have he1 : upd H e (.lst ((iV ls).take (os.getD i 0))) e = some (.lst ((ls.take (os.getD i 0)).map V.int)) := by rw [J1, List.map_take]
    refine ⟨e, _, rfl, .inl (SqL.of he1), _, rfl, _, _, rfl, rfl, ?_⟩;have := q _ s1;rw [ke] at this;exact this
def J12 (ls:List Int) (n:Nat):List Int:=(List.range n).map (Jc ls (List.range ls.length))
def J41:Sp:=fun vs H Q _=>∃ (l:Addr) (ls:List Int),vs=[.ref l]/\H l=some (.lst (iV ls))/\ls.length<=100/\∀ d H',Same H H'->H' d=some (.lst (iV (J12 ls ls.length)))->Q (.ref d) H'
theorem scStarts:FnScope ["lengths","found","total","length"] ["lengths"] (J9 sStarts):=fS
theorem ok_starts {f   : Addr} {fd  : FuncData}  (F : Fun K "_law_starts" "_law_starts" sStarts f fd) 
 :
    FnOk P w K mg base CX0 1 f fd ["lengths"] J41 := by
  refine F.ok scStarts (fun vs H Q E h => ?_) (fun cdv A outer s H vs Q E hr h => ?_)
  · obtain ⟨l, ls, rfl, _⟩ := h
    rfl
  · obtain ⟨l, ls, rfl, hl, hn, k⟩ := h
    refine ⟨_, (J2 (Je (i := 1) scStarts.nd rfl (Or.inl rfl) (J1e J4))
      (J2 (Je (i := 2) scStarts.nd rfl (Or.inl rfl) J8)
      (J2 (J1s PassesOwn.never rfl (J13 (pv 0)) (Jm (i := 3) scStarts.nd rfl (Or.inl rfl))
        (J2 (J2g (pe_bm PySem.F.plainAttrs_list PySem.F.slot_list_append PySem.F.type_list_append J1y (pv 1) (J0 (pv 2) J4)))
        (J7 (Je (i := 2) scStarts.nd rfl (Or.inl rfl) (pe_op J11 (pv 2) (pv 3))))))
      (J7 (Jo (pv 1)))))), ?_⟩
    have sm := Jk (n := 200) (by decide);refine ⟨by show 0 <= sizeLine; exact Nat.zero_le _, fun d hd => ?_⟩;have s0' := J3 (o := .lst []) hd;refine ⟨_, rfl, l, rfl, ⟨_, SqL.of (s0' _ _ hl)⟩, J1k (K := K) (a := l) (xs := iV ls) (fun i σ Hw => ∃ v, σ = [some (.ref l), some (.ref d), some (.int (Jc ls (List.range ls.length) i)), v] /\ Hw d = some (.lst (iV (J12 ls i))) /\ Same H Hw)
      ⟨none, rfl, J1, s0'⟩ (fun i σ Hw _ ⟨_, _, _, s⟩ => SqL.of (s _ _ hl)) (fun i y σ Hw hy pv => ?_) (fun σ Hw ⟨v, e, h, s⟩ => ?_)⟩
    · obtain ⟨v, rfl, hw, s⟩ := pv
      have hi : i < ls.length := by have := (List.getElem?_eq_some_iff.mp hy).1; rwa [length_map] at this
      obtain rfl : V.int (ls.getD i 0) = y := Option.some.inj ((J1p hi).symm.trans hy);have rg : (List.range ls.length).getD i 0 = i := by rw [getD_eq_getElem?_getD, getElem?_range hi]; rfl
      have es : Jc ls (List.range ls.length) (i + 1) = Jc ls (List.range ls.length) i + ls.getD i 0 := by rw [Jj, rg]
      refine ⟨_, rfl, .inl ⟨rfl, _, SqL.of hw⟩, _, rfl, d, _, _, rfl, rfl, hw, (by rw [length_map]; unfold J12; rw [length_map, length_range]; lia), ?_⟩;refine ⟨_, rfl, _, rfl, _, _, rfl, rfl, some (.int (ls.getD i 0)), ?_, ?_, fun b u e => by rw [Ja (J6 e hd)]; exact s _ _ e⟩
      · rw [es]; rfl
      · rw [J1]
        refine congrArg (fun z => some (HO.lst z)) ?_;show (J12 ls i).map V.int ++ [V.int (Jc ls (List.range ls.length) i)] = (J12 ls (i + 1)).map V.int;unfold J12;rw [range_succ, map_append, map_append]; rfl
    · subst e
      rw [length_map] at h;exact ⟨_, rfl, k d Hw s h⟩
def spGoneL:Sp:=fun vs H Q _=>∃ (p:Addr) (ls:List Int) (os:List Nat) (ts:List Bool) (x m:Int),vs=[.ref p,.int x,.int m]/\DrGood H p ls os ts/\(0<=x/\x < ls.sum)/\m.natAbs<=1000/\∀ H',Same H H'->Q (.int (itF (rpF ls os ts m) m.natAbs x)) H'
theorem scGoneL:FnScope ["drawn","x","times","k"] ["drawn","x","times"] (J9 sLGone):=fS
theorem ok_goneL {f fLG9 fLC9 :Addr} {fd fdLG9 fdLC9:FuncData}  (F:Fun K "_law_gone" "_law_gone" sLGone f fd) (T:TxtR mg) (habs:mg "abs"=none)
  (GLG9:FnOk P w K mg base CX0 1 fLG9 fdLG9 ["drawn","x"] spLGoes) (bLG9:Binds K fdLG9 ["drawn","x"] []) (mLG9:mg "_law_goes"=some (.ref fLG9)) (kLG9:keepIn K (.ref fLG9)=true)
  (GLC9:FnOk P w K mg base CX0 1 fLC9 fdLC9 ["drawn","y"] spLComes) (bLC9:Binds K fdLC9 ["drawn","y"] []) (mLC9:mg "_law_comes"=some (.ref fLC9)) (kLC9:keepIn K (.ref fLC9)=true) :
  FnOk P w K mg base CX0 2 f fd ["drawn","x","times"] spGoneL:=by
 refine F.ok scGoneL (fun vs H Q E h=>?_) (fun cdv A outer s H vs Q E hr h=>?_)
 ·obtain ⟨p,ls,os,ts,x,m,rfl,_⟩:=h;rfl
 ·obtain ⟨p,ls,os,ts,x,m,rfl,D,hx,hm,k⟩:=h;have hr1:Room 1 _:=rm hr;refine ⟨_,(J2 (J1s PassesOwn.never rfl (J15 rfl T.range (J0 (Jb J1w (by rfl) habs boot_abs (J0 (pv 2) J4)) J4)) (Jm (i:=3) scGoneL.nd rfl (Or.inl rfl))
    (J7 (ps_if (Jq op_gt (pv 2) J8 (Ju _)) (J7 (Je (i:=1) scGoneL.nd rfl (Or.inl rfl) (Jd GLG9 hr1 rfl mLG9 kLG9 bLG9 .nil pass0 (J0 (pv 0) (J0 (pv 1) J4))))) (J7 (Je (i:=1) scGoneL.nd rfl (Or.inl rfl) (Jd GLC9 hr1 rfl mLC9 kLC9 bLC9 .nil pass0 (J0 (pv 0) (J0 (pv 1) J4))))))))
   (J7 (Jo (pv 1)))),?_⟩
  have na:(if m < 0 then -m else m)=((m.natAbs:Nat):Int):=by split <;> lia
  obtain ⟨f,ef⟩:∃ f,f=rpF ls os ts m:=⟨_,rfl⟩;obtain ⟨fk,bf⟩:∃ fk,Bij ls.sum f fk:=by rw [ef];exact rp_bij D.good.ord m
  rw [<- ef] at k;refine ⟨_,rfl,_,rfl,?_⟩;rw [na];refine ⟨((m.natAbs:Nat):Int),rfl,by lia,by lia,J1z (lo:=0) (n:=m.natAbs) (fun i σ Hw=>∃ v,σ=[some (.ref p),some (.int (itF f i x)),some (.int m),v]/\Same H Hw) ⟨none,rfl,Same.refl _⟩ ?_ ?_⟩
  ·rintro i σ Hw hi ⟨v,rfl,sw⟩;obtain ⟨ki,bi⟩:=J33 bf i;have ix:=bi.inn x hx.1 hx.2;refine ⟨_,rfl,_,_,rfl,rfl,_,rfl,?_⟩;by_cases c:0 < m
   ·refine iteDT c ⟨_,rfl,_,rfl,p,ls,os,ts,itF f i x,rfl,(D.same sw).at_,D.good,D.len,ix,fun H2 s2=>⟨some (.int (0 + (i:Int))),?_,sw.trans s2⟩⟩;have:gL ls os ts (itF f i x)=itF f (i + 1) x:=by rw [ef];show _=rpF ls os ts m _;unfold rpF;rw [if_pos c]
    rw [<- this];rfl
   ·refine iteD c ⟨_,rfl,_,rfl,p,ls,os,ts,itF f i x,rfl,D.same sw,ix,fun H2 s2=>⟨some (.int (0 + (i:Int))),?_,sw.trans s2⟩⟩;have:kL ls os ts (itF f i x)=itF f (i + 1) x:=by rw [ef];show _=rpF ls os ts m _;unfold rpF;rw [if_neg c]
    rw [<- this];rfl
  ·rintro σ Hw ⟨v,rfl,sw⟩;exact ⟨_,rfl,k Hw sw⟩
end
end R49
namespace R49
open PySem L2 Rl
section
structure TxtI (K:PySem.W.Frag) (C:Addr):Prop where
 ha:findIn K (.ref C) "__class__"=some (some (.builtin "object.__class__"))
 hn:specialIn K (.builtin "object.__class__") "__get__"=some (some (.builtin "getset_descriptor.__get__"))
 ht:takesIn K (.builtin "object.__class__")=some true
 hm:mroIn K C (.type "object")=some true
theorem TxtI.ty {K:PySem.W.Frag} {C:Addr} (I:TxtI K C) (cl:Cls K C) {H:Hp} {a dx:Addr} {fs:List (Str × V)} (e:H a=some (.ins C dx fs)):TyOf K H (.ref a) (.ref C):=.ins e cl I.ha I.hn I.ht I.hm
end
section
variable {P:Program} {w:World} {K:PySem.W.Frag} {mg:Str->Option Value} {base:Heap}
theorem cutV_from9 (xs:List V) (n:Nat) (h:n<=xs.length):cutV xs (some (n:Int)) none=xs.drop n:=by
 unfold cutV;rw [HT.sIx_nat,HT.sIx_none,Nat.min_eq_left h,take_of_length_le (by simp)]
theorem J2x (ls:List Int) (h:1<=ls.length):cutV (iV (J12 ls ls.length)) (some 1) none=iV ((List.range (ls.length - 1)).map fun j=>Jc ls (List.range ls.length) (j + 1)):=by
 have e:J12 ls ls.length=0 :: (List.range (ls.length - 1)).map fun j=>Jc ls (List.range ls.length) (j + 1):=by
  unfold J12;obtain ⟨n,e⟩:∃ n,ls.length=n + 1:=⟨ls.length - 1,by lia⟩;rw [e,List.range_succ_eq_map,map_cons,map_map,Jg];rfl
 have:=cutV_from9 (iV (J12 ls ls.length)) 1 (by rw [length_map];unfold J12;rw [length_map,length_range];exact h);rw [show ((1:Nat):Int)=1 from rfl] at this;rw [this,e];rfl
theorem J3q (a b:Int):((if a - b < 0 then -(a - b) else a - b)=1)↔near a b:=by
 unfold near;split <;> lia
theorem J1x {D:List Int} {x:Int}:∃ D':List Int,putK (D.map fun c=>((Sum.inl c:Key),V.bl true)) (Sum.inl x) (V.bl true)=D'.map (fun c=>((Sum.inl c:Key),V.bl true))/\(D.Nodup->D'.Nodup)/\(∀ y,y∈D'↔y∈D\/y=x)/\D'.length<=D.length + 1:=by
 have ha:((D.map fun c=>((Sum.inl c:Key),V.bl true)).any fun kv=>decide (kv.1=Sum.inl x))=decide (x∈D):=by
  rw [Bool.eq_iff_iff,List.any_eq_true,decide_eq_true_iff];constructor
  ·rintro ⟨kv,hm,e⟩;obtain ⟨c,hc,rfl⟩:=mem_map.mp hm;have e:=of_decide_eq_true e;have e:(Sum.inl c:Key)=Sum.inl x:=e;cases e;exact hc
  ·intro h;exact ⟨(Sum.inl x,V.bl true),mem_map.mpr ⟨x,h,rfl⟩,decide_eq_true rfl⟩
 unfold putK;rw [ha];by_cases c:x∈D
 ·rw [if_pos (decide_eq_true c)];refine ⟨D,?_,fun h=>h,fun y=>⟨.inl,?_⟩,by lia⟩
  ·rw [map_map];refine List.map_congr_left fun a _=>?_;show (if (Sum.inl a:Key)=Sum.inl x then ((Sum.inl a:Key),V.bl true) else (Sum.inl a,V.bl true))=_;split <;> rfl
  ·rintro (h | rfl)
   ·exact h
   ·exact c
 ·rw [if_neg (by rw [decide_eq_true_iff];exact c)];refine ⟨D ++ [x],by rw [map_append];rfl,fun h=>?_,fun y=>by rw [mem_append,mem_singleton],by rw [length_append];simp⟩;rw [List.nodup_append];refine ⟨h,by simp,fun a ha b hb=>?_⟩;rw [mem_singleton.mp hb];intro e;exact c (e ▸ ha)
abbrev kT (D:List Int):List (Key × V):=D.map fun c=>((Sum.inl c:Key),V.bl true)
theorem inV_ints (m:Int) (xs:List Int):inV (V.int m) (iV xs)=decide (m∈xs):=by
 unfold inV;rw [Bool.eq_iff_iff,List.any_eq_true,decide_eq_true_iff];constructor
 ·rintro ⟨y,hy,e⟩;obtain ⟨i,hi,rfl⟩:=mem_map.mp hy;have e':(i == m)=true:=e;exact eq_of_beq e' ▸ hi
 ·intro h;exact ⟨V.int m,mem_map.mpr ⟨m,h,rfl⟩,(beq_self_eq_true _:(m == m)=true)⟩
theorem flat_iV (xs:List Int):(iV xs).all flatV=true:=by
 rw [all_eq_true];intro y hy;obtain ⟨i,_,rfl⟩:=mem_map.mp hy;rfl
theorem kT_keys (D:List Int):(kT D).map (·.1)=D.map Sum.inl:=by rw [map_map];rfl
structure PlainF (ls:List Int) (os:List Nat) (ts:List Bool) (g:Int->Int):Prop where
 one:∀ j,j < ls.length->ls.getD j 0=1->ts.getD j false=false
 go:∀ x,0<=x->x < ls.sum->gL ls os ts x=g x
 cut:∀ m,0 < m->m < ls.sum->(m∈J12 ls ls.length↔¬ near (g m) (g (m - 1)))
theorem repS_tus {g:Int->Int}:∀ {S:List Sr} {a b:Int},RepS g a S b->∀ s∈S,s.tu=true->1 < s.le
 | [],_,_,_,s,h=>by cases h
 | t :: r,a,b,⟨h1,_,h3⟩,s,h=>by
  rcases mem_cons.mp h with rfl | h
  ·exact h1.tu
  ·exact repS_tus h3 s h
theorem plG_plainF {g k:Int->Int} {N:Int} {ls:List Int} {os:List Nat} {ts:List Bool} (h:PlG g N ls os ts) (b:Bij N g k):PlainF ls os ts g:=by
 have O:=h.ord;have go:=h.goes b;have sm:=h.sum;obtain ⟨L,R,e1,e2,P⟩:=h.ex;have ow:=R.own b.inj b.inn P.perm P.srt;rw [<- e1,<- e2] at ow;have hl:ls.length=L.length:=by rw [e1,length_map]
 refine ⟨fun j hj e=>?_,fun x x0 x1=>go x x0 (by lia),fun m m0 m1=>?_⟩
 ·have hj':j < L.length:=by lia
  have a1:ls.getD j 0=L[j].le:=by rw [e1,getD_eq_getElem?_getD,getElem?_map,getElem?_eq_getElem hj'];rfl
  have a2:ts.getD j false=L[j].tu:=by rw [e2,getD_eq_getElem?_getD,getElem?_map,getElem?_eq_getElem hj'];rfl
  rw [a2]
  cases c:L[j].tu with
  | false=>rfl
  | true=>have:=repS_tus R _ (getElem_mem hj') c;lia
 ·rw [<- R.cuts m m0 (by lia),<- ow];unfold bndS J12 srsL;rw [mem_map];constructor
  ·rintro ⟨j,hj,e⟩;have hj:=mem_range.mp hj;have j1:1<=j:=by
    rcases Nat.eq_zero_or_pos j with z | z
    ·rw [z,Jg] at e;lia
    ·exact z
   refine mem_map.mpr ⟨srO ls os ts j,mem_of_getElem? (i:=j - 1) ?_,(J16 O hj).trans e⟩;rw [List.getElem?_drop,show 1 + (j - 1)=j by lia,getElem?_map,getElem?_range hj];rfl
  ·intro hm;obtain ⟨q,hq,e⟩:=mem_map.mp hm;obtain ⟨j,hj,rfl⟩:=mem_map.mp (List.mem_of_mem_drop hq);have hj:=mem_range.mp hj;exact ⟨j,mem_range.mpr hj,(J16 O hj).symm.trans e⟩
def spPlainF (P:Program) (w:World) (K:PySem.W.Frag) (mg:Str->Option Value) (base:Heap) (C:Addr):Sp:=fun vs H Q _=>∃ (x fa c:Addr) (cs ls:List Int) (os:List Nat) (ts:List Bool) (g:Int->Int) (I0:Hp->Prop) (sp:V->Hp->VK->Prop),
 vs=[.ref x,.int ls.sum,.ref fa,.ref c]/\LineAt C H x ls os ts/\Good ls os/\ts.length=ls.length/\H c=some (.lst (iV cs))/\cs.length<=100/\GoOk P w K mg base 3 fa I0 sp/\(∀ H',Same H H'->I0 H')/\
 (∀ H' y Q',Same H H'->0<=y->y < ls.sum->(∀ H2,Same H' H2->Q' (.int (g y)) H2)->sp (.int y) H' Q')/\(∀ m∈cs,0 < m/\m < ls.sum)/\PlainF ls os ts g/\∀ H',Same H H'->Q (.bl true) H'
theorem scLPlain:FnScope ["line","size","going","cuts","told","k","starts","spots","cut","x"] ["line","size","going","cuts"] (J9 sLPlain):=fS
theorem ok_plainF {f fSt fLG9 C:Addr} {fd fdSt fdLG9:FuncData}  (F:Fun K "_law_plain" "_law_plain" sLPlain f fd) (T:TxtR mg) (TC:TxtC K mg C) (TI:TxtI K C) (habs:mg "abs"=none) (hisi:mg "isinstance"=none) (mgL:mg "Line"=some (.ref C)) (ktL:kitOne K (.ref C) (.ref C)=some true)
  (GSt:FnOk P w K mg base CX0 1 fSt fdSt ["lengths"] J41) (bSt:Binds K fdSt ["lengths"] []) (mSt:mg "_law_starts"=some (.ref fSt)) (kSt:keepIn K (.ref fSt)=true)
  (GLG9:FnOk P w K mg base CX0 1 fLG9 fdLG9 ["drawn","x"] spLGoes) (bLG9:Binds K fdLG9 ["drawn","x"] []) (mLG9:mg "_law_goes"=some (.ref fLG9)) (kLG9:keepIn K (.ref fLG9)=true) :
  FnOk P w K mg base CX0 4 f fd ["line","size","going","cuts"] (spPlainF P w K mg base C):=by
 refine F.ok scLPlain (fun vs H Q E h=>?_) (fun cdv A outer s H vs Q E hr h=>?_)
 ·obtain ⟨x,fa,c,cs,ls,os,ts,g,I0,sp,rfl,_⟩:=h;rfl
 ·obtain ⟨x,fa,c,cs,ls,os,ts,g,I0,sp,rfl,L,G,tl,hc,cl,GO,i0,hsp,cin,PF,k⟩:=h;have hr1:Room 1 _:=rm hr;have hu1:=hu_of hr;have hr2:Room 3 _:=rm hr;refine ⟨_,(J2 (ps_if (PW.pt (pw_or (pt_not (J2r (Jb (J35 rfl) (by rfl) hisi boot_isinstance (J0 (pv 0) (J0 (J3t (v:=.ref C) rfl mgL rfl) J4))))) (pw_or1 (Jq op_ne (Jl (pv 0) rfl) (pv 1) (Ju _))))) (J7 (Jo pe_bl)) Js)
   (J2 (J1d (Je (i:=4) scLPlain.nd rfl (Or.inl rfl) (pe_tup (J0 (Jh Jn (by rfl) T.list boot_list (J0 (Jl (pv 0) rfl) J4)) (J0 (Jh Jn (by rfl) T.list boot_list (J0 (Jl (pv 0) rfl) J4)) (J0 (Jh Jn (by rfl) T.list boot_list (J0 (Jl (pv 0) rfl) J4)) J4))))))
   (J2 (J1s PassesOwn.never rfl (J15 rfl T.range (J0 (Jb Jf (by rfl) T.len boot_len (J0 (pe_ix J24 (pv 4) J8 (fun _ _=>rfl)) J4)) J4)) (Jm (i:=5) scLPlain.nd rfl (Or.inl rfl))
    (J7 (ps_if (PW.pt (pw_and (J2r (pe_ix Jx (pe_ix J24 (pv 4) J8 (fun _ _=>rfl)) (pv 5) (fun _ _=>rfl))) (pw_and1 (Jq op_eq (pe_ix Jx (pe_ix J24 (pv 4) J8 (fun _ _=>rfl)) (pv 5) (fun _ _=>rfl)) J8 (Ju _))))) (J7 (Jo pe_bl)) Js)))
   (J2 (Je (i:=6) scLPlain.nd rfl (Or.inl rfl) (Jd GSt hr1 rfl mSt kSt bSt .nil pass0 (J0 (pe_ix J24 (pv 4) J8 (fun _ _=>rfl)) J4)))
   (J2 (J1d (Je (i:=7) scLPlain.nd rfl (Or.inl rfl) (pe_disp (pps_cons J8 pe_bl (pps_cons (pe_op J14 (pv 1) J8) pe_bl pps_nil)) rfl rfl (by simp) (by decide))))
   (J2 (J1s PassesOwn.never rfl (J13 (pe_op J2u (pv 3) (J3d sl_list (pv 6) (po_some J8) po_none))) (Jm (i:=8) scLPlain.nd rfl (Or.inl rfl))
    (J2 (ps_dput hu1 (pv 7) (pe_op J14 (pv 8) J8) pe_bl rfl)
    (J2 (ps_dput hu1 (pv 7) (pv 8) pe_bl rfl)
    (J7 (ps_if (Jq op_eq (J1q op_eq (Jb J1w (by rfl) habs boot_abs (J0 (pe_op J14 (J3e (i:=2) hr2 rfl (Or.inl rfl) (J0 (pv 8) J4)) (J3e (i:=2) hr2 rfl (Or.inl rfl) (J0 (pe_op J14 (pv 8) J8) J4))) J4)) J8 (Ju _)) (J1q op_in_seq (pv 8) (pv 6) rfl) (Ju _)) (J7 (Jo pe_bl)) Js)))))
   (J2 (J1s PassesOwn.never rfl (pi_dict (pv 7)) (Jm (i:=9) scLPlain.nd rfl (Or.inl rfl))
    (J7 (ps_if (Jq op_ne (Jd GLG9 hr1 rfl mLG9 kLG9 bLG9 .nil pass0 (J0 (pv 4) (J0 (pv 9) J4))) (J3e (i:=2) hr2 rfl (Or.inl rfl) (J0 (pv 9) J4)) (Ju _)) (J7 (Jo pe_bl)) Js)))
   (J7 (Jo pe_bl))))))))),?_⟩
  obtain ⟨dx,fl,pl,po,pt,ps,pd,h0,⟨k1,k2,k3,k4,k5,k6⟩,e1,e2,e3,e4,e5⟩:=L.ex;have O:=G.ord;have sm:=Jk (n:=1000) (by decide);have lo1:=G.lo;have hi24:=G.hi;have pS:=G.pos_sum;have ll:(iV ls).length=ls.length:=length_map ..;refine ⟨_,rfl,.ref x,.ref C,.ref C,.ref C,true,rfl,rfl,fun v h=>h,TI.ty TC.cl h0,ktL,true,rfl,iteF ?_⟩;refine ⟨_,rfl,x,C,dx,fl,_,rfl,h0,TC.cl,TC.nZ,k6,_,rfl,rfl,_,rfl,iteNS rfl ?_⟩;refine ⟨fun σ' H'=>∃ tp,σ'=[some (.ref x),some (.int ls.sum),some (.ref fa),some (.ref c),some (.ref tp),none,none,none,none,none]/\DrawnAt H' tp ls os ts/\Same H H',?_,?_⟩
  ·refine ⟨_,rfl,x,C,dx,fl,_,rfl,h0,TC.cl,TC.nL,k1,pl,_,rfl,.inr (SqT.of e1),fun d1 hd1=>?_⟩;have s1:=J3 (o:=.lst (iV ls)) hd1;refine ⟨_,rfl,x,C,dx,fl,_,rfl,s1 _ _ h0,TC.cl,TC.nO,k2,po,_,rfl,.inr (SqT.of (s1 _ _ e2)),fun d2 hd2=>?_⟩;have s2:=s1.trans (J3 (o:=.lst (nV os)) hd2);refine ⟨_,rfl,x,C,dx,fl,_,rfl,s2 _ _ h0,TC.cl,TC.nT,k3,pt,_,rfl,.inr (SqT.of (s2 _ _ e3)),fun d3 hd3=>⟨by show 3<=sizeLine;lia,fun tp htp=>?_⟩⟩;have u2:=J3 (o:=.lst (nV os)) hd2;have u3:=J3 (o:=.lst (bV ts)) hd3;have u4:=J3 (o:=.tup [.ref d1,.ref d2,.ref d3]) htp;exact ⟨tp,rfl,⟨d1,d2,d3,J1,u4 _ _ (u3 _ _ (u2 _ _ J1)),u4 _ _ (u3 _ _ J1),u4 _ _ J1⟩,s2.trans (u3.trans u4)⟩
  rintro σ H1 ⟨tp,rfl,D,s1⟩;obtain ⟨dl,dn,dt,d0,d1,d2,d3⟩:=D.ex;refine ⟨_,rfl,tp,_,_,_,rfl,rfl,SqT.of d0,Ji (j:=0) rfl,dl,_,rfl,.inl (SqL.of d1),(ls.length:Int),by rw [ll],by lia,by lia,J1z (lo:=0) (n:=ls.length) (fun i σ H2=>∃ v,σ=[some (.ref x),some (.int ls.sum),some (.ref fa),some (.ref c),some (.ref tp),v,none,none,none,none]/\H1=H2) ⟨none,rfl,rfl⟩ ?_ ?_⟩
  ·rintro i σ _ hi ⟨v,rfl,rfl⟩;rw [Int.zero_add];refine ⟨_,rfl,tp,_,_,_,rfl,rfl,SqT.of d0,Ji (j:=2) rfl,_,rfl,dt,_,_,_,rfl,rfl,SqL.of d3,Ji (bV_get (by rw [tl];exact hi)),_,rfl,?_⟩;by_cases t:ts.getD i false=true
   ·refine iteBT t ⟨_,rfl,tp,_,_,_,rfl,rfl,SqT.of d0,Ji (j:=0) rfl,_,rfl,dl,_,_,_,rfl,rfl,SqL.of d1,Ji (J1p hi),rfl,_,rfl,iteD (vint_ne fun z=>?_) ⟨_,rfl,rfl⟩⟩;have:=PF.one i hi z;rw [t] at this;cases this
   ·exact iteBF t (iteF ⟨_,rfl,rfl⟩)
  rintro σ _ ⟨v5,rfl,rfl⟩;refine ⟨_,rfl,tp,_,_,_,rfl,rfl,SqT.of d0,Ji (j:=0) rfl,dl,ls,rfl,d1,by lia,fun st H2 s2 hst=>?_⟩;have s02:=s1.trans s2;refine ⟨fun σ' H'=>∃ sd D,σ'=[some (.ref x),some (.int ls.sum),some (.ref fa),some (.ref c),some (.ref tp),v5,some (.ref st),some (.ref sd),none,none]/\H' sd=some (.dK (kT D))/\H2 sd=none/\(∀ y∈D,0<=y/\y < ls.sum)/\D.length<=2/\Same H2 H',?_,?_⟩
  ·intro sd hsd;obtain ⟨D1,a1,_,a2,a3⟩:=J1x (D:=[]) (x:=0);obtain ⟨D2,b1,_,b2,b3⟩:=J1x (D:=D1) (x:=ls.sum - 1);have e:mergeK [] [((Sum.inl 0:Key),V.bl true),(Sum.inl (ls.sum - 1),V.bl true)]=kT D2:=by
    have e1:putK [] (Sum.inl 0) (V.bl true)=kT D1:=a1;have e2:putK (kT D1) (Sum.inl (ls.sum - 1)) (V.bl true)=kT D2:=b1;show putK (putK [] (Sum.inl 0) (V.bl true)) (Sum.inl (ls.sum - 1)) (V.bl true)=_;rw [e1,e2]
   refine ⟨_,rfl,_,_,rfl,rfl,J1,[(Sum.inl 0,.bl true),(Sum.inl (ls.sum - 1),.bl true)],rfl,(by show 2<=15;decide),?_⟩;refine ⟨sd,D2,rfl,by rw [J1,e],hsd,fun y hy=>?_,by rw [length_nil] at a3;lia,fun b u e=>by rw [Ja (J6 e hsd),Ja (J6 e hsd)];exact e⟩;rcases (b2 y).mp hy with h | h
   ·rcases (a2 y).mp h with h | h
    ·cases h
    ·lia
   ·lia
  rintro σ H3 ⟨sd,D0,rfl,hsd,nsd,Din,Dl,s3⟩;have s03:=s02.trans s3;refine ⟨_,rfl,_,rfl,_,rfl,st,_,rfl,SqL.of (s3 _ _ hst),fun dd hdd=>?_⟩;rw [J2x ls lo1];obtain ⟨zs,ezs⟩:∃ zs,zs=(List.range (ls.length - 1)).map fun j=>Jc ls (List.range ls.length) (j + 1):=⟨_,rfl⟩;rw [<- ezs];have zl:zs.length<=24:=by rw [ezs,length_map,length_range];lia
  have zin:∀ m∈cs ++ zs,0 < m/\m < ls.sum:=fun m hm=>by
   rcases mem_append.mp hm with hm | hm
   ·exact cin m hm
   ·rw [ezs] at hm;obtain ⟨j,hj,rfl⟩:=mem_map.mp hm;have hj:=mem_range.mp hj;exact start_in O (by lia) (by lia)
  have u4:=J3 (o:=.lst (iV zs)) hdd;refine ⟨c,dd,_,_,rfl,rfl,u4 _ _ (s03 _ _ hc),J1,(by rw [length_map,length_map];lia),fun ee hee=>?_⟩;have u5:=J3 (o:=.lst (iV cs ++ iV zs)) hee;obtain ⟨H5,e5⟩:∃ H5,H5=upd (upd H3 dd (.lst (iV zs))) ee (.lst (iV cs ++ iV zs)):=⟨_,rfl⟩;have s35:Same H3 H5:=by rw [e5];exact u4.trans u5
  have h5:H5 ee=some (.lst (iV (cs ++ zs))):=by rw [e5,J1];exact congrArg (fun z=>some (HO.lst z)) (map_append ..).symm
  have hst5:H5 st=some (.lst (iV (J12 ls ls.length))):=s35 _ _ (s3 _ _ hst);have nst:st≠sd:=J6 hst nsd;have hsd5:=s35 _ _ hsd;have nee:ee≠sd:=fun z=>by rw [z,hsd5] at h5;cases h5
  rw [<- e5];clear e5 u4 u5 hdd hee;have s05:=s03.trans s35;have s15:=(s2.trans s3).trans s35;have fsd:H sd=none:=s02.free nsd;have fsd1:H1 sd=none:=s2.free nsd;refine ⟨ee,rfl,⟨_,SqL.of h5⟩,J1k (K:=K) (a:=ee) (xs:=iV (cs ++ zs)) (fun i σ Hw=>∃ v8 D,σ=[some (.ref x),some (.int ls.sum),some (.ref fa),some (.ref c),some (.ref tp),v5,some (.ref st),some (.ref sd),v8,none]/\Hw sd=some (.dK (kT D))/\(∀ y∈D,0<=y/\y < ls.sum)/\D.length<=2 + 2 * i/\KeepX sd H5 Hw) ⟨none,D0,rfl,hsd5,Din,by lia,KeepX.of (Same.refl _)⟩ (fun i σ Hw _ ⟨_,_,_,_,_,_,kx⟩=>SqL.of (kx _ _ h5 nee)) ?_ ?_⟩
  ·rintro i y σ Hw hy ⟨v8,D',rfl,hw,Din',Dl',kx⟩;have hil:i < cs.length + zs.length:=by have:=(List.getElem?_eq_some_iff.mp hy).1;rwa [length_map,length_append] at this
   obtain ⟨m,hm,rfl⟩:=mem_map.mp (mem_of_getElem? hy);obtain ⟨m0,m1⟩:=zin m hm;obtain ⟨D1,a1,_,a2,a3⟩:=J1x (D:=D') (x:=m - 1);obtain ⟨D2,b1,_,b2,b3⟩:=J1x (D:=D1) (x:=m);refine ⟨_,rfl,_,rfl,_,_,rfl,rfl,sd,_,rfl,DPut.k (k:=Sum.inl (m - 1)) hw (by rw [length_map];lia),?_⟩;rw [a1];refine ⟨_,rfl,_,rfl,sd,_,rfl,DPut.k (k:=Sum.inl m) J1 (by rw [length_map];lia),?_⟩;rw [b1];obtain ⟨H7,e7⟩:∃ H7,H7=upd (upd Hw sd (.dK (kT D1))) sd (.dK (kT D2)):=⟨_,rfl⟩;have kx7:KeepX sd H5 H7:=by rw [e7];exact kx.trans (KeepX.upd.trans KeepX.upd)
   have hw7:H7 sd=some (.dK (kT D2)):=by rw [e7];exact J1
   rw [<- e7];clear e7;have sH:Same H H7:=fun b u e=>kx7 _ _ (s05 _ _ e) (J6 e fsd);have hst7:=kx7 _ _ hst5 nst;refine ⟨_,rfl,fa,rfl,_,rfl,_,I0,sp,rfl,GO,i0 _ sH,hsp _ m _ sH (by lia) m1 fun H8 s8=>?_⟩;refine ⟨_,rfl,fa,rfl,_,rfl,_,_,rfl,rfl,_,I0,sp,rfl,GO,i0 _ (sH.trans s8),hsp _ (m - 1) _ (sH.trans s8) (by lia) (by lia) fun H9 s9=>?_⟩;have s79:=s8.trans s9;have ct:=PF.cut m m0 m1;refine ⟨_,_,rfl,rfl,_,rfl,rfl,_,rfl,_,rfl,st,_,rfl,.inl (SqL.of (s79 _ _ hst7)),rfl,flat_iV _,rfl,_,rfl,?_⟩;rw [inV_ints];refine iteD (fun z=>?_) ⟨_,D2,rfl,s79 _ _ hw7,fun y hy=>?_,by lia,kx7.trans (KeepX.of s79)⟩
   ·have z:=V.bl.inj z;have z1:(if g m - g (m - 1) < 0 then -(g m - g (m - 1)) else g m - g (m - 1))=1↔m∈J12 ls ls.length:=by
     rw [<- decide_eq_true_iff (p:=m∈J12 ls ls.length)];have z2:decide (V.int (if g m - g (m - 1) < 0 then -(g m - g (m - 1)) else g m - g (m - 1))=V.int 1)=decide (m∈J12 ls ls.length):=z;rw [<- z2,decide_eq_true_iff];exact ⟨fun e=>congrArg V.int e,fun e=>V.int.inj e⟩
    rw [J3q,ct] at z1;by_cases nn:near (g m) (g (m - 1))
    ·exact (z1.mp nn) nn
    ·exact nn (z1.mpr nn)
   ·rcases (b2 y).mp hy with h | h
    ·rcases (a2 y).mp h with h | h
     ·exact Din' y h
     ·lia
    ·lia
  ·rintro σ Hw ⟨v8,D',rfl,hw,Din',Dl',kx⟩;refine ⟨_,rfl,sd,kT D',D',rfl,hw,kT_keys D',fun o=>for_dict (fun i σ H2=>∃ v9,σ=[some (.ref x),some (.int ls.sum),some (.ref fa),some (.ref c),some (.ref tp),v5,some (.ref st),some (.ref sd),v8,v9]/\Same (upd Hw sd (.frz o (.dK (kT D')))) H2) ⟨none,rfl,Same.refl _⟩ (fun i σ H2 _ h9=>by obtain ⟨_,_,e⟩:=h9;exact e _ _ J1) ?_ ?_⟩
   ·rintro i σ H6 hi ⟨v9,rfl,s6⟩;have yin:=Din' (D'.getD i 0) (by rw [getD_eq_getElem?_getD,getElem?_eq_getElem hi];exact getElem_mem hi);generalize D'.getD i 0=y at yin ⊢;have sH:Same H H6:=fun b u e=>s6 _ _ (by rw [Ja (J6 e fsd)];exact kx _ _ (s05 _ _ e) (J6 e fsd));have sH1:Same H1 H6:=fun b u e=>s6 _ _ (by rw [Ja (J6 e fsd1)];exact kx _ _ (s15 _ _ e) (J6 e fsd1));refine ⟨_,rfl,_,rfl,tp,ls,os,ts,y,rfl,D.same sH1,G,tl,yin,fun H8 s8=>?_⟩;refine ⟨_,rfl,fa,rfl,_,rfl,_,I0,sp,rfl,GO,i0 _ (sH.trans s8),hsp _ y _ (sH.trans s8) yin.1 yin.2 fun H9 s9=>⟨rfl,_,rfl,iteNS (congrArg V.int (PF.go y yin.1 yin.2)) ?_⟩⟩;exact ⟨_,rfl,s6.trans (s8.trans s9)⟩
   ·rintro σ H6 ⟨v9,rfl,s6⟩;exact k _ fun b u e=>s6 _ _ (by rw [Ja (J6 e fsd)];exact kx _ _ (s05 _ _ e) (J6 e fsd))
def spAllC:Sp:=fun vs H Q _=>∃ (p:Addr) (ls:List Int) (os:List Nat) (ts:List Bool) (m:Int),vs=[.ref p,.int m]/\DrGood H p ls os ts/\m.natAbs<=1000/\m.natAbs * (ls.length - 1)<=62/\
 ∀ cu cs H',Same H H'->H' cu=some (.lst (iV cs))->cs.Nodup->cs.length<=62->(∀ c∈cs,0 < c/\c < ls.sum)->(∀ c,0 < c->c < ls.sum->¬ near (itF (rpF ls os ts m) m.natAbs c) (itF (rpF ls os ts m) m.natAbs (c - 1))->c∈cs)->Q (.ref cu) H'
theorem laid_ord {ls:List Int} {os:List Nat} (O:Ord ls os):Ord (os.map fun j=>ls.getD j 0) (List.range (os.map fun j=>ls.getD j 0).length)/\(os.map fun j=>ls.getD j 0).sum=ls.sum:=by
 refine ⟨⟨fun a ha=>?_,List.Perm.refl _⟩,?_⟩
 ·obtain ⟨j,hj,rfl⟩:=mem_map.mp ha;exact O.one (mem_range.mp (O.perm.mem_iff.mp hj))
 ·have h:=J1f ls os os.length (Nat.le_refl _);rw [take_length] at h;rw [<- h,<- O.whole,O.len]
theorem rp_back {ls:List Int} {os:List Nat} {ts:List Bool} (O:Ord ls os) (m:Int):Bij ls.sum (rpF ls os ts m) (rpF ls os ts (1 - 2 * (if decide (0 < m)=true then 1 else 0))):=by
 by_cases c:0 < m
 ·rw [if_pos (decide_eq_true c)];unfold rpF;rw [if_pos c,if_neg (by decide)];exact J1t O
 ·rw [if_neg (by rw [decide_eq_true_iff];exact c)];unfold rpF;rw [if_neg c,if_pos (by decide)];exact (J1t O).symm
theorem scAllC:FnScope ["drawn","times","lengths","told","start","one","two","k"] ["drawn","times"] (J9 J47):=fS
theorem ok_allC {f fSt fGn :Addr} {fd fdSt fdGn:FuncData}  (F:Fun K "_law_all_cuts" "_law_all_cuts" J47 f fd) (T:TxtR mg) (hmax:mg "max"=none) (habs:mg "abs"=none) (hint:mg "int"=none)
  (GSt:FnOk P w K mg base CX0 1 fSt fdSt ["lengths"] J41) (bSt:Binds K fdSt ["lengths"] []) (mSt:mg "_law_starts"=some (.ref fSt)) (kSt:keepIn K (.ref fSt)=true)
  (GGn:FnOk P w K mg base CX0 2 fGn fdGn ["drawn","x","times"] spGoneL) (bGn:Binds K fdGn ["drawn","x","times"] []) (mGn:mg "_law_gone"=some (.ref fGn)) (kGn:keepIn K (.ref fGn)=true) :
  FnOk P w K mg base CX0 3 f fd ["drawn","times"] spAllC:=by
 refine F.ok scAllC (fun vs H Q E h=>?_) (fun cdv A outer s H vs Q E hr h=>?_)
 ·obtain ⟨p,ls,os,ts,m,rfl,_⟩:=h;rfl
 ·obtain ⟨p,ls,os,ts,m,rfl,D,h1000,h62,k⟩:=h;have hr1:Room 1 _:=rm hr;have hr2:Room 2 _:=rm hr;have hu1:=hu_of hr;refine ⟨_,(J2 (Je (i:=2) scAllC.nd rfl (Or.inl rfl) (pe_ix J24 (pv 0) J8 (fun _ _=>rfl)))
   (J2 (J1d (ps_if (Jq op_lt (pv 1) J8 (Ju _)) (J7 (ps_lc (i:=2) (caps:=["drawn"]) (js:=[0]) scAllC.nd rfl (Or.inl rfl) rfl (J13 (pe_ix J24 (pv 0) J8 (fun _ _=>rfl))) rfl (fun _ _ _ _=>J1h) (fun C fp s H=>(J2t (J25 K) (J2t (ix_tupK K) (pv 1) J8) (pv 0))) (by decide +kernel) (by decide +kernel) (by decide +kernel) (by intro p hp;simp only [mem_cons,not_mem_nil,or_false] at hp;rcases hp with rfl;rfl))) Js))
   (J2 (Je (i:=3) scAllC.nd rfl (Or.inl rfl) pe_dnewK)
   (J2 (J1s PassesOwn.never rfl (J13 (J3d sl_list (Jd GSt hr1 rfl mSt kSt bSt .nil pass0 (J0 (pv 2) J4)) (po_some J8) po_none)) (Jm (i:=4) scAllC.nd rfl (Or.inl rfl))
    (J2 (Je (i:=5) scAllC.nd rfl (Or.inl rfl) (pe_op J14 (pv 4) J8))
    (J2 (Je (i:=6) scAllC.nd rfl (Or.inl rfl) (pv 4))
    (J7 (J1s PassesOwn.never rfl (J15 rfl T.range (J0 (Jb J1w (by rfl) habs boot_abs (J0 (pv 1) J4)) J4)) (Jm (i:=7) scAllC.nd rfl (Or.inl rfl))
     (J2 (J1d (ps_if (Jq op_eq (Jb J1w (by rfl) habs boot_abs (J0 (pe_op J14 (pv 5) (pv 6)) J4)) J8 (Ju _)) (J7 (ps_dput hu1 (pv 3) (Jb (call_max2 rfl) (by rfl) hmax boot_max (J0 (pv 5) (J0 (pv 6) J4))) pe_bl rfl)) Js))
     (J2 (Je (i:=5) scAllC.nd rfl (Or.inl rfl) (Jd GGn hr2 rfl mGn kGn bGn .nil pass0 (J0 (pv 0) (J0 (pv 5) (J0 (pe_op J14 J8 (pe_op op_mul J8 (Jh call_int1 (by rfl) hint boot_int (J0 (J1q op_gt (pv 1) J8 (Ju _)) J4)))) J4)))))
     (J7 (Je (i:=6) scAllC.nd rfl (Or.inl rfl) (Jd GGn hr2 rfl mGn kGn bGn .nil pass0 (J0 (pv 0) (J0 (pv 6) (J0 (pe_op J14 J8 (pe_op op_mul J8 (Jh call_int1 (by rfl) hint boot_int (J0 (J1q op_gt (pv 1) J8 (Ju _)) J4)))) J4)))))))))))))
   (J7 (Jo (pe_lkeys rfl rfl T.list (pv 3)))))))),?_⟩
  obtain ⟨dl,ol,dt,d0,d1,d2,d3⟩:=D.at_.ex;have G:=D.good;have O:=G.ord;have oln:=O.len;have lo1:=G.lo;have hi1:=G.hi;have sm:=Jk (n:=300) (by decide);have na:(if m < 0 then -m else m)=((m.natAbs:Nat):Int):=by split <;> lia
  have bb:=rp_back (ts:=ts) O m;obtain ⟨f,ef⟩:∃ f,f=rpF ls os ts m:=⟨_,rfl⟩;obtain ⟨g,eg⟩:∃ g,g=rpF ls os ts (1 - 2 * (if decide (0 < m)=true then 1 else 0)):=⟨_,rfl⟩;rw [<- ef,<- eg] at bb;rw [<- ef] at k;refine ⟨_,rfl,p,_,_,_,rfl,rfl,SqT.of d0,Ji (j:=0) rfl,?_⟩;refine ⟨fun σ' H'=>∃ l lb,σ'=[some (.ref p),some (.int m),some (.ref l),none,none,none,none,none]/\H' l=some (.lst (iV lb))/\lb.length=ls.length/\lb.sum=ls.sum/\Ord lb (List.range lb.length)/\(m≠0->∀ c,0 < c->c < ls.sum->¬ near (f c) (f (c - 1))->c∈(List.range (lb.length - 1)).map fun j=>Jc lb (List.range lb.length) (j + 1))/\Same H H',?_,?_⟩
  ·refine ⟨_,rfl,_,_,rfl,rfl,_,rfl,?_⟩;by_cases c:m < 0
   ·refine iteDT c ⟨_,rfl,p,_,_,_,rfl,rfl,SqT.of d0,Ji (j:=1) rfl,ol,rfl,⟨_,SqL.of d2⟩,fun dd hdd=>lc_lst (fun (j:Nat)=>V.int (j:Int)) os (fun _=>true) (fun j=>V.int (ls.getD j 0)) (by rw [<- nV_eq];exact SqL.of d2) (by lia) hdd (fun _ _ H _ _ k=>k H (Same.refl _)) (fun j hj Hc Qe _ sc q=>?_) (fun Hc sc hd'=>?_)⟩
    ·have hj':j < ls.length:=mem_range.mp (O.perm.mem_iff.mp hj);exact ⟨_,rfl,p,_,_,_,rfl,rfl,SqT.of (sc _ _ d0),Ji (j:=0) rfl,_,rfl,dl,_,_,_,rfl,rfl,SqL.of (sc _ _ d1),Ji (J1p hj'),q _ (Same.refl _)⟩
    ·rw [J1a] at hd';obtain ⟨OB,eB⟩:=laid_ord O;refine ⟨dd,os.map fun j=>ls.getD j 0,rfl,?_,by rw [length_map];exact oln,eB,OB,fun m0 x x0 x1 hx=>ahead_all ((back_near (ts:=ts) O x0 x1).resolve_right fun z=>hx ?_),sc⟩
     ·rw [hd'];exact congrArg (fun z=>some (HO.lst z)) (by show _=List.map V.int _;rw [map_map];rfl)
     ·rw [ef];unfold rpF;rw [if_neg (by lia)];exact z
   ·refine iteD c ⟨dl,ls,rfl,d1,rfl,rfl,O.range,fun m0 x x0 x1 hx=>ahead_all ((line_near (ts:=ts) O x0 x1).resolve_right fun z=>hx ?_),Same.refl _⟩;rw [ef];unfold rpF;rw [if_pos (by lia)];exact z
  rintro σ H1 ⟨l,lb,rfl,hl,lbl,lbs,OB,hcut,s1⟩;obtain ⟨zs,ezs⟩:∃ zs,zs=(List.range (lb.length - 1)).map fun j=>Jc lb (List.range lb.length) (j + 1):=⟨_,rfl⟩;rw [<- ezs] at hcut;have zl:zs.length=ls.length - 1:=by rw [ezs,length_map,length_range,lbl]
  have zin:∀ c∈zs,0 < c/\c < ls.sum:=fun c hc=>by
   rw [ezs] at hc;obtain ⟨j,hj,rfl⟩:=mem_map.mp hc;have hj:=mem_range.mp hj;rw [<- lbs];exact start_in OB (by lia) (by lia)
  obtain ⟨n,en⟩:∃ n,n=m.natAbs:=⟨_,rfl⟩;rw [<- en] at k na h1000 h62;have mul:∀ i,i<=zs.length->i * n<=62:=fun i hi=>by have:=Nat.mul_le_mul_right n hi;rw [zl,Nat.mul_comm (ls.length - 1)] at this;lia
  intro td htd;have u1:=J3 (o:=.dK []) htd;have htd1:upd H1 td (.dK []) td=some (.dK (kT [])):=J1;generalize upd H1 td (.dK [])=H2 at u1 htd1 ⊢;refine ⟨_,rfl,l,lb,rfl,u1 _ _ hl,by lia,fun st H3 s3 hst=>?_⟩;refine ⟨_,rfl,st,_,rfl,SqL.of hst,fun sd hsd=>?_⟩;rw [J2x lb (by lia),<- ezs];have u4:=J3 (o:=.lst (iV zs)) hsd;have hsd4:upd H3 sd (.lst (iV zs)) sd=some (.lst (iV zs)):=J1;have htd4:=u4 _ _ (s3 _ _ htd1);have s14:=u1.trans (s3.trans u4);generalize upd H3 sd (.lst (iV zs))=H4 at u4 hsd4 htd4 s14 ⊢;have nsd:sd≠td:=fun z=>by rw [z,htd4] at hsd4;cases hsd4
  refine ⟨sd,rfl,⟨_,SqL.of hsd4⟩,J1k (K:=K) (a:=sd) (xs:=iV zs) (fun i σ Hw=>∃ v4 v5 v6 v7 D',σ=[some (.ref p),some (.int m),some (.ref l),some (.ref td),v4,v5,v6,v7]/\Hw td=some (.dK (kT D'))/\D'.Nodup/\D'.length<=i * n/\(∀ c∈D',0 < c/\c < ls.sum)/\(∀ s∈zs.take i,∀ j,j < n->near (itF g j (s - 1)) (itF g j s)->max (itF g j (s - 1)) (itF g j s)∈D')/\Hw sd=some (.lst (iV zs))/\Same H1 Hw)
   ⟨none,none,none,none,[],rfl,htd4,List.nodup_nil,Nat.zero_le _,(fun c h=>by cases h),(fun s h=>by rw [List.take_zero] at h;cases h),hsd4,s14⟩ (fun i σ Hw _ ⟨_,_,_,_,_,_,_,_,_,_,_,h,_⟩=>SqL.of h) (fun i y σ Hw hy pv=>?_) (fun σ Hw pv=>?_)⟩
  ·obtain ⟨v4,v5,v6,v7,D',rfl,hw,nd,dl',din,dall,hsw,sw⟩:=pv;have hi:i < zs.length:=by have:=(List.getElem?_eq_some_iff.mp hy).1;rwa [length_map] at this
   obtain ⟨x,ex⟩:∃ x,zs[i]?=some x:=⟨_,getElem?_eq_getElem hi⟩;obtain rfl:V.int x=y:=by
    rw [getElem?_map,ex] at hy;exact Option.some.inj hy
   obtain ⟨x0,x1⟩:=zin x (mem_of_getElem? ex);have mi:=mul (i + 1) (by lia);rw [Nat.add_mul,Nat.one_mul] at mi;have tk:=J1j ex;refine ⟨_,rfl,_,_,rfl,rfl,_,rfl,_,rfl,_,rfl,?_⟩;rw [na];refine ⟨((n:Nat):Int),rfl,by lia,by lia,J1z (lo:=0) (n:=n) (fun j σ Hx=>∃ v7 E',σ=[some (.ref p),some (.int m),some (.ref l),some (.ref td),some (.int x),some (.int (itF g j (x - 1))),some (.int (itF g j x)),v7]/\Hx td=some (.dK (kT E'))/\E'.Nodup/\E'.length<=i * n + j/\(∀ c∈E',0 < c/\c < ls.sum)/\(∀ s∈zs.take i,∀ j,j < n->near (itF g j (s - 1)) (itF g j s)->max (itF g j (s - 1)) (itF g j s)∈E')/\(∀ a,a < j->near (itF g a (x - 1)) (itF g a x)->max (itF g a (x - 1)) (itF g a x)∈E')/\Hx sd=some (.lst (iV zs))/\Same H1 Hx)
    ⟨v7,D',rfl,hw,nd,dl',din,dall,(fun a h=>absurd h (Nat.not_lt_zero _)),hsw,sw⟩ ?_ ?_⟩
   ·rintro j σ Hx hj ⟨v7,E',rfl,hx,ne,le,ein,eall,eown,hsx,sx⟩;have i1:=itF_inn bb.symm j (x:=x - 1) (by lia) (by lia);have i2:=itF_inn bb.symm j (x:=x) (by lia) x1;refine ⟨fun σ' Hy=>∃ E2,σ'=[some (.ref p),some (.int m),some (.ref l),some (.ref td),some (.int x),some (.int (itF g j (x - 1))),some (.int (itF g j x)),some (.int (0 + (j:Int)))]/\Hy td=some (.dK (kT E2))/\E2.Nodup/\E2.length<=i * n + j + 1/\(∀ c∈E2,0 < c/\c < ls.sum)/\(∀ c∈E',c∈E2)/\(near (itF g j (x - 1)) (itF g j x)->max (itF g j (x - 1)) (itF g j x)∈E2)/\Hy sd=some (.lst (iV zs))/\Same H1 Hy,?_,?_⟩
    ·refine ⟨_,rfl,_,rfl,_,_,rfl,rfl,_,rfl,rfl,_,rfl,?_⟩;by_cases cn:near (itF g j (x - 1)) (itF g j x)
     ·refine iteDT (by rw [(J3q _ _).mpr cn]) ?_;have ne0:itF g j (x - 1)≠itF g j x:=fun e=>by have:=itF_inj bb.symm j (x:=x - 1) (y:=x) (by lia) (by lia) (by lia) x1 e;lia
      have em:(if itF g j x > itF g j (x - 1) then itF g j x else itF g j (x - 1))=max (itF g j (x - 1)) (itF g j x):=by split <;> lia
      obtain ⟨E2,ee,nd',mm,ll'⟩:=J1x (D:=E') (x:=max (itF g j (x - 1)) (itF g j x));refine ⟨_,rfl,_,rfl,_,rfl,_,_,rfl,?_⟩;rw [em];refine ⟨td,_,rfl,DPut.k (k:=Sum.inl (max (itF g j (x - 1)) (itF g j x))) hx (by rw [length_map];lia),?_⟩;rw [ee];refine ⟨E2,rfl,J1,nd' ne,by lia,fun c hc=>?_,fun c hc=>(mm c).mpr (.inl hc),fun _=>(mm _).mpr (.inr rfl),by rw [Ja nsd];exact hsx,fun b' u e=>by rw [Ja (J6 e htd)];exact sx _ _ e⟩;rcases (mm c).mp hc with h | rfl
      ·exact ein c h
      ·lia
     ·exact iteD (fun e=>cn ((J3q _ _).mp (V.int.inj e))) ⟨E',rfl,hx,ne,by lia,ein,fun c h=>h,fun z=>absurd z cn,hsx,sx⟩
    rintro σ Hy ⟨E2,rfl,hy2,ne2,le2,ein2,sub2,own2,hsy,sy⟩;have one1:∀ y,itF (rpF ls os ts (1 - 2 * (if decide (0 < m)=true then 1 else 0))) (1 - 2 * (if decide (0 < m)=true then (1:Int) else 0)).natAbs y=g y:=fun y=>by
     rw [eg];by_cases c:0 < m
     ·rw [if_pos (decide_eq_true c)];rfl
     ·rw [if_neg (by rw [decide_eq_true_iff];exact c)];rfl
    have small:(1 - 2 * (if decide (0 < m)=true then (1:Int) else 0)).natAbs<=1000:=by split <;> decide
    refine ⟨_,rfl,_,rfl,_,rfl,_,_,rfl,rfl,.inr ⟨_,rfl,_,_,rfl,rfl,.inl ⟨by decide,by decide⟩,_,_,rfl,rfl,p,ls,os,ts,itF g j (x - 1),_,rfl,(D.same s1).same sy,i1,small,fun H5 s5=>?_⟩⟩;rw [one1];refine ⟨_,rfl,_,rfl,_,rfl,_,_,rfl,rfl,.inr ⟨_,rfl,_,_,rfl,rfl,.inl ⟨by decide,by decide⟩,_,_,rfl,rfl,p,ls,os,ts,itF g j x,_,rfl,((D.same s1).same sy).same s5,i2,small,fun H6 s6=>?_⟩⟩;rw [one1];have s56:=s5.trans s6;refine ⟨_,E2,rfl,s56 _ _ hy2,ne2,by lia,ein2,fun s hs a ha z=>sub2 _ (eall s hs a ha z),fun a ha z=>?_,s56 _ _ hsy,sy.trans s56⟩;rcases Nat.lt_succ_iff_lt_or_eq.mp ha with h | rfl
    ·exact sub2 _ (eown a h z)
    ·exact own2 z
   ·rintro σ Hx ⟨v7,E',rfl,hx,ne,le,ein,eall,eown,hsx,sx⟩;refine ⟨_,_,_,_,E',rfl,hx,ne,(by rw [Nat.add_mul,Nat.one_mul];exact le),ein,fun s hs=>?_,hsx,sx⟩;rw [tk] at hs;rcases mem_append.mp hs with h | h
    ·exact eall s h
    ·rw [mem_singleton.mp h];exact eown
  ·obtain ⟨v4,v5,v6,v7,D',rfl,hw,nd,dl',din,dall,hsw,sw⟩:=pv;rw [length_map,take_length] at dall;rw [length_map] at dl';have mi:=mul zs.length (Nat.le_refl _);refine ⟨_,rfl,td,_,D',rfl,hw,kT_keys D',fun cu hcu=>?_⟩;refine k cu D' _ ((s1.trans sw).trans (J3 hcu)) J1 nd (by lia) din fun c c0 c1 hc=>?_;by_cases z:m=0
   ·rw [en,z] at hc;exact absurd (Or.inl (by show c - (c - 1)=1;lia)) hc
   ·obtain ⟨s,hs,j,hj,r1,r2⟩:=it_cuts bb (hcut z) n c c0 c1 hc;rw [r2];exact dall s hs j hj r1
def spBlocks:Sp:=fun vs H Q _=>∃ (p:Addr) (ls:List Int) (os:List Nat) (ts:List Bool),vs=[.ref p]/\DrGood H p ls os ts/\ls.length<=7/\4 * ls.sum<=10 ^ 30/\∀ q l o t H',Same H H'->DrGood H' q l o t->l.length=2 * ls.length + 2->Q (.ref q) H'
theorem blk_good {ls:List Int} {os:List Nat} (G:Good ls os) (h7:ls.length<=7) (hs:4 * ls.sum<=10 ^ 30):Good (blkL ls os) (blkO os):=by
 have ol:=G.ord.len;have ll:=J4o ls os;have ps:=G.pos_sum;obtain ⟨OB,eB⟩:=laid_ord G.ord;refine ⟨by omega,by omega,fun a ha=>?_,by rw [blkL_sum eB];exact hs,?_⟩
 ·unfold blkL at ha;rcases mem_append.mp ha with ha | ha
  ·rcases mem_append.mp ha with ha | ha
   ·rcases mem_append.mp ha with ha | ha
    ·rw [mem_singleton.mp ha];omega
    ·exact G.pos a ha
   ·rw [mem_singleton.mp ha];omega
  ·exact OB.pos a ha
 ·have:=blk_perm (os:=os) (by rw [ol];exact G.perm);rw [ll,show ls.length + os.length + 2=2 * os.length + 2 by omega];exact this
theorem scBlocks:FnScope ["drawn","lengths","order","turned","many","sizes","laid"] ["drawn"] (J9 sBlocks):=fS
theorem ok_blocks {f   : Addr} {fd  : FuncData}  (F : Fun K "_law_blocks" "_law_blocks" sBlocks f fd) (T : TxtR mg)
 :
    FnOk P w K mg base CX0 1 f fd ["drawn"] spBlocks := by
  refine F.ok scBlocks (fun vs H Q E h => ?_) (fun cdv A outer s H vs Q E hr h => ?_)
  · obtain ⟨p, ls, os, ts, rfl, _⟩ := h
    rfl
  · obtain ⟨p, ls, os, ts, rfl, D, h7, hs, k⟩ := h
    refine ⟨_, (J2 (ps_asg (pv 0) (pg_tup rfl (J17 (Jm (i := 1) scBlocks.nd rfl (Or.inr rfl)) (J17 (Jm (i := 2) scBlocks.nd rfl (Or.inr rfl)) (J17 (Jm (i := 3) scBlocks.nd rfl (Or.inr rfl)) pgs_nil)))))
      (J2 (Je (i := 4) scBlocks.nd rfl (Or.inr rfl) (Jb Jf (by rfl) T.len boot_len (J0 (pv 1) J4)))
      (J2 (J1d (Je (i := 5) scBlocks.nd rfl (Or.inl rfl) (pe_op J2u (pe_op J2u (pe_op J2u (J1e (J0 (Jb (J1v rfl) (by rfl) T.sum boot_sum (J0 (pv 1) J4)) J4)) (pv 1)) (J1e (J0 (Jb (J1v rfl) (by rfl) T.sum boot_sum (J0 (pv 1) J4)) J4))) (pe_lc (caps := ["lengths"]) (js := [1]) rfl (J13 (pv 2)) rfl (fun _ _ _ _ => J1h) (fun C fp s H => (J2t (J25 K) (pv 1) (pv 0))) (by decide +kernel) (by decide +kernel) (by decide +kernel) (by intro p hp; simp only [mem_cons, not_mem_nil, or_false] at hp; rcases hp with rfl; rfl)))))
      (J2 (J1d (Je (i := 6) scBlocks.nd rfl (Or.inl rfl) (pe_op J2u (pe_lc (caps := ["many", "order"]) (js := [4, 2]) rfl (J15 rfl T.range (J0 (pv 4) J4)) rfl (fun _ _ _ _ => J1h) (fun C fp s H => (pe_op J11 (pe_op J11 (pv 1) J8) (pe_bmK K PySem.F.plainAttrs_list PySem.F.slot_list_index PySem.F.type_list_index (mt_indexLK K) (pv 2) (J0 (pv 0) J4)))) (by decide +kernel) (by decide +kernel) (by decide +kernel) (by intro p hp; simp only [mem_cons, not_mem_nil, or_false] at hp; rcases hp with rfl | rfl <;> rfl)) (J1e (J0 J8 J4)))))
      (J2 (J1d (Je (i := 6) scBlocks.nd rfl (Or.inl rfl) (pe_op J2u (pe_op J2u (pv 6) (pe_lc (caps := []) (js := []) rfl (J13 (pv 2)) rfl (fun _ _ _ _ => J1h) (fun C fp s H => (pe_op J11 (pv 0) J8)) (by decide +kernel) (by decide +kernel) (by decide +kernel) (by intro p hp; cases hp))) (J1e (J0 (pe_op J11 (pv 4) J8) J4)))))
      (J7 (Jo (pe_tup (J0 (pv 5) (J0 (pv 6) (J0 (pe_op J2u (pe_op J2u (pe_op J2u (J1e (J0 pe_bl J4)) (pv 3)) (J1e (J0 pe_bl J4))) (pe_lc (caps := ["turned"]) (js := [3]) rfl (J13 (pv 2)) rfl (fun _ _ _ _ => J1h) (fun C fp s H => (J2t (J25 K) (pv 1) (pv 0))) (by decide +kernel) (by decide +kernel) (by decide +kernel) (by intro p hp; simp only [mem_cons, not_mem_nil, or_false] at hp; rcases hp with rfl; rfl))) J4))))))))))), ?_⟩
    obtain ⟨dl, ol, dt, d0, d1, d2, d3⟩ := D.at_.ex;have G := D.good;have O := G.ord;have oln := O.len;have tln := D.len;have sm := Jk (n := 300) (by decide);have ll : (iV ls).length = ls.length := length_map ..;have lt' : (bV ts).length = ts.length := length_map ..;have lo' : (nV os).length = os.length := len_nV os;refine ⟨_, rfl, p, _, rfl, SqT.of d0, rfl, _, _, rfl, _, _, rfl, _, _, rfl, rfl, ?_⟩;refine ⟨_, rfl, dl, _, rfl, .inl (SqL.of d1), ?_⟩;rw [ll];have comp : ∀ {σ : St} {js : List Nat} {te : TE} {Q' : VK} {Hx : Hp} {dd : Addr} (F : Nat -> V), Same H Hx -> Hx dd = none -> (∀ j, j ∈ os -> ∀ Hy Qe, Same Hx Hy -> (∀ H', Same Hy H' -> Qe (F j) H') -> te (some (.int (j : Int)) :: capv σ js) Hy Qe) -> (∀ H', Same Hx H' -> H' dd = some (.lst (os.map F)) -> Q' (.ref dd) H') -> LCW (Itl K ol) tYes te σ js Q' Hx dd := fun {σ js te Q' Hx dd} F sx hdd he hq => by
      refine lc_lst (fun (j : Nat) => V.int (j : Int)) os (fun _ => true) F (by rw [<- nV_eq]; exact SqL.of (sx _ _ d2)) (by omega) hdd (fun _ _ H _ _ k => k H (Same.refl _)) (fun j hj Hc Qe _ sc q => he j hj Hc Qe sc q) (fun Hc sc hd' => ?_);rw [J1a] at hd';exact hq Hc sc hd'
    refine ⟨fun σ' H' => ∃ a, σ' = [some (.ref p), some (.ref dl), some (.ref ol), some (.ref dt), some (.int (ls.length : Nat)), some (.ref a), none] /\ H' a = some (.lst (iV (blkL ls os))) /\ Same H H', ?_, ?_⟩
    · refine ⟨_, rfl, dl, ls, rfl, .inl (SqL.of d1), by show 1 <= sizeLine; omega, fun a1 h1 => ?_⟩
      have s1 := J3 (o := .lst ([V.int ls.sum])) h1;have e1 : upd H a1 (.lst ([V.int ls.sum])) a1 = some (.lst ([V.int ls.sum])) := J1;generalize upd H a1 (.lst ([V.int ls.sum])) = H1 at s1 e1 ⊢;refine ⟨_, rfl, a1, dl, [V.int ls.sum], iV ls, rfl, rfl, e1, s1 _ _ d1, by simp only [length_append, length_map, length_range, length_cons, length_nil]; omega, fun a2 h2 => ?_⟩;have s2 := J3 (o := .lst ([V.int ls.sum] ++ iV ls)) h2;have e2 : upd H1 a2 (.lst ([V.int ls.sum] ++ iV ls)) a2 = some (.lst ([V.int ls.sum] ++ iV ls)) := J1;generalize upd H1 a2 (.lst ([V.int ls.sum] ++ iV ls)) = H2 at s2 e2 ⊢;have s02 := s1.trans s2;refine ⟨_, rfl, dl, ls, rfl, .inl (SqL.of (s02 _ _ d1)), by show 1 <= sizeLine; omega, fun a3 h3 => ?_⟩;have s3 := J3 (o := .lst ([V.int ls.sum])) h3;have e3 : upd H2 a3 (.lst ([V.int ls.sum])) a3 = some (.lst ([V.int ls.sum])) := J1;generalize upd H2 a3 (.lst ([V.int ls.sum])) = H3 at s3 e3 ⊢;refine ⟨a2, a3, [V.int ls.sum] ++ iV ls, [V.int ls.sum], rfl, rfl, s3 _ _ e2, e3, by simp only [length_append, length_map, length_range, length_cons, length_nil]; omega, fun a4 h4 => ?_⟩;have s4 := J3 (o := .lst ([V.int ls.sum] ++ iV ls ++ [V.int ls.sum])) h4;have e4 : upd H3 a4 (.lst ([V.int ls.sum] ++ iV ls ++ [V.int ls.sum])) a4 = some (.lst ([V.int ls.sum] ++ iV ls ++ [V.int ls.sum])) := J1;generalize upd H3 a4 (.lst ([V.int ls.sum] ++ iV ls ++ [V.int ls.sum])) = H4 at s4 e4 ⊢;have s04 := s02.trans (s3.trans s4);refine ⟨_, rfl, ol, rfl, ⟨_, SqL.of (s04 _ _ d2)⟩, fun dd hdd => comp (fun j => V.int (ls.getD j 0)) s04 hdd (fun j hj Hy Qe sy q => ?_) (fun H5 s5 h5 => ?_)⟩
      · have hj' : j < ls.length := mem_range.mp (O.perm.mem_iff.mp hj)
        exact ⟨_, rfl, _, rfl, dl, _, _, _, rfl, rfl, SqL.of (sy _ _ (s04 _ _ d1)), Ji (J1p hj'), q _ (Same.refl _)⟩
      · refine ⟨a4, dd, _, _, rfl, rfl, s5 _ _ e4, h5, by simp only [length_append, length_map, length_range, length_cons, length_nil]; omega, fun a5 h6 => ⟨a5, rfl, ?_, s04.trans (s5.trans (J3 h6))⟩⟩
        rw [J1];refine congrArg (fun z => some (HO.lst z)) ?_;unfold blkL;show _ = List.map V.int _;rw [map_append, map_append, map_append, map_map];rfl
    rintro σ H1 ⟨a, rfl, ha, s1⟩;obtain ⟨X1, eX⟩ : ∃ X1, X1 = (List.range os.length).map fun j => os.length + 2 + os.idxOf j := ⟨_, rfl⟩;refine ⟨fun σ' H' => ∃ b, σ' = [some (.ref p), some (.ref dl), some (.ref ol), some (.ref dt), some (.int (ls.length : Nat)), some (.ref a), some (.ref b)] /\ H' b = some (.lst (nV (X1 ++ [0]))) /\ Same H1 H', ?_, ?_⟩
    · refine ⟨_, rfl, ((ls.length : Nat) : Int), rfl, by omega, by omega, fun dd hdd => lc_rng 0 ls.length (fun _ => true) (fun j => V.int ((os.length + 2 + os.idxOf j : Nat) : Int)) (by omega) hdd (fun _ _ H _ _ k => k H (Same.refl _)) (fun i hi Hy Qe _ sy q => ?_) (fun H2 s2 h2 => ?_)⟩
      · have hm : i ∈ os := O.perm.mem_iff.mpr (mem_range.mpr hi)
        rw [Int.zero_add];refine ⟨_, rfl, _, _, rfl, rfl, _, rfl, .inl ⟨rfl, _, SqL.of (sy _ _ (s1 _ _ d2))⟩, _, rfl, ol, natI os, (i : Int), rfl, rfl, SqL.of (sy _ _ (s1 _ _ d2)), mem_map.mpr ⟨i, hm, rfl⟩, _, _, rfl, rfl, ?_⟩;rw [idx_nat];show Qe (V.int (((ls.length : Nat) : Int) + 2 + ((os.idxOf i : Nat) : Int))) Hy;rw [show ((ls.length : Nat) : Int) + 2 + ((os.idxOf i : Nat) : Int) = ((os.length + 2 + os.idxOf i : Nat) : Int) by omega];exact q _ (Same.refl _)
      · rw [J1a] at h2
        refine ⟨by show 1 <= sizeLine; omega, fun a3 h3 => ?_⟩;have u3 := J3 (o := .lst [V.int 0]) h3;refine ⟨dd, a3, _, _, rfl, rfl, u3 _ _ h2, J1, by simp only [length_append, length_map, length_range, length_cons, length_nil]; omega, fun a4 h4 => ⟨a4, rfl, ?_, s2.trans (u3.trans (J3 h4))⟩⟩;rw [J1];refine congrArg (fun z => some (HO.lst z)) ?_;rw [nV_eq, map_append, eX, map_map, oln];rfl
    rintro σ H2 ⟨b, rfl, hb, s2⟩;have s12 := s1.trans s2;refine ⟨fun σ' H' => ∃ b, σ' = [some (.ref p), some (.ref dl), some (.ref ol), some (.ref dt), some (.int (ls.length : Nat)), some (.ref a), some (.ref b)] /\ H' b = some (.lst (nV (blkO os))) /\ Same H2 H', ?_, ?_⟩
    · refine ⟨_, rfl, _, rfl, ol, rfl, ⟨_, SqL.of (s12 _ _ d2)⟩, fun dd hdd => comp (fun j => V.int ((j + 1 : Nat) : Int)) s12 hdd (fun j hj Hy Qe sy q => ?_) (fun H3 s3 h3 => ?_)⟩
      · exact ⟨_, rfl, _, _, rfl, rfl, q _ (Same.refl _)⟩
      · have lX : X1.length = os.length := by rw [eX]; simp
        refine ⟨b, dd, _, _, rfl, rfl, s3 _ _ hb, h3, by rw [len_nV, length_append, length_map, lX]; simp; omega, fun a4 h4 => ?_⟩;have u4 := J3 (o := .lst (nV (X1 ++ [0]) ++ os.map fun j => V.int ((j + 1 : Nat) : Int))) h4;refine ⟨_, rfl, _, _, rfl, rfl, by show 1 <= sizeLine; omega, fun a5 h5 => ?_⟩;have u5 := J3 (o := .lst [V.int (((ls.length : Nat) : Int) + 1)]) h5;refine ⟨a4, a5, _, _, rfl, rfl, u5 _ _ J1, J1, by rw [length_append, len_nV, length_append, length_map, lX]; simp; omega, fun a6 h6 => ⟨a6, rfl, ?_, s3.trans (u4.trans (u5.trans (J3 h6)))⟩⟩;rw [J1];refine congrArg (fun z => some (HO.lst z)) ?_;unfold blkO;rw [<- eX, nV_eq, nV_eq, map_append, map_append (l₁ := X1 ++ [0] ++ _), map_append (l₁ := X1 ++ [0]), map_append, map_map, oln];rfl
    rintro σ H3 ⟨b', rfl, hb', s3⟩;have s13 := s2.trans s3;have s03 := s1.trans s13;refine ⟨_, rfl, _, rfl, by show 1 <= sizeLine; omega, fun c1 h1 => ?_⟩;have u1 := J3 (o := .lst ([V.bl false])) h1;have e1 : upd H3 c1 (.lst ([V.bl false])) c1 = some (.lst ([V.bl false])) := J1;generalize upd H3 c1 (.lst ([V.bl false])) = H4 at u1 e1 ⊢;refine ⟨_, rfl, c1, dt, [V.bl false], bV ts, rfl, rfl, e1, u1 _ _ (s03 _ _ d3), by simp only [length_append, length_map, length_range, length_cons, length_nil]; omega, fun c2 h2 => ?_⟩;have u2 := J3 (o := .lst ([V.bl false] ++ bV ts)) h2;have e2 : upd H4 c2 (.lst ([V.bl false] ++ bV ts)) c2 = some (.lst ([V.bl false] ++ bV ts)) := J1;generalize upd H4 c2 (.lst ([V.bl false] ++ bV ts)) = H5 at u2 e2 ⊢;refine ⟨by show 1 <= sizeLine; omega, fun c3 h3 => ?_⟩;have u3 := J3 (o := .lst ([V.bl false])) h3;have e3 : upd H5 c3 (.lst ([V.bl false])) c3 = some (.lst ([V.bl false])) := J1;generalize upd H5 c3 (.lst ([V.bl false])) = H6 at u3 e3 ⊢;refine ⟨c2, c3, [V.bl false] ++ bV ts, [V.bl false], rfl, rfl, u3 _ _ e2, e3, by simp only [length_append, length_map, length_range, length_cons, length_nil]; omega, fun c4 h4 => ?_⟩;have u4 := J3 (o := .lst ([V.bl false] ++ bV ts ++ [V.bl false])) h4;have e4 : upd H6 c4 (.lst ([V.bl false] ++ bV ts ++ [V.bl false])) c4 = some (.lst ([V.bl false] ++ bV ts ++ [V.bl false])) := J1;generalize upd H6 c4 (.lst ([V.bl false] ++ bV ts ++ [V.bl false])) = H7 at u4 e4 ⊢;have s37 := u1.trans (u2.trans (u3.trans u4));have s07 := s03.trans s37;refine ⟨_, rfl, ol, rfl, ⟨_, SqL.of (s07 _ _ d2)⟩, fun dd hdd => comp (fun j => V.bl (ts.getD j false)) s07 hdd (fun j hj Hy Qe sy q => ?_) (fun H8 s8 h8 => ?_)⟩
    · have hj' : j < ls.length := mem_range.mp (O.perm.mem_iff.mp hj)
      exact ⟨_, rfl, _, rfl, dt, _, _, _, rfl, rfl, SqL.of (sy _ _ (s07 _ _ d3)), Ji (bV_get (by omega)), q _ (Same.refl _)⟩
    · refine ⟨c4, dd, _, _, rfl, rfl, s8 _ _ e4, h8, by simp only [length_append, length_map, length_range, length_cons, length_nil]; omega, fun c5 h5 => ?_⟩
      have u9 := J3 (o := .lst ([V.bl false] ++ bV ts ++ [V.bl false] ++ os.map fun j => V.bl (ts.getD j false))) h5;refine ⟨by show 3 <= sizeLine; omega, fun q hq => ?_⟩;have u10 := J3 (o := .tup [.ref a, .ref b', .ref c5]) hq;have s39 := s37.trans (s8.trans (u9.trans u10));refine k q (blkL ls os) (blkO os) (blkT ts os) _ (s03.trans s39) ⟨⟨a, b', c5, J1, s39 _ _ (s13 _ _ ha), s39 _ _ hb', u10 _ _ ?_⟩, blk_good G h7 hs, by rw [blkT_len, J4o, tln]⟩ (by rw [J4o]; omega);rw [J1];refine congrArg (fun z => some (HO.lst z)) ?_;unfold blkT;show _ = List.map V.bl _;rw [map_append, map_append, map_append, map_map];rfl
def lamPW:Stmt->Pos
 | .If (.UnaryOp _ (.Call _ [_,_,.Lambda _ _ _ p,_] _ _) _) _ _ _=>p
 | _=>⟨0,0,0,0⟩
abbrev lpLW:Pos:=lamPW ((J10 sLaw).getD 12 (.Pass ⟨0,0,0,0⟩))
def spLaw (K:PySem.W.Frag) (TB TJ TK TL:Addr):Sp:=fun vs H Q _=>∃ (a:Addr) (ns:List Int),vs=[.ref a]/\SqL K H a (ns.map V.int)/\ns.length<=63/\Tb3 H TB TJ TK/\TabOk H TL lpLW "law.<locals>.<lambda>"/\∀ H',Q (.bl true) H'
theorem boot_VE:bootBuiltins "ValueError"=some (.type "ValueError"):=by boot_by_name
structure Tx49 (K:PySem.W.Frag) (mg:Str->Option Value) (CL CU CM:Addr):Prop where
 isi:mg "isinstance"=none
 ml:mg "LineError"=some (.ref CL)
 mu:mg "Unlike"=some (.ref CU)
 mm:mg "TooMany"=some (.ref CM)
 ve:mg "ValueError"=none
 xm:exmOne K (.ref CM) (.ref CL)=some true
 w:XCls K CM
 kk:kitOne K (.ref CM) (.ref CM)=some true
 kv:kitOne K (.ref CM) (.type "ValueError")=some true
 ku:kitOne K (.ref CM) (.ref CU)=some false
structure TL3 (TB TJ TK TL:Addr):Prop where
 bl:TB≠TL
 jl:TJ≠TL
 kl:TK≠TL
theorem cut_ints (ns:List Int) (lo hi:Option Int):∃ cs:List Int,cutV (iV ns) lo hi=iV cs/\cs.length<=ns.length:=by
 refine ⟨(ns.drop (HT.sIx (iV ns).length 0 lo)).take (HT.sIx (iV ns).length (iV ns).length hi - HT.sIx (iV ns).length 0 lo),?_,?_⟩
 ·show ((ns.map V.int).drop _).take _=List.map V.int _;rw [List.map_take,List.map_drop]
 ·rw [length_take,length_drop];omega
theorem menu9 {m:Int} (h0:0<=m) (h1:m < 3):∃ top:Int,atI [V.int 3,V.int (10 ^ (28:Int).toNat),V.int 50] m=some (V.int top)/\0 < top/\top<=10 ^ 28:=by
 have h:m=0\/m=1\/m=2:=by omega
 rcases h with rfl | rfl | rfl
 ·exact ⟨3,rfl,by decide,by decide⟩
 ·exact ⟨10 ^ (28:Int).toNat,rfl,by decide,by decide⟩
 ·exact ⟨50,rfl,by decide,by decide⟩
theorem LineAt.sameT {C:Addr} {H H':Hp} {x:Addr} {ls:List Int} {os:List Nat} {ts:List Bool} (h:LineAt C H x ls os ts) (s:SameT H H'):LineAt C H' x ls os ts:=by
 obtain ⟨dx,fs,pl,po,pt,ps,pd,h0,hl,h1,h2,h3,h4,h5⟩:=h.ex;exact ⟨dx,fs,pl,po,pt,ps,pd,s _ _ h0 rfl,hl,s _ _ h1 rfl,s _ _ h2 rfl,s _ _ h3 rfl,s _ _ h4 rfl,s _ _ h5 rfl⟩
theorem same_rest {cl:List (Str × Addr)} {H H2:Hp} (s:Same (dropC cl H) H2):Same H (restC cl H H2):=fun b u e=>by
 by_cases hb:b∈adC cl
 ·rw [J48 hb];exact e
 ·rw [J1c hb];exact s b u (by rw [Jv hb];exact e)
theorem sameT_seq {K:PySem.W.Frag} {H H':Hp} {a:Addr} {xs:List V} (s:SameT H H') (h:SqL K H a xs):SqL K H' a xs:=by
 rcases h with (h | ⟨o,h⟩) | h
 ·exact .inl (.inl (s _ _ h rfl))
 ·exact .inl (.inr ⟨o,s _ _ h rfl⟩)
 ·exact .inr h
theorem drT {H H':Hp} {p:Addr} {ls:List Int} {os:List Nat} {ts:List Bool} (h:DrGood H p ls os ts) (s:SameT H H'):DrGood H' p ls os ts:=by
 obtain ⟨l,o,t,h0,h1,h2,h3⟩:=h.at_.ex;exact ⟨⟨l,o,t,s _ _ h0 rfl,s _ _ h1 rfl,s _ _ h2 rfl,s _ _ h3 rfl⟩,h.good,h.len⟩
theorem lam_of {P:Program} {w:World} {K:PySem.W.Frag} {mg:Str->Option Value} {base:Heap} {H:Hp} {f c':Addr} {qual:Str} {params:Arguments} {body:Expr} {scope:Scope} {cl:List (Str × Addr)} {pm ctv:Value} {x:Str} {caps:List Str} {vals:List V} {te:TE} {k:Nat}
  (L:LamAt H f qual params body scope cl c' pm ctv caps vals) (S:ScLam scope cl x caps) (hlen:vals.length=caps.length) (hbind:∀ u,bindArgs (PySem.W.kla_fn "<lambda>" qual params body scope cl pm (.ref c') ctv) ⟨[u],[]⟩=pure [(x,u)])
  (he:∀ (A:Around) (outer:List Env) (s:Shared) (H:Hp),Room k (A.deeper (PySem.W.envX qual scope s.heap.objs.size f (.ref c') cl))->PE (cxLamF P w K mg base A outer (x :: caps) qual scope f (.ref c') cl s H) body te) :
  ∃ (I0:Hp->Prop) (sp:V->Hp->VK->Prop),GoOk P w K mg base (k + 1) f I0 sp/\(∀ H',Same H H'->I0 H')/\∀ (H':Hp) (v:V) (Q':VK),te (some v :: vals.map some) (dropC cl H') (fun y H2=>Q' y (restC cl H' H2))->sp v H' Q' :=
 ⟨_,_,lam_go S hlen hbind he,fun _ s=>L.sub s,fun _ _ _ h=>h⟩
theorem lamAt2 {H:Hp} {f c':Addr} {qual:Str} {params:Arguments} {body:Expr} {scope:Scope} {n1 n2:Str} {b1 b2:Addr} {pm ctv:Value} {v1 v2:V} {oc:Addr->Obj} (hf:H f=none) (nn:n1≠n2)
  (cd:∃ oc vs t,H c'=some (.frz oc (.own c'))/\oc.data=.fields vs/\vs[1]?=some (.str qual t))
  (hn:∀ a∈adC [(n1,b1),(n2,b2)],upd H f (.frz (PySem.W.kla_obj "<lambda>" qual params body scope [(n1,b1),(n2,b2)] pm c' ctv) (.own f)) a=none) (h1:∃ u,(oc b1).data=.cell (some u)/\RelV v1 u) (h2:∃ u,(oc b2).data=.cell (some u)/\RelV v2 u) :
  LamAt (lendC [(n1,b1),(n2,b2)] oc (upd H f (.frz (PySem.W.kla_obj "<lambda>" qual params body scope [(n1,b1),(n2,b2)] pm c' ctv) (.own f)))) f qual params body scope [(n1,b1),(n2,b2)] c' pm ctv [n1,n2] [v1,v2]:=by
 have sl:=J2d (oc:=oc) hn;obtain ⟨o1,vs,t,c1,c2,c3⟩:=cd;obtain ⟨u,u1,u2⟩:=h1;obtain ⟨w,w1,w2⟩:=h2;have hb1:b1∈adC [(n1,b1),(n2,b2)]:=by simp [adC]
 have hb2:b2∈adC [(n1,b1),(n2,b2)]:=by simp [adC]
 have l1:([(n1,b1),(n2,b2)]:List (Str × Addr)).lookup n1=some b1:=by simp
 have l2:([(n1,b1),(n2,b2)]:List (Str × Addr)).lookup n2=some b2:=by
  rw [List.lookup_cons,show (n2 == n1)=false from by simpa using (Ne.symm nn)];simp
 refine ⟨sl _ _ J1,⟨o1,vs,t,sl _ _ (by rw [Ja (J6 c1 hf)];exact c1),c2,c3⟩,fun p hp=>?_,fun k x v' e1 e2=>?_⟩
 ·rcases mem_cons.mp hp with rfl | hp
  ·exact ⟨oc b1,_,J1u hb1,u1⟩
  ·rw [mem_singleton.mp hp];exact ⟨oc b2,_,J1u hb2,w1⟩
 ·rcases k with _ | _ | k
  ·cases e1;cases e2;exact ⟨b1,oc b1,u,l1,J1u hb1,u1,u2⟩
  ·cases e1;cases e2;exact ⟨b2,oc b2,w,l2,J1u hb2,w1,w2⟩
  ·simp at e1
theorem inj2 {n1 n2:Str} {b1 b2:Addr} (nb:b1≠b2):∀ (x y:Str) (c:Addr),([(n1,b1),(n2,b2)]:List (Str × Addr)).lookup x=some c->([(n1,b1),(n2,b2)]:List (Str × Addr)).lookup y=some c->x=y:=fun x y c h1 h2=>by
 have e:∀ z:Str,([(n1,b1),(n2,b2)]:List (Str × Addr)).lookup z=some c->(z=n1/\c=b1)\/(z=n2/\c=b2):=fun z h=>by
  have:=mem_of_lookup h;rcases mem_cons.mp this with q | q
  ·exact .inl ⟨congrArg Prod.fst q,congrArg Prod.snd q⟩
  ·have q:=mem_singleton.mp q;exact .inr ⟨congrArg Prod.fst q,congrArg Prod.snd q⟩
 rcases e x h1 with ⟨a1,a2⟩ | ⟨a1,a2⟩ <;> rcases e y h2 with ⟨c1,c2⟩ | ⟨c1,c2⟩
 ·rw [a1,c1]
 ·exact absurd (a2.symm.trans c2) nb
 ·exact absurd (c2.symm.trans a2) nb
 ·rw [a1,c1]
theorem menu8 {m:Int} (h0:0<=m) (h1:m < 8):∃ t:Int,atI [V.int 2,V.int 4,V.int (-4),V.int 3,V.int 2,V.int (-2),V.int 4,V.int (-1)] m=some (V.int t)/\t.natAbs<=4:=by
 have h:m=0\/m=1\/m=2\/m=3\/m=4\/m=5\/m=6\/m=7:=by omega
 rcases h with rfl | rfl | rfl | rfl | rfl | rfl | rfl | rfl <;> exact ⟨_,rfl,by decide⟩
theorem manyN (z:Int) (n:Nat) (hn:0 < n):∃ m:Nat,1 + z % (n:Int)=(m:Int)/\1<=m/\m<=n:=by
 have b0:0<=z % (n:Int):=Int.emod_nonneg _ (by omega);have b1:z % (n:Int) < n:=Int.emod_lt_of_pos _ (by omega);exact ⟨(1 + z % (n:Int)).toNat,by omega,by omega,by omega⟩
theorem draw_sum7 (ns:List Int) {many:Nat} {top:Int} (h2:many<=7) (h3:0 < top) (h4:top<=10 ^ 28):4 * (drawL ns many top).sum<=10 ^ 30:=by
 have e1:=sum_le (drawL ns many top) fun a ha=>(J3n h3 a ha).2;rw [J1g] at e1;have e2:(many:Int) * top<=7 * 10 ^ 28:=Int.mul_le_mul (by omega) h4 (by omega) (by decide);have e3:(4:Int) * (7 * 10 ^ 28)<=10 ^ 30:=by decide
 omega
theorem J3p {X:Cx} {f:Value} (hf:f=.builtin "isinstance"):CallR X f (fun xs H Q=>(∃ (ea D:Addr) (c:V) (cv:Value) (b:Bool),xs=[.ref ea,c]/\RelV c cv/\(∀ v,RelV c v->v=cv)/\H ea=some (excO ea (.ref D))/\XCls X.K D/\kitOne X.K (.ref D) cv=some b/\Q (.bl b) H)\/
  (∃ (x c:V) (t cv:Value) (b:Bool),xs=[x,c]/\RelV c cv/\(∀ v,RelV c v->v=cv)/\TyOf X.K H x t/\kitOne X.K t cv=some b/\Q (.bl b) H)):=by
 intro pins s σ H xs us Q I r h;rcases h with h | h
 ·exact call_isany hf pins s σ H xs us Q I r h
 ·exact J35 hf pins s σ H xs us Q I r h
theorem scLaw:FnScope ["script","first","drawn","times","size","found","refused","e","cuts","gaps","kinds","told","cell"] ["script"] (J9 sLaw):=fS
theorem ok_law {f fC fD fBK fLn fRP fAC fGn fPl fLG9 C CW TB TJ TK TL CL CU CM cc:Addr} {fd fdC fdD fdBK fdLn fdRP fdAC fdGn fdPl fdLG9:FuncData}  (F:Fun K "law" "law" sLaw f fd) (T:TxtR mg) (TC:TxtC K mg C) (TX:Tx49 K mg CL CU CM) (TN:TL3 TB TJ TK TL) (habs:mg "abs"=none) (hcode:fd.code=.ref cc) (CD:PySem.W.codeHdIn K cc TL=true) (BL:BltAt base mg TL)
  (GC:FnOk P w K mg base CX0 1 fC fdC ["script","k"] (spCell K)) (bC:Binds K fdC ["script","k"] []) (mC:mg "_law_cell"=some (.ref fC)) (kC:keepIn K (.ref fC)=true)
  (GD:FnOk P w K mg base CX0 2 fD fdD ["script","at","many","top"] (spDrawn9 K)) (bD:Binds K fdD ["script","at","many","top"] []) (mD:mg "_law_drawn"=some (.ref fD)) (kD:keepIn K (.ref fD)=true)
  (GBK:FnOk P w K mg base CX0 1 fBK fdBK ["drawn"] spBlocks) (bBK:Binds K fdBK ["drawn"] []) (mBK:mg "_law_blocks"=some (.ref fBK)) (kBK:keepIn K (.ref fBK)=true)
  (GLn:FnOk P w K mg base CX0 5 fLn fdLn ["drawn"] (spLLine C)) (bLn:Binds K fdLn ["drawn"] []) (mLn:mg "_law_line"=some (.ref fLn)) (kLn:keepIn K (.ref fLn)=true)
  (GRP:FnOk P w K mg base (Exc1 P w) 7 fRP fdRP ["line","times"] (J2y C CW TB TJ TK CM)) (bRP:Binds K fdRP ["line","times"] []) (mRP:mg "repeated"=some (.ref fRP)) (kRP:keepIn K (.ref fRP)=true)
  (GAC:FnOk P w K mg base CX0 3 fAC fdAC ["drawn","times"] spAllC) (bAC:Binds K fdAC ["drawn","times"] []) (mAC:mg "_law_all_cuts"=some (.ref fAC)) (kAC:keepIn K (.ref fAC)=true)
  (GGn:FnOk P w K mg base CX0 2 fGn fdGn ["drawn","x","times"] spGoneL) (bGn:Binds K fdGn ["drawn","x","times"] []) (mGn:mg "_law_gone"=some (.ref fGn)) (kGn:keepIn K (.ref fGn)=true)
  (GPl:FnOk P w K mg base CX0 4 fPl fdPl ["line","size","going","cuts"] (spPlainF P w K mg base C)) (bPl:Binds K fdPl ["line","size","going","cuts"] []) (mPl:mg "_law_plain"=some (.ref fPl)) (kPl:keepIn K (.ref fPl)=true)
  (GLG9:FnOk P w K mg base CX0 1 fLG9 fdLG9 ["drawn","x"] spLGoes) (bLG9:Binds K fdLG9 ["drawn","x"] []) (mLG9:mg "_law_goes"=some (.ref fLG9)) (kLG9:keepIn K (.ref fLG9)=true) :
  FnOk P w K mg base CX0 8 f fd ["script"] (spLaw K TB TJ TK TL):=by
 refine F.okK hcode scLaw (fun vs H Q E h=>?_) (fun A outer s H vs Q E hr h=>?_)
 ·obtain ⟨a,ns,rfl,_⟩:=h;rfl
 ·obtain ⟨a,ns,rfl,hS,hlen,T3,Tl,k⟩:=h;have hr1:Room 1 _:=rm hr;have hr2:Room 2 _:=rm hr;have hr3:Room 3 _:=rm hr;have hr4:Room 4 _:=rm hr;have hr5:Room 5 _:=rm hr;have hr7:Room 7 _:=rm hr;have hu1:=hu_of hr;have hu:=hr.units0;refine ⟨_,(J2 (Je (i:=1) scLaw.nd rfl (Or.inl rfl) (Jd GC hr1 rfl mC kC bC .nil pass0 (J0 (pv 0) (J0 J8 J4))))
   (J2 (J1d (Je (i:=2) scLaw.nd rfl (Or.inr rfl) (Jd GD hr2 rfl mD kD bD .nil pass0 (J0 (pv 0) (J0 J8 (J0 (pe_op J11 J8 (pe_op J2a (pv 1) J8)) (J0 (pe_ix Jx (J1e (J0 J8 (J0 (pe_op op_pow J8 J8) (J0 J8 J4)))) (pe_op J2a (pe_op J32 (pv 1) J8) J8) (fun _ _=>rfl)) J4)))))))
   (J2 (J1d (Je (i:=3) scLaw.nd rfl (Or.inr rfl) (pe_op J14 (pe_op J2a (pe_op J32 (pv 1) J8) J8) J8)))
   (J2 (J1d (ps_if (Jq op_eq (pe_op J2a (pe_op J32 (pv 1) J8) J8) J8 (Ju _)) (J2 (Je (i:=2) scLaw.nd rfl (Or.inr rfl) (Jd GBK hr1 rfl mBK kBK bBK .nil pass0 (J0 (Jd GD hr2 rfl mD kD bD .nil pass0 (J0 (pv 0) (J0 J8 (J0 (pe_op J11 J8 (pe_op J2a (pe_op J32 (pv 1) J8) J8)) (J0 (pe_ix Jx (J1e (J0 J8 (J0 (pe_op op_pow J8 J8) (J0 J8 J4)))) (pe_op J2a (pe_op J32 (pv 1) J8) J8) (fun _ _=>rfl)) J4))))) J4)))
    (J7 (Je (i:=3) scLaw.nd rfl (Or.inr rfl) (pe_ix Jx (J1e (J0 J8 (J0 J8 (J0 (pe_un un_neg J8) (J0 J8 (J0 J8 (J0 (pe_un un_neg J8) (J0 J8 (J0 (pe_un un_neg J8) J4))))))))) (pe_op J2a (pe_op J32 (pv 1) J8) J8) (fun _ _=>rfl))))) Js))
   (J2 (Je (i:=4) scLaw.nd rfl (Or.inl rfl) (Jb (J1v rfl) (by rfl) T.sum boot_sum (J0 (pe_ix J24 (pv 2) J8 (fun _ _=>rfl)) J4)))
   (J2 (Je (i:=5) scLaw.nd rfl (Or.inl rfl) pe_non)
   (J2 (Je (i:=6) scLaw.nd rfl (Or.inl rfl) pe_non)
   (J2 (J1d (ps_trya (i:=7) (j:=5) GRP hr7 rfl mRP kRP bRP .nil (J0 (Jd GLn hr5 rfl mLn kLn bLn .nil pass0 (J0 (pv 2) J4)) (J0 (pv 3) J4)) rfl rfl rfl TX.ml scLaw.nd rfl rfl rfl (Or.inl rfl) (fun ea=>J7 (Je (i:=6) scLaw.nd rfl (Or.inl rfl) (pv 7)))))
   (J2 (Je (i:=8) scLaw.nd rfl (Or.inl rfl) (Jd GAC hr3 rfl mAC kAC bAC .nil pass0 (J0 (pv 2) (J0 (pv 3) J4))))
   (J2 (ps_lc (i:=9) (caps:=["drawn","times"]) (js:=[2,3]) scLaw.nd rfl (Or.inl rfl) rfl (J13 (pv 8)) rfl (fun _ _ _ _=>J1h) (fun C fp s H=>(Jb J1w (by rfl) habs boot_abs (J0 (pe_op J14 (Jd GGn hr2 rfl mGn kGn bGn .nil pass0 (J0 (pv 1) (J0 (pv 0) (J0 (pv 2) J4)))) (Jd GGn hr2 rfl mGn kGn bGn .nil pass0 (J0 (pv 1) (J0 (pe_op J14 (pv 0) J8) (J0 (pv 2) J4))))) J4))) (by decide +kernel) (by decide +kernel) (by decide +kernel) (by intro p hp;simp only [mem_cons,not_mem_nil,or_false] at hp;rcases hp with rfl | rfl <;> rfl))
   (J2 (ps_if (Jq op_gt (Jb Jf (by rfl) T.len boot_len (J0 (pe_lc (caps:=[]) (js:=[]) rfl (J13 (pv 9)) rfl (fun _ _ _ _=>(pts_one (Jq op_ne (pv 0) J8 (Ju _)))) (fun C fp s H=>(pv 0)) (by decide +kernel) (by decide +kernel) (by decide +kernel) (by intro p hp;cases hp)) J4)) J8 (Ju _)) (J2 (Je (i:=10) scLaw.nd rfl (Or.inl rfl) (J1e (J0 (Jb (J3p rfl) (by rfl) TX.isi boot_isinstance (J0 (pv 6) (J0 (J3t (v:=.ref CM) rfl TX.mm rfl) J4))) (J0 (Jb (J3p rfl) (by rfl) TX.isi boot_isinstance (J0 (pv 6) (J0 (pe_bltn (v:=.ty "ValueError") rfl TX.ve boot_VE rfl) J4))) (J0 (Jb (J3p rfl) (by rfl) TX.isi boot_isinstance (J0 (pv 6) (J0 (J3t (v:=.ref CU) rfl TX.mu rfl) J4))) J4)))))
    (J7 (Jo (J1q (op_eqL hu) (pv 10) (J1e (J0 pe_bl (J0 pe_bl (J0 pe_bl J4)))) (Ju _))))) Js)
   (J2 (ps_if (Jq op_notN (pv 6) pe_non (Ju _)) (J7 (Jo pe_bl)) Js)
   (J2 (ps_if (pt_not (J2r (pe_callLe (cl:=[("times",s.heap.objs.size + 1 + 1),("drawn",s.heap.objs.size + 1)]) (caps:=["times","drawn"]) (js:=[3,2]) (E:=fun _ _ _=>False) GPl hr4 rfl mPl kPl bPl (fun _=>rfl) (by intro p hp;rcases mem_cons.mp hp with rfl | hp;rfl;rw [mem_singleton.mp hp];rfl) (fun k c e=>match k,e with | 0,e=>by cases e;exact ⟨3,_,rfl,rfl,rfl,rfl⟩ | 1,e=>by cases e;exact ⟨2,_,rfl,rfl,rfl,rfl⟩ | k + 2,e=>by simp at e) (J0 (pv 5) (J0 (pv 4) (J0 (pe_lam (cl:=[("times",s.heap.objs.size + 1 + 1),("drawn",s.heap.objs.size + 1)]) rfl rfl rfl rfl CD BL) (J0 (pv 8) J4))))))) (J7 (Jo pe_bl)) Js)
   (J2 (J1d (Je (i:=11) scLaw.nd rfl (Or.inl rfl) (pe_tup (J0 (Jh Jn (by rfl) T.list boot_list (J0 (Jl (pv 5) rfl) J4)) (J0 (Jh Jn (by rfl) T.list boot_list (J0 (Jl (pv 5) rfl) J4)) (J0 (Jh Jn (by rfl) T.list boot_list (J0 (Jl (pv 5) rfl) J4)) J4))))))
   (J2 (J1s PassesOwn.never rfl (J13 (J3d sl_list (pv 0) po_none (po_some J8))) (Jm (i:=12) scLaw.nd rfl (Or.inl rfl))
    (J7 (ps_if (Jq op_ne (Jd GLG9 hr1 rfl mLG9 kLG9 bLG9 .nil pass0 (J0 (pv 11) (J0 (pe_op J2a (pv 12) (pv 4)) J4))) (Jd GGn hr2 rfl mGn kGn bGn .nil pass0 (J0 (pv 2) (J0 (pe_op J2a (pv 12) (pv 4)) (J0 (pv 3) J4)))) (Ju _)) (J7 (Jo pe_bl)) Js)))
   (J7 (Jo pe_bl))))))))))))))))),?_⟩
  obtain ⟨m0,em0,m01,m02⟩:=manyN (cellN ns 0) 4 (by decide);obtain ⟨m1,em1,m11,m12⟩:=manyN (cellN ns 0 / 900) 7 (by decide);obtain ⟨top,at1,t1,t2⟩:=menu9 (m:=cellN ns 0 / 4 % 3) (Int.emod_nonneg _ (by decide)) (Int.emod_lt_of_pos _ (by decide));obtain ⟨tm,at2,tm4⟩:=menu8 (m:=cellN ns 0 / 12 % 8) (Int.emod_nonneg _ (by decide)) (Int.emod_lt_of_pos _ (by decide));refine ⟨_,rfl,a,ns,0,rfl,hS,?_⟩;refine ⟨fun σ' H'=>∃ p ls os ts,σ'=[some (.ref a),some (.int (cellN ns 0)),some (.ref p),none,none,none,none,none,none,none,none,none,none]/\DrGood H' p ls os ts/\ls.length<=4/\Same H H',?_,?_⟩
  ·refine ⟨_,rfl,_,rfl,_,_,rfl,rfl,(by show (0:Int) < 4;decide),_,_,rfl,rfl,_,_,rfl,rfl,⟨by decide,by decide,by decide⟩,(by show 3<=sizeLine;decide),fun l hl=>?_⟩;have s1:=J3 (o:=.lst [V.int 3,V.int (10 ^ (28:Int).toNat),V.int 50]) hl;have hl1:upd H l (.lst [V.int 3,V.int (10 ^ (28:Int).toNat),V.int 50]) l=some (.lst [V.int 3,V.int (10 ^ (28:Int).toNat),V.int 50]):=J1;refine ⟨_,rfl,_,_,rfl,rfl,⟨by decide,by decide⟩,_,_,rfl,rfl,(by show (0:Int) < 3;decide),l,_,_,_,rfl,rfl,SqL.of hl1,at1,a,ns,ns,1,m0,top,(by rw [<- em0];rfl),s1.seq hS,(fun k=>rfl),by omega,by omega,t1,fun dp H2 s2 D=>?_⟩;exact ⟨dp,_,_,_,rfl,⟨D,J34 ns m01 (by omega) t1 t2,by rw [drawT_len,J1g]⟩,by rw [J1g];exact m02,s1.trans s2⟩
  rintro σ H1 ⟨p,ls,os,ts,rfl,D1,l4,s1⟩;refine ⟨fun σ' H'=>∃ m,σ'=[some (.ref a),some (.int (cellN ns 0)),some (.ref p),some (.int m),none,none,none,none,none,none,none,none,none]/\m.natAbs<=12/\H1=H',?_,?_⟩
  ·refine ⟨_,rfl,_,_,rfl,rfl,⟨by decide,by decide⟩,_,_,rfl,rfl,(by show (0:Int) < 25;decide),_,_,rfl,rfl,cellN ns 0 / 12 % 25 - 12,rfl,?_,rfl⟩;have b0:0<=cellN ns 0 / 12 % 25:=Int.emod_nonneg _ (by decide);have b1:cellN ns 0 / 12 % 25 < 25:=Int.emod_lt_of_pos _ (by decide);omega
  rintro σ _ ⟨m,rfl,hm,rfl⟩;refine ⟨fun σ' H'=>∃ p m ls os ts,σ'=[some (.ref a),some (.int (cellN ns 0)),some (.ref p),some (.int m),none,none,none,none,none,none,none,none,none]/\DrGood H' p ls os ts/\m.natAbs<=12/\m.natAbs * (ls.length - 1)<=62/\Same H H',?_,?_⟩
  ·refine ⟨_,rfl,_,_,rfl,rfl,⟨by decide,by decide⟩,_,_,rfl,rfl,(by show (0:Int) < 3;decide),rfl,_,rfl,?_⟩;by_cases c:cellN ns 0 / 300 % 3=1
   ·refine iteDT (congrArg V.int c) ?_;refine ⟨_,rfl,_,rfl,_,_,rfl,rfl,⟨by decide,by decide⟩,_,_,rfl,rfl,(by show (0:Int) < 7;decide),_,_,rfl,rfl,_,_,rfl,rfl,⟨by decide,by decide,by decide⟩,(by show 3<=sizeLine;decide),fun l hl=>?_⟩;have u1:=J3 (o:=.lst [V.int 3,V.int (10 ^ (28:Int).toNat),V.int 50]) hl;have hl1:upd H1 l (.lst [V.int 3,V.int (10 ^ (28:Int).toNat),V.int 50]) l=some (.lst [V.int 3,V.int (10 ^ (28:Int).toNat),V.int 50]):=J1;refine ⟨_,rfl,_,_,rfl,rfl,⟨by decide,by decide⟩,_,_,rfl,rfl,(by show (0:Int) < 3;decide),l,_,_,_,rfl,rfl,SqL.of hl1,at1,a,ns,ns,1,m1,top,(by rw [<- em1];rfl),(s1.trans u1).seq hS,(fun k=>rfl),by omega,by omega,t1,fun dp H2 s2 D=>?_⟩;refine ⟨dp,_,_,_,rfl,⟨D,J34 ns m11 (by omega) t1 t2,by rw [drawT_len,J1g]⟩,by rw [J1g];exact m12,draw_sum7 ns m12 t1 t2,fun q l o t H3 s3 D3 l3=>?_⟩;rw [J1g] at l3;have s03:=(s1.trans u1).trans (s2.trans s3);refine ⟨_,rfl,_,rfl,_,rfl,by show 8<=sizeLine;decide,fun b hb=>?_⟩;have u4:=J3 (o:=.lst [V.int 2,V.int 4,V.int (-4),V.int 3,V.int 2,V.int (-2),V.int 4,V.int (-1)]) hb;have hb1:upd H3 b (.lst [V.int 2,V.int 4,V.int (-4),V.int 3,V.int 2,V.int (-2),V.int 4,V.int (-1)]) b=some (.lst [V.int 2,V.int 4,V.int (-4),V.int 3,V.int 2,V.int (-2),V.int 4,V.int (-1)]):=J1;refine ⟨_,rfl,_,_,rfl,rfl,⟨by decide,by decide⟩,_,_,rfl,rfl,(by show (0:Int) < 8;decide),b,_,_,_,rfl,rfl,SqL.of hb1,at2,q,tm,l,o,t,rfl,D3.same u4,by omega,?_,s03.trans u4⟩;have:=Nat.mul_le_mul tm4 (show l.length - 1<=15 by omega);omega
   ·refine iteD (fun e=>c (V.int.inj e)) ⟨p,m,ls,os,ts,rfl,D1,hm,?_,s1⟩;have:=Nat.mul_le_mul hm (show ls.length - 1<=3 by omega);omega
  rintro σ H2 ⟨p,m,ls,os,ts,rfl,D,hm,hm62,s2⟩;clear at1 t1 t2 at2 tm4 D1 em0 em1 m01 m02 m11 m12;have G:=D.good;have O:=G.ord;have pN:=G.pos_sum;have lo1:=G.lo;obtain ⟨dl,ol,dt,d0,d1,d2,d3⟩:=D.at_.ex;obtain ⟨F,eF⟩:∃ F,F=itF (rpF ls os ts m) m.natAbs:=⟨_,rfl⟩;refine ⟨_,rfl,p,_,_,_,rfl,rfl,SqT.of d0,Ji (j:=0) rfl,dl,ls,rfl,.inl (SqL.of d1),?_⟩;have T2:=T3.same s2;have Tl2:=Jr Tl s2;refine ⟨fun σ' H'=>SameT H2 H'/\∃ S vf vr,σ'=[some (.ref a),some (.int (cellN ns 0)),some (.ref p),some (.int m),some (.int ls.sum),some vf,some vr,none,none,none,none,none,none]/\RepS F 0 S ls.sum/\((24 < S.length/\∃ ea,vr=.ref ea/\H' ea=some (excO ea (.ref CM)))\/
   (S.length<=24/\vr=.non/\∃ y lc oc tc,vf=.ref y/\LineAt C H' y lc oc tc/\Good lc oc/\PlG F ls.sum lc oc tc/\TabOk H' TL lpLW "law.<locals>.<lambda>")),?_,?_⟩
  ·refine ⟨_,rfl,p,ls,os,ts,rfl,D,fun x1 H3 s3 L1=>⟨_,rfl,?_⟩⟩;refine ⟨x1,ls,os,ts,m,rfl,L1,G,D.len,by omega,hm62,T2.same s3,fun S R=>?_⟩;rw [<- eF] at R ⊢;refine ⟨fun c H4 s4=>?_,fun c z l o t H4 s4 k4 PG el GZ LZ=>?_⟩
   ·exact ⟨TX.xm,fun ea hea=>⟨_,rfl,fun b u e z=>J3 hea _ _ (s4 _ _ (s3 _ _ e) z),S,_,_,rfl,R,.inl ⟨c,ea,rfl,J1⟩⟩⟩
   ·exact ⟨SameT.trans (Same.t s3) s4,S,_,_,rfl,R,.inr ⟨c,rfl,z,l,o,t,rfl,LZ,GZ,PG,k4 TL _ _ (Ne.symm TN.bl) (Ne.symm TN.jl) (Ne.symm TN.kl) (Jr Tl2 s3)⟩⟩
  rintro σ H3 ⟨s3,S,vf,vr,rfl,R,cc3⟩;have D3:=drT D s3;have hS3:=sameT_seq s3 (s2.seq hS);have sm:=Jk (n:=300) (by decide);obtain ⟨kk,bF⟩:∃ kk,Bij ls.sum F kk:=by
   rw [eF];obtain ⟨fk,bf⟩:=rp_bij (ts:=ts) O m;exact J33 bf _
  clear d0 d1 d2 d3 s3 T2 Tl2 D s2 T3 Tl;refine ⟨_,rfl,_,rfl,p,ls,os,ts,m,rfl,D3,by omega,hm62,fun cu cs H4 s4 hcu nd cl cin call=>?_⟩;rw [<- eF] at call;refine ⟨_,rfl,cu,rfl,⟨_,SqL.of hcu⟩,fun gp hgp=>lc_lst V.int cs (fun _=>true) (fun c=>V.int (if F c - F (c - 1) < 0 then -(F c - F (c - 1)) else F c - F (c - 1))) (SqL.of hcu) (by omega) hgp (fun _ _ H _ _ k=>k H (Same.refl _)) (fun c hc Hc Qe _ sc q=>?_) (fun H5 s5 h5=>?_)⟩
  ·obtain ⟨c0,c1⟩:=cin c hc;refine ⟨_,rfl,_,rfl,_,rfl,p,ls,os,ts,c,m,rfl,(D3.same s4).same sc,⟨by omega,c1⟩,by omega,fun Ha sa=>?_⟩;refine ⟨_,rfl,_,rfl,_,_,rfl,rfl,_,rfl,p,ls,os,ts,c - 1,m,rfl,((D3.same s4).same sc).same sa,⟨by omega,by omega⟩,by omega,fun Hb sb=>?_⟩;rw [<- eF];exact ⟨_,_,rfl,rfl,_,rfl,q _ (sa.trans sb)⟩
  rw [J1a] at h5;obtain ⟨gf,egf⟩:∃ gf:Int->Int,gf=fun c=>if F c - F (c - 1) < 0 then -(F c - F (c - 1)) else F c - F (c - 1):=⟨_,rfl⟩
  have h5':H5 gp=some (.lst (iV (cs.map gf))):=by
   rw [h5,egf];exact congrArg (fun z=>some (HO.lst z)) (by show _=List.map V.int _;rw [map_map];rfl)
  have cnt:((cs.map gf).filter fun g=>!decide (g=1)).length=S.length - 1:=by
   rw [List.filter_map,length_map];refine R.few nd cin call _ fun c hc=>?_;show (!decide (gf c=1))=true↔_;rw [Bool.not_eq_true',decide_eq_false_iff_not,egf];exact not_congr (J3q _ _)
  have s35:=s4.trans s5;refine ⟨_,rfl,gp,rfl,⟨_,SqL.of h5'⟩,fun d2 hd2=>lc_lst V.int (cs.map gf) (fun g=>!decide (g=1)) V.int (SqL.of h5') (by rw [length_map];omega) hd2 (fun g hg Hc Qt sc q=>?_) (fun g hg Hc Qe _ sc q=>?_) (fun H6 s6 h6=>?_)⟩
  ·refine ⟨_,rfl,rfl,_,rfl,?_⟩;have e:decide (V.int g=V.int 1)=decide (g=1):=decide_eq_decide.mpr ⟨fun z=>V.int.inj z,fun z=>congrArg V.int z⟩;show Qt (!decide (V.int g=V.int 1)) Hc;rw [e];exact q _ (Same.refl _)
  ·exact ⟨_,rfl,q _ (Same.refl _)⟩
  have s36:=s35.trans s6;have z3:3<=sizeLine:=by decide
  refine ⟨d2,_,rfl,.inl (SqL.of h6),_,_,rfl,rfl,_,rfl,?_⟩;rw [length_map,cnt];have sl0:1<=S.length:=by
   rcases S with _ | ⟨s0,S⟩
   ·have:(0:Int)=ls.sum:=R;omega
   ·simp
  rcases cc3 with ⟨c24,ea,rfl,hea⟩ | ⟨c24,rfl,y,lc,oc,tc,rfl,LC,GC',PG,Tl3⟩
  ·refine iteDT (show (23:Int) < ((S.length - 1:Nat):Int) by omega) ?_;have hea6:=s36 _ _ hea;refine ⟨_,rfl,.inl ⟨ea,CM,.ref CM,.ref CM,true,rfl,rfl,fun v h=>h,hea6,TX.w,TX.kk,_,rfl,.inl ⟨ea,CM,.ty "ValueError",.type "ValueError",true,rfl,rfl,fun v h=>h,hea6,TX.w,TX.kv,_,rfl,.inl ⟨ea,CM,.ref CU,.ref CU,false,rfl,rfl,fun v h=>h,hea6,TX.w,TX.ku,z3,fun kl hkl=>?_⟩⟩⟩⟩;have s7:=J3 (o:=.lst (bV [true,true,false])) hkl;have hkl7:upd H6 kl (.lst (bV [true,true,false])) kl=some (.lst (bV [true,true,false])):=J1;refine ⟨_,rfl,z3,fun k2 hk2=>?_⟩;have s8:=J3 (o:=.lst (bV [true,true,false])) hk2;refine ⟨kl,k2,_,_,rfl,rfl,SqL.of (s8 _ _ hkl7),SqL.of J1,Kin.bls [true,true,false] [true,true,false],?_⟩;have hq:=fun H'=>k H';rw [show true=decide (bV [true,true,false]=bV [true,true,false]) from (decide_eq_true rfl).symm] at hq;exact hq _
  refine iteD (show ¬ (23:Int) < ((S.length - 1:Nat):Int) by omega) ?_;refine ⟨_,rfl,rfl,false,rfl,iteF ?_⟩;have PF:=plG_plainF PG bF;have lC:=PG.len;have eC:=PG.sum;have LC6:=LC.same s36;have D6:=D3.same s36;have hS6:=s36.seq hS3;have Tl6:=Jr Tl3 s36;have hcu6:=(s5.trans s6) _ _ hcu;clear LC D3 hS3 Tl3 hcu h5 h5' h6 s36 s35 s4 s5 s6 PG cnt R nd call;refine ⟨_,rfl,_,rfl,Tl6,fun fa c' ctv H9 sT9 TL9 TQ9 cd9 nf=>⟨_,rfl,fun ob' hn hcell hval=>?_⟩⟩;have hv2:∃ u,(ob' (s.heap.objs.size + 1 + 1)).data=.cell (some u)/\RelV (V.int m) u:=by
   obtain ⟨b,u,q1,q2,q3⟩:=hval 0 _ _ rfl rfl;have q:some (s.heap.objs.size + 1 + 1)=some b:=q1;cases q;exact ⟨u,q2,q3⟩
  have hv1:∃ u,(ob' (s.heap.objs.size + 1)).data=.cell (some u)/\RelV (V.ref p) u:=by
   obtain ⟨b,u,q1,q2,q3⟩:=hval 1 _ _ rfl rfl;have q:some (s.heap.objs.size + 1)=some b:=q1;cases q;exact ⟨u,q2,q3⟩
  have LM:=lamAt2 (oc:=ob') nf (by decide) cd9 hn hv2 hv1;have S9:=(J3 (o:=.frz _ (.own fa)) nf).trans (J2d (oc:=ob') hn);obtain ⟨I0,sp,GOK,i0,hsp⟩:=lam_of (P:=P) (w:=w) (K:=K) (mg:=mg) (base:=base) (k:=2) (x:="x") (te:=tCall spGoneL [] E0 (tCons (tVar 2) (tCons (tVar 0) (tCons (tVar 1) tNil)))) LM ⟨rfl,rfl,rfl,by decide +kernel,rfl,inj2 (Nat.succ_ne_self _),freeOk.get rfl,by intro c hc;rcases mem_cons.mp hc with rfl | hc;rfl;rw [mem_singleton.mp hc];rfl⟩ rfl (fun u=>rfl)
   (fun A outer s H hr=>Jd GGn hr rfl mGn kGn bGn .nil pass0 (J0 (pv 2) (J0 (pv 0) (J0 (pv 1) J4))))
  have L9:=LC6.sameT sT9;have D9:=drT D6 sT9;have hS9:=sameT_seq sT9 hS6;refine ⟨y,fa,cu,cs,lc,oc,tc,F,I0,sp,(by rw [eC]),L9.same S9,GC',lC,S9 _ _ (sT9 _ _ hcu6 rfl),by omega,GOK,i0,fun H' z Q' sH z0 z1 hq=>?_,(fun c hc=>by rw [eC];exact cin c hc),PF,fun H' sH=>?_⟩
  ·rw [eC] at z1;have st:=(J3 (o:=.frz _ (.own fa)) nf).trans (J30 hn sH);refine hsp H' (.int z) Q' ⟨_,rfl,_,rfl,_,rfl,p,ls,os,ts,z,m,rfl,D9.same st,⟨z0,z1⟩,by omega,fun H2 s2=>?_⟩;rw [<- eF];exact hq _ (same_rest s2)
  have sz:=(J3 (o:=.frz _ (.own fa)) nf).trans (J30 hn sH);refine ⟨true,rfl,iteF ?_⟩;generalize dropC [("times",s.heap.objs.size + 1 + 1),("drawn",s.heap.objs.size + 1)] H'=Hz at sz ⊢;have L10:=L9.same sz;have D10:=D9.same sz;have hS10:=sz.seq hS9;clear sz sH H' i0 hsp GOK LM S9 hv1 hv2 hval hcell hn hS9 D9 L9 cd9 nf sT9 TL9 TQ9;refine ⟨fun σ' H'=>∃ tq,σ'=[some (.ref a),some (.int (cellN ns 0)),some (.ref p),some (.int m),some (.int ls.sum),some (.ref y),some .non,none,some (.ref cu),some (.ref gp),none,some (.ref tq),none]/\DrawnAt H' tq lc oc tc/\Same Hz H',?_,?_⟩
  ·obtain ⟨du,fu,pl,po,pt,ps,pd,h0,⟨k1,k2,k3,k4,k5,k6⟩,e1,e2,e3,e4,e5⟩:=L10.ex;refine ⟨_,rfl,y,C,du,fu,_,rfl,h0,TC.cl,TC.nL,k1,pl,_,rfl,.inr (SqT.of e1),fun a1 ha1=>?_⟩;have u1:=J3 (o:=.lst (iV lc)) ha1;refine ⟨_,rfl,y,C,du,fu,_,rfl,u1 _ _ h0,TC.cl,TC.nO,k2,po,_,rfl,.inr (SqT.of (u1 _ _ e2)),fun a2 ha2=>?_⟩;have u2:=J3 (o:=.lst (nV oc)) ha2;refine ⟨_,rfl,y,C,du,fu,_,rfl,u2 _ _ (u1 _ _ h0),TC.cl,TC.nT,k3,pt,_,rfl,.inr (SqT.of (u2 _ _ (u1 _ _ e3))),fun a3 ha3=>⟨by show 3<=sizeLine;decide,fun tq htq=>?_⟩⟩;have u3:=J3 (o:=.lst (bV tc)) ha3;have u4:=J3 (o:=.tup [.ref a1,.ref a2,.ref a3]) htq;exact ⟨tq,rfl,⟨a1,a2,a3,J1,u4 _ _ (u3 _ _ (u2 _ _ J1)),u4 _ _ (u3 _ _ J1),u4 _ _ J1⟩,u1.trans (u2.trans (u3.trans u4))⟩
  rintro σ H11 ⟨tq,rfl,DT,s11⟩;have D11:=D10.same s11;refine ⟨_,rfl,_,rfl,a,_,rfl,s11.seq hS10,fun sl hsl=>?_⟩;obtain ⟨cz,ecz,_⟩:=cut_ints ns none (some 20);have hsl2:upd H11 sl (.lst (cutV (iV ns) none (some 20))) sl=some (.lst (iV cz)):=by rw [J1,ecz]
  have u12:=J3 (o:=.lst (cutV (iV ns) none (some 20))) hsl;have DT2:=DT.same u12;have D12:=D11.same u12;generalize upd H11 sl (.lst (cutV (iV ns) none (some 20)))=H12 at hsl2 u12 DT2 D12 ⊢;refine ⟨sl,rfl,⟨_,SqL.of hsl2⟩,J1k (K:=K) (a:=sl) (xs:=iV cz) (fun i σ Hw=>∃ v12,σ=[some (.ref a),some (.int (cellN ns 0)),some (.ref p),some (.int m),some (.int ls.sum),some (.ref y),some .non,none,some (.ref cu),some (.ref gp),none,some (.ref tq),v12]/\Same H12 Hw) ⟨none,rfl,Same.refl _⟩ (fun i σ Hw _ ⟨_,_,e⟩=>SqL.of (e _ _ hsl2)) ?_ ?_⟩
  ·rintro i v σ Hw hv ⟨v12,rfl,sw⟩;obtain ⟨c,hc,rfl⟩:=mem_map.mp (mem_of_getElem? hv);have w0:0<=c % ls.sum:=Int.emod_nonneg _ (by omega);have w1:c % ls.sum < ls.sum:=Int.emod_lt_of_pos _ (by omega);refine ⟨_,rfl,_,rfl,_,rfl,_,_,rfl,rfl,pN,tq,lc,oc,tc,c % ls.sum,rfl,DT2.same sw,GC',lC,⟨w0,by rw [eC];exact w1⟩,fun H13 s13=>?_⟩;refine ⟨_,rfl,_,rfl,_,rfl,_,_,rfl,rfl,pN,_,rfl,p,ls,os,ts,c % ls.sum,m,rfl,(D12.same sw).same s13,⟨w0,w1⟩,by omega,fun H14 s14=>?_⟩;rw [<- eF];exact ⟨rfl,_,rfl,iteNS (congrArg V.int (PF.go _ w0 (by rw [eC];exact w1))) ⟨_,rfl,sw.trans (s13.trans s14)⟩⟩
  ·rintro σ Hw ⟨v12,rfl,sw⟩;exact k _
end
end R49
namespace R49
open PySem L2 Rl
theorem dflt_binds {K:PySem.W.Frag} {x qual:Str} {st:Stmt} {f TD:Addr} {fd:FuncData} {cT:Value} {dT:Option Addr} {nT:Nat} {slT:Array (Option Value)} (F:FunD K x qual st f fd TD) (lT:K.lookup TD=some ⟨cT,dT,.seq #[.none] nT,slT⟩) (ps:List Str)
  (h0:∀ (kV doc pm:Value) (an:Option Addr) (cdv ct:Value) (us:List Value),us.length=ps.length->∃ k,bindArgs (fnOf x qual (J1m st) (J10 st) (J9 st) (.ref TD) kV doc pm an cdv ct) ⟨us,[]⟩=seqItems? (.ref TD) >>= k/\k (some #[.none])=pure (ps.zip us))
  (h1:∀ (kV doc pm:Value) (an:Option Addr) (cdv ct:Value) (us:List Value),(us ++ [Value.none]).length=ps.length->∃ k,bindArgs (fnOf x qual (J1m st) (J10 st) (J9 st) (.ref TD) kV doc pm an cdv ct) ⟨us,[]⟩=seqItems? (.ref TD) >>= k/\k (some #[.none])=pure (ps.zip (us ++ [Value.none]))) :
  Binds K fd ps []/\Binds K fd ps [.none]:=by
 obtain ⟨oc,od,kV,doc,pm,an,cdv,ct,osl,rfl,lk,hcd⟩:=F.ex;refine ⟨fun s us X hl=>?_,fun s us X hl=>?_⟩
 ·rw [append_nil] at hl ⊢;obtain ⟨k,e1,e2⟩:=h0 kV doc pm an cdv ct us hl;exact BindsTo.of_defaults (T:=TD) rfl (X _ _ lT) rfl e1 e2
 ·obtain ⟨k,e1,e2⟩:=h1 kV doc pm an cdv ct us hl;exact BindsTo.of_defaults (T:=TD) rfl (X _ _ lT) rfl e1 e2
abbrev DfI (K:PySem.W.Frag) (x:Str) (st:Stmt) (f:Addr) (od an:Option Addr) (sl:Array (Option Value)) (oc kV dc pm cd ct:Value):Prop:=nsIn K mainGlobals x=some (some (.ref f))/\K.lookup f=some ⟨oc,od,.func (fnOf x x (J1m st) (J10 st) (J9 st) .none kV dc pm an cd ct),sl⟩/\codeIn K cd x=true/\keepIn K (.ref f)=true
abbrev MeI (K:PySem.W.Frag) (C:Addr) (x q:Str) (st:Stmt) (D:Value) (f:Addr) (od an:Option Addr) (sl:Array (Option Value)) (oc kV dc pm cd ct:Value):Prop:=findIn K (.ref C) x=some (some (.ref f))/\isFn K (.ref f)=true/\K.lookup f=some ⟨oc,od,.func (fnOf x q (J1m st) (J10 st) (J9 st) D kV dc pm an cd ct),sl⟩/\codeIn K cd q=true/\keepIn K (.ref f)=true
abbrev NaI (K:PySem.W.Frag) (x:Str) (C:Addr):Prop:=nsIn K mainGlobals x=some (some (.ref C))
abbrev NzI (K:PySem.W.Frag) (x:Str):Prop:=nsIn K mainGlobals x=some none
abbrev FnI (K:PySem.W.Frag) (C:Addr) (x:Str):Prop:=findIn K (.ref C) x=some none
abbrev ClI (K:PySem.W.Frag) (C:Addr):Prop:=plainGet K C Str.empty=true/\hasDictIn K C=true/\plainOver K C=true/\findIn K (.ref C) "__setattr__"=some (some (.builtin "object.__setattr__"))
abbrev MkI (K:PySem.W.Frag) (C:Addr):Prop:=makesIn K C=true/\keepIn K (.ref C)=true
theorem dfn {K:PySem.W.Frag} {h:Heap} {mg:Str->Option Value} (X:K.In h) (G:h.Ns mainGlobals mg) {x:Str} {st:Stmt} {f:Addr} {od an:Option Addr} {sl:Array (Option Value)} {oc kV dc pm cd ct:Value} (d:DfI K x st f od an sl oc kV dc pm cd ct) :
  Fun K x x st f (fnOf x x (J1m st) (J10 st) (J9 st) .none kV dc pm an cd ct)/\mg x=some (.ref f)/\keepIn K (.ref f)=true:=⟨fun_mk d.2.1 d.2.2.1 d.2.2.2,mg_of X G d.1,d.2.2.2⟩
theorem clf {K:PySem.W.Frag} {C:Addr} (d:ClI K C):Cls K C:=⟨d.1,d.2.1,d.2.2.1,d.2.2.2⟩
theorem usOf0 {P:List PySem.Value → Prop} (h : P []) : ∀ us : List PySem.Value,us.length = 0 → P us := fun us e => by
  cases us with
  | nil => exact h
  | cons a l => cases e
theorem usS {P:List PySem.Value → Prop} {n : Nat} (h : ∀ a us,us.length = n → P (a :: us)) : ∀ us : List PySem.Value,us.length = n + 1 → P us := fun us e => by
  cases us with
  | nil => cases e
  | cons a l => exact h a l (Nat.succ.inj e)
theorem usOf1 {P:List PySem.Value → Prop} (h : ∀ a0,P [a0]) : ∀ us : List PySem.Value,us.length = 1 → P us := usS fun a => usOf0 (P := fun us => P (a :: us)) (h a)
theorem usOf2 {P:List PySem.Value → Prop} (h : ∀ a0 a1,P [a0,a1]) : ∀ us : List PySem.Value,us.length = 2 → P us := usS fun a => usOf1 (P := fun us => P (a :: us)) (h a)
theorem usOf3 {P:List PySem.Value → Prop} (h : ∀ a0 a1 a2,P [a0,a1,a2]) : ∀ us : List PySem.Value,us.length = 3 → P us := usS fun a => usOf2 (P := fun us => P (a :: us)) (h a)
theorem usOf4 {P:List PySem.Value → Prop} (h : ∀ a0 a1 a2 a3,P [a0,a1,a2,a3]) : ∀ us : List PySem.Value,us.length = 4 → P us := usS fun a => usOf3 (P := fun us => P (a :: us)) (h a)
theorem usOf5 {P:List PySem.Value → Prop} (h : ∀ a0 a1 a2 a3 a4,P [a0,a1,a2,a3,a4]) : ∀ us : List PySem.Value,us.length = 5 → P us := usS fun a => usOf4 (P := fun us => P (a :: us)) (h a)
theorem all_mk {l : PySem.W.OpenLaw} {w : World} {K : PySem.W.Frag} {h : Heap} {mg : Str -> Option Value} {fa  CL CUn TB TJ TK TL cc cj ck cw CTooMany C CW : Addr} (X : K.In h) (G : h.Ns mainGlobals mg) (hfa : mg "law" = some (.ref fa))
    {f0 f1 f2 f3 f4 f5 f6 f7 f8 f9 f10 f11 f12 f13 f14 f15 f16 f17 f18 f19 f20 f21 f22 f23 f24 f25 f26 f27 f_LI f_WI : Addr} {od0 an0 od1 an1 od2 an2 od3 an3 od4 an4 od5 an5 od6 an6 od7 an7 od8 an8 od9 an9 od10 an10 od11 an11 od12 an12 od13 an13 od14 an14 od15 an15 od16 an16 od17 an17 od18 an18 od19 an19 od20 an20 od21 an21 od22 an22 od23 an23 od24 an24 od25 an25 od26 an26 od27 an27 od_LI an_LI od_WI an_WI : Option Addr} {sl0 sl1 sl2 sl3 sl4 sl5 sl6 sl7 sl8 sl9 sl10 sl11 sl12 sl13 sl14 sl15 sl16 sl17 sl18 sl19 sl20 sl21 sl22 sl23 sl24 sl25 sl26 sl27 sl_LI sl_WI : Array (Option Value)} {oc0 kV0 dc0 pm0 cd0 ct0 oc1 kV1 dc1 pm1 cd1 ct1 oc2 kV2 dc2 pm2 cd2 ct2 oc3 kV3 dc3 pm3 cd3 ct3 oc4 kV4 dc4 pm4 cd4 ct4 oc5 kV5 dc5 pm5 cd5 ct5 oc6 kV6 dc6 pm6 cd6 ct6 oc7 kV7 dc7 pm7 cd7 ct7 oc8 kV8 dc8 pm8 cd8 ct8 oc9 kV9 dc9 pm9 cd9 ct9 oc10 kV10 dc10 pm10 cd10 ct10 oc11 kV11 dc11 pm11 cd11 ct11 oc12 kV12 dc12 pm12 cd12 ct12 oc13 kV13 dc13 pm13 cd13 ct13 oc14 kV14 dc14 pm14 cd14 ct14 oc15 kV15 dc15 pm15 cd15 ct15 oc16 kV16 dc16 pm16 cd16 ct16 oc17 kV17 dc17 pm17 cd17 ct17 oc18 kV18 dc18 pm18 cd18 ct18 oc19 kV19 dc19 pm19 cd19 ct19 oc20 kV20 dc20 pm20 cd20 ct20 oc21 kV21 dc21 pm21 cd21 ct21 oc22 kV22 dc22 pm22 cd22 ct22 oc23 kV23 dc23 pm23 cd23 ct23 oc24 kV24 dc24 pm24 cd24 ct24 oc25 kV25 dc25 pm25 cd25 ct25 oc26 kV26 dc26 pm26 cd26 ct26 oc27 kV27 dc27 pm27 cd27 ct27 oc_LI kV_LI dc_LI pm_LI cd_LI ct_LI oc_WI kV_WI dc_WI pm_WI cd_WI ct_WI : Value} {TD : Addr} {dT : Option Addr} {slT : Array (Option Value)} {cT : Value} {nT : Nat}
     {t_MOST_PIECES : Tok}
    (a_L : NaI K "Line" C) (a_W : NaI K "Stretch" CW) (d0 : DfI K "refuse_lengths" sRefL f0 od0 an0 sl0 oc0 kV0 dc0 pm0 cd0 ct0) (d1 : DfI K "refuse_order" sRefO f1 od1 an1 sl1 oc1 kV1 dc1 pm1 cd1 ct1) (d2 : DfI K "refuse_turned" sRefT f2 od2 an2 sl2 oc2 kV2 dc2 pm2 cd2 ct2) (d3 : DfI K "turns_told" sTold f3 od3 an3 sl3 oc3 kV3 dc3 pm3 cd3 ct3) (d4 : DfI K "first_places" sFirst f4 od4 an4 sl4 oc4 kV4 dc4 pm4 cd4 ct4) (d5 : DfI K "stretches_of" sStrOf f5 od5 an5 sl5 oc5 kV5 dc5 pm5 cd5 ct5) (d6 : DfI K "first_goes" sFirstG f6 od6 an6 sl6 oc6 kV6 dc6 pm6 cd6 ct6) (d7 : DfI K "last_goes" sLastG f7 od7 an7 sl7 oc7 kV7 dc7 pm7 cd7 ct7) (d8 : DfI K "go_together" sGoTog f8 od8 an8 sl8 oc8 kV8 dc8 pm8 cd8 ct8) (d9 : DfI K "made_one" sMade1 f9 od9 an9 sl9 oc9 kV9 dc9 pm9 cd9 ct9) (d10 : DfI K "longest" J46 f10 od10 an10 sl10 oc10 kV10 dc10 pm10 cd10 ct10) (d11 : DfI K "line_of" sLineOf f11 od11 an11 sl11 oc11 kV11 dc11 pm11 cd11 ct11) (d12 : DfI K "parts_between" sPartsB f12 od12 an12 sl12 oc12 kV12 dc12 pm12 cd12 ct12) (d13 : DfI K "joined_stretches" sJoinS f13 od13 an13 sl13 oc13 kV13 dc13 pm13 cd13 ct13) (d14 : DfI K "back_stretches" sBackS f14 od14 an14 sl14 oc14 kV14 dc14 pm14 cd14 ct14) (d15 : DfI K "line_within" sLineW f15 od15 an15 sl15 oc15 kV15 dc15 pm15 cd15 ct15) (d16 : DfI K "repeated" J3b f16 od16 an16 sl16 oc16 kV16 dc16 pm16 cd16 ct16) (d17 : DfI K "_law_cell" sCell f17 od17 an17 sl17 oc17 kV17 dc17 pm17 cd17 ct17) (d18 : DfI K "_law_drawn" sDrawn f18 od18 an18 sl18 oc18 kV18 dc18 pm18 cd18 ct18) (d19 : DfI K "_law_goes" sLGoes f19 od19 an19 sl19 oc19 kV19 dc19 pm19 cd19 ct19) (d20 : DfI K "_law_comes" sLComes f20 od20 an20 sl20 oc20 kV20 dc20 pm20 cd20 ct20) (d21 : DfI K "_law_line" sLLine f21 od21 an21 sl21 oc21 kV21 dc21 pm21 cd21 ct21) (d22 : DfI K "_law_starts" sStarts f22 od22 an22 sl22 oc22 kV22 dc22 pm22 cd22 ct22) (d23 : DfI K "_law_plain" sLPlain f23 od23 an23 sl23 oc23 kV23 dc23 pm23 cd23 ct23) (d24 : DfI K "_law_gone" sLGone f24 od24 an24 sl24 oc24 kV24 dc24 pm24 cd24 ct24) (d25 : DfI K "_law_all_cuts" J47 f25 od25 an25 sl25 oc25 kV25 dc25 pm25 cd25 ct25) (d26 : DfI K "_law_blocks" sBlocks f26 od26 an26 sl26 oc26 kV26 dc26 pm26 cd26 ct26) (d27 : DfI K "law" sLaw f27 od27 an27 sl27 oc27 kV27 dc27 pm27 cd27 ct27) (me_LI : MeI K C "__init__" "Line.__init__" sInit (.ref TD) f_LI od_LI an_LI sl_LI oc_LI kV_LI dc_LI pm_LI cd_LI ct_LI) (lT : K.lookup TD = some ⟨cT, dT, .seq #[.none] nT, slT⟩) (me_WI : MeI K CW "__init__" "Stretch.__init__" sSrInit .none f_WI od_WI an_WI sl_WI oc_WI kV_WI dc_WI pm_WI cd_WI ct_WI) (pg_L : ClI K C) (mk_L : MkI K C) (n_L_lengths : FnI K C "lengths") (n_L_order : FnI K C "order") (n_L_turned : FnI K C "turned") (n_L_starts : FnI K C "starts") (n_L_laid : FnI K C "laid") (n_L_size : FnI K C "size") (pg_W : ClI K CW) (mk_W : MkI K CW) (n_W_first : FnI K CW "first") (n_W_length : FnI K CW "length") (n_W_laid : FnI K CW "laid") (n_W_turned : FnI K CW "turned") (z_len : NzI K "len") (z_min : NzI K "min") (z_max : NzI K "max") (z_sum : NzI K "sum") (z_sorted : NzI K "sorted") (z_list : NzI K "list") (z_range : NzI K "range") (z_tuple : NzI K "tuple") (z_isinstance : NzI K "isinstance") (z_int : NzI K "int") (z_enumerate : NzI K "enumerate") (z_abs : NzI K "abs") (z_ValueError : NzI K "ValueError") (v_MOST_PIECES : nsIn K mainGlobals "MOST_PIECES" = some (some (.int 24 t_MOST_PIECES))) (aTooMany : nsIn K mainGlobals "TooMany" = some (some (.ref CTooMany))) (xTooMany : excIn K CTooMany bmV "ValueError.__new__" = true) (hcc0 : cd11 = .ref cc) (hcd0 : PySem.W.codeHdIn K cc TB = true) (hcc1 : cd13 = .ref cj) (hcd1 : PySem.W.codeHdIn K cj TJ = true) (hcc2 : cd14 = .ref ck) (hcd2 : PySem.W.codeHdIn K ck TK = true) (hcc3 : cd27 = .ref cw) (hcd3 : PySem.W.codeHdIn K cw TL = true) (sget : specialIn K (.builtin "object.__class__") "__get__" = some (some (.builtin "getset_descriptor.__get__"))) (stk : takesIn K (.builtin "object.__class__") = some true) (iha : findIn K (.ref C) "__class__" = some (some (.builtin "object.__class__"))) (ihm : mroIn K C (.type "object") = some true) (ktL : kitOne K (.ref C) (.ref C) = some true) (aLE : nsIn K mainGlobals "LineError" = some (some (.ref CL))) (aUn : nsIn K mainGlobals "Unlike" = some (some (.ref CUn))) (oga : findIn K (.ref CTooMany) "__getattribute__" = some (some (.builtin "BaseException.__getattribute__"))) (ono : findIn K (.ref CTooMany) "__getattr__" = some none) (ocl : findIn K (.ref CTooMany) "__class__" = some (some (.builtin "object.__class__"))) (omo : mroIn K CTooMany (.type "object") = some true) (omb : mroIn K CTooMany (.type "BaseException") = some true) (ohd : hasDictIn K CTooMany = true) (oxm : exmOne K (.ref CTooMany) (.ref CL) = some true) (okk : kitOne K (.ref CTooMany) (.ref CTooMany) = some true) (okv : kitOne K (.ref CTooMany) (.type "ValueError") = some true) (oku : kitOne K (.ref CTooMany) (.ref CUn) = some false) (nt : (TB != TJ && TB != TK && TB != TL && TJ != TK && TJ != TL && TK != TL) = true)
    : (∀ P ∈ [TB, TK, TJ, TL], ∃ c, PySem.W.codeHdIn K c P = true) /\ ∃ fd : FuncData, (∀ (s : Shared) (v : Value), BindsTo s fd ⟨[v], []⟩ [("script", v)]) /\ ∀ base : Heap, K.In base -> base.Ns mainGlobals mg -> (∀ P ∈ [TB, TK, TJ, TL], BltAt base mg P) -> FnOk l.prog w K mg base CX0 8 fa fd ["script"] (spLaw K TB TJ TK TL) := by
  refine ⟨fun P hP => by
    simp only [mem_cons, not_mem_nil, or_false] at hP;rcases hP with rfl | rfl | rfl | rfl
    · exact ⟨_, hcd0⟩
    · exact ⟨_, hcd2⟩
    · exact ⟨_, hcd1⟩
    · exact ⟨_, hcd3⟩, ?_⟩
  have e := hfa.symm.trans (mg_of X G d27.1);cases e;obtain ⟨F0, m0, k0⟩ := dfn X G d0;have b0 := F0.binds (ps := ["lengths"]) fun _ _ _ _ _ _ => usOf1 fun _ => rfl
  obtain ⟨F1, m1, k1⟩ := dfn X G d1;have b1 := F1.binds (ps := ["order", "pieces"]) fun _ _ _ _ _ _ => usOf2 fun _ _ => rfl
  obtain ⟨F2, m2, k2⟩ := dfn X G d2;have b2 := F2.binds (ps := ["turned", "pieces"]) fun _ _ _ _ _ _ => usOf2 fun _ _ => rfl
  obtain ⟨F3, m3, k3⟩ := dfn X G d3;have b3 := F3.binds (ps := ["turned", "pieces"]) fun _ _ _ _ _ _ => usOf2 fun _ _ => rfl
  obtain ⟨F4, m4, k4⟩ := dfn X G d4;have b4 := F4.binds (ps := ["lengths", "order"]) fun _ _ _ _ _ _ => usOf2 fun _ _ => rfl
  obtain ⟨F5, m5, k5⟩ := dfn X G d5;have b5 := F5.binds (ps := ["line"]) fun _ _ _ _ _ _ => usOf1 fun _ => rfl
  obtain ⟨F6, m6, k6⟩ := dfn X G d6;have b6 := F6.binds (ps := ["stretch"]) fun _ _ _ _ _ _ => usOf1 fun _ => rfl
  obtain ⟨F7, m7, k7⟩ := dfn X G d7;have b7 := F7.binds (ps := ["stretch"]) fun _ _ _ _ _ _ => usOf1 fun _ => rfl
  obtain ⟨F8, m8, k8⟩ := dfn X G d8;have b8 := F8.binds (ps := ["one", "two"]) fun _ _ _ _ _ _ => usOf2 fun _ _ => rfl
  obtain ⟨F9, m9, k9⟩ := dfn X G d9;have b9 := F9.binds (ps := ["one", "two"]) fun _ _ _ _ _ _ => usOf2 fun _ _ => rfl
  obtain ⟨F10, m10, k10⟩ := dfn X G d10;have b10 := F10.binds (ps := ["stretches"]) fun _ _ _ _ _ _ => usOf1 fun _ => rfl
  obtain ⟨F11, m11, k11⟩ := dfn X G d11;have b11 := F11.binds (ps := ["stretches"]) fun _ _ _ _ _ _ => usOf1 fun _ => rfl
  obtain ⟨F12, m12, k12⟩ := dfn X G d12;have b12 := F12.binds (ps := ["one", "two"]) fun _ _ _ _ _ _ => usOf2 fun _ _ => rfl
  obtain ⟨F13, m13, k13⟩ := dfn X G d13;have b13 := F13.binds (ps := ["ones", "twos"]) fun _ _ _ _ _ _ => usOf2 fun _ _ => rfl
  obtain ⟨F14, m14, k14⟩ := dfn X G d14;have b14 := F14.binds (ps := ["line"]) fun _ _ _ _ _ _ => usOf1 fun _ => rfl
  obtain ⟨F15, m15, k15⟩ := dfn X G d15;have b15 := F15.binds (ps := ["stretches"]) fun _ _ _ _ _ _ => usOf1 fun _ => rfl
  obtain ⟨F16, m16, k16⟩ := dfn X G d16;have b16 := F16.binds (ps := ["line", "times"]) fun _ _ _ _ _ _ => usOf2 fun _ _ => rfl
  obtain ⟨F17, m17, k17⟩ := dfn X G d17;have b17 := F17.binds (ps := ["script", "k"]) fun _ _ _ _ _ _ => usOf2 fun _ _ => rfl
  obtain ⟨F18, m18, k18⟩ := dfn X G d18;have b18 := F18.binds (ps := ["script", "at", "many", "top"]) fun _ _ _ _ _ _ => usOf4 fun _ _ _ _ => rfl
  obtain ⟨F19, m19, k19⟩ := dfn X G d19;have b19 := F19.binds (ps := ["drawn", "x"]) fun _ _ _ _ _ _ => usOf2 fun _ _ => rfl
  obtain ⟨F20, m20, k20⟩ := dfn X G d20;have b20 := F20.binds (ps := ["drawn", "y"]) fun _ _ _ _ _ _ => usOf2 fun _ _ => rfl
  obtain ⟨F21, m21, k21⟩ := dfn X G d21;have b21 := F21.binds (ps := ["drawn"]) fun _ _ _ _ _ _ => usOf1 fun _ => rfl
  obtain ⟨F22, m22, k22⟩ := dfn X G d22;have b22 := F22.binds (ps := ["lengths"]) fun _ _ _ _ _ _ => usOf1 fun _ => rfl
  obtain ⟨F23, m23, k23⟩ := dfn X G d23;have b23 := F23.binds (ps := ["line", "size", "going", "cuts"]) fun _ _ _ _ _ _ => usOf4 fun _ _ _ _ => rfl
  obtain ⟨F24, m24, k24⟩ := dfn X G d24;have b24 := F24.binds (ps := ["drawn", "x", "times"]) fun _ _ _ _ _ _ => usOf3 fun _ _ _ => rfl
  obtain ⟨F25, m25, k25⟩ := dfn X G d25;have b25 := F25.binds (ps := ["drawn", "times"]) fun _ _ _ _ _ _ => usOf2 fun _ _ => rfl
  obtain ⟨F26, m26, k26⟩ := dfn X G d26;have b26 := F26.binds (ps := ["drawn"]) fun _ _ _ _ _ _ => usOf1 fun _ => rfl
  obtain ⟨F27, m27, k27⟩ := dfn X G d27;have b27 := F27.binds (ps := ["script"]) fun _ _ _ _ _ _ => usOf1 fun _ => rfl
  have mg_L := mg_of X G a_L;have cl_L := clf pg_L;have F_LI : FunD K "__init__" "Line.__init__" sInit f_LI _ TD := ⟨⟨oc_LI, od_LI, kV_LI, dc_LI, pm_LI, an_LI, cd_LI, ct_LI, sl_LI, rfl, me_LI.2.2.1, me_LI.2.2.2.1⟩, me_LI.2.2.2.2⟩;obtain ⟨b_LI, b1_LI⟩ := dflt_binds F_LI lT ["self", "lengths", "order", "turned"] (fun _ _ _ _ _ _ us hl => match us, hl with | [_, _, _, _], _ => ⟨_, rfl, rfl⟩) (fun _ _ _ _ _ _ us hl => match us, (show us.length = 3 by simpa using hl) with | [_, _, _], _ => ⟨_, rfl, rfl⟩);have mg_W := mg_of X G a_W;have cl_W := clf pg_W;have F_WI := fun_mk me_WI.2.2.1 me_WI.2.2.2.1 me_WI.2.2.2.2;have b_WI := F_WI.binds (ps := ["self", "first", "length", "laid", "turned"]) fun _ _ _ _ _ _ => usOf5 fun _ _ _ _ _ => rfl
  have T0 : Txt K mg := ⟨mg_none_of X G z_len, mg_none_of X G z_min, mg_none_of X G z_sum, mg_none_of X G z_sorted, mg_none_of X G z_list, mg_none_of X G z_range, mg_none_of X G z_tuple, ⟨_, mg_of X G v_MOST_PIECES⟩⟩;have T : TxtR mg := ⟨mg_none_of X G z_len, mg_none_of X G z_sum, mg_none_of X G z_tuple, mg_none_of X G z_list, mg_none_of X G z_range⟩;have TC : TxtC K mg C := ⟨cl_L, n_L_lengths, n_L_order, n_L_turned, n_L_starts, n_L_laid, n_L_size⟩;have TTooMany : TxtX K mg "TooMany" CTooMany := ⟨mg_of X G aTooMany, xTooMany⟩;refine ⟨fnOf "law" "law" (J1m sLaw) (J10 sLaw) (J9 sLaw) .none kV27 dc27 pm27 an27 cd27 ct27, fun s v => .of_eq rfl, fun base _ _ hBL => ?_⟩;have GF := ok_first (P := l.prog) (w := w) (base := base) F4 T;have GI := ok_init (P := l.prog) (w := w) (base := base) F_LI T0 TC (ok_refL F0 T0) b0 m0 k0 (ok_refO F1 T0) b1 m1 k1 (ok_told F3 T0 F2 b2 m2) b3 m3 k3 GF b4 m4 k4;have ML : Mk K C f_LI := ⟨mk_L.1, me_LI.1, me_LI.2.1, mk_L.2⟩;have GC := ok_cell (P := l.prog) (w := w) (base := base) F17 T;have TW : TxtSr K CW := ⟨cl_W, n_W_first, n_W_length, n_W_laid, n_W_turned⟩;have GSR := ok_sr (P := l.prog) (w := w) (mg := mg) (base := base) F_WI TW;have MSR : Mk K CW f_WI := ⟨mk_W.1, me_WI.1, me_WI.2.1, mk_W.2⟩;have GFG := ok_firstG (P := l.prog) (w := w) (mg := mg) (base := base) F6 TW;have GLG := ok_lastG (P := l.prog) (w := w) (mg := mg) (base := base) F7 TW;have GGT := ok_goTog F8 (mg_none_of X G z_abs) GFG b6 m6 k6 GLG b7 m7 k7;have GMO := ok_made1 F9 TW (mg_none_of X G z_min) MSR GSR b_WI mg_W;have GSO := ok_strOf F5 TC (mg_none_of X G z_enumerate) MSR GSR b_WI mg_W;have GLN := ok_longest F10 GGT b8 m8 k8 GMO b9 m9 k9;have BL0 := hBL TB (by simp);have BL1 := hBL TJ (by simp);have BL2 := hBL TK (by simp);have BL3 := hBL TL (by simp);have GLO := ok_lineOf F11 T (mg_none_of X G z_sorted) TW hcc0 hcd0 BL0 ML GI b_LI mg_L;have TN : TNe TB TJ TK := ⟨(by intro e; rw [e] at nt; simp at nt), (by intro e; rw [e] at nt; simp at nt), (by intro e; rw [e] at nt; simp at nt)⟩;have TL3 : TL3 TB TJ TK TL := ⟨(by intro e; rw [e] at nt; simp at nt), (by intro e; rw [e] at nt; simp at nt), (by intro e; rw [e] at nt; simp at nt)⟩;have GPB := ok_partsB F12 TW (mg_none_of X G z_max) (mg_none_of X G z_min) MSR GSR b_WI mg_W;have GJS := ok_joinS F13 T (mg_none_of X G z_sorted) TW hcc1 hcd1 BL1 GPB b12 m12 k12 GLN b10 m10 k10;have GBS := ok_backS F14 T (mg_none_of X G z_sorted) TW hcc2 hcd2 BL2 GSO b5 m5 k5 MSR GSR b_WI mg_W;have GLW := ok_lineWX F15 T (mg_of X G v_MOST_PIECES) TTooMany GLO b11 m11 k11;have GRP := J4d F16 TC TN T (mg_none_of X G z_abs) GLW b15 m15 k15 GJS b13 m13 k13 GLN b10 m10 k10 GSO b5 m5 k5 GBS b14 m14 k14 MSR GSR b_WI mg_W;have GD := ok_drawn9 F18 T GC b17 m17 k17;have GLg := ok_lgoes (P := l.prog) (w := w) (base := base) F19 T;have GLn := ok_lline F21 T ML GI b_LI mg_L;have GSt := ok_starts (P := l.prog) (w := w) (mg := mg) (base := base) F22;have TI : TxtI K C := ⟨iha, sget, stk, ihm⟩;have GPl := ok_plainF F23 T TC TI (mg_none_of X G z_abs) (mg_none_of X G z_isinstance) mg_L ktL GSt b22 m22 k22 GLg b19 m19 k19;have GLc := ok_lcomes (P := l.prog) (w := w) (base := base) F20 T;have GGn := ok_goneL F24 T (mg_none_of X G z_abs) GLg b19 m19 k19 GLc b20 m20 k20;have GAC := ok_allC F25 T (mg_none_of X G z_max) (mg_none_of X G z_abs) (mg_none_of X G z_int) GSt b22 m22 k22 GGn b24 m24 k24;have GBK := ok_blocks (P := l.prog) (w := w) (base := base) F26 T;have TX : Tx49 K mg CL CUn CTooMany := ⟨(mg_none_of X G z_isinstance), mg_of X G aLE, mg_of X G aUn, TTooMany.mg, (mg_none_of X G z_ValueError), oxm, ⟨oga, ono, ocl, sget, stk, omo, omb, ohd⟩, okk, okv, oku⟩;exact ok_law F27 T TC TX TL3 (mg_none_of X G z_abs) hcc3 hcd3 BL3 GC b17 m17 k17 GD b18 m18 k18 GBK b26 m26 k26 GLn b21 m21 k21 GRP b16 m16 k16 GAC b25 m25 k25 GGn b24 m24 k24 GPl b23 m23 k23 GLg b19 m19 k19
theorem walk {l:PySem.W.OpenLaw} {q:Program} {loose:List Str} {XP:(Str->Option Value)->Heap->Prop} {YP:World->Heap->Prop} {d:DefRec} {K:Params->PySem.W.Frag} {TB TK TJ TL:Addr} (hn:l.most=some 63) (hdf:d.params.defaults=[])
  (hY:∀ (w:World) (h:Heap),YP w h->(K w.params).In h/\∀ P∈[TB,TK,TJ,TL],h.get? P=some (PySem.W.tabObj #[]))
  (hP:∀ (w:World),∀ P∈[TB,TK,TJ,TL],(K w.params).lookup P=none)
  (F:∀ (w:World) (mg:Str->Option Value) (fa:Addr) (h:Heap),(K w.params).In h->h.Ns mainGlobals mg->mg d.name=some (.ref fa)->
   (∀ P∈[TB,TK,TJ,TL],∃ c,PySem.W.codeHdIn (K w.params) c P=true)/\∃ fd:FuncData,(∀ (s:Shared) (u:Value),BindsTo s fd ⟨[u],[]⟩ [("script",u)])/\∀ base:Heap,(K w.params).In base->base.Ns mainGlobals mg->(∀ P∈[TB,TK,TJ,TL],BltAt base mg P)->FnOk l.prog w (K w.params) mg base CX0 8 fa fd ["script"] (spLaw (K w.params) TB TJ TK TL)) :
  PySem.W.WalkO q loose XP YP l.row.toRowW d [] (fun f vs=>PySem.call f vs) :=
 L2.walk_ofU (n:=63) (k:=8) (x:="script") (CX:=fun _=>CX0) (sp:=fun w=>spLaw (K w.params) TB TJ TK TL) (Ps:=[TB,TK,TJ,TL]) hn (by decide) hdf ⟨rfl,by decide,by decide⟩ hY hP F (fun _ _ a ns hl hT hS=>⟨a,ns,rfl,hS,hl,⟨TabOk.empty (hT TB (by simp)),TabOk.empty (hT TJ (by simp)),TabOk.empty (hT TK (by simp))⟩,TabOk.empty (hT TL (by simp)),fun _=>rfl⟩) fun _ _ _ _ _ z=>z
end R49
open PySem PySem.W PyProof.Rows
namespace PySem.W.Fast
def tw5463499800037374970:=()
def tw1590256059290351118:=()
def tw17567876395256940511:=()
def tw15083826339747012574:=()
def tw9909183680044221977:=()
def tw16489130718952074163:=()
def tw1746063760818420235:=()
def tw868255788155155051:=()
def tw5178210223160298053:=()
def tw16134134710313073197:=()
end PySem.W.Fast
namespace PySem.W.Fast
def tw14806941269554846562:=()
def tw16913900027636701274:=()
def tw6644145913071211720:=()
def tw17729286592432572391:=()
def tw14557499767150664286:=()
def tw18049974026315449819:=()
def tw12104578428489400641:=()
def tw1663229261156096283:=()
def tw15058215582268406183:=()
def tw5161498128574085996:=()
def tw16742761165378339500:=()
def tw13269878297176700076:=()
def tw10021200031398904608:=()
def tw8386973355414218826:=()
def tw12269945835812854488:=()
def tw5733591372412736059:=()
def tw4195664804138361503:=()
def tw9212102851943769845:=()
def tw14625408713358106262:=()
def tw8253896252211619888:=()
def tw17592534749001152293:=()
def tw9648329851955168184:=()
def tw5397394196165030722:=()
def tw4091054080886967242:=()
def tw5916435166916203509:=()
def tw10876704912969687055:=()
def tw1163258959469355695:=()
def tw7663499912673054920:=()
def tw18254737312132167236:=()
def tw4199537167377405072:=()
def tw12501186251151181251:=()
def tw17481073821637475428:=()
def tw1748586002178182037:=()
def tw13419191105207778820:=()
def tw14926772686485512197:=()
def tw11583043434581090504:=()
def tw15252075516728256536:=()
def tw16117032069589478252:=()
def tw18377135554727467665:=()
def tw17118401490882863777:=()
def tw18084011114323861399:=()
def tw8424772129121241033:=()
def tw9585722984079905832:=()
def tw15814259732678130420:=()
def tw740720867698501193:=()
def tw9040863318891087067:=()
def tw7656997417258689258:=()
def tw16586385703744740107:=()
def tw9312603068347235994:=()
def tw3505951021184184639:=()
def tw15534463528758747478:=()
def tw1302162047860145147:=()
def tw8755453550798038370:=()
def tw2744334964288231354:=()
def tw15104768054299148319:=()
def tw9326721018350137566:=()
def tw15440098924760874566:=()
def tw13838372670433884435:=()
def tw11500966823506096131:=()
def tw8833942162386847978:=()
def tw728375956838081803:=()
def tw9513846374512457222:=()
def tw6391344798053278509:=()
def tw11177825047769223113:=()
def tw1043901659678043289:=()
def tw12137462983801262977:=()
def tw10053010009404103695:=()
def tw10696545542316961774:=()
def tw6197665421275594430:=()
def tw9278317175648848921:=()
def tw3228114182618932300:=()
def tw12102561150189940451:=()
def tw5266107096694296009:=()
def tw10200768735572938515:=()
def tw12904986146251040787:=()
def tw15940486538139197851:=()
def tw2585660546751386511:=()
def tw10117264474968568836:=()
def tw8254483371823148009:=()
def tw1609615634387042730:=()
def tw7301802003561878506:=()
def tw1701942494900959561:=()
def tw17682444802328217752:=()
def tw4031637169544573974:=()
def tw15229439169284571907:=()
def tw13428465294959171668:=()
def tw18116569110884945740:=()
def tw10191914467283847003:=()
def tw10721195081751133866:=()
def tw8625640822170522040:=()
def tw18178211821398311675:=()
def tw485639883355837657:=()
def tw16917294368825163770:=()
def tw17091382416407249577:=()
def tw13756815190532717675:=()
def tw13296003328368395108:=()
def tw15861921878969020593:=()
def tw14051213730845220076:=()
def tw9838633211188884837:=()
def tw6549917408626934867:=()
def tw5463569203589569123:=()
def tw2821318902211553631:=()
def tw16353067566579021770:=()
def tw17226468407990532353:=()
def tw9314401607156395856:=()
def tw9527067437686958378:=()
def tw13018702692330646355:=()
def tw9833484409149881199:=()
def tw10575563153267253443:=()
def tw8887538665085368764:=()
def tw5926001843672626007:=()
def tw6774758249544169648:=()
def tw15016431350404284515:=()
def tw12934732106528160554:=()
def tw13464091177314930152:=()
def tw7348710920035224049:=()
def tw4088989847830037621:=()
def tw8936499429049980436:=()
def tw9272354612392218371:=()
def tw15708420346062992553:=()
def tw17773348501359009833:=()
def tw11991393980952054993:=()
def tw409109902285268015:=()
def tw5463203949159021041:=()
def tw13742485439578814837:=()
def tw17764020166062163292:=()
def tw2179875109752724554:=()
def tw5372195300824189980:=()
def tw4573883524745390143:=()
def tw18391908117408808404:=()
def tw664497765949906313:=()
def tw16837871718553373227:=()
def tw15802986383598213306:=()
def tw1318338673983462480:=()
def tw9075535635166524615:=()
def tw10974478135419950769:=()
def tw11350509465823955422:=()
def tw4216044999335887341:=()
def tw9508020424581904753:=()
def tw4146138515677652952:=()
def tw2839566709598561829:=()
def tw3825094651556033535:=()
def tw11630357683139832688:=()
def tw15913895784177997712:=()
def tw14611645834043893592:=()
def tw13103971017480629005:=()
def tw6412037350939369999:=()
def tw9464409711758563379:=()
def tw16951668394470148162:=()
def tw9418706203882018045:=()
def tw13729467214238520084:=()
def tw8117500672233887576:=()
def tw15985208399605041239:=()
def tw6495922778606764173:=()
def tw9863563649459423538:=()
def tw13376253548107041756:=()
def tw1406651829838357577:=()
def tw267860493263349090:=()
def tw10155897642410047700:=()
def tw8104400631060339188:=()
def tw2891773000743826766:=()
end PySem.W.Fast
set_option maxRecDepth 100000 in
set_option maxHeartbeats 0 in
theorem PySem.Challenge.cw_relaid_k49_lines_repeated_holds : PySem.Challenge.rw_relaid_k49_lines_repeated.Holds := by
  w_on; o_law; k_head; (case hw => w_witness2)
  k_fill
  refine R49.walk (l := PySem.Challenge.rw_relaid_k49_lines_repeated) rfl rfl (fun w h Y => ⟨PySem.W.km_in_of Y, PySem.W.km_tabs_of Y⟩) ?P ?F
  case P =>
    intro w P hP;simp only [List.mem_cons, List.not_mem_nil, or_false] at hP;rcases hP with rfl | rfl | rfl | rfl
    all_goals kernel_rfl
  case F =>
    intro w mg fa h KX G hmg;refine' R49.all_mk KX G hmg ?a_L ?a_W ?d0 ?d1 ?d2 ?d3 ?d4 ?d5 ?d6 ?d7 ?d8 ?d9 ?d10 ?d11 ?d12 ?d13 ?d14 ?d15 ?d16 ?d17 ?d18 ?d19 ?d20 ?d21 ?d22 ?d23 ?d24 ?d25 ?d26 ?d27 ?me_LI ?lT ?me_WI ?pg_L ?mk_L ?n_L_lengths ?n_L_order ?n_L_turned ?n_L_starts ?n_L_laid ?n_L_size ?pg_W ?mk_W ?n_W_first ?n_W_length ?n_W_laid ?n_W_turned ?z_len ?z_min ?z_max ?z_sum ?z_sorted ?z_list ?z_range ?z_tuple ?z_isinstance ?z_int ?z_enumerate ?z_abs ?z_ValueError ?v_MOST_PIECES ?aTooMany ?xTooMany ?hcc0 ?hcd0 ?hcc1 ?hcd1 ?hcc2 ?hcd2 ?hcc3 ?hcd3 ?sget ?stk ?iha ?ihm ?ktL ?aLE ?aUn ?oga ?ono ?ocl ?omo ?omb ?ohd ?oxm ?okk ?okv ?oku ?nt
    case a_L | a_W => (show _ = _; k_is)
    case d0 | d1 | d2 | d3 | d4 | d5 | d6 | d7 | d8 | d9 | d10 | d11 | d12 | d13 | d14 | d15 | d16 | d17 | d18 | d19 | d20 | d21 | d22 | d23 | d24 | d25 | d26 | d27 => (refine ⟨?_, ?_, ?_, ?_⟩; k_is; k_is; k_is; k_is)
    case me_LI => (refine ⟨?_, ?_, ?_, ?_, ?_⟩; k_is; k_is; k_is; k_is; k_is)
    case lT => k_is
    case me_WI => (refine ⟨?_, ?_, ?_, ?_, ?_⟩; k_is; k_is; k_is; k_is; k_is)
    case pg_L => (refine ⟨?_, ?_, ?_, ?_⟩; k_is; k_is; k_is; k_is)
    case mk_L => (refine ⟨?_, ?_⟩; k_is; k_is)
    case n_L_lengths | n_L_order | n_L_turned | n_L_starts | n_L_laid | n_L_size => (show _ = _; k_is)
    case pg_W => (refine ⟨?_, ?_, ?_, ?_⟩; k_is; k_is; k_is; k_is)
    case mk_W => (refine ⟨?_, ?_⟩; k_is; k_is)
    case n_W_first | n_W_length | n_W_laid | n_W_turned | z_len | z_min | z_max | z_sum | z_sorted | z_list | z_range | z_tuple | z_isinstance | z_int | z_enumerate | z_abs | z_ValueError => (show _ = _; k_is)
    case v_MOST_PIECES | aTooMany => k_is
    case xTooMany => k_exc
    case hcc0 => rfl
    case hcd0 => kernel_rfl
    case hcc1 => rfl
    case hcd1 => kernel_rfl
    case hcc2 => rfl
    case hcd2 => kernel_rfl
    case hcc3 => rfl
    case hcd3 => kernel_rfl
    case sget | stk | iha | ihm => k_is
    case ktL => kit_is
    case aLE | aUn | oga | ono | ocl | omo | omb | ohd => k_is
    case oxm => kts_exm
    case okk | okv | oku => kit_is
    case nt => rfl
#print axioms PySem.Challenge.cw_relaid_k49_lines_repeated_holds
