import PyProof.Rows.All
import Wide.All
import OpenK.AllK
import Wide.FinOn
import Lean
import PyProof.EqAt
import PyProof.EqKinds
import PyProof.TupleCall
import PySem.Challenge.RW_relaid_k13_what_is_left
set_option Elab.async false
set_option linter.all false
set_option maxRecDepth 100000
set_option maxHeartbeats 4000000
namespace L2
open PySem PySem.Spec PyProof.Rows
abbrev Key:=Sum Int Str
def keyIs:Key→Value→Bool
 | .inl k,v=>Value.isInt k v
 | .inr x,v=>Value.isStrOf x v
def keyH (w:World):Key→Int
 | .inl k=>hashInt k
 | .inr x=>hashStr w x
theorem Jx:∀ {k:Key} {v:Value},keyIs k v=true→(∃ i t,k=Sum.inl i∧v=Value.int i t)∨(∃ x t,k=Sum.inr x∧v=Value.str x t)
 | .inl i,v,h=>by
  obtain ⟨t,e⟩:=Value.isInt_shape (k:=i) (v:=v) h
  exact .inl ⟨i,t,rfl,e⟩
 | .inr x,v,h=>by
  obtain ⟨t,e⟩:=Value.isStrOf_shape (x:=x) (v:=v) h
  exact .inr ⟨x,t,rfl,e⟩
theorem key_ll (a b:Int):decide ((Sum.inl a:Key)=Sum.inl b)=(a == b):=by
 by_cases e:a=b
 ·subst e;simp
 ·have h:¬ (Sum.inl a:Key)=Sum.inl b:=fun q=>e (Sum.inl.inj q)
  rw [decide_eq_false h]
  exact (beq_eq_false_iff_ne.mpr e).symm
theorem key_rr (a b:Str):decide ((Sum.inr a:Key)=Sum.inr b)=decide (a=b):=by
 by_cases e:a=b
 ·subst e;simp
 ·have h:¬ (Sum.inr a:Key)=Sum.inr b:=fun q=>e (Sum.inr.inj q)
  rw [decide_eq_false h,decide_eq_false e]
theorem key_lr (a:Int) (b:Str):decide ((Sum.inl a:Key)=Sum.inr b)=false:=decide_eq_false (fun q=>nomatch q)
theorem key_rl (a:Str) (b:Int):decide ((Sum.inr a:Key)=Sum.inl b)=false:=decide_eq_false (fun q=>nomatch q)
def mixKind (prog:Program) (w:World):PySem.KeyKind prog w Key where
 is:=keyIs
 hash:=keyH w
 inj:=fun v a b ha hb=>by
  rcases Jx ha with ⟨i,t,rfl,rfl⟩ | ⟨x,t,rfl,rfl⟩
  ·rcases Jx hb with ⟨j,u,rfl,e⟩ | ⟨y,u,rfl,e⟩
   ·injection e with e1 _;rw [e1]
   ·exact nomatch e
  ·rcases Jx hb with ⟨j,u,rfl,e⟩ | ⟨y,u,rfl,e⟩
   ·exact nomatch e
   ·injection e with e1 _;rw [e1]
 byValue:=fun k v h=>by
  rcases Jx h with ⟨i,t,rfl,rfl⟩ | ⟨x,t,rfl,rfl⟩ <;> rfl
 pyHash:=fun hv h=>by
  rcases Jx hv with ⟨i,t,rfl,rfl⟩ | ⟨x,t,rfl,rfl⟩
  ·exact wpAny_pyHash_int h
  ·exact wpAny_pyHash_str h
 eqBool:=fun hu hv h=>by
  rcases Jx hu with ⟨i,t,rfl,rfl⟩ | ⟨x,t,rfl,rfl⟩
  ·rcases Jx hv with ⟨j,u,rfl,rfl⟩ | ⟨y,u,rfl,rfl⟩
   ·rw [key_ll] at h;exact wpAny_eqBool_int h
   ·rw [key_lr] at h;exact SeqAt.EqAt.int_str i t y u _ _ _ _ h
  ·rcases Jx hv with ⟨j,u,rfl,rfl⟩ | ⟨y,u,rfl,rfl⟩
   ·rw [key_rl] at h;exact SeqAt.EqAt.str_int x t j u _ _ _ _ h
   ·rw [key_rr] at h;exact wpAny_eqBool_str h
 «strs»:=fun k x t v h=>by
  rcases Jx h with ⟨i,u,rfl,e⟩ | ⟨y,u,rfl,e⟩
  ·exact nomatch e
  ·injection e with e1 _
   subst e1
   cases v <;> rfl
end L2
namespace L2
open PySem PySem.Spec PyProof.Rows
inductive V where
 | non | bl (b:Bool) | int (i:Int) | str (x:Str) | byt (b:Array UInt8) | flt (b:UInt64) | ref (a:Addr) | ty (n:String)
 deriving DecidableEq
def RelV:V→Value→Prop
 | .non,u=>u=Value.none
 | .bl b,u=>u=Value.bool b
 | .int i,u=>∃ t,u=Value.int i t
 | .str x,u=>∃ t,u=Value.str x t
 | .byt b,u=>∃ t,u=Value.bytes b t
 | .flt b,u=>∃ t,u=Value.float b t
 | .ref a,u=>u=Value.ref a
 | .ty n,u=>u=Value.type n
abbrev Vals:List V→List Value→Prop:=Paired RelV
theorem Vals.length {xs:List V} {us:List Value} (r:Vals xs us):xs.length=us.length:=Paired.length r
theorem Vals.get:∀ {xs:List V} {us:List Value} {i:Nat} {x:V},Vals xs us→xs[i]?=some x→∃ u,us[i]?=some u∧RelV x u
 | _,_,_,_,.nil,e=>by simp at e
 | _,_,0,_,.cons r _,e=>by simp at e;subst e;exact ⟨_,rfl,r⟩
 | _,_,i + 1,x,.cons _ t,e=>by
  obtain ⟨u,h1,h2⟩:=Vals.get (i:=i) (x:=x) t (by simpa using e)
  exact ⟨u,by simpa using h1,h2⟩
theorem Vals.set {x:V} {u:Value} (r:RelV x u):∀ {xs:List V} {us:List Value} (i:Nat),Vals xs us→Vals (xs.set i x) (us.set i u)
 | _,_,_,.nil=>.nil
 | _,_,0,.cons _ t=>.cons r t
 | _,_,i + 1,.cons q t=>.cons q (Vals.set r i t)
theorem Vals.append:∀ {xs ys:List V} {us ws:List Value},Vals xs us→Vals ys ws→Vals (xs ++ ys) (us ++ ws)
 | _,_,_,_,.nil,s=>s
 | _,_,_,_,.cons r t,s=>.cons r (Vals.append t s)
theorem Vals.take:∀ {xs:List V} {us:List Value} (n:Nat),Vals xs us→Vals (xs.take n) (us.take n)
 | _,_,0,_=>.nil
 | _,_,_ + 1,.nil=>.nil
 | _,_,n + 1,.cons r t=>.cons r (Vals.take n t)
theorem Vals.drop:∀ {xs:List V} {us:List Value} (n:Nat),Vals xs us→Vals (xs.drop n) (us.drop n)
 | _,_,0,r=>r
 | _,_,_ + 1,.nil=>.nil
 | _,_,n + 1,.cons _ t=>Vals.drop n t
def RelO:Option V→Option Value→Prop
 | some v,some u=>RelV v u
 | none,none=>True
 | _,_=>False
def KV {κ:Type}:List (κ × V)→List (κ × Value)→Prop:=Paired fun (p:κ × V) (q:κ × Value)=>p.1=q.1∧RelV p.2 q.2
def kV:Key→V
 | .inl i=>.int i
 | .inr x=>.str x
inductive HO where
  | lst (xs:List V)
  | tup (xs:List V)
  | dK (kvs:List (Key × V)) | dT (kvs:List (List Key × V))
  | set (S:Int→Bool) (n:Nat)
  | ins (C dx:Addr) (fs:List (Str × V))
  | own (x:Addr)
  | xd (fs:List (Str × V))
  | met (f x:Addr)
  | rng (lo hi:Int)
  | frz (o:Obj) (u:HO)
  | tbl (ps:Array Value)
  | ext (φ:Heap→Prop)
abbrev Hp:=Addr→Option HO
def upd (H:Hp) (a:Addr) (o:HO):Hp:=fun b=>if b=a then some o else H b
theorem J3 {H:Hp} {a:Addr} {o:HO}:upd H a o a=some o:=by unfold upd;rw [if_pos rfl]
theorem Jk {H:Hp} {a b:Addr} {o:HO} (h:b≠a):upd H a o b=H b:=by unfold upd;rw [if_neg h]
theorem upd_upd {H:Hp} {a:Addr} {o u:HO}:upd (upd H a o) a u=upd H a u:=by
 funext b;unfold upd;split <;> rfl
theorem ne_of {H:Hp} {a b:Addr} {o u:HO} (h:H a=some o) (h':H b=some u) (d:o≠u):a≠b:=by
 intro e;subst e;rw [h] at h';exact d (Option.some.inj h')
theorem Jc {H:Hp} {a b:Addr} {o:HO} (h:H a=some o) (h':H b=none):a≠b:=by
 intro e;subst e;rw [h] at h';cases h'
section
variable (P:Program) (w:World)
def TupX (h:Heap) (a:Addr) (items:Array Value):Prop:=∃ o,h.get? a=some o∧(o.cls=.type "tuple"∧o.dict=none)∧∃ n,o.data=.seq items n
theorem TupX.tup {h:Heap} {a:Addr} {items:Array Value} (x:TupX h a items):IsTup h a items:=let ⟨o,e,c,r⟩:=x;⟨o,e,c.1,r⟩
theorem TupX.lt {h:Heap} {a:Addr} {items:Array Value} (x:TupX h a items):a < h.objs.size:=let ⟨_,e,_⟩:=x;Heap.lt_size e
theorem TupX.new (h:Heap) (items:Array Value):TupX (h.push { cls:=.type "tuple",data:=.seq items }) h.objs.size items:=⟨_,Heap.get?_push_size _ rfl,⟨rfl,rfl⟩,_,rfl⟩
def ObjOk (H:Hp) (h:Heap) (a:Addr):HO→Prop
 | .lst xs=>xs.length≤sizeLine∧∃ (its:List Value) (n:Nat),Vals xs its∧h.get? a=some { cls:=.type "list",data:=.seq its.toArray n }
 | .tup xs=>xs.length≤sizeLine∧∃ its:List Value,Vals xs its∧TupX h a its.toArray
 | .dK kvs=>kvs.length≤sizeLine∧(a == sysModules)=false∧∃ vs,KV kvs vs∧h.DictOf (mixKind P w) a vs
 | .dT kvs=>kvs.length≤sizeLine∧(a == sysModules)=false∧∃ xs:List (List Key × Addr × Value),
   Paired (fun (p:List Key × V) (q:List Key × Addr × Value)=>p.1=q.1∧H q.2.1=some (.tup (p.1.map kV))∧RelV p.2 q.2.2) kvs xs∧
   ∃ o es ep,h.get? a=some o∧o.ExactDict∧o.data=.dict es ep∧es.toList=xs.map (entryOfKey (tupleKind (mixKind P w)))∧(xs.map (·.1)).Nodup
 | .set S n=>h.SetOf (intKind P w) a S n
 | .ins C dx fs=>H dx=some (.own a)∧fs.length≤1000∧dx≠a∧h.get? a=some (PySem.W.instObj C dx)∧
   ∃ mA,h.Ns1 dx mA∧(∀ f,RelO (fs.lookup f) (mA f))∧PySem.Within mA (fs.map (·.1))
 | .own _=>∃ o,h.get? a=some o
 | .xd fs=>∃ mA,h.Ns1 a mA∧∀ f,RelO (fs.lookup f) (mA f)
 | .rng lo hi=>∃ t u v,h.get? a=some { cls:=.type "range",data:=.fields #[.int lo t,.int hi u,.int 1 v] }
 | .frz o u=>h.get? a=some o∧ObjOk H h a u
 | .tbl ps=>h.get? a=some { cls:=.none,data:=.fields ps }
 | .met f x=>h.get? a=some (PySem.W.methodObj (.ref f) (.ref x))
 | .ext φ=>φ h∧(∃ o,h.get? a=some o)∧∀ h1 h2:Heap,φ h1→(∀ o,h1.get? a=some o→h2.get? a=some o)→φ h2
def HOk (H:Hp) (h:Heap):Prop:=∀ a o,H a=some o→ObjOk P w H h a o
end
section
variable {P:Program} {w:World} {H H':Hp} {h h':Heap} {a:Addr} {o:HO}
theorem ObjOk.lt (x:ObjOk P w H h a o):a < h.objs.size:=by
 cases o with
 | lst xs=>obtain ⟨_,_,_,_,e⟩:=x;exact Heap.lt_size e
 | tup xs=>obtain ⟨_,_,_,p⟩:=x;exact p.lt
 | dK kvs=>obtain ⟨_,_,_,_,o,_,_,e,_⟩:=x;exact Heap.lt_size e
 | dT kvs=>obtain ⟨_,_,_,_,o,_,_,e,_⟩:=x;exact Heap.lt_size e
 | set S n=>obtain ⟨o,_,_,_,e,_⟩:=x;exact Heap.lt_size e
 | ins C dx fs=>obtain ⟨_,_,_,e,_⟩:=x;exact Heap.lt_size e
 | own y=>obtain ⟨_,e⟩:=x;exact Heap.lt_size e
 | xd fs=>obtain ⟨_,⟨_,_,_,e,_⟩,_⟩:=x;exact Heap.lt_size e
 | rng lo hi=>obtain ⟨_,_,_,e⟩:=x;exact Heap.lt_size e
 | frz ob u=>obtain ⟨e,_⟩:=x;exact Heap.lt_size e
 | tbl ps=>exact Heap.lt_size (show h.get? a=some _ from x)
 | met f y=>exact Heap.lt_size (show h.get? a=some _ from x)
 | ext φ=>obtain ⟨_,⟨_,e⟩,_⟩:=x;exact Heap.lt_size e
theorem Paired.mapP {α β:Type} {F G:α→β→Prop}:∀ {l₁:List α} {l₂:List β},Paired F l₁ l₂→(∀ a b,F a b→G a b)→Paired G l₁ l₂
 | _,_,.nil,_=>.nil
 | _,_,.cons r t,f=>.cons (f _ _ r) (Paired.mapP t f)
theorem ObjOk.stay (x:ObjOk P w H h a o) (k:∀ b u,(b=a∨H b=some (.own a))→h.get? b=some u→h'.get? b=some u)
  (ho:∀ b,H b=some (.own a)→H' b=some (.own a)) (ht:∀ b xs,H b=some (.tup xs)→H' b=some (.tup xs)):ObjOk P w H' h' a o:=by
 induction o with
 | lst xs=>obtain ⟨z,its,n,r,e⟩:=x;exact ⟨z,its,n,r,k _ _ (.inl rfl) e⟩
 | tup xs=>obtain ⟨z,its,r,ob,e,c⟩:=x;exact ⟨z,its,r,ob,k _ _ (.inl rfl) e,c⟩
 | dK kvs=>obtain ⟨z,y,vs,r,ob,es,ep,e,c⟩:=x;exact ⟨z,y,vs,r,ob,es,ep,k _ _ (.inl rfl) e,c⟩
 | dT kvs =>
  obtain ⟨z,y,xs,r,ob,es,ep,e,c⟩:=x
  exact ⟨z,y,xs,Paired.mapP r fun p q z=>⟨z.1,ht _ _ z.2.1,z.2.2⟩,ob,es,ep,k _ _ (.inl rfl) e,c⟩
 | set S n=>obtain ⟨ob,es,ep,t,e,c⟩:=x;exact ⟨ob,es,ep,t,k _ _ (.inl rfl) e,c⟩
 | ins C dx fs =>
  obtain ⟨d,z,ne,e,mA,⟨od,es,ep,e2,c⟩,r⟩:=x
  exact ⟨ho _ d,z,ne,k _ _ (.inl rfl) e,mA,⟨od,es,ep,k _ _ (.inr d) e2,c⟩,r⟩
 | own y=>obtain ⟨ob,e⟩:=x;exact ⟨ob,k _ _ (.inl rfl) e⟩
 | xd fs=>obtain ⟨mA,⟨od,es,ep,e,c⟩,r⟩:=x;exact ⟨mA,⟨od,es,ep,k _ _ (.inl rfl) e,c⟩,r⟩
 | rng lo hi=>obtain ⟨t,u,v,e⟩:=x;exact ⟨t,u,v,k _ _ (.inl rfl) e⟩
 | frz ob u ih=>obtain ⟨e,q⟩:=x;exact ⟨k _ _ (.inl rfl) e,ih q⟩
 | tbl ps =>
  have e:h.get? a=some { cls:=.none,data:=.fields ps }:=x
  show h'.get? a=some { cls:=.none,data:=.fields ps }
  exact k a _ (.inl rfl) e
 | met f y =>
  have e:h.get? a=some (PySem.W.methodObj (.ref f) (.ref y)):=x
  show h'.get? a=some (PySem.W.methodObj (.ref f) (.ref y))
  exact k a _ (.inl rfl) e
 | ext φ=>obtain ⟨p,⟨o,e⟩,st⟩:=x;exact ⟨st _ _ p fun o q=>k _ _ (.inl rfl) q,⟨o,k _ _ (.inl rfl) e⟩,st⟩
theorem HOk.lt (x:HOk P w H h) (e:H a=some o):a < h.objs.size:=(x a o e).lt
theorem HOk.fresh (x:HOk P w H h) (e:h.objs.size≤a):H a=none:=by
 cases q:H a with
 | none=>rfl
 | some u=>exact absurd (Nat.lt_of_lt_of_le (x.lt q) e) (Nat.lt_irrefl _)
theorem HOk.kept (x:HOk P w H h) (k:∀ b u,h.get? b=some u→h'.get? b=some u):HOk P w H h':=fun a o e =>
 (x a o e).stay (fun b u _ q=>k b u q) (fun _ q=>q) fun _ _ q=>q
theorem HOk.laid (x:HOk P w H h) (k:∀ b u,h.get? b=some u→h'.get? b=some u) (hp:h.objs.size≤a) (new:ObjOk P w (upd H a o) h' a o):HOk P w (upd H a o) h':=fun b u e=>by
 have hn:=x.fresh hp
 by_cases hb:b=a
 ·subst hb;rw [J3] at e;cases e;exact new
 ·rw [Jk hb] at e
  exact (x b u e).stay (fun c v _ q=>k c v q) (fun c q=>by rw [Jk (Jc q hn)];exact q) fun c xs q=>by rw [Jk (Jc q hn)];exact q
end
def Rd (H:Hp) (a:Addr) (u:HO):Prop:=H a=some u∨∃ o,H a=some (.frz o u)
theorem Rd.of {H:Hp} {a:Addr} {u:HO} (h:H a=some u):Rd H a u:=.inl h
theorem Rd.ok {P:Program} {w:World} {H:Hp} {h:Heap} {a:Addr} {u:HO} (r:Rd H a u) (x:HOk P w H h):ObjOk P w H h a u:=by
 rcases r with r | ⟨o,r⟩
 ·exact x a u r
 ·obtain ⟨_,q⟩:=x a _ r
  exact q
def Mut:Option HO→Prop
 | some (.lst _)=>True
 | some (.dK _)=>True
 | some (.dT _)=>True
 | some (.set _ _)=>True
 | some (.ins _ _ _)=>True
 | some (.ext _)=>True
 | _=>False
section
variable {P:Program} {w:World} {H:Hp} {h h':Heap} {x e:Addr} {o':HO}
theorem HOk.write (ok:HOk P w H h) (mu:Mut (H x)) (he:e=x∨H e=some (.own x)) (k:∀ b u,b≠e→h.get? b=some u→h'.get? b=some u) (heo:∃ u,h'.get? e=some u)
  (new:ObjOk P w (upd H x o') h' x o'):HOk P w (upd H x o') h':=fun b u q=>by
 have nown:∀ c y,H c=some (.own y)→c≠x:=fun c y r z=>by subst z;rw [r] at mu;exact mu
 have ntup:∀ c xs,H c=some (.tup xs)→c≠x:=fun c xs r z=>by subst z;rw [r] at mu;exact mu
 by_cases hb:b=x
 ·subst hb;rw [J3] at q;cases q;exact new
 ·rw [Jk hb] at q
  by_cases hbe:b=e
  ·have q':H b=some (.own x):=by
    rcases he with z | z
    ·exact absurd (hbe.trans z) hb
    ·rw [hbe];exact z
   rw [q] at q';cases q'
   obtain ⟨v,hv⟩:=heo
   exact ⟨v,by rw [hbe];exact hv⟩
  ·refine (ok b u q).stay (fun c v hc r=>k c v ?_ r) (fun c r=>by rw [Jk (nown c b r)];exact r) fun c xs r=>by rw [Jk (ntup c xs r)];exact r
   rcases hc with rfl | hc
   ·exact hbe
   ·rintro rfl
    rcases he with z | z
    ·exact nown c b hc z
    ·rw [hc] at z;cases z;exact hb rfl
end
structure Un (fs ex:List Addr) (H H':Hp) (h h':Heap):Prop where
 keep:∀ b o,h.get? b=some o→H b=none→b ∉ fs→b ∉ ex→h'.get? b=some o
 slot:∀ b o,h.get? b=some o→H b=none→b∈fs→b ∉ ex→∃ sl,h'.get? b=some { o with slots:=sl }
 free:∀ b o,h.get? b=some o→H b=none→b ∉ ex→H' b=none
 there:∀ b o,h.get? b=some o→b ∉ ex→∃ o',h'.get? b=some o'
 tups:∀ b xs,H b=some (.tup xs)→H' b=some (.tup xs)
 frzs:∀ b o u,H b=some (.frz o u)→H' b=some (.frz o u)
 tbls:∀ b ps,H b=some (.tbl ps)→∃ more,H' b=some (.tbl (ps ++ more))
section
variable {fs fs' ex ex':List Addr} {H H1 H2:Hp} {h h1 h2 h':Heap} {a x e:Addr} {o:HO}
theorem Un.any (u:Un fs ex H H1 h h1) {b:Addr} {ob:Obj} (q:h.get? b=some ob) (n:H b=none) (hx:b ∉ ex):∃ sl,h1.get? b=some { ob with slots:=sl }:=by
 by_cases hb:b∈fs
 ·exact u.slot b ob q n hb hx
 ·exact ⟨ob.slots,u.keep b ob q n hb hx⟩
theorem Un.trans (a:Un fs ex H H1 h h1) (b:Un fs ex H1 H2 h1 h2):Un fs ex H H2 h h2 where
 keep:=fun c ob q n hc hx=>b.keep c ob (a.keep c ob q n hc hx) (a.free c ob q n hx) hc hx
 slot:=fun c ob q n hc hx=>by
  obtain ⟨sl,e1⟩:=a.slot c ob q n hc hx
  obtain ⟨sl',e2⟩:=b.slot c _ e1 (a.free c ob q n hx) hc hx
  exact ⟨sl',e2⟩
 free:=fun c ob q n hx=>by
  obtain ⟨o',e1⟩:=a.there c ob q hx
  exact b.free c o' e1 (a.free c ob q n hx) hx
 there:=fun c ob q hx=>by
  obtain ⟨o',e1⟩:=a.there c ob q hx
  exact b.there c o' e1 hx
 tups:=fun c xs q=>b.tups c xs (a.tups c xs q)
 frzs:=fun c ob xs q=>b.frzs c ob xs (a.frzs c ob xs q)
 tbls:=fun c ps q=>by
  obtain ⟨m1,e1⟩:=a.tbls c ps q
  obtain ⟨m2,e2⟩:=b.tbls c _ e1
  exact ⟨m1 ++ m2,by rw [e2,Array.append_assoc]⟩
theorem Un.kept (k:∀ b u,h.get? b=some u→h'.get? b=some u):Un fs ex H H h h' :=
 ⟨fun b ob q _ _ _=>k b ob q,fun b ob q _ _ _=>⟨ob.slots,k b ob q⟩,fun _ _ _ n _=>n,fun b ob q _=>⟨ob,k b ob q⟩,fun _ _ q=>q,fun _ _ _ q=>q,fun _ ps q=>⟨#[],by rw [q];simp⟩⟩
theorem Un.refl:Un fs ex H H h h:=Un.kept fun _ _ q=>q
theorem Un.laid (k:∀ b u,h.get? b=some u→h'.get? b=some u) (hp:h.objs.size≤a) (hn:H a=none):Un fs ex H (upd H a o) h h' where
 keep:=fun b u q _ _ _=>k b u q
 slot:=fun b u q _ _ _=>⟨u.slots,k b u q⟩
 free:=fun b u q n _=>by rw [Jk (Nat.ne_of_lt (Nat.lt_of_lt_of_le (Heap.lt_size q) hp))];exact n
 there:=fun b u q _=>⟨u,k b u q⟩
 tups:=fun b xs q=>by rw [Jk (Jc q hn)];exact q
 frzs:=fun b u xs q=>by rw [Jk (Jc q hn)];exact q
 tbls:=fun b ps q=>⟨#[],by rw [Jk (Jc q hn),q];simp⟩
theorem Un.write (mu:Mut (H x)) (he:e=x∨H e=some (.own x)) (k:∀ b u,b≠e→h.get? b=some u→h'.get? b=some u) (heo:∃ u,h'.get? e=some u):Un fs ex H (upd H x o) h h':=by
 have hx:∀ b,H b=none→b≠x:=fun b n z=>by subst z;rw [n] at mu;exact mu
 have hb:∀ b,H b=none→b≠e:=fun b n z=>by
  subst z
  rcases he with r | r
  ·exact hx b n r
  ·rw [n] at r;cases r
 have hm:∀ b u,H b=some u→¬ Mut (some u)→b≠x:=fun b u q nm z=>by subst z;rw [q] at mu;exact nm mu
 refine ⟨fun b u q n _ _=>k b u (hb b n) q,fun b u q n _ _=>⟨u.slots,k b u (hb b n) q⟩,fun b u q n _=>by rw [Jk (hx b n)];exact n,fun b u q _=>?_,
  fun b xs q=>by rw [Jk (hm b _ q fun z=>z)];exact q,fun b u xs q=>by rw [Jk (hm b _ q fun z=>z)];exact q,fun b ps q=>⟨#[],by rw [Jk (hm b _ q fun z=>z),q];simp⟩⟩
 by_cases hbe:b=e
 ·subst hbe;exact heo
 ·exact ⟨u,k b u hbe q⟩
theorem Un.mono (u:Un fs ex H H1 h h1) (hs:∀ b∈fs,b∈fs') (hx:∀ b∈ex,b∈ex'):Un fs' ex' H H1 h h1 :=
 ⟨fun b ob q n hb he=>u.keep b ob q n (fun z=>hb (hs b z)) fun z=>he (hx b z),fun _ _ q n _ he=>u.any q n fun z=>he (hx _ z),fun b ob q n he=>u.free b ob q n fun z=>he (hx b z),fun b ob q he=>u.there b ob q fun z=>he (hx b z),u.tups,u.frzs,u.tbls⟩
end
def trk (h:Heap) (H:Hp):List Addr:=(List.range h.objs.size).filter fun a=>(H a).isSome
def hidT (h:Heap) (H:Hp):Heap:=PySem.W.hideAll h (trk h H)
theorem hidT_size (h:Heap) (H:Hp):(hidT h H).objs.size=h.objs.size:=PySem.W.hideAll_size _ _
theorem hidT_get {h:Heap} {H:Hp} {b:Addr} {o:Obj} (e:h.get? b=some o) (n:H b=none):(hidT h H).get? b=some o :=
 PySem.W.hideAll_get _ e fun hm=>by
  have q:(H b).isSome=true:=(List.mem_filter.mp hm).2
  rw [n] at q;simp at q
theorem of_hidT {h:Heap} {H:Hp} {b:Addr} {o:Obj} (e:(hidT h H).get? b=some o):h.get? b=some o∧H b=none:=by
 have e':h.get? b=some o:=PySem.W.of_hideAll (trk h H) e
 refine ⟨e',?_⟩
 cases q:H b with
 | none=>rfl
 | some x =>
  have hm:b∈trk h H:=List.mem_filter.mpr ⟨List.mem_range.mpr (Heap.lt_size e'),by simp [q]⟩
  have z:(hidT h H).get? b=none:=PySem.W.hideAll_none (trk h H) hm
  rw [z] at e;cases e
def allNews (g h:Heap) (L:Addr):List (Addr × Obj):=(List.range h.objs.size).filterMap fun a=>if a=L∨(g.get? a).isSome=true then none else (h.get? a).map fun o=>(a,o)
def rest (g h:Heap) (L d:Addr):List (Addr × Obj):=(allNews g h L).filter fun p=>decide (p.1≠d)
end L2
namespace L2
open PySem PySem.Spec PyProof.Rows
structure Mod (K:PySem.W.Frag) (mg:Str→Option Value) (base:Heap):Prop where
 kin:K.In base
 glob:base.Ns mainGlobals mg
 blt:∃ mb,base.Ns builtinsNs mb∧∀ x:Str,x≠"__name__"→mb x=bootBuiltins x
 nolimit:base.NoLimit
structure Cx where
 prog:Program
 w:World
 K:PySem.W.Frag
 mg:Str→Option Value
 base:Heap
 A:Around
 N:List Str
 s₀:Shared
 H₀:Hp
 env:Env
 outer:List Env
 stack:List Env
 ex:List Addr
 fn:Str→Bool
 calm:Bool
 pn:List (Addr × Obj)
 xe:Value→Shared→Prop
def frs (l:List Env):List Addr:=l.filterMap (·.frame)
abbrev Cx.fs (X:Cx):List Addr:=frs X.outer
def Vis (sc:Scope) (x:Str):Prop:=sc.names.lookup x=some .local∨sc.names.lookup x=some .cell∨sc.names.lookup x=some .free
def Loc (sc:Scope) (x:Str):Prop:=sc.names.lookup x=some .local∨sc.names.lookup x=some .cell
def Look (env:Env) (h:Heap) (m:Str→Option Value) (x:Str) (u:Value):Prop :=
 (env.kindOf x=some .local∧m x=some u)∨((env.kindOf x=some .cell∨env.kindOf x=some .free)∧∃ c,env.cells.lookup x=some c∧h.IsCell c (some u))
structure Cx.Ok (X:Cx):Prop where
 mod:Mod X.K X.mg X.base
 kind:X.env.scope.kind=.function
 glob:X.env.globals=mainGlobals
 blt:X.env.builtins=builtinsNs
 above:X.s₀.heap.objs.size≤X.env.locals
 inj:∀ x y c,X.env.cells.lookup x=some c→X.env.cells.lookup y=some c→x=y
 has:∀ x,(X.env.kindOf x=some .cell∨X.env.kindOf x=some .free)→∃ c,X.env.cells.lookup x=some c
 cab:∀ x c,X.fn x=true→X.env.cells.lookup x=some c→X.s₀.heap.objs.size≤c
 hd:X.calm=true→X.A.handled=none
 frames:X.A.frames=some X.stack
 stk:X.stack=X.outer∨(X.stack=X.env :: X.outer∧X.env.frame=some X.env.locals)
 exf:∀ b∈X.ex,b≠X.env.locals∧∀ x c,X.env.cells.lookup x=some c→c≠b
 bs:∀ b o,X.base.get? b=some o→X.s₀.heap.get? b=some o∧X.H₀ b=none
 bsz:X.base.objs.size≤X.s₀.heap.objs.size
 noex:∀ b o,X.base.get? b=some o→b ∉ X.ex
 exfs:∀ b∈X.ex,b ∉ X.fs
 funs:X.s₀.heap.FunFrames X.base X.outer
 frf:∀ b∈X.fs,X.H₀ b=none
structure Inv (X:Cx) (pins:List (Addr × Obj)) (σ:List (Option V)) (H:Hp) (s:Shared):Prop where
 ok:X.Ok
 os:s.os=X.s₀.os
 bare:AllBare s.gens
 base:Un X.fs X.ex X.H₀ H X.s₀.heap s.heap
 loc:∃ m,s.heap.Ns X.env.locals m∧∀ (i:Nat) (x:Str) (v:V),X.N[i]?=some x→σ[i]?=some (some v)→Vis X.env.scope x→∃ u,RelV v u∧Look X.env s.heap m x u
 cell:∀ x c,X.env.cells.lookup x=some c→∃ v,s.heap.IsCell c v
 free:H X.env.locals=none
 freeC:∀ x c,X.env.cells.lookup x=some c→H c=none
 pin:∀ p∈X.pn ++ pins,s.heap.get? p.1=some p.2∧H p.1=none∧p.1≠X.env.locals∧p.1 ∉ X.fs∧∀ v,p.2.data≠.cell v
 hok:HOk X.prog X.w H s.heap
 len:σ.length=X.N.length
section
variable {X:Cx} {pins:List (Addr × Obj)} {σ:List (Option V)} {H H':Hp} {s:Shared} {h':Heap}
theorem Cx.Ok.nofr (ok:X.Ok) {b:Addr} {o:Obj} (e:X.base.get? b=some o):b ∉ X.fs:=fun hb=>by
 have:=(ok.funs.mem hb).1
 rw [e] at this;cases this
theorem Inv.bs (I:Inv X pins σ H s):∀ b o,X.base.get? b=some o→s.heap.get? b=some o∧H b=none:=fun b o e =>
 ⟨I.base.keep b o (I.ok.bs b o e).1 (I.ok.bs b o e).2 (I.ok.nofr e) (I.ok.noex b o e),I.base.free b o (I.ok.bs b o e).1 (I.ok.bs b o e).2 (I.ok.noex b o e)⟩
theorem Inv.bk (I:Inv X pins σ H s):∀ b o,X.base.get? b=some o→s.heap.get? b=some o:=fun b o e=>(I.bs b o e).1
theorem Inv.mod (I:Inv X pins σ H s):Mod X.K X.mg X.base:=I.ok.mod
theorem Inv.kIn (I:Inv X pins σ H s):X.K.In s.heap:=I.ok.mod.kin.keeps I.bk
theorem Inv.lt (I:Inv X pins σ H s):X.env.locals < s.heap.objs.size:=let ⟨_,hn,_⟩:=I.loc;hn.lt
theorem Inv.sz (I:Inv X pins σ H s):X.s₀.heap.objs.size≤s.heap.objs.size:=Nat.le_trans I.ok.above (Nat.le_of_lt I.lt)
theorem Inv.nofs (I:Inv X pins σ H s) {a:Addr} (h:s.heap.objs.size≤a):a ∉ X.fs:=fun hb=>by
 obtain ⟨_,o,ho,_⟩:=I.ok.funs.mem hb
 exact absurd (Nat.lt_of_lt_of_le (Heap.lt_size ho) (Nat.le_trans I.sz h)) (Nat.lt_irrefl _)
theorem Inv.cne (I:Inv X pins σ H s):∀ x c,X.env.cells.lookup x=some c→c≠X.env.locals:=fun x c e z=>by
 obtain ⟨v,o,ho,hd⟩:=I.cell x c e
 obtain ⟨m,⟨o',es,ep,ho',hd',_⟩,_⟩:=I.loc
 rw [z,ho'] at ho;cases ho;rw [hd'] at hd;cases hd
theorem Inv.funs (I:Inv X pins σ H s):s.heap.FunFrames X.base X.outer:=by
 have all:∀ (l:List Env),(∀ b∈frs l,b∈X.fs)→X.s₀.heap.FunFrames X.base l→s.heap.FunFrames X.base l:=by
  intro l
  induction l with
  | nil=>intro _ _;trivial
  | cons env r ih =>
   intro hs hl
   obtain ⟨hk,⟨L,o,hf,hn,ho,hd⟩,hr⟩:=hl
   have hL:L∈X.fs:=hs L (by unfold frs;rw [List.filterMap_cons,hf];exact List.mem_cons_self)
   obtain ⟨sl,e⟩:=I.base.slot L o ho (I.ok.frf L hL) hL fun z=>I.ok.exfs L z hL
   exact ⟨hk,⟨L,_,hf,hn,e,hd⟩,ih (fun b hb=>hs b (by unfold frs;rw [List.filterMap_cons,hf];exact List.mem_cons_of_mem _ hb)) hr⟩
 exact all X.outer (fun _ hb=>hb) I.ok.funs
theorem Inv.stack (I:Inv X pins σ H s):s.heap.FunFrames X.base X.stack:=by
 rcases I.ok.stk with e | ⟨e,hf⟩
 ·rw [e];exact I.funs
 ·rw [e]
  obtain ⟨m,hn,_⟩:=I.loc
  refine .cons (by rw [I.ok.kind];decide) hf hn ?_ I.funs
  exact Heap.get?_none_of_le (Nat.le_trans I.ok.bsz I.ok.above)
theorem Inv.stkSub (I:Inv X pins σ H s):∀ b∈frs X.stack,b∈X.env.locals :: X.fs:=fun b hb=>by
 rcases I.ok.stk with e | ⟨e,hf⟩
 ·rw [e] at hb;exact List.mem_cons_of_mem _ hb
 ·rw [e] at hb
  unfold frs at hb
  rw [List.filterMap_cons,hf] at hb
  exact hb
theorem Inv.stkFree (I:Inv X pins σ H s):∀ b∈frs X.stack,H b=none:=fun b hb=>by
 rcases List.mem_cons.mp (I.stkSub b hb) with e | hb
 ·rw [e];exact I.free
 ·obtain ⟨_,o,ho,_⟩:=I.ok.funs.mem hb
  exact I.base.free b o ho (I.ok.frf b hb) fun z=>I.ok.exfs b z hb
theorem Inv.step {g':Array GenState} {t':Nat} {d':Drawn} {ch:List Addr} (I:Inv X pins σ H s)
  (hch:∀ b∈ch,(b∈X.ex∨X.s₀.heap.objs.size≤b)∧b≠X.env.locals∧(∀ x c,X.env.cells.lookup x=some c→c≠b)∧∀ p∈X.pn ++ pins,p.1≠b)
  (keep:∀ b o,b≠X.env.locals→b ∉ X.fs→b ∉ ch→s.heap.get? b=some o→H b=none→h'.get? b=some o)
  (slot:∀ b o,b≠X.env.locals→b∈X.fs→b ∉ ch→s.heap.get? b=some o→H b=none→∃ sl,h'.get? b=some { o with slots:=sl }) (free:∀ b o,b ∉ ch→s.heap.get? b=some o→H b=none→H' b=none)
  (there:∀ b o,b ∉ ch→s.heap.get? b=some o→∃ o',h'.get? b=some o')
  (tups:∀ b xs,H b=some (.tup xs)→H' b=some (.tup xs)) (frzs:∀ b o u,H b=some (.frz o u)→H' b=some (.frz o u)) (tbls:∀ b ps,H b=some (.tbl ps)→∃ more,H' b=some (.tbl (ps ++ more)))
  (ns:∀ m,s.heap.Ns X.env.locals m→h'.Ns X.env.locals m) (hok:HOk X.prog X.w H' h') (hg:AllBare g') :
  Inv X pins σ H' { s with heap:=h',gens:=g',drawn:=d',toks:=t' }:=by
 have neL:∀ b o,X.s₀.heap.get? b=some o→b≠X.env.locals:=fun b o e=>Nat.ne_of_lt (Nat.lt_of_lt_of_le (Heap.lt_size e) I.ok.above)
 have neC:∀ b o,X.s₀.heap.get? b=some o→b ∉ X.ex→b ∉ ch:=fun b o e hx hb=>by
  rcases (hch b hb).1 with z | z
  ·exact hx z
  ·exact absurd (Nat.lt_of_lt_of_le (Heap.lt_size e) z) (Nat.lt_irrefl _)
 have cellK:∀ x c,X.env.cells.lookup x=some c→∀ v,s.heap.IsCell c v→h'.IsCell c v:=fun x c e v ⟨o,ho,hd⟩=>by
  have nch:c ∉ ch:=fun z=>(hch c z).2.2.1 x c e rfl
  by_cases hc:c∈X.fs
  ·obtain ⟨sl,q⟩:=slot c o (I.cne x c e) hc nch ho (I.freeC x c e)
   exact ⟨_,q,hd⟩
  ·exact ⟨o,keep c o (I.cne x c e) hc nch ho (I.freeC x c e),hd⟩
 refine ⟨I.ok,I.os,hg,⟨fun b o e n hb hx=>?_,fun b o e n hb hx=>?_,fun b o e n hx=>?_,fun b o e hx=>?_,fun b xs e=>tups b xs (I.base.tups b xs e),fun b o xs e=>frzs b o xs (I.base.frzs b o xs e),fun b ps e=>?_⟩,?_,fun x c e=>?_,?_,fun x c e=>?_,fun p hp=>?_,hok,I.len⟩
 ·exact keep b o (neL b o e) hb (neC b o e hx) (I.base.keep b o e n hb hx) (I.base.free b o e n hx)
 ·obtain ⟨sl,e1⟩:=I.base.slot b o e n hb hx
  obtain ⟨sl',e2⟩:=slot b _ (neL b o e) hb (neC b o e hx) e1 (I.base.free b o e n hx)
  exact ⟨sl',e2⟩
 ·obtain ⟨o',e1⟩:=I.base.there b o e hx
  exact free b o' (neC b o e hx) e1 (I.base.free b o e n hx)
 ·obtain ⟨o',e1⟩:=I.base.there b o e hx
  exact there b o' (neC b o e hx) e1
 ·obtain ⟨m1,e1⟩:=I.base.tbls b ps e
  obtain ⟨m2,e2⟩:=tbls b _ e1
  exact ⟨m1 ++ m2,by rw [e2,Array.append_assoc]⟩
 ·obtain ⟨m,hn,hl⟩:=I.loc
  refine ⟨m,ns m hn,fun i x v e1 e2 e3=>?_⟩
  obtain ⟨u,r,l⟩:=hl i x v e1 e2 e3
  refine ⟨u,r,?_⟩
  rcases l with l | ⟨k,c,e,z⟩
  ·exact .inl l
  ·exact .inr ⟨k,c,e,cellK x c e _ z⟩
 ·obtain ⟨v,z⟩:=I.cell x c e
  exact ⟨v,cellK x c e v z⟩
 ·obtain ⟨m,⟨o,_,_,ho,_⟩,_⟩:=I.loc
  exact free _ o (fun z=>(hch _ z).2.1 rfl) ho I.free
 ·obtain ⟨v,o,ho,hd⟩:=I.cell x c e
  exact free c o (fun z=>(hch c z).2.2.1 x c e rfl) ho (I.freeC x c e)
 ·obtain ⟨e,n,ne,nf,d⟩:=I.pin p hp
  have nch:p.1 ∉ ch:=fun z=>(hch p.1 z).2.2.2 p hp rfl
  exact ⟨keep p.1 p.2 ne nf nch e n,free p.1 p.2 nch e n,ne,nf,d⟩
theorem Inv.un {t':Nat} (I:Inv X pins σ H s) (u:Un X.fs [] H H' s.heap h') (hok:HOk X.prog X.w H' h'):Inv X pins σ H' { s with heap:=h',toks:=t' }:=by
 obtain ⟨m,⟨o,es,ep,ho,r⟩,_⟩:=id I.loc
 obtain ⟨sl,hL⟩:=u.any ho I.free (by simp)
 exact I.step (g':=s.gens) (d':=s.drawn) (ch:=[]) (fun _ z=>nomatch z) (fun b o _ hb _ e n=>u.keep b o e n hb (by simp)) (fun b o _ hb _ e n=>u.slot b o e n hb (by simp)) (fun b o _ e n=>u.free b o e n (by simp)) (fun b o _ e=>u.there b o e (by simp)) u.tups u.frzs u.tbls (fun m' hm=>by
  obtain ⟨o',es',ep',ho',r'⟩:=hm
  rw [ho] at ho';cases ho'
  exact ⟨_,es',ep',hL,r'⟩) hok I.bare
theorem Inv.call {g':Array GenState} {t':Nat} {d':Drawn} {ch:List Addr} (I:Inv X pins σ H s) (u:Un (frs X.stack) ch H H' s.heap h') (hok:HOk X.prog X.w H' h') (hg:AllBare g')
  (hch:∀ b∈ch,(b∈X.ex∨X.s₀.heap.objs.size≤b)∧b≠X.env.locals∧(∀ x c,X.env.cells.lookup x=some c→c≠b)∧∀ p∈X.pn ++ pins,p.1≠b) :
  Inv X pins σ H' { s with heap:=h',gens:=g',drawn:=d',toks:=t' }:=by
 obtain ⟨m,⟨o,es,ep,ho,r⟩,_⟩:=id I.loc
 obtain ⟨sl,hL⟩:=u.any ho I.free fun z=>(hch _ z).2.1 rfl
 exact I.step (ch:=ch) hch (fun b o hL hb hc e n=>u.keep b o e n (fun z=>(List.mem_cons.mp (I.stkSub b z)).elim hL hb) hc) (fun b o _ _ hc e n=>u.any e n hc) (fun b o hc e n=>u.free b o e n hc) (fun b o hc e=>u.there b o e hc) u.tups u.frzs u.tbls (fun m' hm=>by
  obtain ⟨o',es',ep',ho',r'⟩:=hm
  rw [ho] at ho';cases ho'
  exact ⟨_,es',ep',hL,r'⟩) hok hg
theorem Inv.turned {t':Nat} {it:Addr} (I:Inv X pins σ H s) (k:∀ b o,b≠it→s.heap.get? b=some o→h'.get? b=some o) (hn:H it=none) (hL:it≠X.env.locals)
  (h1:it∈X.ex∨X.s₀.heap.objs.size≤it) (h2:∀ x c,X.env.cells.lookup x=some c→c≠it) (h3:∀ p∈X.pn ++ pins,p.1≠it):Inv X pins σ H { s with heap:=h',toks:=t' }:=by
 have nit:∀ b u,H b=some u→b≠it:=fun b u e z=>by rw [z,hn] at e;cases e
 refine I.step (g':=s.gens) (d':=s.drawn) (ch:=[it]) (fun b hb=>?_) (fun b o _ _ hc e _=>k b o (fun z=>hc (by simp [z])) e) (fun b o _ _ hc e _=>⟨o.slots,k b o (fun z=>hc (by simp [z])) e⟩) (fun _ _ _ _ n=>n)
  (fun b o hc e=>⟨o,k b o (fun z=>hc (by simp [z])) e⟩) (fun _ _ e=>e) (fun _ _ _ e=>e) (fun b ps e=>⟨#[],by rw [e];simp⟩) (fun m hm=>?_) (fun b u e=>?_) I.bare
 ·have e:b=it:=by simpa using hb
  subst e
  exact ⟨h1,hL,h2,h3⟩
 ·obtain ⟨o,es,ep,ho,r⟩:=hm
  exact ⟨o,es,ep,k _ o (Ne.symm hL) ho,r⟩
 ·refine (I.hok b u e).stay (fun c v hc q=>k c v ?_ q) (fun _ q=>q) fun _ _ q=>q
  rcases hc with z | z
  ·rw [z];exact nit b u e
  ·exact nit c _ z
theorem Inv.tok (I:Inv X pins σ H s) (t:Nat):Inv X pins σ H { s with toks:=t }:=I.un (h':=s.heap) (t':=t) Un.refl I.hok
theorem Inv.kept {t':Nat} (I:Inv X pins σ H s) (k:∀ b u,s.heap.get? b=some u→h'.get? b=some u):Inv X pins σ H { s with heap:=h',toks:=t' }:=I.un (Un.kept k) (I.hok.kept k)
theorem Inv.laid {a:Addr} {o:HO} {t':Nat} (I:Inv X pins σ H s) (k:∀ b u,s.heap.get? b=some u→h'.get? b=some u) (hp:s.heap.objs.size≤a) (new:ObjOk X.prog X.w (upd H a o) h' a o) :
  Inv X pins σ (upd H a o) { s with heap:=h',toks:=t' }:=I.un (Un.laid k hp (I.hok.fresh hp)) (I.hok.laid k hp new)
theorem Inv.write {x e:Addr} {o:HO} {t':Nat} (I:Inv X pins σ H s) (mu:Mut (H x)) (he:e=x∨H e=some (.own x)) (k:∀ b u,b≠e→s.heap.get? b=some u→h'.get? b=some u) (heo:∃ u,h'.get? e=some u)
  (new:ObjOk X.prog X.w (upd H x o) h' x o):Inv X pins σ (upd H x o) { s with heap:=h',toks:=t' }:=I.un (Un.write mu he k heo) (I.hok.write mu he k heo new)
theorem Inv.pins_of {pins':List (Addr × Obj)} (I:Inv X pins σ H s) (h:∀ p∈pins',s.heap.get? p.1=some p.2∧H p.1=none∧p.1≠X.env.locals∧p.1 ∉ X.fs∧∀ v,p.2.data≠.cell v):Inv X pins' σ H s :=
 ⟨I.ok,I.os,I.bare,I.base,I.loc,I.cell,I.free,I.freeC,fun p hp=>(List.mem_append.mp hp).elim (fun z=>I.pin p (List.mem_append_left _ z)) (h p),I.hok,I.len⟩
theorem J5b {N:List Str} (hN:N.Nodup) {i j:Nat} {x:Str} (a:N[i]?=some x) (b:N[j]?=some x):i=j:=by
 obtain ⟨h1,e1⟩:=List.getElem?_eq_some_iff.mp a
 obtain ⟨h2,e2⟩:=List.getElem?_eq_some_iff.mp b
 exact (List.getElem_inj hN).mp (e1.trans e2.symm)
theorem store_ok2 {M:Model} {A:Around} {E:Value→Shared→Prop} {i:Nat} {x:Str} {v:V} {u:Value} {Q:Unit→Shared→Prop} (I:Inv X pins σ H s) (hN:X.N.Nodup) (hi:X.N[i]?=some x) (hx:Loc X.env.scope x) (r:RelV v u)
  (h:∀ s',Inv X pins (σ.set i (some v)) H s'→(∃ a,Heap.SameBut a s.heap s'.heap∧(a=X.env.locals∨X.env.cells.lookup x=some a))→Q () s') (hf:X.fn x=true∨X.env.scope.names.lookup x=some .local:=by first | exact .inl rfl | exact .inr rfl | assumption):wpAny M A (storeName X.env x u) Q E s:=by
 obtain ⟨m,hn,hl⟩:=id I.loc
 have hcls:(X.env.scope.kind == .class || (X.env.scope.kind == .module && X.env.locals != X.env.globals))=false:=by rw [I.ok.kind];rfl
 have hiσ:i < σ.length:=by rw [I.len];exact (List.getElem?_eq_some_iff.mp hi).1
 have cne:=I.cne
 have tracked:∀ {a:Addr} {h':Heap},(∃ o,s.heap.get? a=some o∧H a=none)→Heap.SameBut a s.heap h'→HOk X.prog X.w H h':=fun {a h'} ha hs b ob e=>by
  obtain ⟨_,_,hfree⟩:=ha
  refine (I.hok b ob e).stay (fun c w' hc q=>(hs.2 c ?_).trans q) (fun _ q=>q) fun _ _ q=>q
  rintro rfl
  rcases hc with rfl | hc
  ·rw [hfree] at e;cases e
  ·rw [hfree] at hc;cases hc
 rcases hx with hk | hk
 ·refine wpAny_storeName_local hk hn (fun h' hn' hs=>?_) hcls
  obtain ⟨oL,_,_,hoL,_⟩:=id hn
  refine h _ ⟨I.ok,I.os,I.bare,⟨fun b o e n hb hx=>?_,fun b o e n hb hx=>?_,I.base.free,fun b o e hx=>?_,I.base.tups,I.base.frzs,I.base.tbls⟩,⟨_,hn',fun j y v' e1 e2 e3=>?_⟩,fun y c e=>?_,I.free,I.freeC,fun p hp=>?_,tracked ⟨oL,hoL,I.free⟩ hs,by simpa using I.len⟩ ⟨_,hs,.inl rfl⟩
  ·exact (hs.2 b (Nat.ne_of_lt (Nat.lt_of_lt_of_le (Heap.lt_size e) I.ok.above))).trans (I.base.keep b o e n hb hx)
  ·obtain ⟨sl,e1⟩:=I.base.slot b o e n hb hx
   exact ⟨sl,(hs.2 b (Nat.ne_of_lt (Nat.lt_of_lt_of_le (Heap.lt_size e) I.ok.above))).trans e1⟩
  ·obtain ⟨o',e1⟩:=I.base.there b o e hx
   exact ⟨o',(hs.2 b (Nat.ne_of_lt (Nat.lt_of_lt_of_le (Heap.lt_size e) I.ok.above))).trans e1⟩
  ·by_cases hj:j=i
   ·subst hj
    rw [hi] at e1;cases e1
    rw [List.getElem?_set_self hiσ] at e2
    cases e2
    exact ⟨u,r,.inl ⟨hk,by simp⟩⟩
   ·rw [List.getElem?_set_ne (Ne.symm hj)] at e2
    obtain ⟨u',r',q⟩:=hl j y v' e1 e2 e3
    refine ⟨u',r',?_⟩
    rcases q with ⟨k,e⟩ | ⟨k,c,e,z⟩
    ·refine .inl ⟨k,?_⟩
     have:y≠x:=fun e=>hj (J5b hN e1 (e ▸ hi))
     simp [this,e]
    ·exact .inr ⟨k,c,e,z.sameBut hs (cne y c e)⟩
  ·obtain ⟨w',z⟩:=I.cell y c e
   exact ⟨w',z.sameBut hs (cne y c e)⟩
  ·obtain ⟨e,n,ne,nf,d⟩:=I.pin p hp
   exact ⟨(hs.2 p.1 ne).trans e,n,ne,nf,d⟩
 ·have hfn:X.fn x=true:=by
   rcases hf with z | z
   ·exact z
   ·rw [z] at hk;cases hk
  obtain ⟨c,hc⟩:=I.ok.has x (.inl hk)
  obtain ⟨w',z⟩:=I.cell x c hc
  refine wpAny_storeName_cell I.ok.kind hk hc z (fun h' hc' hs=>?_)
  obtain ⟨oc,hoc,hocd⟩:=id z
  refine h { s with heap:=h' } ⟨I.ok,I.os,I.bare,⟨fun b o e n hb hx=>?_,fun b o e n hb hx=>?_,I.base.free,fun b o e hx=>?_,I.base.tups,I.base.frzs,I.base.tbls⟩,⟨m,hn.sameBut hs (Ne.symm (cne x c hc)),fun j y v' e1 e2 e3=>?_⟩,fun y c' e=>?_,I.free,I.freeC,fun p hp=>?_,tracked ⟨oc,hoc,I.freeC x c hc⟩ hs,by simpa using I.len⟩ ⟨c,hs,.inr hc⟩
  ·exact (hs.2 b (Nat.ne_of_lt (Nat.lt_of_lt_of_le (Heap.lt_size e) (I.ok.cab x c hfn hc)))).trans (I.base.keep b o e n hb hx)
  ·obtain ⟨sl,e1⟩:=I.base.slot b o e n hb hx
   exact ⟨sl,(hs.2 b (Nat.ne_of_lt (Nat.lt_of_lt_of_le (Heap.lt_size e) (I.ok.cab x c hfn hc)))).trans e1⟩
  ·obtain ⟨o',e1⟩:=I.base.there b o e hx
   exact ⟨o',(hs.2 b (Nat.ne_of_lt (Nat.lt_of_lt_of_le (Heap.lt_size e) (I.ok.cab x c hfn hc)))).trans e1⟩
  ·by_cases hj:j=i
   ·subst hj
    rw [hi] at e1;cases e1
    rw [List.getElem?_set_self hiσ] at e2
    cases e2
    exact ⟨u,r,.inr ⟨.inl hk,c,hc,hc'⟩⟩
   ·rw [List.getElem?_set_ne (Ne.symm hj)] at e2
    obtain ⟨u',r',q⟩:=hl j y v' e1 e2 e3
    refine ⟨u',r',?_⟩
    rcases q with q | ⟨k,c',e,z'⟩
    ·exact .inl q
    ·refine .inr ⟨k,c',e,z'.sameBut hs ?_⟩
     rintro rfl
     exact hj (J5b hN e1 (I.ok.inj _ _ _ e hc ▸ hi))
  ·by_cases hcc:c'=c
   ·subst hcc;exact ⟨_,hc'⟩
   ·obtain ⟨w2,z2⟩:=I.cell y c' e
    exact ⟨w2,z2.sameBut hs hcc⟩
  ·obtain ⟨e,n,ne,nf,d⟩:=I.pin p hp
   refine ⟨(hs.2 p.1 ?_).trans e,n,ne,nf,d⟩
   intro q
   rw [q,hoc] at e
   have q':oc=p.2:=Option.some.inj e
   exact d w' (by rw [← q'];exact hocd)
theorem J55 {M:Model} {A:Around} {E:Value→Shared→Prop} {i:Nat} {x:Str} {v:V} {u:Value} {Q:Unit→Shared→Prop} (I:Inv X pins σ H s) (hN:X.N.Nodup) (hi:X.N[i]?=some x) (hx:Loc X.env.scope x) (r:RelV v u)
  (h:∀ s',Inv X pins (σ.set i (some v)) H s'→Q () s') (hf:X.fn x=true∨X.env.scope.names.lookup x=some .local:=by first | exact .inl rfl | exact .inr rfl | assumption):wpAny M A (storeName X.env x u) Q E s :=
 store_ok2 I hN hi hx r (fun s' I' _=>h s' I') hf
theorem Inv.call' {s':Shared} {ch:List Addr} (I:Inv X pins σ H s) (ho:s'.os=s.os) (u:Un (frs X.stack) ch H H' s.heap s'.heap) (hok:HOk X.prog X.w H' s'.heap) (hg:AllBare s'.gens)
  (hch:∀ b∈ch,(b∈X.ex∨X.s₀.heap.objs.size≤b)∧b≠X.env.locals∧(∀ x c,X.env.cells.lookup x=some c→c≠b)∧∀ p∈X.pn ++ pins,p.1≠b):Inv X pins σ H' s':=by
 obtain ⟨h',g',d',t',o'⟩:=s'
 have e:o'=s.os:=ho
 subst e
 exact I.call (g':=g') (t':=t') (d':=d') u hok hg hch
end
abbrev XK:=Value→Option Addr→Hp→Prop
abbrev St:=List (Option V)
abbrev VK:=V→Hp→Prop
abbrev TE:=St→Hp→VK→Prop
abbrev TT:=St→Hp→(Bool→Hp→Prop)→Prop
abbrev TA:=St→Hp→(List V→Hp→Prop)→Prop
structure Ends where
 nx:St→Hp→Prop
 rt:VK
 bk:St→Hp→Prop:=fun _ _=>False
 ct:St→Hp→Prop:=fun _ _=>False
abbrev TS:=Ends→St→Hp→Prop
def EP (X:Cx) (pins:List (Addr × Obj)) (σ:St) (Q:VK) (u:Value) (s':Shared):Prop:=∃ v H',Inv X pins σ H' s'∧RelV v u∧Q v H'
def TP (X:Cx) (pins:List (Addr × Obj)) (σ:St) (Q:Bool→Hp→Prop) (b:Bool) (s':Shared):Prop:=∃ H',Inv X pins σ H' s'∧Q b H'
def AP (X:Cx) (pins:List (Addr × Obj)) (σ:St) (Q:List V→Hp→Prop) (us:List Value) (s':Shared):Prop:=∃ vs H',Inv X pins σ H' s'∧Vals vs us∧Q vs H'
def SP (X:Cx) (pins:List (Addr × Obj)) (D:Ends) (f:Flow) (s':Shared):Prop :=
 match f with
 | .next=>∃ σ' H',Inv X pins σ' H' s'∧D.nx σ' H'
 | .brk=>∃ σ' H',Inv X pins σ' H' s'∧D.bk σ' H'
 | .cont=>∃ σ' H',Inv X pins σ' H' s'∧D.ct σ' H'
 | .ret u=>∃ v σ' H',Inv X pins σ' H' s'∧RelV v u∧D.rt v H'
def PE (X:Cx) (e:Expr) (t:TE):Prop :=
 ∀ (pins:List (Addr × Obj)) (s:Shared) (σ:St) (H:Hp) (Q:VK),Inv X pins σ H s→t σ H Q→wpAny (model X.prog X.w) X.A (eval e X.env) (EP X pins σ Q) X.xe s
def PT (X:Cx) (e:Expr) (t:TT):Prop :=
 ∀ (pins:List (Addr × Obj)) (s:Shared) (σ:St) (H:Hp) (Q:Bool→Hp→Prop),Inv X pins σ H s→t σ H Q→wpAny (model X.prog X.w) X.A (isTrue e X.env (eval e X.env)) (TP X pins σ Q) X.xe s
def PW (X:Cx) (e:Expr) (t:TT):Prop :=
 ∀ (whole:Sem Value) (pins:List (Addr × Obj)) (s:Shared) (σ:St) (H:Hp) (Q:Bool→Hp→Prop),Inv X pins σ H s→t σ H Q→wpAny (model X.prog X.w) X.A (isTrue e X.env whole) (TP X pins σ Q) X.xe s
theorem PW.pt {X:Cx} {e:Expr} {t:TT} (h:PW X e t):PT X e t:=h _
def PA (X:Cx) (es:List Expr) (t:TA):Prop :=
 ∀ (pos:Pos) (pins:List (Addr × Obj)) (s:Shared) (σ:St) (H:Hp) (Q:List V→Hp→Prop),Inv X pins σ H s→t σ H Q→wpAny (model X.prog X.w) X.A (spliced (backTo pos (starEach es X.env))) (AP X pins σ Q) X.xe s
def PS (X:Cx) (st:Stmt) (t:TS):Prop :=
 ∀ (pins:List (Addr × Obj)) (s:Shared) (σ:St) (H:Hp) (D:Ends),Inv X pins σ H s→t D σ H→wpAny (model X.prog X.w) X.A (exec st X.env) (SP X pins D) X.xe s
def PSs (X:Cx) (st:List Stmt) (t:TS):Prop :=
 ∀ (pins:List (Addr × Obj)) (s:Shared) (σ:St) (H:Hp) (D:Ends),Inv X pins σ H s→t D σ H→wpAny (model X.prog X.w) X.A (execs st X.env) (SP X pins D) X.xe s
theorem thn {α:Type} {t:Sem α} {Q Q':α→Shared→Prop} {M:Model} {A:Around} {E:Value→Shared→Prop} {s:Shared} (h:wpAny M A t Q E s) (hQ:∀ a s,Q a s→Q' a s):wpAny M A t Q' E s:=wpAny_mono h hQ fun _ _ x=>x
end L2
namespace L2
open PySem PySem.Spec PyProof.Rows
section
variable {X:Cx}
def tVar (i:Nat):TE:=fun σ H Q=>∃ v,σ[i]?=some (some v)∧Q v H
def tC (v:V):TE:=fun _ H Q=>Q v H
theorem pe_var {i:Nat} {x:Str} {pos:Pos} (hN:X.N[i]?=some x) (hv:Vis X.env.scope x) (hd:(x == ("__debug__":Str))=false:=by decide) (hcd:(x == ("__classdict__":Str))=false:=by decide):PE X (.Name x pos) (tVar i):=by
 intro pins s σ H Q I h
 obtain ⟨v,e,h⟩:=h
 obtain ⟨m,hn,hl⟩:=I.loc
 obtain ⟨u,r,l⟩:=hl i x v hN e hv
 have fin:EP X pins σ Q u s:=⟨v,H,I,r,h⟩
 rcases l with ⟨hk,hm⟩ | ⟨hk,c,hc,hcell⟩
 ·exact wpAny_Name (wpAny_loadName_local I.ok.kind hk hn hm fin) hd
 ·rcases hk with hk | hk
  ·exact wpAny_Name (wpAny_loadName_cell I.ok.kind hk hc hcell fin) hd
  ·exact wpAny_Name (wpAny_loadName_free I.ok.kind hk hc hcell fin hcd) hd
theorem Ja {i j pos}:PE X (.Constant (.int i) j pos) (tC (.int i)):=fun _ _ _ H _ I h=>wpAny_Constant_int ⟨.int i,H,I.tok _,⟨_,rfl⟩,h⟩
theorem pe_bl {b j pos}:PE X (.Constant (.bool b) j pos) (tC (.bl b)):=fun _ _ _ H _ I h=>Constant_bool ⟨.bl b,H,I,rfl,h⟩
theorem pe_non {j pos}:PE X (.Constant .none j pos) (tC .non):=fun _ _ _ H _ I h=>Constant_none ⟨.non,H,I,rfl,h⟩
theorem J1c {x j pos}:PE X (.Constant (.str x) j pos) (tC (.str x)):=fun _ _ _ H _ I h=>Calls.Constant_str ⟨.str x,H,I.tok _,⟨_,rfl⟩,h⟩
def Gl (X:Cx) (x:Str):Prop:=X.env.kindOf x=some .globalImplicit
theorem J3i {E:Value→Shared→Prop} {pins:List (Addr × Obj)} {s:Shared} {σ:St} {H:Hp} {x:Str} {u:Value} {pos:Pos} {Q:Value→Shared→Prop} (I:Inv X pins σ H s) (hg:Gl X x) (hm:X.mg x=some u) (h:Q u s)
  (hd:(x == ("__debug__":Str))=false:=by decide):wpAny (model X.prog X.w) X.A (eval (.Name x pos) X.env) Q E s :=
 Calls.Name_function_global I.ok.kind hg (Calls.loadGlobal_global (by rw [I.ok.glob];exact I.mod.glob.keeps I.bk) hm h) hd
theorem ld_blt {E:Value→Shared→Prop} {pins:List (Addr × Obj)} {s:Shared} {σ:St} {H:Hp} {x:Str} {u:Value} {pos:Pos} {Q:Value→Shared→Prop} (I:Inv X pins σ H s) (hg:Gl X x) (hm:X.mg x=none) (hv:bootBuiltins x=some u) (h:Q u s)
  (hn:x≠"__name__":=by decide) (hd:(x == ("__debug__":Str))=false:=by decide):wpAny (model X.prog X.w) X.A (eval (.Name x pos) X.env) Q E s:=by
 obtain ⟨mb,h1,h2⟩:=I.mod.blt
 exact Calls.Name_function_global I.ok.kind hg (Calls.loadGlobal_builtin (by rw [I.ok.glob];exact I.mod.glob.keeps I.bk) hm (by rw [I.ok.blt];exact h1.keeps I.bk) ((h2 x hn).trans hv) h) hd
theorem pe_glob {x:Str} {v:V} {u:Value} {pos:Pos} (hg:Gl X x) (hm:X.mg x=some u) (r:RelV v u) (hd:(x == ("__debug__":Str))=false:=by decide):PE X (.Name x pos) (tC v) :=
 fun _ _ _ H _ I h=>J3i I hg hm ⟨v,H,I,r,h⟩ hd
theorem J4x {x:Str} {v:V} {u:Value} {pos:Pos} (hg:Gl X x) (hm:X.mg x=none) (hv:bootBuiltins x=some u) (r:RelV v u) (hn:x≠"__name__":=by decide) (hd:(x == ("__debug__":Str))=false:=by decide):PE X (.Name x pos) (tC v) :=
 fun _ _ _ H _ I h=>ld_blt I hg hm hv ⟨v,H,I,r,h⟩ hn hd
variable {a b:Expr} {ta tb:TE} {pos:Pos}
def tB (t:TE):TT:=fun σ H Q=>t σ H fun x H1=>∃ c,x=.bl c∧Q c H1
theorem J1o {e:Expr} {t:TE} (h:PE X e t) (he:∀ whole,isTrue e X.env whole=(do let v ← whole;standAt e.pos;holding [v] (truthy v)):=by intro _;rfl):PT X e (tB t):=by
 intro pins s σ H Q I hw
 refine isTrue_plain (thn (h pins s σ H _ I hw) fun v s1 ⟨x,H1,I1,r1,q1⟩=>?_) (he _)
 obtain ⟨d,rfl,q⟩:=q1
 cases r1
 exact wpAny_truthy_bool ⟨H1,I1,q⟩
variable {tA tB':TT} {rest:List Expr}
def tAnd (t u:TT):TT:=fun σ H Q=>t σ H fun c H1=>if c=true then u σ H1 Q else Q false H1
def tOr (t u:TT):TT:=fun σ H Q=>t σ H fun c H1=>if c=true then Q true H1 else u σ H1 Q
def tNot (t:TT):TT:=fun σ H Q=>t σ H fun c H1=>Q (!c) H1
theorem pw_and1 (ha:PT X a tA):PW X (.BoolOp .And [a] pos) tA:=by
 intro wh pins s σ H Q I h
 refine isTrue_and (thn (ha pins s σ H Q I h) fun c s1 e=>?_)
 cases c with
 | true=>exact isTrue_and_nil e
 | false=>exact e
theorem pw_or1 (ha:PT X a tA):PW X (.BoolOp .Or [a] pos) tA:=by
 intro wh pins s σ H Q I h
 refine isTrue_or (thn (ha pins s σ H Q I h) fun c s1 e=>?_)
 cases c with
 | false=>exact isTrue_or_nil e
 | true=>exact e
theorem pw_and (ha:PT X a tA) (hb:PW X (.BoolOp .And (b :: rest) pos) tB'):PW X (.BoolOp .And (a :: b :: rest) pos) (tAnd tA tB'):=by
 intro wh pins s σ H Q I h
 refine isTrue_and (thn (ha pins s σ H _ I h) fun c s1 ⟨H1,I1,q1⟩=>?_)
 cases c with
 | true=>exact hb wh pins s1 σ H1 Q I1 q1
 | false=>exact ⟨H1,I1,q1⟩
theorem pw_or (ha:PT X a tA) (hb:PW X (.BoolOp .Or (b :: rest) pos) tB'):PW X (.BoolOp .Or (a :: b :: rest) pos) (tOr tA tB'):=by
 intro wh pins s σ H Q I h
 refine isTrue_or (thn (ha pins s σ H _ I h) fun c s1 ⟨H1,I1,q1⟩=>?_)
 cases c with
 | true=>exact ⟨H1,I1,q1⟩
 | false=>exact hb wh pins s1 σ H1 Q I1 q1
theorem J2m (ha:PT X a tA):PT X (.UnaryOp .Not a pos) (tNot tA):=by
 intro pins s σ H Q I h
 exact isTrue_not (ha pins s σ H (fun c H1=>Q (!c) H1) I h)
def tAndV (ta tb:TE):TE:=fun σ H Q=>ta σ H fun x H1=>∃ c,x=.bl c∧if c=true then tb σ H1 Q else Q (.bl false) H1
def tNotV (ta:TE):TE:=fun σ H Q=>ta σ H fun x H1=>∃ c,x=.bl c∧Q (.bl (!c)) H1
theorem pe_one {op} {t:TE} (h:PE X a t):PE X (.BoolOp op [a] pos) t:=fun pins s σ H Q I hw=>BoolOp_one (h pins s σ H Q I hw)
theorem pe_and (ha:PE X a ta) (hb:PE X (.BoolOp .And (b :: rest) pos) tb):PE X (.BoolOp .And (a :: b :: rest) pos) (tAndV ta tb):=by
 intro pins s σ H Q I h
 refine BoolOp_and (thn (ha pins s σ H _ I h) fun v s1 ⟨x,H1,I1,r1,q1⟩=>?_)
 obtain ⟨c,rfl,q1⟩:=q1
 cases r1
 refine wpAny_truthy_bool ?_
 cases c with
 | true=>exact hb pins s1 σ H1 Q I1 q1
 | false=>exact ⟨.bl false,H1,I1,rfl,q1⟩
theorem pe_not (ha:PE X a ta):PE X (.UnaryOp .Not a pos) (tNotV ta):=by
 intro pins s σ H Q I h
 refine UnaryOp_ (thn (ha pins s σ H _ I h) fun v s1 ⟨x,H1,I1,r1,q1⟩=>?_)
 obtain ⟨c,rfl,q1⟩:=q1
 cases r1
 exact not_of (wpAny_truthy_bool ⟨.bl (!c),H1,I1,rfl,q1⟩)
def tIf (t:TT) (ta tb:TE):TE:=fun σ H Q=>t σ H fun c H1=>if c=true then ta σ H1 Q else tb σ H1 Q
theorem J58 {c:Expr} (hc:PT X c tA) (ha:PE X a ta) (hb:PE X b tb):PE X (.IfExp c a b pos) (tIf tA ta tb):=by
 intro pins s σ H Q I h
 refine wpAny_IfExp (thn (hc pins s σ H _ I h) fun d s1 ⟨H1,I1,q1⟩=>?_)
 cases d with
 | true=>exact ha pins s1 σ H1 Q I1 q1
 | false=>exact hb pins s1 σ H1 Q I1 q1
end
end L2
namespace L2
open PySem PySem.Spec PyProof.Rows
def SqL (K:PySem.W.Frag) (H:Hp) (a:Addr) (xs:List V):Prop :=
 Rd H a (.lst xs)∨
  ∃ (o:Obj) (its:Array Value) (n:Nat),K.lookup a=some o∧o.cls=.type "list"∧o.dict=none∧o.data=.seq its n∧its.size≤sizeLine∧Vals xs its.toList
def SqT (K:PySem.W.Frag) (H:Hp) (a:Addr) (xs:List V):Prop :=
 Rd H a (.tup xs)∨
  ∃ (o:Obj) (its:Array Value) (n:Nat),K.lookup a=some o∧o.cls=.type "tuple"∧o.data=.seq its n∧its.size≤sizeLine∧Vals xs its.toList
def absV:Value→Option V
 | .none=>some .non
 | .bool b=>some (.bl b)
 | .int i _=>some (.int i)
 | .str x _=>some (.str x)
 | .bytes b _=>some (.byt b)
 | .float b _=>some (.flt b)
 | .ref a=>some (.ref a)
 | .type n=>some (.ty n)
 | _=>none
theorem RelV.abs {x:V} {u:Value} (r:RelV x u):absV u=some x:=by
 cases x with
 | non=>cases r;rfl
 | bl _=>cases r;rfl
 | int _=>obtain ⟨t,rfl⟩:=r;rfl
 | str _=>obtain ⟨t,rfl⟩:=r;rfl
 | byt _=>obtain ⟨t,rfl⟩:=r;rfl
 | flt _=>obtain ⟨t,rfl⟩:=r;rfl
 | ref _=>cases r;rfl
 | ty _=>cases r;rfl
theorem RelV.inj {x y:V} {u:Value} (r:RelV x u) (q:RelV y u):x=y:=Option.some.inj (r.abs.symm.trans q.abs)
theorem Vals.inj:∀ {xs ys:List V} {us:List Value},Vals xs us→Vals ys us→xs=ys
 | _,_,_,.nil,.nil=>rfl
 | _,_,_,.cons r t,.cons r' t'=>by rw [r.inj r',Vals.inj t t']
section
variable {X:Cx} {pins:List (Addr × Obj)} {σ:St} {H:Hp} {s:Shared} {a:Addr} {xs ys:List V}
theorem SqL.of {K:PySem.W.Frag} (h:H a=some (.lst xs)):SqL K H a xs:=.inl (.inl h)
theorem SqT.of {K:PySem.W.Frag} (h:H a=some (.tup xs)):SqT K H a xs:=.inl (.inl h)
theorem Inv.list (I:Inv X pins σ H s) (h:SqL X.K H a xs):∃ its:List Value,Vals xs its∧PlainL s.heap a its.toArray∧xs.length≤sizeLine:=by
 rcases h with h | ⟨o,its,n,hk,hc,hd,hs,hz,r⟩
 ·obtain ⟨z,its,n,r,e⟩:=h.ok I.hok
  exact ⟨its,r,⟨_,n,e,rfl,rfl,rfl⟩,z⟩
 ·refine ⟨its.toList,r,⟨o,n,I.kIn a o hk,hc,hd,by simpa using hs⟩,?_⟩
  have e:=r.length
  simp only [Array.length_toList] at e
  omega
theorem Inv.tuple (I:Inv X pins σ H s) (h:SqT X.K H a xs):∃ its:List Value,Vals xs its∧IsTup s.heap a its.toArray∧xs.length≤sizeLine:=by
 rcases h with h | ⟨o,its,n,hk,hc,hs,hz,r⟩
 ·obtain ⟨z,its,r,p⟩:=h.ok I.hok
  exact ⟨its,r,p.tup,z⟩
 ·refine ⟨its.toList,r,⟨o,I.kIn a o hk,hc,n,by simpa using hs⟩,?_⟩
  have e:=r.length
  simp only [Array.length_toList] at e
  omega
theorem Inv.list_inj (I:Inv X pins σ H s) (h:SqL X.K H a xs) (h':SqL X.K H a ys):xs=ys:=by
 obtain ⟨its,r,⟨o,n,e,_,_,d⟩,_⟩:=I.list h
 obtain ⟨its',r',⟨o',n',e',_,_,d'⟩,_⟩:=I.list h'
 rw [e] at e';cases e'
 rw [d] at d'
 injection d' with d1 _
 have:its=its':=by simpa using congrArg Array.toList d1
 subst this
 exact r.inj r'
theorem Inv.tuple_inj (I:Inv X pins σ H s) (h:SqT X.K H a xs) (h':SqT X.K H a ys):xs=ys:=by
 obtain ⟨its,r,⟨o,e,_,n,d⟩,_⟩:=I.tuple h
 obtain ⟨its',r',⟨o',e',_,n',d'⟩,_⟩:=I.tuple h'
 rw [e] at e';cases e'
 rw [d] at d'
 injection d' with d1 _
 have:its=its':=by simpa using congrArg Array.toList d1
 subst this
 exact r.inj r'
end
abbrev Cx.wish (X:Cx) (E:Value→Shared→Prop):Cx:={ X with xe:=E }
abbrev Cx.nox (X:Cx):Cx:=X.wish fun _ _=>False
theorem Cx.Ok.wish {X:Cx} (ok:X.Ok) (E:Value→Shared→Prop):(X.wish E).Ok :=
 ⟨ok.mod,ok.kind,ok.glob,ok.blt,ok.above,ok.inj,ok.has,ok.cab,ok.hd,ok.frames,ok.stk,ok.exf,ok.bs,ok.bsz,ok.noex,ok.exfs,ok.funs,ok.frf⟩
theorem Cx.Ok.unwish {X:Cx} {E:Value→Shared→Prop} (ok:(X.wish E).Ok):X.Ok :=
 ⟨ok.mod,ok.kind,ok.glob,ok.blt,ok.above,ok.inj,ok.has,ok.cab,ok.hd,ok.frames,ok.stk,ok.exf,ok.bs,ok.bsz,ok.noex,ok.exfs,ok.funs,ok.frf⟩
section
variable {X:Cx} {pins:List (Addr × Obj)} {σ:St} {H:Hp} {s:Shared} {E:Value→Shared→Prop}
theorem Inv.wish (I:Inv X pins σ H s) (E:Value→Shared→Prop):Inv (X.wish E) pins σ H s:=⟨I.ok.wish E,I.os,I.bare,I.base,I.loc,I.cell,I.free,I.freeC,I.pin,I.hok,I.len⟩
theorem Inv.unwish (I:Inv (X.wish E) pins σ H s):Inv X pins σ H s:=⟨I.ok.unwish,I.os,I.bare,I.base,I.loc,I.cell,I.free,I.freeC,I.pin,I.hok,I.len⟩
theorem SP.unwish {D:Ends} {f:Flow} {s':Shared} (h:SP (X.wish E) pins D f s'):SP X pins D f s':=by
 cases f with
 | next=>obtain ⟨σ',H',I,q⟩:=h;exact ⟨σ',H',I.unwish,q⟩
 | brk=>obtain ⟨σ',H',I,q⟩:=h;exact ⟨σ',H',I.unwish,q⟩
 | cont=>obtain ⟨σ',H',I,q⟩:=h;exact ⟨σ',H',I.unwish,q⟩
 | ret u=>obtain ⟨v,σ',H',I,r,q⟩:=h;exact ⟨v,σ',H',I.unwish,r,q⟩
theorem PSs.nox {st:List Stmt} {t:TS} (h:PSs X.nox st t):PSs X st t:=fun pins s σ H D I hw =>
 wpAny_mono (h pins s σ H D (I.wish _) hw) (fun _ _ q=>q.unwish) fun _ _ z=>False.elim z
end
section
variable {X:Cx} {st:Stmt} {rest:List Stmt} {t u:TS} {e:Expr} {te:TE} {pos:Pos}
def tNext:TS:=fun D σ H=>D.nx σ H
def tSeq (t u:TS):TS:=fun D σ H=>t { D with nx:=u D } σ H
theorem Jm:PSs X [] tNext:=fun _ _ σ H _ I h=>wpAny_execs_nil ⟨σ,H,I,h⟩
theorem J2 (h1:PS X st t) (h2:PSs X rest u):PSs X (st :: rest) (tSeq t u):=by
 intro pins s σ H D I h
 refine wpAny_execs_cons (thn (h1 pins s σ H { D with nx:=u D } I h) fun f s1 q=>?_)
 cases f with
 | next =>
  obtain ⟨σ',H',I',q⟩:=q
  exact h2 pins s1 σ' H' D I' q
 | ret v=>exact q
 | brk=>exact q
 | cont=>exact q
theorem J8 (h1:PS X st t):PSs X [st] t:=by
 intro pins s σ H D I h
 refine wpAny_execs_cons (thn (h1 pins s σ H D I h) fun f s1 q=>?_)
 cases f with
 | next=>exact wpAny_execs_nil q
 | ret v=>exact q
 | brk=>exact q
 | cont=>exact q
theorem Inv.quiet {pins:List (Addr × Obj)} {σ:St} {H:Hp} {s:Shared} (I:Inv X pins σ H s):interactive X.env=false:=by simp [interactive,I.ok.kind]
def tDrop (te:TE):TS:=fun D σ H=>te σ H fun _ H1=>D.nx σ H1
theorem J31 (he:PE X e te) (hs:swapsWith e none pos.line X.env=pure false:=by rfl):PS X (.Expr e pos) (tDrop te):=by
 intro pins s σ H D I h
 exact wpAny_Expr_any (thn (he pins s σ H _ I h) fun v s1 ⟨x,H1,I1,r1,q1⟩=>⟨σ,H1,I1,q1⟩) I.quiet hs
def tRet (te:TE):TS:=fun D σ H=>te σ H D.rt
theorem Jg (he:PE X e te):PS X (.Return (some e) pos) (tRet te):=by
 intro pins s σ H D I h
 exact wpAny_Return_some (thn (he pins s σ H _ I h) fun v s1 ⟨x,H1,I1,r1,q1⟩=>⟨x,σ,H1,I1,r1,q1⟩)
def tIfS (c:TT) (t u:TS):TS:=fun D σ H=>c σ H fun b H1=>if b=true then t D σ H1 else u D σ H1
theorem ps_if {c:Expr} {a b:List Stmt} {tc:TT} (hc:PT X c tc) (ha:PSs X a t) (hb:PSs X b u):PS X (.If c a b pos) (tIfS tc t u):=by
 intro pins s σ H D I h
 refine wpAny_If (thn (hc pins s σ H _ I h) fun d s1 ⟨H1,I1,q1⟩=>?_)
 cases d with
 | true=>exact ha pins s1 σ H1 D I1 q1
 | false=>exact hb pins s1 σ H1 D I1 q1
end
abbrev TG:=V→St→Hp→(St→Hp→Prop)→Prop
def PG (X:Cx) (target:Expr) (t:TG):Prop :=
 ∀ (pins:List (Addr × Obj)) (s:Shared) (σ:St) (H:Hp) (v:V) (u:Value) (Q:St→Hp→Prop),Inv X pins σ H s→RelV v u→t v σ H Q→
  wpAny (model X.prog X.w) X.A (assign target X.env u) (fun _ s'=>∃ σ' H',Inv X pins σ' H' s'∧Q σ' H') X.xe s
abbrev TSet:=V→V→V→Hp→(Hp→Prop)→Prop
def PSet (X:Cx) (t:TSet):Prop :=
 ∀ (pins:List (Addr × Obj)) (s:Shared) (σ:St) (H:Hp) (o i v:V) (ov iv u:Value) (Q:Hp→Prop),Inv X pins σ H s→RelV o ov→RelV i iv→RelV v u→t o i v H Q→
  wpAny (model X.prog X.w) X.A (setItem ov iv u) (fun _ s'=>∃ H',Inv X pins σ H' s'∧Q H') X.xe s
section
variable {X:Cx} {pos:Pos}
def gName (i:Nat):TG:=fun v σ H Q=>Q (σ.set i (some v)) H
theorem J32 {i:Nat} {x:Str} (hN:X.N.Nodup) (hi:X.N[i]?=some x) (hx:Loc X.env.scope x) (hf:X.fn x=true∨X.env.scope.names.lookup x=some .local:=by first | exact .inl rfl | exact .inr rfl | assumption):PG X (.Name x pos) (gName i):=by
 intro pins s σ H v u Q I r h
 exact wpAny_assign_Name (J55 I hN hi hx r (fun s' I'=>⟨_,H,I',h⟩) hf)
def gSub (to ti:TE) (t:TSet):TG:=fun v σ H Q=>to σ H fun o H1=>ti σ H1 fun i H2=>t o i v H2 fun H3=>Q σ H3
theorem J4f {o i:Expr} {to ti:TE} {t:TSet} (ho:PE X o to) (hi:PE X i ti) (hs:PSet X t)
  (ha:∀ v,assign (.Subscript o i pos) X.env v=(do
   let ov ← holding [v] (eval o X.env)
   let iv ← holding [v,ov] (eval i X.env)
   standAt pos
   holding [v,ov,iv] (setItem ov iv v)
   release [v,ov,iv] []):=by intro _;rfl):PG X (.Subscript o i pos) (gSub to ti t):=by
 intro pins s σ H v u Q I r h
 rw [ha]
 refine wpAny_bind (wpAny_holding (thn (ho pins s σ H _ I h) fun ov s1 ⟨x,H1,I1,r1,q1⟩=>?_))
 refine wpAny_bind (wpAny_holding (thn (hi pins s1 σ H1 _ I1 q1) fun iv s2 ⟨y,H2,I2,r2,q2⟩=>?_))
 refine wpAny_bind (wpAny_standAt (wpAny_bind (wpAny_holding (thn (hs pins s2 σ H2 x y v ov iv u _ I2 r1 r2 r q2) fun _ s3 ⟨H3,I3,q3⟩=>?_))))
 exact wpAny_release ⟨σ,H3,I3,q3⟩
def tAsg (te:TE) (g:TG):TS:=fun D σ H=>te σ H fun x H1=>g x σ H1 D.nx
theorem J4d {tg e:Expr} {te:TE} {g:TG} (he:PE X e te) (hg:PG X tg g) (hs:swapsWithSole [tg] e pos.line X.env=pure false:=by rfl) (hw:swappedStores [tg] e X.env=pure none:=by rfl)
  (h1:(assignEach [tg] X.env).map (·.2)=[assign tg X.env]:=by rfl):PS X (.Assign [tg] e pos) (tAsg te g):=by
 intro pins s σ H D I h
 refine wpAny_Assign_stores (thn (he pins s σ H _ I h) fun v s1 ⟨x,H1,I1,r1,q1⟩=>?_) hs hw
 rw [h1]
 exact thn (hg pins s1 σ H1 x v _ I1 r1 q1) fun _ s2 q=>q
theorem Ji {i:Nat} {x:Str} {e:Expr} {te:TE} {pos':Pos} (hN:X.N.Nodup) (hi:X.N[i]?=some x) (hx:Loc X.env.scope x) (he:PE X e te) (hs:swapsWith e (some (.Name x pos')) pos.line X.env=pure false:=by rfl) (hf:X.fn x=true∨X.env.scope.names.lookup x=some .local:=by first | exact .inl rfl | exact .inr rfl | assumption) :
  PS X (.Assign [.Name x pos'] e pos) (tAsg te (gName i)):=by
 intro pins s σ H D I h
 refine wpAny_Assign_Name (thn (he pins s σ H _ I h) fun v s1 ⟨y,H1,I1,r1,q1⟩=>?_) hs
 exact J55 I1 hN hi hx r1 (fun s2 I2=>⟨_,H1,I2,q1⟩) hf
end
structure It where
 go:Nat→Hp→Prop
 yld:Nat→Hp→V→Hp→Prop
 stop:Nat→Hp→Prop
def FpOk (X:Cx) (pins:List (Addr × Obj)) (H:Hp) (b:Addr):Prop :=
 H b=none∧b≠X.env.locals∧b ∉ X.fs∧(b∈X.ex∨X.s₀.heap.objs.size≤b)∧(∀ x c,X.env.cells.lookup x=some c→c≠b)∧∀ p∈X.pn ++ pins,p.1≠b
theorem Inv.fpOk {X:Cx} {pins:List (Addr × Obj)} {σ:St} {H H':Hp} {s:Shared} {b:Addr} (I:Inv X pins σ H s) (hb:s.heap.objs.size≤b) (hn:H' b=none):FpOk X pins H' b:=by
 refine ⟨hn,Nat.ne_of_gt (Nat.lt_of_lt_of_le I.lt hb),I.nofs hb,.inr (Nat.le_trans I.sz hb),fun x c e z=>?_,fun p hp z=>?_⟩
 ·obtain ⟨v,q⟩:=I.cell x c e
  exact absurd (Nat.lt_of_lt_of_le q.lt (by rw [z];exact hb)) (Nat.lt_irrefl _)
 ·exact absurd (Nat.lt_of_lt_of_le (Heap.lt_size (I.pin p hp).1) (by rw [z];exact hb)) (Nat.lt_irrefl _)
structure Turn (P:Program) (w:World) (K:PySem.W.Frag) (tg:Expr) (J:It) (fp:List Addr) (it:Addr) (tn:Nat→Heap→Prop):Prop where
 mem:it∈fp
 obj:∀ i h,tn i h→∀ b∈fp,∃ o,h.get? b=some o∧∀ v,o.data≠.cell v
 keep:∀ i h h',tn i h→(∀ b∈fp,∀ o,h.get? b=some o→h'.get? b=some o)→tn i h'
 item:∀ (X:Cx),X.prog=P→X.w=w→X.K=K→X.calm=true→∀ (i:Nat) (pins:List (Addr × Obj)) (s:Shared) (σ:St) (H:Hp) (E:Value→Shared→Prop),Inv X pins σ H s→(∀ b∈fp,FpOk X pins H b)→tn i s.heap→J.go i H→
  wpAny (model P w) X.A (pyNext (.ref it)) (fun r s1=>∃ u,r=some u∧
   wpAny (model P w) X.A (letOwnedTupleGo tg (.ref it) u) (fun _ s2=>∃ x H',Inv X pins σ H' s2∧RelV x u∧J.yld i H x H'∧tn (i + 1) s2.heap∧∀ b∈fp,H' b=none) E s1) E s
 done:∀ (X:Cx),X.prog=P→X.w=w→X.K=K→X.calm=true→∀ (i:Nat) (pins:List (Addr × Obj)) (s:Shared) (σ:St) (H:Hp) (E:Value→Shared→Prop),Inv X pins σ H s→(∀ b∈fp,FpOk X pins H b)→tn i s.heap→J.stop i H→
  wpAny (model P w) X.A (pyNext (.ref it)) (fun r s1=>r=none∧Inv X pins σ H s1) E s
 self:∀ (A:Around) (i:Nat) (s:Shared) (Q:Value→Shared→Prop) (E:Value→Shared→Prop),tn i s.heap→Q (.ref it) s→wpAny (model P w) A (pyIter (.ref it)) Q E s
abbrev TI:=St→Hp→(It→Hp→Prop)→Prop
def PIE (X:Cx) (pins:List (Addr × Obj)) (σ:St) (tg:Expr) (R:It→Hp→Prop) (itv:Value) (s2:Shared):Prop :=
 ∃ (it:Addr) (fp:List Addr) (tn:Nat→Heap→Prop) (J:It) (H':Hp),itv=.ref it∧Inv X pins σ H' s2∧Turn X.prog X.w X.K tg J fp it tn∧tn 0 s2.heap∧(∀ b∈fp,FpOk X pins H' b)∧R J H'
def PI (X:Cx) (tg iter:Expr) (wi:TI):Prop :=
 ∀ (pins:List (Addr × Obj)) (s:Shared) (σ:St) (H:Hp) (R:It→Hp→Prop),Inv X pins σ H s→wi σ H R→
  wpAny (model X.prog X.w) X.A (eval iter X.env) (fun v s1=>wpAny (model X.prog X.w) X.A (pyIter v) (PIE X pins σ tg R) X.xe s1) X.xe s
theorem go_of {M : Model} {A : Around} {E : Value → Shared → Prop} {s : Shared} {tg : Expr} {it : Addr} {u : Value} {o : Obj} {n : String} {vs : Array Value} {Q : Unit → Shared → Prop} (ho : s.heap.get? it = some o) (hc : o.cls = .type n) (hd : o.data = .fields vs)
    (hn : ["enumerate", "zip", "dict_itemiterator", "dict_reverseitemiterator", "odict_iterator", "itertools.zip_longest", "itertools.pairwise"].contains n = false) (hQ : Q () s) : wpAny M A (letOwnedTupleGo tg (.ref it) u) Q E s := by
  unfold letOwnedTupleGo
  cases tg <;> first
    | exact wpAny_pure hQ
    | (cases u <;> first
        | exact wpAny_pure hQ
        | (refine wpAny_bind (wpAny_load ho ?_)
           rw [hc, hd]
           show wpAny M A (if (["enumerate", "zip", "dict_itemiterator", "dict_reverseitemiterator", "odict_iterator", "itertools.zip_longest", "itertools.pairwise"].contains n && vs[0]? == some (rawInt _)) = true then _ else _) Q E s
           rw [if_neg (by intro h; rw [hn, Bool.false_and] at h; cases h)]
           exact wpAny_pure hQ))
def Itl (K:PySem.W.Frag) (a:Addr):It :=
 ⟨fun i H=>∃ xs x,SqL K H a xs∧xs[i]?=some x,fun i H x H'=>H'=H∧∀ xs,SqL K H a xs→xs[i]?=some x,fun i H=>∃ xs,SqL K H a xs∧xs.length≤i⟩
def Itt (K:PySem.W.Frag) (a:Addr):It :=
 ⟨fun i H=>∃ xs x,SqT K H a xs∧xs[i]?=some x,fun i H x H'=>H'=H∧∀ xs,SqT K H a xs→xs[i]?=some x,fun i H=>∃ xs,SqT K H a xs∧xs.length≤i⟩
def Itr (lo:Int) (n:Nat):It:=⟨fun i _=>i < n,fun i H x H'=>H'=H∧x=.int (lo + i),fun i _=>n≤i⟩
theorem turn_list {P:Program} {w:World} {K:PySem.W.Frag} {tg:Expr} (a it:Addr):Turn P w K tg (Itl K a) [it] it (fun i h=>h.IsListIter it a i) where
 mem:=by simp
 obj:=fun i h st b hb=>by
  have e:b=it:=by simpa using hb
  subst e
  obtain ⟨o,e,c,d⟩:=st
  exact ⟨o,e,fun v z=>by rw [d] at z;cases z⟩
 keep:=fun i h h' st k=>st.at fun o e=>k it (by simp) o e
 item:=by
  intro X hP hw hK hc i pins s σ H E I hf st hg
  subst hP hw hK
  obtain ⟨xs,x,hq,hx⟩:=hg
  obtain ⟨its,rv,p,hz⟩:=I.list hq
  obtain ⟨u,hu,ru⟩:=rv.get hx
  obtain ⟨f0,f1,f2,f3,f4,f5⟩:=hf it (by simp)
  refine wpAny_pyNext_list_item st p.isList (x:=u) (by simpa using hu) fun h' st' sb=>?_
  have I1:Inv X pins σ H { s with heap:=h' }:=I.turned (t':=s.toks) (fun b o hb e=>(sb.2 b hb).trans e) f0 f1 f3 f4 f5
  obtain ⟨o,e,c,d⟩:=id st'
  exact ⟨u,rfl,go_of (s:={ s with heap:=h' }) e c d (by decide) ⟨x,H,I1,ru,⟨rfl,fun ys hy=>by rw [I.list_inj hy hq];exact hx⟩,st',fun b hb=>(hf b hb).1⟩⟩
 done:=by
  intro X hP hw hK hc i pins s σ H E I hf st hg
  subst hP hw hK
  obtain ⟨xs,hq,hx⟩:=hg
  obtain ⟨its,rv,p,hz⟩:=I.list hq
  obtain ⟨f0,f1,f2,f3,f4,f5⟩:=hf it (by simp)
  have hl:=rv.length
  exact wpAny_pyNext_list_end (I.ok.hd hc) st p.isList (by simp;omega) fun h' eb=>⟨rfl,I.turned (t':=s.toks) (fun b o hb e=>eb b o hb e) f0 f1 f3 f4 f5⟩
 self:=fun _ _ _ _ _ st h=>wpAny_pyIter_listiter st h
theorem turn_tuple {P:Program} {w:World} {K:PySem.W.Frag} {tg:Expr} (a it:Addr):Turn P w K tg (Itt K a) [it] it (fun i h=>h.IsTupleIter it a i) where
 mem:=by simp
 obj:=fun i h st b hb=>by
  have e:b=it:=by simpa using hb
  subst e
  obtain ⟨o,e,c,d⟩:=st
  exact ⟨o,e,fun v z=>by rw [d] at z;cases z⟩
 keep:=fun i h h' st k=>st.at fun o e=>k it (by simp) o e
 item:=by
  intro X hP hw hK hc i pins s σ H E I hf st hg
  subst hP hw hK
  obtain ⟨xs,x,hq,hx⟩:=hg
  obtain ⟨its,rv,p,hz⟩:=I.tuple hq
  obtain ⟨u,hu,ru⟩:=rv.get hx
  obtain ⟨f0,f1,f2,f3,f4,f5⟩:=hf it (by simp)
  refine wpAny_pyNext_tuple_item st (show s.heap.IsTuple a its.toArray from p) (x:=u) (by simpa using hu) fun h' st' sb=>?_
  have I1:Inv X pins σ H { s with heap:=h' }:=I.turned (t':=s.toks) (fun b o hb e=>(sb.2 b hb).trans e) f0 f1 f3 f4 f5
  obtain ⟨o,e,c,d⟩:=id st'
  exact ⟨u,rfl,go_of (s:={ s with heap:=h' }) e c d (by decide) ⟨x,H,I1,ru,⟨rfl,fun ys hy=>by rw [I.tuple_inj hy hq];exact hx⟩,st',fun b hb=>(hf b hb).1⟩⟩
 done:=by
  intro X hP hw hK hc i pins s σ H E I hf st hg
  subst hP hw hK
  obtain ⟨xs,hq,hx⟩:=hg
  obtain ⟨its,rv,p,hz⟩:=I.tuple hq
  obtain ⟨f0,f1,f2,f3,f4,f5⟩:=hf it (by simp)
  have hl:=rv.length
  exact wpAny_pyNext_tuple_end (I.ok.hd hc) st (show s.heap.IsTuple a its.toArray from p) (by simp;omega) fun h' eb=>⟨rfl,I.turned (t':=s.toks) (fun b o hb e=>eb b o hb e) f0 f1 f3 f4 f5⟩
 self:=fun _ _ _ _ _ st h=>wpAny_pyIter_tupleiter st h
theorem turn_range {P:Program} {w:World} {K:PySem.W.Frag} {tg:Expr} (it:Addr) (lo:Int) (n:Nat):Turn P w K tg (Itr lo n) [it] it (fun i h=>IsRangeIter h it (lo + (i:Nat) * 1) ((n:Int) - (i:Nat)) 1) where
 mem:=by simp
 obj:=fun i h st b hb=>by
  have e:b=it:=by simpa using hb
  subst e
  exact ⟨_,st,fun v z=>by
   have z':Data.fields _=Data.cell v:=z
   cases z'⟩
 keep:=fun i h h' st k=>k it (by simp) _ st
 item:=by
  intro X hP hw hK hc i pins s σ H E I hf st hg
  subst hP hw hK
  obtain ⟨f0,f1,f2,f3,f4,f5⟩:=hf it (by simp)
  have W:=Walks.range (prog:=X.prog) (w:=X.w) (I.ok.hd hc) it lo 1 n
  refine W.item i s _ _ hg st fun v h' tk hv st' kk=>?_
  obtain ⟨t,rfl⟩:=hv
  have I1:Inv X pins σ H { s with heap:=h',toks:=tk }:=I.turned (fun b o hb e=>kk b o (by simpa using hb) e) f0 f1 f3 f4 f5
  refine ⟨_,rfl,go_of (s:={ s with heap:=h',toks:=tk }) (n:="range_iterator") st' rfl rfl (by decide) ⟨.int (lo + i),H,I1,⟨t,?_⟩,⟨rfl,rfl⟩,st',fun b hb=>(hf b hb).1⟩⟩
  rw [Int.mul_one]
 done:=by
  intro X hP hw hK hc i pins s σ H E I hf st hg
  subst hP hw hK
  obtain ⟨f0,f1,f2,f3,f4,f5⟩:=hf it (by simp)
  exact wpAny_pyNext_range_end (I.ok.hd hc) st (by have:n≤i:=hg;omega) fun h' eb=>⟨rfl,I.turned (t':=s.toks) (fun b o hb e=>eb b o hb e) f0 f1 f3 f4 f5⟩
 self:=fun _ _ _ _ _ st h=>wpAny_pyIter_rangeiter st h
end L2
namespace L2
open PySem PySem.Spec PyProof.Rows
section
variable {X:Cx} {tg:Expr}
def iList (K:PySem.W.Frag) (tl:TE):TI:=fun σ H R=>tl σ H fun x H1=>∃ a,x=.ref a∧(∃ xs,SqL K H1 a xs)∧R (Itl K a) H1
def iTup (K:PySem.W.Frag) (tl:TE):TI:=fun σ H R=>tl σ H fun x H1=>∃ a,x=.ref a∧(∃ xs,SqT K H1 a xs)∧R (Itt K a) H1
theorem J43 {l:Expr} {tl:TE} (hl:PE X l tl):PI X tg l (iList X.K tl):=by
 intro pins s σ H R I h
 refine thn (hl pins s σ H _ I h) fun v s1 ⟨x,H1,I1,r1,q1⟩=>?_
 obtain ⟨a,e,⟨xs,hq⟩,q⟩:=q1
 subst e
 cases r1
 obtain ⟨its,rv,p,hz⟩:=I1.list hq
 refine wpAny_pyIter_list p.isList ?_
 refine ⟨s1.heap.objs.size,[s1.heap.objs.size],_,_,H1,rfl,I1.kept (t':=s1.toks) fun b o e=>Heap.get?_push_of_some _ e,turn_list a _,⟨_,Heap.get?_push_size _ rfl,rfl,rfl⟩,fun b hb=>?_,q⟩
 have e:b=s1.heap.objs.size:=by simpa using hb
 subst e
 exact I1.fpOk (Nat.le_refl _) (I1.hok.fresh (Nat.le_refl _))
theorem pi_tup {l:Expr} {tl:TE} (hl:PE X l tl):PI X tg l (iTup X.K tl):=by
 intro pins s σ H R I h
 refine thn (hl pins s σ H _ I h) fun v s1 ⟨x,H1,I1,r1,q1⟩=>?_
 obtain ⟨a,e,⟨xs,hq⟩,q⟩:=q1
 subst e
 cases r1
 obtain ⟨its,rv,p,hz⟩:=I1.tuple hq
 refine wpAny_pyIter_tuple (show s1.heap.IsTuple a its.toArray from p) ?_
 refine ⟨s1.heap.objs.size,[s1.heap.objs.size],_,_,H1,rfl,I1.kept (t':=s1.toks) fun b o e=>Heap.get?_push_of_some _ e,turn_tuple a _,⟨_,Heap.get?_push_size _ rfl,rfl,rfl⟩,fun b hb=>?_,q⟩
 have e:b=s1.heap.objs.size:=by simpa using hb
 subst e
 exact I1.fpOk (Nat.le_refl _) (I1.hok.fresh (Nat.le_refl _))
theorem range_it {pins:List (Addr × Obj)} {σ:St} {H:Hp} {s:Shared} {R:It→Hp→Prop} {E:Value→Shared→Prop} {lo hi:Int} {t u v:Tok} {tk:Nat} (I:Inv X pins σ H s) (h1:-(2 ^ 62)≤lo) (h2:lo < 2 ^ 62) (h3:-(2 ^ 62)≤hi) (h4:hi < 2 ^ 62)
  (q:R (Itr lo (hi - lo).toNat) H):wpAny (model X.prog X.w) X.A (pyIter (.ref s.heap.objs.size)) (PIE X pins σ tg R) E { s with heap:=s.heap.push { cls:=.type "range",data:=.fields #[.int lo t,.int hi u,.int 1 v] },toks:=tk }:=by
 refine wpAny_pyIter_range (IsRange.new ..) (small_one h1 h2 h3 h4) ?_
 have I1:Inv X pins σ H { s with heap:=s.heap.push { cls:=.type "range",data:=.fields #[.int lo t,.int hi u,.int 1 v] },toks:=tk }:=I.kept fun b o e=>Heap.get?_push_of_some _ e
 refine ⟨(s.heap.push { cls:=.type "range",data:=.fields #[.int lo t,.int hi u,.int 1 v] }).objs.size,[(s.heap.push { cls:=.type "range",data:=.fields #[.int lo t,.int hi u,.int 1 v] }).objs.size],_,_,H,rfl,
  I1.kept (t':=tk) fun b o e=>Heap.get?_push_of_some _ e,turn_range _ lo (hi - lo).toNat,?_,fun b hb=>?_,q⟩
 ·have e1:lo + ((0:Nat):Int) * 1=lo:=by simp
  have e2:(((hi - lo).toNat:Nat):Int) - ((0:Nat):Int)=Builtin.Range.rangeSize lo hi 1:=by rw [rangeSize_one];split <;> omega
  show IsRangeIter _ _ (lo + ((0:Nat):Int) * 1) ((((hi - lo).toNat:Nat):Int) - ((0:Nat):Int)) 1
  rw [e1,e2]
  exact Heap.get?_push_size _ rfl
 ·have e:b=(s.heap.push { cls:=.type "range",data:=.fields #[.int lo t,.int hi u,.int 1 v] }).objs.size:=by simpa using hb
  subst e
  exact I1.fpOk (Nat.le_refl _) (I1.hok.fresh (Nat.le_refl _))
def iRng1 (ta:TA):TI:=fun σ H R=>ta σ H fun vs H1=>∃ j:Int,vs=[.int j]∧-(2 ^ 62)≤j∧j < 2 ^ 62∧R (Itr 0 j.toNat) H1
theorem J4e {a:Expr} {ta:TA} {p pos:Pos} (hg:Gl X "range") (hm:X.mg "range"=none) (ha:PA X [a] ta) (hs:starEach [a] X.env=[(false,eval a X.env)]:=by rfl):PI X tg (.Call (.Name "range" p) [a] [] pos) (iRng1 ta):=by
 intro pins s σ H R I h
 refine Call_ (ld_blt I hg hm boot_range (PyProof.Rows.callWith_type1 (thn (ha pos pins s σ H _ I h) fun us s1 ⟨vs,H1,I1,r1,q1⟩=>?_) hs rfl))
 obtain ⟨j,e,q1,q2,q⟩:=q1
 subst e
 cases r1 with
 | cons r rr =>
  cases rr
  obtain ⟨t,rfl⟩:=r
  exact call_range_1 (range_it I1 (by omega) (by omega) q1 q2 (by simpa using q))
def tFor (wi:TI) (g:TG) (tb:TS):TS:=fun D σ H=>wi σ H fun J H1=>∃ W:Nat→Nat→St→Hp→Prop,(∃ m,W 0 m σ H1)∧∀ i m σ H,W i m σ H→
 (J.stop i H∧D.nx σ H)∨(J.go i H∧∃ N:St→Hp→Prop,(∀ σ' H',N σ' H'→∃ m',m' < m∧W (i + 1) m' σ' H')∧∀ x H',J.yld i H x H'→g x σ H' fun σ2 H2=>tb { D with nx:=N,ct:=N,bk:=D.nx } σ2 H2)
def pinsAt (fp:List Addr) (h:Heap):List (Addr × Obj):=fp.filterMap fun b=>(h.get? b).map fun o=>(b,o)
theorem J2p {fp:List Addr} {h:Heap} {b:Addr} {o:Obj} (hb:b∈fp) (e:h.get? b=some o):(b,o)∈pinsAt fp h:=List.mem_filterMap.mpr ⟨b,hb,by rw [e];rfl⟩
theorem of_pinsAt {fp:List Addr} {h:Heap} {p:Addr × Obj} (hp:p∈pinsAt fp h):p.1∈fp∧h.get? p.1=some p.2:=by
 obtain ⟨b,hb,e⟩:=List.mem_filterMap.mp hp
 cases q:h.get? b with
 | none=>rw [q] at e;cases e
 | some o =>
  rw [q] at e
  have e':(b,o)=p:=Option.some.inj e
  subst e'
  exact ⟨hb,q⟩
theorem Inv.pinned {pins:List (Addr × Obj)} {σ:St} {H:Hp} {s:Shared} {fp:List Addr} (I:Inv X pins σ H s) (hf:∀ b∈fp,FpOk X pins H b) (ho:∀ b∈fp,∃ o,s.heap.get? b=some o∧∀ v,o.data≠.cell v):Inv X (pins ++ pinsAt fp s.heap) σ H s :=
 I.pins_of fun p hp=>(List.mem_append.mp hp).elim (fun z=>I.pin p (List.mem_append_right _ z)) fun z=>by
  obtain ⟨hb,e⟩:=of_pinsAt z
  obtain ⟨f0,f1,f2,_⟩:=hf p.1 hb
  obtain ⟨o,e',d⟩:=ho p.1 hb
  rw [e] at e';cases e'
  exact ⟨e,f0,f1,f2,d⟩
theorem Inv.unpinned {pins pl:List (Addr × Obj)} {σ:St} {H:Hp} {s:Shared} (I:Inv X (pins ++ pl) σ H s):Inv X pins σ H s:=I.pins_of fun p hp=>I.pin p (List.mem_append_right _ (List.mem_append_left _ hp))
theorem J57 {iter:Expr} {body:List Stmt} {wi:TI} {g:TG} {tb:TS} {pos:Pos} (hp:PassesOwn (model X.prog X.w) X.A X.env X.xe) (hc:X.calm=true) (hi:PI X tg iter wi) (hg:PG X tg g) (hb:PSs X body tb)
  (hs:∀ x,foldedSetIterable iter X.env x=pure x:=by intro _;rfl):PS X (.For tg iter body [] pos) (tFor wi g tb):=by
 intro pins s σ H D I h
 refine wpAny_For (thn (hi pins s σ H _ I h) fun v s1 h1=>thn h1 fun itv s2 h2=>?_) hs
 obtain ⟨it,fp,tn,J,H2,e,I2,T,st2,f2,W,⟨m0,w0⟩,turn⟩:=h2
 subst e
 have stat:∀ {H':Hp},(∀ b∈fp,H' b=none)→∀ b∈fp,FpOk X pins H' b:=fun hn b hb=>⟨hn b hb,(f2 b hb).2⟩
 refine codeAny_forLoop_any (fun n s'=>∃ i σ' H',Inv X pins σ' H' s'∧tn i s'.heap∧(∀ b∈fp,H' b=none)∧W i n σ' H') ?_ m0 ⟨0,σ,H2,I2,st2,fun b hb=>(f2 b hb).1,w0⟩
 rintro n s3 ⟨i,σ3,H3,I3,st3,fr3,w3⟩
 rcases turn i n σ3 H3 w3 with ⟨stop,qn⟩ | ⟨go,N,hN,step⟩
 ·refine wpAny_passesOwn hp (thn (T.done X rfl rfl rfl hc i pins s3 σ3 H3 X.xe I3 (stat fr3) st3 stop) fun r s4 ⟨hr,I4⟩=>?_)
  subst hr
  exact wpAny_execs_nil ⟨σ3,H3,I4,qn⟩
 ·refine wpAny_passesOwn hp (thn (T.item X rfl rfl rfl hc i pins s3 σ3 H3 X.xe I3 (stat fr3) st3 go) fun r s4 ⟨u,hr,h4⟩=>?_)
  subst hr
  refine wpAny_passesOwn hp (thn h4 fun _ s5 ⟨x,H5,I5,r5,y5,st5,fr5⟩=>?_)
  have I5':=I5.pinned (stat fr5) (T.obj _ _ st5)
  refine wpAny_passesOwn hp (thn (hg _ s5 σ3 H5 x u _ I5' r5 (step x H5 y5)) fun _ s6 ⟨σ6,H6,I6,q6⟩=>?_)
  refine wpAny_passesOwn hp (thn (hb _ s6 σ6 H6 _ I6 q6) fun f s7 q7=>?_)
  have again:∀ {σ7:St} {H7:Hp},Inv X (pins ++ pinsAt fp s5.heap) σ7 H7 s7→N σ7 H7→∃ m,m < n∧∃ i σ' H',Inv X pins σ' H' s7∧tn i s7.heap∧(∀ b∈fp,H' b=none)∧W i m σ' H':=fun {σ7 H7} I7 n7=>by
   obtain ⟨m',hm,w7⟩:=hN σ7 H7 n7
   refine ⟨m',hm,i + 1,σ7,H7,I7.unpinned,T.keep _ _ _ st5 fun b hb o e=>(I7.pin (b,o) (List.mem_append_right _ (List.mem_append_right _ (J2p hb e)))).1,fun b hb=>?_,w7⟩
   obtain ⟨o,e,d⟩:=T.obj _ _ st5 b hb
   exact (I7.pin (b,o) (List.mem_append_right _ (List.mem_append_right _ (J2p hb e)))).2.1
  cases f with
  | next=>obtain ⟨σ7,H7,I7,n7⟩:=q7;exact again I7 n7
  | cont=>obtain ⟨σ7,H7,I7,n7⟩:=q7;exact again I7 n7
  | brk=>obtain ⟨σ7,H7,I7,q7⟩:=q7;exact ⟨σ7,H7,I7.unpinned,q7⟩
  | ret v=>obtain ⟨x7,σ7,H7,I7,r7,q7⟩:=q7;exact ⟨x7,σ7,H7,I7.unpinned,r7,q7⟩
end
theorem J5e {K:PySem.W.Frag} {a:Addr} {xs:List V} {g:TG} {tb:TS} {D:Ends} {σ:St} {H:Hp} (Pv:Nat→St→Hp→Prop) (h0:Pv 0 σ H) (hl:∀ i σ H,i≤xs.length→Pv i σ H→SqL K H a xs)
  (hs:∀ i x σ H,xs[i]?=some x→Pv i σ H→g x σ H fun σ2 H2=>tb { D with nx:=Pv (i + 1),ct:=Pv (i + 1),bk:=D.nx } σ2 H2) (hd:∀ σ H,Pv xs.length σ H→D.nx σ H) :
  ∃ W:Nat→Nat→St→Hp→Prop,(∃ m,W 0 m σ H)∧∀ i m σ H,W i m σ H→
   ((Itl K a).stop i H∧D.nx σ H)∨((Itl K a).go i H∧∃ N:St→Hp→Prop,(∀ σ' H',N σ' H'→∃ m',m' < m∧W (i + 1) m' σ' H')∧∀ x H',(Itl K a).yld i H x H'→g x σ H' fun σ2 H2=>tb { D with nx:=N,ct:=N,bk:=D.nx } σ2 H2):=by
 refine ⟨fun i m σ H=>m=xs.length - i∧i≤xs.length∧Pv i σ H,⟨xs.length,by simp,Nat.zero_le _,h0⟩,?_⟩
 rintro i m σ H ⟨rfl,hi,p⟩
 have q:=hl i σ H hi p
 by_cases hlt:i < xs.length
 ·refine .inr ⟨⟨xs,xs[i],q,by simp [hlt]⟩,Pv (i + 1),fun σ' H' p'=>⟨xs.length - (i + 1),by omega,rfl,hlt,p'⟩,fun x H' y=>?_⟩
  obtain ⟨e,y⟩:=y
  subst e
  exact hs i x σ _ (y xs q) p
 ·have e:i=xs.length:=by omega
  subst e
  exact .inl ⟨⟨xs,q,Nat.le_refl _⟩,hd σ H p⟩
theorem for_tup {K:PySem.W.Frag} {a:Addr} {xs:List V} {g:TG} {tb:TS} {D:Ends} {σ:St} {H:Hp} (Pv:Nat→St→Hp→Prop) (h0:Pv 0 σ H) (hl:∀ i σ H,i≤xs.length→Pv i σ H→SqT K H a xs)
  (hs:∀ i x σ H,xs[i]?=some x→Pv i σ H→g x σ H fun σ2 H2=>tb { D with nx:=Pv (i + 1),ct:=Pv (i + 1),bk:=D.nx } σ2 H2) (hd:∀ σ H,Pv xs.length σ H→D.nx σ H) :
  ∃ W:Nat→Nat→St→Hp→Prop,(∃ m,W 0 m σ H)∧∀ i m σ H,W i m σ H→
   ((Itt K a).stop i H∧D.nx σ H)∨((Itt K a).go i H∧∃ N:St→Hp→Prop,(∀ σ' H',N σ' H'→∃ m',m' < m∧W (i + 1) m' σ' H')∧∀ x H',(Itt K a).yld i H x H'→g x σ H' fun σ2 H2=>tb { D with nx:=N,ct:=N,bk:=D.nx } σ2 H2):=by
 refine ⟨fun i m σ H=>m=xs.length - i∧i≤xs.length∧Pv i σ H,⟨xs.length,by simp,Nat.zero_le _,h0⟩,?_⟩
 rintro i m σ H ⟨rfl,hi,p⟩
 have q:=hl i σ H hi p
 by_cases hlt:i < xs.length
 ·refine .inr ⟨⟨xs,xs[i],q,by simp [hlt]⟩,Pv (i + 1),fun σ' H' p'=>⟨xs.length - (i + 1),by omega,rfl,hlt,p'⟩,fun x H' y=>?_⟩
  obtain ⟨e,y⟩:=y
  subst e
  exact hs i x σ _ (y xs q) p
 ·have e:i=xs.length:=by omega
  subst e
  exact .inl ⟨⟨xs,q,Nat.le_refl _⟩,hd σ H p⟩
theorem for_range {lo:Int} {n:Nat} {g:TG} {tb:TS} {D:Ends} {σ:St} {H:Hp} (Pv:Nat→St→Hp→Prop) (h0:Pv 0 σ H)
  (hs:∀ i σ H,i < n→Pv i σ H→g (.int (lo + i)) σ H fun σ2 H2=>tb { D with nx:=Pv (i + 1),ct:=Pv (i + 1),bk:=D.nx } σ2 H2) (hd:∀ σ H,Pv n σ H→D.nx σ H) :
  ∃ W:Nat→Nat→St→Hp→Prop,(∃ m,W 0 m σ H)∧∀ i m σ H,W i m σ H→
   ((Itr lo n).stop i H∧D.nx σ H)∨((Itr lo n).go i H∧∃ N:St→Hp→Prop,(∀ σ' H',N σ' H'→∃ m',m' < m∧W (i + 1) m' σ' H')∧∀ x H',(Itr lo n).yld i H x H'→g x σ H' fun σ2 H2=>tb { D with nx:=N,ct:=N,bk:=D.nx } σ2 H2):=by
 refine ⟨fun i m σ H=>m=n - i∧i≤n∧Pv i σ H,⟨n,by simp,Nat.zero_le _,h0⟩,?_⟩
 rintro i m σ H ⟨rfl,hi,p⟩
 by_cases hlt:i < n
 ·refine .inr ⟨hlt,Pv (i + 1),fun σ' H' p'=>⟨n - (i + 1),by omega,rfl,hlt,p'⟩,fun x H' y=>?_⟩
  obtain ⟨e,y⟩:=y
  subst e y
  exact hs i σ _ hlt p
 ·have e:i=n:=by omega
  subst e
  exact .inl ⟨Nat.le_refl _,hd σ H p⟩
end L2
namespace L2
open PySem PySem.Spec PyProof.Rows
abbrev R2:=V→V→Hp→VK→Prop
def OpR (X:Cx) (f:Value→Value→Sem Value) (r:R2):Prop :=
 ∀ (pins:List (Addr × Obj)) (s:Shared) (σ:St) (H:Hp) (x y:V) (v u:Value) (Q:VK),Inv X pins σ H s→RelV x v→RelV y u→r x y H Q→
  wpAny (model X.prog X.w) X.A (f v u) (EP X pins σ Q) X.xe s
def UnR (X:Cx) (f:Value→Sem Value) (r:V→Hp→VK→Prop):Prop :=
 ∀ (pins:List (Addr × Obj)) (s:Shared) (σ:St) (H:Hp) (x:V) (v:Value) (Q:VK),Inv X pins σ H s→RelV x v→r x H Q→
  wpAny (model X.prog X.w) X.A (f v) (EP X pins σ Q) X.xe s
def CallR (X:Cx) (f:Value) (r:List V→Hp→VK→Prop):Prop :=
 ∀ (pins:List (Addr × Obj)) (s:Shared) (σ:St) (H:Hp) (xs:List V) (us:List Value) (Q:VK),Inv X pins σ H s→Vals xs us→r xs H Q→
  wpAny (model X.prog X.w) X.A (call f us) (EP X pins σ Q) X.xe s
def tOp (r:R2) (ta tb:TE):TE:=fun σ H Q=>ta σ H fun x H1=>tb σ H1 fun y H2=>r x y H2 Q
def tUn (r:V→Hp→VK→Prop) (ta:TE):TE:=fun σ H Q=>ta σ H fun x H1=>r x H1 Q
def rI (C:Int→Int→Prop) (g:Int→Int→V):R2:=fun x y H Q=>∃ i j,x=.int i∧y=.int j∧C i j∧Q (g i j) H
def rI0 (g:Int→Int→V):R2:=fun x y H Q=>∃ i j,x=.int i∧y=.int j∧Q (g i j) H
def rU (g:Int→V):V→Hp→VK→Prop:=fun x H Q=>∃ i,x=.int i∧Q (g i) H
section
variable {X:Cx} {a b c:Expr} {ta tb tc:TE} {pos:Pos}
theorem binT (ha:PE X a ta) (hb:PE X b tb) {pins:List (Addr × Obj)} {s:Shared} {σ:St} {H:Hp} {R:V→V→Hp→Prop} (I:Inv X pins σ H s)
  (h:ta σ H fun x H1=>tb σ H1 fun y H2=>R x y H2) {Q:Value→Shared→Prop} {f:Value→Value→Sem Value}
  (hf:∀ v u s2 x y H2,Inv X pins σ H2 s2→RelV x v→RelV y u→R x y H2→wpAny (model X.prog X.w) X.A (f v u) Q X.xe s2) :
  wpAny (model X.prog X.w) X.A (eval a X.env) (fun v s₁=>wpAny (model X.prog X.w) X.A (eval b X.env) (fun u s₂=>wpAny (model X.prog X.w) X.A (f v u) Q X.xe s₂) X.xe s₁) X.xe s:=by
 refine thn (ha pins s σ H _ I h) fun v s1 ⟨x,H1,I1,r1,q1⟩=>?_
 refine thn (hb pins s1 σ H1 _ I1 q1) fun u s2 ⟨y,H2,I2,r2,q2⟩=>?_
 exact hf v u s2 x y H2 I2 r1 r2 q2
theorem pe_op {op:Operator} {r:R2} (ho:OpR X (binaryOp op) r) (ha:PE X a ta) (hb:PE X b tb):PE X (.BinOp a op b pos) (tOp r ta tb):=by
 intro pins s σ H Q I h
 exact wpAny_BinOp (binT ha hb I h fun v u s2 x y H2 I2 rx ry q=>ho pins s2 σ H2 x y v u Q I2 rx ry q)
theorem pe_un {op:UnaryOp} {r:V→Hp→VK→Prop} (ho:UnR X (unaryOp op) r) (ha:PE X a ta):PE X (.UnaryOp op a pos) (tUn r ta):=by
 intro pins s σ H Q I h
 exact UnaryOp_ (thn (ha pins s σ H _ I h) fun v s1 ⟨x,H1,I1,r1,q1⟩=>ho pins s1 σ H1 x v Q I1 r1 q1)
theorem opI {f:Value→Value→Sem Value} {C:Int→Int→Prop} {g:Int→Int→Int}
  (rule:∀ (i j:Int) (t u:Tok) (s:Shared) (Q:Value→Shared→Prop) (E:Value→Shared→Prop),C i j→Q (.int (g i j) s.toks) { s with toks:=s.toks + 1 }→wpAny (model X.prog X.w) X.A (f (.int i t) (.int j u)) Q E s) :
  OpR X f (rI C fun i j=>.int (g i j)):=by
 intro pins s σ H x y v u Q I rx ry h
 obtain ⟨i,j,rfl,rfl,hc,q⟩:=h
 obtain ⟨t,rfl⟩:=rx
 obtain ⟨t',rfl⟩:=ry
 exact rule i j t t' s _ _ hc ⟨.int (g i j),H,I.tok _,⟨_,rfl⟩,q⟩
theorem opI0 {f:Value→Value→Sem Value} {g:Int→Int→Int}
  (rule:∀ (i j:Int) (t u:Tok) (s:Shared) (Q:Value→Shared→Prop) (E:Value→Shared→Prop),Q (.int (g i j) s.toks) { s with toks:=s.toks + 1 }→wpAny (model X.prog X.w) X.A (f (.int i t) (.int j u)) Q E s) :
  OpR X f (rI0 fun i j=>.int (g i j)):=by
 intro pins s σ H x y v u Q I rx ry h
 obtain ⟨i,j,rfl,rfl,q⟩:=h
 obtain ⟨t,rfl⟩:=rx
 obtain ⟨t',rfl⟩:=ry
 exact rule i j t t' s _ _ ⟨.int (g i j),H,I.tok _,⟨_,rfl⟩,q⟩
theorem opB0 {f:Value→Value→Sem Value} {g:Int→Int→Bool}
  (rule:∀ (i j:Int) (t u:Tok) (s:Shared) (Q:Value→Shared→Prop) (E:Value→Shared→Prop),Q (.bool (g i j)) s→wpAny (model X.prog X.w) X.A (f (.int i t) (.int j u)) Q E s) :
  OpR X f (rI0 fun i j=>.bl (g i j)):=by
 intro pins s σ H x y v u Q I rx ry h
 obtain ⟨i,j,rfl,rfl,q⟩:=h
 obtain ⟨t,rfl⟩:=rx
 obtain ⟨t',rfl⟩:=ry
 exact rule i j t t' s _ _ ⟨.bl (g i j),H,I,rfl,q⟩
def CDiv (i j:Int):Prop:=0 < j∧j < 1073741824
def CPow (i j:Int):Prop:=0≤j∧j≤1000000∧i.natAbs < 2 ^ 64
def CMul (i j:Int):Prop:=(-(2 ^ 64) < i∧i < 2 ^ 64)∨(-(2 ^ 64) < j∧j < 2 ^ 64)
theorem CMul.ok {i j:Int} (h:CMul i j):IntMulOk i j:=by
 rcases h with ⟨h1,h2⟩ | ⟨h1,h2⟩
 ·exact .of_left (intBits_le_64 h1 h2)
 ·exact .of_right (intBits_le_64 h1 h2)
theorem two_pow_nn (k:Nat):(0:Int)≤2 ^ k:=by
 rw [two_pow_cast]
 exact Int.natCast_nonneg _
theorem J1m:OpR X (binaryOp .Add) (rI0 fun i j=>.int (i + j)):=opI0 fun _ _ _ _ _ _ _ q=>add_int q
theorem J4y:OpR X (binaryOp .Sub) (rI0 fun i j=>.int (i - j)):=opI0 fun _ _ _ _ _ _ _ q=>sub_int q
theorem op_mul:OpR X (binaryOp .Mult) (rI CMul fun i j=>.int (i * j)):=opI fun _ _ _ _ _ _ _ hc q=>mul_int q hc.ok
theorem op_fdiv:OpR X (binaryOp .FloorDiv) (rI CDiv fun i j=>.int (i / j)):=opI fun i j _ _ _ _ _ hc q=>by
 have h1:(0:Int) < j:=hc.1
 have h2:j < 1073741824:=hc.2
 exact floordiv_int (by omega) (by rw [Int.fdiv_eq_ediv_of_nonneg i (by omega)];exact q) (.inl (PyProof.noPylong_small (by omega)))
theorem J34:OpR X (binaryOp .Mod) (rI (fun _ j=>0 < j) fun i j=>.int (i % j)):=opI fun i j _ _ _ _ _ hc q=>by
 have h1:(0:Int) < j:=hc
 exact mod_int' (by omega) (by rw [Int.fmod_eq_emod_of_nonneg i (by omega)];exact q)
theorem op_pow:OpR X (binaryOp .Pow) (rI CPow fun i j=>.int (i ^ j.toNat)):=opI fun _ _ _ _ _ _ _ hc q=>pow_int_small hc.1 hc.2.1 hc.2.2 q
theorem op_shr:OpR X (binaryOp .RShift) (rI (fun _ j=>0≤j) fun i j=>.int (i / 2 ^ j.toNat)):=opI fun i j _ _ _ _ _ hc q =>
 rshift_int hc (by rw [Int.fdiv_eq_ediv_of_nonneg i (two_pow_nn _)];exact q)
theorem op_and:OpR X (binaryOp .BitAnd) (rI0 fun i j=>.int (Builtin.bitAnd i j)):=opI0 fun _ _ _ _ _ _ _ q=>and_int q
theorem unI {f:Value→Sem Value} {g:Int→Int}
  (rule:∀ (i:Int) (t:Tok) (s:Shared) (Q:Value→Shared→Prop) (E:Value→Shared→Prop),Q (.int (g i) s.toks) { s with toks:=s.toks + 1 }→wpAny (model X.prog X.w) X.A (f (.int i t)) Q E s) :
  UnR X f (rU fun i=>.int (g i)):=by
 intro pins s σ H x v Q I rx h
 obtain ⟨i,rfl,q⟩:=h
 obtain ⟨t,rfl⟩:=rx
 exact rule i t s _ _ ⟨.int (g i),H,I.tok _,⟨_,rfl⟩,q⟩
theorem J47:UnR X (unaryOp .USub) (rU fun i=>.int (-i)):=unI fun _ _ _ _ _ q=>neg_int q
end
def scal:V→V→Bool
 | .non,.non=>true | .non,.int _=>true | .int _,.non=>true | .non,.bl _=>true | .bl _,.non=>true | .non,.str _=>true | .str _,.non=>true
 | .int _,.int _=>true | .bl _,.bl _=>true | .str _,.str _=>true | .byt _,.byt _=>true
 | .int _,.str _=>true | .str _,.int _=>true | .bl _,.str _=>true | .str _,.bl _=>true
 | _,_=>false
def rEq:R2:=fun x y H Q=>scal x y=true∧Q (.bl (decide (x=y))) H
def rNe:R2:=fun x y H Q=>scal x y=true∧Q (.bl (!decide (x=y))) H
theorem dec_int {i j:Int}:decide (V.int i=V.int j)=(i == j):=by
 rw [Bool.eq_iff_iff]
 simp
theorem dec_bl {i j:Bool}:decide (V.bl i=V.bl j)=(i == j):=by
 rw [Bool.eq_iff_iff]
 simp
theorem dec_str {i j:Str}:decide (V.str i=V.str j)=(i == j):=by
 rw [Bool.eq_iff_iff]
 simp
theorem dec_byt {i j:Array UInt8}:decide (V.byt i=V.byt j)=(i.toList == j.toList):=by
 rw [Bool.eq_iff_iff]
 cases i
 cases j
 simp
section
variable {X:Cx} {a b c:Expr} {ta tb tc:TE} {pos:Pos}
theorem J12 {pins:List (Addr × Obj)} {σ:St} {H:Hp} {s:Shared} {Q:VK} {k k':Bool} (I:Inv X pins σ H s) (q:Q (.bl k) H) (e:k=k'):EP X pins σ Q (.bool k') s:=by
 subst e
 exact ⟨.bl k,H,I,rfl,q⟩
theorem op_eq:OpR X (compareOp .Eq) rEq:=by
 intro pins s σ H x y v u Q I rx ry h
 obtain ⟨hs,q⟩:=h
 cases x with
 | non =>
  cases rx
  cases y with
  | non=>cases ry;exact PySem.EqNone.eq_none_none (J12 I q (by simp))
  | bl j=>cases ry;exact PySem.EqNone.eq_none_bool (J12 I q (by simp))
  | int j=>obtain ⟨t',rfl⟩:=ry;exact PySem.EqNone.eq_none_int (J12 I q (by simp))
  | str j=>obtain ⟨t',rfl⟩:=ry;exact PySem.EqNone.eq_none_str (J12 I q (by simp))
  | _=>exact absurd (show false=true from hs) Bool.false_ne_true
 | bl i =>
  cases rx
  cases y with
  | non=>cases ry;exact PySem.EqNone.eq_bool_none (J12 I q (by simp))
  | bl j=>cases ry;exact eq_bool (J12 I q dec_bl)
  | str j=>obtain ⟨t',rfl⟩:=ry;exact PySem.EqMixed.eq_bool_str (J12 I q (by simp))
  | _=>exact absurd (show false=true from hs) Bool.false_ne_true
 | int i =>
  obtain ⟨t,rfl⟩:=rx
  cases y with
  | non=>cases ry;exact PySem.EqNone.eq_int_none (J12 I q (by simp))
  | int j=>obtain ⟨t',rfl⟩:=ry;exact eq_int (J12 I q dec_int)
  | str j=>obtain ⟨t',rfl⟩:=ry;exact PySem.EqMixed.eq_int_str (J12 I q (by simp))
  | _=>exact absurd (show false=true from hs) Bool.false_ne_true
 | str i =>
  obtain ⟨t,rfl⟩:=rx
  cases y with
  | non=>cases ry;exact PySem.EqNone.eq_str_none (J12 I q (by simp))
  | bl j=>cases ry;exact PySem.EqMixed.eq_str_bool (J12 I q (by simp))
  | int j=>obtain ⟨t',rfl⟩:=ry;exact PySem.EqMixed.eq_str_int (J12 I q (by simp))
  | str j=>obtain ⟨t',rfl⟩:=ry;exact eq_str (J12 I q dec_str)
  | _=>exact absurd (show false=true from hs) Bool.false_ne_true
 | byt i =>
  obtain ⟨t,rfl⟩:=rx
  cases y with
  | byt j=>obtain ⟨t',rfl⟩:=ry;exact PySem.W.eq_bytes (J12 I q dec_byt)
  | _=>exact absurd (show false=true from hs) Bool.false_ne_true
 | _=>cases y <;> exact absurd (show false=true from hs) Bool.false_ne_true
theorem op_ne:OpR X (compareOp .NotEq) rNe:=by
 intro pins s σ H x y v u Q I rx ry h
 obtain ⟨hs,q⟩:=h
 cases x with
 | non =>
  cases rx
  cases y with
  | non=>cases ry;exact PySem.EqNone.ne_none_none (J12 I q (by simp))
  | bl j=>cases ry;exact PySem.EqNone.ne_none_bool (J12 I q (by simp))
  | int j=>obtain ⟨t',rfl⟩:=ry;exact PySem.EqNone.ne_none_int (J12 I q (by simp))
  | str j=>obtain ⟨t',rfl⟩:=ry;exact PySem.EqNone.ne_none_str (J12 I q (by simp))
  | _=>exact absurd (show false=true from hs) Bool.false_ne_true
 | bl i =>
  cases rx
  cases y with
  | non=>cases ry;exact PySem.EqNone.ne_bool_none (J12 I q (by simp))
  | bl j=>cases ry;exact ne_bool (J12 I q (congrArg not dec_bl))
  | str j=>obtain ⟨t',rfl⟩:=ry;exact PySem.EqMixed.ne_bool_str (J12 I q (by simp))
  | _=>exact absurd (show false=true from hs) Bool.false_ne_true
 | int i =>
  obtain ⟨t,rfl⟩:=rx
  cases y with
  | non=>cases ry;exact PySem.EqNone.ne_int_none (J12 I q (by simp))
  | int j=>obtain ⟨t',rfl⟩:=ry;exact ne_int (J12 I q (congrArg not dec_int))
  | str j=>obtain ⟨t',rfl⟩:=ry;exact PySem.EqMixed.ne_int_str (J12 I q (by simp))
  | _=>exact absurd (show false=true from hs) Bool.false_ne_true
 | str i =>
  obtain ⟨t,rfl⟩:=rx
  cases y with
  | non=>cases ry;exact PySem.EqNone.ne_str_none (J12 I q (by simp))
  | bl j=>cases ry;exact PySem.EqMixed.ne_str_bool (J12 I q (by simp))
  | int j=>obtain ⟨t',rfl⟩:=ry;exact PySem.EqMixed.ne_str_int (J12 I q (by simp))
  | str j=>obtain ⟨t',rfl⟩:=ry;exact ne_str (J12 I q (congrArg not dec_str))
  | _=>exact absurd (show false=true from hs) Bool.false_ne_true
 | byt i =>
  obtain ⟨t,rfl⟩:=rx
  cases y with
  | byt j=>obtain ⟨t',rfl⟩:=ry;exact PySem.W.ne_bytes (J12 I q (congrArg not dec_byt))
  | _=>exact absurd (show false=true from hs) Bool.false_ne_true
 | _=>cases y <;> exact absurd (show false=true from hs) Bool.false_ne_true
theorem op_lt:OpR X (compareOp .Lt) (rI0 fun i j=>.bl (decide (i < j))):=opB0 fun _ _ _ _ _ _ _ q=>lt_int q
theorem op_gt:OpR X (compareOp .Gt) (rI0 fun i j=>.bl (decide (j < i))):=opB0 fun _ _ _ _ _ _ _ q=>gt_int q
theorem Ju (b:Expr) {op:CmpOp} (h:op≠.In:=by decide) (h2:op≠.NotIn:=by decide):behindInMarks op b=false:=by
 have e1:(op == CmpOp.In)=false:=by cases op <;> first | rfl | exact absurd rfl h
 have e2:(op == CmpOp.NotIn)=false:=by cases op <;> first | rfl | exact absurd rfl h2
 cases b <;> simp [behindInMarks,e1,e2]
theorem pe_cmpR {op:CmpOp} {r:R2} (ho:OpR X (compareOp op) r) (ha:PE X a ta) (hb:PE X b tb) (hm:behindInMarks op b=false):PE X (.Compare a [op] [b] pos) (tOp r ta tb):=by
 intro pins s σ H Q I h
 exact wpAny_Compare1 (binT ha hb I h fun v u s2 x y H2 I2 rx ry q=>ho pins s2 σ H2 x y v u Q I2 rx ry q) hm
def tTest (t:TE):TT:=fun σ H Q=>t σ H fun x H'=>∃ k,x=.bl k∧Q k H'
theorem Jl {op:CmpOp} {r:R2} (ho:OpR X (compareOp op) r) (ha:PE X a ta) (hb:PE X b tb) (hm:behindInMarks op b=false):PT X (.Compare a [op] [b] pos) (tTest (tOp r ta tb)):=by
 intro pins s σ H Q I h
 refine wpAny_isTrue_Compare1 (thn (ha pins s σ H _ I h) fun v s1 ⟨x,H1,I1,r1,q1⟩=>thn (hb pins s1 σ H1 _ I1 q1) fun u s2 ⟨y,H2,I2,r2,q2⟩ =>
  thn (ho pins s2 σ H2 x y v u _ I2 r1 r2 q2) fun c s3 ⟨z,H3,I3,r3,k,e,q3⟩=>?_) hm
 subst e
 cases r3
 exact wpAny_truthy_bool ⟨H3,I3,q3⟩
theorem line63:(sizeLine:Nat) < 2 ^ 63:=by rw [sizeLine_eq];decide
theorem vals1 {x:V} {us:List Value} (r:Vals [x] us):∃ u,us=[u]∧RelV x u:=by
 cases r with
 | cons r1 r2=>cases r2;exact ⟨_,rfl,r1⟩
theorem vals2 {x y:V} {us:List Value} (r:Vals [x,y] us):∃ u w',us=[u,w']∧RelV x u∧RelV y w':=by
 cases r with
 | cons r1 r2 =>
  cases r2 with
  | cons r3 r4=>cases r4;exact ⟨_,_,rfl,r1,r3⟩
end
end L2
namespace L2
open PySem PySem.Spec PyProof.Rows
structure ObjM (h:Heap) (x dx C:Addr) (mA:Str→Option Value):Prop where
 obj:h.get? x=some (PySem.W.instObj C dx)
 ns:h.Ns1 dx mA
 ne:dx≠x
theorem lookIn_ns {h:Heap} {dx:Addr} {mA:Str→Option Value} (n:h.Ns1 dx mA):∃ od,h.get? dx=some od∧∀ name,PySem.W.lookIn name od=some (mA name):=by
 obtain ⟨o,es,ep,ho,hd,hk,_,hm⟩:=n
 refine ⟨o,ho,fun name=>?_⟩
 have e:=hm name
 unfold nsFind findBy at e
 rw [← Array.find?_toList] at e
 unfold PySem.W.lookIn
 rw [hd]
 dsimp only
 split
 ·rename_i y q
  rw [q] at e
  exact congrArg some e
 ·rename_i q
  rw [q] at e
  have a:es.toList.any (·.refKey)=false:=by
   rw [List.any_eq_false]
   intro y hy
   obtain ⟨z,t,hkey⟩:=hk y (Array.mem_toList_iff.mp hy)
   simp [DictEntry.refKey,hkey]
  have a':¬ es.toList.any (·.refKey)=true:=by rw [a];exact Bool.false_ne_true
  rw [if_neg a']
  exact congrArg some e
theorem ObjM.look {h:Heap} {x dx C:Addr} {mA:Str→Option Value} (I:ObjM h x dx C mA):∃ od,PySem.W.InstAt h x (PySem.W.instObj C dx) C (some od)∧∀ name,PySem.W.lookIn name od=some (mA name) :=
 let ⟨od,ho,hl⟩:=lookIn_ns I.ns
 ⟨od,⟨I.obj,rfl,rfl,ho⟩,hl⟩
section
variable {prog:Program} {w:World} {A:Around} {E:Value→Shared→Prop} {s:Shared} {K:PySem.W.Frag} {x dx C f:Addr} {mA:Str→Option Value} {name:Str} {v:Value}
theorem get_map {expr:Bool} {Q:Value→Shared→Prop} (X:K.In s.heap) (I:ObjM s.heap x dx C mA) (hg:PySem.W.plainGet K C name=true) (hh:PySem.W.hasDictIn K C=true)
  (ha:PySem.W.findIn K (.ref C) name=some none) (hv:mA name=some v) (hv':PySem.W.handedIn v=true) (h:Q v { s with toks:=s.toks + 1 }) :
  wpAny (model prog w) A (getAttr (.ref x) name expr) Q E s:=by
 obtain ⟨od,J,hl⟩:=I.look
 exact PySem.W.get_value X J (PySem.W.plainGet_of hg).1 (PySem.W.findObj_own hh ha rfl (by rw [hl,hv])) hv' h
theorem get_meth {pl:Sem Bool} {Q:Value × List Value→Shared→Prop} (X:K.In s.heap) (I:ObjM s.heap x dx C mA) (hg:PySem.W.plainGet K C name=true)
  (hf:PySem.W.findIn K (.ref C) name=some (some (.ref f))) (ht:PySem.W.isFn K (.ref f)=true) (hv:mA name=none) (h:Q (.ref f,[.ref x]) s) :
  wpAny (model prog w) A (getMethod (.ref x) name pl) Q E s:=by
 obtain ⟨od,J,hl⟩:=I.look
 exact PySem.W.method_fn X J (PySem.W.plainGet_of hg).1 (PySem.W.plainGet_of hg).2 hf (beq_iff_eq.mp ht) (by show (PySem.W.lookIn name od).map (·.isSome)=some false;rw [hl,hv];rfl) h
theorem set_map {ns:List Str} {Q:Unit→Shared→Prop} (X:K.In s.heap) (I:ObjM s.heap x dx C mA)
  (hs:PySem.W.findIn K (.ref C) "__setattr__"=some (some (.builtin "object.__setattr__"))) (hp:PySem.W.plainOver K C=true) (ht:PySem.W.takerIn K C name=some none) (hh:PySem.W.hasDictIn K C=true)
  (hw:PySem.Within mA ns) (hsz:ns.length≤sizeLine)
  (h:∀ h',ObjM h' x dx C (fun y=>if y=name then some v else mA y)→Heap.SameBut dx s.heap h'→Q () { s with heap:=h',toks:=s.toks + 2 }) :
  wpAny (model prog w) A (setAttr (.ref x) name v) Q E s:=by
 obtain ⟨od,J,hl⟩:=I.look
 refine PySem.W.set_plain X J hs (PySem.W.osa_open (s:={ s with toks:=s.toks + 1 }) (r:=none) X J hp ht fun b=>?_)
 obtain ⟨cd,hc,hd'⟩:=PySem.W.any_some hh
 have hx:s.heap.get? x=some ⟨.ref C,some dx,.plain,#[]⟩:=I.obj
 refine wpAny_bind (wpAny_pure (wpAny_bind (wpAny_bind (wpAny_loadPart hx (wpAny_bind (PySem.W.Looks.here (s:={ s with toks:=s.toks + 1 }) (PySem.W.looks_clsIn X hc) ?_))))))
 rw [hd']
 refine wpAny_pure (a:=some dx) (wpAny_bind (wpAny_pure (wpAny_bind ?_)))
 refine wpAny_nsSet1 (s:={ s with toks:=s.toks + 1 }) I.ns fun h' hn2 hs2=>?_
 obtain ⟨oD,esD,epD,hoD,hdD,hcD⟩:=hn2.count (PySem.Within.cons name v hw)
 refine wpAny_bind (wpAny_lookBehind hoD (by rw [hdD];exact pastItsLine_dict (Nat.le_trans hcD (by rw [List.length_cons];omega))) ?_)
 exact wpAny_pure (h _ ⟨(hs2.2 _ (Ne.symm I.ne)).trans I.obj,hn2,I.ne⟩ hs2)
theorem make_map {R:Result→Shared→Prop} {vs:List Value} {kw:List (Str × Value)} (X:K.In s.heap) (hm:PySem.W.makesIn K C=true)
  (hi:PySem.W.findIn K (.ref C) "__init__"=some (some (.ref f))) (hf:PySem.W.typeIn K (.ref f)=some (.type "function"))
  (h:codeAny (model prog w) (A.under (.builtin "type.__call__" ⟨.ref C :: vs,kw⟩)) (.call (.ref f) ⟨.ref (s.heap.objs.size + 1) :: vs,kw⟩) (PySem.W.InitBack (s.heap.objs.size + 1) R)
   { s with heap:=(s.heap.push PySem.W.emptyDict).push (PySem.W.instObj C s.heap.objs.size) }) :
  codeAny (model prog w) A (.call (.ref C) ⟨vs,kw⟩) R s:=by
 obtain ⟨hh,g,d,t,os⟩:=s
 exact PySem.W.make_core (PySem.W.makes_of X hm) (PySem.W.looks_findIn X hi) (fun self=>PySem.W.bind_fn X self hf) (.inl rfl) h
end
def putF (f:Str) (v:V):List (Str × V)→List (Str × V)
 | []=>[(f,v)]
 | (g,x) :: r=>if g=f then (g,v) :: r else (g,x) :: putF f v r
theorem J24 (f g:Str) (v:V):∀ fs:List (Str × V),(putF f v fs).lookup g=if g=f then some v else fs.lookup g
 | []=>by
  show List.lookup g [(f,v)]=_
  by_cases h:g=f
  ·have hb:(g == f)=true:=beq_iff_eq.mpr h
   simp only [List.lookup,hb,if_pos h]
  ·have hb:(g == f)=false:=beq_eq_false_iff_ne.mpr h
   simp only [List.lookup,hb,if_neg h]
 | (k,x) :: r=>by
  have ih:=J24 f g v r
  rw [show putF f v ((k,x) :: r)=(if k=f then (k,v) :: r else (k,x) :: putF f v r) from rfl]
  by_cases hk:k=f
  ·rw [if_pos hk]
   by_cases h:g=k
   ·have hb:(g == k)=true:=beq_iff_eq.mpr h
    simp only [List.lookup,hb,if_pos (h.trans hk)]
   ·have hb:(g == k)=false:=beq_eq_false_iff_ne.mpr h
    simp only [List.lookup,hb,if_neg (fun e:g=f=>h (e.trans hk.symm))]
  ·rw [if_neg hk]
   by_cases h:g=k
   ·have hb:(g == k)=true:=beq_iff_eq.mpr h
    simp only [List.lookup,hb,if_neg (fun e:g=f=>hk (h.symm.trans e))]
   ·have hb:(g == k)=false:=beq_eq_false_iff_ne.mpr h
    simp only [List.lookup,hb]
    exact ih
theorem J4j (f:Str) (v:V):∀ fs:List (Str × V),f∈(putF f v fs).map (·.1)∧∀ g,g∈fs.map (·.1)→g∈(putF f v fs).map (·.1)
 | []=>⟨by simp [putF],fun g h=>by simp at h⟩
 | (k,x) :: r=>by
  obtain ⟨i1,i2⟩:=J4j f v r
  rw [show putF f v ((k,x) :: r)=(if k=f then (k,v) :: r else (k,x) :: putF f v r) from rfl]
  by_cases hk:k=f
  ·rw [if_pos hk]
   subst hk
   exact ⟨by simp,fun g h=>by simpa using h⟩
  ·rw [if_neg hk]
   refine ⟨?_,fun g h=>?_⟩
   ·rw [List.map_cons]
    exact List.mem_cons_of_mem _ i1
   ·rw [List.map_cons] at h ⊢
    rcases List.mem_cons.mp h with e | e
    ·exact List.mem_cons.mpr (.inl e)
    ·exact List.mem_cons_of_mem _ (i2 g e)
theorem J11 (f:Str) (v:V):∀ fs:List (Str × V),(putF f v fs).length≤fs.length + 1
 | []=>by simp [putF]
 | (k,x) :: r=>by
  have ih:=J11 f v r
  rw [show putF f v ((k,x) :: r)=(if k=f then (k,v) :: r else (k,x) :: putF f v r) from rfl]
  by_cases hk:k=f
  ·rw [if_pos hk,List.length_cons,List.length_cons];omega
  ·rw [if_neg hk,List.length_cons,List.length_cons];omega
theorem RelO.some_of {v:V} {o:Option Value} (r:RelO (some v) o):∃ u,o=some u∧RelV v u:=by
 cases o with
 | none=>exact (show False from r).elim
 | some u=>exact ⟨u,rfl,r⟩
theorem RelO.none_of {o:Option Value} (r:RelO none o):o=none:=by
 cases o with
 | none=>rfl
 | some u=>exact (show False from r).elim
theorem handed_of {v:V} {u:Value} (r:RelV v u):PySem.W.handedIn u=true:=by
 cases v with
 | non=>cases (show u=Value.none from r);rfl
 | bl b=>cases (show u=Value.bool b from r);rfl
 | int i=>obtain ⟨t,e⟩:=(show ∃ t,u=Value.int i t from r);cases e;rfl
 | str x=>obtain ⟨t,e⟩:=(show ∃ t,u=Value.str x t from r);cases e;rfl
 | byt b=>obtain ⟨t,e⟩:=(show ∃ t,u=Value.bytes b t from r);cases e;rfl
 | flt b=>obtain ⟨t,e⟩:=(show ∃ t,u=Value.float b t from r);cases e;rfl
 | ref a=>cases (show u=Value.ref a from r);rfl
 | ty n=>cases (show u=Value.type n from r);rfl
section
variable {P:Program} {w:World} {H H':Hp} {h h':Heap} {a C dx:Addr} {fs fs':List (Str × V)}
theorem ins_get (hok:HOk P w H h) (e:H a=some (.ins C dx fs)):∃ mA,ObjM h a dx C mA∧(∀ f,RelO (fs.lookup f) (mA f))∧PySem.Within mA (fs.map (·.1))∧fs.length≤1000∧H dx=some (.own a):=by
 obtain ⟨d,z,ne,ob,mA,n,r,q⟩:=(show ObjOk P w H h a (.ins C dx fs) from hok a _ e)
 exact ⟨mA,⟨ob,n,ne⟩,r,q,z,d⟩
end
structure Cls (K:PySem.W.Frag) (C:Addr):Prop where
 pg:PySem.W.plainGet K C Str.empty=true
 hd:PySem.W.hasDictIn K C=true
 po:PySem.W.plainOver K C=true
 sa:PySem.W.findIn K (.ref C) "__setattr__"=some (some (.builtin "object.__setattr__"))
theorem Cls.get {K:PySem.W.Frag} {C:Addr} (c:Cls K C) (f:Str):PySem.W.plainGet K C f=true:=c.pg
def NoAttr (K:PySem.W.Frag) (C:Addr) (f:Str):Prop:=PySem.W.findIn K (.ref C) f=some none
theorem NoAttr.taker {K:PySem.W.Frag} {C:Addr} {f:Str} (n:NoAttr K C f):PySem.W.takerIn K C f=some none:=by
 unfold PySem.W.takerIn
 rw [show PySem.W.findIn K (.ref C) f=some none from n]
 rfl
structure Meth (K:PySem.W.Frag) (C:Addr) (m:Str) (f:Addr):Prop where
 at_:PySem.W.findIn K (.ref C) m=some (some (.ref f))
 fn:PySem.W.isFn K (.ref f)=true
 kp:PySem.W.keepIn K (.ref f)=true
section
variable {X:Cx} {pins:List (Addr × Obj)} {σ:St} {H:Hp} {s:Shared} {a C dx:Addr} {fs:List (Str × V)} {f:Str} {v:V} {A:Around} {E:Value→Shared→Prop}
theorem getattr_ok {b:Bool} {Q:Value→Shared→Prop} (I:Inv X pins σ H s) (e:H a=some (.ins C dx fs)) (c:Cls X.K C) (n:NoAttr X.K C f) (l:fs.lookup f=some v)
  (h:∀ u s',Inv X pins σ H s'→RelV v u→Q u s'):wpAny (model X.prog X.w) A (getAttr (.ref a) f b) Q E s:=by
 obtain ⟨mA,O,r,_,_,_⟩:=ins_get I.hok e
 obtain ⟨u,hu,ru⟩:=RelO.some_of (v:=v) (o:=mA f) (by rw [← l];exact r f)
 exact get_map I.kIn O (c.get f) c.hd n hu (handed_of ru) (h u _ (I.tok _) ru)
theorem J50 {m:Str} {g:Addr} {pl:Sem Bool} {Q:Value × List Value→Shared→Prop} (I:Inv X pins σ H s) (e:H a=some (.ins C dx fs)) (c:Cls X.K C) (k:Meth X.K C m g) (l:fs.lookup m=none)
  (h:Q (.ref g,[.ref a]) s):wpAny (model X.prog X.w) A (getMethod (.ref a) m pl) Q E s:=by
 obtain ⟨mA,O,r,_,_,_⟩:=ins_get I.hok e
 have hn:mA m=none:=RelO.none_of (by rw [← l];exact r m)
 exact get_meth I.kIn O (c.get m) k.at_ k.fn hn h
theorem setattr_ok {y:V} {u:Value} {Q:Unit→Shared→Prop} (I:Inv X pins σ H s) (e:H a=some (.ins C dx fs)) (c:Cls X.K C) (n:NoAttr X.K C f) (hl:fs.length < 1000) (ry:RelV y u)
  (h:∀ s',Inv X pins σ (upd H a (.ins C dx (putF f y fs))) s'→Q () s'):wpAny (model X.prog X.w) A (setAttr (.ref a) f u) Q E s:=by
 obtain ⟨mA,O,r,wi,_,ho⟩:=ins_get I.hok e
 have hz:(fs.map (·.1)).length≤sizeLine:=by rw [List.length_map,sizeLine_eq];omega
 refine set_map I.kIn O c.sa c.po n.taker c.hd wi hz fun h' O' sb=>h _ ?_
 have hd:∃ o,h'.get? dx=some o:=let ⟨o,_,_,e',_⟩:=O'.ns;⟨o,e'⟩
 refine I.write (x:=a) (e:=dx) (by rw [e];exact True.intro) (.inr ho) (fun b q hb z=>(sb.2 b hb).trans z) hd ?_
 refine ⟨by rw [Jk O.ne];exact ho,?_,O.ne,O'.obj,_,O'.ns,fun g=>?_,fun g hg=>?_⟩
 ·have:=J11 f y fs;omega
 ·show RelO ((putF f y fs).lookup g) (if g=f then some u else mA g)
  rw [J24]
  by_cases q:g=f
  ·rw [if_pos q,if_pos q];exact ry
  ·rw [if_neg q,if_neg q];exact r g
 ·by_cases q:g=f
  ·rw [q];exact (J4j f y fs).1
  ·refine (J4j f y fs).2 g (wi g fun z=>hg ?_)
   show (if g=f then some u else mA g)=none
   rw [if_neg q];exact z
theorem Inv.made (I:Inv X pins σ H s):Inv X pins σ (upd (upd H s.heap.objs.size (.own (s.heap.objs.size + 1))) (s.heap.objs.size + 1) (.ins C s.heap.objs.size []))
  { s with heap:=(s.heap.push PySem.W.emptyDict).push (PySem.W.instObj C s.heap.objs.size) }:=by
 have e1:(s.heap.push PySem.W.emptyDict).get? s.heap.objs.size=some PySem.W.emptyDict:=Heap.get?_push_size s.heap rfl
 have e2:((s.heap.push PySem.W.emptyDict).push (PySem.W.instObj C s.heap.objs.size)).get? (s.heap.objs.size + 1)=some (PySem.W.instObj C s.heap.objs.size):=by
  have:=Heap.get?_push_size (s.heap.push PySem.W.emptyDict) (o:=PySem.W.instObj C s.heap.objs.size) rfl
  rwa [Heap.size_push] at this
 have e3:(s.heap.push PySem.W.emptyDict).Ns s.heap.objs.size (fun _=>none):=⟨PySem.W.emptyDict,#[],_,e1,rfl,(fun e he=>absurd he (by simp)),fun _=>rfl⟩
 have I1:=I.laid (a:=s.heap.objs.size) (o:=.own (s.heap.objs.size + 1)) (h':=s.heap.push PySem.W.emptyDict) (t':=s.toks) (fun b u q=>Heap.get?_push_of_some _ q) (Nat.le_refl _) ⟨_,e1⟩
 refine I1.laid (a:=s.heap.objs.size + 1) (o:=.ins C s.heap.objs.size []) (t':=s.toks) (fun b u q=>Heap.get?_push_of_some _ q) (Nat.le_of_eq (Heap.size_push _ _)) ?_
 have ne:s.heap.objs.size≠s.heap.objs.size + 1:=Nat.ne_of_lt (Nat.lt_succ_self _)
 refine ⟨by rw [Jk ne,J3],Nat.zero_le _,ne,e2,fun _=>none,(Heap.Ns1.of_empty e3).at fun o q=>Heap.get?_push_of_some _ q,fun _=>True.intro,fun y hy=>absurd rfl hy⟩
theorem attr_of {prog:Program} {w:World} {env:Env} {e:Expr} {f:Str} {pos:Pos} {s:Shared} {Q:Value→Shared→Prop} (hb:attributeBase e f env (eval e env)=eval e env)
  (h:wpAny (model prog w) A (eval e env) (fun o s₁=>wpAny (model prog w) A (getAttr o f true) Q E s₁) E s):wpAny (model prog w) A (eval (.Attribute e f pos) env) Q E s :=
 Attribute_any_ h (by rw [arm_eval_Attribute,hb])
end
def tFld (K:PySem.W.Frag) (ta:TE) (f:Str):TE:=fun σ H Q=>ta σ H fun x H1=>∃ a C dx fs v,x=.ref a∧H1 a=some (.ins C dx fs)∧Cls K C∧NoAttr K C f∧fs.lookup f=some v∧Q v H1
def sFld (K:PySem.W.Frag) (ta tv:TE) (f:Str):TS:=fun D σ H=>tv σ H fun y H1=>ta σ H1 fun x H2=>∃ a C dx fs,x=.ref a∧H2 a=some (.ins C dx fs)∧Cls K C∧NoAttr K C f∧fs.length < 1000∧
 D.nx σ (upd H2 a (.ins C dx (putF f y fs)))
section
variable {X:Cx} {o e value:Expr} {f:Str} {pos pos' tpos:Pos} {ta tv:TE}
theorem Je (he:PE X e ta) (hb:attributeBase e f X.env (eval e X.env)=eval e X.env):PE X (.Attribute e f pos) (tFld X.K ta f):=by
 intro pins s σ H Q I h
 refine attr_of hb (thn (he pins s σ H _ I h) fun u s1 ⟨x,H1,I1,rx,a,C,dx,fs,v,ex,ea,c,n,l,q⟩=>?_)
 subst ex
 obtain rfl:u=Value.ref a:=rx
 exact getattr_ok I1 ea c n l fun u' s2 I2 ru=>⟨v,H1,I2,ru,q⟩
theorem J4w (ha:PE X o ta) (hv:PE X value tv) (hs:swapsWith value (some (.Attribute o f pos')) pos.line X.env=pure false):PS X (.Assign [.Attribute o f pos'] value pos) (sFld X.K ta tv f):=by
 intro pins s σ H D I h
 refine plainObj_wpAny_Assign_Attribute (thn (hv pins s σ H _ I h) fun u s1 ⟨y,H1,I1,ry,q⟩=>thn (ha pins s1 σ H1 _ I1 q) fun ov s2 ⟨x,H2,I2,rx,a,C,dx,fs,ex,ea,c,n,l,q2⟩=>?_) hs
 subst ex
 obtain rfl:ov=Value.ref a:=rx
 exact setattr_ok I2 ea c n l ry fun s3 I3=>⟨σ,_,I3,q2⟩
end
section
variable {X:Cx} {pins:List (Addr × Obj)} {σ:St} {H:Hp} {s:Shared} {A:Around} {E:Value→Shared→Prop} {Q:Value→Shared→Prop} {c:Value} {b:Bool}
inductive TyOf (K:PySem.W.Frag) (H:Hp):V→Value→Prop where
 | non:TyOf K H .non (.type "NoneType")
 | bl (x:Bool):TyOf K H (.bl x) (.type "bool")
 | int (i:Int):TyOf K H (.int i) (.type "int")
 | str (x:Str):TyOf K H (.str x) (.type "str")
 | flt (x:UInt64):TyOf K H (.flt x) (.type "float")
 | lst {a:Addr} {xs:List V} (e:H a=some (.lst xs)):TyOf K H (.ref a) (.type "list")
 | frz {a:Addr} {o:Obj} {xs:List V} (e:H a=some (.frz o (.lst xs))):TyOf K H (.ref a) (.type "list")
 | tup {a:Addr} {xs:List V} (e:H a=some (.tup xs)):TyOf K H (.ref a) (.type "tuple")
 | dK {a:Addr} {kvs:List (Key × V)} (e:H a=some (.dK kvs)):TyOf K H (.ref a) (.type "dict")
 | dT {a:Addr} {kvs:List (List Key × V)} (e:H a=some (.dT kvs)):TyOf K H (.ref a) (.type "dict")
 | ins {a C dx:Addr} {fs:List (Str × V)} (e:H a=some (.ins C dx fs)) (cl:Cls K C) (ha:PySem.W.findIn K (.ref C) "__class__"=some (some (.builtin "object.__class__")))
   (hn:PySem.W.specialIn K (.builtin "object.__class__") "__get__"=some (some (.builtin "getset_descriptor.__get__"))) (htk:PySem.W.takesIn K (.builtin "object.__class__")=some true)
   (hm:PySem.W.mroIn K C (.type "object")=some true):TyOf K H (.ref a) (.ref C)
theorem isinst_ok {x:V} {u t:Value} (I:Inv X pins σ H s) (rx:RelV x u) (ty:TyOf X.K H x t) (e:PySem.W.kitOne X.K t c=some b) (h:∀ tk,Q (.bool b) { s with toks:=tk }) :
  wpAny (model X.prog X.w) A (call (.builtin "isinstance") [u,c]) Q E s:=by
 cases ty with
 | non=>cases (show u=Value.none from rx);exact PySem.W.kia_one PySem.W.kitx_none I.kIn True.intro e (fun z=>nomatch z) h
 | bl y=>cases (show u=Value.bool y from rx);exact PySem.W.kia_one PySem.W.kitx_bool I.kIn True.intro e (fun z=>nomatch z) h
 | int i=>obtain ⟨t,q⟩:=(show ∃ t,u=Value.int i t from rx);cases q;exact PySem.W.kia_one PySem.W.kitx_int I.kIn True.intro e (fun z=>nomatch z) h
 | str y=>obtain ⟨t,q⟩:=(show ∃ t,u=Value.str y t from rx);cases q;exact PySem.W.kia_one PySem.W.kitx_str I.kIn True.intro e (fun z=>nomatch z) h
 | flt y=>obtain ⟨t,q⟩:=(show ∃ t,u=Value.float y t from rx);cases q;exact PySem.W.kia_one PySem.W.kitx_float I.kIn True.intro e (fun z=>nomatch z) h
 | @lst a xs ea =>
  cases (show u=Value.ref a from rx)
  obtain ⟨_,_,n,_,h1⟩:=(show ObjOk X.prog X.w H s.heap a (.lst xs) from I.hok a _ ea)
  exact PySem.W.kia_one PySem.W.kitx_list I.kIn ⟨_,h1,rfl⟩ e (fun z=>nomatch z) h
 | @frz a ob xs ea =>
  cases (show u=Value.ref a from rx)
  obtain ⟨_,_,_,n,_,h1⟩:=(show ObjOk X.prog X.w H s.heap a (.frz ob (.lst xs)) from I.hok a _ ea)
  exact PySem.W.kia_one PySem.W.kitx_list I.kIn ⟨_,h1,rfl⟩ e (fun z=>nomatch z) h
 | @tup a xs ea =>
  cases (show u=Value.ref a from rx)
  obtain ⟨_,_,_,p⟩:=(show ObjOk X.prog X.w H s.heap a (.tup xs) from I.hok a _ ea)
  obtain ⟨o,h1,h2,_⟩:=p
  exact PySem.W.kia_one PySem.W.kitx_tuple I.kIn ⟨o,h1,h2.1⟩ e (fun z=>nomatch z) h
 | @dK a kvs ea =>
  cases (show u=Value.ref a from rx)
  obtain ⟨_,_,vs,_,p⟩:=(show ObjOk X.prog X.w H s.heap a (.dK kvs) from I.hok a _ ea)
  obtain ⟨o,es,ep,h1,h2,_⟩:=p
  exact PySem.W.kia_one PySem.W.kitx_dict I.kIn ⟨o,h1,h2.1⟩ e (fun z=>nomatch z) h
 | @dT a kvs ea =>
  cases (show u=Value.ref a from rx)
  obtain ⟨_,_,xs,_,o,es,ep,h1,h2,_⟩:=(show ObjOk X.prog X.w H s.heap a (.dT kvs) from I.hok a _ ea)
  exact PySem.W.kia_one PySem.W.kitx_dict I.kIn ⟨o,h1,h2.1⟩ e (fun z=>nomatch z) h
 | @ins a C dx fs ea cl ha hn htk hm =>
  cases (show u=Value.ref a from rx)
  obtain ⟨mA,O,_⟩:=ins_get I.hok ea
  obtain ⟨od,J,_⟩:=O.look
  exact PySem.W.kia_one (PySem.W.kitx_own (cl.get _) cl.hd ha hn htk hm) I.kIn J e (fun z=>nomatch z) h
end
end L2
namespace L2
open PySem PySem.Spec PyProof.Rows
structure Room (k:Nat) (A:Around):Prop where
 hd:A.handled=none
 dp:A.depth + 3 * k + 5 < recursionLimit
 un:A.units + 16 * k + 200 < cLine
theorem Room.mono {j k:Nat} {A:Around} (r:Room k A) (h:j≤k):Room j A:=⟨r.hd,by have:=r.dp;omega,by have:=r.un;omega⟩
theorem Room.deeper {k:Nat} {A:Around} (r:Room (k + 1) A) (env:Env):Room k (A.deeper env) :=
 ⟨r.hd,by have:=r.dp;show A.depth + 1 + 3 * k + 5 < _;omega,by have:=r.un;show A.units + 3 + 16 * k + 200 < _;omega⟩
theorem make_depth {A:Around} {C:Addr} {us:List Value} {kw:List (Str × Value)}:(A.under (.builtin "type.__call__" ⟨.ref C :: us,kw⟩)).depth=A.depth + 1:=by
 first | rfl | simp [Around.under,Code.weight,Code.isCreation,Code.isGuard,Code.isCaller,Code.frames,Code.isFrame,guardIds]
theorem make_units {A:Around} {C:Addr} {us:List Value} {kw:List (Str × Value)}:(A.under (.builtin "type.__call__" ⟨.ref C :: us,kw⟩)).units=A.units + 1:=by
 first | rfl | simp [Around.under,Code.cUnits,Code.frames,Code.isFrame]
theorem Room.make {k:Nat} {A:Around} (r:Room (k + 1) A) (C:Addr) (us:List Value) (kw:List (Str × Value)):Room k (A.under (.builtin "type.__call__" ⟨.ref C :: us,kw⟩)) :=
 ⟨r.hd,by have:=r.dp;rw [make_depth];omega,by have:=r.un;rw [make_units];omega⟩
theorem Room.depth {k:Nat} {A:Around} (r:Room k A):A.depth < recursionLimit:=by have:=r.dp;omega
theorem Room.units {k:Nat} {A:Around} (r:Room k A):A.units + 64 < cLine:=by have:=r.un;omega
theorem Room.units0 {k:Nat} {A:Around} (r:Room k A):A.units < cLine:=by have:=r.un;omega
def tNil:TA:=fun _ H Q=>Q [] H
def tCons (ta:TE) (tr:TA):TA:=fun σ H Q=>ta σ H fun x H1=>tr σ H1 fun xs H2=>Q (x :: xs) H2
section
variable {X:Cx} {e:Expr} {es:List Expr} {te:TE} {t:TA} {pos:Pos}
theorem J4:PA X [] tNil:=fun _ _ _ _ H Q I h=>Calls.spliced_nil ⟨[],H,I,.nil,h⟩
theorem J0 (ha:PE X e te) (hr:PA X es t) (hs:starEach (e :: es) X.env=(false,eval e X.env) :: starEach es X.env:=by rfl):PA X (e :: es) (tCons te t):=by
 intro pos pins s σ H Q I h
 rw [hs]
 show wpAny _ _ (spliced ((false,eval e X.env) :: backTo pos (starEach es X.env))) _ _ s
 refine Calls.spliced_cons (thn (ha pins s σ H _ I h) fun u s1 ⟨x,H1,I1,r1,q1⟩=>?_)
 exact thn (hr pos pins s1 σ H1 _ I1 q1) fun us s2 ⟨xs,H2,I2,r2,q2⟩=>⟨x :: xs,H2,I2,.cons r1 r2,q2⟩
def tTup (t:TA):TE:=fun σ H Q=>t σ H fun xs H1=>xs.length≤sizeLine∧∀ p,H1 p=none→Q (.ref p) (upd H1 p (.tup xs))
def tLst (t:TA):TE:=fun σ H Q=>t σ H fun xs H1=>xs.length≤sizeLine∧∀ p,H1 p=none→Q (.ref p) (upd H1 p (.lst xs))
theorem J2c {x1} (h:PA X es t):PE X (.Tuple es x1 pos) (tTup t):=by
 intro pins s σ H Q I hq
 refine wpAny_Tuple_spliced (thn (h pos pins s σ H _ I hq) fun us s1 ⟨xs,H1,I1,r,z,q⟩=>⟨by rw [← r.length];exact z,?_⟩)
 have hf:H1 s1.heap.objs.size=none:=I1.hok.fresh (Nat.le_refl _)
 refine ⟨.ref s1.heap.objs.size,upd H1 s1.heap.objs.size (.tup xs),I1.laid (t':=s1.toks) (fun b u e=>Heap.get?_push_of_some _ e) (Nat.le_refl _) ?_,rfl,q _ hf⟩
 exact ⟨z,us,r,⟨_,Heap.get?_push_size _ rfl,⟨rfl,rfl⟩,_,rfl⟩⟩
theorem J2d (h:PA X es t):PE X (.List es pos) (tLst t):=by
 intro pins s σ H Q I hq
 refine wpAny_List_spliced (thn (h pos pins s σ H _ I hq) fun us s1 ⟨xs,H1,I1,r,z,q⟩=>⟨by rw [← r.length];exact z,?_⟩)
 have hf:H1 s1.heap.objs.size=none:=I1.hok.fresh (Nat.le_refl _)
 refine ⟨.ref s1.heap.objs.size,upd H1 s1.heap.objs.size (.lst xs),I1.laid (t':=s1.toks) (fun b u e=>Heap.get?_push_of_some _ e) (Nat.le_refl _) ?_,rfl,q _ hf⟩
 exact ⟨z,us,0,r,Heap.get?_push_size _ rfl⟩
end
abbrev Sp:=List V→Hp→VK→XK→Prop
abbrev CXT:=List Env→Hp→Shared→XK→Value→Shared→Prop
structure Env0 (P:Program) (w:World) (K:PySem.W.Frag) (mg:Str→Option Value) (base:Heap) (A:Around) (outer:List Env) (s:Shared) (H:Hp):Prop where
 frames:A.frames=some outer
 mod:Mod K mg base
 bs:∀ b o,base.get? b=some o→s.heap.get? b=some o∧H b=none
 bsz:base.objs.size≤s.heap.objs.size
 funs:s.heap.FunFrames base outer
 frf:∀ b∈frs outer,H b=none
 hok:HOk P w H s.heap
 bare:AllBare s.gens
def CE (outer:List Env) (P:Program) (w:World) (H:Hp) (s:Shared) (Q:VK) (u:Value) (s':Shared):Prop :=
 ∃ v H',s'.os=s.os∧AllBare s'.gens∧Un (frs outer) [] H H' s.heap s'.heap∧HOk P w H' s'.heap∧RelV v u∧Q v H'
def CR (CX:CXT) (outer:List Env) (P:Program) (w:World) (H:Hp) (s:Shared) (Q:VK) (E:XK) (r:Result) (s':Shared):Prop :=
 match r with
 | .ok (.ret u)=>CE outer P w H s Q u s'
 | .ok _=>False
 | .error e=>CX outer H s E e s'
structure FnOk (P:Program) (w:World) (K:PySem.W.Frag) (mg:Str→Option Value) (base:Heap) (CX:CXT) (k:Nat) (f:Addr) (fd:FuncData) (ps:List Str) (sp:Sp):Prop where
 len:∀ vs H Q E,sp vs H Q E→vs.length=ps.length
 run:∀ (A:Around) (outer:List Env) (s:Shared) (H:Hp) (args:Args) (us:List Value) (vs:List V) (Q:VK) (E:XK),Room k A→Env0 P w K mg base A outer s H→BindsTo s fd args (ps.zip us)→Vals vs us→sp vs H Q E→
  codeAny (model P w) A (.call (.ref f) args) (CR CX outer P w H s Q E) s
theorem FnOk.mono {P:Program} {w:World} {K:PySem.W.Frag} {mg:Str→Option Value} {base:Heap} {CX:CXT} {j k:Nat} {f:Addr} {fd:FuncData} {ps:List Str} {sp:Sp} (F:FnOk P w K mg base CX j f fd ps sp) (h:j≤k) :
  FnOk P w K mg base CX k f fd ps sp:=⟨F.len,fun A outer s H args us vs Q E hr=>F.run A outer s H args us vs Q E (hr.mono h)⟩
theorem Env0.make {P:Program} {w:World} {K:PySem.W.Frag} {mg:Str→Option Value} {base:Heap} {A:Around} {outer:List Env} {s:Shared} {H:Hp} (e:Env0 P w K mg base A outer s H) (C:Addr) (us:List Value) (kw:List (Str × Value)) :
  Env0 P w K mg base (A.under (.builtin "type.__call__" ⟨.ref C :: us,kw⟩)) outer s H:=⟨by first | exact e.frames | (simpa [Around.under,Code.envs,Code.isFrame,pushEnvs] using e.frames),e.mod,e.bs,e.bsz,e.funs,e.frf,e.hok,e.bare⟩
section
variable {X:Cx} {pins:List (Addr × Obj)} {σ:St} {H:Hp} {s s':Shared}
theorem Inv.env0 (I:Inv X pins σ H s):Env0 X.prog X.w X.K X.mg X.base X.A X.stack s H :=
 ⟨I.ok.frames,I.ok.mod,I.bs,Nat.le_trans I.ok.bsz I.sz,I.stack,I.stkFree,I.hok,I.bare⟩
theorem Inv.after {Q:VK} {u:Value} (I:Inv X pins σ H s) (h:CE X.stack X.prog X.w H s Q u s'):EP X pins σ Q u s':=by
 obtain ⟨v,H',os,bare,un,hok,r,q⟩:=h
 obtain ⟨hh,g,d,t,os'⟩:=s'
 obtain rfl:os'=s.os:=os
 exact ⟨v,H',I.call (h':=hh) (g':=g) (d':=d) (t':=t) (ch:=[]) un hok bare (fun b z=>absurd z (by simp)),r,q⟩
end
def tCall (sp:Sp) (dvs:List V) (E:XK) (t:TA):TE:=fun σ H Q=>t σ H fun vs H1=>sp (vs ++ dvs) H1 Q E
def tMake (C:Addr) (sp:Sp) (dvs:List V) (E:XK) (t:TA):TE:=fun σ H Q=>t σ H fun vs H1=>∀ x dx,H1 x=none→H1 dx=none→dx≠x→
 sp (.ref x :: (vs ++ dvs)) (upd (upd H1 dx (.own x)) x (.ins C dx [])) (fun v H2=>v=.non∧Q (.ref x) H2) E
def Binds (K:PySem.W.Frag) (fd:FuncData) (ps:List Str) (ds:List Value):Prop :=
 ∀ (s:Shared) (us:List Value),K.In s.heap→(us ++ ds).length=ps.length→BindsTo s fd ⟨us,[]⟩ (ps.zip (us ++ ds))
theorem Binds.all {K:PySem.W.Frag} {fd:FuncData} {ps:List Str} (h:∀ us:List Value,us.length=ps.length→bindArgs fd ⟨us,[]⟩=pure (ps.zip us)):Binds K fd ps []:=fun s us _ hl=>by
 rw [List.append_nil] at hl ⊢
 exact .of_eq (h us hl)
def J4m (CX:CXT) (X:Cx) (E:XK):Prop:=∀ (pins:List (Addr × Obj)) (σ:St) (H:Hp) (s:Shared) (e:Value) (s':Shared),Inv X pins σ H s→CX X.stack H s E e s'→X.xe e s'
section
variable {X:Cx} {CX:CXT} {k:Nat} {f C:Addr} {fd:FuncData} {ps:List Str} {sp:Sp} {dvs:List V} {ds:List Value} {E:XK} {x m:Str} {p pos apos:Pos} {e o:Expr} {es:List Expr} {ta:TE} {t:TA}
theorem run_fn {pins:List (Addr × Obj)} {σ:St} {H:Hp} {s:Shared} {Q:VK} {us:List Value} {vs:List V} (F:FnOk X.prog X.w X.K X.mg X.base CX k f fd ps sp) (hr:Room k X.A) (hb:Binds X.K fd ps ds) (hd:Vals dvs ds) (hx:J4m CX X E)
  (I:Inv X pins σ H s) (r:Vals vs us) (h:sp (vs ++ dvs) H Q E):wpAny (model X.prog X.w) X.A (call (.ref f) us) (EP X pins σ Q) X.xe s:=by
 have r2:Vals (vs ++ dvs) (us ++ ds):=r.append hd
 have hl:(us ++ ds).length=ps.length:=by rw [← r2.length];exact F.len _ _ _ _ h
 refine wpAny_call (codeAny_mono (F.run X.A X.stack s H ⟨us,[]⟩ (us ++ ds) (vs ++ dvs) Q E hr I.env0 (hb s us I.kIn hl) r2 h) fun r s' hq=>?_)
 cases r with
 | error e=>exact hx pins σ H s e s' I hq
 | ok fl =>
  cases fl with
  | ret u=>exact I.after hq
  | next=>exact False.elim hq
  | brk=>exact False.elim hq
  | cont=>exact False.elim hq
theorem Jb (F:FnOk X.prog X.w X.K X.mg X.base CX k f fd ps sp) (hr:Room k X.A) (hg:Gl X x) (hm:X.mg x=some (.ref f)) (hk:PySem.W.keepIn X.K (.ref f)=true) (hb:Binds X.K fd ps ds) (hd:Vals dvs ds) (hx:J4m CX X E)
  (ha:PA X (e :: es) t) (hdb:(x == ("__debug__":Str))=false:=by decide) (he:starEach (e :: es) X.env=(false,eval e X.env) :: starEach es X.env:=by rfl) (hpl:(backTo pos (starEach es X.env)).any (·.1)=false:=by rfl) :
  PE X (.Call (.Name x p) (e :: es) [] pos) (tCall sp dvs E t):=by
 intro pins s σ H Q I h
 refine wpAny_Call_Name_kw (J3i I hg hm ?_ hdb)
 refine PySem.W.callWith_K (h₀:=X.base) I.ok.mod.kin hk (thn (ha pos pins s σ H _ I h) fun us s1 ⟨vs,H1,I1,r,q⟩=>⟨I1.kIn,?_⟩) he hpl
 exact run_fn F hr hb hd hx I1 r q
structure Mk (K:PySem.W.Frag) (C f:Addr):Prop where
 makes:PySem.W.makesIn K C=true
 init:PySem.W.findIn K (.ref C) "__init__"=some (some (.ref f))
 fn:PySem.W.isFn K (.ref f)=true
 kp:PySem.W.keepIn K (.ref C)=true
theorem run_make {pins:List (Addr × Obj)} {σ:St} {H:Hp} {s:Shared} {Q:VK} {us:List Value} {vs:List V} (M:Mk X.K C f) (F:FnOk X.prog X.w X.K X.mg X.base CX k f fd ps sp) (hr:Room (k + 1) X.A) (hb:Binds X.K fd ps ds) (hd:Vals dvs ds)
  (hx:J4m CX X E) (I:Inv X pins σ H s) (r:Vals vs us)
  (h:∀ x dx,H x=none→H dx=none→dx≠x→sp (.ref x :: (vs ++ dvs)) (upd (upd H dx (.own x)) x (.ins C dx [])) (fun v H2=>v=.non∧Q (.ref x) H2) E) :
  wpAny (model X.prog X.w) X.A (call (.ref C) us) (EP X pins σ Q) X.xe s:=by
 have hq:=h (s.heap.objs.size + 1) s.heap.objs.size (I.hok.fresh (Nat.le_succ _)) (I.hok.fresh (Nat.le_refl _)) (Nat.ne_of_lt (Nat.lt_succ_self _))
 have I2:=Inv.made (C:=C) I
 have r2:Vals (V.ref (s.heap.objs.size + 1) :: (vs ++ dvs)) (Value.ref (s.heap.objs.size + 1) :: (us ++ ds)):=.cons rfl (r.append hd)
 have hl:(Value.ref (s.heap.objs.size + 1) :: us ++ ds).length=ps.length:=by
  have e:=r2.length
  rw [F.len _ _ _ _ hq] at e
  exact e.symm
 refine wpAny_call (make_map (f:=f) I.kIn M.makes M.init (beq_iff_eq.mp M.fn) (codeAny_mono (F.run _ X.stack _ _ ⟨Value.ref (s.heap.objs.size + 1) :: us,[]⟩ (Value.ref (s.heap.objs.size + 1) :: (us ++ ds)) _ _ E (hr.make C us [])
  (I2.env0.make C us []) (hb _ (Value.ref (s.heap.objs.size + 1) :: us) I2.kIn hl) r2 hq) fun r s' hq'=>?_))
 cases r with
 | error e=>exact hx pins σ _ _ e s' I2 hq'
 | ok fl =>
  cases fl with
  | ret u =>
   obtain ⟨v,H',I3,rv,ev,q3⟩:=I2.after hq'
   subst ev
   exact ⟨rv,⟨V.ref (s.heap.objs.size + 1),H',I3,rfl,q3⟩⟩
  | next=>exact False.elim hq'
  | brk=>exact False.elim hq'
  | cont=>exact False.elim hq'
theorem J14 (M:Mk X.K C f) (F:FnOk X.prog X.w X.K X.mg X.base CX k f fd ps sp) (hr:Room (k + 1) X.A) (hg:Gl X x) (hm:X.mg x=some (.ref C)) (hb:Binds X.K fd ps ds) (hd:Vals dvs ds) (hx:J4m CX X E)
  (ha:PA X (e :: es) t) (hdb:(x == ("__debug__":Str))=false:=by decide) (he:starEach (e :: es) X.env=(false,eval e X.env) :: starEach es X.env:=by rfl) (hpl:(backTo pos (starEach es X.env)).any (·.1)=false:=by rfl) :
  PE X (.Call (.Name x p) (e :: es) [] pos) (tMake C sp dvs E t):=by
 intro pins s σ H Q I h
 refine wpAny_Call_Name_kw (J3i I hg hm ?_ hdb)
 refine PySem.W.callWith_K (h₀:=X.base) I.ok.mod.kin M.kp (thn (ha pos pins s σ H _ I h) fun us s1 ⟨vs,H1,I1,r,q⟩=>⟨I1.kIn,?_⟩) he hpl
 exact run_make M F hr hb hd hx I1 r q
end
structure FnScope (N P:List Str) (sc:Scope):Prop where
 kind:sc.kind=.function
 co:sc.isCoroutine=false
 gen:sc.isGenerator=false
 nd:N.Nodup
 pre:N.take P.length=P
 par:∀ x∈P,sc.names.lookup x=some .local∨sc.names.lookup x=some .cell
 nofree:∀ y∈sc.names,y.2≠.free
theorem bindL_out {kindOf:Str→Option NameKind} {x:Str}:∀ {binds:List (Str × Value)} {m:Str→Option Value},(∀ v,(x,v) ∉ binds)→bindL kindOf binds m x=m x
 | [],_,_=>rfl
 | (n,v) :: r,m,h=>by
  unfold bindL
  rw [bindL_out fun w hw=>h w (List.mem_cons_of_mem _ hw)]
  split
  ·have:x≠n:=by rintro rfl;exact h v List.mem_cons_self
   simp [this]
  ·rfl
theorem bindC_out {kindOf:Str→Option NameKind} {x:Str}:∀ {binds:List (Str × Value)} {m:Str→Option Value},(∀ v,(x,v) ∉ binds)→bindC kindOf binds m x=m x
 | [],_,_=>rfl
 | (n,v) :: r,m,h=>by
  unfold bindC
  rw [bindC_out fun w hw=>h w (List.mem_cons_of_mem _ hw)]
  split
  ·rfl
  ·have:x≠n:=by rintro rfl;exact h v List.mem_cons_self
   simp [this]
theorem bindL_get {kindOf:Str→Option NameKind} {x:Str} {v:Value}:∀ {P:List Str} {vs:List Value} {i:Nat} {m:Str→Option Value},P.Nodup→P[i]?=some x→vs[i]?=some v→kindOf x=some .local→
  bindL kindOf (P.zip vs) m x=some v
 | [],_,_,_,_,h,_,_=>by simp at h
 | _ :: _,[],_,_,_,_,h,_=>by simp at h
 | p :: P,w :: vs,0,m,nd,h1,h2,hk=>by
  simp at h1 h2;subst h1;subst h2
  show bindL kindOf ((p,w) :: P.zip vs) m p=_
  unfold bindL
  rw [bindL_out fun v hv=>(List.nodup_cons.mp nd).1 (List.of_mem_zip hv).1,if_pos hk]
  simp
 | p :: P,w :: vs,i + 1,m,nd,h1,h2,hk=>by
  show bindL kindOf ((p,w) :: P.zip vs) m x=_
  unfold bindL
  exact bindL_get (i:=i) (List.nodup_cons.mp nd).2 (by simpa using h1) (by simpa using h2) hk
theorem bindC_get {kindOf:Str→Option NameKind} {x:Str} {v:Value}:∀ {P:List Str} {vs:List Value} {i:Nat} {m:Str→Option Value},P.Nodup→P[i]?=some x→vs[i]?=some v→kindOf x≠some .local→
  bindC kindOf (P.zip vs) m x=some v
 | [],_,_,_,_,h,_,_=>by simp at h
 | _ :: _,[],_,_,_,_,h,_=>by simp at h
 | p :: P,w :: vs,0,m,nd,h1,h2,hk=>by
  simp at h1 h2;subst h1;subst h2
  show bindC kindOf ((p,w) :: P.zip vs) m p=_
  unfold bindC
  rw [bindC_out fun v hv=>(List.nodup_cons.mp nd).1 (List.of_mem_zip hv).1,if_neg hk]
  simp
 | p :: P,w :: vs,i + 1,m,nd,h1,h2,hk=>by
  show bindC kindOf ((p,w) :: P.zip vs) m x=_
  unfold bindC
  exact bindC_get (i:=i) (List.nodup_cons.mp nd).2 (by simpa using h1) (by simpa using h2) hk
def start (N:List Str) (vs:List V):St:=vs.map some ++ List.replicate (N.length - vs.length) none
def cxOf (CX:CXT) (P:Program) (w:World) (K:PySem.W.Frag) (mg:Str→Option Value) (base:Heap) (N:List Str) (qual:Str) (scope:Scope) (f:Addr) (cd:Value) (A:Around) (outer:List Env) (s:Shared) (H:Hp) (E:XK):Cx where
 prog:=P
 w:=w
 K:=K
 mg:=mg
 base:=base
 A:=A.deeper (envOfC qual scope s.heap.objs.size f cd)
 N:=N
 s₀:=s
 H₀:=H
 env:=envOfC qual scope s.heap.objs.size f cd
 outer:=outer
 stack:=envOfC qual scope s.heap.objs.size f cd :: outer
 ex:=[]
 calm:=true
 fn:=fun _=>true
 pn:=[]
 xe:=fun e s'=>wpAny (model P w) (A.deeper (envOfC qual scope s.heap.objs.size f cd)) (leaving (envOfC qual scope s.heap.objs.size f cd) e) (fun _ s''=>CX outer H s E e s'') (fun e' s''=>CX outer H s E e' s'') s'
theorem cell_has {sc:Scope} {n:Nat} {x:Str} (h:sc.names.lookup x=some .cell):∃ c,(cellsFrom n sc.names []).lookup x=some c:=by
 have q:=PySem.W.cellsFrom_some sc.names n [] (.inl h)
 exact Option.isSome_iff_exists.mp q
theorem inv_start {CX:CXT} {P:Program} {w:World} {K:PySem.W.Frag} {mg:Str→Option Value} {base:Heap} {N ps:List Str} {qual:Str} {scope:Scope} {f:Addr} {cd:Value} {A:Around} {outer:List Env} {s s1:Shared} {H:Hp} {E:XK} {us:List Value} {vs:List V}
  (S:FnScope N ps scope) (hd:A.handled=none) (e0:Env0 P w K mg base A outer s H) (hl:vs.length=ps.length) (r:Vals vs us)
  (x:InCallC s s.heap.objs.size (bindL (envOfC qual scope s.heap.objs.size f cd).kindOf (ps.zip us) fun _=>none) (cellsFrom (s.heap.objs.size + 1) scope.names []) (bindC (envOfC qual scope s.heap.objs.size f cd).kindOf (ps.zip us) fun _=>none) s1) :
  Inv (cxOf CX P w K mg base N qual scope f cd A outer s H E) [] (start N vs) H s1:=by
 have hpl:ps.length≤N.length:=by have:=congrArg List.length S.pre;rw [List.length_take] at this;omega
 obtain ⟨h1,tk,rfl,hk⟩:=x.done
 have noA:∀ b:Addr,b ∉ (cxOf CX P w K mg base N qual scope f cd A outer s H E).ex:=fun b z=>absurd (show b∈([]:List Addr) from z) (by simp)
 refine ⟨⟨e0.mod,S.kind,rfl,rfl,Nat.le_refl _,fun y z c h1 h2=>?_,fun y hy=>?_,fun y c _ h=>?_,fun _=>hd,Around.frames_deeper e0.frames,.inr ⟨rfl,rfl⟩,fun b z=>absurd z (noA b),e0.bs,e0.bsz,fun b _ _=>noA b,fun b z=>absurd z (noA b),e0.funs,e0.frf⟩,
  rfl,e0.bare,Un.kept hk,⟨_,x.toInCall.ns,fun i y v h1 h2 h3=>?_⟩,fun y c h=>⟨_,x.cell y c h⟩,e0.hok.fresh (Nat.le_refl _),fun y c h=>?_,fun p hp=>absurd (show p∈([]:List (Addr × Obj)) from hp) (by simp),e0.hok.kept hk,?_⟩
 ·exact name_of_addr x.apart (PySem.mem_of_lookup h1) (PySem.mem_of_lookup h2)
 ·have hy:scope.names.lookup y=some .cell∨scope.names.lookup y=some .free:=hy
  rcases hy with hy | hy
  ·exact cell_has hy
  ·exact absurd rfl (S.nofree _ (PySem.mem_of_lookup hy))
 ·exact Nat.le_of_lt (x.above y c (PySem.mem_of_lookup h))
 ·have hi:i < vs.length:=by
   unfold start at h2
   by_cases hi:i < vs.length
   ·exact hi
   ·rw [List.getElem?_append_right (by simpa using hi)] at h2
    rw [List.getElem?_replicate] at h2
    split at h2 <;> cases h2
  have ha:vs[i]?=some v:=by
   unfold start at h2
   rw [List.getElem?_append_left (by simpa using hi),List.getElem?_map] at h2
   cases e:vs[i]? with
   | none=>rw [e] at h2;cases h2
   | some a=>rw [e] at h2;cases h2;rfl
  obtain ⟨u,hu,rv⟩:=r.get ha
  have hp:ps[i]?=some y:=by
   rw [← S.pre,List.getElem?_take_of_lt (by omega)];exact h1
  have ndP:ps.Nodup:=by rw [← S.pre];exact S.nd.sublist (List.take_sublist _ _)
  refine ⟨u,rv,?_⟩
  rcases S.par y (List.mem_of_getElem? hp) with k | k
  ·exact .inl ⟨k,bindL_get ndP hp hu k⟩
  ·obtain ⟨c,e⟩:=cell_has (n:=s.heap.objs.size + 1) k
   refine .inr ⟨.inl k,c,e,?_⟩
   have q:=x.cell y c e
   rw [bindC_get ndP hp hu (by show scope.names.lookup y≠_;rw [k];decide)] at q
   exact q
 ·exact e0.hok.fresh (Nat.le_of_lt (x.above y c (PySem.mem_of_lookup h)))
 ·unfold start
  show _=N.length
  rw [List.length_append,List.length_map,List.length_replicate]
  omega
theorem fn_of {CX:CXT} {P:Program} {w:World} {K:PySem.W.Frag} {mg:Str→Option Value} {base:Heap} {k:Nat} {f:Addr} {name qual:Str} {params:Arguments} {body:List Stmt} {scope:Scope} {dV kV doc pm cdv ct oc:Value} {an od:Option Addr}
  {osl:Array (Option Value)} {N ps:List Str} {sp:Sp} (lk:K.lookup f=some ⟨oc,od,.func (PySem.W.fnOf name qual params body scope dV kV doc pm an cdv ct),osl⟩) (hcd:PySem.W.codeIn K cdv qual=true) (S:FnScope N ps scope)
  (len:∀ vs H Q E,sp vs H Q E→vs.length=ps.length)
  (hbody:∀ (A:Around) (outer:List Env) (s:Shared) (H:Hp) (vs:List V) (Q:VK) (E:XK),Room k (A.deeper (envOfC qual scope s.heap.objs.size f cdv))→sp vs H Q E→
   ∃ t,PSs (cxOf CX P w K mg base N qual scope f cdv A outer s H E) body t∧t { nx:=fun _ H'=>Q .non H',rt:=Q } (start N vs) H) :
  FnOk P w K mg base CX (k + 1) f (PySem.W.fnOf name qual params body scope dV kV doc pm an cdv ct) ps sp:=by
 refine ⟨len,fun A outer s H args us vs Q E hr e0 hb r hsp=>?_⟩
 have hl:=len _ _ _ _ hsp
 have KX:K.In s.heap:=e0.mod.kin.keeps fun b o e=>(e0.bs b o e).1
 have lim:s.heap.NoLimit:=e0.mod.nolimit.keeps fun b o e=>(e0.bs b o e).1
 have hkind:∀ y∈ps.zip us,scope.names.lookup y.1=some .local∨(scope.names.lookup y.1=some .cell∧((cellsFrom (s.heap.objs.size + 1) scope.names []).lookup y.1).isSome=true):=fun ⟨n,v⟩ hy=>by
  rcases S.par n (List.of_mem_zip hy).1 with q | q
  ·exact .inl q
  ·exact .inr ⟨q,PySem.W.cellsFrom_some _ _ _ (.inl q)⟩
 refine codeAny_call_function hr.depth (KX _ _ lk) rfl S.co S.gen rfl (PySem.W.codeRec_of KX hcd) (hb _ _ _ _ ?_)
 refine wpAny_newFunctionEnv_cells S.kind hkind fun env he s1 x=>?_
 subst he
 refine ⟨lim.keeps x.toInCall.keep,codeAny_func ?_⟩
 obtain ⟨t,ht,hq⟩:=hbody A outer s H vs Q E (hr.deeper _) hsp
 have I:Inv (cxOf CX P w K mg base N qual scope f cdv A outer s H E) [] (start N vs) H s1:=inv_start S hr.hd e0 hl r x
 refine wpAny_mono (ht [] s1 (start N vs) H _ I hq) (fun fl s' hs=>?_) fun e s' hs=>hs
 have fin:∀ {σ':St} {H':Hp} {v:V} {u:Value},Inv (cxOf CX P w K mg base N qual scope f cdv A outer s H E) [] σ' H' s'→RelV v u→Q v H'→CE outer P w H s Q u s' :=
  fun {σ' H' v u} J rv q=>⟨v,H',J.os,J.bare,J.base,J.hok,rv,q⟩
 cases fl with
 | ret u =>
  obtain ⟨v,σ',H',J,rv,q⟩:=hs
  exact fin J rv q
 | next =>
  obtain ⟨σ',H',J,q⟩:=hs
  exact fin (v:=V.non) (u:=Value.none) J rfl q
 | brk =>
  obtain ⟨_,_,_,q⟩:=hs
  exact False.elim q
 | cont =>
  obtain ⟨_,_,_,q⟩:=hs
  exact False.elim q
end L2
namespace L2
open PySem PySem.Spec PyProof.Rows
section
variable {X:Cx} {x:Str} {p pos:Pos} {e:Expr} {es:List Expr} {t:TA} {id T:String} {r:List V→Hp→VK→Prop}
def tCB (r:List V→Hp→VK→Prop) (t:TA):TE:=fun σ H Q=>t σ H fun vs H1=>r vs H1 Q
theorem Jo (hc:CallR X (.builtin id) r) (hg:Gl X x) (hm:X.mg x=none) (hv:bootBuiltins x=some (.builtin id)) (ha:PA X (e :: es) t) (hn:x≠"__name__":=by decide) (hdb:(x == ("__debug__":Str))=false:=by decide)
  (he:starEach (e :: es) X.env=(false,eval e X.env) :: starEach es X.env:=by rfl) (hpl:(backTo pos (starEach es X.env)).any (·.1)=false:=by rfl):PE X (.Call (.Name x p) (e :: es) [] pos) (tCB r t):=by
 intro pins s σ H Q I h
 refine wpAny_Call_Name_kw (ld_blt I hg hm hv ?_ hn hdb)
 exact PyProof.Rows.callWith_builtin1 (thn (ha pos pins s σ H _ I h) fun us s1 ⟨vs,H1,I1,r1,q1⟩=>hc pins s1 σ H1 vs us Q I1 r1 q1) he hpl
theorem Jn (hc:CallR X (.type T) r) (hg:Gl X x) (hm:X.mg x=none) (hv:bootBuiltins x=some (.type T)) (ha:PA X (e :: es) t) (hn:x≠"__name__":=by decide) (hdb:(x == ("__debug__":Str))=false:=by decide)
  (he:starEach (e :: es) X.env=(false,eval e X.env) :: starEach es X.env:=by rfl) (hpl:(backTo pos (starEach es X.env)).any (·.1)=false:=by rfl):PE X (.Call (.Name x p) (e :: es) [] pos) (tCB r t):=by
 intro pins s σ H Q I h
 refine wpAny_Call_Name_kw (ld_blt I hg hm hv ?_ hn hdb)
 exact PyProof.Rows.callWith_type1 (thn (ha pos pins s σ H _ I h) fun us s1 ⟨vs,H1,I1,r1,q1⟩=>hc pins s1 σ H1 vs us Q I1 r1 q1) he hpl
end
end L2
namespace HT
open PySem PyProof.Rows
section
variable {prog:Program} {w:World} {A:Around} {E:Value→Shared→Prop} {s:Shared}
def sIx (n d:Nat):Option Int→Nat
 | none=>d
 | some v=>if v < 0 then (v + (n:Int)).toNat else min v.toNat n
theorem sIx_none (n d:Nat):sIx n d none=d:=rfl
theorem sIx_nat (n d k:Nat):sIx n d (some (k:Int))=min k n:=by
 show (if (k:Int) < 0 then ((k:Int) + (n:Int)).toNat else min (k:Int).toNat n)=min k n
 rw [if_neg (by omega),Int.toNat_natCast]
theorem sIx_le (n d:Nat) (hd:d≤n) (o:Option Int):sIx n d o≤n:=by
 cases o with
 | none=>exact hd
 | some v =>
  show (if v < 0 then (v + (n:Int)).toNat else min v.toNat n)≤n
  by_cases hv:v < 0
  ·rw [if_pos hv];omega
  ·rw [if_neg hv];exact Nat.min_le_right _ _
theorem clip_eq (v:Int) (n d:Nat):(if v < 0 then max (v + (n:Int)) 0 else min v (n:Int))=((sIx n d (some v):Nat):Int):=by
 show (if v < 0 then max (v + (n:Int)) 0 else min v (n:Int))=(((if v < 0 then (v + (n:Int)).toNat else min v.toNat n):Nat):Int)
 by_cases hv:v < 0
 ·simp only [if_pos hv];omega
 ·simp only [if_neg hv];omega
theorem adjust_gen (lo hi:Option Int) (n:Nat):Builtin.Slice.sliceAdjust lo hi 1 (n:Int)=(((sIx n 0 lo:Nat):Int),((sIx n n hi:Nat):Int)):=by
 have h1:¬ ((1:Int) < 0):=by omega
 unfold Builtin.Slice.sliceAdjust
 simp only [h1,if_false]
 refine Prod.ext ?_ ?_
 ·cases lo with
  | none=>rfl
  | some v=>exact clip_eq v n 0
 ·cases hi with
  | none=>rfl
  | some v=>exact clip_eq v n n
theorem places_gen (i j:Nat):Builtin.Slice.slicePlaces (i:Int) (j:Int) 1=j - i:=by
 unfold Builtin.Slice.slicePlaces
 have h1:(1:Int) > 0:=by omega
 simp only [h1,if_true,Int.ediv_one]
 split <;> omega
theorem J4u {v:Value} {o:Option Int} {Q:Option Int→Shared→Prop} (p:IsPart v o) (h:Q o s):wpAny (model prog w) A (Builtin.Slice.slicePartIndex v) Q E s:=by
 cases p with
 | none=>exact slicePart_none h
 | int i t=>exact slicePart_int h
theorem J3d {sl:Addr} {vl vu:Value} {lo hi:Option Int} {n:Nat} {Q:Int × Int × Nat→Shared→Prop} (hs:s.heap.IsSliceOf sl vl vu .none) (pl:IsPart vl lo) (pu:IsPart vu hi)
  (h:Q (((sIx n 0 lo:Nat):Int),1,sIx n n hi - sIx n 0 lo) s):wpAny (model prog w) A (Builtin.Slice.sliceApplied (.ref sl) (pure (n:Int))) Q E s:=by
 obtain ⟨os,hos,hcs,hds⟩:=id hs
 unfold Builtin.Slice.sliceApplied Builtin.Slice.sliceFields
 refine wpAny_bind (wpAny_bind (wpAny_field hos hds (x:=vl) rfl (wpAny_bind (wpAny_field hos hds (x:=vu) rfl (wpAny_bind (wpAny_field hos hds (x:=.none) rfl (wpAny_pure ?_)))))))
 refine wpAny_bind (slicePart_none ?_)
 show wpAny _ _ (if ((1:Int) == 0)=true then _ else _) _ _ s
 rw [if_neg (by decide)]
 refine wpAny_bind (J4u pl (wpAny_bind (J4u pu (wpAny_bind (wpAny_pure ?_)))))
 show wpAny _ _ (match Builtin.Slice.sliceAdjust lo hi 1 (n:Int) with | (lo,hi)=>pure (lo,(1:Int),Builtin.Slice.slicePlaces lo hi 1)) _ _ s
 rw [adjust_gen lo hi n]
 show wpAny _ _ (pure (((sIx n 0 lo:Nat):Int),(1:Int),Builtin.Slice.slicePlaces ((sIx n 0 lo:Nat):Int) ((sIx n n hi:Nat):Int) 1)) _ _ s
 rw [places_gen]
 exact wpAny_pure h
theorem pick_gen (xs:Array Value) (i k:Nat):((List.range k).filterMap fun (m:Nat)=>xs[((i:Int) + (m:Int) * 1).toNat]?).toArray=((xs.toList.drop i).take k).toArray:=by
 have e:(fun (m:Nat)=>xs[((i:Int) + (m:Int) * 1).toNat]?)=fun m=>xs[i + m]?:=by
  funext m
  have:((i:Int) + (m:Int) * 1).toNat=i + m:=by omega
  rw [this]
 rw [e]
 have:=pick_run xs i k
 rw [List.filterMap_map] at this
 have e2:((fun x=>xs[x]?) ∘ fun x=>i + x)=fun m=>xs[i + m]?:=rfl
 rw [e2] at this
 rw [this]
theorem getItem_tuple_cut {t sl:Addr} {items:Array Value} {vl vu:Value} {lo hi:Option Int} {Q:Value→Shared→Prop} (ht:IsTup s.heap t items) (hs:s.heap.IsSliceOf sl vl vu .none) (pl:IsPart vl lo) (pu:IsPart vu hi)
  (hw:¬ (sIx items.size 0 lo=0∧sIx items.size items.size hi=items.size))
  (h:Q (.ref s.heap.objs.size) { s with heap:=s.heap.push { cls:=.type "tuple",data:=.seq ((items.toList.drop (sIx items.size 0 lo)).take (sIx items.size items.size hi - sIx items.size 0 lo)).toArray } })
  (hsz:items.size≤sizeLine):wpAny (model prog w) A (getItem (.ref t) (.ref sl)) Q E s:=by
 have htake:sizeOk (.seq ((items.toList.drop (sIx items.size 0 lo)).take (sIx items.size items.size hi - sIx items.size 0 lo)).toArray):=by
  show ((items.toList.drop (sIx items.size 0 lo)).take (sIx items.size items.size hi - sIx items.size 0 lo)).toArray.size≤sizeLine
  rw [List.size_toArray,List.length_take,List.length_drop,Array.length_toList]
  omega
 have hj:sIx items.size items.size hi≤items.size:=sIx_le _ _ (Nat.le_refl _) hi
 obtain ⟨os,hos,hcs,hds⟩:=id hs
 have hTs:s.TypeIs (.ref sl) "slice":=⟨os,hos,hcs⟩
 unfold getItem
 try with_reducible refine wpAny_holding ?_
 first | refine wpAny_bind (wpAny_pure ?_) | skip
 refine wpAny_bind (wpAny_sequenceKey ht.typeIs (by decide) ?_)
 refine wpAny_bind (wpAny_callSpecial?_slot (name:=Str.ofString "__getitem__") ht.typeIs PyProof.Rows.slot_tuple_getitem
  (wpAny_call_entry PyProof.Rows.slot_tuple_getitem ht.typeIs entry_tuple_getitem ?_ (args_tuple_getitem _ _)))
 show wpAny _ _ (Builtin.Tuple.tupleItemsOf (.ref t) >>= _) _ _ s
 refine wpAny_bind (tupleItemsOf_ ht ?_)
 refine wpAny_bind (wpAny_typeOf hTs ?_)
 rw [if_pos (by decide)]
 refine wpAny_bind (J3d hs pl pu ?_)
 have hno:¬ ((((sIx items.size 0 lo:Nat):Int) == 0 && (1:Int) == 1 && (sIx items.size items.size hi - sIx items.size 0 lo) == items.size)=true):=by
  intro q
  rw [Bool.and_eq_true,Bool.and_eq_true] at q
  have q1:((sIx items.size 0 lo:Nat):Int)=0:=eq_of_beq q.1.1
  have q2:sIx items.size items.size hi - sIx items.size 0 lo=items.size:=eq_of_beq q.2
  exact hw ⟨by omega,by omega⟩
 show wpAny _ _ (if (((sIx items.size 0 lo:Nat):Int) == 0 && (1:Int) == 1 && (sIx items.size items.size hi - sIx items.size 0 lo) == items.size)=true then _ else _) _ _ s
 rw [if_neg hno,pick_gen]
 first
  | exact wpAny_bind (m:=Builtin.Tuple.tupleExact _) (wpAny_newObj_type (wpAny_pure ⟨_,rfl,wpAny_pure h⟩) htake)
  | exact wpAny_bind (m:=Builtin.Tuple.tupleExact _) (wpAny_newObj_type (wpAny_bind (wpAny_pure (wpAny_pure ⟨_,rfl,wpAny_pure h⟩))) htake)
  | exact wpAny_bind (wpAny_bind (m:=Builtin.Tuple.tupleExact _) (wpAny_newObj_type (wpAny_pure (wpAny_pure ⟨_,rfl,wpAny_pure h⟩)) htake))
  | exact wpAny_bind (wpAny_bind (m:=Builtin.Tuple.tupleExact _) (wpAny_newObj_type (wpAny_pure ⟨_,rfl,wpAny_pure h⟩) htake))
end
end HT
namespace L2
open PySem PySem.Spec PyProof.Rows
abbrev TO:=St→Hp→(Option Int→Hp→Prop)→Prop
def PO (X:Cx) (e:Option Expr) (t:TO):Prop :=
 ∀ (pins:List (Addr × Obj)) (s:Shared) (σ:St) (H:Hp) (Q:Option Int→Hp→Prop),Inv X pins σ H s→t σ H Q→
  wpAny (model X.prog X.w) X.A (evalPart e X.env) (fun u s'=>∃ o H',Inv X pins σ H' s'∧IsPart u o∧Q o H') X.xe s
def tNoPart:TO:=fun _ H Q=>Q none H
def tPart (t:TE):TO:=fun σ H Q=>t σ H fun x H1=>∃ i,x=.int i∧Q (some i) H1
theorem J2r {ns:List Int}:∀ {us:List Value},Vals (ns.map V.int) us→IntsAre us ns:=by
 induction ns with
 | nil=>intro us r;rw [List.map_nil] at r;cases r;exact .nil
 | cons n ns ih =>
  intro us r
  rw [List.map_cons] at r
  cases r with
  | cons r1 r2 =>
   obtain ⟨t,e⟩:=r1
   subst e
   exact .cons n t (ih r2)
section
variable {X:Cx} {e:Expr} {te:TE} {lo hi:Option Expr} {tl th:TO} {pos p2:Pos}
theorem J2o:PO X none tNoPart:=by
 intro pins s σ H Q I h
 rw [evalPart_none]
 exact wpAny_pure ⟨none,H,I,.none,h⟩
theorem J2n (h:PE X e te):PO X (some e) (tPart te):=by
 intro pins s σ H Q I hw
 rw [evalPart_some]
 refine thn (h pins s σ H _ I hw) fun u s1 ⟨x,H1,I1,r1,q1⟩=>?_
 obtain ⟨i,rfl,q⟩:=q1
 obtain ⟨t,rfl⟩:=r1
 exact ⟨some i,H1,I1,.int i t,q⟩
def SlR (X:Cx) (r:V→Option Int→Option Int→Hp→VK→Prop):Prop :=
 ∀ (pins:List (Addr × Obj)) (s:Shared) (σ:St) (H:Hp) (x:V) (v vl vu:Value) (lo hi:Option Int) (sl:Addr) (Q:VK),Inv X pins σ H s→RelV x v→s.heap.IsSliceOf sl vl vu .none→IsPart vl lo→IsPart vu hi→r x lo hi H Q→
  ∃ T id,typeLookup (.type T) "__getitem__"=pure (some (.builtin id))∧s.TypeIs v T∧wpAny (model X.prog X.w) X.A (getItem v (.ref sl)) (EP X pins σ Q) X.xe s
def tSl (r:V→Option Int→Option Int→Hp→VK→Prop) (te:TE) (tl th:TO):TE:=fun σ H Q=>te σ H fun x H1=>tl σ H1 fun l H2=>th σ H2 fun u H3=>r x l u H3 Q
theorem J1i {r:V→Option Int→Option Int→Hp→VK→Prop} (hr:SlR X r) (he:PE X e te) (hl:PO X lo tl) (hu:PO X hi th):PE X (.Subscript e (.Slice lo hi none p2) pos) (tSl r te tl th):=by
 intro pins s σ H Q I h
 refine Subscript_ (thn (he pins s σ H _ I h) fun v s1 ⟨x,H1,I1,r1,q1⟩=>?_)
 refine wpAny_Slice (thn (hl pins s1 σ H1 _ I1 q1) fun vl s2 ⟨l,H2,I2,pl,q2⟩=>thn (hu pins s2 σ H2 _ I2 q2) fun vu s3 ⟨u,H3,I3,pu,q3⟩=>?_)
 rw [evalPart_none]
 refine wpAny_pure ?_
 have I4:Inv X pins σ H3 { s3 with heap:=s3.heap.push { cls:=.type "slice",data:=.fields #[vl,vu,.none] } }:=I3.kept (t':=s3.toks) fun b ob q=>Heap.get?_push_of_some _ q
 obtain ⟨T,id,hT,ht,hg⟩:=hr pins { s3 with heap:=s3.heap.push { cls:=.type "slice",data:=.fields #[vl,vu,.none] } } σ H3 x v vl vu l u s3.heap.objs.size Q I4 r1 (Heap.IsSliceOf.new ..) pl pu q3
 show wpAny (model X.prog X.w) X.A (subscriptTail e (.Slice lo hi none p2) v (.ref s3.heap.objs.size)) (EP X pins σ Q) X.xe { s3 with heap:=s3.heap.push { cls:=.type "slice",data:=.fields #[vl,vu,.none] } }
 exact tail_any (ops:=[.ref s3.heap.objs.size,v]) ht hT hg (by with_unfolding_all rfl)
def cutV (xs:List V) (lo hi:Option Int):List V:=(xs.drop (HT.sIx xs.length 0 lo)).take (HT.sIx xs.length xs.length hi - HT.sIx xs.length 0 lo)
theorem J46 (xs:List V) (lo hi:Option Int):(cutV xs lo hi).length≤xs.length:=by
 unfold cutV
 rw [List.length_take,List.length_drop]
 omega
def rSlT (K:PySem.W.Frag):V→Option Int→Option Int→Hp→VK→Prop:=fun x lo hi H Q=>∃ a xs,x=.ref a∧SqT K H a xs∧
 ¬ (HT.sIx xs.length 0 lo=0∧HT.sIx xs.length xs.length hi=xs.length)∧∀ p,H p=none→Q (.ref p) (upd H p (.tup (cutV xs lo hi)))
theorem sl_tup:SlR X (rSlT X.K):=by
 intro pins s σ H x v vl vu lo hi sl Q I rx hs pl pu h
 obtain ⟨a,xs,rfl,hx,hw,q⟩:=h
 cases rx
 obtain ⟨its,r,ht,hz⟩:=I.tuple hx
 have hlen:its.toArray.size=xs.length:=by rw [List.size_toArray];exact r.length.symm
 refine ⟨"tuple",_,PyProof.Rows.slot_tuple_getitem.lookup,ht.typeIs,?_⟩
 refine HT.getItem_tuple_cut ht hs pl pu (by rw [hlen];exact hw) ?_ (by rw [hlen];exact hz)
 rw [hlen]
 refine ⟨.ref s.heap.objs.size,_,I.laid (t':=s.toks) (o:=.tup (cutV xs lo hi)) (fun b ob q=>Heap.get?_push_of_some _ q) (Nat.le_refl _) ?_,rfl,q _ (I.hok.fresh (Nat.le_refl _))⟩
 exact ⟨Nat.le_trans (J46 xs lo hi) hz,_,(r.drop (HT.sIx xs.length 0 lo)).take (HT.sIx xs.length xs.length hi - HT.sIx xs.length 0 lo),TupX.new _ _⟩
end
end L2
namespace L2
open PySem PySem.Spec PyProof.Rows
def ixN (n:Nat) (i:Int):Option Nat:=if 0≤i then (if i < n then some i.toNat else none) else if -(n:Int)≤i then some (i + n).toNat else none
def atI {α:Type} (xs:List α) (i:Int):Option α:=(ixN xs.length i).bind fun j=>xs[j]?
theorem ixN_seq {n:Nat} {i:Int} {j:Nat} (h:ixN n i=some j):seqIndex? i n=some j∧j < n∧-(n:Int)≤i∧i < n:=by
 unfold ixN at h
 by_cases h0:0≤i
 ·rw [if_pos h0] at h
  by_cases h1:i < n
  ·rw [if_pos h1] at h
   have e:i.toNat=j:=Option.some.inj h
   exact ⟨by rw [seqIndex_of h0 h1,e],by omega,by omega,h1⟩
  ·rw [if_neg h1] at h;cases h
 ·rw [if_neg h0] at h
  by_cases h1:-(n:Int)≤i
  ·rw [if_pos h1] at h
   have e:(i + n).toNat=j:=Option.some.inj h
   exact ⟨by rw [seqIndex_neg (by omega) h1,e],by omega,h1,by omega⟩
  ·rw [if_neg h1] at h;cases h
theorem atI_get {α:Type} {xs:List α} {i:Int} {v:α} (h:atI xs i=some v):∃ j,seqIndex? i xs.length=some j∧xs[j]?=some v∧j < xs.length∧-(xs.length:Int)≤i∧i < xs.length:=by
 unfold atI at h
 cases e:ixN xs.length i with
 | none=>rw [e] at h;cases h
 | some j =>
  rw [e] at h
  obtain ⟨h1,h2,h3,h4⟩:=ixN_seq e
  exact ⟨j,h1,h,h2,h3,h4⟩
theorem J6 {α:Type} {xs:List α} {j:Nat} {v:α} (h:xs[j]?=some v):atI xs (j:Int)=some v:=by
 have hj:j < xs.length:=(List.getElem?_eq_some_iff.mp h).1
 have e:ixN xs.length (j:Int)=some j:=by
  unfold ixN
  rw [if_pos (by omega),if_pos (by omega)];simp
 unfold atI;rw [e];exact h
def PlainIx (b:Expr):Prop:=∀ o i,subscripted b false o i=operate [o,i] (getItem o i)
def IxR (X:Cx) (r:R2):Prop :=
 ∀ (value slice:Expr) (pins:List (Addr × Obj)) (s:Shared) (σ:St) (H:Hp) (x y:V) (v u:Value) (Q:VK),Inv X pins σ H s→RelV x v→RelV y u→r x y H Q→
  subscripted slice false v u=operate [v,u] (getItem v u)→wpAny (model X.prog X.w) X.A (subscriptTail value slice v u) (EP X pins σ Q) X.xe s
def MtR (X:Cx) (id:String) (r:V→List V→Hp→VK→Prop):Prop :=
 ∀ (pins:List (Addr × Obj)) (s:Shared) (σ:St) (H:Hp) (x:V) (xs:List V) (v:Value) (us:List Value) (Q:VK),Inv X pins σ H s→RelV x v→Vals xs us→r x xs H Q→
  wpAny (model X.prog X.w) X.A (call (.builtin id) (v :: us)) (EP X pins σ Q) X.xe s
section
variable {X:Cx} {a b:Expr} {ta tb:TE} {pos:Pos}
theorem pe_ix {r:R2} (hr:IxR X r) (ha:PE X a ta) (hb:PE X b tb) (hs:PlainIx b):PE X (.Subscript a b pos) (tOp r ta tb):=by
 intro pins s σ H Q I h
 exact Subscript_ (binT ha hb I h fun v u s2 x y H2 I2 rx ry q=>hr a b pins s2 σ H2 x y v u Q I2 rx ry q (hs _ _))
def rIxL (K:PySem.W.Frag):R2:=fun x y H Q=>∃ p xs i v,x=.ref p∧y=.int i∧SqL K H p xs∧atI xs i=some v∧Q v H
def rIxT (K:PySem.W.Frag):R2:=fun x y H Q=>∃ p xs i v,x=.ref p∧y=.int i∧SqT K H p xs∧atI xs i=some v∧Q v H
theorem Jr:IxR X (rIxL X.K):=by
 intro value slice pins s σ H x y v u Q I rx ry h hs
 obtain ⟨p,xs,i,z,rfl,rfl,hq,he,q⟩:=h
 cases rx
 obtain ⟨t,rfl⟩:=ry
 obtain ⟨its,r,pl,hz⟩:=I.list hq
 obtain ⟨j,h1,h2,h3,h4,h5⟩:=atI_get he
 obtain ⟨w,ew,rw'⟩:=r.get h2
 have hl:=r.length
 have hn:=line63
 have fin:EP X pins σ Q w s:=⟨z,H,I,rw',q⟩
 by_cases h0:0≤i
 ·have hj:i.toNat=j:=by
   rw [seqIndex_of h0 h5] at h1
   exact Option.some.inj h1
  exact item_listR pl.isList h0 (by omega) (by rw [hj];simpa using ew) fin hs
 ·have hj:(i + (its.toArray.size:Int)).toNat=j:=by
   rw [seqIndex_neg (by omega) h4] at h1
   rw [List.size_toArray,← hl]
   exact Option.some.inj h1
  exact subscriptTail_builtinR (x:=w) pl.isList.typeIs slot_list_getitem.lookup
   (wpAny_getItem_list_neg (Q:=fun r s'=>r=w∧EP X pins σ Q r s') pl.isList (by omega) (by rw [List.size_toArray] <;> omega) (by omega) (by rw [hj];simpa using ew) ⟨rfl,fin⟩) hs
theorem Jh:IxR X (rIxT X.K):=by
 intro value slice pins s σ H x y v u Q I rx ry h hs
 obtain ⟨p,xs,i,z,rfl,rfl,hq,he,q⟩:=h
 cases rx
 obtain ⟨t,rfl⟩:=ry
 obtain ⟨its,r,pl,hz⟩:=I.tuple hq
 obtain ⟨j,h1,h2,h3,h4,h5⟩:=atI_get he
 obtain ⟨w,ew,rw'⟩:=r.get h2
 have hl:=r.length
 have hn:=line63
 have fin:EP X pins σ Q w s:=⟨z,H,I,rw',q⟩
 exact subscriptTail_builtinR (x:=w) pl.typeIs slot_tuple_getitem.lookup
  (getItem_tuple (j:=j) (Q:=fun r s'=>r=w∧EP X pins σ Q r s') pl (by omega) (by omega) (by rw [List.size_toArray,← hl];exact h1) (by simpa using ew) ⟨rfl,fin⟩) hs
theorem mapSeq_set (its:List Value) (n j:Nat) (u:Value):Obj.mapSeq (·.setIfInBounds j u) { cls:=.type "list",data:=.seq its.toArray n }={ cls:=.type "list",data:=.seq (its.set j u).toArray n }:=by
 simp [Obj.mapSeq]
theorem Inv.lst {pins:List (Addr × Obj)} {σ:St} {H:Hp} {s:Shared} {p:Addr} {xs:List V} (I:Inv X pins σ H s) (h:H p=some (.lst xs)) :
  ∃ (its:List Value) (n:Nat),Vals xs its∧s.heap.get? p=some { cls:=.type "list",data:=.seq its.toArray n }∧xs.length≤sizeLine:=by
 obtain ⟨z,its,n,r,e⟩:=I.hok p _ h
 exact ⟨its,n,r,e,z⟩
theorem Inv.lstUpd {pins:List (Addr × Obj)} {σ:St} {H:Hp} {s:Shared} {p:Addr} {xs ys:List V} {its its':List Value} {n n':Nat} {f:Obj→Obj} (I:Inv X pins σ H s) (h:H p=some (.lst xs))
  (ho:s.heap.get? p=some { cls:=.type "list",data:=.seq its.toArray n }) (hf:f { cls:=.type "list",data:=.seq its.toArray n }={ cls:=.type "list",data:=.seq its'.toArray n' }) (r:Vals ys its') (hz:ys.length≤sizeLine) (t:Nat) :
  Inv X pins σ (upd H p (.lst ys)) { s with heap:=s.heap.update p f,toks:=t }:=by
 have e:(s.heap.update p f).get? p=some { cls:=.type "list",data:=.seq its'.toArray n' }:=by
  rw [Heap.get?_update_self f ho (by rw [hf] <;> rfl),hf]
 refine I.write (x:=p) (e:=p) (by rw [h];trivial) (.inl rfl) (fun b u hb q=>(Heap.get?_update_other _ _ (Ne.symm hb)).trans q) ⟨_,e⟩ ?_
 exact ⟨hz,its',n',r,e⟩
def rSetL:V→V→V→Hp→(Hp→Prop)→Prop:=fun o i v H Q=>∃ p xs k j,o=.ref p∧i=.int k∧H p=some (.lst xs)∧ixN xs.length k=some j∧Q (upd H p (.lst (xs.set j v)))
theorem J1h:PSet X rSetL:=by
 intro pins s σ H o i v ov iv u Q I ro ri rv h
 obtain ⟨p,xs,k,j,rfl,rfl,hp,hj,q⟩:=h
 cases ro
 obtain ⟨t,rfl⟩:=ri
 obtain ⟨its,n,r,ho,hz⟩:=I.lst hp
 obtain ⟨h1,h2,h3,h4⟩:=ixN_seq hj
 have hl:=r.length
 have hn:=line63
 have I':Inv X pins σ (upd H p (.lst (xs.set j v))) { s with heap:=s.heap.update p (Obj.mapSeq (·.setIfInBounds j u)) } :=
  I.lstUpd hp ho (mapSeq_set its n j u) (r.set rv j) (by rw [List.length_set];exact hz) s.toks
 by_cases h0:0≤k
 ·have hk:k.toNat=j:=by
   rw [seqIndex_of h0 h4] at h1
   exact Option.some.inj h1
  exact PySem.W.ki_setAt ho h0 (by omega) (by rw [List.size_toArray,← hl];exact h4) (by rw [hk];exact ⟨_,I',q⟩)
 ·have hk:(k + (its.toArray.size:Int)).toNat=j:=by
   rw [seqIndex_neg (by omega) h3] at h1
   rw [List.size_toArray,← hl]
   exact Option.some.inj h1
  exact PySem.W.ki_setBack ho (by omega) (by rw [List.size_toArray,← hl];exact h3) (by omega) (by rw [hk];exact ⟨_,I',q⟩)
theorem J56 (lo hi:Option Int) (n:Nat):(sliceBounds lo hi none n).1=((HT.sIx n 0 lo:Nat):Int)∧(sliceBounds lo hi none n).2.1=((HT.sIx n n hi:Nat):Int)∧(sliceBounds lo hi none n).2.2=1:=by
 refine ⟨?_,?_,rfl⟩
 ·cases lo with
  | none=>simp [sliceBounds,HT.sIx]
  | some i =>
   simp only [sliceBounds,HT.sIx,Option.getD_none,show (1:Int) > 0 by decide,if_true]
   by_cases h:i < 0
   ·simp only [h,if_true] <;> omega
   ·simp only [h,if_false] <;> omega
 ·cases hi with
  | none=>simp [sliceBounds,HT.sIx]
  | some i =>
   simp only [sliceBounds,HT.sIx,Option.getD_none,show (1:Int) > 0 by decide,if_true]
   by_cases h:i < 0
   ·simp only [h,if_true] <;> omega
   ·simp only [h,if_false] <;> omega
theorem J4t (its:List Value) (lo hi:Option Int):slicePick its.toArray lo hi none=((its.drop (HT.sIx its.length 0 lo)).take (HT.sIx its.length its.length hi - HT.sIx its.length 0 lo)).toArray:=by
 obtain ⟨h1,h2,h3⟩:=J56 lo hi its.toArray.size
 unfold slicePick
 rw [h1,h2,h3]
 simp only [sliceRange_one,pick_run,List.size_toArray] <;> rfl
def rSlL (K:PySem.W.Frag):V→Option Int→Option Int→Hp→VK→Prop:=fun x lo hi H Q=>∃ a xs,x=.ref a∧SqL K H a xs∧∀ p,H p=none→Q (.ref p) (upd H p (.lst (cutV xs lo hi)))
theorem J30:SlR X (rSlL X.K):=by
 intro pins s σ H x v vl vu lo hi sl Q I rx hs pl pu h
 obtain ⟨a,xs,rfl,hx,q⟩:=h
 cases rx
 obtain ⟨its,r,ht,hz⟩:=I.list hx
 have hlen:=r.length
 refine ⟨"list",_,slot_list_getitem.lookup,ht.isList.typeIs,?_⟩
 refine wpAny_getItem_list_slice ht.isList hs pl pu .none (by simp) ?_ (by rw [List.size_toArray] <;> omega)
 rw [J4t,← hlen]
 refine ⟨.ref s.heap.objs.size,_,I.laid (t':=s.toks) (o:=.lst (cutV xs lo hi)) (fun b ob q=>Heap.get?_push_of_some _ q) (Nat.le_refl _) ?_,rfl,q _ (I.hok.fresh (Nat.le_refl _))⟩
 exact ⟨Nat.le_trans (J46 xs lo hi) hz,_,0,(r.drop (HT.sIx xs.length 0 lo)).take (HT.sIx xs.length xs.length hi - HT.sIx xs.length 0 lo),Heap.get?_push_size _ rfl⟩
def flatV:V→Bool
 | .non=>true
 | .bl _=>true
 | .int _=>true
 | .str _=>true
 | _=>false
def eqV:V→V→Bool
 | .non,.non=>true
 | .bl a,.bl b=>a == b
 | .bl a,.int b=>(if a then 1 else 0) == b
 | .int a,.bl b=>a == (if b then 1 else 0)
 | .int a,.int b=>a == b
 | .str a,.str b=>a == b
 | _,_=>false
theorem eqAt_V {A:Around} {s:Shared} {y x:V} {u v:Value} (ry:RelV y u) (rx:RelV x v) (fy:flatV y=true) (fx:flatV x=true):SeqAt.EqAt A s u v (eqV y x):=by
 cases y with
 | non =>
  cases ry
  cases x with
  | non=>cases rx;exact SeqAt.EqAt.same _
  | bl b=>cases rx;exact SeqAt.EqAt.none_bool b
  | int b=>obtain ⟨t,rfl⟩:=rx;exact SeqAt.EqAt.none_int b t
  | str b=>obtain ⟨t,rfl⟩:=rx;exact SeqAt.EqAt.none_str b t
  | _=>exact absurd (show false=true from fx) Bool.false_ne_true
 | bl a =>
  cases ry
  cases x with
  | non=>cases rx;exact SeqAt.EqAt.bool_none a
  | bl b=>cases rx;exact SeqAt.EqAt.bool_bool a b
  | int b=>obtain ⟨t,rfl⟩:=rx;exact SeqAt.EqAt.bool_int a b t
  | str b=>obtain ⟨t,rfl⟩:=rx;exact SeqAt.EqAt.bool_str a b t
  | _=>exact absurd (show false=true from fx) Bool.false_ne_true
 | int a =>
  obtain ⟨t',rfl⟩:=ry
  cases x with
  | non=>cases rx;exact SeqAt.EqAt.int_none a t'
  | bl b=>cases rx;exact SeqAt.EqAt.int_bool a t' b
  | int b=>obtain ⟨t,rfl⟩:=rx;exact SeqAt.EqAt.int_int a t' b t
  | str b=>obtain ⟨t,rfl⟩:=rx;exact SeqAt.EqAt.int_str a t' b t
  | _=>exact absurd (show false=true from fx) Bool.false_ne_true
 | str a =>
  obtain ⟨t',rfl⟩:=ry
  cases x with
  | non=>cases rx;exact SeqAt.EqAt.str_none a t'
  | bl b=>cases rx;exact SeqAt.EqAt.str_bool a t' b
  | int b=>obtain ⟨t,rfl⟩:=rx;exact SeqAt.EqAt.str_int a t' b t
  | str b=>obtain ⟨t,rfl⟩:=rx;exact SeqAt.EqAt.str_str a t' b t
  | _=>exact absurd (show false=true from fx) Bool.false_ne_true
 | _=>exact absurd (show false=true from fy) Bool.false_ne_true
def eqU (x:V) (u:Value):Bool:=match u with
 | .none=>eqV .non x
 | .bool b=>eqV (.bl b) x
 | .int i _=>eqV (.int i) x
 | .str z _=>eqV (.str z) x
 | _=>false
theorem eqU_of {x y:V} {u:Value} (r:RelV y u) (f:flatV y=true):eqU x u=eqV y x:=by
 cases y with
 | non=>cases r;rfl
 | bl b=>cases r;rfl
 | int i=>obtain ⟨t,rfl⟩:=r;rfl
 | str z=>obtain ⟨t,rfl⟩:=r;rfl
 | _=>exact absurd (show false=true from f) Bool.false_ne_true
theorem any_eqU {x:V}:∀ {xs:List V} {us:List Value},Vals xs us→xs.all flatV=true→us.any (eqU x)=xs.any fun y=>eqV y x
 | _,_,.nil,_=>rfl
 | y :: xs,u :: us,.cons r t,f=>by
  rw [List.all_cons,Bool.and_eq_true] at f
  rw [List.any_cons,List.any_cons,eqU_of r f.1,any_eqU t f.2]
theorem J5c {A:Around} {s:Shared} {x:V} {v:Value} (rx:RelV x v) (fx:flatV x=true):∀ {xs:List V} {us:List Value},Vals xs us→xs.all flatV=true→∀ u∈us,SeqAt.EqAt A s u v (eqU x u)
 | _,_,.nil,_=>fun u hu=>by cases hu
 | y :: xs,u :: us,.cons r t,f=>fun u' hu=>by
  rw [List.all_cons,Bool.and_eq_true] at f
  rcases List.mem_cons.mp hu with rfl | hu
  ·rw [eqU_of r f.1];exact eqAt_V r rx f.1 fx
  ·exact J5c rx fx t f.2 u' hu
def inV (x:V) (xs:List V):Bool:=xs.any fun y=>eqV y x
def rIn (K:PySem.W.Frag) (neg:Bool):R2:=fun x y H Q=>∃ p xs,y=.ref p∧(SqL K H p xs∨SqT K H p xs)∧flatV x=true∧xs.all flatV=true∧Q (.bl (if neg then !inV x xs else inV x xs)) H
theorem op_in_seq:OpR X (compareOp .In) (rIn X.K false):=by
 intro pins s σ H x y v u Q I rx ry h
 obtain ⟨p,xs,rfl,hq,fx,fs,q⟩:=h
 cases ry
 rcases hq with hq | hq
 ·obtain ⟨its,r,pl,hz⟩:=I.list hq
  refine SeqAt.in_listAt (eqU x) pl.isList (fun w hw=>J5c rx fx r fs w (by simpa using hw)) ⟨.bl _,H,I,rfl,?_⟩
  rw [show its.toArray.any (eqU x)=its.any (eqU x) by simp,any_eqU r fs]
  exact q
 ·obtain ⟨its,r,pl,hz⟩:=I.tuple hq
  refine SeqAt.in_tupleAt (eqU x) pl (fun w hw=>J5c rx fx r fs w (by simpa using hw)) ⟨.bl _,H,I,rfl,?_⟩
  rw [show its.toArray.any (eqU x)=its.any (eqU x) by simp,any_eqU r fs]
  exact q
theorem J16:CallR X (.builtin "len") (fun xs H Q=>∃ p ys,xs=[.ref p]∧(SqL X.K H p ys∨SqT X.K H p ys)∧Q (.int ys.length) H):=by
 intro pins s σ H xs us Q I r h
 obtain ⟨p,ys,rfl,hq,q⟩:=h
 obtain ⟨u,rfl,rx⟩:=vals1 r
 cases rx
 have hn:=line63
 rcases hq with hq | hq
 ·obtain ⟨its,r',pl,hz⟩:=I.list hq
  have hlen:=r'.length
  exact Calls.call_len_list pl.isList (by simp only [List.size_toArray] <;> omega) ⟨.int ys.length,H,I.tok _,⟨s.toks + 1,by rw [List.size_toArray,hlen]⟩,q⟩
 ·obtain ⟨its,r',pl,hz⟩:=I.tuple hq
  have hlen:=r'.length
  exact len_tuple pl (by simp only [List.size_toArray] <;> omega) ⟨.int ys.length,H,I.tok _,⟨s.toks + 1,by rw [List.size_toArray,hlen]⟩,q⟩
theorem Jq:CallR X (.type "list") (fun xs H Q=>∃ p ys,xs=[.ref p]∧(SqL X.K H p ys∨SqT X.K H p ys)∧∀ l,H l=none→Q (.ref l) (upd H l (.lst ys))):=by
 intro pins s σ H xs us Q I r h
 obtain ⟨p,ys,rfl,hq,q⟩:=h
 obtain ⟨u,rfl,rx⟩:=vals1 r
 cases rx
 have fin:∀ (its:List Value),Vals ys its→ys.length≤sizeLine→∀ (h':Heap) (c':Nat),(∀ b o',s.heap.get? b=some o'→h'.get? b=some o')→
   h'.get? s.heap.objs.size=some { cls:=.type "list",dict:=none,data:=.seq its.toArray c',slots:=#[] }→EP X pins σ Q (.ref s.heap.objs.size) { s with heap:=h' }:=fun its r' hz h' c' kp e =>
  ⟨.ref s.heap.objs.size,_,I.laid (t':=s.toks) kp (Nat.le_refl _) (show ObjOk X.prog X.w _ h' _ (.lst ys) from ⟨hz,its,c',r',e⟩),rfl,q _ (I.hok.fresh (Nat.le_refl _))⟩
 rcases hq with hq | hq
 ·obtain ⟨its,r',pl,hz⟩:=I.list hq
  have hlen:=r'.length
  obtain ⟨o,ho,hc,n,hd⟩:=pl.isList
  exact call_list_seq p (.inl rfl) ho hc hd (fun h' c' kp e=>fin its r' hz h' c' kp e) (by simp only [List.size_toArray] <;> omega)
 ·obtain ⟨its,r',pl,hz⟩:=I.tuple hq
  have hlen:=r'.length
  obtain ⟨o,ho,hc,n,hd⟩:=pl
  exact call_list_seq p (.inr rfl) ho hc hd (fun h' c' kp e=>fin its r' hz h' c' kp e) (by simp only [List.size_toArray] <;> omega)
theorem J52:CallR X (.type "tuple") (fun xs H Q=>∃ p ys,xs=[.ref p]∧((SqL X.K H p ys∧∀ l,H l=none→Q (.ref l) (upd H l (.tup ys)))∨(SqT X.K H p ys∧Q (.ref p) H))):=by
 intro pins s σ H xs us Q I r h
 obtain ⟨p,ys,rfl,h⟩:=h
 obtain ⟨u,rfl,rx⟩:=vals1 r
 cases rx
 rcases h with ⟨hq,q⟩ | ⟨hq,q⟩
 ·obtain ⟨its,r',pl,hz⟩:=I.list hq
  have hlen:=r'.length
  refine call_tuple_list pl.isList (fun h' kp=>?_) (by simp only [List.size_toArray] <;> omega)
  have I1:Inv X pins σ H { s with heap:=h' }:=I.kept (t':=s.toks) kp
  have I2:Inv X pins σ (upd H h'.objs.size (.tup ys)) { s with heap:=h'.push { cls:=.type "tuple",data:=.seq its.toArray } } :=
   I1.laid (t':=s.toks) (fun b o e=>Heap.get?_push_of_some _ e) (Nat.le_refl _) (show ObjOk X.prog X.w _ _ _ (.tup ys) from ⟨hz,its,r',TupX.new _ _⟩)
  exact ⟨.ref h'.objs.size,_,I2,rfl,q _ (I1.hok.fresh (Nat.le_refl _))⟩
 ·obtain ⟨its,r',pl,hz⟩:=I.tuple hq
  exact call_tuple_same pl ⟨.ref p,H,I,rfl,q⟩
def tyV (K:PySem.W.Frag) (T:String) (x:V) (H:Hp):Prop:=match x with
 | .str _=>T="str"
 | .int _=>T="int"
 | .ref p=>(T="list"∧∃ xs,SqL K H p xs)∨(T="tuple"∧∃ o,K.lookup p=some o∧o.cls=.type "tuple"∧o.dict=none)∨
   (T="dict"∧((∃ kvs,H p=some (.dK kvs))∨∃ kvs,H p=some (.dT kvs)))∨(T="set"∧∃ S n,H p=some (.set S n))
 | _=>False
theorem tyV_is {pins:List (Addr × Obj)} {σ:St} {H:Hp} {s:Shared} {T:String} {x:V} {v:Value} (I:Inv X pins σ H s) (r:RelV x v) (ty:tyV X.K T x H) :
  s.TypeIs v T∧∀ a,v=.ref a→∃ ob,s.heap.get? a=some ob∧ob.dict=none:=by
 cases x with
 | str z =>
  obtain ⟨t,rfl⟩:=r
  cases (show T="str" from ty)
  exact ⟨typeIs_str s z t,fun _ e=>nomatch e⟩
 | int i =>
  obtain ⟨t,rfl⟩:=r
  cases (show T="int" from ty)
  exact ⟨typeIs_int s i t,fun _ e=>nomatch e⟩
 | ref p =>
  cases r
  rcases ty with ⟨rfl,xs,hq⟩ | ⟨rfl,o,hk,hc,hd⟩ | ⟨rfl,hk⟩ | ⟨rfl,S,n,hk⟩
  ·obtain ⟨its,_,pl,_⟩:=I.list hq
   refine ⟨pl.isList.typeIs,fun a e=>?_⟩
   cases e
   obtain ⟨o,n,e,c,hd,_⟩:=pl
   exact ⟨o,e,hd⟩
  ·refine ⟨⟨o,I.kIn p o hk,hc⟩,fun a e=>?_⟩
   cases e
   exact ⟨o,I.kIn _ o hk,hd⟩
  ·have z:∃ o,s.heap.get? p=some o∧o.ExactDict:=by
    rcases hk with ⟨kvs,hk⟩ | ⟨kvs,hk⟩
    ·obtain ⟨_,_,_,_,o,_,_,e,ex,_⟩:=I.hok p _ hk
     exact ⟨o,e,ex⟩
    ·obtain ⟨_,_,_,_,o,_,_,e,ex,_⟩:=I.hok p _ hk
     exact ⟨o,e,ex⟩
   obtain ⟨o,e,ex⟩:=z
   refine ⟨⟨o,e,ex.1⟩,fun a e2=>?_⟩
   cases e2
   exact ⟨o,e,ex.2.1⟩
  ·obtain ⟨o,_,_,_,e,ex,_⟩:=I.hok p _ hk
   refine ⟨⟨o,e,ex.1⟩,fun a e2=>?_⟩
   cases e2
   exact ⟨o,e,ex.2.1⟩
 | _=>exact False.elim ty
def tBM (K:PySem.W.Frag) (T:String) (r:V→List V→Hp→VK→Prop) (to:TE) (t:TA):TE:=fun σ H Q=>to σ H fun x H1=>tyV K T x H1∧t σ H1 fun xs H2=>r x xs H2 Q
variable {o e:Expr} {es:List Expr} {to:TE} {t:TA} {name:Str} {apos cpos:Pos} {T id:String} {r:V→List V→Hp→VK→Prop}
theorem pe_bm (pa:PlainAttrs T) (slot:Slot T name id) (hty:typeOf (.builtin id)=pure (.type "method_descriptor")) (hm:MtR X id r) (ho:PE X o to) (ha:PA X (e :: es) t)
  (hbase:attributeBase o name X.env (eval o X.env)=eval o X.env:=by rfl)
  (hfew:((backTo cpos (starEach (e :: es) X.env)).all (fun x=>!x.1) && (backToKw cpos (keywordEach [] X.env)).all (fun x=>x.1.isSome)
   && decide ((e :: es).length + ([]:List Keyword).length + (if ([]:List Keyword).isEmpty then 0 else 1) < 30))=true:=by rfl)
  (hline:(apos.endLine == cpos.line)=true:=by rfl) (hs:starEach (e :: es) X.env=(false,eval e X.env) :: starEach es X.env:=by rfl) (hplain:(backTo cpos (starEach es X.env)).any (·.1)=false:=by rfl) :
  PE X (.Call (.Attribute o name apos) (e :: es) [] cpos) (tBM X.K T r to t):=by
 intro pins s σ H Q I h
 refine wpAny_Call_method_late hbase hfew hline rfl (thn (ho pins s σ H _ I h) fun v s1 ⟨x,H1,I1,r1,ty,q1⟩=>?_)
 obtain ⟨h1,h2⟩:=tyV_is I1 r1 ty
 refine ⟨T,id,pa,slot,hty,h1,h2,?_⟩
 have hA:=ha cpos pins s1 σ H1 _ I1 q1
 rw [hs] at hA ⊢
 refine Calls.callWith_builtin (by show (false || (backTo cpos (starEach es X.env)).any (·.1))=false;rw [hplain] <;> rfl) (Calls.evalArgs_plain ?_)
 exact thn hA fun us s2 ⟨vs,H2,I2,r2,q2⟩=>hm pins s2 σ H2 x vs v us Q I2 r1 r2 q2
end
end L2
namespace L2
open PySem PySem.Spec PyProof.Rows
def MtM (X:Cx) (id:String) (r:V→List V→Hp→VK→Prop):Prop :=
 ∀ (pins:List (Addr × Obj)) (s:Shared) (σ:St) (H:Hp) (x:V) (xs:List V) (v:Value) (us:List Value) (Q:VK),Inv X pins σ H s→RelV x v→Vals xs us→r x xs H Q→
  wpAny (model X.prog X.w) X.A (call (.builtin id) (v :: us)) (EP X pins σ Q) X.xe s
theorem Vals.one:∀ {x:V} {us:List Value},Vals [x] us→∃ u,us=[u]∧RelV x u
 | _,_,.cons r .nil=>⟨_,rfl,r⟩
theorem Vals.two:∀ {x y:V} {us:List Value},Vals [x,y] us→∃ u v,us=[u,v]∧RelV x u∧RelV y v
 | _,_,_,.cons r (.cons q .nil)=>⟨_,_,rfl,r,q⟩
theorem Vals.rep {xs:List V} {us:List Value} (h:Vals xs us):∀ k:Nat,Vals (List.replicate k xs).flatten (List.replicate k us).flatten
 | 0=>.nil
 | k + 1=>by
  rw [List.replicate_succ,List.replicate_succ,List.flatten_cons,List.flatten_cons]
  exact Vals.append h (Vals.rep h k)
theorem foldl_rep (its:List Value):∀ (k:Nat) (acc:List Value),
  List.foldl (fun x1 x2=>x1 ++ x2) acc.toArray (List.replicate k its.toArray)=(acc ++ (List.replicate k its).flatten).toArray
 | 0,acc=>by simp
 | k + 1,acc=>by
  have e:acc.toArray ++ its.toArray=(acc ++ its).toArray:=by simp
  have e2:(acc ++ its) ++ (List.replicate k its).flatten=acc ++ (List.replicate (k + 1) its).flatten:=by
   rw [List.replicate_succ,List.flatten_cons,List.append_assoc]
  rw [← e2,← foldl_rep its k (acc ++ its),← e,List.replicate_succ,List.foldl_cons]
section
variable {X:Cx} {pins:List (Addr × Obj)} {σ:St} {H:Hp} {s:Shared} {l b:Addr} {xs ys zs:List V}
theorem Inv.lset {its its':List Value} {n:Nat} {f:Array Value→Array Value} {t':Nat} (I:Inv X pins σ H s) (hH:H l=some (.lst xs))
  (e:s.heap.get? l=some { cls:=.type "list",data:=.seq its.toArray n }) (hf:f its.toArray=its'.toArray) (hv:Vals ys its') (hz:ys.length≤sizeLine) :
  Inv X pins σ (upd H l (.lst ys)) { s with heap:=s.heap.update l (Obj.mapSeq f),toks:=t' }:=by
 have q:=PySem.IsL.update e f
 rw [hf] at q
 refine I.write (x:=l) (e:=l) (by rw [hH];exact trivial) (.inl rfl) (fun b' u hb hu=>(Heap.get?_update_other s.heap (Obj.mapSeq f) (Ne.symm hb)).trans hu) ⟨_,q⟩ ?_
 exact ⟨hz,its',_,hv,q⟩
theorem Inv.lnew {its:List Value} {t':Nat} (I:Inv X pins σ H s) (hv:Vals ys its) (hz:ys.length≤sizeLine) :
  Inv X pins σ (upd H s.heap.objs.size (.lst ys)) { s with heap:=s.heap.push { cls:=.type "list",data:=.seq its.toArray },toks:=t' } :=
 I.laid (fun _ _ q=>Heap.get?_push_of_some _ q) (Nat.le_refl _) ⟨hz,its,0,hv,Heap.get?_push_size _ rfl⟩
theorem Inv.fresh (I:Inv X pins σ H s):H s.heap.objs.size=none:=I.hok.fresh (Nat.le_refl _)
theorem Inv.lstM (I:Inv X pins σ H s) (hH:H l=some (.lst xs)):xs.length≤sizeLine∧∃ (its:List Value) (n:Nat),Vals xs its∧xs.length=its.length∧s.heap.get? l=some { cls:=.type "list",data:=.seq its.toArray n }:=by
 obtain ⟨z,its,n,r,e⟩:=I.hok l _ hH
 exact ⟨z,its,n,r,r.length,e⟩
theorem notLongL {n:Nat} (h:n≤sizeLine):Builtin.List.listTooLong n=false:=by
 unfold Builtin.List.listTooLong
 exact decide_eq_false (by omega)
end
section
variable {X:Cx}
def rAppend:V→List V→Hp→VK→Prop:=fun x vs H Q=>∃ l xs y,x=.ref l∧vs=[y]∧H l=some (.lst xs)∧xs.length < sizeLine∧Q .non (upd H l (.lst (xs ++ [y])))
theorem mt_append:MtM X "list.append" rAppend:=by
 intro pins s σ H x vs v us Q I rx rv h
 obtain ⟨l,xs,y,rfl,rfl,hH,hz,q⟩:=h
 cases rx
 obtain ⟨u,rfl,ru⟩:=rv.one
 obtain ⟨z,its,n,r,hl,e⟩:=I.lstM hH
 refine call_meets F.slot_list_append ⟨_,e,rfl⟩ F.entry_list_append (F.args_list_append_2 _ _) (PySem.list_append l its.toArray n u (by rw [List.size_toArray];omega)) ⟨e,?_⟩
 refine ⟨.non,_,I.lset (its':=its ++ [u]) hH e (by simp) (r.append (.cons ru .nil)) ?_,rfl,q⟩
 rw [List.length_append,List.length_singleton]
 omega
def rCat:R2:=fun x y H Q=>∃ l b xs zs,x=.ref l∧y=.ref b∧H l=some (.lst xs)∧H b=some (.lst zs)∧xs.length + zs.length≤sizeLine∧∀ p,H p=none→Q (.ref p) (upd H p (.lst (xs ++ zs)))
theorem op_cat:OpR X (binaryOp .Add) rCat:=by
 intro pins s σ H x y v u Q I rx ry h
 obtain ⟨l,b,xs,zs,rfl,rfl,hH,hB,hz,q⟩:=h
 cases rx
 cases ry
 obtain ⟨z,its,n,r,hl,e⟩:=I.lstM hH
 obtain ⟨z2,its2,n2,r2,hl2,e2⟩:=I.lstM hB
 refine PySem.P.add_list e e2 ?_ (by rw [List.size_toArray,List.size_toArray];omega)
 have ea:its.toArray ++ its2.toArray=(its ++ its2).toArray:=by simp
 rw [ea]
 exact ⟨.ref _,_,I.lnew (t':=s.toks) (r.append r2) (by rw [List.length_append];omega),rfl,q _ I.fresh⟩
def rRep:R2:=fun x y H Q=>∃ l k xs,x=.ref l∧y=.int k∧H l=some (.lst xs)∧-(2 ^ 63)≤k∧k < 2 ^ 63∧xs.length * k.toNat≤sizeLine∧
 ∀ p,H p=none→Q (.ref p) (upd H p (.lst (List.replicate k.toNat xs).flatten))
theorem len_rep {α:Type} (xs:List α) (k:Nat):(List.replicate k xs).flatten.length=k * xs.length:=by
 induction k with
 | zero=>simp
 | succ k ih=>rw [List.replicate_succ,List.flatten_cons,List.length_append,ih,Nat.succ_mul,Nat.add_comm]
theorem op_rep:OpR X (binaryOp .Mult) rRep:=by
 intro pins s σ H x y v u Q I rx ry h
 obtain ⟨l,k,xs,rfl,rfl,hH,h1,h2,hz,q⟩:=h
 cases rx
 obtain ⟨t,rfl⟩:=ry
 obtain ⟨z,its,n,r,hl,e⟩:=I.lstM hH
 have hlen:its.toArray.size * k.toNat≤sizeLine:=by rw [List.size_toArray,← hl];exact hz
 have hcap:¬ its.toArray.size * k.toNat > (2 ^ 63 - 1) / 8:=by
  have:(sizeLine:Nat)≤(2 ^ 63 - 1) / 8:=by decide
  omega
 have hfit:¬ (!Builtin.List.listFitsIndex k)=true:=by
  rw [fitsIndex_both h1 h2]
  exact Bool.false_ne_true
 have hlong:¬ Builtin.List.listTooLong (its.toArray.size * k.toNat)=true:=by
  rw [notLongL hlen]
  exact Bool.false_ne_true
 have hnew:List.foldl (fun x1 x2=>x1 ++ x2) #[] (List.replicate (if its.toArray.isEmpty=true then 0 else k.toNat) its.toArray)=(List.replicate k.toNat its).flatten.toArray:=by
  have f0:∀ m:Nat,List.foldl (fun x1 x2=>x1 ++ x2) #[] (List.replicate m its.toArray)=(List.replicate m its).flatten.toArray:=fun m=>by
   have:=foldl_rep its m []
   rw [List.nil_append] at this
   exact this
  rw [f0]
  cases its with
  | nil=>simp
  | cons a r'=>rw [if_neg (by simp)]
 refine wpAny_binaryOp_repeat_ref (T:="list") (U:="int") (by decide) ⟨_,e,rfl⟩ (fun s'=>typeIs_int s' k t) noFill_list_mul F.fills_int_mul F.slot_int_rmul repeat_list F.slot_int_index.lookup
  (call_meets F.slot_int_rmul (typeIs_int s k t) F.entry_int_rmul (F.args_int_rmul_2 _ _) (int___rmul___int_list k t l its.toArray n)
   ⟨e,rfl,⟨_,e,rfl⟩,call_meets F.slot_list_mul ⟨_,e,rfl⟩ F.entry_list_mul (F.args_list_mul_2 _ _) (AutoListH.list___mul___list_int_3 l its.toArray n k t hfit hcap hlong) ⟨e,?_⟩⟩)
 rw [hnew]
 exact ⟨.ref _,_,I.lnew (t':=s.toks) (r.rep k.toNat) (by rw [len_rep,Nat.mul_comm];exact hz),rfl,q _ I.fresh⟩
end
section
variable {prog:Program} {w:World} {A:Around} {E:Value→Shared→Prop} {s:Shared}
set_option maxRecDepth 100000 in
end
end L2
namespace Att
open PySem PySem.W PySem.Calls PyProof.Rows
theorem J3k {P:Params} {h:Heap}:∀ (ns:List Int) (vs:List Value),WellAll P h vs (ns.map WData.int)→IntsAre vs ns:=by
 intro ns
 induction ns with
 | nil =>
  intro vs w
  rw [List.map_nil] at w
  cases w
  exact .nil
 | cons n ns ih =>
  intro vs w
  rw [List.map_cons] at w
  cases w with
  | cons a b =>
   cases a
   exact .cons _ _ (ih _ b)
theorem script_of {l:OpenLaw} {n:Nat} (hn:l.most=some n) {P:Params} {h:Heap} {args:List WData} {vals:List Value}
  (hpre:l.row.toRowW.claim.pre args=true) (hwl:WellAll P h vals args) :
  ∃ a vs ns,vals=[Value.ref a]∧args=[WData.list (ns.map WData.int)]∧h.get? a=some { cls:=.type "list",data:=.seq vs.toArray }∧IntsAre vs ns∧ns.length≤n:=by
 have hsh:WShape.hasAll [] args [.list .int]=true:=(pre_splitW hpre).1
 have hc:l.pre.holds [] { args:=args }=true:=(pre_splitW hpre).2
 obtain ⟨d,r,rfl,h1,h2⟩:=hasAllW_cons hsh
 obtain rfl:=hasAllW_nil h2
 obtain ⟨xs,rfl,h3⟩:=hasW_list h1
 obtain ⟨ns,rfl⟩:=items_int h3
 have hlen:ns.length≤n:=by
  unfold OpenLaw.pre at hc
  have h4:(WTm.not (.lt (.lit (.int (n:Int))) (.len (.arg 0)))).holds [] { args:=[.list (ns.map .int)] }=true:=by
   have h4:=(holds_andW hc).1
   rw [hn] at h4
   exact h4
  have h5:=condW_of h4 (w_not (w_lt w_lit (w_len_list (w_arg rfl))))
  rw [List.length_map] at h5
  refine Nat.le_of_not_lt fun q=>?_
  have q':(n:Int) < ((ns.length:Nat):Int):=by omega
  first
   | (rw [decide_eq_true q'] at h5;exact absurd h5 (by decide))
   | (simp at h5;omega)
 cases hwl with
 | cons w1 w2 =>
  cases w2
  cases w1 with
  | list ho hall=>exact ⟨_,_,ns,rfl,rfl,ho,J3k ns _ hall,hlen⟩
theorem post_true (l:OpenLaw) (args:List WData):l.row.toRowW.claim.post args (.bool true) args=true :=
 postW_of (r:=l.row.toRowW) (X:=(true == true))
  (show WShape.has [] (.bool true) .bool=true by first | rfl | decide | simp [WShape.has,WShape.arms,WShape.armsAll])
  (show (WTm.eq .res (.lit (.bool true))).value [] { args:=args,res:=some (.bool true),after:=args }=some (.bool (true == true)) from w_eq_bool (w_res rfl) w_lit) rfl
theorem attach_call {l:OpenLaw} {n:Nat} {q:Program} {loose:List Str} {XP:(Str→Option Value)→Heap→Prop} {YP:World→Heap→Prop} {d:DefRec}
  (hn:l.most=some n) (hdf:d.params.defaults=[])
  (call:∀ (w:World) (s₀ s₁:Shared) (mg mb:Str→Option Value) (fa:Addr) (o:Obj) (pm cd doc:Value) (a:Addr) (vs:List Value) (ns:List Int),
   Ground q loose [] XP w s₀ mg mb s₁.heap→YP w s₁.heap→
   s₁.heap.get? fa=some o→o.data=.func (docDef d.name d.params d.body d.scope pm cd doc)→s₁.heap.CodeRec cd d.name→mg d.name=some (.ref fa)→
   s₁.heap.get? a=some { cls:=.type "list",data:=.seq vs.toArray }→IntsAre vs ns→ns.length≤n→s₁.gens=#[]→
   codeAny (model l.prog w) callerA (.call (.ref fa) ⟨[.ref a],[]⟩) (fun r s'=>r=.ok (.ret (.bool true))∧OldK s₁.heap s'.heap∧s'.os=s₁.os∧AllBare s'.gens) s₁) :
  WalkO q loose XP YP l.row.toRowW d [] (fun f vs=>PySem.call f vs):=by
 intro w s₀ s₁ mg mb G Y fa o pm cd doc dV kV ho hd hcd hD hmg hg args vals as hpre hlay hrd hwl hlo
 obtain rfl:dV=.none:=Dflts.none hD hdf
 obtain rfl:kV=.none:=Dflts.noKw hD
 obtain ⟨a,vs,ns,rfl,rfl,hobj,hints,hlen⟩:=script_of hn hpre hwl
 refine enter_call (codeAny_mono (call w s₀ s₁ mg mb fa o pm cd doc a vs ns G Y ho (fd_plain hd) hcd hmg hobj hints hlen hg) fun r s' hq=>?_)
 obtain ⟨rfl,h2,h3,h4⟩:=hq
 exact ⟨.inl ⟨.bool true,.bool true,[],rfl,fun _=>rfl,.bool true,post_true l _,fun _=>⟨List.Pairwise.nil,fun _ hm=>(nomatch hm)⟩⟩,h2,h3,h4⟩
end Att
namespace L2
open PySem PySem.Spec PyProof.Rows
theorem vals_ints:∀ {vs:List Value} {ns:List Int},IntsAre vs ns→Vals (ns.map V.int) vs
 | _,_,.nil=>.nil
 | _,_,.cons n t h=>.cons ⟨t,rfl⟩ (vals_ints h)
def Only (H:Hp):Prop:=∀ b,H b=none∨∃ o xs,H b=some (.frz o (.lst xs))
theorem law_call {P:Program} {w:World} {K:PySem.W.Frag} {mg mb:Str→Option Value} {CX:CXT} {k:Nat} {fa a:Addr} {fd:FuncData} {x:Str} {sp:Sp} {s₁:Shared} {vs:List Value} {ns:List Int}
  (KX:K.In s₁.heap) (hns:s₁.heap.Ns mainGlobals mg) (hb:s₁.heap.Ns builtinsNs mb) (hbb:∀ x:Str,x≠"__name__"→mb x=bootBuiltins x) (hlim:s₁.heap.NoLimit) (hg:s₁.gens=#[])
  (ha:s₁.heap.get? a=some { cls:=.type "list",data:=.seq vs.toArray }) (hi:IntsAre vs ns) (hl:ns.length≤sizeLine) (hr:Room k callerA)
  (F:∀ base:Heap,K.In base→base.Ns mainGlobals mg→FnOk P w K mg base CX k fa fd [x] sp) (hbind:∀ (s:Shared) (u:Value),BindsTo s fd ⟨[u],[]⟩ [(x,u)])
  (hsp:∀ H:Hp,Only H→SqL K H a (ns.map V.int)→sp [.ref a] H (fun v _=>v=.bl true) fun _ _ _=>False)
  (hCX:∀ H e s',CX [] H s₁ (fun _ _ _=>False) e s'→False) :
  codeAny (model P w) callerA (.call (.ref fa) ⟨[.ref a],[]⟩) (fun r s'=>r=.ok (.ret (.bool true))∧OldK s₁.heap s'.heap∧s'.os=s₁.os∧AllBare s'.gens) s₁:=by
 have rv:=vals_ints hi
 have lenV:=hi.length
 have core:∀ H:Hp,Only H→SqL K H a (ns.map V.int)→HOk P w H s₁.heap→(∀ b,H b≠none→b=a)→(H a≠none→K.lookup a=none)→
   codeAny (model P w) callerA (.call (.ref fa) ⟨[.ref a],[]⟩) (fun r s'=>r=.ok (.ret (.bool true))∧OldK s₁.heap s'.heap∧s'.os=s₁.os∧AllBare s'.gens) s₁:=by
  intro H hO hS hok hA hK
  have base_of:∀ {b:Addr} {o:Obj},s₁.heap.get? b=some o→H b=none→(hidT s₁.heap H).get? b=some o:=fun e n=>hidT_get e n
  have noA:∀ {b:Addr} {o:Obj} {es:Array DictEntry} {ep:Nat},s₁.heap.get? b=some o→o.data=.dict es ep→H b=none:=fun {b o es ep} e d=>by
   cases q:H b with
   | none=>rfl
   | some u =>
    have e':b=a:=hA b (by rw [q];simp)
    subst e'
    rw [ha] at e;cases e
    have d':Data.seq vs.toArray _=Data.dict es ep:=d
    cases d'
  have nsK:∀ {b:Addr} {m:Str→Option Value},s₁.heap.Ns b m→(hidT s₁.heap H).Ns b m:=fun {b m} ⟨o,es,ep,e,d,r⟩=>⟨o,es,ep,base_of e (noA e d),d,r⟩
  have hKb:K.In (hidT s₁.heap H):=fun b o e=>base_of (KX b o e) (by
   cases q:H b with
   | none=>rfl
   | some u =>
    have e':b=a:=hA b (by rw [q];simp)
    subst e'
    rw [hK (by rw [q];simp)] at e;cases e)
  have hM:Mod K mg (hidT s₁.heap H):=⟨hKb,nsK hns,⟨mb,nsK hb,hbb⟩,let ⟨mc,h1,h2⟩:=hlim;⟨mc,nsK h1,h2⟩⟩
  have e0:Env0 P w K mg (hidT s₁.heap H) callerA [] s₁ H:=⟨rfl,hM,fun b o e=>of_hidT e,Nat.le_of_eq (hidT_size _ _),trivial,fun b hb=>absurd (show b∈([]:List Addr) from hb) (by simp),hok,.of_eq hg⟩
  refine codeAny_mono ((F _ hKb (nsK hns)).run callerA [] s₁ H ⟨[.ref a],[]⟩ [.ref a] [.ref a] _ _ hr e0 (hbind s₁ (.ref a)) (.cons rfl .nil) (hsp H hO hS)) fun r s' h=>?_
  cases r with
  | error e=>exact (hCX H e s' h).elim
  | ok fl =>
   cases fl with
   | next=>exact False.elim h
   | brk=>exact False.elim h
   | cont=>exact False.elim h
   | ret u =>
    obtain ⟨v,H',os,bare,un,hok',r',q⟩:=h
    have q':v=.bl true:=q
    subst q'
    obtain rfl:u=Value.bool true:=r'
    refine ⟨rfl,OldK.of_keep fun b o e=>?_,os,bare⟩
    cases q:H b with
    | none=>exact un.keep b o e q (by intro z;exact absurd (show b∈([]:List Addr) from z) (by simp)) (by simp)
    | some u =>
     rcases hO b with z | ⟨ob,xs,z⟩
     ·rw [q] at z;cases z
     ·have z2:=un.frzs b ob _ z
      obtain ⟨e1,_⟩:=hok b _ z
      obtain ⟨e2,_⟩:=hok' b _ z2
      rw [e] at e1;cases e1
      exact e2
 cases hk:K.lookup a with
 | some o =>
  have e:=KX a o hk
  rw [ha] at e
  cases e
  refine core (fun _=>none) (fun _=>.inl rfl) (.inr ⟨_,vs.toArray,_,hk,rfl,rfl,rfl,by rw [List.size_toArray,lenV];exact hl,by simpa using rv⟩) (fun b u z=>by have z':(none:Option HO)=some u:=z;cases z') (fun b z=>absurd rfl z) fun z=>absurd rfl z
 | none =>
  refine core (fun b=>if b=a then some (.frz { cls:=.type "list",data:=.seq vs.toArray } (.lst (ns.map V.int))) else none) (fun b=>?_) (.inl (.inr ⟨{ cls:=.type "list",data:=.seq vs.toArray },if_pos rfl⟩)) (fun b u z=>?_) (fun b z=>?_) fun _=>hk
  ·by_cases hb:b=a
   ·exact .inr ⟨_,_,if_pos hb⟩
   ·exact .inl (if_neg hb)
  ·by_cases hb:b=a
   ·have z':=(if_pos hb).symm.trans z
    cases z'
    subst hb
    exact ⟨ha,by rw [List.length_map];exact hl,vs,_,rv,ha⟩
   ·have z':=(if_neg hb).symm.trans z
    cases z'
  ·by_cases hb:b=a
   ·exact hb
   ·exact absurd (if_neg hb) z
end L2
namespace L2
open PySem PySem.Spec PyProof.Rows
theorem walk_of {l:PySem.W.OpenLaw} {n k:Nat} {q:Program} {loose:List Str} {XP:(Str→Option Value)→Heap→Prop} {YP:World→Heap→Prop} {d:DefRec} {K:Params→PySem.W.Frag} {CX:World→CXT} {sp:World→Sp} {x:Str}
  (hn:l.most=some n) (hn2:n≤sizeLine) (hdf:d.params.defaults=[]) (hr:Room k callerA)
  (hY:∀ (w:World) (h:Heap),YP w h→(K w.params).In h)
  (F:∀ (w:World) (mg:Str→Option Value) (fa:Addr) (h:Heap),(K w.params).In h→h.Ns mainGlobals mg→mg d.name=some (.ref fa)→
   ∃ fd:FuncData,(∀ (s:Shared) (u:Value),BindsTo s fd ⟨[u],[]⟩ [(x,u)])∧
    ∀ base:Heap,(K w.params).In base→base.Ns mainGlobals mg→FnOk l.prog w (K w.params) mg base (CX w) k fa fd [x] (sp w))
  (hsp:∀ (w:World) (H:Hp) (a:Addr) (ns:List Int),ns.length≤n→Only H→SqL (K w.params) H a (ns.map V.int)→sp w [.ref a] H (fun v _=>v=.bl true) fun _ _ _=>False)
  (hCX:∀ (w:World) (H:Hp) (s:Shared) (e:Value) (s':Shared),CX w [] H s (fun _ _ _=>False) e s'→False) :
  PySem.W.WalkO q loose XP YP l.row.toRowW d [] (fun f vs=>PySem.call f vs):=by
 refine Att.attach_call hn hdf fun w s₀ s₁ mg mb fa o pm cd doc a vs ns G Y ho hd hcd hmg hobj hints hlen hg=>?_
 have KX:=hY w _ Y
 obtain ⟨fd,hb,hF⟩:=F w mg fa _ KX G.T.g hmg
 exact law_call KX G.T.g G.T.b G.T.builtins G.T.nolimit hg hobj hints (Nat.le_trans hlen hn2) hr hF hb (fun H hO hS=>hsp w H a ns hlen hO hS) fun H e s'=>hCX w H s₁ e s'
end L2
namespace L2
open PySem PySem.Spec PyProof.Rows
def Jv (s:Stmt) (j:Nat):Stmt:=match s with
 | .ClassDef _ _ _ body _ _ _ _ _ _ _=>body.getD j (.Pass ⟨0,0,0,0⟩)
 | _=>.Pass ⟨0,0,0,0⟩
def Jf (s:Stmt):Arguments:=match s with
 | .FunctionDef _ a _ _ _ _ _ _ _ _=>a
 | _=>{ posonlyargs:=[],args:=[],vararg:=none,kwonlyargs:=[],kw_defaults:=[],kwarg:=none,defaults:=[] }
def Jd (s:Stmt):List Stmt:=match s with
 | .FunctionDef _ _ b _ _ _ _ _ _ _=>b
 | _=>[]
def J1 (s:Stmt):Scope:=match s with
 | .FunctionDef _ _ _ _ _ _ sc _ _ _=>sc
 | _=>{ kind:=.function,names:=[],isGenerator:=false,isCoroutine:=false }
abbrev CX0:CXT:=fun _ _ _ _ _ _=>False
abbrev E0:XK:=fun _ _ _=>False
theorem pass0 {X:Cx}:J4m CX0 X E0:=fun _ _ _ _ _ _ _ h=>h.elim
structure Fun (K:PySem.W.Frag) (x qual:Str) (st:Stmt) (f:Addr) (fd:FuncData):Prop where
 ex:∃ (oc:Value) (od:Option Addr) (kV doc pm:Value) (an:Option Addr) (cdv ct:Value) (osl:Array (Option Value)),
  fd=PySem.W.fnOf x qual (Jf st) (Jd st) (J1 st) .none kV doc pm an cdv ct∧K.lookup f=some ⟨oc,od,.func fd,osl⟩∧PySem.W.codeIn K cdv qual=true
 kp:PySem.W.keepIn K (.ref f)=true
section
variable {P:Program} {w:World} {K:PySem.W.Frag} {mg:Str→Option Value} {base:Heap}
theorem Fun.ok {x qual:Str} {st:Stmt} {f:Addr} {fd:FuncData} {N ps:List Str} {k:Nat} {sp:Sp} (F:Fun K x qual st f fd) (S:FnScope N ps (J1 st)) (len:∀ vs H Q E,sp vs H Q E→vs.length=ps.length)
  (hbody:∀ (cdv:Value) (A:Around) (outer:List Env) (s:Shared) (H:Hp) (vs:List V) (Q:VK) (E:XK),Room k (A.deeper (envOfC qual (J1 st) s.heap.objs.size f cdv))→sp vs H Q E→
   ∃ t,PSs (cxOf CX0 P w K mg base N qual (J1 st) f cdv A outer s H E).nox (Jd st) t∧t { nx:=fun _ H'=>Q .non H',rt:=Q } (start N vs) H):FnOk P w K mg base CX0 (k + 1) f fd ps sp:=by
 obtain ⟨oc,od,kV,doc,pm,an,cdv,ct,osl,rfl,lk,hcd⟩:=F.ex
 refine fn_of lk hcd S len fun A outer s H vs Q E hr hsp=>?_
 obtain ⟨t,h,q⟩:=hbody cdv A outer s H vs Q E hr hsp
 exact ⟨t,h.nox,q⟩
theorem Fun.binds {x qual:Str} {st:Stmt} {f:Addr} {fd:FuncData} {ps:List Str} (F:Fun K x qual st f fd)
  (h:∀ (kV doc pm:Value) (an:Option Addr) (cdv ct:Value) (us:List Value),us.length=ps.length→bindArgs (PySem.W.fnOf x qual (Jf st) (Jd st) (J1 st) .none kV doc pm an cdv ct) ⟨us,[]⟩=pure (ps.zip us)):Binds K fd ps []:=by
 obtain ⟨oc,od,kV,doc,pm,an,cdv,ct,osl,rfl,lk,hcd⟩:=F.ex
 exact .all (h kV doc pm an cdv ct)
theorem Jj {x qual:Str} {st:Stmt} {f:Addr} {oc:Value} {od an:Option Addr} {osl:Array (Option Value)} {kV doc pm cdv ct:Value} (l:K.lookup f=some ⟨oc,od,.func (PySem.W.fnOf x qual (Jf st) (Jd st) (J1 st) .none kV doc pm an cdv ct),osl⟩)
  (c:PySem.W.codeIn K cdv qual=true) (k:PySem.W.keepIn K (.ref f)=true):Fun K x qual st f (PySem.W.fnOf x qual (Jf st) (Jd st) (J1 st) .none kV doc pm an cdv ct):=⟨⟨oc,od,kV,doc,pm,an,cdv,ct,osl,rfl,l,c⟩,k⟩
end
theorem J18 {n:Nat} (h:n≤1000):n < sizeLine:=Nat.lt_of_le_of_lt h (by decide)
section
variable {X:Cx}
theorem pv (i:Nat) {x:Str} {pos:Pos} (hN:X.N[i]?=some x:=by rfl) (hv:Vis X.env.scope x:=by first | exact Or.inl rfl | exact Or.inr (Or.inl rfl) | exact Or.inr (Or.inr rfl)) (hd:(x == ("__debug__":Str))=false:=by decide)
  (hcd:(x == ("__classdict__":Str))=false:=by decide):PE X (.Name x pos) (tVar i):=pe_var hN hv hd hcd
end
theorem iteF {A B:Prop} (h:B):if false=true then A else B:=by
 rw [if_neg Bool.false_ne_true]
 exact h
theorem iteT {A B:Prop} (h:A):if true=true then A else B:=by
 rw [if_pos rfl]
 exact h
theorem ite2 {c A B:Prop} [Decidable c] (h1:c→A) (h2:¬ c→B):if c then A else B:=by
 by_cases h:c
 ·rw [if_pos h]
  exact h1 h
 ·rw [if_neg h]
  exact h2 h
theorem iteNS {c A B:Prop} [Decidable c] (hc:c) (h:B):if (!decide c)=true then A else B:=by
 rw [decide_eq_true hc]
 exact iteF h
def Same (H H':Hp):Prop:=∀ b o,H b=some o→H' b=some o
theorem Same.refl (H:Hp):Same H H:=fun _ _ h=>h
theorem Same.trans {H H1 H2:Hp} (a:Same H H1) (b:Same H1 H2):Same H H2:=fun c o h=>b c o (a c o h)
theorem Same.free {H H':Hp} (e:Same H H') {l:Addr} (h:H' l=Option.none):H l=Option.none:=by
 cases q:H l with
 | none=>rfl
 | some o =>
  rw [e l o q] at h
  cases h
theorem Same.seq {K:PySem.W.Frag} {H H':Hp} {a:Addr} {xs:List V} (e:Same H H') (h:SqL K H a xs):SqL K H' a xs:=by
 rcases h with (h | ⟨o,h⟩) | h
 ·exact .inl (.inl (e _ _ h))
 ·exact .inl (.inr ⟨o,e _ _ h⟩)
 ·exact .inr h
end L2
namespace L2
open PySem PySem.Spec PyProof.Rows
abbrev Cx.block (X:Cx) (N:List Str) (scope:Scope) (cl:List (Str × Addr)) (C:Addr) (fp:List Addr) (s:Shared) (H:Hp):Cx :=
 { X with N:=N,s₀:=s,H₀:=H,env:=compEnvC scope cl C X.env,outer:=X.stack,stack:=X.stack,ex:=fp,fn:=fun _=>false,pn:=[],xe:=fun _ _=>False }
theorem J42 {env:Env}:∀ {names:List (Str × NameKind)} {x:Str} {k:NameKind},(names.map fun (n,k)=>if (k == NameKind.free && env.scope.kind == .function && env.kindOf n == some .cell) then (n,NameKind.cell) else (n,k)).lookup x=some k→
  k=.cell∨k=.free→(∀ p∈names,p.2≠.cell)→∃ p∈names,p.1=x∧p.2=.free
 | [],_,_,h,_,_=>by simp at h
 | (n,q) :: r,x,k,h,hk,hc=>by
  have ih:=@J42 env r x k
  have hq:q≠.cell:=hc (n,q) List.mem_cons_self
  rw [List.map_cons] at h
  by_cases hx:x=n
  ·subst hx
   by_cases e:(q == NameKind.free && env.scope.kind == .function && env.kindOf x == some .cell)=true
   ·simp only [Bool.and_eq_true] at e
    exact ⟨(x,q),List.mem_cons_self,rfl,by simpa using e.1.1⟩
   ·have e2:List.lookup x ((x,q) :: List.map (fun (n,k)=>if (k == NameKind.free && env.scope.kind == .function && env.kindOf n == some .cell) then (n,NameKind.cell) else (n,k)) r)=some k:=by
     simpa only [e,if_false,Bool.false_eq_true] using h
    rw [List.lookup_cons_self] at e2
    cases e2
    rcases hk with hk | hk
    ·exact absurd hk hq
    ·exact ⟨(x,q),List.mem_cons_self,rfl,hk⟩
  ·have hb:(x == n)=false:=by simpa using hx
   have h':(List.map (fun (n,k)=>if (k == NameKind.free && env.scope.kind == .function && env.kindOf n == some .cell) then (n,NameKind.cell) else (n,k)) r).lookup x=some k:=by
    by_cases e:(q == NameKind.free && env.scope.kind == .function && env.kindOf n == some .cell)=true
    ·simp only [e,if_true,List.lookup_cons,hb] at h;exact h
    ·simp only [e,if_false,Bool.false_eq_true,List.lookup_cons,hb] at h;exact h
   obtain ⟨p,hp,e1,e2⟩:=ih h' hk fun p hp=>hc p (List.mem_cons_of_mem _ hp)
   exact ⟨p,List.mem_cons_of_mem _ hp,e1,e2⟩
def capv (σ:St) (js:List Nat):St:=js.map fun j=>(σ[j]?).join
theorem capv_get {σ:St} {js:List Nat} {k:Nat} {v:V} (h:(capv σ js)[k]?=some (some v)):∃ j,js[k]?=some j∧σ[j]?=some (some v):=by
 unfold capv at h
 rw [List.getElem?_map] at h
 cases e:js[k]? with
 | none=>rw [e] at h;cases h
 | some j =>
  rw [e] at h
  refine ⟨j,rfl,?_⟩
  cases e2:σ[j]? with
  | none=>rw [Option.map_some,e2] at h;cases h
  | some o=>rw [Option.map_some,e2] at h;exact congrArg some (Option.some.inj h)
section
variable {X:Cx} {elt iter:Expr} {x y:Str} {px py:Pos} {scope:Scope} {cl:List (Str × Addr)} {pos spos:Pos} {wi:TI} {te:TE} {caps:List Str} {js:List Nat} {i:Nat}
theorem block_ok {pins:List (Addr × Obj)} {σ:St} {H:Hp} {s:Shared} {C:Addr} {fp:List Addr} (I:Inv X pins σ H s) (hC:s.heap.objs.size≤C) (f2:∀ b∈fp,FpOk X pins H b) (fl:∀ b∈fp,b < s.heap.objs.size)
  (hkind:scope.kind=.function) (hcell:∀ p∈scope.names,p.2≠.cell) (hsub:∀ p∈cl,X.env.cells.lookup p.1=some p.2) (hhas:∀ p∈scope.names,p.2=.free→∃ c,cl.lookup p.1=some c) :
  (X.block (x :: caps) scope cl C fp s H).Ok where
 mod:=I.ok.mod
 kind:=hkind
 glob:=I.ok.glob
 blt:=I.ok.blt
 above:=hC
 inj:=fun a b c h1 h2=>I.ok.inj a b c (hsub _ (PySem.mem_of_lookup h1)) (hsub _ (PySem.mem_of_lookup h2))
 has:=fun a h=>by
  have h':(∃ k,(relabel scope X.env).names.lookup a=some k∧(k=.cell∨k=.free)):=by
   rcases h with h | h
   ·exact ⟨_,h,.inl rfl⟩
   ·exact ⟨_,h,.inr rfl⟩
  obtain ⟨k,h1,hk⟩:=h'
  obtain ⟨p,hp,e1,e2⟩:=J42 h1 hk hcell
  rw [← e1]
  exact hhas p hp e2
 cab:=fun _ _ h=>nomatch h
 hd:=I.ok.hd
 frames:=I.ok.frames
 stk:=.inl rfl
 exf:=fun b hb=>⟨Nat.ne_of_lt (Nat.lt_of_lt_of_le (fl b hb) hC),fun a c e=>(f2 b hb).2.2.2.2.1 a c (hsub _ (PySem.mem_of_lookup e))⟩
 bs:=I.bs
 bsz:=Nat.le_trans I.ok.bsz I.sz
 noex:=fun b o e hb=>by
  rcases (f2 b hb).2.2.2.1 with z | z
  ·exact I.ok.noex b o e z
  ·exact absurd (Nat.lt_of_lt_of_le (Heap.lt_size e) (Nat.le_trans I.ok.bsz z)) (Nat.lt_irrefl _)
 exfs:=fun b hb z=>by
  rcases List.mem_cons.mp (I.stkSub b z) with e | e
  ·exact (f2 b hb).2.1 e
  ·exact (f2 b hb).2.2.1 e
 funs:=I.stack
 frf:=I.stkFree
end
section
variable {X:Cx}
def rInsert:V→List V→Hp→VK→Prop:=fun x vs H Q=>∃ (l:Addr) (xs:List V) (k:Nat) (y:V),x=.ref l∧vs=[.int k,y]∧H l=some (.lst xs)∧k≤xs.length∧xs.length < sizeLine∧Q .non (upd H l (.lst (xs.take k ++ y :: xs.drop k)))
theorem mt_insert:MtM X "list.insert" rInsert:=by
 intro pins s σ H x vs v us Q I rx rv h
 obtain ⟨l,xs,k,y,rfl,rfl,hH,hk,hz,q⟩:=h
 cases rx
 obtain ⟨u1,u2,rfl,⟨t,rfl⟩,r2⟩:=rv.two
 obtain ⟨z,its,n,r,hl,e⟩:=I.lstM hH
 have hn:=line63
 obtain ⟨x,hx⟩:∃ x:Int,x=(k:Int):=⟨_,rfl⟩
 rw [← hx]
 have hfit:¬ (!Builtin.List.listFitsIndex x)=true:=by
  rw [fitsIndex_both (by omega) (by omega)]
  exact Bool.false_ne_true
 have hsz:its.toArray.size≤sizeLine:=by rw [List.size_toArray,← hl];exact z
 refine call_meets F.slot_list_insert ⟨_,e,rfl⟩ F.entry_list_insert (F.args_list_insert_3 _ _ _) (PySem.AutoSeq1.list_insert_list_int_val_1 l its.toArray n x t u2 hfit hsz) ⟨e,?_⟩
 refine ⟨.non,_,I.lset (its':=its.take k ++ u2 :: its.drop k) hH e ?_ ((r.take k).append (.cons r2 (r.drop k))) ?_,rfl,q⟩
 ·have e1:(if x < 0 then (x + (its.toArray.size:Int)).toNat else min x.toNat its.toArray.size)=k:=by
   rw [if_neg (by omega),List.size_toArray]
   omega
  dsimp only
  rw [e1]
  apply Array.ext'
  simp
  rw [List.take_of_length_le (by rw [List.length_drop];exact Nat.le_refl _)]
 ·rw [List.length_append,List.length_cons,List.length_take,List.length_drop]
  omega
end
section
variable {X:Cx}
abbrev SqI (K:PySem.W.Frag) (H:Hp) (p:Addr) (xs:List V):Prop:=SqL K H p xs∨SqT K H p xs
theorem ints_sum {its:List Value} {ns:List Int} (hi:IntsAre its ns):∃ xs:Array (Int × Tok),its.toArray=intItems xs∧preSum (numAt xs) xs.size=ns.sum∧ns=xs.toList.map (·.1):=by
 obtain ⟨xs,hx⟩:=hi.allInts.items
 have e1:ns=xs.toList.map (·.1):=by
  rw [← nums_intItems,← hx]
  exact (show numsOf its.toArray.toList=ns from hi.numsOf).symm
 refine ⟨xs,hx,?_,e1⟩
 rw [preSum_eq,List.take_of_length_le (by simp),e1]
theorem J2h (hc:X.calm=true):CallR X (.builtin "sum") (fun xs H Q=>∃ (p:Addr) (ns:List Int),xs=[.ref p]∧SqI X.K H p (ns.map V.int)∧Q (.int ns.sum) H):=by
 intro pins s σ H xs us Q I r h
 obtain ⟨p,ns,rfl,hq,q⟩:=h
 obtain ⟨u,rfl,rx⟩:=vals1 r
 cases rx
 have hh:=I.ok.hd hc
 rcases hq with hq | hq
 ·obtain ⟨its,r',pl,hz⟩:=I.list hq
  obtain ⟨xs,hx,e2,_⟩:=ints_sum (J2r r')
  refine sum_intListG hh (hx ▸ pl.isList) fun h' tk t' hk=>?_
  rw [e2]
  exact ⟨.int ns.sum,H,I.kept hk,⟨t',rfl⟩,q⟩
 ·obtain ⟨its,r',pl,hz⟩:=I.tuple hq
  obtain ⟨xs,hx,e2,_⟩:=ints_sum (J2r r')
  refine PySem.W.ktm_sumG hh (hx ▸ (show s.heap.IsTuple p its.toArray from pl)) fun h' tk t' hk=>?_
  rw [e2]
  exact ⟨.int ns.sum,H,I.kept hk,⟨t',rfl⟩,q⟩
end
end L2
namespace L2
open PySem PySem.Spec PyProof.Rows
section
variable {X:Cx}
def Kin (xs ys:List V):Prop:=∀ a∈xs,∀ b∈ys,flatV a=true∧flatV b=true∧eqV a b=decide (a=b)
theorem Kin.ints (ns ms:List Int):Kin (ns.map V.int) (ms.map V.int):=fun a ha b hb=>by
 obtain ⟨i,_,rfl⟩:=List.mem_map.mp ha
 obtain ⟨j,_,rfl⟩:=List.mem_map.mp hb
 refine ⟨rfl,rfl,?_⟩
 show (i == j)=decide (V.int i=V.int j)
 by_cases e:i=j
 ·subst e;simp
 ·rw [decide_eq_false (fun h=>e (V.int.inj h))];simpa using e
theorem Kin.bls (ns ms:List Bool):Kin (ns.map V.bl) (ms.map V.bl):=fun a ha b hb=>by
 obtain ⟨i,_,rfl⟩:=List.mem_map.mp ha
 obtain ⟨j,_,rfl⟩:=List.mem_map.mp hb
 refine ⟨rfl,rfl,?_⟩
 show (i == j)=decide (V.bl i=V.bl j)
 cases i <;> cases j <;> rfl
def eAt (xs ys:List V) (j:Nat):Bool:=match xs[j]?,ys[j]? with
 | some a,some b=>eqV a b
 | _,_=>true
theorem all_eAt {xs ys:List V} (hl:xs.length=ys.length) (hk:Kin xs ys):((List.range xs.length).all (eAt xs ys))=decide (xs=ys):=by
 rw [Bool.eq_iff_iff,List.all_eq_true,decide_eq_true_iff]
 constructor
 ·intro h
  apply List.ext_getElem?
  intro j
  by_cases hj:j < xs.length
  ·have h1:xs[j]?=some xs[j]:=List.getElem?_eq_getElem hj
   have h2:ys[j]?=some (ys[j]'(hl ▸ hj)):=List.getElem?_eq_getElem (hl ▸ hj)
   have:=h j (List.mem_range.mpr hj)
   unfold eAt at this
   rw [h1,h2] at this
   have k:=(hk _ (List.getElem_mem hj) _ (List.getElem_mem (hl ▸ hj))).2.2
   have this:eqV xs[j] (ys[j]'(hl ▸ hj))=true:=this
   rw [k,decide_eq_true_iff] at this
   rw [h1,h2,this]
  ·rw [List.getElem?_eq_none (by omega),List.getElem?_eq_none (by omega)]
 ·rintro rfl j hj
  have hj':=List.mem_range.mp hj
  unfold eAt
  rw [List.getElem?_eq_getElem hj']
  have k:=(hk _ (List.getElem_mem hj') _ (List.getElem_mem hj')).2.2
  show eqV _ _=true
  rw [k];simp
theorem eAt_at {A:Around} {s:Shared} {xs ys:List V} {its its2:List Value} (r:Vals xs its) (r2:Vals ys its2) (hk:Kin xs ys) (j:Nat) (h1:j < its.toArray.size) (h2:j < its2.toArray.size):SeqAt.EqAt A s its.toArray[j] its2.toArray[j] (eAt xs ys j):=by
 have l1:=r.length
 have l2:=r2.length
 rw [List.size_toArray] at h1 h2
 have g1:xs[j]?=some (xs[j]'(by omega)):=List.getElem?_eq_getElem (by omega)
 have g2:ys[j]?=some (ys[j]'(by omega)):=List.getElem?_eq_getElem (by omega)
 obtain ⟨u,e1,ru⟩:=r.get g1
 obtain ⟨v,e2,rv⟩:=r2.get g2
 have e1':its.toArray[j]=u:=by
  have:=List.getElem?_eq_getElem h1
  rw [e1] at this
  simpa using (Option.some.inj this).symm
 have e2':its2.toArray[j]=v:=by
  have:=List.getElem?_eq_getElem h2
  rw [e2] at this
  simpa using (Option.some.inj this).symm
 obtain ⟨f1,f2,_⟩:=hk _ (List.getElem_mem (by omega:j < xs.length)) _ (List.getElem_mem (by omega:j < ys.length))
 unfold eAt
 rw [g1,g2,e1',e2']
 exact eqAt_V ru rv f1 f2
def rEqL (K:PySem.W.Frag):R2:=fun x y H Q=>∃ p q xs ys,x=.ref p∧y=.ref q∧SqL K H p xs∧SqL K H q ys∧Kin xs ys∧Q (.bl (decide (xs=ys))) H
theorem op_eqL (hu:X.A.units < cLine):OpR X (compareOp .Eq) (rEqL X.K):=by
 intro pins s σ H x y v u Q I rx ry h
 obtain ⟨p,q,xs,ys,rfl,rfl,hp,hq,hk,hQ⟩:=h
 cases rx
 cases ry
 obtain ⟨its,r,pl,_⟩:=I.list hp
 obtain ⟨its2,r2,pl2,_⟩:=I.list hq
 have l1:=r.length
 have l2:=r2.length
 by_cases hl:xs.length=ys.length
 ·refine SeqAt.eq_listAt pl.isList pl2.isList (by rw [List.size_toArray,List.size_toArray];omega) hu (fun j h1 h2=>eAt_at r r2 hk j h1 h2) ?_
  rw [List.size_toArray,← l1,all_eAt hl hk]
  exact ⟨.bl _,H,I,rfl,hQ⟩
 ·refine SeqAt.eq_list_lengthsAt pl.isList pl2.isList (by rw [List.size_toArray,List.size_toArray];simp;omega) hu ?_
  rw [decide_eq_false (fun e=>hl (congrArg List.length e))] at hQ
  exact ⟨.bl false,H,I,rfl,hQ⟩
theorem J19 {f:Value} (hf:f=.builtin "isinstance"):CallR X f (fun xs H Q=>∃ (x c:V) (t cv:Value) (b:Bool),xs=[x,c]∧RelV c cv∧(∀ v,RelV c v→v=cv)∧TyOf X.K H x t∧PySem.W.kitOne X.K t cv=some b∧Q (.bl b) H):=by
 subst hf
 intro pins s σ H xs us Q I r h
 obtain ⟨x,c,t,cv,b,rfl,rc,uc,ty,e,q⟩:=h
 obtain ⟨u,v,rfl,ru,rv⟩:=vals2 r
 obtain rfl:=uc v rv
 exact isinst_ok I ru ty e fun tk=>⟨.bl b,H,I.tok tk,rfl,q⟩
end
end L2
namespace L2
open PySem PySem.Spec PyProof.Rows
section
variable {X:Cx}
@[irreducible] def rTup (K:PySem.W.Frag):List V→Hp→VK→Prop:=fun xs H Q=>∃ p ys,xs=[.ref p]∧((SqL K H p ys∧∀ l,H l=none→Q (.ref l) (upd H l (.tup ys)))∨(SqT K H p ys∧Q (.ref p) H))
theorem J1l:CallR X (.type "tuple") (rTup X.K):=by
 unfold rTup
 exact J52
end
end L2
namespace L2
open PySem PySem.Spec PyProof.Rows
end L2
namespace L2
open PySem PySem.Spec PyProof.Rows
end L2
namespace L2
open PySem PySem.Spec PyProof.Rows
def bmV:List Value:=[.type "ValueError",.type "Exception",.type "BaseException",.type "object"]
theorem ObjOk.has {P:Program} {w:World} {H:Hp} {h:Heap} {a:Addr} {o:HO} (x:ObjOk P w H h a o):∃ u,h.get? a=some u:=by
 cases o with
 | lst xs=>obtain ⟨_,_,_,_,e⟩:=x;exact ⟨_,e⟩
 | tup xs=>obtain ⟨_,_,_,ob,e,_⟩:=x;exact ⟨_,e⟩
 | dK kvs=>obtain ⟨_,_,_,_,o,_,_,e,_⟩:=x;exact ⟨_,e⟩
 | dT kvs=>obtain ⟨_,_,_,_,o,_,_,e,_⟩:=x;exact ⟨_,e⟩
 | set S n=>obtain ⟨o,_,_,_,e,_⟩:=x;exact ⟨_,e⟩
 | ins C dx fs=>obtain ⟨_,_,_,e,_⟩:=x;exact ⟨_,e⟩
 | own y=>exact x
 | xd fs=>obtain ⟨_,⟨_,_,_,e,_⟩,_⟩:=x;exact ⟨_,e⟩
 | rng lo hi=>obtain ⟨_,_,_,e⟩:=x;exact ⟨_,e⟩
 | frz ob u=>obtain ⟨e,_⟩:=x;exact ⟨_,e⟩
 | tbl ps=>exact ⟨_,(show h.get? a=some _ from x)⟩
 | met f y=>exact ⟨_,(show h.get? a=some _ from x)⟩
 | ext φ=>obtain ⟨_,e,_⟩:=x;exact e
theorem HOk.over {P:Program} {w:World} {H:Hp} {h h' B:Heap} (ok:HOk P w H h) (t:∀ b o,H b=some o→∃ u,B.get? b=some u) (k:B.StaysIn h) (k':B.StaysIn h'):HOk P w H h':=fun b u e=>by
 refine (ok b u e).stay (fun c v hc q=>?_) (fun _ q=>q) fun _ _ q=>q
 have hc':∃ x,B.get? c=some x:=by
  rcases hc with z | z
  ·rw [z];exact t b u e
  ·exact t c _ z
 obtain ⟨x,hx⟩:=hc'
 have:=k c x hx
 rw [q] at this
 cases this
 exact k' c _ hx
def Exc1 (P:Program) (w:World):CXT:=fun outer H s E e s'=>∃ (ea:Addr) (cls:Value) (H':Hp) (B:Heap) (a0:Value),e=.ref ea∧s'.os=s.os∧AllBare s'.gens∧Heap.FlyingW B outer ea cls a0 s'.heap∧
 Un (frs outer) [] H H' s.heap s'.heap∧HOk P w H' s'.heap∧H' ea=none∧s.heap.get? ea=none∧(∀ b o,H' b=some o→∃ u,B.get? b=some u)∧(∀ b u,s.heap.get? b=some u→b ∉ frs outer→∃ v,B.get? b=some v)∧E cls none H'
section
variable {P:Program} {w:World} {K:PySem.W.Frag} {mg:Str→Option Value} {base:Heap} {N:List Str} {qual:Str} {scope:Scope} {f:Addr} {cd:Value} {A:Around} {outer:List Env} {s0:Shared} {H0:Hp} {E:XK} {pins:List (Addr × Obj)} {σ:St} {H:Hp} {s:Shared}
theorem noFlds {h B:Heap} {l:List Env} (x:h.FunFrames B l) {b:Addr} (hb:b∈frs l):∃ o,h.get? b=some o∧∀ vs,o.data≠.fields vs:=(x.mem hb).2
theorem frs_cons {b:Addr} {env:Env} {L:Addr} (hf:env.frame=some L) {l:List Env}:b∈frs (env :: l)↔b=L∨b∈frs l:=by
 unfold frs
 rw [List.filterMap_cons,hf]
 simp
theorem xe_made {ea:Addr} {cls:Value} {args:List Value} {h':Heap} (I:Inv (cxOf (Exc1 P w) P w K mg base N qual scope f cd A outer s0 H0 E) pins σ H s) (hx:Heap.MadeExcOf s.heap h' ea cls args) (q:E cls none H) :
  (cxOf (Exc1 P w) P w K mg base N qual scope f cd A outer s0 H0 E).xe (.ref ea) { s with heap:=h' }:=by
 have fr:s.heap.FunFrames base (envOfC qual scope s0.heap.objs.size f cd :: outer):=I.stack
 have hin:∀ env∈(envOfC qual scope s0.heap.objs.size f cd :: outer),∀ b,env.frame=some b→b∈frs (envOfC qual scope s0.heap.objs.size f cd :: outer):=fun env he b hb=>List.mem_filterMap.mpr ⟨env,he,hb⟩
 have fl:∀ {b:Addr},b∈frs (envOfC qual scope s0.heap.objs.size f cd :: outer)↔b=s0.heap.objs.size∨b∈frs outer:=frs_cons rfl
 have inB:∀ b u,s.heap.get? b=some u→b ∉ frs (envOfC qual scope s0.heap.objs.size f cd :: outer)→(PySem.W.hideAll s.heap (frs (envOfC qual scope s0.heap.objs.size f cd :: outer))).get? b=some u:=fun b u e n=>PySem.W.hideAll_get _ e n
 have nL:∀ b u,s0.heap.get? b=some u→b≠s0.heap.objs.size:=fun b u e=>Nat.ne_of_lt (Heap.lt_size e)
 have nf:∀ b u,s0.heap.get? b=some u→b ∉ frs outer→b ∉ frs (envOfC qual scope s0.heap.objs.size f cd :: outer):=fun b u e n z=>(fl.mp z).elim (nL b u e) n
 refine wpAny_leaves_madeW (base:=PySem.W.hideAll s.heap (frs (envOfC qual scope s0.heap.objs.size f cd :: outer))) (h:=s.heap) (L:=s0.heap.objs.size) I.ok.frames rfl (fun b o z=>PySem.W.of_hideAll _ z) (PySem.W.funFrames_hide fr hin) hx fun h'' t fly tup nt ups=>?_
 have up:∀ b o,s.heap.get? b=some o→b∈frs (envOfC qual scope s0.heap.objs.size f cd :: outer)→∃ sl,h''.get? b=some { o with slots:=sl }:=fun b o e hb=>by
  obtain ⟨o',e',nd⟩:=noFlds fr hb
  rw [e] at e';cases e'
  exact ups b o (hx.keeps b o e) nd
 have there:∀ b o,s.heap.get? b=some o→∃ o',h''.get? b=some o':=fun b o e=>by
  by_cases hb:b∈frs (envOfC qual scope s0.heap.objs.size f cd :: outer)
  ·obtain ⟨sl,z⟩:=up b o e hb;exact ⟨_,z⟩
  ·exact ⟨o,fly.1 b o (inB b o e hb)⟩
 have trk:∀ b o,H b=some o→∃ u,(PySem.W.hideAll s.heap (frs (envOfC qual scope s0.heap.objs.size f cd :: outer))).get? b=some u:=fun b o e=>by
  obtain ⟨u,hu⟩:=(I.hok b o e).has
  refine ⟨u,inB b u hu fun z=>?_⟩
  have:=I.stkFree b z
  rw [e] at this;cases this
 refine ⟨ea,cls,H,_,_,rfl,I.os,I.bare,fly,⟨fun b o e n hb _=>?_,fun b o e n hb _=>?_,fun b o e n hb=>I.base.free b o e n hb,fun b o e _=>?_,I.base.tups,I.base.frzs,I.base.tbls⟩,I.hok.over trk (fun b o z=>PySem.W.of_hideAll _ z) fly.1,?_,?_,trk,fun b u e n=>?_,q⟩
 ·exact fly.1 b o (inB b o (I.base.keep b o e n hb (by simp [cxOf])) (nf b o e hb))
 ·obtain ⟨sl,e1⟩:=I.base.slot b o e n hb (by simp [cxOf])
  obtain ⟨sl',e2⟩:=up b _ e1 (fl.mpr (.inr hb))
  exact ⟨sl',e2⟩
 ·obtain ⟨o',e1⟩:=I.base.there b o e (by simp [cxOf])
  exact there b o' e1
 ·cases z:H ea with
  | none=>rfl
  | some o =>
   obtain ⟨u,hu⟩:=(I.hok ea o z).has
   have hnew:=hx.new
   rw [hu] at hnew;cases hnew
 ·cases z:s0.heap.get? ea with
  | none=>rfl
  | some o =>
   obtain ⟨o',e1⟩:=I.base.there ea o z (by simp [cxOf])
   have hnew:=hx.new
   rw [e1] at hnew;cases hnew
 ·obtain ⟨o',e1⟩:=I.base.there b u e (by simp [cxOf])
  exact ⟨o',inB b o' e1 (nf b u e n)⟩
theorem pass1:J4m (Exc1 P w) (cxOf (Exc1 P w) P w K mg base N qual scope f cd A outer s0 H0 E) E:=by
 rintro pins σ H s e s' I ⟨ea,cls,H',B,a0,rfl,os,bare,fly,un,hok,hea,new,trk,inB,q⟩
 have fl:∀ {b:Addr},b∈frs (envOfC qual scope s0.heap.objs.size f cd :: outer)↔b=s0.heap.objs.size∨b∈frs outer:=frs_cons rfl
 have nf:∀ b u,s0.heap.get? b=some u→b ∉ frs outer→b ∉ frs (envOfC qual scope s0.heap.objs.size f cd :: outer):=fun b u e n z=>(fl.mp z).elim (Nat.ne_of_lt (Heap.lt_size e)) n
 have fly0:Heap.FlyingW B (envOfC qual scope s0.heap.objs.size f cd :: outer) ea cls a0 s'.heap:=fly
 have un:Un (frs (envOfC qual scope s0.heap.objs.size f cd :: outer)) [] H H' s.heap s'.heap:=un
 have inB:∀ b u,s.heap.get? b=some u→b ∉ frs (envOfC qual scope s0.heap.objs.size f cd :: outer)→∃ v,B.get? b=some v:=inB
 refine wpAny_leaves_onW (L:=s0.heap.objs.size) I.ok.frames rfl fly0 fun h'' fly2 ups=>?_
 have stay:∀ b o,s.heap.get? b=some o→b ∉ frs (envOfC qual scope s0.heap.objs.size f cd :: outer)→∀ o',s'.heap.get? b=some o'→h''.get? b=some o':=fun b o e n o' e'=>by
  obtain ⟨v,hv⟩:=inB b o e n
  have:=fly0.1 b v hv
  rw [e'] at this;cases this
  exact fly2.1 b _ hv
 refine ⟨ea,cls,H',B,a0,rfl,os.trans I.os,bare,fly2,⟨fun b o e n hb _=>?_,fun b o e n hb _=>?_,fun b o e n _=>?_,fun b o e _=>?_,fun b xs e=>un.tups b xs (I.base.tups b xs e),fun b o u e=>un.frzs b o u (I.base.frzs b o u e),fun b ps e=>?_⟩,hok.over trk fly0.1 fly2.1,hea,?_,trk,fun b u e n=>?_,q⟩
 ·have e1:=I.base.keep b o e n hb (by simp [cxOf])
  have n1:=I.base.free b o e n (by simp [cxOf])
  exact stay b o e1 (nf b o e hb) o (un.keep b o e1 n1 (nf b o e hb) (by simp))
 ·obtain ⟨sl,e1⟩:=I.base.slot b o e n hb (by simp [cxOf])
  have n1:=I.base.free b o e n (by simp [cxOf])
  obtain ⟨sl',e2⟩:=un.slot b _ e1 n1 (fl.mpr (.inr hb)) (by simp)
  obtain ⟨o',e3,nd⟩:=noFlds fly0.2.2.1 (fl.mpr (.inr hb))
  rw [e2] at e3;cases e3
  obtain ⟨sl'',e4⟩:=ups b _ e2 nd
  exact ⟨sl'',e4⟩
 ·obtain ⟨o',e1⟩:=I.base.there b o e (by simp [cxOf])
  exact un.free b o' e1 (I.base.free b o e n (by simp [cxOf])) (by simp)
 ·obtain ⟨o',e1⟩:=I.base.there b o e (by simp [cxOf])
  obtain ⟨o2,e2⟩:=un.there b o' e1 (by simp)
  by_cases hb:b∈frs outer
  ·obtain ⟨o3,e3,nd⟩:=noFlds fly0.2.2.1 (fl.mpr (.inr hb))
   obtain ⟨sl,e4⟩:=ups b o3 e3 nd
   exact ⟨_,e4⟩
  ·exact ⟨o2,stay b o' e1 (nf b o e hb) o2 e2⟩
 ·obtain ⟨m1,e1⟩:=I.base.tbls b ps e
  obtain ⟨m2,e2⟩:=un.tbls b _ e1
  exact ⟨m1 ++ m2,by rw [e2,Array.append_assoc]⟩
 ·cases z:s0.heap.get? ea with
  | none=>rfl
  | some o =>
   obtain ⟨o',e1⟩:=I.base.there ea o z (by simp [cxOf])
   rw [e1] at new;cases new
 ·obtain ⟨o',e1⟩:=I.base.there b u e (by simp [cxOf])
  exact inB b o' e1 (nf b u e n)
theorem exc_obj {h:Heap} {C:Addr} {bmB:List Value} {nid:String} (X:K.In h) (q:PySem.W.excIn K C bmB nid=true) :
  ∃ bm N nm qn bs hdct sn sub ab col dd k0 k1 k2 k3 k5 mN,h.get? C=some (excClassObj nm qn C N bs bm hdct sn sub ab col dd k0 k1 k2 k3 k5 nid)∧h.Ns N mN∧mN "__init__"=none∧OwnTail h bmB bm:=by
 unfold PySem.W.excIn at q
 split at q
 ·rename_i dd cdd sl ho
  split at q
  ·rename_i C' bm k0 k1 k2 k3 n k5 hm hs
   simp only [Bool.and_eq_true,beq_iff_eq,Bool.not_eq_true'] at q
   obtain ⟨⟨⟨⟨⟨rfl,rfl⟩,q1⟩,q2⟩,q3⟩,q4⟩:=q
   obtain ⟨nm,bs,mro,ns,qn,hd,sn,sub,ab,col,del⟩:=cdd
   dsimp only at hm q1 q3 q4
   subst hm q1
   obtain ⟨l⟩:=sl
   simp only at hs
   subst hs
   exact ⟨bm,ns,nm,qn,bs,hd,sn,sub,ab,col,dd,k0,k1,k2,k3,k5,_,X _ _ ho,.of_isNs (PySem.W.isNs_of_in X q3),PySem.W.nsMap_none_of_in X q3 q4,PySem.W.tail_of_in X q2⟩
  ·cases q
 ·cases q
theorem ps_raise {x:Str} {C:Addr} {msg:Str} {j:Nat} {p1 np cpos pos:Pos} (hg:Gl (cxOf (Exc1 P w) P w K mg base N qual scope f cd A outer s0 H0 E) x) (hm:mg x=some (.ref C)) (q:PySem.W.excIn K C bmV "ValueError.__new__"=true) (hdb:(x == ("__debug__":Str))=false:=by decide) :
  PS (cxOf (Exc1 P w) P w K mg base N qual scope f cd A outer s0 H0 E) (.Raise (some (.Call (.Name x np) [.Constant (.str msg) j p1] [] cpos)) none pos) (fun D σ H=>E (.ref C) none H):=by
 intro pins s σ H D I h
 obtain ⟨bm,NN,nm,qn,bs,hdct,sn,sub,ab,col,dd,k0,k1,k2,k3,k5,mN,hC,hN,hni,T⟩:=exc_obj (I.ok.mod.kin) q
 refine wpAny_Raise_call_subT (C:=C) (nm:=nm) (q:=qn) (N:=NN) (bs:=bs) (bm:=bm) (hdct:=hdct) (sn:=sn) (sub:=sub) (ab:=ab) (col:=col) (dd:=dd) (k0:=k0) (k1:=k1) (k2:=k2) (k3:=k3) (k5:=k5)
  PySem.F.excBase_ValueError (mN:=mN) (T.hasType PySem.F.excBase_ValueError.hasBase) (I.ok.hd rfl) rfl hni (J3i I hg hm ⟨rfl,?_⟩ hdb)
 refine Calls.evalArgs_plain (thn ((J0 (J1c (X:=cxOf (Exc1 P w) P w K mg base N qual scope f cd A outer s0 H0 E)) J4) cpos pins s σ H (fun vs H'=>H'=H∧vs.length=1) I ⟨rfl,rfl⟩) fun us s2 ⟨vs,H2,I2,r,e2,e3⟩=>?_)
 subst e2
 have hl:us.length≤sizeLine:=by rw [← r.length,e3];decide
 exact ⟨rfl,hl,I2.bk _ _ hC,hN.keeps I2.bk,T.keeps I2.bk,fun h' e hm=>xe_made I2 hm h⟩
end
theorem ps_nox {X:Cx} {st:Stmt} {t:TS} (h:PS X.nox st t):PS X st t:=fun pins s σ H D I hw =>
 wpAny_mono (h pins s σ H D (I.wish _) hw) (fun _ _ z=>z.unwish) fun _ _ z=>False.elim z
end L2
namespace L2
open PySem PySem.Spec PyProof.Rows
def excO (ea:Addr) (cls:Value):HO:=.ext fun h=>∃ o,h.get? ea=some o∧o.cls=cls
def Cx.caught (X:Cx) (ea:Addr):Cx:={ X with A:=X.A.mark (some (.ref ea)),calm:=false,xe:=fun _ _=>False }
def Ends.unset (D:Ends) (i:Nat):Ends:={ nx:=fun σ H=>D.nx (σ.set i none) H,rt:=D.rt,bk:=fun σ H=>D.bk (σ.set i none) H,ct:=fun σ H=>D.ct (σ.set i none) H }
section
variable {X:Cx} {pins:List (Addr × Obj)} {σ:St} {H:Hp} {s:Shared} {ea:Addr}
theorem Cx.Ok.caught (ok:X.Ok) (ea:Addr):(X.caught ea).Ok :=
 ⟨ok.mod,ok.kind,ok.glob,ok.blt,ok.above,ok.inj,ok.has,ok.cab,(fun z=>Bool.noConfusion z),ok.frames,ok.stk,ok.exf,ok.bs,ok.bsz,ok.noex,ok.exfs,ok.funs,ok.frf⟩
theorem Inv.caught (I:Inv X pins σ H s) (ea:Addr):Inv (X.caught ea) pins σ H s:=⟨I.ok.caught ea,I.os,I.bare,I.base,I.loc,I.cell,I.free,I.freeC,I.pin,I.hok,I.len⟩
theorem Inv.uncaught (I:Inv (X.caught ea) pins σ H s) (ok:X.Ok):Inv X pins σ H s:=⟨ok,I.os,I.bare,I.base,I.loc,I.cell,I.free,I.freeC,I.pin,I.hok,I.len⟩
theorem J35 {M:Model} {A:Around} {E:Value→Shared→Prop} {i:Nat} {x:Str} {pos:Pos} {Q:Unit→Shared→Prop} (I:Inv X pins σ H s) (hN:X.N.Nodup) (hi:X.N[i]?=some x) (hk:X.env.scope.names.lookup x=some .local)
  (h:∀ s',Inv X pins (σ.set i none) H s'→Q () s'):wpAny M A (do bindName X.env x .none;unbindBehindTheSuite X.env x pos) Q E s:=by
 obtain ⟨m,hn,hl⟩:=id I.loc
 have hcls:(X.env.scope.kind == .class || (X.env.scope.kind == .module && X.env.locals != X.env.globals))=false:=by rw [I.ok.kind];rfl
 have hiσ:i < σ.length:=by rw [I.len];exact (List.getElem?_eq_some_iff.mp hi).1
 have cne:=I.cne
 obtain ⟨oL,_,_,hoL,_⟩:=id hn
 refine wpAny_nameGoes_keeps hk hn hcls fun h' v hn' hs=>?_
 have nL:∀ b o,X.s₀.heap.get? b=some o→b≠X.env.locals:=fun b o e=>Nat.ne_of_lt (Nat.lt_of_lt_of_le (Heap.lt_size e) I.ok.above)
 refine h _ ⟨I.ok,I.os,I.bare,⟨fun b o e n hb hx=>?_,fun b o e n hb hx=>?_,I.base.free,fun b o e hx=>?_,I.base.tups,I.base.frzs,I.base.tbls⟩,⟨_,hn',fun j y v' e1 e2 e3=>?_⟩,fun y c e=>?_,I.free,I.freeC,fun p hp=>?_,fun b ob e=>?_,by simpa using I.len⟩
 ·exact (hs.2 b (nL b o e)).trans (I.base.keep b o e n hb hx)
 ·obtain ⟨sl,e1⟩:=I.base.slot b o e n hb hx
  exact ⟨sl,(hs.2 b (nL b o e)).trans e1⟩
 ·obtain ⟨o',e1⟩:=I.base.there b o e hx
  exact ⟨o',(hs.2 b (nL b o e)).trans e1⟩
 ·by_cases hj:j=i
  ·subst hj
   rw [List.getElem?_set_self hiσ] at e2
   cases e2
  ·rw [List.getElem?_set_ne (Ne.symm hj)] at e2
   obtain ⟨u',r',q⟩:=hl j y v' e1 e2 e3
   refine ⟨u',r',?_⟩
   rcases q with ⟨k,e⟩ | ⟨k,c,e,z⟩
   ·refine .inl ⟨k,?_⟩
    have:y≠x:=fun e=>hj (J5b hN e1 (e ▸ hi))
    simp [this,e]
   ·exact .inr ⟨k,c,e,z.sameBut hs (cne y c e)⟩
 ·obtain ⟨w',z⟩:=I.cell y c e
  exact ⟨w',z.sameBut hs (cne y c e)⟩
 ·obtain ⟨e,n,ne,nf,d⟩:=I.pin p hp
  exact ⟨(hs.2 p.1 ne).trans e,n,ne,nf,d⟩
 ·refine (I.hok b ob e).stay (fun c w' hc q=>(hs.2 c ?_).trans q) (fun _ q=>q) fun _ _ q=>q
  rintro rfl
  have hfree:=I.free
  rcases hc with z | hc
  ·rw [← z,hfree] at e;cases e
  ·rw [hfree] at hc;cases hc
theorem land {s1:Shared} {H':Hp} {B:Heap} {cls a0:Value} {h':Heap} (I:Inv X pins σ H s) (ho:s1.os=s.os) (bare:AllBare s1.gens) (fly:Heap.FlyingW B X.stack ea cls a0 s1.heap)
  (un:Un (frs X.stack) [] H H' s.heap s1.heap) (hok:HOk X.prog X.w H' s1.heap) (hea:H' ea=none) (new:s.heap.get? ea=none) (trk:∀ b o,H' b=some o→∃ u,B.get? b=some u)
  (inB:∀ b u,s.heap.get? b=some u→b ∉ frs X.stack→∃ v,B.get? b=some v) (fly':Heap.FlyingW B X.stack ea cls a0 h') (up:s1.heap.UpToSlots h') :
  Inv X pins σ (upd H' ea (excO ea cls)) { s1 with heap:=h' }:=by
 have neE:∀ b o,s.heap.get? b=some o→b≠ea:=fun b o e z=>by rw [z,new] at e;cases e
 have slots:∀ b o,b∈frs X.stack→s1.heap.get? b=some o→∃ sl,h'.get? b=some { o with slots:=sl }:=fun b o hb e=>by
  obtain ⟨o',e',nd⟩:=noFlds fly.2.2.1 hb
  rw [e] at e';cases e'
  exact up b o e nd
 have stay:∀ b o,s.heap.get? b=some o→b ∉ frs X.stack→∀ o',s1.heap.get? b=some o'→h'.get? b=some o':=fun b o e n o' e'=>by
  obtain ⟨v,hv⟩:=inB b o e n
  have:=fly.1 b v hv
  rw [e'] at this;cases this
  exact fly'.1 b _ hv
 refine I.call' (s':={ s1 with heap:=h' }) (ch:=[]) ho ⟨fun b o e n hb _=>?_,fun b o e n hb _=>?_,fun b o e n _=>?_,fun b o e _=>?_,fun b xs e=>?_,fun b o u e=>?_,fun b ps e=>?_⟩ (fun b u e=>?_) bare (fun _ z=>nomatch z)
 ·exact stay b o e hb o (un.keep b o e n hb (by simp))
 ·obtain ⟨sl,e1⟩:=un.slot b o e n hb (by simp)
  obtain ⟨sl',e2⟩:=slots b _ hb e1
  exact ⟨sl',e2⟩
 ·rw [Jk (neE b o e)];exact un.free b o e n (by simp)
 ·obtain ⟨o',e1⟩:=un.there b o e (by simp)
  by_cases hb:b∈frs X.stack
  ·obtain ⟨sl,e2⟩:=slots b o' hb e1
   exact ⟨_,e2⟩
  ·exact ⟨o',stay b o e hb o' e1⟩
 ·have q:=un.tups b xs e
  rw [Jk (Jc q hea)];exact q
 ·have q:=un.frzs b o u e
  rw [Jk (Jc q hea)];exact q
 ·obtain ⟨m,q⟩:=un.tbls b ps e
  exact ⟨m,by rw [Jk (Jc q hea)];exact q⟩
 ·have hok2:=hok.over trk fly.1 fly'.1
  by_cases hb:b=ea
  ·subst hb
   rw [J3] at e;cases e
   obtain ⟨ob,e1,e2⟩:=fly'.there
   exact ⟨⟨ob,e1,e2⟩,⟨ob,e1⟩,fun h1 h2 ⟨o1,z1,z2⟩ k=>⟨o1,k o1 z1,z2⟩⟩
  ·rw [Jk hb] at e
   exact (hok2 b u e).stay (fun c v _ q=>q) (fun c q=>by rw [Jk (Jc q hea)];exact q) fun c xs q=>by rw [Jk (Jc q hea)];exact q
def xCatch (K:PySem.W.Frag) (c:Value) (i:Nat) (tb:Addr→TS) (D:Ends) (σ:St):XK:=fun cls _ H2=>PySem.W.exmOne K cls c=some true∧∀ ea,H2 ea=none→tb ea (D.unset i) (σ.set i (some (.ref ea))) (upd H2 ea (excO ea cls))
variable {i:Nat} {n cx:Str} {c:Value} {b₀:Stmt} {suite:List Stmt} {hpos np:Pos} {tb:Addr→TS} {D:Ends}
theorem caught_at {e:Value} {s1:Shared} (hst:X.stack=X.env :: X.outer) (hfr:X.env.frame=some X.env.locals) (hgC:Gl X cx) (hmC:X.mg cx=some c) (hN:X.N.Nodup) (hi:X.N[i]?=some n) (hk:X.env.scope.names.lookup n=some .local)
  (hb:∀ ea,PSs (X.caught ea) (b₀ :: suite) (tb ea)) (I:Inv X pins σ H s) (x:Exc1 X.prog X.w X.stack H s (xCatch X.K c i tb D σ) e s1) (hdb:(cx == ("__debug__":Str))=false:=by decide) :
  wpAny (model X.prog X.w) X.A (noteFrame e X.env) (fun _ s₂=>wpAny (model X.prog X.w) X.A (setFlight e none) (fun _ s₃=>wpAny (model X.prog X.w) X.A (handleBy e X.env [.ExceptHandler (some (.Name cx np)) (some n) (b₀ :: suite) hpos]) (SP X pins D) X.xe s₃) X.xe s₂) X.xe s1:=by
 obtain ⟨ea,cls,H',B,a0,rfl,os,bare,fly,un,hok,hea,new,trk,inB,hx,q⟩:=x
 have fr:X.A.frames=some (X.env :: X.outer):=by rw [← hst];exact I.ok.frames
 have fly':Heap.FlyingW B (X.env :: X.outer) ea cls a0 s1.heap:=by rw [← hst];exact fly
 refine wpAny_looks_onW fr hfr fly' fun h2 held up2=>?_
 refine wpAny_landsW held fun h3 fly3 up3=>?_
 have fly3':Heap.FlyingW B X.stack ea cls a0 h3:=by rw [hst];exact fly3
 have I3:Inv X pins σ (upd H' ea (excO ea cls)) { s1 with heap:=h3 }:=land I os bare fly un hok hea new trk inB fly3' (up2.trans up3)
 refine wpAny_handleBy_cons (codeAny_handlers_test ?_) (by intro q;cases q)
 refine J3i (X:=X.caught ea) (I3.caught ea) hgC hmC ?_ hdb
 have LT:PySem.W.Looks (model X.prog X.w) h3 (typeOf (.ref ea)) cls:=by
  obtain ⟨ob,e1,e2⟩:=fly3.there
  exact e2 ▸ (PySem.W.Looks.ld e1).andThen .now
 refine (PySem.W.exm_one (M:=model X.prog X.w) I3.kIn LT hx).here ?_
 refine codeAny_handlers_suite_as ?_
 refine lands_againW fly3 fun h4 fly4 up4=>?_
 have fly4':Heap.FlyingW B X.stack ea cls a0 h4:=by rw [hst];exact fly4
 have I4:Inv X pins σ (upd H' ea (excO ea cls)) { s1 with heap:=h4 }:=land I os bare fly un hok hea new trk inB fly4' ((up2.trans up3).trans up4)
 refine J55 (X:=X.caught ea) (I4.caught ea) hN hi (.inl hk) (v:=.ref ea) rfl (fun s5 I5=>?_) (.inr hk)
 refine wpAny_mono (hb ea pins s5 _ _ (D.unset i) I5 (q ea hea)) (fun fl s6 z=>?_) fun _ _ z=>False.elim z
 cases fl with
 | next=>obtain ⟨σ',H2,I6,q6⟩:=z;exact J35 (I6.uncaught I.ok) hN hi hk fun s7 I7=>⟨_,H2,I7,q6⟩
 | brk=>obtain ⟨σ',H2,I6,q6⟩:=z;exact J35 (I6.uncaught I.ok) hN hi hk fun s7 I7=>⟨_,H2,I7,q6⟩
 | cont=>obtain ⟨σ',H2,I6,q6⟩:=z;exact J35 (I6.uncaught I.ok) hN hi hk fun s7 I7=>⟨_,H2,I7,q6⟩
 | ret u=>obtain ⟨v,σ',H2,I6,r6,q6⟩:=z;exact J35 (I6.uncaught I.ok) hN hi hk fun s7 I7=>⟨v,_,H2,I7,r6,q6⟩
end
section
variable {X:Cx} {k:Nat} {f:Addr} {fd:FuncData} {ps:List Str} {sp:Sp} {dvs:List V} {ds:List Value} {x n cx:Str} {i:Nat} {p pos cpos epos hpos np:Pos} {e:Expr} {es:List Expr} {t:TA} {c:Value} {b₀:Stmt} {suite:List Stmt} {tb:Addr→TS}
def tTryc (K:PySem.W.Frag) (sp:Sp) (dvs:List V) (c:Value) (i:Nat) (t:TA) (tb:Addr→TS):TS:=fun D σ H=>t σ H fun vs H1=>sp (vs ++ dvs) H1 (fun _ H2=>D.nx σ H2) (xCatch K c i tb D σ)
theorem ps_tryc (F:FnOk X.prog X.w X.K X.mg X.base (Exc1 X.prog X.w) k f fd ps sp) (hr:Room k X.A) (hg:Gl X x) (hm:X.mg x=some (.ref f)) (hk:PySem.W.keepIn X.K (.ref f)=true) (hb:Binds X.K fd ps ds) (hd:Vals dvs ds)
  (ha:PA X.nox (e :: es) t) (hst:X.stack=X.env :: X.outer) (hfr:X.env.frame=some X.env.locals) (hgC:Gl X cx) (hmC:X.mg cx=some c) (hN:X.N.Nodup) (hi:X.N[i]?=some n) (hkn:X.env.scope.names.lookup n=some .local)
  (hsu:∀ ea,PSs (X.caught ea) (b₀ :: suite) (tb ea)) (hdbC:(cx == ("__debug__":Str))=false:=by decide) (hs:swapsWith (.Call (.Name x p) (e :: es) [] cpos) none epos.line X.env=pure false:=by rfl)
  (hdb:(x == ("__debug__":Str))=false:=by decide) (he:starEach (e :: es) X.env=(false,eval e X.env) :: starEach es X.env:=by rfl) (hpl:(backTo cpos (starEach es X.env)).any (·.1)=false:=by rfl) :
  PS X (.Try [.Expr (.Call (.Name x p) (e :: es) [] cpos) epos] [.ExceptHandler (some (.Name cx np)) (some n) (b₀ :: suite) hpos] [] [] pos) (tTryc X.K sp dvs c i t tb):=by
 intro pins s σ H D I h
 refine wpAny_Try_except (wpAny_execs_cons (wpAny_Expr_any ?_ I.quiet hs))
 refine wpAny_Call_Name_kw (J3i I hg hm ?_ hdb)
 refine PySem.W.callWith_K (h₀:=X.base) I.ok.mod.kin hk (wpAny_mono (ha cpos pins s σ H _ (I.wish _) h) (fun us s1 ⟨vs,H1,I1,r,q⟩=>⟨I1.kIn,?_⟩) fun _ _ z=>False.elim z) he hpl
 have I1:=I1.unwish
 have r2:Vals (vs ++ dvs) (us ++ ds):=r.append hd
 have hl:(us ++ ds).length=ps.length:=by rw [← r2.length];exact F.len _ _ _ _ q
 refine wpAny_call (codeAny_mono (F.run X.A X.stack s1 H1 ⟨us,[]⟩ (us ++ ds) (vs ++ dvs) _ _ hr I1.env0 (hb s1 us I1.kIn hl) r2 q) fun r s' hq=>?_)
 cases r with
 | error e=>exact caught_at hst hfr hgC hmC hN hi hkn hsu I1 hq hdbC
 | ok fl =>
  cases fl with
  | ret u =>
   obtain ⟨v,H2,I2,_,q2⟩:=I1.after hq
   exact wpAny_execs_nil (wpAny_execs_nil (show SP X pins D .next s' from ⟨σ,H2,I2,q2⟩))
  | next=>exact False.elim hq
  | brk=>exact False.elim hq
  | cont=>exact False.elim hq
end
section
open PySem.W
theorem ans_exact {a:Addr} {C:Value}:Answers (fun s=>∃ o,s.heap.get? a=some o∧o.cls=C) (.ref a) C true:=by
 intro dep tk prog w A R s hs
 obtain ⟨h0,g,d,tt,os⟩:=s
 obtain ⟨⟨o,e1,e2⟩,hq⟩:=hs
 have LT:PySem.W.Looks (model prog w) h0 (typeOf (.ref a)) C:=e2 ▸ (PySem.W.Looks.ld e1).andThen .now
 unfold Builtin.«isinstance.nested»
 refine wpAny_bind (LT.at ?_)
 rw [if_pos (beq_self_eq_true _)]
 first
  | ((repeat lk);exact hq tt)
  | exact wpAny_bind (wpAny_rule (hq tt))
  | exact wpAny_bind (wpAny_rule (wpAny_pure (hq tt)))
theorem kia_exact {prog:Program} {w:World} {A:Around} {E:Value→Shared→Prop} {s:Shared} {Q:Value→Shared→Prop} {a:Addr} {C:Value} (p:∃ o,s.heap.get? a=some o∧o.cls=C) (h:∀ tk,Q (.bool true) { s with toks:=tk }) :
  wpAny (model prog w) A (call (.builtin "isinstance") [.ref a,C]) Q E s :=
 call_isinstance (S:=fun _ R s=>(∃ o,s.heap.get? a=some o∧o.cls=C)∧∀ tk,R (.ok (.ret (.bool true))) { s with toks:=tk })
  (fun prog w A R s hs=>isinstance_outer (ans_exact 0 _ prog w A R s hs) (fun z=>nomatch z)) ⟨p,h⟩
end
theorem Fun.okX {P:Program} {w:World} {K:PySem.W.Frag} {mg:Str→Option Value} {base:Heap} {x qual:Str} {st:Stmt} {f:Addr} {fd:FuncData} {N ps:List Str} {k:Nat} {sp:Sp} (F:Fun K x qual st f fd) (S:FnScope N ps (J1 st)) (len:∀ vs H Q E,sp vs H Q E→vs.length=ps.length)
  (hbody:∀ (cdv:Value) (A:Around) (outer:List Env) (s:Shared) (H:Hp) (vs:List V) (Q:VK) (E:XK),Room k (A.deeper (envOfC qual (J1 st) s.heap.objs.size f cdv))→sp vs H Q E→
   ∃ t,PSs (cxOf (Exc1 P w) P w K mg base N qual (J1 st) f cdv A outer s H E) (Jd st) t∧t { nx:=fun _ H'=>Q .non H',rt:=Q } (start N vs) H):FnOk P w K mg base (Exc1 P w) (k + 1) f fd ps sp:=by
 obtain ⟨oc,od,kV,doc,pm,an,cdv,ct,osl,rfl,lk,hcd⟩:=F.ex
 exact fn_of lk hcd S len fun A outer s H vs Q E hr hsp=>hbody cdv A outer s H vs Q E hr hsp
theorem call_isexc {X:Cx} {f:Value} (hf:f=.builtin "isinstance"):CallR X f (fun xs H Q=>∃ (ea C:Addr),xs=[.ref ea,.ref C]∧H ea=some (excO ea (.ref C))∧Q (.bl true) H):=by
 subst hf
 intro pins s σ H xs us Q I r h
 obtain ⟨ea,C,rfl,e,q⟩:=h
 obtain ⟨u,v,rfl,ru,rv⟩:=vals2 r
 cases (show u=Value.ref ea from ru)
 cases (show v=Value.ref C from rv)
 have:=I.hok ea _ e
 exact kia_exact this.1 fun tk=>⟨.bl true,H,I.tok tk,rfl,q⟩
end L2
namespace L2
open PySem PySem.Spec PyProof.Rows
theorem boolsAre:∀ {bs:List Bool} {us:List Value},Vals (bs.map V.bl) us→us=bs.map Value.bool
 | [],us,r=>by cases r;rfl
 | b :: bs,us,r=>by
  cases r with
  | cons r1 r2 =>
   cases (show _=Value.bool b from r1)
   rw [boolsAre r2];rfl
structure RoomC (k:Nat) (A:Around):Prop where
 dp:A.depth + 3 * k + 5 < recursionLimit
 un:A.units + 16 * k + 200 < cLine
theorem RoomC.mono {j k:Nat} {A:Around} (r:RoomC k A) (h:j≤k):RoomC j A:=⟨by have:=r.dp;omega,by have:=r.un;omega⟩
end L2
namespace L2
open PySem PySem.Spec PyProof.Rows
end L2
namespace L2
open PySem PySem.Spec PyProof.Rows
def PTs (X:Cx) (ifs:List Expr) (t:TT):Prop :=
 ∀ (pins:List (Addr × Obj)) (s:Shared) (σ:St) (H:Hp) (Q:Bool→Hp→Prop),Inv X pins σ H s→t σ H Q→
  wpAny (model X.prog X.w) X.A (forIn ifs true fun c r=>if r=true then do let ok ← isTrue c X.env (eval c X.env);pure (ForInStep.yield ok) else pure (ForInStep.yield r)) (TP X pins σ Q) X.xe s
def tYes:TT:=fun _ H Q=>Q true H
theorem J4v {X:Cx}:PTs X [] tYes:=fun _ s σ H Q I h=>wpAny_tests_nil ⟨H,I,h⟩
theorem pts_one {X:Cx} {c:Expr} {t:TT} (h:PT X c t):PTs X [c] t:=fun pins s σ H Q I q=>wpAny_tests_one (h pins s σ H Q I q)
theorem J2g {prog:Program} {w:World} {A:Around} {R:Result→Shared→Prop} {s:Shared} {elt target iter:Expr} {ifs:List Expr} {scope:Scope} {pos:Pos} {it acc:Value} {env:Env} (J:Nat→Shared→Prop)
  (turn:∀ n s,J n s→wpAny (model prog w) A (pyNext it) (fun r s₁=>match r with
   | none=>R (.ok .next) s₁
   | some v=>wpAny (model prog w) A (letOwnedTupleGo target it v) (fun _ s₁'=>wpAny (model prog w) A (assign target env v) (fun _ s₂ =>
     wpAny (model prog w) A (forIn ifs true fun c r=>if r=true then do let ok ← isTrue c env (eval c env);pure (ForInStep.yield ok) else pure (ForInStep.yield r)) (fun ok s₃ =>
      if ok=true then wpAny (model prog w) A (eval elt env) (fun x s₄ =>
       wpAny (model prog w) A (call (.builtin "list.append") [acc,x]) (fun _ s₅=>∃ m,m < n∧J m s₅) (fun _ _=>False) s₄) (fun _ _=>False) s₃
      else ∃ m,m < n∧J m s₃) (fun _ _=>False) s₂) (fun _ _=>False) s₁') (fun _ _=>False) s₁) (fun _ _=>False) s)
  (n:Nat) (h:J n s):codeAny (model prog w) A (.compLoop (.ListComp elt [⟨target,iter,ifs,0⟩] scope pos) 0 it acc env) R s:=by
 refine codeAny_loop rfl J (fun n s hI=>?_) n h
 show wpAny _ _ ((compTurn (.ListComp elt [⟨target,iter,ifs,0⟩] scope pos) 0 it acc env).onRaise (fun x=>do noteFrame x env;theTreesLotGoes x)) _ _ s
 refine wpAny_noted ?_
 rw [compTurn_list]
 refine wpAny_bind (wpAny_standAt (wpAny_bind (wpAny_mono (turn n s hI) (fun r s₁ h₁=>?_) fun _ _ h'=>False.elim h')))
 cases r with
 | none=>exact wpAny_pure h₁
 | some v =>
  refine wpAny_bind (wpAny_mono h₁ (fun _ s₁' h₁'=>?_) fun _ _ h'=>False.elim h')
  refine wpAny_bind (wpAny_mono h₁' (fun _ s₂ h₂=>wpAny_bind (wpAny_mono h₂ (fun ok s₃ h₃=>?_) fun _ _ h'=>False.elim h')) fun _ _ h'=>False.elim h')
  cases ok with
  | false=>exact wpAny_pure ⟨rfl,h₃⟩
  | true =>
   exact wpAny_bind (wpAny_bind (wpAny_mono h₃ (fun x s₄ h₄=>wpAny_bind (wpAny_mono h₄ (fun _ s₅ h₅=>wpAny_pure (wpAny_pure ⟨rfl,h₅⟩)) fun _ _ h'=>False.elim h')) fun _ _ h'=>False.elim h'))
def LCW (J:It) (tc:TT) (te:TE) (σ:St) (js:List Nat) (Q:VK) (H1:Hp) (d:Addr):Prop:=∃ W:Nat→Nat→List V→Hp→Prop,(∃ m,W 0 m [] (upd H1 d (.lst [])))∧
 ∀ i m ys H2,W i m ys H2→H2 d=some (.lst ys)∧((J.stop i H2∧Q (.ref d) H2)∨(J.go i H2∧ys.length < sizeLine∧∀ v H3,J.yld i H2 v H3→
  tc (some v :: capv σ js) H3 fun b H4=>if b=true then te (some v :: capv σ js) H4 fun y H5=>H5 d=some (.lst ys)∧∃ m',m' < m∧W (i + 1) m' (ys ++ [y]) (upd H5 d (.lst (ys ++ [y])))
   else ∃ m',m' < m∧W (i + 1) m' ys H4))
def tLC (wi:TI) (tc:TT) (te:TE) (js:List Nat):TE:=fun σ H Q=>wi σ H fun J H1=>∀ d,H1 d=none→LCW J tc te σ js Q H1 d
section
variable {X:Cx} {elt iter:Expr} {ifs:List Expr} {x y:Str} {px py:Pos} {scope:Scope} {cl:List (Str × Addr)} {pos spos:Pos} {wi:TI} {tc:TT} {te:TE} {caps:List Str} {js:List Nat} {i:Nat}
theorem comp_core {p0:Pos} {use:Option (Value→Sem Unit)} {QV:Value→Shared→Prop} {Q:VK} {pins:List (Addr × Obj)} {s:Shared} {σ:St} {H:Hp} (hc:X.calm=true) (hp:PI X (.Name x px) iter wi)
  (he:∀ (C:Addr) (fp:List Addr) (s:Shared) (H:Hp),PE (X.block (x :: caps) scope cl C fp s H) elt te)
  (ht:∀ (C:Addr) (fp:List Addr) (s:Shared) (H:Hp),PTs (X.block (x :: caps) scope cl C fp s H) ifs tc)
  (hcell:∀ p∈scope.names,p.2≠.cell) (hnames:∀ p∈scope.names,p.2=.local→scope.names.lookup p.1=some .local) (hnd:(x :: caps).Nodup)
  (hsub:∀ p∈cl,X.env.cells.lookup p.1=some p.2) (hhas:∀ p∈scope.names,p.2=.free→∃ c,cl.lookup p.1=some c) (hlen:caps.length=js.length)
  (hcaps:∀ (k:Nat) (c:Str),caps[k]?=some c→∃ (j:Nat) (a:Addr),js[k]?=some j∧X.N[j]?=some c∧X.env.scope.names.lookup c=some .cell∧cl.lookup c=some a∧(relabel scope X.env).names.lookup c=some .cell)
  (hclos:closureFor scope X.env=pure cl) (hkind:scope.kind=.function) (hx:scope.names.lookup x=some .local) (hs:∀ v,foldedSetIterable iter X.env v=pure v)
  (I:Inv X pins σ H s) (h:tLC wi tc te js σ H Q)
  (fin:∀ (d:Addr) (H':Hp) (s5:Shared) (C:Addr),Inv X pins σ H' s5→Q (.ref d) H'→(∃ m,s5.heap.Ns C m)→FpOk X pins H' C→compPost (model X.prog X.w) X.A X.xe use QV (.ref d) C (.ok .next) s5) :
  wpAny (model X.prog X.w) X.A (comprehension (.ListComp elt [⟨.Name x px,iter,ifs,0⟩] scope pos) scope X.env p0 (newList []) false (eval iter X.env) use) QV X.xe s:=by
 refine wpAny_comprehension_free (cl:=cl) (use:=use) (Q:=QV) rfl hs hclos hkind hnames (thn (hp pins s σ H _ I h) fun v s1 h1=>thn h1 fun itv s2 h2=>?_)
 obtain ⟨it,fp,tn,J,H2,e,I2,T,st2,f2,h3⟩:=h2
 subst e
 have hfr:H2 s2.heap.objs.size=none:=I2.hok.fresh (Nat.le_refl _)
 obtain ⟨W,⟨m0,w0⟩,hW⟩:=h3 s2.heap.objs.size hfr
 refine wpAny_newObj_type (wpAny_newFunctionEnv hcell (by intro y hy;simp at hy) (fun h₁ hns₁ hsb₁=>?_) hkind)
 dsimp only at hns₁ hsb₁ ⊢
 generalize hH2:s2.heap.push { cls:=.type "list",dict:=none,data:=.seq ([]:List Value).toArray }=G at hns₁ hsb₁ ⊢
 have hC:G.objs.size=s2.heap.objs.size + 1:=by rw [← hH2,Heap.size_push]
 have hDC:s2.heap.objs.size≠G.objs.size:=by rw [hC];exact Nat.ne_of_lt (Nat.lt_succ_self _)
 have hCle:s2.heap.objs.size≤G.objs.size:=by rw [hC];exact Nat.le_succ _
 have old:∀ b o,s2.heap.get? b=some o→h₁.get? b=some o:=fun b o e=>hsb₁.extBut b o (by rw [hC];exact Nat.ne_of_lt (Nat.lt_succ_of_lt (Heap.lt_size e))) (Heap.get?_push_of_some _ (hH2 ▸ Heap.get?_push_of_some _ e))
 have hacc:h₁.get? s2.heap.objs.size=some { cls:=.type "list",dict:=none,data:=.seq ([]:List Value).toArray }:=hsb₁.extBut _ _ hDC (Heap.get?_push_of_some _ (hH2 ▸ Heap.get?_push_size _ rfl))
 have fl:∀ b∈fp,b < s2.heap.objs.size:=fun b hb=>by
  obtain ⟨o,e,_⟩:=T.obj _ _ st2 b hb
  exact Heap.lt_size e
 have hDf:s2.heap.objs.size ∉ fp:=fun hm=>Nat.lt_irrefl _ (fl _ hm)
 have hok1:HOk X.prog X.w (upd H2 s2.heap.objs.size (.lst [])) h₁:=I2.hok.laid old (Nat.le_refl _) ⟨Nat.zero_le _,[],0,.nil,hacc⟩
 have IY0:∀ tk,Inv (X.block (x :: caps) scope cl G.objs.size fp s2 H2) [] (none :: capv σ js) (upd H2 s2.heap.objs.size (.lst [])) { s2 with heap:=h₁,toks:=tk }:=fun tk=>by
  refine ⟨block_ok I2 hCle f2 fl hkind hcell hsub hhas,rfl,I2.bare,Un.laid old (Nat.le_refl _) hfr,⟨_,hns₁,fun k z v e1 e2 e3=>?_⟩,fun z c e=>?_,?_,fun z c e=>?_,fun p hp=>absurd hp (by simp),hok1,?_⟩
  ·cases k with
   | zero=>simp at e2
   | succ k =>
    have e1':caps[k]?=some z:=by simpa using e1
    have e2':(capv σ js)[k]?=some (some v):=by simpa using e2
    obtain ⟨j,a,q1,q2,q3,q4,q5⟩:=hcaps k z e1'
    obtain ⟨j',r1,r2⟩:=capv_get e2'
    rw [q1] at r1;cases r1
    obtain ⟨m,hm,hl⟩:=I2.loc
    obtain ⟨u,ru,lu⟩:=hl j z v q2 r2 (.inr (.inl q3))
    refine ⟨u,ru,.inr ⟨.inl q5,a,q4,?_⟩⟩
    rcases lu with ⟨k1,_⟩ | ⟨_,c,ec,o,ho,hd⟩
    ·have k1':X.env.scope.names.lookup z=some .local:=k1
     rw [q3] at k1';cases k1'
    ·have:=hsub _ (PySem.mem_of_lookup q4)
     rw [ec] at this;cases this
     exact ⟨o,old _ _ ho,hd⟩
  ·obtain ⟨v,o,ho,hd⟩:=I2.cell z c (hsub _ (PySem.mem_of_lookup e))
   exact ⟨v,o,old _ _ ho,hd⟩
  ·show upd H2 s2.heap.objs.size (.lst []) G.objs.size=none
   rw [Jk hDC.symm]
   exact I2.hok.fresh hCle
  ·have ec:=hsub _ (PySem.mem_of_lookup e)
   obtain ⟨v,o,ho,hd⟩:=I2.cell z c ec
   rw [Jk (Nat.ne_of_lt (Heap.lt_size ho))]
   exact I2.freeC z c ec
  ·show (none :: capv σ js).length=(x :: caps).length
   unfold capv
   simp [hlen]
 have stat:∀ {H':Hp},(∀ b∈fp,H' b=none)→∀ b∈fp,FpOk (X.block (x :: caps) scope cl G.objs.size fp s2 H2) [] H' b:=fun hn b hb =>
  ⟨hn b hb,Nat.ne_of_lt (Nat.lt_of_lt_of_le (fl b hb) hCle),(block_ok (x:=x) (caps:=caps) I2 hCle f2 fl hkind hcell hsub hhas).exfs b hb,.inl hb,fun z c e=>(f2 b hb).2.2.2.2.1 z c (hsub _ (PySem.mem_of_lookup e)),fun p hp=>absurd hp (by simp)⟩
 have hxl:(relabel scope X.env).names.lookup x=some .local:=lookup_relabel_local hx
 have loop:∀ tk,codeAny (model X.prog X.w) X.A (.compLoop (.ListComp elt [⟨.Name x px,iter,ifs,0⟩] scope pos) 0 (.ref it) (.ref s2.heap.objs.size) (compEnvC scope cl G.objs.size X.env))
   (compPost (model X.prog X.w) X.A X.xe use QV (.ref s2.heap.objs.size) G.objs.size) { s2 with heap:=h₁,toks:=tk }:=fun tk=>by
  refine J2g (fun m s'=>∃ (k:Nat) (o:Option V) (ys:List V) (H':Hp),Inv (X.block (x :: caps) scope cl G.objs.size fp s2 H2) [] (o :: capv σ js) H' s'∧tn k s'.heap∧(∀ b∈fp,H' b=none)∧W k m ys H') ?_ m0
   ⟨0,none,[],_,IY0 tk,T.keep _ _ _ st2 fun b hb o e=>old b o e,fun b hb=>by
    rw [Jk (show b≠s2.heap.objs.size from fun e=>hDf (by rw [← e];exact hb))]
    exact (f2 b hb).1,w0⟩
  rintro m s3 ⟨k,o,ys,H',I3,st3,fr3,w3⟩
  obtain ⟨hd,hW3⟩:=hW k m ys H' w3
  rcases hW3 with ⟨stop,q⟩ | ⟨go,hz,step⟩
  ·refine thn (T.done (X.block (x :: caps) scope cl G.objs.size fp s2 H2) rfl rfl rfl hc k [] s3 _ _ (fun _ _=>False) I3 (stat fr3) st3 stop) fun r s4 ⟨hr,I4⟩=>?_
   subst hr
   have J5:Inv X pins σ H' s4:=I2.call' (ch:=fp) I4.os I4.base I4.hok I4.bare fun b hb=>⟨(f2 b hb).2.2.2.1,(f2 b hb).2.1,(f2 b hb).2.2.2.2.1,(f2 b hb).2.2.2.2.2⟩
   exact fin _ H' s4 _ J5 q (let ⟨m,q,_⟩:=I4.loc;⟨m,q⟩) (I2.fpOk hCle I4.free)
  ·refine thn (T.item (X.block (x :: caps) scope cl G.objs.size fp s2 H2) rfl rfl rfl hc k [] s3 _ _ (fun _ _=>False) I3 (stat fr3) st3 go) fun r s4 ⟨u,hr,h4⟩=>?_
   subst hr
   refine thn h4 fun _ s5 ⟨v,H5,I5,r5,y5,st5,fr5⟩=>?_
   have I5':=I5.pinned (stat fr5) (T.obj _ _ st5)
   have stp:=step v H5 y5
   refine thn (J32 (X:=X.block (x :: caps) scope cl G.objs.size fp s2 H2) (i:=0) (pos:=px) hnd rfl (.inl hxl) (.inr hxl) _ s5 _ _ _ u
    (fun σ' H'=>σ'=some v :: capv σ js∧H'=H5) I5' r5 ⟨rfl,rfl⟩) fun _ s6 ⟨σ6,H6,I6,q6⟩=>?_
   obtain ⟨rfl,rfl⟩:=q6
   refine thn (ht _ _ _ _ _ s6 _ _ _ I6 stp) fun ok s7 ⟨H7,I7,q7⟩=>?_
   have back:∀ {s8:Shared} {H8:Hp} {o8:Option V} {ys8:List V} {m':Nat},Inv (X.block (x :: caps) scope cl G.objs.size fp s2 H2) ([] ++ pinsAt fp s5.heap) (o8 :: capv σ js) H8 s8→m' < m→W (k + 1) m' ys8 H8→
     ∃ m',m' < m∧∃ (k:Nat) (o:Option V) (ys:List V) (H':Hp),Inv (X.block (x :: caps) scope cl G.objs.size fp s2 H2) [] (o :: capv σ js) H' s8∧tn k s8.heap∧(∀ b∈fp,H' b=none)∧W k m' ys H':=fun {s8 H8 o8 ys8 m'} I8 hm w8=>by
    refine ⟨m',hm,k + 1,o8,ys8,H8,I8.unpinned,T.keep _ _ _ st5 fun b hb o e=>(I8.pin (b,o) (List.mem_append_right _ (List.mem_append_right _ (J2p hb e)))).1,fun b hb=>?_,w8⟩
    obtain ⟨o,e,d⟩:=T.obj _ _ st5 b hb
    exact (I8.pin (b,o) (List.mem_append_right _ (List.mem_append_right _ (J2p hb e)))).2.1
   cases ok with
   | false =>
    have q7':∃ m',m' < m∧W (k + 1) m' ys H7:=by
     have:=q7
     rwa [if_neg (by decide)] at this
    obtain ⟨m',hm,w8⟩:=q7'
    exact back I7 hm w8
   | true =>
    have q7':te (some v :: capv σ js) H7 fun y H5=>H5 s2.heap.objs.size=some (.lst ys)∧∃ m',m' < m∧W (k + 1) m' (ys ++ [y]) (upd H5 s2.heap.objs.size (.lst (ys ++ [y]))):=by
     have:=q7
     rwa [if_pos rfl] at this
    refine (show wpAny _ _ _ _ _ _ from thn (he _ _ _ _ _ s7 _ _ _ I7 q7') fun u8 s8 ⟨v8,H8,I8,r8,hd8,m',hm,w8⟩=>?_)
    refine thn (mt_append (X:=X.block (x :: caps) scope cl G.objs.size fp s2 H2) _ s8 _ _ (.ref s2.heap.objs.size) [v8] (.ref s2.heap.objs.size) [u8]
     (fun _ H'=>H'=upd H8 s2.heap.objs.size (.lst (ys ++ [v8]))) I8 rfl (.cons r8 .nil) ⟨s2.heap.objs.size,_,v8,rfl,rfl,hd8,hz,rfl⟩) fun _ s9 ⟨_,H9,I9,_,q9⟩=>?_
    subst q9
    exact back I9 hm w8
 have st1:tn 0 h₁:=T.keep _ _ _ st2 fun b hb o e=>old b o e
 exact codeAny_compStart_list (loop _) (T.self X.A 0 _ _ _ st1 (loop _))
def capsOk (X:Cx) (scope:Scope) (cl:List (Str × Addr)) (caps:List Str) (js:List Nat):Bool :=
 (caps.zip js).all fun q=>X.N[q.2]? == some q.1 && X.env.scope.names.lookup q.1 == some .cell && (cl.lookup q.1).isSome && (relabel scope X.env).names.lookup q.1 == some .cell
theorem capsOk.get (hlen:caps.length=js.length) (h:capsOk X scope cl caps js=true):∀ (k:Nat) (c:Str),caps[k]?=some c→∃ (j:Nat) (a:Addr),js[k]?=some j∧X.N[j]?=some c∧X.env.scope.names.lookup c=some .cell∧cl.lookup c=some a∧(relabel scope X.env).names.lookup c=some .cell:=fun k c hk=>by
 have hkl:k < caps.length:=(List.getElem?_eq_some_iff.mp hk).1
 have hj:js[k]?=some (js[k]'(hlen ▸ hkl)):=List.getElem?_eq_getElem (hlen ▸ hkl)
 have hm:(c,js[k]'(hlen ▸ hkl))∈caps.zip js:=by
  refine List.mem_iff_getElem?.mpr ⟨k,?_⟩
  rw [List.getElem?_zip_eq_some]
  exact ⟨hk,hj⟩
 have:=List.all_eq_true.mp h _ hm
 simp only [Bool.and_eq_true,beq_iff_eq] at this
 obtain ⟨⟨⟨q1,q2⟩,q3⟩,q4⟩:=this
 obtain ⟨a,ha⟩:=Option.isSome_iff_exists.mp q3
 exact ⟨_,a,hj,q1,q2,ha,q4⟩
def freeOk (scope:Scope) (cl:List (Str × Addr)):Bool:=scope.names.all fun p=>p.2 != .free || (cl.lookup p.1).isSome
theorem freeOk.get (h:freeOk scope cl=true):∀ p∈scope.names,p.2=.free→∃ c,cl.lookup p.1=some c:=fun p hp' e=>by
 have:=List.all_eq_true.mp h p hp'
 rw [e] at this
 exact Option.isSome_iff_exists.mp (by simpa using this)
theorem pe_lc (hc:X.calm=true) (hp:PI X (.Name x px) iter wi) (hclos:closureFor scope X.env=pure cl)
  (ht:∀ (C:Addr) (fp:List Addr) (s:Shared) (H:Hp),PTs (X.block (x :: caps) scope cl C fp s H) ifs tc)
  (he:∀ (C:Addr) (fp:List Addr) (s:Shared) (H:Hp),PE (X.block (x :: caps) scope cl C fp s H) elt te)
  (hcell:∀ p∈scope.names,p.2≠.cell) (hnames:∀ p∈scope.names,p.2=.local→scope.names.lookup p.1=some .local) (hnd:(x :: caps).Nodup)
  (hsub:∀ p∈cl,X.env.cells.lookup p.1=some p.2)
  (hhas:freeOk scope cl=true:=by rfl) (hlen:caps.length=js.length:=by rfl) (hcaps:capsOk X scope cl caps js=true:=by rfl)
  (hkind:scope.kind=.function:=by rfl) (hx:scope.names.lookup x=some .local:=by rfl) (hs:∀ v,foldedSetIterable iter X.env v=pure v:=by intro _;rfl) :
  PE X (.ListComp elt [⟨.Name x px,iter,ifs,0⟩] scope pos) (tLC wi tc te js):=by
 intro pins s σ H Q I h
 rw [eval_ListComp]
 refine comp_core (use:=none) hc hp he ht hcell hnames hnd hsub (freeOk.get hhas) hlen (capsOk.get hlen hcaps) hclos hkind hx hs I h fun d H' s5 C J5 q hC fp=>?_
 obtain ⟨m,nsC⟩:=hC
 exact ⟨m,nsC,fun h' hs'=>⟨.ref d,H',J5.turned (h':=h') (t':=s5.toks) (it:=C) (fun b o hb e=>(hs'.2 b hb).trans e) fp.1 fp.2.1 fp.2.2.2.1 fp.2.2.2.2.1 fp.2.2.2.2.2,rfl,q⟩⟩
def tSetLC (t:TE) (i:Nat):TS:=fun D σ H=>t σ H fun v H'=>D.nx (σ.set i (some v)) H'
theorem ps_lc (hN:X.N.Nodup) (hi:X.N[i]?=some y) (hy:Loc X.env.scope y) (hc:X.calm=true) (hp:PI X (.Name x px) iter wi) (hclos:closureFor scope X.env=pure cl)
  (ht:∀ (C:Addr) (fp:List Addr) (s:Shared) (H:Hp),PTs (X.block (x :: caps) scope cl C fp s H) ifs tc)
  (he:∀ (C:Addr) (fp:List Addr) (s:Shared) (H:Hp),PE (X.block (x :: caps) scope cl C fp s H) elt te)
  (hcell:∀ p∈scope.names,p.2≠.cell) (hnames:∀ p∈scope.names,p.2=.local→scope.names.lookup p.1=some .local) (hnd:(x :: caps).Nodup)
  (hsub:∀ p∈cl,X.env.cells.lookup p.1=some p.2)
  (hhas:freeOk scope cl=true:=by rfl) (hlen:caps.length=js.length:=by rfl) (hcaps:capsOk X scope cl caps js=true:=by rfl)
  (hf:X.fn y=true∨X.env.scope.names.lookup y=some .local:=by first | exact .inl rfl | exact .inr rfl | assumption)
  (hsw:swapsWith (.ListComp elt [⟨.Name x px,iter,ifs,0⟩] scope pos) (some (.Name y py)) spos.line X.env=pure true:=by rfl)
  (hkind:scope.kind=.function:=by rfl) (hx:scope.names.lookup x=some .local:=by rfl) (hs:∀ v,foldedSetIterable iter X.env v=pure v:=by intro _;rfl) :
  PS X (.Assign [.Name y py] (.ListComp elt [⟨.Name x px,iter,ifs,0⟩] scope pos) spos) (tSetLC (tLC wi tc te js) i):=by
 intro pins s σ H D I h
 rw [exec_Assign_Name_used _ _ _ _ hsw]
 refine wpAny_bind (wpAny_standAt (wpAny_bind ?_))
 show wpAny _ X.A (do let _ ← comprehension (.ListComp elt [⟨.Name x px,iter,ifs,0⟩] scope pos) scope X.env _ (newList []) false (eval iter X.env) (some (assign (.Name y py) X.env))) _ _ s
 refine wpAny_bind (wpAny_mono (comp_core (use:=some (assign (.Name y py) X.env)) (QV:=fun _ s'=>SP X pins D .next s') hc hp he ht hcell hnames hnd hsub (freeOk.get hhas) hlen (capsOk.get hlen hcaps) hclos hkind hx hs I h fun d H' s5 C J5 q hC fp=>?_)
  (fun _ s' hq=>wpAny_pure (wpAny_pure hq)) fun _ _ e=>e)
 obtain ⟨mC,nsC⟩:=hC
 show wpAny _ X.A (assign (.Name y py) X.env (.ref d)) _ _ s5
 refine wpAny_assign_Name ?_
 refine store_ok2 J5 hN hi hy (v:=.ref d) rfl (fun s6 I6 keep6=>?_) hf
 obtain ⟨a,sa,ha⟩:=keep6
 have aC:a≠C:=by
  rcases ha with e | e
  ·rw [e];exact Ne.symm fp.2.1
  ·exact fp.2.2.2.2.1 y a e
 exact ⟨mC,nsC.sameBut sa (Ne.symm aC),fun h' hs'=>⟨_,H',I6.turned (h':=h') (t':=s6.toks) (it:=C) (fun b o hb e=>(hs'.2 b hb).trans e) fp.1 fp.2.1 fp.2.2.2.1 fp.2.2.2.2.1 fp.2.2.2.2.2,q⟩⟩
end
theorem lc_over {J:It} {H1:Hp} {tc:TT} {te:TE} {σ:St} {js:List Nat} {Q:VK} {d:Addr} (n:Nat) (g:Nat→Bool) (f:Nat→V) (hd:H1 d=none) (hn:n≤1000)
  (hgo:∀ i H,i < n→Same H1 H→J.go i H) (hst:∀ H,Same H1 H→J.stop n H) (vv:Nat→V) (hy:∀ i H v H',i < n→Same H1 H→J.yld i H v H'→H'=H∧v=vv i)
  (hs:∀ i H Qt,i < n→Same H1 H→(∀ H',Same H H'→Qt (g i) H')→tc (some (vv i) :: capv σ js) H Qt)
  (he:∀ i H Qe,i < n→g i=true→Same H1 H→(∀ H',Same H H'→Qe (f i) H')→te (some (vv i) :: capv σ js) H Qe)
  (hq:∀ H',Same H1 H'→H' d=some (.lst (((List.range n).filter g).map f))→Q (.ref d) H') :
  ∃ W:Nat→Nat→List V→Hp→Prop,(∃ m,W 0 m [] (upd H1 d (.lst [])))∧
   ∀ i m ys H2,W i m ys H2→H2 d=some (.lst ys)∧((J.stop i H2∧Q (.ref d) H2)∨(J.go i H2∧ys.length < sizeLine∧∀ v H3,J.yld i H2 v H3→
    tc (some v :: capv σ js) H3 fun b H4=>if b=true then te (some v :: capv σ js) H4 fun y H5=>H5 d=some (.lst ys)∧∃ m',m' < m∧W (i + 1) m' (ys ++ [y]) (upd H5 d (.lst (ys ++ [y])))
     else ∃ m',m' < m∧W (i + 1) m' ys H4)):=by
 have s0:∀ o,Same H1 (upd H1 d o):=fun o b u e=>by rw [Jk (Jc e hd)];exact e
 refine ⟨fun i m ys H=>m=n - i∧i≤n∧ys=((List.range i).filter g).map f∧Same H1 H∧H d=some (.lst ys),⟨n,rfl,Nat.zero_le _,rfl,s0 _,J3⟩,?_⟩
 rintro i m ys H2 ⟨rfl,hi,rfl,sm,h2⟩
 refine ⟨h2,?_⟩
 by_cases hlt:i < n
 ·refine .inr ⟨hgo i H2 hlt sm,?_,fun v H3 y3=>?_⟩
  ·have h1:(((List.range i).filter g).map f).length≤i:=by
    rw [List.length_map]
    exact Nat.le_trans (List.length_filter_le _ _) (by rw [List.length_range];exact Nat.le_refl _)
   exact J18 (by omega)
  ·obtain ⟨rfl,rfl⟩:=hy i H2 v H3 hlt sm y3
   refine hs i H3 _ hlt sm fun H4 s4=>?_
   cases hg:g i with
   | false =>
    rw [if_neg (by decide)]
    refine ⟨n - (i + 1),by omega,rfl,hlt,?_,sm.trans s4,s4 _ _ h2⟩
    rw [List.range_succ,List.filter_append,List.map_append]
    simp [hg]
   | true =>
    rw [if_pos rfl]
    refine he i H4 _ hlt hg (sm.trans s4) fun H5 s5=>⟨s5 _ _ (s4 _ _ h2),n - (i + 1),by omega,rfl,hlt,?_,?_,J3⟩
    ·rw [List.range_succ,List.filter_append,List.map_append]
     simp [hg]
    ·intro b u e
     rw [Jk (Jc e hd)]
     exact s5 _ _ (s4 _ _ (sm _ _ e))
 ·have e:i=n:=by omega
  subst e
  exact .inl ⟨hst H2 sm,hq H2 sm h2⟩
theorem Same.tup {K:PySem.W.Frag} {H H':Hp} {a:Addr} {xs:List V} (e:Same H H') (h:SqT K H a xs):SqT K H' a xs:=by
 rcases h with (h | ⟨o,h⟩) | h
 ·exact .inl (.inl (e _ _ h))
 ·exact .inl (.inr ⟨o,e _ _ h⟩)
 ·exact .inr h
theorem pick_all {α:Type} (G:α→Bool) (F:α→V):∀ xs:List α,
  ((List.range xs.length).filter fun i=>match xs[i]? with | some v=>G v | none=>false).map (fun i=>match xs[i]? with | some v=>F v | none=>V.non)=(xs.filter G).map F
 | []=>rfl
 | a :: r=>by
  have ih:=pick_all G F r
  rw [List.length_cons,List.range_succ_eq_map,List.filter_cons,List.filter_map,List.filter_cons]
  have e:(fun i=>match (a :: r)[i]? with | some v=>G v | none=>false) ∘ Nat.succ=fun i=>match r[i]? with | some v=>G v | none=>false:=by
   funext i;simp
  have e2:(fun i=>match (a :: r)[i]? with | some v=>F v | none=>V.non) ∘ Nat.succ=fun i=>match r[i]? with | some v=>F v | none=>V.non:=by
   funext i;simp
  rw [e]
  cases hg:G a with
  | true =>
   simp only [List.getElem?_cons_zero,hg,if_true,List.map_cons,List.map_map]
   rw [e2,ih]
  | false =>
   simp only [List.getElem?_cons_zero,hg,Bool.false_eq_true,if_false,List.map_map]
   rw [e2,ih]
section
variable {α:Type} {K:PySem.W.Frag} {a:Addr} {H1:Hp} {tc:TT} {te:TE} {σ:St} {js:List Nat} {Q:VK} {d:Addr}
theorem lc_seq {J:It} (e:α→V) (xs:List α) (G:α→Bool) (F:α→V) (hn:xs.length≤1000) (hd:H1 d=none)
  (hgo:∀ i H,i < xs.length→Same H1 H→J.go i H) (hst:∀ H,Same H1 H→J.stop xs.length H) (hy:∀ i H v H',i < xs.length→Same H1 H→J.yld i H v H'→H'=H∧(xs.map e)[i]?=some v)
  (hs:∀ v∈xs,∀ H Qt,Same H1 H→(∀ H',Same H H'→Qt (G v) H')→tc (some (e v) :: capv σ js) H Qt)
  (he:∀ v∈xs,∀ H Qe,G v=true→Same H1 H→(∀ H',Same H H'→Qe (F v) H')→te (some (e v) :: capv σ js) H Qe)
  (hq:∀ H',Same H1 H'→H' d=some (.lst ((xs.filter G).map F))→Q (.ref d) H'):LCW J tc te σ js Q H1 d:=by
 have at_:∀ i,i < xs.length→∃ v,xs[i]?=some v∧v∈xs:=fun i hi=>⟨_,List.getElem?_eq_getElem hi,List.getElem_mem hi⟩
 refine lc_over xs.length (fun i=>match xs[i]? with | some v=>G v | none=>false) (fun i=>match xs[i]? with | some v=>F v | none=>V.non) hd hn hgo hst (fun i=>((xs.map e)[i]?).getD .non)
  (fun i H v H' hi s y=>?_) (fun i H Qt hi s k=>?_) (fun i H Qe hi hg s k=>?_) (fun H' s h=>?_)
 ·obtain ⟨e1,e2⟩:=hy i H v H' hi s y
  exact ⟨e1,by rw [e2];rfl⟩
 ·obtain ⟨v,e1,hv⟩:=at_ i hi
  rw [List.getElem?_map,e1]
  refine hs v hv H Qt s fun H' s'=>?_
  have:=k H' s'
  rw [e1] at this
  exact this
 ·obtain ⟨v,e1,hv⟩:=at_ i hi
  rw [e1] at hg
  rw [List.getElem?_map,e1]
  refine he v hv H Qe hg s fun H' s'=>?_
  have:=k H' s'
  rw [e1] at this
  exact this
 ·rw [pick_all] at h
  exact hq H' s h
theorem lc_tup (e:α→V) (xs:List α) (G:α→Bool) (F:α→V) (hx:SqT K H1 a (xs.map e)) (hn:xs.length≤1000) (hd:H1 d=none)
  (hs:∀ v∈xs,∀ H Qt,Same H1 H→(∀ H',Same H H'→Qt (G v) H')→tc (some (e v) :: capv σ js) H Qt)
  (he:∀ v∈xs,∀ H Qe,G v=true→Same H1 H→(∀ H',Same H H'→Qe (F v) H')→te (some (e v) :: capv σ js) H Qe)
  (hq:∀ H',Same H1 H'→H' d=some (.lst ((xs.filter G).map F))→Q (.ref d) H'):LCW (Itt K a) tc te σ js Q H1 d :=
 lc_seq e xs G F hn hd (fun i H hi s=>⟨_,_,s.tup hx,by rw [List.getElem?_map,List.getElem?_eq_getElem hi];rfl⟩) (fun H s=>⟨_,s.tup hx,by rw [List.length_map];exact Nat.le_refl _⟩)
  (fun i H v H' hi s y=>⟨y.1,y.2 _ (s.tup hx)⟩) hs he hq
theorem lc_lst (e:α→V) (xs:List α) (G:α→Bool) (F:α→V) (hx:SqL K H1 a (xs.map e)) (hn:xs.length≤1000) (hd:H1 d=none)
  (hs:∀ v∈xs,∀ H Qt,Same H1 H→(∀ H',Same H H'→Qt (G v) H')→tc (some (e v) :: capv σ js) H Qt)
  (he:∀ v∈xs,∀ H Qe,G v=true→Same H1 H→(∀ H',Same H H'→Qe (F v) H')→te (some (e v) :: capv σ js) H Qe)
  (hq:∀ H',Same H1 H'→H' d=some (.lst ((xs.filter G).map F))→Q (.ref d) H'):LCW (Itl K a) tc te σ js Q H1 d :=
 lc_seq e xs G F hn hd (fun i H hi s=>⟨_,_,s.seq hx,by rw [List.getElem?_map,List.getElem?_eq_getElem hi];rfl⟩) (fun H s=>⟨_,s.seq hx,by rw [List.length_map];exact Nat.le_refl _⟩)
  (fun i H v H' hi s y=>⟨y.1,y.2 _ (s.seq hx)⟩) hs he hq
theorem lc_rng (lo:Int) (n:Nat) (G:Nat→Bool) (F:Nat→V) (hn:n≤1000) (hd:H1 d=none)
  (hs:∀ i,i < n→∀ H Qt,Same H1 H→(∀ H',Same H H'→Qt (G i) H')→tc (some (.int (lo + i)) :: capv σ js) H Qt)
  (he:∀ i,i < n→∀ H Qe,G i=true→Same H1 H→(∀ H',Same H H'→Qe (F i) H')→te (some (.int (lo + i)) :: capv σ js) H Qe)
  (hq:∀ H',Same H1 H'→H' d=some (.lst (((List.range n).filter G).map F))→Q (.ref d) H'):LCW (Itr lo n) tc te σ js Q H1 d :=
 lc_over n G F hd hn (fun i H hi _=>hi) (fun H _=>Nat.le_refl _) (fun i=>.int (lo + i)) (fun i H v H' hi _ y=>y) (fun i H Qt hi s k=>hs i hi H Qt s k) (fun i H Qe hi hg s k=>he i hi H Qe hg s k) hq
end
theorem J1r {α:Type} (xs:List α):xs.filter (fun _=>true)=xs:=List.filter_eq_self.mpr fun _ _=>rfl
theorem pe_ixr {X:Cx} {a b:Expr} {pos:Pos} {ta tb:TE} {r:R2} (hr:IxR X r) (ha:PE X a ta) (hb:PE X b tb) (hs:PlainIx b:=by intro _ _;rfl):PE X (.Subscript a b pos) (tOp r ta tb):=pe_ix hr ha hb hs
end L2
namespace L2
open PySem PySem.Spec PyProof.Rows
section
variable {X:Cx}
def rEqT (K:PySem.W.Frag):R2:=fun x y H Q=>∃ p q xs ys,x=.ref p∧y=.ref q∧SqT K H p xs∧SqT K H q ys∧Kin xs ys∧Q (.bl (decide (xs=ys))) H
def rNeT (K:PySem.W.Frag):R2:=fun x y H Q=>∃ p q xs ys,x=.ref p∧y=.ref q∧SqT K H p xs∧SqT K H q ys∧Kin xs ys∧Q (.bl (!decide (xs=ys))) H
theorem tup_all {xs ys:List V} {its its2:List Value} (l1:xs.length=its.length) (l2:ys.length=its2.length) (hk:Kin xs ys) :
  ((List.range (min its.toArray.size its2.toArray.size)).all (eAt xs ys) && its.toArray.size == its2.toArray.size)=decide (xs=ys):=by
 rw [List.size_toArray,List.size_toArray,← l1,← l2]
 by_cases hl:xs.length=ys.length
 ·rw [hl,Nat.min_self,← hl,all_eAt hl hk]
  simp
 ·rw [decide_eq_false (fun e=>hl (congrArg List.length e)),show (xs.length == ys.length)=false from by simpa using hl,Bool.and_false]
theorem op_eqT (hu:X.A.units < cLine):OpR X (compareOp .Eq) (rEqT X.K):=by
 intro pins s σ H x y v u Q I rx ry h
 obtain ⟨p,q,xs,ys,rfl,rfl,hp,hq,hk,hQ⟩:=h
 cases rx
 cases ry
 obtain ⟨its,r,pl,_⟩:=I.tuple hp
 obtain ⟨its2,r2,pl2,_⟩:=I.tuple hq
 refine SeqAt.eq_tupleAt (show s.heap.IsTuple p its.toArray from pl) (show s.heap.IsTuple q its2.toArray from pl2) hu (fun j h1 h2=>eAt_at r r2 hk j h1 h2) ?_
 rw [tup_all r.length r2.length hk]
 exact ⟨.bl _,H,I,rfl,hQ⟩
theorem op_neT (hu:X.A.units < cLine):OpR X (compareOp .NotEq) (rNeT X.K):=by
 intro pins s σ H x y v u Q I rx ry h
 obtain ⟨p,q,xs,ys,rfl,rfl,hp,hq,hk,hQ⟩:=h
 cases rx
 cases ry
 obtain ⟨its,r,pl,_⟩:=I.tuple hp
 obtain ⟨its2,r2,pl2,_⟩:=I.tuple hq
 refine SeqAt.RcNeAt.tuples (show s.heap.IsTuple p its.toArray from pl) (show s.heap.IsTuple q its2.toArray from pl2) hu (fun j h1 h2=>eAt_at r r2 hk j h1 h2) _ _ _ _ ?_
 rw [tup_all r.length r2.length hk]
 exact ⟨.bl _,H,I,rfl,hQ⟩
def CBig (i j:Int):Prop:=i.natAbs < 2 ^ 4000∧j.natAbs < 2 ^ 4000
theorem bits_big {k:Int} (h:k.natAbs < 2 ^ 4000):Builtin.Int.intBits k≤2 ^ 20:=by
 unfold Builtin.Int.intBits
 split
 ·exact Nat.zero_le _
 ·have:k.natAbs.log2 < 4000:=by
   rcases Nat.eq_zero_or_pos k.natAbs with h0 | hp
   ·rw [h0];decide
   ·exact (Nat.log2_lt (Nat.ne_of_gt hp)).mpr h
  have h2:(4001:Nat)≤2 ^ 20:=by decide
  omega
theorem op_mulB:OpR X (binaryOp .Mult) (rI CBig fun i j=>.int (i * j)):=opI fun _ _ _ _ _ _ _ hc q=>mul_int q (.of_bits (bits_big hc.1) (bits_big hc.2))
def CDivB (i j:Int):Prop:=0 < j∧j.natAbs < 2 ^ 4000
theorem J59:OpR X (binaryOp .FloorDiv) (rI CDivB fun i j=>.int (i / j)):=opI fun i j _ _ _ _ _ hc q=>by
 have h1:(0:Int) < j:=hc.1
 have h2:=hc.2
 refine floordiv_int (by omega) (by rw [Int.fdiv_eq_ediv_of_nonneg i (by omega)];exact q) (.inl (PyProof.noPylong_of_log2 ?_))
 have h0:j.natAbs≠0:=by omega
 have:=(Nat.log2_lt h0).mpr h2
 omega
theorem bools_at {bs:List Bool} {i:Nat} {v:Value} (h:((bs.map Value.bool).toArray)[i]?=some v):v=Value.bool (bs.getD i false):=by
 rw [List.getElem?_toArray,List.getElem?_map] at h
 cases e:bs[i]? with
 | none=>rw [e] at h;cases h
 | some b =>
  rw [e] at h
  rw [List.getD_eq_getElem?_getD,e]
  exact (Option.some.inj h).symm
theorem truth_bools {prog:Program} {w:World} {A:Around} (bs:List Bool):TruthOf prog w A (fun i v=>((bs.map Value.bool).toArray)[i]?=some v) (fun i=>bs.getD i false):=by
 intro i v s Q E hP h
 rw [bools_at hP]
 exact wpAny_truthy_bool h
theorem range_all (bs:List Bool):((List.range bs.length).all fun i=>bs.getD i false)=bs.all id:=by
 have e:(List.range bs.length).map (fun i=>bs.getD i false)=bs:=by
  apply List.ext_getElem
  ·simp
  ·intro n h1 h2
   simp [List.getElem?_eq_getElem h2]
 conv=>rhs;rw [← e]
 rw [List.all_map]
 rfl
theorem call_all (hc:X.calm=true):CallR X (.builtin "all") (fun xs H Q=>∃ (p:Addr) (bs:List Bool),xs=[.ref p]∧SqL X.K H p (bs.map V.bl)∧Q (.bl (bs.all id)) H):=by
 intro pins s σ H xs us Q I r h
 obtain ⟨p,bs,rfl,hq,q⟩:=h
 obtain ⟨u,rfl,rx⟩:=vals1 r
 cases rx
 obtain ⟨its,r',pl,hz⟩:=I.list hq
 obtain rfl:=boolsAre r'
 have hl:=pl.isList
 obtain ⟨o,ho,_⟩:=id hl
 have hne':p≠s.heap.objs.size:=Nat.ne_of_lt (Heap.lt_size ho)
 refine call_all_walk (wpAny_pyIter_list hl ⟨s.heap.objs.size,_,_,_,_,_,_,rfl,Walks.list (A:=X.A.in1) (I.ok.hd hc) _ p hne' _,⟨⟨_,Heap.get?_push_size _ rfl,rfl,rfl⟩,hl.at fun o e=>Heap.get?_push_of_some _ e⟩,truth_bools bs,fun h' tk hk=>?_⟩)
 rw [List.size_toArray,List.length_map,range_all]
 exact ⟨.bl _,H,I.kept (fun b o e=>hk b o (fun hb=>absurd (Heap.lt_size e) ((List.mem_singleton.mp hb) ▸ Nat.lt_irrefl _)) (Heap.get?_push_of_some _ e)),rfl,q⟩
def rIndexL (K:PySem.W.Frag):V→List V→Hp→VK→Prop:=fun x vs H Q=>∃ (l:Addr) (ns:List Int) (k:Int),x=.ref l∧vs=[.int k]∧SqL K H l (ns.map V.int)∧k∈ns∧Q (.int (ns.idxOf k:Nat)) H
theorem J23:MtM X "list.index" (rIndexL X.K):=by
 intro pins s σ H x vs v us Q I rx rv h
 obtain ⟨l,ns,k,rfl,rfl,hH,hk,q⟩:=h
 cases rx
 obtain ⟨u1,rfl,⟨t,rfl⟩⟩:=rv.one
 obtain ⟨its,r',pl,hz⟩:=I.list hH
 have hi:=J2r r'
 have hlen:=hi.length
 obtain ⟨⟨cls,dd,data,sl⟩,ho,hc,n,hd⟩:=id pl.isList
 simp only at hc hd
 subst hc hd
 have hj:ns.idxOf k < ns.length:=List.idxOf_lt_length_iff.mpr hk
 have h63:=line63
 rw [List.length_map] at hz
 refine call_meets PySem.F.slot_list_index ⟨_,ho,rfl⟩ PySem.F.entry_list_index (PySem.F.args_list_index_2 _ _)
  (SeqAt.list_indexAt l its.toArray n dd sl (.int k t) (isInt k) (ns.idxOf k) (by simpa [hlen] using hj) (by omega) ?_ ?_) ⟨ho,fun y hy=>(eq_isInt k t hi y (by simpa using hy)).at _ _,⟨.int _,H,I.tok _,⟨_,rfl⟩,q⟩⟩
 ·show isInt k its[ns.idxOf k]=true
  rw [isInt_at k hi _ (by omega) hj]
  simpa using List.getElem_idxOf hj
 ·intro j hjs hlt
  show isInt k its[j]=false
  rw [isInt_at k hi j (by simpa using hjs) (by omega)]
  exact ne_of_lt_idxOf hlt _
end
def HasM (P:Program) (w:World) (K:PySem.W.Frag) (mg:Str→Option Value) (base:Heap) (CX:CXT) (k:Nat) (m:Str) (ps:List Str) (sp:Sp) (C:Addr):Prop :=
 ∃ f fd,Cls K C∧Meth K C m f∧FnOk P w K mg base CX k f fd ps sp∧Binds K fd ps []
def tMethD {ι:Type} (m:Str) (cls:ι→Addr) (sp:ι→Sp) (E:XK) (ta:TE) (t:TA):TE:=fun σ H Q=>ta σ H fun x H1=>∃ a k dx fs,x=.ref a∧H1 a=some (.ins (cls k) dx fs)∧fs.lookup m=none∧
 t σ H1 fun vs H2=>sp k (x :: vs) H2 Q E
section
variable {X:Cx} {CX:CXT} {k:Nat} {f:Addr} {fd:FuncData} {ps:List Str} {ι:Type} {cls:ι→Addr} {sp:ι→Sp} {spB:Sp} {dvs:List V} {ds:List Value} {E:XK} {x m b:Str} {p pos apos:Pos} {e o:Expr} {es:List Expr} {ta:TE} {t:TA} {B:Addr} {mc:Value}
theorem J3f {pl:Sem Bool} (he:PE X o ta) (hM:∀ i,HasM X.prog X.w X.K X.mg X.base CX k m ps (sp i) (cls i)) (hr:Room k X.A) (hx:J4m CX X E) (ha:PA X (e :: es) t)
  (hst:starEach (e :: es) X.env=(false,eval e X.env) :: starEach es X.env:=by rfl) (hpl:(backTo pos (starEach es X.env)).any (·.1)=false:=by rfl)
  (ht:eval (.Call (.Attribute o m apos) (e :: es) [] pos) X.env=(do
   let ov ← eval o X.env
   standAt apos.atName
   let (f,first) ← holding [ov] (getMethod ov m pl)
   callWith pos f first (backTo pos (starEach (e :: es) X.env)) (backToKw pos (keywordEach [] X.env))):=by rfl) :
  PE X (.Call (.Attribute o m apos) (e :: es) [] pos) (tMethD m cls sp E ta t):=by
 intro pins s σ H Q I h
 refine PySem.W.methodCall_KW (pl:=pl) (thn (he pins s σ H _ I h) fun u s1 ⟨x,H1,I1,rx,a,i,dx,fs,ex,ea,l,q⟩=>?_) ht
 subst ex
 obtain rfl:u=Value.ref a:=rx
 obtain ⟨f,fd,c,hm,F,hb⟩:=hM i
 refine J50 I1 ea c hm l ?_
 refine PySem.W.callWith_K (first:=[.ref a]) (h₀:=X.base) I.ok.mod.kin hm.kp (thn (ha pos pins s1 σ H1 _ I1 q) fun us s2 ⟨vs,H2,I2,r,q2⟩=>⟨I2.kIn,?_⟩) hst hpl
 exact run_fn (us:=.ref a :: us) (vs:=.ref a :: vs) (dvs:=[]) F hr hb .nil hx I2 (.cons rfl r) (by rw [List.append_nil];exact q2)
theorem pe_methD0 {pl:Sem Bool} (he:PE X o ta) (hM:∀ i,HasM X.prog X.w X.K X.mg X.base CX k m ps (sp i) (cls i)) (hr:Room k X.A) (hx:J4m CX X E)
  (ht:eval (.Call (.Attribute o m apos) [] [] pos) X.env=(do
   let ov ← eval o X.env
   standAt apos.atName
   let (f,first) ← holding [ov] (getMethod ov m pl)
   callWith pos f first (backTo pos (starEach [] X.env)) (backToKw pos (keywordEach [] X.env))):=by rfl) :
  PE X (.Call (.Attribute o m apos) [] [] pos) (tMethD m cls sp E ta tNil):=by
 intro pins s σ H Q I h
 refine PySem.W.methodCall_KW (pl:=pl) (thn (he pins s σ H _ I h) fun u s1 ⟨x,H1,I1,rx,a,i,dx,fs,ex,ea,l,q⟩=>?_) ht
 subst ex
 obtain rfl:u=Value.ref a:=rx
 obtain ⟨f,fd,c,hm,F,hb⟩:=hM i
 refine J50 I1 ea c hm l ?_
 exact PySem.W.callWith_K0 (first:=[.ref a]) I1.kIn hm.kp (run_fn (us:=[.ref a]) (vs:=[.ref a]) (dvs:=[]) F hr hb .nil hx I1 (.cons rfl .nil) q)
structure BaseM (K:PySem.W.Frag) (B:Addr) (m:Str) (f:Addr):Prop where
 sp:PySem.W.specialIn K (.ref B) "__getattribute__"=some (some (.builtin "type.__getattribute__"))
 rd:PySem.W.readsIn K B (.type "type")=true
 fd:PySem.W.findCls K (.ref B) (.type "type") m=some (.val (.ref f))
 kp:PySem.W.keepIn K (.ref f)=true
theorem J44 {pl:Sem Bool} (M:BaseM X.K B m f) (hgB:Gl X b) (hmB:X.mg b=some (.ref B)) (F:FnOk X.prog X.w X.K X.mg X.base CX k f fd ps spB) (hr:Room k X.A) (hb:Binds X.K fd ps ds) (hd:Vals dvs ds) (hx:J4m CX X E) (ha:PA X (e :: es) t)
  (hdb:(b == ("__debug__":Str))=false:=by decide)
  (hst:starEach (e :: es) X.env=(false,eval e X.env) :: starEach es X.env:=by rfl) (hpl:(backTo pos (starEach es X.env)).any (·.1)=false:=by rfl)
  (ht:eval (.Call (.Attribute (.Name b p) m apos) (e :: es) [] pos) X.env=(do
   let ov ← eval (.Name b p) X.env
   standAt apos.atName
   let (f,first) ← holding [ov] (getMethod ov m pl)
   callWith pos f first (backTo pos (starEach (e :: es) X.env)) (backToKw pos (keywordEach [] X.env))):=by rfl) :
  PE X (.Call (.Attribute (.Name b p) m apos) (e :: es) [] pos) (tCall spB dvs E t):=by
 intro pins s σ H Q I h
 refine PySem.W.methodCall_KW (pl:=pl) (J3i I hgB hmB ?_ hdb) ht
 refine PySem.W.method_cls I.kIn M.sp (PySem.W.cls_value I.kIn M.rd M.fd rfl ?_)
 have I1:=I.tok (s.toks + 1)
 refine PySem.W.callWith_K (first:=[]) (h₀:=X.base) I.ok.mod.kin M.kp (thn (ha pos pins _ σ H _ I1 h) fun us s2 ⟨vs,H2,I2,r,q2⟩=>⟨I2.kIn,?_⟩) hst hpl
 exact run_fn (us:=us) (vs:=vs) F hr hb hd hx I2 r q2
end
def Its (lo c:Int) (n:Nat):It:=⟨fun i _=>i < n,fun i H x H'=>H'=H∧x=.int (lo + (i:Nat) * c),fun i _=>n≤i⟩
theorem turn_steps {P:Program} {w:World} {K:PySem.W.Frag} {tg:Expr} (nu:Addr) (lo c:Int) (n:Nat):Turn P w K tg (Its lo c n) [nu] nu (fun i h=>IsRangeIter h nu (lo + (i:Nat) * c) ((n:Int) - (i:Nat)) c) where
 mem:=by simp
 obj:=fun i h st b hb=>by
  obtain rfl:b=nu:=by simpa using hb
  exact ⟨_,st,fun v z=>by
   have q:Data.fields _=Data.cell v:=z
   cases q⟩
 keep:=fun i h h' st k=>k nu (by simp) _ st
 item:=by
  intro X hP hw hK hc i pins s σ H E I hf st hg
  subst hP hw hK
  obtain ⟨f0,f1,f2,f3,f4,f5⟩:=hf nu (by simp)
  refine (Walks.range (prog:=X.prog) (w:=X.w) (I.ok.hd hc) nu lo c n).item i s _ _ hg st fun v h' tk hv st' kk=>?_
  obtain ⟨t,rfl⟩:=hv
  have J:Inv X pins σ H { s with heap:=h',toks:=tk }:=I.turned (fun b o hb e=>kk b o (by simpa using hb) e) f0 f1 f3 f4 f5
  exact ⟨_,rfl,go_of (s:={ s with heap:=h',toks:=tk }) (n:="range_iterator") st' rfl rfl (by decide) ⟨.int (lo + (i:Nat) * c),H,J,⟨t,rfl⟩,⟨rfl,rfl⟩,st',fun b hb=>(hf b hb).1⟩⟩
 done:=by
  intro X hP hw hK hc i pins s σ H E I hf st hg
  subst hP hw hK
  obtain ⟨f0,f1,f2,f3,f4,f5⟩:=hf nu (by simp)
  have hg:n≤i:=hg
  exact wpAny_pyNext_range_end (I.ok.hd hc) st (by omega) fun h' eb=>⟨rfl,I.turned (t':=s.toks) (fun b o hb e=>eb b o hb e) f0 f1 f3 f4 f5⟩
 self:=fun _ _ _ _ _ st h=>wpAny_pyIter_rangeiter st h
theorem J2j {c:Int} (hc:0 < c) (a b:Int):Builtin.Range.rangeSize a b c=if a < b then (b - a - 1) / c + 1 else 0:=by
 unfold Builtin.Range.rangeSize
 rw [if_pos (show c > 0 from hc)]
theorem steps_small {a b c:Int} (ha:0≤a) (ha':a≤1000) (hb:-1≤b) (hb':b≤1000) (hc:0 < c) (hc':c≤1000):Builtin.Range.small a b c=true:=by
 unfold Builtin.Range.small
 rw [J2j hc]
 have h1:0≤(if a < b then (b - a - 1) / c + 1 else 0)∧(if a < b then (b - a - 1) / c + 1 else 0)≤1001:=by
  split
  ·have h0:0≤(b - a - 1) / c:=Int.ediv_nonneg (by omega) (by omega)
   have h2:(b - a - 1) / c≤b - a - 1:=Int.ediv_le_self _ (by omega)
   omega
  ·omega
 generalize (if a < b then (b - a - 1) / c + 1 else 0)=n at *
 have h3:n * c≤1001 * 1000:=Int.mul_le_mul h1.2 hc' (by omega) (by decide)
 have h4:0≤n * c:=Int.mul_nonneg h1.1 (by omega)
 simp only [Builtin.Range.rangeFitsLong,Bool.and_eq_true,Bool.or_eq_true,decide_eq_true_eq,beq_iff_eq,show c > 0 from hc,if_true]
 refine ⟨?_,?_⟩ <;> omega
def iSteps (ta:TA):TI:=fun σ H R=>ta σ H fun vs H1=>∃ a b c:Int,vs=[.int a,.int b,.int c]∧(0≤a∧a≤1000∧-1≤b∧b≤1000∧0 < c∧c≤1000)∧R (Its a c (Builtin.Range.rangeSize a b c).toNat) H1
section
variable {X:Cx} {tg:Expr}
theorem pi_steps {a b c:Expr} {ta:TA} {p pos:Pos} (hg:Gl X "range") (hm:X.mg "range"=none) (ha:PA X [a,b,c] ta) (hs:starEach [a,b,c] X.env=[(false,eval a X.env),(false,eval b X.env),(false,eval c X.env)]:=by rfl) (hs2:starEach [b,c] X.env=[(false,eval b X.env),(false,eval c X.env)]:=by rfl) :
  PI X tg (.Call (.Name "range" p) [a,b,c] [] pos) (iSteps ta):=by
 intro pins s σ H R I h
 refine Call_ (ld_blt I hg hm boot_range (PyProof.Rows.callWith_type1 (thn (ha pos pins s σ H _ I h) fun us s1 ⟨vs,H1,I1,r1,q1⟩=>?_) (by rw [hs,hs2]) (by rw [hs2];rfl)))
 obtain ⟨i,j,c,e,⟨q1,q2,q3,q4,q5,q6⟩,q⟩:=q1
 subst e
 cases r1 with
 | cons r rr =>
  cases rr with
  | cons r' rr =>
   cases rr with
   | cons r'' rr =>
    cases rr
    obtain ⟨t,rfl⟩:=r
    obtain ⟨t',rfl⟩:=r'
    obtain ⟨t'',rfl⟩:=r''
    refine call_range_3 (by omega) ?_ (Or.inl (PyProof.noPylong_small (by omega)))
    have I2:Inv X pins σ H1 { s1 with heap:=s1.heap.push { cls:=.type "range",data:=.fields #[.int i t,.int j t',.int c t''] },toks:=s1.toks }:=I1.kept fun b o e=>Heap.get?_push_of_some _ e
    refine wpAny_pyIter_range (IsRange.new ..) (steps_small q1 q2 q3 q4 q5 q6) ?_
    refine ⟨(s1.heap.push { cls:=.type "range",data:=.fields #[.int i t,.int j t',.int c t''] }).objs.size,[(s1.heap.push { cls:=.type "range",data:=.fields #[.int i t,.int j t',.int c t''] }).objs.size],_,_,H1,rfl,
     I2.kept (t':=s1.toks) fun b o e=>Heap.get?_push_of_some _ e,turn_steps _ i c (Builtin.Range.rangeSize i j c).toNat,?_,fun b hb=>?_,q⟩
    ·have e1:i + ((0:Nat):Int) * c=i:=by simp
     have e2:(((Builtin.Range.rangeSize i j c).toNat:Nat):Int) - ((0:Nat):Int)=Builtin.Range.rangeSize i j c:=by
      have:0≤Builtin.Range.rangeSize i j c:=by
       rw [J2j q5]
       split
       ·have:=Int.ediv_nonneg (show 0≤j - i - 1 by omega) (show 0≤c by omega)
        omega
       ·omega
      omega
     show IsRangeIter _ _ (i + ((0:Nat):Int) * c) ((((Builtin.Range.rangeSize i j c).toNat:Nat):Int) - ((0:Nat):Int)) c
     rw [e1,e2]
     exact Heap.get?_push_size _ rfl
    ·obtain rfl:b=(s1.heap.push { cls:=.type "range",data:=.fields #[.int i t,.int j t',.int c t''] }).objs.size:=by simpa using hb
     exact I2.fpOk (Nat.le_refl _) (I2.hok.fresh (Nat.le_refl _))
end
theorem lc_stp {H1:Hp} {tc:TT} {te:TE} {σ:St} {js:List Nat} {Q:VK} {d:Addr} (lo c:Int) (n:Nat) (F:Nat→V) (hn:n≤1000) (hd:H1 d=none)
  (hs:∀ i,i < n→∀ H Qt,Same H1 H→(∀ H',Same H H'→Qt true H')→tc (some (.int (lo + (i:Nat) * c)) :: capv σ js) H Qt)
  (he:∀ i,i < n→∀ H Qe,Same H1 H→(∀ H',Same H H'→Qe (F i) H')→te (some (.int (lo + (i:Nat) * c)) :: capv σ js) H Qe)
  (hq:∀ H',Same H1 H'→H' d=some (.lst ((List.range n).map F))→Q (.ref d) H'):LCW (Its lo c n) tc te σ js Q H1 d :=
 lc_over n (fun _=>true) F hd hn (fun i H hi _=>hi) (fun H _=>Nat.le_refl _) (fun i=>.int (lo + (i:Nat) * c)) (fun i H v H' hi _ y=>y) (fun i H Qt hi s k=>hs i hi H Qt s k) (fun i H Qe hi _ s k=>he i hi H Qe s k)
  (fun H' s h=>hq H' s (by rw [J1r] at h;exact h))
theorem steps_lt {a b c:Int} (hc:0 < c) {i:Nat} (h:i < (Builtin.Range.rangeSize a b c).toNat):a + (i:Int) * c < b:=by
 rw [J2j hc] at h
 split at h
 ·have h1:(i:Int)≤(b - a - 1) / c:=by omega
  have h2:=Int.mul_le_of_le_ediv hc h1
  omega
 ·simp at h
theorem steps_few {a b c:Int} (hc:0 < c):(Builtin.Range.rangeSize a b c).toNat≤(b - a).toNat:=by
 rw [J2j hc]
 split
 ·have h0:0≤(b - a - 1) / c:=Int.ediv_nonneg (by omega) (by omega)
  have h2:(b - a - 1) / c≤b - a - 1:=Int.ediv_le_self _ (by omega)
  omega
 ·simp
end L2
namespace L2
open PySem PySem.Spec PyProof.Rows
theorem J3j {M:Model} {A:Around} {E:Value→Shared→Prop} {s:Shared} {β:Type} (k:Nat) (f:Nat→β→Sem (ForInStep β)) (I:Nat→β→Shared→Prop) (Q:β→Shared→Prop)
  (turn:∀ i b s,i < k→I i b s→wpAny M A (f i b) (fun r s'=>match r with | .yield b'=>I (i + 1) b' s' | .done b'=>Q b' s') E s)
  (fin:∀ b s,I k b s→Q b s) (b:β) (h:I 0 b s):wpAny M A (forIn ([0:k]:Std.Legacy.Range) b f) Q E s:=by
 rw [Std.Legacy.Range.forIn_eq_forIn_range']
 simp only [Std.Legacy.Range.size,Nat.sub_zero,Nat.add_sub_cancel,Nat.div_one]
 refine wpAny_forIn_list _ (fun rest b s'=>∃ i,rest=List.range' i (k - i)∧i≤k∧I i b s') _ ?_ ?_ _ _ ⟨0,by simp,Nat.zero_le _,h⟩
 ·rintro x rest b s' ⟨i,hr,hi,hI⟩
  have hlt:i < k:=by
   rcases Nat.lt_or_ge i k with q | q
   ·exact q
   ·rw [Nat.sub_eq_zero_of_le q] at hr;simp at hr
  obtain ⟨rfl,hrest⟩:x=i∧rest=List.range' (i + 1) (k - (i + 1)):=by
   have e:k - i=(k - (i + 1)) + 1:=by omega
   rw [e,List.range'_succ] at hr
   injection hr with h1 h2
   exact ⟨h1,h2⟩
  refine wpAny_mono (turn x b s' hlt hI) (fun r s2 hr2=>?_) fun _ _ z=>z
  cases r with
  | done b'=>exact hr2
  | yield b'=>exact ⟨x + 1,hrest,hlt,hr2⟩
 ·rintro b s' ⟨i,hr,hi,hI⟩
  have:i=k:=by
   have:=congrArg List.length hr
   simp at this
   omega
  subst this
  exact fin b s' hI
theorem J4o (l:Addr) (items:Array Value) (n:Nat) (dd:Option Addr) (sl:Array (Option Value)) (x:Value) (e:Value→Bool) (j:Nat) (hj:j < items.size)
  (hit:e items[j]=true) (hno:∀ m (hm:m < items.size),m < j→e items[m]=false) :
  Meets (Builtin.«tuple.index» ⟨[.ref l,x],[]⟩)
   (fun A R s=>s.heap.get? l=some { cls:=.type "tuple",dict:=dd,data:=.seq items n,slots:=sl }∧(∀ y,y∈items→SeqAt.EqAt A.in1 s y x (e y))∧R (.ok (.ret (.int j s.toks))) { s with toks:=s.toks + 1 }) :=
 .of_wp fun prog w A R s h=>by
  obtain ⟨hp,g,d,tk,os⟩:=s;obtain ⟨hl,he,h⟩:=h
  wp_walk using AutoSeq1.wpAny_loadPart' hl,J3j _ _ (fun i b s'=>b=(none,())∧s'=⟨hp,g,d,tk,os⟩∧i≤j) _
  case turn =>
   rintro i b s' hi ⟨rfl,rfl,hij⟩
   have hi':i < items.size:=by simpa using hi
   dsimp only
   rw [Array.getElem?_eq_getElem hi']
   refine wpAny_bind (he _ (Array.getElem_mem hi') prog w _ _ ?_)
   rcases Nat.lt_or_ge i j with q | q
   ·rw [hno i hi' q]
    wp_walk
    exact ⟨rfl,rfl,q⟩
   ·have:i=j:=by omega
    subst this
    rw [hit]
    wp_walk
    exact ⟨_,rfl,h⟩
  case fin =>
   rintro b s' ⟨rfl,rfl,hij⟩
   exfalso
   simp at hij
   omega
  case h=>exact ⟨rfl,rfl,Nat.zero_le _⟩
def rIndexT:V→List V→Hp→VK→Prop:=fun x vs H Q=>∃ (l:Addr) (ns:List Int) (k:Int),x=.ref l∧vs=[.int k]∧H l=some (.tup (ns.map V.int))∧k∈ns∧Q (.int (ns.idxOf k:Nat)) H
theorem mt_indexT {X:Cx}:MtM X "tuple.index" rIndexT:=by
 intro pins s σ H x vs v us Q I rx rv h
 obtain ⟨l,ns,k,rfl,rfl,hH,hk,q⟩:=h
 cases rx
 obtain ⟨u1,rfl,⟨t,rfl⟩⟩:=rv.one
 obtain ⟨its,r',pl,hz⟩:=I.tuple (SqT.of hH)
 have hi:=J2r r'
 have hlen:=hi.length
 obtain ⟨⟨cls,dd,data,sl⟩,ho,hc,n,hd⟩:=id pl
 simp only at hc hd
 subst hc hd
 have hj:ns.idxOf k < ns.length:=List.idxOf_lt_length_iff.mpr hk
 refine call_meets PySem.F.slot_tuple_index ⟨_,ho,rfl⟩ PySem.F.entry_tuple_index (PySem.F.args_tuple_index_2 _ _)
  (J4o l its.toArray n dd sl (.int k t) (isInt k) (ns.idxOf k) (by simpa [hlen] using hj) ?_ ?_) ⟨ho,fun y hy=>(eq_isInt k t hi y (by simpa using hy)).at _ _,⟨.int _,H,I.tok _,⟨_,rfl⟩,q⟩⟩
 ·show isInt k its[ns.idxOf k]=true
  rw [isInt_at k hi _ (by omega) hj]
  simpa using List.getElem_idxOf hj
 ·intro j hjs hlt
  show isInt k its[j]=false
  rw [isInt_at k hi j (by simpa using hjs) (by omega)]
  exact ne_of_lt_idxOf hlt _
def tBMT (r:V→List V→Hp→VK→Prop) (to:TE) (t:TA):TE:=fun σ H Q=>to σ H fun x H1=>(∃ p xs,x=.ref p∧H1 p=some (.tup xs))∧t σ H1 fun xs H2=>r x xs H2 Q
theorem pe_bmT {X:Cx} {o e:Expr} {es:List Expr} {to:TE} {t:TA} {name:Str} {apos cpos:Pos} {id:String} {r:V→List V→Hp→VK→Prop} (slot:Slot "tuple" name id) (hty:typeOf (.builtin id)=pure (.type "method_descriptor")) (hm:MtR X id r) (ho:PE X o to) (ha:PA X (e :: es) t)
  (hbase:attributeBase o name X.env (eval o X.env)=eval o X.env:=by rfl)
  (hfew:((backTo cpos (starEach (e :: es) X.env)).all (fun x=>!x.1) && (backToKw cpos (keywordEach [] X.env)).all (fun x=>x.1.isSome)
   && decide ((e :: es).length + ([]:List Keyword).length + (if ([]:List Keyword).isEmpty then 0 else 1) < 30))=true:=by rfl)
  (hline:(apos.endLine == cpos.line)=true:=by rfl) (hs:starEach (e :: es) X.env=(false,eval e X.env) :: starEach es X.env:=by rfl) (hplain:(backTo cpos (starEach es X.env)).any (·.1)=false:=by rfl) :
  PE X (.Call (.Attribute o name apos) (e :: es) [] cpos) (tBMT r to t):=by
 intro pins s σ H Q I h
 refine wpAny_Call_method_late hbase hfew hline rfl (thn (ho pins s σ H _ I h) fun v s1 ⟨x,H1,I1,r1,ty,q1⟩=>?_)
 obtain ⟨p,xs,rfl,hp⟩:=ty
 obtain rfl:v=Value.ref p:=r1
 obtain ⟨_,its,_,o,e1,⟨c1,c2⟩,_⟩:=(show ObjOk X.prog X.w H1 s1.heap p (.tup xs) from I1.hok p _ hp)
 refine ⟨"tuple",id,PySem.F.plainAttrs_tuple,slot,hty,⟨o,e1,c1⟩,fun a e2=>by cases e2;exact ⟨o,e1,c2⟩,?_⟩
 have hA:=ha cpos pins s1 σ H1 _ I1 q1
 rw [hs] at hA ⊢
 refine Calls.callWith_builtin (by show (false || (backTo cpos (starEach es X.env)).any (·.1))=false;rw [hplain] <;> rfl) (Calls.evalArgs_plain ?_)
 exact thn hA fun us s2 ⟨vs,H2,I2,r2,q2⟩=>hm pins s2 σ H2 (.ref p) vs (.ref p) us Q I2 rfl r2 q2
section
variable {X:Cx}
theorem ix_listK (K:PySem.W.Frag) (h:X.K=K:=by rfl):IxR X (rIxL K):=by subst h;exact Jr
theorem ix_tupK (K:PySem.W.Frag) (h:X.K=K:=by rfl):IxR X (rIxT K):=by subst h;exact Jh
theorem pe_flK {e:Expr} {f:Str} {pos:Pos} {ta:TE} (K:PySem.W.Frag) (he:PE X e ta) (h:X.K=K:=by rfl) (hb:attributeBase e f X.env (eval e X.env)=eval e X.env:=by rfl):PE X (.Attribute e f pos) (tFld K ta f):=by subst h;exact Je he hb
theorem J5g (K:PySem.W.Frag) (h:X.K=K:=by rfl):CallR X (.builtin "isinstance") (fun xs H Q=>∃ (x c:V) (t cv:Value) (b:Bool),xs=[x,c]∧RelV c cv∧(∀ v,RelV c v→v=cv)∧TyOf K H x t∧PySem.W.kitOne K t cv=some b∧Q (.bl b) H):=by subst h;exact J19 rfl
end
end L2
namespace Rl
def cellN (ns:List Int) (k:Nat):Int:=ns.getD k 0
def insAt (xs:List Nat) (i y:Nat):List Nat:=xs.take i ++ y :: xs.drop i
theorem insAt_perm (xs:List Nat) (i y:Nat):(insAt xs i y).Perm (y :: xs):=by
 unfold insAt
 have h:(xs.take i ++ y :: xs.drop i).Perm (y :: (xs.take i ++ xs.drop i)):=List.perm_middle
 rwa [List.take_append_drop] at h
def sumsF (ls:List Int) (os:List Nat):Nat→List Int × Int
 | 0=>(List.replicate ls.length 0,0)
 | i + 1=>((sumsF ls os i).1.set (os.getD i 0) (sumsF ls os i).2,(sumsF ls os i).2 + ls.getD (os.getD i 0) 0)
theorem J2i (ls:List Int) (os:List Nat):∀ i,(sumsF ls os i).1.length=ls.length
 | 0=>by simp [sumsF]
 | i + 1=>by
  show ((sumsF ls os i).1.set _ _).length=_
  rw [List.length_set]
  exact J2i ls os i
def firsts (ls:List Int) (os:List Nat):List Int:=(sumsF ls os os.length).1
theorem J51 (ls:List Int) (os:List Nat):(firsts ls os).length=ls.length:=J2i ls os _
def natI (os:List Nat):List Int:=os.map fun (n:Nat)=>(n:Int)
end Rl
namespace Rl
def Jz (ls:List Int) (os:List Nat) (i:Nat):Int:=(sumsF ls os i).2
theorem J1g (ls:List Int) (os:List Nat):Jz ls os 0=0:=rfl
theorem Jy (ls:List Int) (os:List Nat) (i:Nat):Jz ls os (i + 1)=Jz ls os i + ls.getD (os.getD i 0) 0:=rfl
structure Ord (ls:List Int) (os:List Nat):Prop where
 pos:∀ a∈ls,1≤a
 perm:os.Perm (List.range ls.length)
theorem Ord.range {ls:List Int} {os:List Nat} (h:Ord ls os):Ord ls (List.range ls.length):=⟨h.pos,List.Perm.refl _⟩
theorem Ord.len {ls:List Int} {os:List Nat} (h:Ord ls os):os.length=ls.length:=by rw [h.perm.length_eq,List.length_range]
theorem Ord.nodup {ls:List Int} {os:List Nat} (h:Ord ls os):os.Nodup:=h.perm.nodup_iff.mpr List.nodup_range
theorem J1k {os:List Nat} {i:Nat} (h:i < os.length):os.getD i 0∈os:=by
 rw [List.getD_eq_getElem?_getD,List.getElem?_eq_getElem h];exact List.getElem_mem h
theorem getD_memI {ls:List Int} {i:Nat} (h:i < ls.length):ls.getD i 0∈ls:=by
 rw [List.getD_eq_getElem?_getD,List.getElem?_eq_getElem h];exact List.getElem_mem h
theorem Ord.lt {ls:List Int} {os:List Nat} (h:Ord ls os) {i:Nat} (hi:i < ls.length):os.getD i 0 < ls.length :=
 List.mem_range.mp (h.perm.mem_iff.mp (J1k (by rw [h.len];exact hi)))
theorem Ord.one {ls:List Int} {os:List Nat} (h:Ord ls os) {j:Nat} (hj:j < ls.length):1≤ls.getD j 0:=h.pos _ (getD_memI hj)
theorem Ord.inj {ls:List Int} {os:List Nat} (h:Ord ls os) {i j:Nat} (hi:i < ls.length) (hj:j < ls.length) (e:os.getD i 0=os.getD j 0):i=j:=by
 rw [List.getD_eq_getElem?_getD,List.getD_eq_getElem?_getD,List.getElem?_eq_getElem (by rw [h.len];exact hi),List.getElem?_eq_getElem (by rw [h.len];exact hj)] at e
 exact (List.getElem_inj h.nodup).mp e
theorem Ord.onto {ls:List Int} {os:List Nat} (h:Ord ls os) {j:Nat} (hj:j < ls.length):∃ i,i < ls.length∧os.getD i 0=j:=by
 obtain ⟨i,hi,e⟩:=List.getElem_of_mem (h.perm.mem_iff.mpr (List.mem_range.mpr hj))
 refine ⟨i,by rw [← h.len];exact hi,?_⟩
 rw [List.getD_eq_getElem?_getD,List.getElem?_eq_getElem hi];exact e
theorem Ord.step {ls:List Int} {os:List Nat} (h:Ord ls os) {i:Nat} (hi:i < ls.length):Jz ls os i < Jz ls os (i + 1):=by
 have:=h.one (h.lt hi)
 rw [Jy];lia
theorem Ord.mono {ls:List Int} {os:List Nat} (h:Ord ls os) {i:Nat}:∀ {k:Nat},i≤k→k≤ls.length→Jz ls os i≤Jz ls os k
 | 0,h1,_=>by rw [Nat.le_zero.mp h1];exact Int.le_refl _
 | k + 1,h1,h2=>by
  by_cases e:i=k + 1
  ·rw [e];exact Int.le_refl _
  ·have a:=h.mono (i:=i) (k:=k) (by lia) (by lia)
   have b:=h.step (i:=k) (by lia)
   lia
theorem set_get (f:List Int) (p q:Nat) (v:Int) (hp:p < f.length):(f.set p v).getD q 0=if q=p then v else f.getD q 0:=by
 rw [List.getD_eq_getElem?_getD,List.getD_eq_getElem?_getD]
 by_cases e:q=p
 ·subst e;rw [List.getElem?_set_self hp,if_pos rfl];rfl
 ·rw [List.getElem?_set_ne (Ne.symm e),if_neg e]
theorem Ord.at {ls:List Int} {os:List Nat} (h:Ord ls os) {i:Nat}:∀ {k:Nat},i < k→k≤ls.length→(sumsF ls os k).1.getD (os.getD i 0) 0=Jz ls os i
 | 0,h1,_=>absurd h1 (Nat.not_lt_zero _)
 | k + 1,h1,h2=>by
  show ((sumsF ls os k).1.set (os.getD k 0) (sumsF ls os k).2).getD (os.getD i 0) 0=_
  rw [set_get _ _ _ _ (by rw [J2i];exact h.lt (by lia))]
  by_cases e:i=k
  ·subst e;rw [if_pos rfl];rfl
  ·rw [if_neg (fun q=>e (h.inj (by lia) (by lia) q))]
   exact h.at (by lia) (by lia)
theorem Ord.first {ls:List Int} {os:List Nat} (h:Ord ls os) {i:Nat} (hi:i < ls.length):(firsts ls os).getD (os.getD i 0) 0=Jz ls os i:=by
 unfold firsts
 rw [h.len]
 exact h.at hi (Nat.le_refl _)
theorem J2q (ls:List Int):(List.range ls.length).map (fun j=>ls.getD j 0)=ls:=by
 apply List.ext_getElem?
 intro k
 rw [List.getElem?_map]
 by_cases hk:k < ls.length
 ·rw [List.getElem?_range hk,List.getElem?_eq_getElem hk]
  show some (ls.getD k 0)=_
  rw [List.getD_eq_getElem?_getD,List.getElem?_eq_getElem hk];rfl
 ·rw [List.getElem?_eq_none (by simpa using hk),List.getElem?_eq_none (by lia)];rfl
theorem J2z (ls:List Int) (os:List Nat):∀ i,i≤os.length→Jz ls os i=((os.take i).map fun j=>ls.getD j 0).sum
 | 0,_=>by simp [J1g]
 | i + 1,h=>by
  rw [Jy,J2z ls os i (by lia),List.take_succ,List.getElem?_eq_getElem (by lia)]
  simp only [Option.toList_some,List.map_append,List.map_cons,List.map_nil,List.sum_append,List.sum_cons,List.sum_nil]
  rw [List.getD_eq_getElem?_getD (l:=os),List.getElem?_eq_getElem (by lia)]
  simp
theorem perm_sum {xs ys:List Int} (h:xs.Perm ys):xs.sum=ys.sum:=by
 induction h with
 | nil=>rfl
 | cons x _ ih=>rw [List.sum_cons,List.sum_cons,ih]
 | swap x y l=>rw [List.sum_cons,List.sum_cons,List.sum_cons,List.sum_cons];lia
 | trans _ _ a b=>exact a.trans b
theorem Ord.whole {ls:List Int} {os:List Nat} (h:Ord ls os):Jz ls os ls.length=ls.sum:=by
 rw [J2z ls os _ (by rw [h.len];exact Nat.le_refl _),List.take_of_length_le (by rw [h.len];exact Nat.le_refl _)]
 have p:(os.map fun j=>ls.getD j 0).Perm ((List.range ls.length).map fun j=>ls.getD j 0):=h.perm.map _
 rw [perm_sum p,J2q]
def Lies (fs ls:List Int) (x:Int) (j:Nat):Prop:=j < ls.length∧fs.getD j 0≤x∧x < fs.getD j 0 + ls.getD j 0
theorem J2f {S:Nat→Int} {x:Int}:∀ (k:Nat),S 0≤x→x < S k→∃ i,i < k∧S i≤x∧x < S (i + 1)
 | 0,h0,h1=>by lia
 | k + 1,h0,h1=>by
  by_cases e:x < S k
  ·obtain ⟨i,hi,q⟩:=J2f k h0 e
   exact ⟨i,by lia,q⟩
  ·exact ⟨k,by lia,by lia,h1⟩
theorem Ord.lies {ls:List Int} {os:List Nat} (h:Ord ls os) {i:Nat} {x:Int} (hi:i < ls.length) (h1:Jz ls os i≤x) (h2:x < Jz ls os (i + 1)):Lies (firsts ls os) ls x (os.getD i 0):=by
 refine ⟨h.lt hi,?_,?_⟩
 ·rw [h.first hi];exact h1
 ·rw [h.first hi];rw [Jy] at h2;exact h2
theorem Ord.lies_of {ls:List Int} {os:List Nat} (h:Ord ls os) {j:Nat} {x:Int} (q:Lies (firsts ls os) ls x j):∃ i,i < ls.length∧os.getD i 0=j∧Jz ls os i≤x∧x < Jz ls os (i + 1):=by
 obtain ⟨hj,q1,q2⟩:=q
 obtain ⟨i,hi,e⟩:=h.onto hj
 subst e
 rw [h.first hi] at q1 q2
 exact ⟨i,hi,rfl,q1,by rw [Jy];exact q2⟩
theorem Ord.exists {ls:List Int} {os:List Nat} (h:Ord ls os) {x:Int} (h0:0≤x) (h1:x < ls.sum):∃ j,Lies (firsts ls os) ls x j:=by
 obtain ⟨i,hi,a,b⟩:=J2f (S:=Jz ls os) ls.length (by rw [J1g];exact h0) (by rw [h.whole];exact h1)
 exact ⟨_,h.lies hi a b⟩
theorem Ord.unique {ls:List Int} {os:List Nat} (h:Ord ls os) {x:Int} {j k:Nat} (a:Lies (firsts ls os) ls x j) (b:Lies (firsts ls os) ls x k):j=k:=by
 obtain ⟨i,hi,rfl,a1,a2⟩:=h.lies_of a
 obtain ⟨i',hi',rfl,b1,b2⟩:=h.lies_of b
 have:i=i':=by
  by_cases e:i < i'
  ·have:=h.mono (i:=i + 1) (k:=i') e (by lia);lia
  ·by_cases e':i' < i
   ·have:=h.mono (i:=i' + 1) (k:=i) e' (by lia);lia
   ·lia
 rw [this]
def moveN (ls:List Int) (ts:List Bool) (j:Nat) (off:Int) (fs:List Int):Int:=if ts.getD j false=true then fs.getD j 0 + ls.getD j 0 - 1 - off else fs.getD j 0 + off
end Rl
namespace Rl
def lenOf (ls:List Int) (row:List Nat):Int:=(row.map fun j=>ls.getD j 0).sum
theorem J2y (ls:List Int) (os:List Nat):Jz ls os os.length=lenOf ls os:=by
 rw [J2z ls os _ (Nat.le_refl _),List.take_length];rfl
theorem J38 (ls:List Int):lenOf ls []=0:=rfl
theorem Jw (ls:List Int) (j:Nat) (os:List Nat):lenOf ls (j :: os)=ls.getD j 0 + lenOf ls os:=by
 unfold lenOf;rw [List.map_cons,List.sum_cons]
theorem J1j (ls:List Int) (xs ys:List Nat):lenOf ls (xs ++ ys)=lenOf ls xs + lenOf ls ys:=by
 unfold lenOf;rw [List.map_append,List.sum_append]
theorem J1q {ls:List Int} {xs ys:List Nat} (h:xs.Perm ys):lenOf ls xs=lenOf ls ys:=perm_sum (h.map _)
theorem Jt {ls:List Int} {os:List Nat} (h:∀ j∈os,0≤ls.getD j 0):0≤lenOf ls os:=by
 induction os with
 | nil=>exact Int.le_refl _
 | cons a r ih =>
  rw [Jw]
  have:=h a List.mem_cons_self
  have:=ih fun j hj=>h j (List.mem_cons_of_mem _ hj)
  lia
theorem J4i {ls:List Int} {os:List Nat} (h:∀ j∈os,1≤ls.getD j 0) (hn:os≠[]):1≤lenOf ls os:=by
 cases os with
 | nil=>exact absurd rfl hn
 | cons a r =>
  rw [Jw]
  have:=h a List.mem_cons_self
  have:=Jt (ls:=ls) (os:=r) fun j hj=>by have:=h j (List.mem_cons_of_mem _ hj);lia
  lia
theorem lenOf_mem {ls:List Int} {os:List Nat} (h:∀ j∈os,0≤ls.getD j 0) {j:Nat} (hj:j∈os):ls.getD j 0≤lenOf ls os:=by
 induction os with
 | nil=>cases hj
 | cons a r ih =>
  rw [Jw]
  have h1:=h a List.mem_cons_self
  have h2:=Jt (ls:=ls) (os:=r) fun j hj=>h j (List.mem_cons_of_mem _ hj)
  rcases List.mem_cons.mp hj with rfl | hj
  ·lia
  ·have:=ih (fun j hj=>h j (List.mem_cons_of_mem _ hj)) hj
   lia
structure Row (ls:List Int) (os:List Nat):Prop where
 nd:os.Nodup
 lt:∀ j∈os,j < ls.length
 pos:∀ j∈os,1≤ls.getD j 0
theorem Row.inj {ls:List Int} {os:List Nat} (h:Row ls os) {i j:Nat} (hi:i < os.length) (hj:j < os.length) (e:os.getD i 0=os.getD j 0):i=j:=by
 rw [List.getD_eq_getElem?_getD,List.getD_eq_getElem?_getD,List.getElem?_eq_getElem hi,List.getElem?_eq_getElem hj] at e
 exact (List.getElem_inj h.nd).mp e
theorem Row.at {ls:List Int} {os:List Nat} (h:Row ls os) {i:Nat}:∀ {k:Nat},i < k→k≤os.length→(sumsF ls os k).1.getD (os.getD i 0) 0=Jz ls os i
 | 0,h1,_=>absurd h1 (Nat.not_lt_zero _)
 | k + 1,h1,h2=>by
  show ((sumsF ls os k).1.set (os.getD k 0) (sumsF ls os k).2).getD (os.getD i 0) 0=_
  rw [set_get _ _ _ _ (by rw [J2i];exact h.lt _ (J1k (by lia)))]
  by_cases e:i=k
  ·subst e;rw [if_pos rfl];rfl
  ·rw [if_neg (fun q=>e (h.inj (by lia) (by lia) q))]
   exact h.at (by lia) (by lia)
theorem Row.first {ls:List Int} {os:List Nat} (h:Row ls os) {i:Nat} (hi:i < os.length):(firsts ls os).getD (os.getD i 0) 0=Jz ls os i:=h.at hi (Nat.le_refl _)
theorem Row.step {ls:List Int} {os:List Nat} (h:Row ls os) {i:Nat} (hi:i < os.length):Jz ls os i < Jz ls os (i + 1):=by
 rw [Jy]
 have:=h.pos _ (J1k hi)
 lia
theorem Row.mono {ls:List Int} {os:List Nat} (h:Row ls os) {i:Nat}:∀ {k:Nat},i≤k→k≤os.length→Jz ls os i≤Jz ls os k
 | 0,h1,_=>by
  have e:i=0:=Nat.le_zero.mp h1
  rw [e]
  exact Int.le_refl _
 | k + 1,h1,h2=>by
  by_cases e:i=k + 1
  ·subst e;exact Int.le_refl _
  ·have a:=Row.mono h (i:=i) (k:=k) (by lia) (by lia)
   have b:=h.step (i:=k) (by lia)
   lia
def AtR (ls:List Int) (os:List Nat) (y:Int) (i:Nat):Prop:=i < os.length∧Jz ls os i≤y∧y < Jz ls os (i + 1)
theorem Row.exists {ls:List Int} {os:List Nat} (h:Row ls os) {y:Int} (h0:0≤y) (h1:y < lenOf ls os):∃ i,AtR ls os y i:=by
 rw [← J2y] at h1
 obtain ⟨i,hi,a,b⟩:=J2f (S:=Jz ls os) os.length (by rw [J1g];exact h0) h1
 exact ⟨i,hi,a,b⟩
theorem Row.unique {ls:List Int} {os:List Nat} (h:Row ls os) {y:Int} {i k:Nat} (a:AtR ls os y i) (b:AtR ls os y k):i=k:=by
 obtain ⟨a1,a2,a3⟩:=a
 obtain ⟨b1,b2,b3⟩:=b
 rcases Nat.lt_trichotomy i k with q | q | q
 ·have:=h.mono (i:=i + 1) (k:=k) (by lia) (by lia)
  lia
 ·exact q
 ·have:=h.mono (i:=k + 1) (k:=i) (by lia) (by lia)
  lia
theorem Row.inside {ls:List Int} {os:List Nat} (h:Row ls os) {y:Int} {i:Nat} (a:AtR ls os y i):0≤y∧y < lenOf ls os:=by
 obtain ⟨a1,a2,a3⟩:=a
 have h1:=h.mono (i:=0) (k:=i) (by lia) (by lia)
 have h2:=h.mono (i:=i + 1) (k:=os.length) (by lia) (Nat.le_refl _)
 rw [J1g] at h1
 rw [J2y] at h2
 lia
structure Rst where
 top:List Nat
 bot:List Nat
 ls:List Int
 ts:List Bool
structure Rst.Ok (r:Rst):Prop where
 row:Row r.ls r.top
 perm:r.bot.Perm r.top
 zl:∀ j,j ∉ r.top→r.ls.getD j 0=0
 zt:∀ j,j ∉ r.top→r.ts.getD j false=false
 len:r.ts.length=r.ls.length
 few:r.ls.length≤24
def Rst.size (r:Rst):Int:=lenOf r.ls r.top
theorem Rst.Ok.rowB {r:Rst} (h:r.Ok):Row r.ls r.bot:=⟨h.perm.nodup_iff.mpr h.row.nd,fun j hj=>h.row.lt j (h.perm.mem_iff.mp hj),fun j hj=>h.row.pos j (h.perm.mem_iff.mp hj)⟩
theorem Rst.Ok.sizeB {r:Rst} (h:r.Ok):lenOf r.ls r.bot=r.size:=J1q h.perm
def GoesTo (r:Rst) (y z:Int):Prop:=∃ i,AtR r.ls r.top y i∧z=moveN r.ls r.ts (r.top.getD i 0) (y - Jz r.ls r.top i) (firsts r.ls r.bot)
theorem mem_at {os:List Nat} {j:Nat} (h:j∈os):∃ k,k < os.length∧os.getD k 0=j:=by
 obtain ⟨k,hk,e⟩:=List.getElem_of_mem h
 exact ⟨k,hk,by rw [List.getD_eq_getElem?_getD,List.getElem?_eq_getElem hk];exact e⟩
theorem Rst.Ok.goes {r:Rst} (h:r.Ok) {y z:Int} (g:GoesTo r y z):∃ i k,AtR r.ls r.top y i∧AtR r.ls r.bot z k∧r.bot.getD k 0=r.top.getD i 0∧
  z - Jz r.ls r.bot k=(if r.ts.getD (r.top.getD i 0) false=true then r.ls.getD (r.top.getD i 0) 0 - 1 - (y - Jz r.ls r.top i) else y - Jz r.ls r.top i):=by
 obtain ⟨i,⟨i1,i2,i3⟩,rfl⟩:=g
 obtain ⟨k,hk,ek⟩:=mem_at (h.perm.mem_iff.mpr (J1k i1))
 have f:=h.rowB.first hk
 rw [ek] at f
 rw [Jy] at i3
 refine ⟨i,k,⟨i1,i2,by rw [Jy];exact i3⟩,?_,ek,?_⟩
 ·unfold moveN
  refine ⟨hk,?_,?_⟩
  ·rw [f];split <;> lia
  ·rw [Jy,ek,f];split <;> lia
 ·unfold moveN
  rw [f];split <;> lia
theorem Rst.Ok.inj {r:Rst} (h:r.Ok) {y y' z:Int} (a:GoesTo r y z) (b:GoesTo r y' z):y=y':=by
 obtain ⟨i,k,hi,hk,e1,o1⟩:=h.goes a
 obtain ⟨i',k',hi',hk',e2,o2⟩:=h.goes b
 obtain rfl:=h.rowB.unique hk hk'
 rw [e1] at e2
 obtain rfl:=h.row.inj hi.1 hi'.1 e2
 rw [o1] at o2
 split at o2 <;> lia
theorem Rst.Ok.there {r:Rst} (h:r.Ok) {y:Int} (h0:0≤y) (h1:y < r.size):∃ z,GoesTo r y z:=by
 obtain ⟨i,hi⟩:=h.row.exists h0 h1
 exact ⟨_,i,hi,rfl⟩
theorem Rst.Ok.from_ {r:Rst} (h:r.Ok) {y z:Int} (a:GoesTo r y z):0≤y∧y < r.size:=by
 obtain ⟨i,hi,_⟩:=a
 exact h.row.inside hi
end Rl
namespace Rl
def mixN (c:Int):Nat→Int
 | 0=>1 + c % 1000000006
 | k + 1=>mixN c k * 48271 % 2147483647
theorem mixN_small (c:Int):∀ k,0≤mixN c k∧mixN c k < 2147483647
 | 0=>by
  have h1:=Int.emod_nonneg c (show (1000000006:Int)≠0 by decide)
  have h2:=Int.emod_lt_of_pos c (show (0:Int) < 1000000006 by decide)
  unfold mixN
  omega
 | k + 1=>by
  unfold mixN
  exact ⟨Int.emod_nonneg _ (by decide),Int.emod_lt_of_pos _ (by decide)⟩
def spotS (c:Int) (k:Nat):Nat:=(mixN c (k + 1) % ((k:Int) + 1)).toNat
theorem spotS_le (c:Int) (k:Nat):spotS c k≤k∧((spotS c k:Nat):Int)=mixN c (k + 1) % ((k:Int) + 1):=by
 unfold spotS
 have h1:=Int.emod_nonneg (mixN c (k + 1)) (show (k:Int) + 1≠0 by omega)
 have h2:=Int.emod_lt_of_pos (mixN c (k + 1)) (show (0:Int) < (k:Int) + 1 by omega)
 omega
def shufO (c:Int) (ys:List Nat):Nat→List Nat
 | 0=>[]
 | k + 1=>insAt (shufO c ys k) (spotS c k) (ys.getD k 0)
theorem J3e (c:Int) (ys:List Nat):∀ k,k≤ys.length→(shufO c ys k).Perm (ys.take k)
 | 0,_=>List.Perm.refl _
 | k + 1,h=>by
  have ih:=J3e c ys k (by omega)
  have e:ys.take (k + 1)=ys.take k ++ [ys.getD k 0]:=by
   rw [List.take_add_one,List.getD_eq_getElem?_getD,List.getElem?_eq_getElem (by omega)];rfl
  rw [e]
  unfold shufO
  refine (insAt_perm _ _ _).trans ?_
  refine (List.Perm.cons _ ih).trans ?_
  exact (List.perm_append_singleton _ _).symm
theorem shufO_len (c:Int) (ys:List Nat) (k:Nat) (h:k≤ys.length):(shufO c ys k).length=k:=by
 rw [(J3e c ys k h).length_eq,List.length_take];omega
theorem shufO_all (c:Int) (ys:List Nat):(shufO c ys ys.length).Perm ys:=by
 have:=J3e c ys ys.length (Nat.le_refl _)
 rwa [List.take_length] at this
end Rl
namespace Rl
def J9 (row:List Nat) (a:Nat):List Nat:=row.drop (row.idxOf a + 1)
def withoutR (row:List Nat) (x:Nat):List Nat:=row.filter fun j=>decide (j≠x)
def putR (row:List Nat) (w l:Nat) (ahead:Bool):List Nat :=
 (withoutR row l).take (if ahead=true then (withoutR row l).idxOf w else (withoutR row l).idxOf w + 1) ++ [l] ++ (withoutR row l).drop (if ahead=true then (withoutR row l).idxOf w else (withoutR row l).idxOf w + 1)
theorem mem_without {row:List Nat} {x j:Nat}:j∈withoutR row x↔j∈row∧j≠x:=by
 unfold withoutR
 rw [List.mem_filter,decide_eq_true_iff]
theorem J1p {row:List Nat} (h:row.Nodup) (x:Nat):(withoutR row x).Nodup:=h.filter _
theorem without_len {row:List Nat} (h:row.Nodup) {x:Nat} (hx:x∈row):(withoutR row x).length + 1=row.length:=by
 induction row with
 | nil=>cases hx
 | cons a r ih =>
  obtain ⟨h1,h2⟩:=List.nodup_cons.mp h
  unfold withoutR
  rw [List.filter_cons]
  by_cases e:a=x
  ·subst e
   have:r.filter (fun j=>decide (j≠a))=r:=List.filter_eq_self.mpr fun j hj=>decide_eq_true (fun q=>h1 (q ▸ hj))
   rw [if_neg (by simp),this];rfl
  ·rw [if_pos (by simpa using e)]
   have hx':x∈r:=(List.mem_cons.mp hx).resolve_left (fun q=>e q.symm)
   have:=ih h2 hx'
   unfold withoutR at this
   simp only [List.length_cons]
   omega
theorem J54 {row:List Nat} (h:row.Nodup) {x:Nat} (hx:x∈row):(x :: withoutR row x).Perm row:=by
 refine (List.perm_ext_iff_of_nodup (List.nodup_cons.mpr ⟨fun q=>(mem_without.mp q).2 rfl,J1p h x⟩) h).mpr fun j=>?_
 rw [List.mem_cons,mem_without]
 constructor
 ·rintro (rfl | q)
  ·exact hx
  ·exact q.1
 ·intro q
  by_cases e:j=x
  ·exact .inl e
  ·exact .inr ⟨q,e⟩
theorem J4c {row:List Nat} (h:row.Nodup) {w l:Nat} (hl:l∈row) (ahead:Bool):(putR row w l ahead).Perm row:=by
 unfold putR
 generalize (if ahead=true then (withoutR row l).idxOf w else (withoutR row l).idxOf w + 1)=n
 refine List.Perm.trans ?_ (J54 h hl)
 have e:l :: withoutR row l=[l] ++ ((withoutR row l).take n ++ (withoutR row l).drop n):=by rw [List.take_append_drop];rfl
 rw [e,← List.append_assoc]
 exact List.Perm.append_right _ List.perm_append_comm
theorem J2b {xs ys:List Nat} (h:xs.Perm ys) (x:Nat):(withoutR xs x).Perm (withoutR ys x):=h.filter _
theorem J4b (f:List Int) (p q:Nat) (v:Int) (hp:p < f.length):(f.set p v).getD q 0=if q=p then v else f.getD q 0:=set_get f p q v hp
theorem J2s (f:List Bool) (p q:Nat) (v:Bool) (hp:p < f.length):(f.set p v).getD q false=if q=p then v else f.getD q false:=by
 rw [List.getD_eq_getElem?_getD,List.getD_eq_getElem?_getD]
 by_cases e:q=p
 ·subst e;rw [List.getElem?_set_self hp,if_pos rfl];rfl
 ·rw [List.getElem?_set_ne (Ne.symm e),if_neg e]
inductive Stp where
 | home (a:Nat) | even (a b:Nat) | over (a b:Nat) | under (a b:Nat) | overs (a:Nat) (t:Int) | unders (a:Nat) (t:Int)
def Stp.winner:Stp→Nat
 | .home a=>a | .even a _=>a | .over a _=>a | .under a _=>a | .overs a _=>a | .unders a _=>a
def Stp.times:Stp→Int
 | .overs _ t=>t | .unders _ t=>t | _=>1
def Stp.losers (r:Rst):Stp→List Nat
 | .home _=>[] | .even _ b=>[b] | .over _ b=>[b] | .under _ b=>[b] | .overs a _=>J9 r.bot a | .unders a _=>J9 r.top a
def J10 (r:Rst) (w l:Nat):List Bool:=r.ts.set l (r.ts.getD w false != r.ts.getD l false)
def Stp.behind (r:Rst):Stp→Rst
 | .home a=>⟨withoutR r.top a,withoutR r.bot a,r.ls.set a 0,r.ts.set a false⟩
 | .even a b=>⟨withoutR r.top a,withoutR (putR r.bot a b false) a,r.ls.set a 0,(J10 r a b).set a false⟩
 | .over a b=>⟨r.top,putR r.bot a b (r.ts.getD a false),r.ls.set a (r.ls.getD a 0 - r.ls.getD b 0),J10 r a b⟩
 | .under a b=>⟨putR r.top a b (r.ts.getD a false),r.bot,r.ls.set a (r.ls.getD a 0 - r.ls.getD b 0),J10 r a b⟩
 | .overs a t=>⟨r.top,r.bot,r.ls.set a (r.ls.getD a 0 - t * lenOf r.ls (J9 r.bot a)),r.ts⟩
 | .unders a t=>⟨r.top,r.bot,r.ls.set a (r.ls.getD a 0 - t * lenOf r.ls (J9 r.top a)),r.ts⟩
def Js (r:Rst) (a:Nat) (row:List Nat):Int:=if r.ts.getD a false=true then 0 else (r.ls.getD a 0 - 1) / lenOf r.ls (J9 row a)
abbrev lastT (r:Rst):Nat:=r.top.getD (r.top.length - 1) 0
abbrev lastB (r:Rst):Nat:=r.bot.getD (r.bot.length - 1) 0
def nextN (r:Rst):Stp :=
 if lastT r=lastB r then .home (lastT r)
 else if r.ls.getD (lastT r) 0=r.ls.getD (lastB r) 0 then .even (lastT r) (lastB r)
 else if r.ls.getD (lastB r) 0 < r.ls.getD (lastT r) 0 then
  (if 0 < Js r (lastT r) r.bot then .overs (lastT r) (Js r (lastT r) r.bot) else .over (lastT r) (lastB r))
 else (if 0 < Js r (lastB r) r.top then .unders (lastB r) (Js r (lastB r) r.top) else .under (lastB r) (lastT r))
theorem Rst.Ok.lens {r:Rst} (h:r.Ok):r.bot.length=r.top.length:=h.perm.length_eq
theorem Rst.Ok.mT {r:Rst} (h:r.Ok) (ne:r.top≠[]):lastT r∈r.top:=J1k (by have:=List.length_pos_iff.mpr ne;omega)
theorem Rst.Ok.mB {r:Rst} (h:r.Ok) (ne:r.top≠[]):lastB r∈r.top:=h.perm.mem_iff.mp (J1k (by have:=List.length_pos_iff.mpr ne;have:=h.lens;omega))
theorem Jp {row:List Nat} {n j:Nat} (h:j∈row.drop n):j∈row:=List.mem_of_mem_drop h
theorem J4l {row:List Nat} {a:Nat} (ha:a∈row) (h:row.getD (row.length - 1) 0≠a):J9 row a≠[]:=by
 unfold J9
 have h1:row.idxOf a < row.length:=List.idxOf_lt_length_iff.mpr ha
 intro e
 have h2:=List.drop_eq_nil_iff.mp e
 have h3:row.idxOf a=row.length - 1:=by omega
 apply h
 rw [← h3,List.getD_eq_getElem?_getD,List.getElem?_eq_getElem h1]
 exact List.getElem_idxOf h1
theorem Rst.Ok.of_rows {r:Rst} (h:r.Ok) {top bot:List Nat} {ls:List Int} {ts:List Bool} (ht:top.Perm r.top) (hb:bot.Perm r.top) (hl:ls.length=r.ls.length) (htl:ts.length=r.ts.length)
  (pos:∀ j∈r.top,1≤ls.getD j 0) (zl:∀ j,j ∉ r.top→ls.getD j 0=0) (zt:∀ j,j ∉ r.top→ts.getD j false=false):(Rst.mk top bot ls ts).Ok where
 row:=⟨ht.nodup_iff.mpr h.row.nd,fun j hj=>by rw [hl];exact h.row.lt j (ht.mem_iff.mp hj),fun j hj=>pos j (ht.mem_iff.mp hj)⟩
 perm:=hb.trans ht.symm
 zl:=fun j hj=>zl j fun q=>hj (ht.mem_iff.mpr q)
 zt:=fun j hj=>zt j fun q=>hj (ht.mem_iff.mpr q)
 len:=by show ts.length=ls.length;rw [hl,htl];exact h.len
 few:=by show ls.length≤24;rw [hl];exact h.few
theorem J3b {r:Rst} (h:r.Ok) {w l:Nat} (hl:l∈r.top):∀ j,j ∉ r.top→(J10 r w l).getD j false=false:=fun j hj=>by
 unfold J10
 rw [J2s _ _ _ _ (by rw [h.len];exact h.row.lt l hl),if_neg (show ¬ j=l from fun e=>hj (by rw [e];exact hl))]
 exact h.zt j hj
theorem set_out {r:Rst} (h:r.Ok) {a:Nat} {v:Int} (ha:a∈r.top):∀ j,j ∉ r.top→(r.ls.set a v).getD j 0=0:=fun j hj=>by
 rw [J4b _ _ _ _ (h.row.lt a ha),if_neg (show ¬ j=a from fun e=>hj (by rw [e];exact ha))]
 exact h.zl j hj
theorem set_pos {r:Rst} (h:r.Ok) {a:Nat} {v:Int} (ha:a∈r.top) (hv:1≤v):∀ j∈r.top,1≤(r.ls.set a v).getD j 0:=fun j hj=>by
 rw [J4b _ _ _ _ (h.row.lt a ha)]
 split
 ·exact hv
 ·exact h.row.pos j hj
theorem J1a (r:Rst) (w l:Nat):(J10 r w l).length=r.ts.length:=by unfold J10;rw [List.length_set]
theorem Rst.Ok.less {r:Rst} (h:r.Ok) {a:Nat} (ha:a∈r.top) {bot:List Nat} {ts:List Bool} (hb:bot.Perm (withoutR r.top a)) (htl:ts.length=r.ts.length) (zt:∀ j,j ∉ r.top→ts.getD j false=false) (za:ts.getD a false=false):(Rst.mk (withoutR r.top a) bot (r.ls.set a 0) ts).Ok where
 row:=⟨J1p h.row.nd a,fun j hj=>by rw [List.length_set];exact h.row.lt j (mem_without.mp hj).1,fun j hj=>by
  rw [J4b _ _ _ _ (h.row.lt a ha),if_neg (mem_without.mp hj).2]
  exact h.row.pos j (mem_without.mp hj).1⟩
 perm:=hb
 zl:=fun j hj=>by
  show (r.ls.set a 0).getD j 0=0
  rw [J4b _ _ _ _ (h.row.lt a ha)]
  split
  ·rfl
  ·rename_i e
   exact h.zl j fun q=>hj (mem_without.mpr ⟨q,e⟩)
 zt:=fun j hj=>by
  by_cases e:j=a
  ·subst e;exact za
  ·exact zt j fun q=>hj (mem_without.mpr ⟨q,e⟩)
 len:=by show ts.length=(r.ls.set a 0).length;rw [List.length_set,htl];exact h.len
 few:=by show (r.ls.set a 0).length≤24;rw [List.length_set];exact h.few
theorem times_fit {la s:Int} (hs:1≤s):(la - 1) / s * s≤la - 1:=Int.ediv_mul_le _ (by omega)
theorem J4z {r:Rst} (h:r.Ok) (ne:r.top≠[]) {p:Stp→Prop}
  (hh:lastT r=lastB r→p (.home (lastT r)))
  (he:lastT r≠lastB r→r.ls.getD (lastT r) 0=r.ls.getD (lastB r) 0→p (.even (lastT r) (lastB r)))
  (hov:lastT r≠lastB r→r.ls.getD (lastB r) 0 < r.ls.getD (lastT r) 0→(r.ts.getD (lastT r) false=true∨r.ls.getD (lastT r) 0≤lenOf r.ls (J9 r.bot (lastT r)))→p (.over (lastT r) (lastB r)))
  (hun:lastT r≠lastB r→r.ls.getD (lastT r) 0 < r.ls.getD (lastB r) 0→(r.ts.getD (lastB r) false=true∨r.ls.getD (lastB r) 0≤lenOf r.ls (J9 r.top (lastB r)))→p (.under (lastB r) (lastT r)))
  (hos:∀ t,lastT r≠lastB r→r.ls.getD (lastB r) 0 < r.ls.getD (lastT r) 0→r.ts.getD (lastT r) false=false→1≤t→1≤lenOf r.ls (J9 r.bot (lastT r))→lenOf r.ls (J9 r.bot (lastT r)) < r.ls.getD (lastT r) 0→t=(r.ls.getD (lastT r) 0 - 1) / lenOf r.ls (J9 r.bot (lastT r))→t * lenOf r.ls (J9 r.bot (lastT r)) < r.ls.getD (lastT r) 0→p (.overs (lastT r) t))
  (hus:∀ t,lastT r≠lastB r→r.ls.getD (lastT r) 0 < r.ls.getD (lastB r) 0→r.ts.getD (lastB r) false=false→1≤t→1≤lenOf r.ls (J9 r.top (lastB r))→lenOf r.ls (J9 r.top (lastB r)) < r.ls.getD (lastB r) 0→t=(r.ls.getD (lastB r) 0 - 1) / lenOf r.ls (J9 r.top (lastB r))→t * lenOf r.ls (J9 r.top (lastB r)) < r.ls.getD (lastB r) 0→p (.unders (lastB r) t)):p (nextN r):=by
 unfold nextN
 have mT:=h.mT ne
 have mB:=h.mB ne
 by_cases c1:lastT r=lastB r
 ·rw [if_pos c1];exact hh c1
 rw [if_neg c1]
 by_cases c2:r.ls.getD (lastT r) 0=r.ls.getD (lastB r) 0
 ·rw [if_pos c2];exact he c1 c2
 rw [if_neg c2]
 have key:∀ (row:List Nat) (a:Nat),a∈row→(∀ j∈row,1≤r.ls.getD j 0)→row.getD (row.length - 1) 0≠a→
   1≤lenOf r.ls (J9 row a)∧(0 < Js r a row→r.ts.getD a false=false∧1≤Js r a row∧lenOf r.ls (J9 row a) < r.ls.getD a 0∧Js r a row=(r.ls.getD a 0 - 1) / lenOf r.ls (J9 row a)∧Js r a row * lenOf r.ls (J9 row a) < r.ls.getD a 0)∧
   (¬ 0 < Js r a row→r.ts.getD a false=true∨r.ls.getD a 0≤lenOf r.ls (J9 row a)):=fun row a ha hp hl=>by
  have hs:1≤lenOf r.ls (J9 row a):=J4i (fun j hj=>hp j (Jp hj)) (J4l ha hl)
  refine ⟨hs,fun hw=>?_,fun hw=>?_⟩
  ·by_cases ct:r.ts.getD a false=true
   ·unfold Js at hw;rw [if_pos ct] at hw;omega
   ·have e:Js r a row=(r.ls.getD a 0 - 1) / lenOf r.ls (J9 row a):=by unfold Js;rw [if_neg ct]
    have h1:=times_fit (la:=r.ls.getD a 0) hs
    rw [e] at hw ⊢
    refine ⟨by simpa using ct,by omega,?_,rfl,by omega⟩
    have h2:lenOf r.ls (J9 row a) * 1≤lenOf r.ls (J9 row a) * ((r.ls.getD a 0 - 1) / lenOf r.ls (J9 row a)):=Int.mul_le_mul_of_nonneg_left (by omega) (by omega)
    rw [Int.mul_comm (lenOf r.ls (J9 row a)) ((r.ls.getD a 0 - 1) / lenOf r.ls (J9 row a))] at h2
    omega
  ·by_cases ct:r.ts.getD a false=true
   ·exact .inl ct
   ·right
    have e:Js r a row=(r.ls.getD a 0 - 1) / lenOf r.ls (J9 row a):=by unfold Js;rw [if_neg ct]
    rw [e] at hw
    by_cases q:r.ls.getD a 0≤lenOf r.ls (J9 row a)
    ·exact q
    ·have:=(Int.le_ediv_iff_mul_le (a:=1) (b:=r.ls.getD a 0 - 1) (c:=lenOf r.ls (J9 row a)) (by omega)).mpr (by omega)
     omega
 by_cases c3:r.ls.getD (lastB r) 0 < r.ls.getD (lastT r) 0
 ·rw [if_pos c3]
  obtain ⟨hs,k1,k2⟩:=key r.bot (lastT r) (h.perm.mem_iff.mpr mT) (fun j hj=>h.rowB.pos j hj) (fun e=>c1 e.symm)
  by_cases c4:0 < Js r (lastT r) r.bot
  ·rw [if_pos c4]
   obtain ⟨q1,q2,q3,q4,q5⟩:=k1 c4
   exact hos _ c1 c3 q1 q2 hs q3 q4 q5
  ·rw [if_neg c4];exact hov c1 c3 (k2 c4)
 ·rw [if_neg c3]
  have c3':r.ls.getD (lastT r) 0 < r.ls.getD (lastB r) 0:=by omega
  obtain ⟨hs,k1,k2⟩:=key r.top (lastB r) mB (fun j hj=>h.row.pos j hj) c1
  by_cases c4:0 < Js r (lastB r) r.top
  ·rw [if_pos c4]
   obtain ⟨q1,q2,q3,q4,q5⟩:=k1 c4
   exact hus _ c1 c3' q1 q2 hs q3 q4 q5
  ·rw [if_neg c4];exact hun c1 c3' (k2 c4)
theorem Rst.Ok.next {r:Rst} (h:r.Ok) (ne:r.top≠[]):((nextN r).behind r).Ok:=by
 have mT:=h.mT ne
 have mB:=h.mB ne
 have mTb:=h.perm.mem_iff.mpr mT
 have mBb:=h.perm.mem_iff.mpr mB
 have ndB:=h.rowB.nd
 refine J4z h ne (p:=fun s=>(s.behind r).Ok) (fun _=>?_) (fun c1 c2=>?_) (fun c1 c2 _=>?_) (fun c1 c2 _=>?_) (fun t c1 c2 c3 c4 c5 _ c6 c7=>?_) (fun t c1 c2 c3 c4 c5 _ c6 c7=>?_)
 ·refine h.less mT (J2b h.perm _) (by rw [List.length_set]) (fun j hj=>?_) ?_
  ·rw [J2s _ _ _ _ (by rw [h.len];exact h.row.lt _ mT)]
   split
   ·rfl
   ·exact h.zt j hj
  ·rw [J2s _ _ _ _ (by rw [h.len];exact h.row.lt _ mT),if_pos rfl]
 ·refine h.less mT ((J2b (J4c ndB mBb false) _).trans (J2b h.perm _)) (by rw [List.length_set,J1a]) (fun j hj=>?_) ?_
  ·rw [J2s _ _ _ _ (by rw [J1a,h.len];exact h.row.lt _ mT)]
   split
   ·rfl
   ·exact J3b h mB j hj
  ·rw [J2s _ _ _ _ (by rw [J1a,h.len];exact h.row.lt _ mT),if_pos rfl]
 ·exact h.of_rows (List.Perm.refl _) ((J4c ndB mBb _).trans h.perm) (by rw [List.length_set]) (J1a _ _ _) (set_pos h mT (by omega)) (set_out h mT) (J3b h mB)
 ·exact h.of_rows (J4c h.row.nd mT _) h.perm (by rw [List.length_set]) (J1a _ _ _) (set_pos h mB (by omega)) (set_out h mB) (J3b h mT)
 ·exact h.of_rows (List.Perm.refl _) h.perm (by rw [List.length_set]) rfl (set_pos h mT (by omega)) (set_out h mT) h.zt
 ·exact h.of_rows (List.Perm.refl _) h.perm (by rw [List.length_set]) rfl (set_pos h mB (by omega)) (set_out h mB) h.zt
theorem J4g:∀ (n:Nat) (row:List Nat),row.Nodup→(∀ j∈row,j < n)→row.length≤n
 | 0,row,_,h=>by
  cases row with
  | nil=>exact Nat.le_refl _
  | cons a r=>exact absurd (h a List.mem_cons_self) (Nat.not_lt_zero _)
 | n + 1,row,nd,h=>by
  by_cases c:n∈row
  ·have h1:=without_len nd c
   have h2:=J4g n (withoutR row n) (J1p nd n) fun j hj=>by
    have:=h j (mem_without.mp hj).1
    have:=(mem_without.mp hj).2
    omega
   omega
  ·have:=J4g n row nd fun j hj=>by
    have h1:=h j hj
    have h2:j≠n:=fun e=>c (e ▸ hj)
    omega
   omega
theorem Row.len_le {ls:List Int} {row:List Nat} (h:Row ls row):row.length≤ls.length:=J4g _ _ h.nd h.lt
def fillI (f:Nat→Int) (base:List Int) (ks:List Nat):List Int:=ks.foldl (fun l k=>l.set k (f k)) base
def fillB (f:Nat→Bool) (base:List Bool) (ks:List Nat):List Bool:=ks.foldl (fun l k=>l.set k (f k)) base
theorem J25 (f:Nat→Int):∀ (ks:List Nat) (base:List Int),(fillI f base ks).length=base.length
 | [],_=>rfl
 | k :: ks,base=>by
  show (fillI f (base.set k (f k)) ks).length=_
  rw [J25 f ks,List.length_set]
theorem J4k (f:Nat→Bool):∀ (ks:List Nat) (base:List Bool),(fillB f base ks).length=base.length
 | [],_=>rfl
 | k :: ks,base=>by
  show (fillB f (base.set k (f k)) ks).length=_
  rw [J4k f ks,List.length_set]
theorem J39 (f:Nat→Int) (j:Nat):∀ (ks:List Nat) (base:List Int),(∀ k∈ks,k < base.length)→(fillI f base ks).getD j 0=if j∈ks then f j else base.getD j 0
 | [],base,_=>by rw [if_neg (by simp)];rfl
 | k :: ks,base,h=>by
  show (fillI f (base.set k (f k)) ks).getD j 0=_
  rw [J39 f j ks _ fun m hm=>by rw [List.length_set];exact h m (List.mem_cons_of_mem _ hm),set_get _ _ _ _ (h k List.mem_cons_self)]
  by_cases c:j∈ks
  ·rw [if_pos c,if_pos (List.mem_cons_of_mem _ c)]
  ·rw [if_neg c]
   by_cases e:j=k
   ·subst e;rw [if_pos rfl,if_pos List.mem_cons_self]
   ·rw [if_neg e,if_neg (fun q=>(List.mem_cons.mp q).elim e c)]
theorem fillB_get (f:Nat→Bool) (j:Nat):∀ (ks:List Nat) (base:List Bool),(∀ k∈ks,k < base.length)→(fillB f base ks).getD j false=if j∈ks then f j else base.getD j false
 | [],base,_=>by rw [if_neg (by simp)];rfl
 | k :: ks,base,h=>by
  show (fillB f (base.set k (f k)) ks).getD j false=_
  rw [fillB_get f j ks _ fun m hm=>by rw [List.length_set];exact h m (List.mem_cons_of_mem _ hm),J2s _ _ _ _ (h k List.mem_cons_self)]
  by_cases c:j∈ks
  ·rw [if_pos c,if_pos (List.mem_cons_of_mem _ c)]
  ·rw [if_neg c]
   by_cases e:j=k
   ·subst e;rw [if_pos rfl,if_pos List.mem_cons_self]
   ·rw [if_neg e,if_neg (fun q=>(List.mem_cons.mp q).elim e c)]
theorem fillI_snoc (f:Nat→Int) (base:List Int) (ks:List Nat) (k:Nat):fillI f base (ks ++ [k])=(fillI f base ks).set k (f k):=by unfold fillI;rw [List.foldl_append];rfl
theorem fillB_snoc (f:Nat→Bool) (base:List Bool) (ks:List Nat) (k:Nat):fillB f base (ks ++ [k])=(fillB f base ks).set k (f k):=by unfold fillB;rw [List.foldl_append];rfl
theorem take_snoc {ks:List Nat} {i:Nat} (h:i < ks.length):ks.take (i + 1)=ks.take i ++ [ks.getD i 0]:=by
 rw [List.take_add_one,List.getD_eq_getElem?_getD,List.getElem?_eq_getElem h];rfl
theorem rep_getI (n j:Nat):(List.replicate n (0:Int)).getD j 0=0:=by
 rw [List.getD_eq_getElem?_getD,List.getElem?_replicate];split <;> rfl
theorem rep_getB (n j:Nat):(List.replicate n false).getD j false=false:=by
 rw [List.getD_eq_getElem?_getD,List.getElem?_replicate];split <;> rfl
theorem lenOf_le {ls:List Int} {B:Int}:∀ {os:List Nat},(∀ j∈os,ls.getD j 0≤B)→lenOf ls os≤(os.length:Int) * B
 | [],_=>by rw [J38];simp
 | a :: r,h=>by
  rw [Jw]
  have h1:=h a List.mem_cons_self
  have h2:=lenOf_le (os:=r) fun j hj=>h j (List.mem_cons_of_mem _ hj)
  rw [List.length_cons,Int.natCast_add,Int.add_mul,show ((1:Nat):Int) * B=B from Int.one_mul B]
  omega
theorem drawnR_ok {letters:List Nat} {total:Nat} {f:Nat→Int} {g:Nat→Bool} {c1 c2:Int} (nd:letters.Nodup) (lt:∀ j∈letters,j < total) (ht:total≤6) (hf:∀ j∈letters,1≤f j) :
  (Rst.mk (shufO c1 letters letters.length) (shufO c2 letters letters.length) (fillI f (List.replicate total 0) letters) (fillB g (List.replicate total false) letters)).Ok:=by
 have p1:=shufO_all c1 letters
 have p2:=shufO_all c2 letters
 have l1:∀ k∈letters,k < (List.replicate total (0:Int)).length:=fun k hk=>by rw [List.length_replicate];exact lt k hk
 have l2:∀ k∈letters,k < (List.replicate total false).length:=fun k hk=>by rw [List.length_replicate];exact lt k hk
 refine ⟨⟨p1.nodup_iff.mpr nd,fun j hj=>?_,fun j hj=>?_⟩,p2.trans p1.symm,fun j hj=>?_,fun j hj=>?_,?_,?_⟩
 ·rw [J25,List.length_replicate];exact lt j (p1.mem_iff.mp hj)
 ·have hj':=p1.mem_iff.mp hj
  rw [J39 _ _ _ _ l1,if_pos hj'];exact hf j hj'
 ·have hj':j ∉ letters:=fun q=>hj (p1.mem_iff.mpr q)
  show (fillI f (List.replicate total 0) letters).getD j 0=0
  rw [J39 _ _ _ _ l1,if_neg hj',rep_getI]
 ·have hj':j ∉ letters:=fun q=>hj (p1.mem_iff.mpr q)
  show (fillB g (List.replicate total false) letters).getD j false=false
  rw [fillB_get _ _ _ _ l2,if_neg hj',rep_getB]
 ·show (fillB g (List.replicate total false) letters).length=(fillI f (List.replicate total 0) letters).length
  rw [J4k,J25,List.length_replicate,List.length_replicate]
 ·show (fillI f (List.replicate total 0) letters).length≤24
  rw [J25,List.length_replicate];omega
theorem J4n {r:Rst} {a:Nat} {row:List Nat} (hs:1≤lenOf r.ls (J9 row a)):0 < Js r a row↔r.ts.getD a false=false∧lenOf r.ls (J9 row a) < r.ls.getD a 0:=by
 unfold Js
 by_cases ct:r.ts.getD a false=true
 ·rw [if_pos ct]
  constructor
  ·intro h;omega
  ·intro h;rw [ct] at h;cases h.1
 ·rw [if_neg ct]
  have hb:r.ts.getD a false=false:=by simpa using ct
  constructor
  ·intro h
   refine ⟨hb,?_⟩
   have:=(Int.le_ediv_iff_mul_le (a:=1) (b:=r.ls.getD a 0 - 1) (c:=lenOf r.ls (J9 row a)) (by omega)).mp (by omega)
   omega
  ·intro h
   have:=(Int.le_ediv_iff_mul_le (a:=1) (b:=r.ls.getD a 0 - 1) (c:=lenOf r.ls (J9 row a)) (by omega)).mpr (by omega)
   omega
end Rl
namespace Rl
theorem J4p {row:List Nat} (h:row≠[]):row=row.dropLast ++ [row.getD (row.length - 1) 0]:=by
 have hl:=List.length_pos_iff.mpr h
 have e:row.getD (row.length - 1) 0=row.getLast h:=by
  rw [List.getD_eq_getElem?_getD,List.getElem?_eq_getElem (by omega),List.getLast_eq_getElem];rfl
 rw [e]
 exact (List.dropLast_concat_getLast h).symm
theorem J1f (xs ys:List Nat) (x:Nat):withoutR (xs ++ ys) x=withoutR xs x ++ withoutR ys x:=by unfold withoutR;rw [List.filter_append]
theorem J1e {xs:List Nat} {x:Nat} (h:x ∉ xs):withoutR xs x=xs:=List.filter_eq_self.mpr fun j hj=>decide_eq_true (fun e=>h (e ▸ hj))
theorem J28 (x:Nat):withoutR [x] x=[]:=by unfold withoutR;simp
theorem J29 {row:List Nat} (nd:row.Nodup) (h:row≠[]):withoutR row (row.getD (row.length - 1) 0)=row.dropLast:=by
 have e:=J4p h
 generalize row.getD (row.length - 1) 0=z at *
 generalize row.dropLast=d at *
 subst e
 have hn:z ∉ d:=fun q=>(List.nodup_append.mp nd).2.2 z q z (by simp) rfl
 rw [J1f,J1e hn,J28,List.append_nil]
theorem idx_app {s:List Nat} {a:Nat} (t:List Nat) (h:a ∉ s):(s ++ a :: t).idxOf a=s.length:=by
 induction s with
 | nil=>simp
 | cons x s ih =>
  have hx:(x == a)=false:=by
   have:x≠a:=fun e=>h (by rw [e];exact List.mem_cons_self)
   simpa using this
  rw [List.cons_append,List.idxOf_cons,hx,ih fun q=>h (List.mem_cons_of_mem _ q)]
  rfl
theorem even_row {row:List Nat} (nd:row.Nodup) {a b:Nat} (ha:a∈row) (hb:row.getD (row.length - 1) 0=b) (hab:a≠b):(row.set (row.idxOf a) b).dropLast=withoutR (putR row a b false) a:=by
 have hne:row≠[]:=fun e=>by rw [e] at ha;cases ha
 have e:=J4p hne
 rw [hb] at e
 generalize row.dropLast=d at e
 subst e
 have had:a∈d:=(List.mem_append.mp ha).resolve_right fun q=>hab (List.mem_singleton.mp q)
 obtain ⟨s,t,rfl⟩:=List.append_of_mem had
 have n1:=List.nodup_append.mp nd
 have n2:=List.nodup_append.mp n1.1
 have n3:=List.nodup_cons.mp n2.2.1
 have as:a ∉ s:=fun q=>n2.2.2 a q a List.mem_cons_self rfl
 have bd:b ∉ s ++ a :: t:=fun q=>n1.2.2 b q b (by simp) rfl
 have bs:b ∉ s:=fun q=>bd (List.mem_append_left _ q)
 have bt:b ∉ t:=fun q=>bd (List.mem_append_right _ (List.mem_cons_of_mem _ q))
 have at_:a ∉ t:=n3.1
 have e1:s ++ a :: t ++ [b]=s ++ a :: (t ++ [b]):=by simp
 have w1:withoutR (s ++ a :: t ++ [b]) b=s ++ a :: t:=by
  rw [J1f,J28,List.append_nil]
  exact J1e bd
 unfold putR
 rw [w1,idx_app t as,if_neg (by decide),e1,idx_app (t ++ [b]) as]
 have t1:(s ++ a :: t).take (s.length + 1)=s ++ [a]:=by
  rw [show s ++ a :: t=(s ++ [a]) ++ t by simp,show s.length + 1=(s ++ [a]).length by simp,List.take_left]
 have t2:(s ++ a :: t).drop (s.length + 1)=t:=by
  rw [show s ++ a :: t=(s ++ [a]) ++ t by simp,show s.length + 1=(s ++ [a]).length by simp,List.drop_left]
 rw [t1,t2,J1f,J1f,J1f,J1e as,J28,List.append_nil,J1e at_,J1e (xs:=[b]) (by simpa using hab)]
 rw [List.set_append_right _ _ (Nat.le_refl _)]
 simp only [Nat.sub_self,List.set_cons_zero]
 rw [show s ++ b :: (t ++ [b])=(s ++ b :: t) ++ [b] by simp,List.dropLast_concat]
 simp
theorem J3h (ls:List Int) (p:Nat→Bool):∀ os:List Nat,(∀ j∈os,p j=false→ls.getD j 0=0)→lenOf ls (os.filter p)=lenOf ls os
 | [],_=>rfl
 | a :: r,h=>by
  have ih:=J3h ls p r fun j hj=>h j (List.mem_cons_of_mem _ hj)
  rw [List.filter_cons,Jw]
  cases c:p a with
  | true=>rw [if_pos rfl,Jw,ih]
  | false=>rw [if_neg (by decide),ih,h a List.mem_cons_self c,Int.zero_add]
theorem Rst.Ok.size_sum {r:Rst} (h:r.Ok):r.size=r.ls.sum:=by
 have h1:lenOf r.ls (List.range r.ls.length)=r.ls.sum:=by unfold lenOf;rw [J2q]
 rw [← h1,← J3h r.ls (fun j=>decide (j∈r.top)) (List.range r.ls.length) fun j _ hj=>h.zl j (of_decide_eq_false hj)]
 refine J1q ?_
 refine (List.perm_ext_iff_of_nodup h.row.nd (List.nodup_range.filter _)).mpr fun j=>?_
 rw [List.mem_filter,List.mem_range,decide_eq_true_iff]
 exact ⟨fun q=>⟨h.row.lt j q,q⟩,fun q=>q.2⟩
def NextP (r:Rst):Stp→Prop
 | .home a=>a=lastT r∧a=lastB r
 | .even a b=>a=lastT r∧b=lastB r∧a≠b∧r.ls.getD a 0=r.ls.getD b 0
 | .over a b=>a=lastT r∧b=lastB r∧a≠b∧r.ls.getD b 0 < r.ls.getD a 0
 | .under a b=>a=lastB r∧b=lastT r∧a≠b∧r.ls.getD b 0 < r.ls.getD a 0
 | .overs a t=>a=lastT r∧a≠lastB r∧r.ts.getD a false=false∧1≤t∧1≤lenOf r.ls (J9 r.bot a)∧t * lenOf r.ls (J9 r.bot a) < r.ls.getD a 0
 | .unders a t=>a=lastB r∧a≠lastT r∧r.ts.getD a false=false∧1≤t∧1≤lenOf r.ls (J9 r.top a)∧t * lenOf r.ls (J9 r.top a) < r.ls.getD a 0
theorem nextP {r:Rst} (h:r.Ok) (ne:r.top≠[]):NextP r (nextN r) :=
 J4z h ne (p:=NextP r) (fun c=>⟨rfl,c⟩) (fun c1 c2=>⟨rfl,rfl,c1,c2⟩) (fun c1 c2 _=>⟨rfl,rfl,c1,c2⟩) (fun c1 c2 _=>⟨rfl,rfl,fun e=>c1 e.symm,c2⟩)
  (fun t c1 c2 c3 c4 c5 _ _ c6=>⟨rfl,c1,c3,c4,c5,c6⟩) (fun t c1 c2 c3 c4 c5 _ _ c6=>⟨rfl,fun e=>c1 e.symm,c3,c4,c5,c6⟩)
theorem NextP.win {r:Rst} (h:r.Ok) (ne:r.top≠[]) {s:Stp} (n:NextP r s):s.winner∈r.top:=by
 have mT:=h.mT ne
 have mB:=h.mB ne
 cases s with
 | home a=>rw [show (Stp.home a).winner=a from rfl,n.1];exact mT
 | even a b=>rw [show (Stp.even a b).winner=a from rfl,n.1];exact mT
 | over a b=>rw [show (Stp.over a b).winner=a from rfl,n.1];exact mT
 | under a b=>rw [show (Stp.under a b).winner=a from rfl,n.1];exact mB
 | overs a t=>rw [show (Stp.overs a t).winner=a from rfl,n.1];exact mT
 | unders a t=>rw [show (Stp.unders a t).winner=a from rfl,n.1];exact mB
theorem Rst.Ok.le_size {r:Rst} (h:r.Ok) {j:Nat} (hj:j∈r.top):r.ls.getD j 0≤r.size:=lenOf_mem (fun j hj=>by have:=h.row.pos j hj;omega) hj
theorem NextP.times {r:Rst} (h:r.Ok) (ne:r.top≠[]) {s:Stp} (n:NextP r s) (hz:r.size≤10 ^ 30):s.times.natAbs≤10 ^ 30:=by
 have hw:=h.le_size (n.win h ne)
 have key:∀ {t l s:Int},1≤t→1≤s→t * s < l→t≤l:=fun {t l s} h1 h2 h3=>by
  have:t * 1≤t * s:=Int.mul_le_mul_of_nonneg_left h2 (by omega)
  omega
 cases s with
 | overs a t =>
  obtain ⟨_,_,_,h4,h5,h6⟩:=n
  have:=key h4 h5 h6
  show t.natAbs≤10 ^ 30
  have hw:r.ls.getD a 0≤r.size:=hw
  omega
 | unders a t =>
  obtain ⟨_,_,_,h4,h5,h6⟩:=n
  have:=key h4 h5 h6
  show t.natAbs≤10 ^ 30
  have hw:r.ls.getD a 0≤r.size:=hw
  omega
 | home a=>show (1:Int).natAbs≤10 ^ 30;decide
 | even a b=>show (1:Int).natAbs≤10 ^ 30;decide
 | over a b=>show (1:Int).natAbs≤10 ^ 30;decide
 | under a b=>show (1:Int).natAbs≤10 ^ 30;decide
theorem NextP.losers_lt {r:Rst} (h:r.Ok) (ne:r.top≠[]) {s:Stp} (n:NextP r s):(∀ j∈s.losers r,j∈r.top)∧(s.losers r).length≤24:=by
 have mT:=h.mT ne
 have mB:=h.mB ne
 have l1:=Nat.le_trans h.row.len_le h.few
 have l2:=Nat.le_trans h.rowB.len_le h.few
 cases s with
 | home a=>exact ⟨fun j hj=>absurd hj (by simp [Stp.losers]),Nat.zero_le _⟩
 | even a b=>exact ⟨fun j hj=>by rw [List.mem_singleton.mp hj,n.2.1];exact mB,by show 1≤24;decide⟩
 | over a b=>exact ⟨fun j hj=>by rw [List.mem_singleton.mp hj,n.2.1];exact mB,by show 1≤24;decide⟩
 | under a b=>exact ⟨fun j hj=>by rw [List.mem_singleton.mp hj,n.2.1];exact mT,by show 1≤24;decide⟩
 | overs a t=>exact ⟨fun j hj=>h.perm.mem_iff.mp (Jp hj),by show (J9 r.bot a).length≤24;unfold J9;rw [List.length_drop];omega⟩
 | unders a t=>exact ⟨fun j hj=>Jp hj,by show (J9 r.top a).length≤24;unfold J9;rw [List.length_drop];omega⟩
theorem J5a {r:Rst} (h:r.Ok):∀ {os:List Nat},os.Nodup→(∀ j∈os,j∈r.top)→lenOf r.ls os≤r.size:=fun {os} nd hs=>by
 have e:lenOf r.ls (r.top.filter fun j=>decide (j∈os))=lenOf r.ls os:=J1q ((List.perm_ext_iff_of_nodup (h.row.nd.filter _) nd).mpr fun j=>by
  rw [List.mem_filter,decide_eq_true_iff]
  exact ⟨fun q=>q.2,fun q=>⟨hs j q,q⟩⟩)
 have e2:∀ (p:Nat→Bool) (row:List Nat),(∀ j∈row,0≤r.ls.getD j 0)→lenOf r.ls (row.filter p)≤lenOf r.ls row:=by
  intro p row hr
  induction row with
  | nil=>exact Int.le_refl _
  | cons a t ih =>
   rw [List.filter_cons,Jw]
   have h0:=hr a List.mem_cons_self
   have h1:=ih fun j hj=>hr j (List.mem_cons_of_mem _ hj)
   split
   ·rw [Jw];omega
   ·omega
 rw [← e]
 exact e2 _ _ fun j hj=>by have:=h.row.pos j hj;omega
theorem NextP.losers_nd {r:Rst} (h:r.Ok) {s:Stp}:(s.losers r).Nodup:=by
 cases s with
 | home a=>exact List.nodup_nil
 | even a b=>exact (by simp:[b].Nodup)
 | over a b=>exact (by simp:[b].Nodup)
 | under a b=>exact (by simp:[b].Nodup)
 | overs a t=>exact List.Sublist.nodup (List.drop_sublist _ _) h.rowB.nd
 | unders a t=>exact List.Sublist.nodup (List.drop_sublist _ _) h.row.nd
end Rl
namespace R13
open PySem L2 Rl
def top (i:Nat):Stmt:=PySem.Challenge.pw_relaid_k13_what_is_left.main.body.getD i (.Pass ⟨0,0,0,0⟩)
abbrev sMoved:Stmt:=top 5
abbrev sFirst:Stmt:=top 7
abbrev sLenOf:Stmt:=top 10
abbrev sLetIn:Stmt:=top 11
abbrev sGone:Stmt:=top 12
abbrev J3w:Stmt:=top 13
abbrev sRGoes:Stmt:=top 14
abbrev J2t:Stmt:=top 16
abbrev J2w:Stmt:=top 17
abbrev sPut:Stmt:=top 18
abbrev J2v:Stmt:=top 19
abbrev sShort:Stmt:=top 20
abbrev J3q:Stmt:=top 21
abbrev sTimes:Stmt:=top 29
abbrev sOverS:Stmt:=top 30
abbrev J3n:Stmt:=top 31
abbrev sNext:Stmt:=top 32
abbrev sCell:Stmt:=top 34
abbrev sWhole:Stmt:=top 35
abbrev sShuf:Stmt:=top 36
abbrev J41:Stmt:=top 37
abbrev sSum:Stmt:=top 38
abbrev sStepN:Stmt:=top 39
abbrev sPutL:Stmt:=top 40
abbrev sLeft:Stmt:=top 41
abbrev sWith:Stmt:=top 42
abbrev sSameR:Stmt:=top 43
abbrev sMade:Stmt:=top 44
abbrev sAsk:Stmt:=top 45
abbrev J2u:Stmt:=top 46
abbrev sLaw:Stmt:=top 47
abbrev sRInit:Stmt:=Jv (top 9) 0
abbrev J3r:Stmt:=Jv (top 22) 0
abbrev J1v:Stmt:=Jv (top 22) 2
abbrev J3y:Stmt:=Jv (top 23) 0
abbrev J3x:Stmt:=Jv (top 23) 1
abbrev J1z:Stmt:=Jv (top 23) 2
abbrev J20:Stmt:=Jv (top 23) 3
abbrev J40:Stmt:=Jv (top 24) 0
abbrev J3z:Stmt:=Jv (top 24) 1
abbrev J21:Stmt:=Jv (top 24) 3
abbrev J3t:Stmt:=Jv (top 25) 0
abbrev J3s:Stmt:=Jv (top 25) 1
abbrev J1w:Stmt:=Jv (top 25) 3
abbrev J3p:Stmt:=Jv (top 26) 0
abbrev J3o:Stmt:=Jv (top 26) 1
abbrev J1u:Stmt:=Jv (top 26) 2
abbrev J3v:Stmt:=Jv (top 27) 0
abbrev J3u:Stmt:=Jv (top 27) 1
abbrev J1x:Stmt:=Jv (top 27) 2
abbrev J1y:Stmt:=Jv (top 27) 4
abbrev J3m:Stmt:=Jv (top 28) 0
abbrev J3l:Stmt:=Jv (top 28) 1
abbrev J1s:Stmt:=Jv (top 28) 2
abbrev J1t:Stmt:=Jv (top 28) 3
abbrev iV (ns:List Int):List V:=ns.map V.int
abbrev nV (os:List Nat):List V:=(natI os).map V.int
abbrev bV (bs:List Bool):List V:=bs.map V.bl
def SqH (H:Hp) (p:Addr) (xs:List V):Prop:=H p=some (.lst xs)∨H p=some (.tup xs)
theorem SqH.sq {K:PySem.W.Frag} {H:Hp} {p:Addr} {xs:List V} (h:SqH H p xs):SqL K H p xs∨SqT K H p xs:=h.elim (fun h=>.inl (SqL.of h)) fun h=>.inr (SqT.of h)
theorem SqH.same {H H':Hp} {p:Addr} {xs:List V} (h:SqH H p xs) (s:Same H H'):SqH H' p xs:=h.elim (fun h=>.inl (s _ _ h)) fun h=>.inr (s _ _ h)
theorem J7 {H:Hp} {l:Addr} {o:HO} (h:H l=none):Same H (upd H l o):=fun b u e=>by rw [Jk (Jc e h)];exact e
theorem iteD {c A B:Prop} [Decidable c] (hc:¬ c) (h:B):if decide c=true then A else B:=by
 rw [decide_eq_false hc];exact iteF h
theorem iteDT {c A B:Prop} [Decidable c] (hc:c) (h:A):if decide c=true then A else B:=by
 rw [decide_eq_true hc];exact iteT h
theorem iteBT {c:Bool} {A B:Prop} (h:c=true) (q:A):if c=true then A else B:=by rw [if_pos h];exact q
theorem iteBF {c:Bool} {A B:Prop} (h:¬ c=true) (q:B):if c=true then A else B:=by rw [if_neg h];exact q
theorem J1n {K:PySem.W.Frag} {H:Hp} {p:Addr} {xs:List V} {Q:VK} (h:SqH H p xs) (k:∀ l H',Same H H'→H' l=some (.tup xs)→Q (.ref l) H'):rTup K [V.ref p] H Q:=by
 unfold rTup
 rcases h with h | h
 ·exact ⟨p,xs,rfl,.inl ⟨SqL.of h,fun l hl=>k l _ (J7 hl) J3⟩⟩
 ·exact ⟨p,xs,rfl,.inr ⟨SqT.of h,k p H (Same.refl _) h⟩⟩
theorem vint_ne {i j:Int} (h:i≠j):¬ V.int i=V.int j:=fun e=>h (V.int.inj e)
theorem J27 {n o:Nat} (h:o < n):ixN n (o:Int)=some o:=by
 unfold ixN
 rw [if_pos (by omega),if_pos (by omega)]
 simp
theorem J15 {ns:List Int} {j:Nat} (h:j < ns.length):(iV ns)[j]?=some (V.int (ns.getD j 0)):=by
 rw [List.getElem?_map,List.getElem?_eq_getElem h,List.getD_eq_getElem?_getD,List.getElem?_eq_getElem h];rfl
theorem J5d (ns:List Int) (j:Nat) (z:Int):(iV ns).set j (V.int z)=iV (ns.set j z):=by
 show (ns.map V.int).set j (V.int z)=(ns.set j z).map V.int
 rw [List.map_set]
theorem nV_get {os:List Nat} {j:Nat} {y:V} (h:(nV os)[j]?=some y):j < os.length∧y=V.int (os.getD j 0:Nat)∧os.getD j 0∈os:=by
 have hj:j < os.length:=by
  have:=(List.getElem?_eq_some_iff.mp h).1
  simpa [natI] using this
 refine ⟨hj,?_,?_⟩
 ·rw [List.getElem?_map] at h
  unfold natI at h
  rw [List.getElem?_map,List.getElem?_eq_getElem hj] at h
  rw [List.getD_eq_getElem?_getD,List.getElem?_eq_getElem hj]
  exact (Option.some.inj h).symm
 ·rw [List.getD_eq_getElem?_getD,List.getElem?_eq_getElem hj]
  exact List.getElem_mem hj
theorem flat_zero (n:Nat):(List.replicate n [V.int 0]).flatten=iV (List.replicate n 0):=by
 induction n with
 | zero=>rfl
 | succ n ih=>rw [List.replicate_succ,List.flatten_cons,ih,List.replicate_succ];rfl
theorem flat_false (n:Nat):(List.replicate n [V.bl false]).flatten=bV (List.replicate n false):=by
 induction n with
 | zero=>rfl
 | succ n ih=>rw [List.replicate_succ,List.flatten_cons,ih,List.replicate_succ];rfl
theorem J33 {f:Str} {v:V} {fs:List (Str × V)}:(putF f v fs).lookup f=some v:=by rw [J24,if_pos rfl]
theorem lk_ne {f g:Str} {v:V} {fs:List (Str × V)} (h:¬ g=f):(putF f v fs).lookup g=fs.lookup g:=by rw [J24,if_neg h]
theorem J4h (ls:List Int):(iV ls).length=ls.length:=List.length_map ..
def KeepX (x:Addr) (H H':Hp):Prop:=∀ b o,H b=some o→b≠x→H' b=some o
theorem KeepX.of {x:Addr} {H H':Hp} (s:Same H H'):KeepX x H H':=fun b o e _=>s b o e
theorem KeepX.trans {x:Addr} {H H1 H2:Hp} (a:KeepX x H H1) (b:KeepX x H1 H2):KeepX x H H2:=fun c o e n=>b c o (a c o e n) n
theorem KeepX.upd {x:Addr} {H:Hp} {o:HO}:KeepX x H (upd H x o):=fun b u e n=>by rw [Jk n];exact e
theorem KeepX.sqH {x p:Addr} {H H':Hp} {xs:List V} (k:KeepX x H H') (h:SqH H p xs) (n:p≠x):SqH H' p xs:=h.elim (fun h=>.inl (k _ _ h n)) fun h=>.inr (k _ _ h n)
theorem SqH.ne {H:Hp} {p x C dx:Addr} {xs:List V} {fs:List (Str × V)} (h:SqH H p xs) (hx:H x=some (.ins C dx fs)):p≠x:=h.elim (fun h=>ne_of h hx (by intro z;cases z)) fun h=>ne_of h hx (by intro z;cases z)
theorem J26 {ts:List Bool} {j:Nat} (h:j < ts.length):(bV ts)[j]?=some (V.bl (ts.getD j false)):=by
 rw [List.getElem?_map,List.getElem?_eq_getElem h,List.getD_eq_getElem?_getD,List.getElem?_eq_getElem h];rfl
structure TxtX (K:PySem.W.Frag) (mg:Str→Option Value) (x:Str) (CO:Addr):Prop where
 mg:mg x=some (.ref CO)
 ex:PySem.W.excIn K CO bmV "ValueError.__new__"=true
structure TxtR (mg:Str→Option Value):Prop where
 len:mg "len"=none
 sum:mg "sum"=none
 tuple:mg "tuple"=none
 list:mg "list"=none
 range:mg "range"=none
theorem nV_eq (row:List Nat):nV row=row.map fun (j:Nat)=>V.int (j:Int):=by
 show (row.map fun (n:Nat)=>(n:Int)).map V.int=_
 rw [List.map_map];rfl
theorem J2e (row:List Nat):(nV row).length=row.length:=by rw [nV_eq,List.length_map]
theorem nV_at {row:List Nat} {i:Nat} (h:i < row.length):(nV row)[i]?=some (V.int (row.getD i 0:Nat)):=by
 rw [nV_eq,List.getElem?_map,List.getD_eq_getElem?_getD,List.getElem?_eq_getElem h];rfl
section
variable {P:Program} {w:World} {K:PySem.W.Frag} {mg:Str→Option Value} {base:Heap}
def spFirst:Sp:=fun vs H Q _=>∃ (p q:Addr) (ls:List Int) (os:List Nat),vs=[.ref p,.ref q]∧H p=some (.tup (iV ls))∧SqH H q (nV os)∧(∀ o∈os,o < ls.length)∧ls.length≤24∧
 ∀ l H',Same H H'→H' l=some (.tup (iV (firsts ls os)))→Q (.ref l) H'
theorem scFirst:FnScope ["lengths","order","firsts","place","piece"] ["lengths","order"] (J1 sFirst):=⟨rfl,rfl,rfl,by decide +kernel,rfl,by decide +kernel,by decide +kernel⟩
def PvF (p q fl:Addr) (ls:List Int) (os:List Nat) (H:Hp) (i:Nat) (σ:St) (H2:Hp):Prop :=
 ∃ v,σ=[some (.ref p),some (.ref q),some (.ref fl),some (.int (sumsF ls os i).2),v]∧H2 fl=some (.lst (iV (sumsF ls os i).1))∧H fl=none∧Same H H2
theorem ok_first {f:Addr} {fd:FuncData} (F:Fun K "first_places" "first_places" sFirst f fd) (T:TxtR mg):FnOk P w K mg base CX0 1 f fd ["lengths","order"] spFirst:=by
 refine F.ok scFirst (fun vs H Q E h=>?_) (fun cdv A outer s H vs Q E hr h=>?_)
 ·obtain ⟨p,q,ls,os,rfl,_⟩:=h
  rfl
 ·obtain ⟨p,q,ls,os,rfl,hp,hq,hlt,hn,k⟩:=h
  have hl:(iV ls).length=ls.length:=List.length_map ..
  have turn:∀ (fl:Addr) (i:Nat) (y:V) (σ:St) (H2:Hp) (D:Ends),(nV os)[i]?=some y→PvF p q fl ls os H i σ H2→D.nx=PvF p q fl ls os H (i + 1)→
    gName 4 y σ H2 fun σ2 H2=>tSeq (tAsg (tVar 3) (gSub (tVar 2) (tVar 4) rSetL)) (tAsg (tOp (rI0 fun i j=>.int (i + j)) (tVar 3) (tOp (rIxT K) (tVar 0) (tVar 4))) (gName 3)) D σ2 H2:=by
   rintro fl i y σ H2 D hy ⟨v,rfl,h1,h2,h3⟩ hD
   obtain ⟨hi,rfl,hm⟩:=nV_get hy
   have ho:=hlt _ hm
   refine ⟨_,rfl,_,rfl,_,rfl,fl,_,_,os.getD i 0,rfl,rfl,h1,J27 (by rw [List.length_map,J2i];exact ho),?_⟩
   refine ⟨_,rfl,_,rfl,_,rfl,p,_,_,_,rfl,rfl,SqT.of (xs:=iV ls) ?_,J6 (J15 ho),_,_,rfl,rfl,?_⟩
   ·rw [Jk (ne_of (h3 _ _ hp) h1 (by intro z;cases z))]
    exact h3 _ _ hp
   ·show D.nx _ _
    rw [hD]
    refine ⟨_,rfl,?_,h2,fun b o e=>?_⟩
    ·rw [J3,J5d];rfl
    ·rw [Jk (Jc e h2)];exact h3 _ _ e
  have start0:∀ fl,H fl=none→∀ H1,Same H H1→H1 fl=some (.lst (iV (List.replicate ls.length 0)))→PvF p q fl ls os H 0 [some (.ref p),some (.ref q),some (.ref fl),some (.int 0),none] H1:=fun fl h1 H1 h2 h3=>⟨none,rfl,h3,h1,h2⟩
  have done:∀ fl (σ:St) (H2:Hp),PvF p q fl ls os H (nV os).length σ H2→tRet (tCB (rTup K) (tCons (tVar 2) tNil)) { nx:=fun _ H'=>Q .non H',rt:=Q } σ H2:=by
   rintro fl σ H2 ⟨v,rfl,h1,h2,h3⟩
   have e:(nV os).length=os.length:=by simp [natI]
   rw [e] at h1
   exact ⟨_,rfl,J1n (.inl h1) fun l H' s hl=>k l _ (h3.trans s) hl⟩
  have rep:∀ fl,H fl=none→∀ l2,(upd H fl (.lst [V.int 0])) l2=none→PvF p q l2 ls os H 0 [some (.ref p),some (.ref q),some (.ref l2),some (.int 0),none] (upd (upd H fl (.lst [V.int 0])) l2 (.lst (List.replicate ((iV ls).length:Int).toNat [V.int 0]).flatten)):=fun fl hf l2 h2 =>
   start0 l2 ((J7 hf).free h2) _ ((J7 hf).trans (J7 h2)) (by rw [J3,flat_zero,hl];rfl)
  rcases hq with hq | hq
  ·refine ⟨_,J2 (Ji (i:=2) scFirst.nd rfl (Or.inl rfl) (pe_op op_rep (J2d (J0 Ja J4)) (Jo J16 (by rfl) T.len PySem.boot_len (J0 (pv 0) J4))))
    (J2 (Ji (i:=3) scFirst.nd rfl (Or.inl rfl) Ja)
    (J2 (J57 PassesOwn.never rfl (J43 (pv 1)) (J32 (i:=4) scFirst.nd rfl (Or.inl rfl)) (J2 (J4d (pv 3) (J4f (pv 2) (pv 4) J1h)) (J8 (Ji (i:=3) scFirst.nd rfl (Or.inl rfl) (pe_op J1m (pv 3) (pe_ix Jh (pv 0) (pv 4) (fun _ _=>rfl)))))))
    (J8 (Jg (Jn J1l (by rfl) T.tuple PyProof.Rows.boot_tuple (J0 (pv 2) J4)))))),?_⟩
   refine ⟨by show 1≤sizeLine;decide,fun fl hf=>⟨_,rfl,p,_,rfl,.inr (SqT.of (J7 hf _ _ hp)),fl,_,[V.int 0],rfl,rfl,J3,by omega,by omega,?_,fun l2 h2=>?_⟩⟩
   ·show 1 * ((iV ls).length:Int).toNat≤sizeLine
    have:=J18 (n:=ls.length) (by omega)
    omega
   ·have p0:=rep fl hf l2 h2
    exact ⟨_,rfl,q,rfl,⟨_,SqL.of (((J7 hf).trans (J7 h2)) _ _ hq)⟩,J5e (K:=K) (a:=q) (xs:=nV os) (PvF p q l2 ls os H) p0 (fun i σ H2 _ ⟨_,_,_,_,s⟩=>SqL.of (s _ _ hq)) (fun i y σ H2 hi pv=>turn l2 i y σ H2 _ hi pv rfl) (fun σ H2 pv=>done l2 σ H2 pv)⟩
  ·refine ⟨_,J2 (Ji (i:=2) scFirst.nd rfl (Or.inl rfl) (pe_op op_rep (J2d (J0 Ja J4)) (Jo J16 (by rfl) T.len PySem.boot_len (J0 (pv 0) J4))))
    (J2 (Ji (i:=3) scFirst.nd rfl (Or.inl rfl) Ja)
    (J2 (J57 PassesOwn.never rfl (pi_tup (pv 1)) (J32 (i:=4) scFirst.nd rfl (Or.inl rfl)) (J2 (J4d (pv 3) (J4f (pv 2) (pv 4) J1h)) (J8 (Ji (i:=3) scFirst.nd rfl (Or.inl rfl) (pe_op J1m (pv 3) (pe_ix Jh (pv 0) (pv 4) (fun _ _=>rfl)))))))
    (J8 (Jg (Jn J1l (by rfl) T.tuple PyProof.Rows.boot_tuple (J0 (pv 2) J4)))))),?_⟩
   refine ⟨by show 1≤sizeLine;decide,fun fl hf=>⟨_,rfl,p,_,rfl,.inr (SqT.of (J7 hf _ _ hp)),fl,_,[V.int 0],rfl,rfl,J3,by omega,by omega,?_,fun l2 h2=>?_⟩⟩
   ·show 1 * ((iV ls).length:Int).toNat≤sizeLine
    have:=J18 (n:=ls.length) (by omega)
    omega
   ·have p0:=rep fl hf l2 h2
    exact ⟨_,rfl,q,rfl,⟨_,SqT.of (((J7 hf).trans (J7 h2)) _ _ hq)⟩,for_tup (K:=K) (a:=q) (xs:=nV os) (PvF p q l2 ls os H) p0 (fun i σ H2 _ ⟨_,_,_,_,s⟩=>SqT.of (s _ _ hq)) (fun i y σ H2 hi pv=>turn l2 i y σ H2 _ hi pv rfl) (fun σ H2 pv=>done l2 σ H2 pv)⟩
structure FieldsAt (K:PySem.W.Frag) (H:Hp) (x:Addr) (ls:List Int) (ts:List Bool):Prop where
 ex:∃ (C dx:Addr) (fs:List (Str × V)) (pl pt:Addr),H x=some (.ins C dx fs)∧Cls K C∧NoAttr K C "lengths"∧NoAttr K C "turned"∧fs.lookup ("lengths":Str)=some (.ref pl)∧fs.lookup ("turned":Str)=some (.ref pt)∧H pl=some (.tup (iV ls))∧H pt=some (.tup (bV ts))
def spMovedF (K:PySem.W.Frag):Sp:=fun vs H Q _=>∃ (x p:Addr) (ls:List Int) (ts:List Bool) (fs:List Int) (j:Nat) (off:Int),vs=[.ref x,.int j,.int off,.ref p]∧FieldsAt K H x ls ts∧H p=some (.tup (iV fs))∧fs.length=ls.length∧ts.length=ls.length∧j < ls.length∧Q (.int (moveN ls ts j off fs)) H
theorem scMoved:FnScope ["line","piece","offset","firsts"] ["line","piece","offset","firsts"] (J1 sMoved):=⟨rfl,rfl,rfl,by decide +kernel,rfl,by decide +kernel,by decide +kernel⟩
theorem ok_movedF {f:Addr} {fd:FuncData} (F:Fun K "moved" "moved" sMoved f fd):FnOk P w K mg base CX0 1 f fd ["line","piece","offset","firsts"] (spMovedF K):=by
 refine F.ok scMoved (fun vs H Q E h=>?_) (fun cdv A outer s H vs Q E hr h=>?_)
 ·obtain ⟨x,p,ls,ts,fs,j,off,rfl,_⟩:=h
  rfl
 ·obtain ⟨x,p,ls,ts,fs,j,off,rfl,L,hp,hl,ht,hj,k⟩:=h
  obtain ⟨C,dx,fl,pl,pt,h0,cl,nL,nT,k1,k3,e1,e3⟩:=L.ex
  refine ⟨_,J2 (ps_if (J1o (pe_ix Jh (Je (pv 0) rfl) (pv 1) (fun _ _=>rfl))) (J8 (Jg (pe_op J4y (pe_op J4y (pe_op J1m (pe_ix Jh (pv 3) (pv 1) (fun _ _=>rfl)) (pe_ix Jh (Je (pv 0) rfl) (pv 1) (fun _ _=>rfl))) Ja) (pv 2)))) Jm)
   (J8 (Jg (pe_op J1m (pe_ix Jh (pv 3) (pv 1) (fun _ _=>rfl)) (pv 2)))),?_⟩
  refine ⟨_,rfl,x,C,dx,fl,_,rfl,h0,cl,nT,k3,_,rfl,pt,_,_,_,rfl,rfl,SqT.of e3,J6 (J26 (by rw [ht];exact hj)),_,rfl,?_⟩
  unfold moveN at k
  by_cases c:ts.getD j false=true
  ·rw [if_pos c] at k
   rw [if_pos c]
   exact ⟨_,rfl,_,rfl,p,_,_,_,rfl,rfl,SqT.of hp,J6 (J15 (by rw [hl];exact hj)),_,rfl,x,C,dx,fl,_,rfl,h0,cl,nL,k1,_,rfl,pl,_,_,_,rfl,rfl,SqT.of e1,J6 (J15 hj),_,_,rfl,rfl,_,_,rfl,rfl,_,rfl,_,_,rfl,rfl,k⟩
  ·rw [if_neg c] at k
   rw [if_neg c]
   exact ⟨_,rfl,_,rfl,p,_,_,_,rfl,rfl,SqT.of hp,J6 (J15 (by rw [hl];exact hj)),_,rfl,_,_,rfl,rfl,k⟩
end
section
def tCut (t:TS):TS:=fun D σ H=>∃ post:St→Hp→Prop,t { D with nx:=post } σ H∧∀ σ' H',post σ' H'→D.nx σ' H'
theorem J2a {X:Cx} {st:Stmt} {t:TS} (h:PS X st t):PS X st (tCut t):=by
 intro pins s σ H D I ⟨post,q,m⟩
 refine thn (h pins s σ H _ I q) fun f s' z=>?_
 cases f with
 | next=>obtain ⟨σ',H',I',z⟩:=z;exact ⟨σ',H',I',m σ' H' z⟩
 | brk=>exact z
 | cont=>exact z
 | ret u=>exact z
end
end R13
namespace R13
open PySem L2 Rl
section
variable {P:Program} {w:World} {K:PySem.W.Frag} {mg:Str→Option Value} {base:Heap}
def J4s (K:PySem.W.Frag):Sp:=fun vs H Q _=>∃ (C x q dx pl:Addr) (fs:List (Str × V)) (ls:List Int) (row:List Nat),vs=[.ref x,.ref q]∧H x=some (.ins C dx fs)∧Cls K C∧NoAttr K C "lengths"∧fs.lookup ("lengths":Str)=some (.ref pl)∧
 H pl=some (.tup (iV ls))∧H q=some (.tup (nV row))∧(∀ j∈row,j < ls.length)∧row.length≤24∧∀ H',Same H H'→Q (.int (lenOf ls row)) H'
theorem scLenOf:FnScope ["rest","letters"] ["rest","letters"] (J1 sLenOf):=⟨rfl,rfl,rfl,by decide +kernel,rfl,by decide +kernel,by decide +kernel⟩
theorem ok_lenOf {f:Addr} {fd:FuncData} (F:Fun K "length_of" "length_of" sLenOf f fd) (T:TxtR mg):FnOk P w K mg base CX0 1 f fd ["rest","letters"] (J4s K):=by
 refine F.ok scLenOf (fun vs H Q E h=>?_) (fun cdv A outer s H vs Q E hr h=>?_)
 ·obtain ⟨C,x,q,dx,pl,fs,ls,row,rfl,_⟩:=h
  rfl
 ·obtain ⟨C,x,q,dx,pl,fs,ls,row,rfl,hx,hC,hN,lk,hpl,hq,hlt,hn,k⟩:=h
  refine ⟨_,J8 (Jg (Jo (J2h rfl) (by rfl) T.sum PyProof.Rows.boot_sum (J0 (pe_lc (caps:=["rest"]) (js:=[0]) rfl (pi_tup (pv 1)) rfl (fun _ _ _ _=>J4v)
   (fun C fp s H=>pe_ixr (ix_tupK K) (pe_flK K (pv 1)) (pv 0))
   (by decide +kernel) (by decide +kernel) (by decide +kernel) (by intro p hp;simp only [List.mem_cons,List.not_mem_nil,or_false] at hp;rcases hp with rfl;rfl)) J4))),?_⟩
  refine ⟨_,rfl,q,rfl,⟨_,SqT.of hq⟩,fun d hd=>lc_tup (fun (j:Nat)=>V.int (j:Int)) row (fun _=>true) (fun j=>V.int (ls.getD j 0)) (by rw [← nV_eq];exact SqT.of hq) (by omega) hd
   (fun _ _ H _ _ k=>k H (Same.refl _)) (fun j hj H2 Qe _ s2 k=>?_) (fun H' s' hd'=>?_)⟩
  ·exact ⟨_,rfl,x,C,dx,fs,_,rfl,s2 _ _ hx,hC,hN,lk,_,rfl,pl,_,_,_,rfl,rfl,SqT.of (s2 _ _ hpl),J6 (J15 (hlt j hj)),k _ (Same.refl _)⟩
  ·rw [J1r] at hd'
   refine ⟨d,row.map fun j=>ls.getD j 0,rfl,.inl (SqL.of ?_),k H' s'⟩
   rw [hd',List.map_map];rfl
structure RestAt (CR:Addr) (H:Hp) (x:Addr) (r:Rst):Prop where
 ex:∃ (dx:Addr) (fs:List (Str × V)) (pt pb pl pu:Addr),H x=some (.ins CR dx fs)∧(fs.lookup ("top":Str)=some (.ref pt)∧fs.lookup ("bottom":Str)=some (.ref pb)∧fs.lookup ("lengths":Str)=some (.ref pl)∧
  fs.lookup ("turned":Str)=some (.ref pu)∧fs.lookup ("size":Str)=some (.int r.size))∧H pt=some (.tup (nV r.top))∧H pb=some (.tup (nV r.bot))∧H pl=some (.tup (iV r.ls))∧H pu=some (.tup (bV r.ts))
theorem RestAt.same {CR:Addr} {H H':Hp} {x:Addr} {r:Rst} (h:RestAt CR H x r) (s:Same H H'):RestAt CR H' x r:=by
 obtain ⟨dx,fs,pt,pb,pl,pu,h0,hl,h1,h2,h3,h4⟩:=h.ex
 exact ⟨dx,fs,pt,pb,pl,pu,s _ _ h0,hl,s _ _ h1,s _ _ h2,s _ _ h3,s _ _ h4⟩
structure TxtRest (K:PySem.W.Frag) (CR:Addr):Prop where
 cl:Cls K CR
 nT:NoAttr K CR "top"
 nB:NoAttr K CR "bottom"
 nL:NoAttr K CR "lengths"
 nU:NoAttr K CR "turned"
 nZ:NoAttr K CR "size"
theorem RestAt.fields {K:PySem.W.Frag} {CR:Addr} {H:Hp} {x:Addr} {r:Rst} (TR:TxtRest K CR) (h:RestAt CR H x r):FieldsAt K H x r.ls r.ts:=by
 obtain ⟨dx,fs,pt,pb,pl,pu,h0,⟨k1,k2,k3,k4,k5⟩,h1,h2,h3,h4⟩:=h.ex
 exact ⟨CR,dx,fs,pl,pu,h0,TR.cl,TR.nL,TR.nU,k3,k4,h3,h4⟩
def J2k (CR:Addr):Sp:=fun vs H Q _=>∃ (x dx p1 p2 p3 p4:Addr) (r:Rst),vs=[.ref x,.ref p1,.ref p2,.ref p3,.ref p4]∧H x=some (.ins CR dx [])∧SqH H p1 (nV r.top)∧SqH H p2 (nV r.bot)∧SqH H p3 (iV r.ls)∧SqH H p4 (bV r.ts)∧
 (∀ j∈r.top,j < r.ls.length)∧r.top.length≤24∧∀ H',RestAt CR H' x r→KeepX x H H'→Q .non H'
theorem scRInit:FnScope ["self","top","bottom","lengths","turned"] ["self","top","bottom","lengths","turned"] (J1 sRInit):=⟨rfl,rfl,rfl,by decide +kernel,rfl,by decide +kernel,by decide +kernel⟩
theorem ok_rinit {f fL CR:Addr} {fd fdL:FuncData} (F:Fun K "__init__" "Rest.__init__" sRInit f fd) (T:TxtR mg) (TR:TxtRest K CR)
  (GL:FnOk P w K mg base CX0 1 fL fdL ["rest","letters"] (J4s K)) (bL:Binds K fdL ["rest","letters"] []) (mL:mg "length_of"=some (.ref fL)) (kL:PySem.W.keepIn K (.ref fL)=true) :
  FnOk P w K mg base CX0 2 f fd ["self","top","bottom","lengths","turned"] (J2k CR):=by
 refine F.ok scRInit (fun vs H Q E h=>?_) (fun cdv A outer s H vs Q E hr h=>?_)
 ·obtain ⟨x,dx,p1,p2,p3,p4,r,rfl,_⟩:=h
  rfl
 ·obtain ⟨x,dx,p1,p2,p3,p4,r,rfl,hx,q1,q2,q3,q4,hlt,hn,k⟩:=h
  have n1:=q1.ne hx
  have n2:=q2.ne hx
  have n3:=q3.ne hx
  have n4:=q4.ne hx
  refine ⟨_,J2 (J4w (pv 0) (Jn J1l (by rfl) T.tuple PyProof.Rows.boot_tuple (J0 (pv 1) J4)) rfl)
   (J2 (J4w (pv 0) (Jn J1l (by rfl) T.tuple PyProof.Rows.boot_tuple (J0 (pv 2) J4)) rfl)
   (J2 (J4w (pv 0) (Jn J1l (by rfl) T.tuple PyProof.Rows.boot_tuple (J0 (pv 3) J4)) rfl)
   (J2 (J4w (pv 0) (Jn J1l (by rfl) T.tuple PyProof.Rows.boot_tuple (J0 (pv 4) J4)) rfl)
   (J8 (J4w (pv 0) (Jb GL hr rfl mL kL bL .nil pass0 (J0 (pv 0) (J0 (Je (pv 0) rfl) J4))) rfl))))),?_⟩
  refine ⟨_,rfl,J1n q1 fun pt H1 s1 hpt=>⟨_,rfl,x,CR,dx,[],rfl,s1 _ _ hx,TR.cl,TR.nT,(by show 0 < 1000;decide),?_⟩⟩
  generalize hfs1:putF ("top":Str) (.ref pt) []=fs1
  generalize hH2:upd H1 x (.ins CR dx fs1)=H2
  have l1:fs1.length≤1:=by rw [← hfs1];exact J11 ..
  have k2:KeepX x H H2:=by rw [← hH2];exact (KeepX.of s1).trans KeepX.upd
  have hx2:H2 x=some (.ins CR dx fs1):=by rw [← hH2];exact J3
  have ptx:pt≠x:=ne_of hpt (s1 _ _ hx) (by intro z;cases z)
  have hpt2:H2 pt=some (.tup (nV r.top)):=by rw [← hH2,Jk ptx];exact hpt
  refine ⟨_,rfl,J1n (k2.sqH q2 n2) fun pb H3 s3 hpb=>⟨_,rfl,x,CR,dx,fs1,rfl,s3 _ _ hx2,TR.cl,TR.nB,(by omega),?_⟩⟩
  generalize hfs2:putF ("bottom":Str) (.ref pb) fs1=fs2
  generalize hH4:upd H3 x (.ins CR dx fs2)=H4
  have l2:fs2.length≤2:=by rw [← hfs2];have:=J11 ("bottom":Str) (.ref pb) fs1;omega
  have k24:KeepX x H2 H4:=by rw [← hH4];exact (KeepX.of s3).trans KeepX.upd
  have k4:KeepX x H H4:=k2.trans k24
  have hx4:H4 x=some (.ins CR dx fs2):=by rw [← hH4];exact J3
  have pbx:pb≠x:=ne_of hpb (s3 _ _ hx2) (by intro z;cases z)
  have hpb4:H4 pb=some (.tup (nV r.bot)):=by rw [← hH4,Jk pbx];exact hpb
  refine ⟨_,rfl,J1n (k4.sqH q3 n3) fun pl H5 s5 hpl=>⟨_,rfl,x,CR,dx,fs2,rfl,s5 _ _ hx4,TR.cl,TR.nL,(by omega),?_⟩⟩
  generalize hfs3:putF ("lengths":Str) (.ref pl) fs2=fs3
  generalize hH6:upd H5 x (.ins CR dx fs3)=H6
  have l3:fs3.length≤3:=by rw [← hfs3];have:=J11 ("lengths":Str) (.ref pl) fs2;omega
  have k46:KeepX x H4 H6:=by rw [← hH6];exact (KeepX.of s5).trans KeepX.upd
  have k6:KeepX x H H6:=k4.trans k46
  have hx6:H6 x=some (.ins CR dx fs3):=by rw [← hH6];exact J3
  have plx:pl≠x:=ne_of hpl (s5 _ _ hx4) (by intro z;cases z)
  have hpl6:H6 pl=some (.tup (iV r.ls)):=by rw [← hH6,Jk plx];exact hpl
  refine ⟨_,rfl,J1n (k6.sqH q4 n4) fun pu H7 s7 hpu=>⟨_,rfl,x,CR,dx,fs3,rfl,s7 _ _ hx6,TR.cl,TR.nU,(by omega),?_⟩⟩
  generalize hfs4:putF ("turned":Str) (.ref pu) fs3=fs4
  generalize hH8:upd H7 x (.ins CR dx fs4)=H8
  have l4:fs4.length≤4:=by rw [← hfs4];have:=J11 ("turned":Str) (.ref pu) fs3;omega
  have k68:KeepX x H6 H8:=by rw [← hH8];exact (KeepX.of s7).trans KeepX.upd
  have k8:KeepX x H H8:=k6.trans k68
  have hx8:H8 x=some (.ins CR dx fs4):=by rw [← hH8];exact J3
  have pux:pu≠x:=ne_of hpu (s7 _ _ hx6) (by intro z;cases z)
  have hpu8:H8 pu=some (.tup (bV r.ts)):=by rw [← hH8,Jk pux];exact hpu
  have hpl8:H8 pl=some (.tup (iV r.ls)):=k68 _ _ hpl6 plx
  have hpb8:H8 pb=some (.tup (nV r.bot)):=k68 _ _ (k46 _ _ hpb4 pbx) pbx
  have hpt8:H8 pt=some (.tup (nV r.top)):=k68 _ _ (k46 _ _ (k24 _ _ hpt2 ptx) ptx) ptx
  have lkT:fs4.lookup ("top":Str)=some (.ref pt):=by rw [← hfs4,lk_ne (by decide +kernel),← hfs3,lk_ne (by decide +kernel),← hfs2,lk_ne (by decide +kernel),← hfs1,J33]
  have lkB:fs4.lookup ("bottom":Str)=some (.ref pb):=by rw [← hfs4,lk_ne (by decide +kernel),← hfs3,lk_ne (by decide +kernel),← hfs2,J33]
  have lkL:fs4.lookup ("lengths":Str)=some (.ref pl):=by rw [← hfs4,lk_ne (by decide +kernel),← hfs3,J33]
  have lkU:fs4.lookup ("turned":Str)=some (.ref pu):=by rw [← hfs4,J33]
  refine ⟨_,rfl,_,rfl,x,CR,dx,fs4,_,rfl,hx8,TR.cl,TR.nT,lkT,CR,x,pt,dx,pl,fs4,r.ls,r.top,rfl,hx8,TR.cl,TR.nL,lkL,hpl8,hpt8,hlt,hn,fun H9 s9=>?_⟩
  refine ⟨_,rfl,x,CR,dx,fs4,rfl,s9 _ _ hx8,TR.cl,TR.nZ,(by omega),?_⟩
  have kz:KeepX x H8 (upd H9 x (.ins CR dx (putF ("size":Str) (.int (lenOf r.ls r.top)) fs4))):=(KeepX.of s9).trans KeepX.upd
  refine k _ ⟨dx,_,pt,pb,pl,pu,J3,⟨?_,?_,?_,?_,J33⟩,kz _ _ hpt8 ptx,kz _ _ hpb8 pbx,kz _ _ hpl8 plx,kz _ _ hpu8 pux⟩ (k8.trans kz)
  ·rw [lk_ne (by decide +kernel),lkT]
  ·rw [lk_ne (by decide +kernel),lkB]
  ·rw [lk_ne (by decide +kernel),lkL]
  ·rw [lk_ne (by decide +kernel),lkU]
end
section
variable {P:Program} {w:World} {K:PySem.W.Frag} {mg:Str→Option Value} {base:Heap}
def spLetIn (CO CR:Addr):Sp:=fun vs H Q E=>∃ (x q:Addr) (r:Rst) (row:List Nat) (y:Int),vs=[.ref x,.ref q,.int y]∧RestAt CR H x r∧H q=some (.tup (nV row))∧Row r.ls row∧(∀ i,AtR r.ls row y i→Q (.int (row.getD i 0:Nat)) H)∧(¬ (0≤y∧y < lenOf r.ls row)→E (.ref CO) none H)
theorem scLetIn:FnScope ["rest","row","y","end","letter"] ["rest","row","y"] (J1 sLetIn):=⟨rfl,rfl,rfl,by decide +kernel,rfl,by decide +kernel,by decide +kernel⟩
theorem ok_letIn {f CO CR:Addr} {fd:FuncData} (F:Fun K "letter_in" "letter_in" sLetIn f fd) (TR:TxtRest K CR) (TO:TxtX K mg "Outside" CO):FnOk P w K mg base (Exc1 P w) 1 f fd ["rest","row","y"] (spLetIn CO CR):=by
 refine F.okX scLetIn (fun vs H Q E h=>?_) (fun cdv A outer s H vs Q E hr h=>?_)
 ·obtain ⟨x,q,r,row,y,rfl,_⟩:=h
  rfl
 ·obtain ⟨x,q,r,row,y,rfl,R,hq,hrow,k,kx⟩:=h
  obtain ⟨dx,fs,pt,pb,pl,pu,h0,⟨k1,k2,k3,k4,k5⟩,e1,e2,e3,e4⟩:=R.ex
  refine ⟨_,J2 (ps_if (Jl op_lt (pv 2) Ja (Ju _)) (J8 (ps_raise rfl TO.mg TO.ex)) Jm)
   (J2 (Ji (i:=3) scLetIn.nd rfl (Or.inl rfl) Ja)
   (J2 (ps_nox (J57 PassesOwn.never rfl (pi_tup (pv 1)) (J32 (i:=4) scLetIn.nd rfl (Or.inl rfl))
    (J2 (Ji (i:=3) scLetIn.nd rfl (Or.inl rfl) (pe_op J1m (pv 3) (pe_ix Jh (Je (pv 0) rfl) (pv 4) (fun _ _=>rfl))))
    (J8 (ps_if (Jl op_lt (pv 2) (pv 3) (Ju _)) (J8 (Jg (pv 4))) Jm)))))
   (J8 (ps_raise rfl TO.mg TO.ex)))),?_⟩
  refine ⟨_,rfl,_,_,rfl,rfl,_,rfl,?_⟩
  by_cases c0:y < 0
  ·exact iteDT c0 (kx (by omega))
  refine iteD c0 ?_
  refine ⟨_,rfl,q,rfl,⟨_,SqT.of hq⟩,for_tup (K:=K) (a:=q) (xs:=nV row)
   (fun i σ H2=>∃ v,σ=[some (.ref x),some (.ref q),some (.int y),some (.int (Jz r.ls row i)),v]∧H2=H∧Jz r.ls row i≤y) ⟨none,rfl,rfl,by rw [J1g];omega⟩ (fun i σ H2 _ ⟨_,_,e,_⟩=>e ▸ SqT.of hq) ?_ ?_⟩
  ·rintro i z σ H2 hz ⟨v,rfl,rfl,hi⟩
   obtain ⟨hil,rfl,hm⟩:=nV_get hz
   refine ⟨_,rfl,_,rfl,x,CR,dx,fs,_,rfl,h0,TR.cl,TR.nL,k3,_,rfl,pl,_,_,_,rfl,rfl,SqT.of e3,J6 (J15 (hrow.lt _ hm)),_,_,rfl,rfl,?_⟩
   refine ⟨_,rfl,_,rfl,_,_,rfl,rfl,_,rfl,?_⟩
   have es:=Jy r.ls row i
   by_cases c:y < Jz r.ls row i + r.ls.getD (row.getD i 0) 0
   ·exact iteDT c ⟨_,rfl,k i ⟨hil,hi,by rw [es];exact c⟩⟩
   ·exact iteD c ⟨_,by rw [es];rfl,rfl,by rw [es];omega⟩
  ·rintro σ H2 ⟨v,rfl,rfl,hi⟩
   rw [J2e,J2y] at hi
   refine kx fun n=>?_
   have h2:=n.2
   omega
def spLetter (CO CR:Addr):Sp:=fun vs H Q E=>∃ (x:Addr) (r:Rst) (y:Int),vs=[.ref x,.int y]∧RestAt CR H x r∧Row r.ls r.top∧(∀ i,AtR r.ls r.top y i→Q (.int (r.top.getD i 0:Nat)) H)∧(¬ (0≤y∧y < r.size)→E (.ref CO) none H)
theorem scLetter:FnScope ["rest","y"] ["rest","y"] (J1 J3w):=⟨rfl,rfl,rfl,by decide +kernel,rfl,by decide +kernel,by decide +kernel⟩
theorem ok_letter {f fI CO CR:Addr} {fd fdI:FuncData} (F:Fun K "letter_at" "letter_at" J3w f fd) (TR:TxtRest K CR)
  (GI:FnOk P w K mg base (Exc1 P w) 1 fI fdI ["rest","row","y"] (spLetIn CO CR)) (bI:Binds K fdI ["rest","row","y"] []) (mI:mg "letter_in"=some (.ref fI)) (kI:PySem.W.keepIn K (.ref fI)=true) :
  FnOk P w K mg base (Exc1 P w) 2 f fd ["rest","y"] (spLetter CO CR):=by
 refine F.okX scLetter (fun vs H Q E h=>?_) (fun cdv A outer s H vs Q E hr h=>?_)
 ·obtain ⟨x,r,y,rfl,_⟩:=h
  rfl
 ·obtain ⟨x,r,y,rfl,R,hrow,k,kx⟩:=h
  obtain ⟨dx,fs,pt,pb,pl,pu,h0,⟨k1,k2,k3,k4,k5⟩,e1,e2,e3,e4⟩:=R.ex
  refine ⟨_,J8 (Jg (Jb GI hr rfl mI kI bI .nil pass1 (J0 (pv 0) (J0 (Je (pv 0) rfl) (J0 (pv 1) J4))))),?_⟩
  exact ⟨_,rfl,_,rfl,x,CR,dx,fs,_,rfl,h0,TR.cl,TR.nT,k1,_,rfl,x,pt,r,r.top,y,rfl,R,e1,hrow,k,kx⟩
def spGone (CO CR:Addr):Sp:=fun vs H Q E=>∃ (x p1 p2:Addr) (r:Rst) (r1 r2:List Nat) (y:Int),vs=[.ref x,.int y,.ref p1,.ref p2]∧RestAt CR H x r∧H p1=some (.tup (nV r1))∧H p2=some (.tup (nV r2))∧Row r.ls r1∧Row r.ls r2∧r.ts.length=r.ls.length∧r.ls.length≤24∧
 (∀ i H',Same H H'→AtR r.ls r1 y i→Q (.int (moveN r.ls r.ts (r1.getD i 0) (y - Jz r.ls r1 i) (firsts r.ls r2))) H')∧(¬ (0≤y∧y < lenOf r.ls r1)→E (.ref CO) none H)
theorem scGone:FnScope ["rest","y","from_row","to_row","letter","offset"] ["rest","y","from_row","to_row"] (J1 sGone):=⟨rfl,rfl,rfl,by decide +kernel,rfl,by decide +kernel,by decide +kernel⟩
theorem ok_gone {f fA fM fF CO CR:Addr} {fd fdA fdM fdF:FuncData} (F:Fun K "gone_between" "gone_between" sGone f fd) (TR:TxtRest K CR)
  (GA:FnOk P w K mg base (Exc1 P w) 1 fA fdA ["rest","row","y"] (spLetIn CO CR)) (bA:Binds K fdA ["rest","row","y"] []) (mA:mg "letter_in"=some (.ref fA)) (kA:PySem.W.keepIn K (.ref fA)=true)
  (GF:FnOk P w K mg base CX0 1 fF fdF ["lengths","order"] spFirst) (bF:Binds K fdF ["lengths","order"] []) (mF:mg "first_places"=some (.ref fF)) (kF:PySem.W.keepIn K (.ref fF)=true)
  (GM:FnOk P w K mg base CX0 1 fM fdM ["line","piece","offset","firsts"] (spMovedF K)) (bM:Binds K fdM ["line","piece","offset","firsts"] []) (mM:mg "moved"=some (.ref fM)) (kM:PySem.W.keepIn K (.ref fM)=true) :
  FnOk P w K mg base (Exc1 P w) 2 f fd ["rest","y","from_row","to_row"] (spGone CO CR):=by
 refine F.okX scGone (fun vs H Q E h=>?_) (fun cdv A outer s H vs Q E hr h=>?_)
 ·obtain ⟨x,p1,p2,r,r1,r2,y,rfl,_⟩:=h
  rfl
 ·obtain ⟨x,p1,p2,r,r1,r2,y,rfl,R,hp1,hp2,w1,w2,hts,few,k,kx⟩:=h
  obtain ⟨dx,fs,pt,pb,pl,pu,h0,⟨k1,k2,k3,k4,k5⟩,e1,e2,e3,e4⟩:=R.ex
  refine ⟨_,J2 (Ji (i:=4) scGone.nd rfl (Or.inl rfl) (Jb GA hr rfl mA kA bA .nil pass1 (J0 (pv 0) (J0 (pv 2) (J0 (pv 1) J4)))))
   (J2 (Ji (i:=5) scGone.nd rfl (Or.inl rfl) (pe_op J4y (pv 1) (pe_ix Jh (Jb GF hr rfl mF kF bF .nil pass0 (J0 (Je (pv 0) rfl) (J0 (pv 2) J4))) (pv 4) (fun _ _=>rfl))))
   (J8 (Jg (Jb GM hr rfl mM kM bM .nil pass0 (J0 (pv 0) (J0 (pv 4) (J0 (pv 5) (J0 (Jb GF hr rfl mF kF bF .nil pass0 (J0 (Je (pv 0) rfl) (J0 (pv 3) J4))) J4)))))))),?_⟩
  refine ⟨_,rfl,_,rfl,_,rfl,x,p1,r,r1,y,rfl,R,hp1,w1,fun i hi=>?_,kx⟩
  have hj:r1.getD i 0 < r.ls.length:=w1.lt _ (J1k hi.1)
  refine ⟨_,rfl,_,rfl,x,CR,dx,fs,_,rfl,h0,TR.cl,TR.nL,k3,_,rfl,pl,p1,r.ls,r1,rfl,e3,.inr hp1,w1.lt,few,fun l H1 s1 hl=>?_⟩
  refine ⟨_,rfl,l,_,_,_,rfl,rfl,SqT.of hl,J6 (J15 (by rw [J51];exact hj)),_,_,rfl,rfl,?_⟩
  refine ⟨_,rfl,_,rfl,_,rfl,_,rfl,x,CR,dx,fs,_,rfl,s1 _ _ h0,TR.cl,TR.nL,k3,_,rfl,pl,p2,r.ls,r2,rfl,s1 _ _ e3,.inr (s1 _ _ hp2),w2.lt,few,fun l2 H2 s2 hl2=>?_⟩
  refine ⟨x,l2,r.ls,r.ts,firsts r.ls r2,r1.getD i 0,_,rfl,((R.same s1).same s2).fields TR,hl2,J51 _ _,hts,hj,?_⟩
  rw [w1.first hi.1]
  exact k i H2 (s1.trans s2) hi
def spRGoes (CO CR:Addr):Sp:=fun vs H Q E=>∃ (x:Addr) (r:Rst) (y:Int),vs=[.ref x,.int y]∧RestAt CR H x r∧r.Ok∧(∀ z H',Same H H'→GoesTo r y z→Q (.int z) H')∧(¬ (0≤y∧y < r.size)→E (.ref CO) none H)
theorem scRGoes:FnScope ["rest","y"] ["rest","y"] (J1 sRGoes):=⟨rfl,rfl,rfl,by decide +kernel,rfl,by decide +kernel,by decide +kernel⟩
theorem ok_rgoes {f fG CO CR:Addr} {fd fdG:FuncData} (F:Fun K "rest_goes" "rest_goes" sRGoes f fd) (TR:TxtRest K CR)
  (GG:FnOk P w K mg base (Exc1 P w) 2 fG fdG ["rest","y","from_row","to_row"] (spGone CO CR)) (bG:Binds K fdG ["rest","y","from_row","to_row"] []) (mG:mg "gone_between"=some (.ref fG)) (kG:PySem.W.keepIn K (.ref fG)=true) :
  FnOk P w K mg base (Exc1 P w) 3 f fd ["rest","y"] (spRGoes CO CR):=by
 refine F.okX scRGoes (fun vs H Q E h=>?_) (fun cdv A outer s H vs Q E hr h=>?_)
 ·obtain ⟨x,r,y,rfl,_⟩:=h
  rfl
 ·obtain ⟨x,r,y,rfl,R,ok,k,kx⟩:=h
  obtain ⟨dx,fs,pt,pb,pl,pu,h0,⟨k1,k2,k3,k4,k5⟩,e1,e2,e3,e4⟩:=R.ex
  refine ⟨_,J8 (Jg (Jb GG hr rfl mG kG bG .nil pass1 (J0 (pv 0) (J0 (pv 1) (J0 (Je (pv 0) rfl) (J0 (Je (pv 0) rfl) J4)))))),?_⟩
  exact ⟨_,rfl,_,rfl,_,rfl,x,CR,dx,fs,_,rfl,h0,TR.cl,TR.nT,k1,_,rfl,x,CR,dx,fs,_,rfl,h0,TR.cl,TR.nB,k2,x,pt,pb,r,r.top,r.bot,y,rfl,R,e1,e2,ok.row,ok.rowB,ok.len,ok.few,fun i H' s' hi=>k _ H' s' ⟨i,hi,rfl⟩,kx⟩
end
end R13
namespace R13
open PySem L2 Rl
section
variable {P:Program} {w:World} {K:PySem.W.Frag} {mg:Str→Option Value} {base:Heap}
inductive Kd where
 | ho | ev | ov | un | os | us
 deriving DecidableEq
def kd:Stp→Kd
 | .home _=>.ho | .even _ _=>.ev | .over _ _=>.ov | .under _ _=>.un | .overs _ _=>.os | .unders _ _=>.us
def loseV:Stp→V
 | .even _ b=>.int (b:Nat) | .over _ b=>.int (b:Nat) | .under _ b=>.int (b:Nat) | _=>.non
def stF (s:Stp):List (Str × V):=putF ("times":Str) (.int s.times) (putF ("loser":Str) (loseV s) (putF ("winner":Str) (.int (s.winner:Nat)) []))
theorem stF_w (s:Stp):(stF s).lookup ("winner":Str)=some (.int (s.winner:Nat)):=by unfold stF;rw [lk_ne (by decide +kernel),lk_ne (by decide +kernel),J33]
theorem stF_l (s:Stp):(stF s).lookup ("loser":Str)=some (loseV s):=by unfold stF;rw [lk_ne (by decide +kernel),J33]
theorem stF_t (s:Stp):(stF s).lookup ("times":Str)=some (.int s.times):=by unfold stF;rw [J33]
theorem stF_no (s:Stp) {m:Str} (h1:¬ m=("times":Str)) (h2:¬ m=("loser":Str)) (h3:¬ m=("winner":Str)):(stF s).lookup m=none:=by
 unfold stF
 rw [lk_ne h1,lk_ne h2,lk_ne h3];rfl
def StepAt (cs:Kd→Addr) (H:Hp) (p:Addr) (s:Stp):Prop:=∃ dx,H p=some (.ins (cs (kd s)) dx (stF s))
theorem StepAt.same {cs:Kd→Addr} {H H':Hp} {p:Addr} {s:Stp} (h:StepAt cs H p s) (e:Same H H'):StepAt cs H' p s:=let ⟨dx,q⟩:=h;⟨dx,e _ _ q⟩
structure TxtS (K:PySem.W.Frag) (cs:Kd→Addr):Prop where
 cl:∀ k,Cls K (cs k)
 nW:∀ k,NoAttr K (cs k) "winner"
 nL:∀ k,NoAttr K (cs k) "loser"
 nT:∀ k,NoAttr K (cs k) "times"
def J3c (cs:Kd→Addr):Sp:=fun vs H Q _=>∃ (x dx:Addr) (k:Kd) (a b c:V),vs=[.ref x,a,b,c]∧H x=some (.ins (cs k) dx [])∧Q .non (upd H x (.ins (cs k) dx (putF ("times":Str) c (putF ("loser":Str) b (putF ("winner":Str) a [])))))
theorem scSInit:FnScope ["self","winner","loser","times"] ["self","winner","loser","times"] (J1 J3r):=⟨rfl,rfl,rfl,by decide +kernel,rfl,by decide +kernel,by decide +kernel⟩
theorem ok_sinit {f:Addr} {fd:FuncData} {cs:Kd→Addr} (F:Fun K "__init__" "Step.__init__" J3r f fd) (TS:TxtS K cs):FnOk P w K mg base CX0 1 f fd ["self","winner","loser","times"] (J3c cs):=by
 refine F.ok scSInit (fun vs H Q E h=>?_) (fun cdv A outer s H vs Q E hr h=>?_)
 ·obtain ⟨x,dx,k,a,b,c,rfl,_⟩:=h
  rfl
 ·obtain ⟨x,dx,k,a,b,c,rfl,hx,q⟩:=h
  refine ⟨_,J2 (J4w (pv 0) (pv 1) rfl) (J2 (J4w (pv 0) (pv 2) rfl) (J8 (J4w (pv 0) (pv 3) rfl))),?_⟩
  have l1:(putF ("winner":Str) a []).length≤1:=J11 ..
  have l2:(putF ("loser":Str) b (putF ("winner":Str) a [])).length≤2:=by have:=J11 ("loser":Str) b (putF ("winner":Str) a []);omega
  refine ⟨_,rfl,_,rfl,x,cs k,dx,[],rfl,hx,TS.cl k,TS.nW k,(by show 0 < 1000;decide),?_⟩
  refine ⟨_,rfl,_,rfl,x,cs k,dx,_,rfl,J3,TS.cl k,TS.nL k,(by omega),?_⟩
  rw [upd_upd]
  refine ⟨_,rfl,_,rfl,x,cs k,dx,_,rfl,J3,TS.cl k,TS.nT k,(by omega),?_⟩
  rw [upd_upd]
  exact q
def spMk (cs:Kd→Addr) (args:List V→Stp→Prop):Sp:=fun vs H Q _=>∃ (x dx:Addr) (us:List V) (s:Stp),vs=.ref x :: us∧args us s∧H x=some (.ins (cs (kd s)) dx [])∧Q .non (upd H x (.ins (cs (kd s)) dx (stF s)))
def aHo (us:List V) (s:Stp):Prop:=∃ a:Nat,us=[.int (a:Nat)]∧s=.home a
def aEv (us:List V) (s:Stp):Prop:=∃ a b:Nat,us=[.int (a:Nat),.int (b:Nat)]∧s=.even a b
def aOv (us:List V) (s:Stp):Prop:=∃ a b:Nat,us=[.int (a:Nat),.int (b:Nat)]∧s=.over a b
def aUn (us:List V) (s:Stp):Prop:=∃ a b:Nat,us=[.int (a:Nat),.int (b:Nat)]∧s=.under a b
def aOs (us:List V) (s:Stp):Prop:=∃ (a:Nat) (t:Int),us=[.int (a:Nat),.int t]∧s=.overs a t
def aUs (us:List V) (s:Stp):Prop:=∃ (a:Nat) (t:Int),us=[.int (a:Nat),.int t]∧s=.unders a t
theorem scHoInit:FnScope ["self","winner"] ["self","winner"] (J1 J3y):=⟨rfl,rfl,rfl,by decide +kernel,rfl,by decide +kernel,by decide +kernel⟩
theorem ok_hoinit {f fS CS:Addr} {fd fdS:FuncData} {cs:Kd→Addr} (F:Fun K "__init__" "Home.__init__" J3y f fd) (B:BaseM K CS "__init__" fS) (mS:mg "Step"=some (.ref CS)) (GS:FnOk P w K mg base CX0 1 fS fdS ["self","winner","loser","times"] (J3c cs)) (bS:Binds K fdS ["self","winner","loser","times"] []) :
  FnOk P w K mg base CX0 2 f fd ["self","winner"] (spMk cs aHo):=by
 refine F.ok scHoInit (fun vs H Q E h=>?_) (fun cdv A outer s H vs Q E hr h=>?_)
 ·obtain ⟨x,dx,us,s,rfl,⟨a,rfl,rfl⟩,_⟩:=h
  rfl
 ·obtain ⟨x,dx,us,s,rfl,⟨a,rfl,rfl⟩,hx,q⟩:=h
  refine ⟨_,J8 (J31 (J44 B rfl mS GS hr bS .nil pass0 (J0 (pv 0) (J0 (pv 1) (J0 pe_non (J0 Ja J4)))))),?_⟩
  exact ⟨_,rfl,_,rfl,x,dx,.ho,_,_,_,rfl,hx,q⟩
theorem scEvInit:FnScope ["self","winner","loser"] ["self","winner","loser"] (J1 J40):=⟨rfl,rfl,rfl,by decide +kernel,rfl,by decide +kernel,by decide +kernel⟩
theorem ok_evinit {f fS CS:Addr} {fd fdS:FuncData} {cs:Kd→Addr} (F:Fun K "__init__" "Even.__init__" J40 f fd) (B:BaseM K CS "__init__" fS) (mS:mg "Step"=some (.ref CS)) (GS:FnOk P w K mg base CX0 1 fS fdS ["self","winner","loser","times"] (J3c cs)) (bS:Binds K fdS ["self","winner","loser","times"] []) :
  FnOk P w K mg base CX0 2 f fd ["self","winner","loser"] (spMk cs aEv):=by
 refine F.ok scEvInit (fun vs H Q E h=>?_) (fun cdv A outer s H vs Q E hr h=>?_)
 ·obtain ⟨x,dx,us,s,rfl,⟨a,b,rfl,rfl⟩,_⟩:=h
  rfl
 ·obtain ⟨x,dx,us,s,rfl,⟨a,b,rfl,rfl⟩,hx,q⟩:=h
  refine ⟨_,J8 (J31 (J44 B rfl mS GS hr bS .nil pass0 (J0 (pv 0) (J0 (pv 1) (J0 (pv 2) (J0 Ja J4)))))),?_⟩
  exact ⟨_,rfl,_,rfl,_,rfl,x,dx,.ev,_,_,_,rfl,hx,q⟩
theorem scOvInit:FnScope ["self","winner","loser"] ["self","winner","loser"] (J1 J3t):=⟨rfl,rfl,rfl,by decide +kernel,rfl,by decide +kernel,by decide +kernel⟩
theorem ok_ovinit {f fS CS:Addr} {fd fdS:FuncData} {cs:Kd→Addr} (F:Fun K "__init__" "Over.__init__" J3t f fd) (B:BaseM K CS "__init__" fS) (mS:mg "Step"=some (.ref CS)) (GS:FnOk P w K mg base CX0 1 fS fdS ["self","winner","loser","times"] (J3c cs)) (bS:Binds K fdS ["self","winner","loser","times"] []) :
  FnOk P w K mg base CX0 2 f fd ["self","winner","loser"] (spMk cs aOv):=by
 refine F.ok scOvInit (fun vs H Q E h=>?_) (fun cdv A outer s H vs Q E hr h=>?_)
 ·obtain ⟨x,dx,us,s,rfl,⟨a,b,rfl,rfl⟩,_⟩:=h
  rfl
 ·obtain ⟨x,dx,us,s,rfl,⟨a,b,rfl,rfl⟩,hx,q⟩:=h
  refine ⟨_,J8 (J31 (J44 B rfl mS GS hr bS .nil pass0 (J0 (pv 0) (J0 (pv 1) (J0 (pv 2) (J0 Ja J4)))))),?_⟩
  exact ⟨_,rfl,_,rfl,_,rfl,x,dx,.ov,_,_,_,rfl,hx,q⟩
theorem scUnInit:FnScope ["self","winner","loser"] ["self","winner","loser"] (J1 J3p):=⟨rfl,rfl,rfl,by decide +kernel,rfl,by decide +kernel,by decide +kernel⟩
theorem ok_uninit {f fS CS:Addr} {fd fdS:FuncData} {cs:Kd→Addr} (F:Fun K "__init__" "Under.__init__" J3p f fd) (B:BaseM K CS "__init__" fS) (mS:mg "Step"=some (.ref CS)) (GS:FnOk P w K mg base CX0 1 fS fdS ["self","winner","loser","times"] (J3c cs)) (bS:Binds K fdS ["self","winner","loser","times"] []) :
  FnOk P w K mg base CX0 2 f fd ["self","winner","loser"] (spMk cs aUn):=by
 refine F.ok scUnInit (fun vs H Q E h=>?_) (fun cdv A outer s H vs Q E hr h=>?_)
 ·obtain ⟨x,dx,us,s,rfl,⟨a,b,rfl,rfl⟩,_⟩:=h
  rfl
 ·obtain ⟨x,dx,us,s,rfl,⟨a,b,rfl,rfl⟩,hx,q⟩:=h
  refine ⟨_,J8 (J31 (J44 B rfl mS GS hr bS .nil pass0 (J0 (pv 0) (J0 (pv 1) (J0 (pv 2) (J0 Ja J4)))))),?_⟩
  exact ⟨_,rfl,_,rfl,_,rfl,x,dx,.un,_,_,_,rfl,hx,q⟩
theorem scOsInit:FnScope ["self","winner","times"] ["self","winner","times"] (J1 J3v):=⟨rfl,rfl,rfl,by decide +kernel,rfl,by decide +kernel,by decide +kernel⟩
theorem ok_osinit {f fS CS:Addr} {fd fdS:FuncData} {cs:Kd→Addr} (F:Fun K "__init__" "Overs.__init__" J3v f fd) (B:BaseM K CS "__init__" fS) (mS:mg "Step"=some (.ref CS)) (GS:FnOk P w K mg base CX0 1 fS fdS ["self","winner","loser","times"] (J3c cs)) (bS:Binds K fdS ["self","winner","loser","times"] []) :
  FnOk P w K mg base CX0 2 f fd ["self","winner","times"] (spMk cs aOs):=by
 refine F.ok scOsInit (fun vs H Q E h=>?_) (fun cdv A outer s H vs Q E hr h=>?_)
 ·obtain ⟨x,dx,us,s,rfl,⟨a,b,rfl,rfl⟩,_⟩:=h
  rfl
 ·obtain ⟨x,dx,us,s,rfl,⟨a,b,rfl,rfl⟩,hx,q⟩:=h
  refine ⟨_,J8 (J31 (J44 B rfl mS GS hr bS .nil pass0 (J0 (pv 0) (J0 (pv 1) (J0 pe_non (J0 (pv 2) J4)))))),?_⟩
  exact ⟨_,rfl,_,rfl,_,rfl,x,dx,.os,_,_,_,rfl,hx,q⟩
theorem scUsInit:FnScope ["self","winner","times"] ["self","winner","times"] (J1 J3m):=⟨rfl,rfl,rfl,by decide +kernel,rfl,by decide +kernel,by decide +kernel⟩
theorem ok_usinit {f fS CS:Addr} {fd fdS:FuncData} {cs:Kd→Addr} (F:Fun K "__init__" "Unders.__init__" J3m f fd) (B:BaseM K CS "__init__" fS) (mS:mg "Step"=some (.ref CS)) (GS:FnOk P w K mg base CX0 1 fS fdS ["self","winner","loser","times"] (J3c cs)) (bS:Binds K fdS ["self","winner","loser","times"] []) :
  FnOk P w K mg base CX0 2 f fd ["self","winner","times"] (spMk cs aUs):=by
 refine F.ok scUsInit (fun vs H Q E h=>?_) (fun cdv A outer s H vs Q E hr h=>?_)
 ·obtain ⟨x,dx,us,s,rfl,⟨a,b,rfl,rfl⟩,_⟩:=h
  rfl
 ·obtain ⟨x,dx,us,s,rfl,⟨a,b,rfl,rfl⟩,hx,q⟩:=h
  refine ⟨_,J8 (J31 (J44 B rfl mS GS hr bS .nil pass0 (J0 (pv 0) (J0 (pv 1) (J0 pe_non (J0 (pv 2) J4)))))),?_⟩
  exact ⟨_,rfl,_,rfl,_,rfl,x,dx,.us,_,_,_,rfl,hx,q⟩
def wordS:Kd→Str
 | .ho=>"home" | .ev=>"even" | .ov=>"over" | .un=>"under" | .os=>"overs" | .us=>"unders"
def J48 (k:Kd):Sp:=fun vs H Q _=>∃ x:Addr,vs=[.ref x]∧Q (.str (wordS k)) H
theorem scHoWord:FnScope ["self"] ["self"] (J1 J3x):=⟨rfl,rfl,rfl,by decide +kernel,rfl,by decide +kernel,by decide +kernel⟩
theorem ok_howord {f:Addr} {fd:FuncData} (F:Fun K "word" "Home.word" J3x f fd):FnOk P w K mg base CX0 1 f fd ["self"] (J48 .ho):=by
 refine F.ok scHoWord (fun vs H Q E h=>?_) (fun cdv A outer s H vs Q E hr h=>?_)
 ·obtain ⟨x,rfl,_⟩:=h
  rfl
 ·obtain ⟨x,rfl,q⟩:=h
  exact ⟨_,J8 (Jg J1c),q⟩
theorem scEvWord:FnScope ["self"] ["self"] (J1 J3z):=⟨rfl,rfl,rfl,by decide +kernel,rfl,by decide +kernel,by decide +kernel⟩
theorem ok_evword {f:Addr} {fd:FuncData} (F:Fun K "word" "Even.word" J3z f fd):FnOk P w K mg base CX0 1 f fd ["self"] (J48 .ev):=by
 refine F.ok scEvWord (fun vs H Q E h=>?_) (fun cdv A outer s H vs Q E hr h=>?_)
 ·obtain ⟨x,rfl,_⟩:=h
  rfl
 ·obtain ⟨x,rfl,q⟩:=h
  exact ⟨_,J8 (Jg J1c),q⟩
theorem scOvWord:FnScope ["self"] ["self"] (J1 J3s):=⟨rfl,rfl,rfl,by decide +kernel,rfl,by decide +kernel,by decide +kernel⟩
theorem ok_ovword {f:Addr} {fd:FuncData} (F:Fun K "word" "Over.word" J3s f fd):FnOk P w K mg base CX0 1 f fd ["self"] (J48 .ov):=by
 refine F.ok scOvWord (fun vs H Q E h=>?_) (fun cdv A outer s H vs Q E hr h=>?_)
 ·obtain ⟨x,rfl,_⟩:=h
  rfl
 ·obtain ⟨x,rfl,q⟩:=h
  exact ⟨_,J8 (Jg J1c),q⟩
theorem scUnWord:FnScope ["self"] ["self"] (J1 J3o):=⟨rfl,rfl,rfl,by decide +kernel,rfl,by decide +kernel,by decide +kernel⟩
theorem ok_unword {f:Addr} {fd:FuncData} (F:Fun K "word" "Under.word" J3o f fd):FnOk P w K mg base CX0 1 f fd ["self"] (J48 .un):=by
 refine F.ok scUnWord (fun vs H Q E h=>?_) (fun cdv A outer s H vs Q E hr h=>?_)
 ·obtain ⟨x,rfl,_⟩:=h
  rfl
 ·obtain ⟨x,rfl,q⟩:=h
  exact ⟨_,J8 (Jg J1c),q⟩
theorem scOsWord:FnScope ["self"] ["self"] (J1 J3u):=⟨rfl,rfl,rfl,by decide +kernel,rfl,by decide +kernel,by decide +kernel⟩
theorem ok_osword {f:Addr} {fd:FuncData} (F:Fun K "word" "Overs.word" J3u f fd):FnOk P w K mg base CX0 1 f fd ["self"] (J48 .os):=by
 refine F.ok scOsWord (fun vs H Q E h=>?_) (fun cdv A outer s H vs Q E hr h=>?_)
 ·obtain ⟨x,rfl,_⟩:=h
  rfl
 ·obtain ⟨x,rfl,q⟩:=h
  exact ⟨_,J8 (Jg J1c),q⟩
theorem scUsWord:FnScope ["self"] ["self"] (J1 J3l):=⟨rfl,rfl,rfl,by decide +kernel,rfl,by decide +kernel,by decide +kernel⟩
theorem ok_usword {f:Addr} {fd:FuncData} (F:Fun K "word" "Unders.word" J3l f fd):FnOk P w K mg base CX0 1 f fd ["self"] (J48 .us):=by
 refine F.ok scUsWord (fun vs H Q E h=>?_) (fun cdv A outer s H vs Q E hr h=>?_)
 ·obtain ⟨x,rfl,_⟩:=h
  rfl
 ·obtain ⟨x,rfl,q⟩:=h
  exact ⟨_,J8 (Jg J1c),q⟩
theorem J45 (row:List Nat) (a:Nat):(natI row).idxOf (a:Int)=row.idxOf a:=by
 unfold natI
 induction row with
 | nil=>rfl
 | cons x r ih =>
  rw [List.map_cons,List.idxOf_cons,List.idxOf_cons,ih]
  have e:((x:Int) == (a:Int))=(x == a):=by
   rw [Bool.eq_iff_iff,beq_iff_eq,beq_iff_eq]
   exact Int.ofNat_inj
  rw [e]
theorem J3g {row:List Nat} {a:Nat} (h:a∈row):(a:Int)∈natI row:=List.mem_map.mpr ⟨a,h,rfl⟩
theorem cut_nat (row:List Nat) (n:Nat) (h:n≤row.length):cutV (nV row) (some (n:Int)) none=nV (row.drop n):=by
 unfold cutV
 rw [J2e,HT.sIx_nat,HT.sIx_none,Nat.min_eq_left h,nV_eq,nV_eq,List.map_drop,List.take_of_length_le (by simp)]
def J37:Sp:=fun vs H Q _=>∃ (q:Addr) (row:List Nat) (a:Nat),vs=[.ref q,.int (a:Nat)]∧H q=some (.tup (nV row))∧a∈row∧∀ p H',Same H H'→H' p=some (.tup (nV (J9 row a)))→Q (.ref p) H'
theorem scBehindL:FnScope ["row","letter"] ["row","letter"] (J1 J2w):=⟨rfl,rfl,rfl,by decide +kernel,rfl,by decide +kernel,by decide +kernel⟩
theorem ok_behindL {f:Addr} {fd:FuncData} (F:Fun K "letters_behind" "letters_behind" J2w f fd):FnOk P w K mg base CX0 1 f fd ["row","letter"] J37:=by
 refine F.ok scBehindL (fun vs H Q E h=>?_) (fun cdv A outer s H vs Q E hr h=>?_)
 ·obtain ⟨q,row,a,rfl,_⟩:=h
  rfl
 ·obtain ⟨q,row,a,rfl,hq,ha,k⟩:=h
  refine ⟨_,J8 (Jg (J1i sl_tup (pv 0) (J2n (pe_op J1m (pe_bmT PySem.F.slot_tuple_index PySem.F.type_tuple_index mt_indexT (pv 0) (J0 (pv 1) J4)) Ja)) J2o)),?_⟩
  have h1:row.idxOf a < row.length:=List.idxOf_lt_length_iff.mpr ha
  have e:(((natI row).idxOf (a:Int):Nat):Int) + 1=((row.idxOf a + 1:Nat):Int):=by rw [J45];omega
  refine ⟨_,rfl,_,rfl,⟨q,_,rfl,hq⟩,_,rfl,q,natI row,(a:Int),rfl,rfl,hq,J3g ha,_,_,rfl,rfl,_,rfl,q,nV row,rfl,SqT.of hq,?_,fun p hp=>k p _ (J7 hp) ?_⟩
  ·rintro ⟨z,_⟩
   have z:HT.sIx (nV row).length 0 (some ((((natI row).idxOf (a:Int):Nat):Int) + 1))=0:=z
   rw [e,HT.sIx_nat,J2e] at z
   omega
  ·rw [J3]
   show some (HO.tup (cutV (nV row) (some ((((natI row).idxOf (a:Int):Nat):Int) + 1)) none))=_
   rw [e,cut_nat row _ h1];rfl
def J1b (cs:Kd→Addr) (CR:Addr) (k:Kd):Sp:=fun vs H Q _=>∃ (x y:Addr) (s:Stp) (r:Rst),vs=[.ref x,.ref y]∧kd s=k∧StepAt cs H x s∧RestAt CR H y r∧s.winner∈r.top∧s.winner∈r.bot∧∀ p H',Same H H'→H' p=some (.tup (nV (s.losers r)))→Q (.ref p) H'
theorem scStLosers:FnScope ["self","rest"] ["self","rest"] (J1 J1v):=⟨rfl,rfl,rfl,by decide +kernel,rfl,by decide +kernel,by decide +kernel⟩
theorem J2x {f CR:Addr} {fd:FuncData} {cs:Kd→Addr} (F:Fun K "losers" "Step.losers" J1v f fd) (TS:TxtS K cs) {k:Kd} (hk:k=.ev∨k=.ov∨k=.un):FnOk P w K mg base CX0 2 f fd ["self","rest"] (J1b cs CR k):=by
 refine F.ok scStLosers (fun vs H Q E h=>?_) (fun cdv A outer s H vs Q E hr h=>?_)
 ·obtain ⟨x,y,s,r,rfl,_⟩:=h
  rfl
 ·obtain ⟨x,y,s,r,rfl,hs,⟨dx,hx⟩,R,_,_,q⟩:=h
  obtain ⟨b,hb,hl⟩:∃ b:Nat,loseV s=.int (b:Nat)∧s.losers r=[b]:=by
   cases s with
   | even a b=>exact ⟨b,rfl,rfl⟩
   | over a b=>exact ⟨b,rfl,rfl⟩
   | under a b=>exact ⟨b,rfl,rfl⟩
   | home a=>subst hs;rcases hk with q | q | q <;> cases q
   | overs a t=>subst hs;rcases hk with q | q | q <;> cases q
   | unders a t=>subst hs;rcases hk with q | q | q <;> cases q
  refine ⟨_,J8 (Jg (J2c (J0 (Je (pv 0) rfl) J4))),?_⟩
  refine ⟨_,rfl,x,cs (kd s),dx,stF s,_,rfl,hx,TS.cl _,TS.nL _,stF_l s,(by show 1≤sizeLine;decide),fun p hp=>q p _ (J7 hp) ?_⟩
  rw [J3,hb,hl];rfl
theorem scHoLosers:FnScope ["self","rest"] ["self","rest"] (J1 J1z):=⟨rfl,rfl,rfl,by decide +kernel,rfl,by decide +kernel,by decide +kernel⟩
theorem ok_holosers {f CR:Addr} {fd:FuncData} {cs:Kd→Addr} (F:Fun K "losers" "Home.losers" J1z f fd):FnOk P w K mg base CX0 2 f fd ["self","rest"] (J1b cs CR .ho):=by
 refine F.ok scHoLosers (fun vs H Q E h=>?_) (fun cdv A outer s H vs Q E hr h=>?_)
 ·obtain ⟨x,y,s,r,rfl,_⟩:=h
  rfl
 ·obtain ⟨x,y,s,r,rfl,hs,_,R,_,_,q⟩:=h
  cases s with
  | home a=>exact ⟨_,J8 (Jg (J2c J4)),Nat.zero_le _,fun p hp=>q p _ (J7 hp) J3⟩
  | even a b=>cases hs
  | over a b=>cases hs
  | under a b=>cases hs
  | overs a t=>cases hs
  | unders a t=>cases hs
theorem scOsLosers:FnScope ["self","rest"] ["self","rest"] (J1 J1x):=⟨rfl,rfl,rfl,by decide +kernel,rfl,by decide +kernel,by decide +kernel⟩
theorem ok_oslosers {f fB CR:Addr} {fd fdB:FuncData} {cs:Kd→Addr} (F:Fun K "losers" "Overs.losers" J1x f fd) (TS:TxtS K cs) (TR:TxtRest K CR)
  (GB:FnOk P w K mg base CX0 1 fB fdB ["row","letter"] J37) (bB:Binds K fdB ["row","letter"] []) (mB:mg "letters_behind"=some (.ref fB)) (kB:PySem.W.keepIn K (.ref fB)=true):FnOk P w K mg base CX0 2 f fd ["self","rest"] (J1b cs CR .os):=by
 refine F.ok scOsLosers (fun vs H Q E h=>?_) (fun cdv A outer s H vs Q E hr h=>?_)
 ·obtain ⟨x,y,s,r,rfl,_⟩:=h
  rfl
 ·obtain ⟨x,y,s,r,rfl,hs,⟨dx,hx⟩,R,hT,hB,q⟩:=h
  obtain ⟨dr,fr,pt,pb,pl,pu,h0,⟨k1,k2,k3,k4,k5⟩,e1,e2,e3,e4⟩:=R.ex
  have hl:s.losers r=J9 r.bot s.winner:=by
   cases s with
   | overs a t=>rfl
   | _=>cases hs
  refine ⟨_,J8 (Jg (Jb GB hr rfl mB kB bB .nil pass0 (J0 (Je (pv 1) rfl) (J0 (Je (pv 0) rfl) J4)))),?_⟩
  refine ⟨_,rfl,y,CR,dr,fr,_,rfl,h0,TR.cl,TR.nB,k2,_,rfl,x,cs (kd s),dx,stF s,_,rfl,hx,TS.cl _,TS.nW _,stF_w s,pb,r.bot,s.winner,rfl,e2,hB,fun p H' s' hp=>q p H' s' ?_⟩
  rw [hl];exact hp
theorem scUsLosers:FnScope ["self","rest"] ["self","rest"] (J1 J1s):=⟨rfl,rfl,rfl,by decide +kernel,rfl,by decide +kernel,by decide +kernel⟩
theorem ok_uslosers {f fB CR:Addr} {fd fdB:FuncData} {cs:Kd→Addr} (F:Fun K "losers" "Unders.losers" J1s f fd) (TS:TxtS K cs) (TR:TxtRest K CR)
  (GB:FnOk P w K mg base CX0 1 fB fdB ["row","letter"] J37) (bB:Binds K fdB ["row","letter"] []) (mB:mg "letters_behind"=some (.ref fB)) (kB:PySem.W.keepIn K (.ref fB)=true):FnOk P w K mg base CX0 2 f fd ["self","rest"] (J1b cs CR .us):=by
 refine F.ok scUsLosers (fun vs H Q E h=>?_) (fun cdv A outer s H vs Q E hr h=>?_)
 ·obtain ⟨x,y,s,r,rfl,_⟩:=h
  rfl
 ·obtain ⟨x,y,s,r,rfl,hs,⟨dx,hx⟩,R,hT,hB,q⟩:=h
  obtain ⟨dr,fr,pt,pb,pl,pu,h0,⟨k1,k2,k3,k4,k5⟩,e1,e2,e3,e4⟩:=R.ex
  have hl:s.losers r=J9 r.top s.winner:=by
   cases s with
   | unders a t=>rfl
   | _=>cases hs
  refine ⟨_,J8 (Jg (Jb GB hr rfl mB kB bB .nil pass0 (J0 (Je (pv 1) rfl) (J0 (Je (pv 0) rfl) J4)))),?_⟩
  refine ⟨_,rfl,y,CR,dr,fr,_,rfl,h0,TR.cl,TR.nT,k1,_,rfl,x,cs (kd s),dx,stF s,_,rfl,hx,TS.cl _,TS.nW _,stF_w s,pt,r.top,s.winner,rfl,e1,hT,fun p H' s' hp=>q p H' s' ?_⟩
  rw [hl];exact hp
end
section
variable {P:Program} {w:World} {K:PySem.W.Frag} {mg:Str→Option Value} {base:Heap}
theorem J17 {cs:Kd→Addr} {H1:Hp} {x dx:Addr} {s:Stp} (hx:H1 x=none) (hdx:H1 dx=none):StepAt cs (upd (upd (upd H1 dx (.own x)) x (.ins (cs (kd s)) dx [])) x (.ins (cs (kd s)) dx (stF s))) x s∧
  Same H1 (upd (upd (upd H1 dx (.own x)) x (.ins (cs (kd s)) dx [])) x (.ins (cs (kd s)) dx (stF s))):=by
 refine ⟨⟨dx,J3⟩,fun b u e=>?_⟩
 rw [Jk (Jc e hx),Jk (Jc e hx),Jk (Jc e hdx)]
 exact e
theorem rowFew {ls:List Int} {row:List Nat} (h:Row ls row) (hl:ls.length≤24):row.length≤24:=Nat.le_trans h.len_le hl
def spTimes (CR:Addr):Sp:=fun vs H Q _=>∃ (y q:Addr) (r:Rst) (a:Nat) (row:List Nat),vs=[.ref y,.int (a:Nat),.ref q]∧RestAt CR H y r∧r.Ok∧H q=some (.tup (nV row))∧a∈row∧a < r.ls.length∧(∀ j∈row,j < r.ls.length)∧row.length≤24∧1≤lenOf r.ls (J9 row a)∧lenOf r.ls (J9 row a)≤10 ^ 30∧
 ∀ H',Same H H'→Q (.int (Js r a row)) H'
theorem scTimes:FnScope ["rest","winner","row"] ["rest","winner","row"] (J1 sTimes):=⟨rfl,rfl,rfl,by decide +kernel,rfl,by decide +kernel,by decide +kernel⟩
theorem J4a {s:Int} (h1:1≤s) (h2:s≤10 ^ 30):CDivB 0 s:=by
 refine ⟨by omega,?_⟩
 have h3:s.natAbs≤10 ^ 30:=by omega
 exact Nat.lt_of_le_of_lt h3 (by decide)
theorem ok_times {f fL fB CR:Addr} {fd fdL fdB:FuncData} (F:Fun K "whole_times" "whole_times" sTimes f fd) (TR:TxtRest K CR)
  (GL:FnOk P w K mg base CX0 1 fL fdL ["rest","letters"] (J4s K)) (bL:Binds K fdL ["rest","letters"] []) (mL:mg "length_of"=some (.ref fL)) (kL:PySem.W.keepIn K (.ref fL)=true)
  (GB:FnOk P w K mg base CX0 1 fB fdB ["row","letter"] J37) (bB:Binds K fdB ["row","letter"] []) (mB:mg "letters_behind"=some (.ref fB)) (kB:PySem.W.keepIn K (.ref fB)=true) :
  FnOk P w K mg base CX0 2 f fd ["rest","winner","row"] (spTimes CR):=by
 refine F.ok scTimes (fun vs H Q E h=>?_) (fun cdv A outer s H vs Q E hr h=>?_)
 ·obtain ⟨y,q,r,a,row,rfl,_⟩:=h
  rfl
 ·obtain ⟨y,q,r,a,row,rfl,R,ok,hq,ha,hal,hlt,hn,h1,h2,k⟩:=h
  obtain ⟨dr,fr,pt,pb,pl,pu,h0,⟨k1,k2,k3,k4,k5⟩,e1,e2,e3,e4⟩:=R.ex
  refine ⟨_,J2 (ps_if (J1o (pe_ix Jh (Je (pv 0) rfl) (pv 1) (fun _ _=>rfl))) (J8 (Jg Ja)) Jm)
   (J8 (Jg (pe_op J59 (pe_op J4y (pe_ix Jh (Je (pv 0) rfl) (pv 1) (fun _ _=>rfl)) Ja) (Jb GL hr rfl mL kL bL .nil pass0 (J0 (pv 0) (J0 (Jb GB hr rfl mB kB bB .nil pass0 (J0 (pv 2) (J0 (pv 1) J4))) J4)))))),?_⟩
  refine ⟨_,rfl,y,CR,dr,fr,_,rfl,h0,TR.cl,TR.nU,k4,_,rfl,pu,_,_,_,rfl,rfl,SqT.of e4,J6 (J26 (by rw [ok.len];exact hal)),_,rfl,?_⟩
  unfold Js at k
  by_cases c:r.ts.getD a false=true
  ·refine iteBT c ?_
   have:=k H (Same.refl _)
   rw [if_pos c] at this
   exact this
  ·refine iteBF c ?_
   refine ⟨_,rfl,y,CR,dr,fr,_,rfl,h0,TR.cl,TR.nL,k3,_,rfl,pl,_,_,_,rfl,rfl,SqT.of e3,J6 (J15 hal),_,_,rfl,rfl,_,rfl,_,rfl,_,rfl,q,row,a,rfl,hq,ha,fun p H1 s1 hp=>?_⟩
   refine ⟨CR,y,p,dr,pl,fr,r.ls,J9 row a,rfl,s1 _ _ h0,TR.cl,TR.nL,k3,s1 _ _ e3,hp,fun j hj=>hlt j (Jp hj),?_,fun H2 s2=>⟨_,_,rfl,rfl,J4a h1 h2,?_⟩⟩
   ·unfold J9
    rw [List.length_drop];omega
   ·have:=k H2 (s1.trans s2)
    rw [if_neg c] at this
    exact this
def spOverS (cs:Kd→Addr) (CR:Addr):Sp:=fun vs H Q _=>∃ (y:Addr) (r:Rst) (a b:Nat),vs=[.ref y,.int (a:Nat),.int (b:Nat)]∧RestAt CR H y r∧r.Ok∧a∈r.bot∧1≤lenOf r.ls (J9 r.bot a)∧lenOf r.ls (J9 r.bot a)≤10 ^ 30∧
 ∀ p H',Same H H'→StepAt cs H' p (if 0 < Js r a r.bot then .overs a (Js r a r.bot) else .over a b)→Q (.ref p) H'
theorem scOverS:FnScope ["rest","winner","loser","times"] ["rest","winner","loser"] (J1 sOverS):=⟨rfl,rfl,rfl,by decide +kernel,rfl,by decide +kernel,by decide +kernel⟩
theorem ok_overs {f fT fM fO CR:Addr} {fd fdT fdM fdO:FuncData} {cs:Kd→Addr} (F:Fun K "over_step" "over_step" sOverS f fd) (TR:TxtRest K CR)
  (GT:FnOk P w K mg base CX0 2 fT fdT ["rest","winner","row"] (spTimes CR)) (bT:Binds K fdT ["rest","winner","row"] []) (mT:mg "whole_times"=some (.ref fT)) (kT:PySem.W.keepIn K (.ref fT)=true)
  (MM:Mk K (cs .os) fM) (GM:FnOk P w K mg base CX0 2 fM fdM ["self","winner","times"] (spMk cs aOs)) (bM:Binds K fdM ["self","winner","times"] []) (mM:mg "Overs"=some (.ref (cs .os)))
  (MO:Mk K (cs .ov) fO) (GO:FnOk P w K mg base CX0 2 fO fdO ["self","winner","loser"] (spMk cs aOv)) (bO:Binds K fdO ["self","winner","loser"] []) (mO:mg "Over"=some (.ref (cs .ov))) :
  FnOk P w K mg base CX0 4 f fd ["rest","winner","loser"] (spOverS cs CR):=by
 refine F.ok scOverS (fun vs H Q E h=>?_) (fun cdv A outer s H vs Q E hr h=>?_)
 ·obtain ⟨y,r,a,b,rfl,_⟩:=h
  rfl
 ·obtain ⟨y,r,a,b,rfl,R,ok,ha,h1,h2,k⟩:=h
  have hr2:Room 2 _:=hr.mono (by decide)
  obtain ⟨dr,fr,pt,pb,pl,pu,h0,⟨k1,k2,k3,k4,k5⟩,e1,e2,e3,e4⟩:=R.ex
  have hrow:Row r.ls r.bot:=ok.rowB
  have few:r.bot.length≤24:=rowFew hrow ok.few
  refine ⟨_,J2 (Ji (i:=3) scOverS.nd rfl (Or.inl rfl) (Jb GT hr2 rfl mT kT bT .nil pass0 (J0 (pv 0) (J0 (pv 1) (J0 (Je (pv 0) rfl) J4)))))
   (J8 (Jg (J58 (Jl op_gt (pv 3) Ja (Ju _)) (J14 MM GM hr rfl mM bM .nil pass0 (J0 (pv 1) (J0 (pv 3) J4))) (J14 MO GO hr rfl mO bO .nil pass0 (J0 (pv 1) (J0 (pv 2) J4)))))),?_⟩
  refine ⟨_,rfl,_,rfl,_,rfl,y,CR,dr,fr,_,rfl,h0,TR.cl,TR.nB,k2,y,pb,r,a,r.bot,rfl,R,ok,e2,ha,hrow.lt a ha,hrow.lt,few,h1,h2,fun H1 s1=>?_⟩
  refine ⟨_,rfl,_,_,rfl,rfl,_,rfl,?_⟩
  by_cases c:0 < Js r a r.bot
  ·refine iteDT c ⟨_,rfl,_,rfl,fun x dx hx hdx hne=>?_⟩
   obtain ⟨st,sm⟩:=J17 (cs:=cs) (s:=.overs a (Js r a r.bot)) hx hdx
   refine ⟨x,dx,_,.overs a (Js r a r.bot),rfl,⟨a,_,rfl,rfl⟩,J3,rfl,k x _ (s1.trans sm) ?_⟩
   rw [if_pos c];exact st
  ·refine iteD c ⟨_,rfl,_,rfl,fun x dx hx hdx hne=>?_⟩
   obtain ⟨st,sm⟩:=J17 (cs:=cs) (s:=.over a b) hx hdx
   refine ⟨x,dx,_,.over a b,rfl,⟨a,b,rfl,rfl⟩,J3,rfl,k x _ (s1.trans sm) ?_⟩
   rw [if_neg c];exact st
def spUnderS (cs:Kd→Addr) (CR:Addr):Sp:=fun vs H Q _=>∃ (y:Addr) (r:Rst) (a b:Nat),vs=[.ref y,.int (a:Nat),.int (b:Nat)]∧RestAt CR H y r∧r.Ok∧a∈r.top∧1≤lenOf r.ls (J9 r.top a)∧lenOf r.ls (J9 r.top a)≤10 ^ 30∧
 ∀ p H',Same H H'→StepAt cs H' p (if 0 < Js r a r.top then .unders a (Js r a r.top) else .under a b)→Q (.ref p) H'
theorem scUnderS:FnScope ["rest","winner","loser","times"] ["rest","winner","loser"] (J1 J3n):=⟨rfl,rfl,rfl,by decide +kernel,rfl,by decide +kernel,by decide +kernel⟩
theorem ok_unders {f fT fM fO CR:Addr} {fd fdT fdM fdO:FuncData} {cs:Kd→Addr} (F:Fun K "under_step" "under_step" J3n f fd) (TR:TxtRest K CR)
  (GT:FnOk P w K mg base CX0 2 fT fdT ["rest","winner","row"] (spTimes CR)) (bT:Binds K fdT ["rest","winner","row"] []) (mT:mg "whole_times"=some (.ref fT)) (kT:PySem.W.keepIn K (.ref fT)=true)
  (MM:Mk K (cs .us) fM) (GM:FnOk P w K mg base CX0 2 fM fdM ["self","winner","times"] (spMk cs aUs)) (bM:Binds K fdM ["self","winner","times"] []) (mM:mg "Unders"=some (.ref (cs .us)))
  (MO:Mk K (cs .un) fO) (GO:FnOk P w K mg base CX0 2 fO fdO ["self","winner","loser"] (spMk cs aUn)) (bO:Binds K fdO ["self","winner","loser"] []) (mO:mg "Under"=some (.ref (cs .un))) :
  FnOk P w K mg base CX0 4 f fd ["rest","winner","loser"] (spUnderS cs CR):=by
 refine F.ok scUnderS (fun vs H Q E h=>?_) (fun cdv A outer s H vs Q E hr h=>?_)
 ·obtain ⟨y,r,a,b,rfl,_⟩:=h
  rfl
 ·obtain ⟨y,r,a,b,rfl,R,ok,ha,h1,h2,k⟩:=h
  have hr2:Room 2 _:=hr.mono (by decide)
  obtain ⟨dr,fr,pt,pb,pl,pu,h0,⟨k1,k2,k3,k4,k5⟩,e1,e2,e3,e4⟩:=R.ex
  have hrow:Row r.ls r.top:=ok.row
  have few:r.top.length≤24:=rowFew hrow ok.few
  refine ⟨_,J2 (Ji (i:=3) scUnderS.nd rfl (Or.inl rfl) (Jb GT hr2 rfl mT kT bT .nil pass0 (J0 (pv 0) (J0 (pv 1) (J0 (Je (pv 0) rfl) J4)))))
   (J8 (Jg (J58 (Jl op_gt (pv 3) Ja (Ju _)) (J14 MM GM hr rfl mM bM .nil pass0 (J0 (pv 1) (J0 (pv 3) J4))) (J14 MO GO hr rfl mO bO .nil pass0 (J0 (pv 1) (J0 (pv 2) J4)))))),?_⟩
  refine ⟨_,rfl,_,rfl,_,rfl,y,CR,dr,fr,_,rfl,h0,TR.cl,TR.nT,k1,y,pt,r,a,r.top,rfl,R,ok,e1,ha,hrow.lt a ha,hrow.lt,few,h1,h2,fun H1 s1=>?_⟩
  refine ⟨_,rfl,_,_,rfl,rfl,_,rfl,?_⟩
  by_cases c:0 < Js r a r.top
  ·refine iteDT c ⟨_,rfl,_,rfl,fun x dx hx hdx hne=>?_⟩
   obtain ⟨st,sm⟩:=J17 (cs:=cs) (s:=.unders a (Js r a r.top)) hx hdx
   refine ⟨x,dx,_,.unders a (Js r a r.top),rfl,⟨a,_,rfl,rfl⟩,J3,rfl,k x _ (s1.trans sm) ?_⟩
   rw [if_pos c];exact st
  ·refine iteD c ⟨_,rfl,_,rfl,fun x dx hx hdx hne=>?_⟩
   obtain ⟨st,sm⟩:=J17 (cs:=cs) (s:=.under a b) hx hdx
   refine ⟨x,dx,_,.under a b,rfl,⟨a,b,rfl,rfl⟩,J3,rfl,k x _ (s1.trans sm) ?_⟩
   rw [if_neg c];exact st
theorem J3a {row:List Nat} (h:row≠[]):atI (nV row) (-1)=some (V.int (row.getD (row.length - 1) 0:Nat)):=by
 have hl:=List.length_pos_iff.mpr h
 unfold atI
 have e:ixN (nV row).length (-1)=some (row.length - 1):=by
  unfold ixN
  rw [J2e,if_neg (by omega),if_pos (by omega)]
  congr 1
  omega
 rw [e]
 show (nV row)[row.length - 1]?=_
 rw [nV_at (by omega)]
def spNext (cs:Kd→Addr) (CR:Addr):Sp:=fun vs H Q _=>∃ (y:Addr) (r:Rst),vs=[.ref y]∧RestAt CR H y r∧r.Ok∧r.top≠[]∧r.size≤10 ^ 30∧∀ p H',Same H H'→StepAt cs H' p (nextN r)→Q (.ref p) H'
theorem scNext:FnScope ["rest","last_top","last_bottom"] ["rest"] (J1 sNext):=⟨rfl,rfl,rfl,by decide +kernel,rfl,by decide +kernel,by decide +kernel⟩
theorem ok_next {f fH fE fO fU CR:Addr} {fd fdH fdE fdO fdU:FuncData} {cs:Kd→Addr} (F:Fun K "next_step" "next_step" sNext f fd) (TR:TxtRest K CR)
  (MH:Mk K (cs .ho) fH) (GH:FnOk P w K mg base CX0 2 fH fdH ["self","winner"] (spMk cs aHo)) (bH:Binds K fdH ["self","winner"] []) (mH:mg "Home"=some (.ref (cs .ho)))
  (ME:Mk K (cs .ev) fE) (GE:FnOk P w K mg base CX0 2 fE fdE ["self","winner","loser"] (spMk cs aEv)) (bE:Binds K fdE ["self","winner","loser"] []) (mE:mg "Even"=some (.ref (cs .ev)))
  (GO:FnOk P w K mg base CX0 4 fO fdO ["rest","winner","loser"] (spOverS cs CR)) (bO:Binds K fdO ["rest","winner","loser"] []) (mO:mg "over_step"=some (.ref fO)) (kO:PySem.W.keepIn K (.ref fO)=true)
  (GU:FnOk P w K mg base CX0 4 fU fdU ["rest","winner","loser"] (spUnderS cs CR)) (bU:Binds K fdU ["rest","winner","loser"] []) (mU:mg "under_step"=some (.ref fU)) (kU:PySem.W.keepIn K (.ref fU)=true) :
  FnOk P w K mg base CX0 5 f fd ["rest"] (spNext cs CR):=by
 refine F.ok scNext (fun vs H Q E h=>?_) (fun cdv A outer s H vs Q E hr h=>?_)
 ·obtain ⟨y,r,rfl,_⟩:=h
  rfl
 ·obtain ⟨y,r,rfl,R,ok,ne,hz,k⟩:=h
  have hr3:Room 3 _:=hr.mono (by decide)
  obtain ⟨dr,fr,pt,pb,pl,pu,h0,⟨k1,k2,k3,k4,k5⟩,e1,e2,e3,e4⟩:=R.ex
  have mT:=ok.mT ne
  have mB:=ok.mB ne
  have neB:r.bot≠[]:=fun e=>by
   have:=ok.lens
   rw [e] at this
   exact ne (List.length_eq_zero_iff.mp this.symm)
  have lT:=ok.row.lt _ mT
  have lB:=ok.row.lt _ mB
  refine ⟨_,J2 (Ji (i:=1) scNext.nd rfl (Or.inl rfl) (pe_ix Jh (Je (pv 0) rfl) (pe_un J47 Ja) (fun _ _=>rfl)))
   (J2 (Ji (i:=2) scNext.nd rfl (Or.inl rfl) (pe_ix Jh (Je (pv 0) rfl) (pe_un J47 Ja) (fun _ _=>rfl)))
   (J2 (ps_if (Jl op_eq (pv 1) (pv 2) (Ju _)) (J8 (Jg (J14 MH GH hr3 rfl mH bH .nil pass0 (J0 (pv 1) J4)))) Jm)
   (J2 (ps_if (Jl op_eq (pe_ix Jh (Je (pv 0) rfl) (pv 1) (fun _ _=>rfl)) (pe_ix Jh (Je (pv 0) rfl) (pv 2) (fun _ _=>rfl)) (Ju _)) (J8 (Jg (J14 ME GE hr3 rfl mE bE .nil pass0 (J0 (pv 1) (J0 (pv 2) J4))))) Jm)
   (J2 (ps_if (Jl op_gt (pe_ix Jh (Je (pv 0) rfl) (pv 1) (fun _ _=>rfl)) (pe_ix Jh (Je (pv 0) rfl) (pv 2) (fun _ _=>rfl)) (Ju _)) (J8 (Jg (Jb GO hr rfl mO kO bO .nil pass0 (J0 (pv 0) (J0 (pv 1) (J0 (pv 2) J4)))))) Jm)
   (J8 (Jg (Jb GU hr rfl mU kU bU .nil pass0 (J0 (pv 0) (J0 (pv 2) (J0 (pv 1) J4)))))))))),?_⟩
  refine ⟨_,rfl,y,CR,dr,fr,_,rfl,h0,TR.cl,TR.nT,k1,_,rfl,pt,_,_,_,rfl,rfl,SqT.of e1,J3a ne,?_⟩
  refine ⟨_,rfl,y,CR,dr,fr,_,rfl,h0,TR.cl,TR.nB,k2,_,rfl,pb,_,_,_,rfl,rfl,SqT.of e2,J3a neB,?_⟩
  refine ⟨_,rfl,_,rfl,rfl,_,rfl,?_⟩
  unfold nextN at k
  have inj:∀ {i j:Nat},V.int (i:Nat)=V.int (j:Nat)→i=j:=fun q=>by have:=V.int.inj q;omega
  by_cases c1:lastT r=lastB r
  ·refine iteDT (congrArg (fun n:Nat=>V.int (n:Int)) c1) ⟨_,rfl,fun x dx hx hdx hne=>?_⟩
   obtain ⟨st,sm⟩:=J17 (cs:=cs) (s:=.home (lastT r)) hx hdx
   refine ⟨x,dx,_,.home (lastT r),rfl,⟨_,rfl,rfl⟩,J3,rfl,k x _ sm ?_⟩
   rw [if_pos c1];exact st
  refine iteD (fun q=>c1 (inj q)) ?_
  rw [if_neg c1] at k
  refine ⟨_,rfl,y,CR,dr,fr,_,rfl,h0,TR.cl,TR.nL,k3,_,rfl,pl,_,_,_,rfl,rfl,SqT.of e3,J6 (J15 lT),_,rfl,y,CR,dr,fr,_,rfl,h0,TR.cl,TR.nL,k3,_,rfl,pl,_,_,_,rfl,rfl,SqT.of e3,J6 (J15 lB),rfl,_,rfl,?_⟩
  by_cases c2:r.ls.getD (lastT r) 0=r.ls.getD (lastB r) 0
  ·refine iteDT (congrArg V.int c2) ⟨_,rfl,_,rfl,fun x dx hx hdx hne=>?_⟩
   obtain ⟨st,sm⟩:=J17 (cs:=cs) (s:=.even (lastT r) (lastB r)) hx hdx
   refine ⟨x,dx,_,.even (lastT r) (lastB r),rfl,⟨_,_,rfl,rfl⟩,J3,rfl,k x _ sm ?_⟩
   rw [if_pos c2];exact st
  refine iteD (vint_ne c2) ?_
  rw [if_neg c2] at k
  refine ⟨_,rfl,y,CR,dr,fr,_,rfl,h0,TR.cl,TR.nL,k3,_,rfl,pl,_,_,_,rfl,rfl,SqT.of e3,J6 (J15 lT),_,rfl,y,CR,dr,fr,_,rfl,h0,TR.cl,TR.nL,k3,_,rfl,pl,_,_,_,rfl,rfl,SqT.of e3,J6 (J15 lB),_,_,rfl,rfl,_,rfl,?_⟩
  have len1:∀ (row:List Nat) (a:Nat),a∈row→row.Perm r.top→row.getD (row.length - 1) 0≠a→1≤lenOf r.ls (J9 row a)∧lenOf r.ls (J9 row a)≤10 ^ 30:=fun row a ha hp hl=>by
   have hpos:∀ j∈row,1≤r.ls.getD j 0:=fun j hj=>ok.row.pos j (hp.mem_iff.mp hj)
   refine ⟨J4i (fun j hj=>hpos j (Jp hj)) (J4l ha hl),?_⟩
   have h1:lenOf r.ls row=r.size:=J1q hp
   have h2:lenOf r.ls row=lenOf r.ls (row.take (row.idxOf a + 1)) + lenOf r.ls (J9 row a):=by
    rw [← J1j]
    show _=lenOf r.ls (row.take (row.idxOf a + 1) ++ row.drop (row.idxOf a + 1))
    rw [List.take_append_drop]
   have h3:=Jt (ls:=r.ls) (os:=row.take (row.idxOf a + 1)) fun j hj=>by have:=hpos j (List.mem_of_mem_take hj);omega
   omega
  by_cases c3:r.ls.getD (lastB r) 0 < r.ls.getD (lastT r) 0
  ·rw [if_pos c3] at k
   obtain ⟨q1,q2⟩:=len1 r.bot (lastT r) (ok.perm.mem_iff.mpr mT) ok.perm (fun e=>c1 e.symm)
   exact iteDT c3 ⟨_,rfl,_,rfl,_,rfl,y,r,lastT r,lastB r,rfl,R,ok,ok.perm.mem_iff.mpr mT,q1,q2,k⟩
  ·rw [if_neg c3] at k
   obtain ⟨q1,q2⟩:=len1 r.top (lastB r) mB (List.Perm.refl _) c1
   exact iteD c3 ⟨_,rfl,_,rfl,_,rfl,y,r,lastB r,lastT r,rfl,R,ok,mB,q1,q2,k⟩
end
end R13
namespace R13
open PySem L2 Rl
section
variable {P:Program} {w:World} {K:PySem.W.Frag} {mg:Str→Option Value} {base:Heap}
def J36:Sp:=fun vs H Q _=>∃ (q:Addr) (row:List Nat) (x:Nat),vs=[.ref q,.int (x:Nat)]∧SqH H q (nV row)∧row.length≤24∧∀ p H',Same H H'→H' p=some (.lst (nV (withoutR row x)))→Q (.ref p) H'
theorem scWithout:FnScope ["row","letter"] ["row","letter"] (J1 J2t):=⟨rfl,rfl,rfl,by decide +kernel,rfl,by decide +kernel,by decide +kernel⟩
theorem notv {j x:Nat}:(!decide (V.int (j:Int)=V.int (x:Int)))=decide (j≠x):=by
 by_cases e:j=x
 ·rw [e];simp
 ·rw [decide_eq_false (vint_ne (by omega)),decide_eq_true e];rfl
theorem ok_without {f:Addr} {fd:FuncData} (F:Fun K "without" "without" J2t f fd):FnOk P w K mg base CX0 1 f fd ["row","letter"] J36:=by
 refine F.ok scWithout (fun vs H Q E h=>?_) (fun cdv A outer s H vs Q E hr h=>?_)
 ·obtain ⟨q,row,x,rfl,_⟩:=h
  rfl
 ·obtain ⟨q,row,x,rfl,hq,hn,k⟩:=h
  rcases hq with hq | hq
  ·refine ⟨_,J8 (Jg (pe_lc (caps:=["letter"]) (js:=[1]) rfl (J43 (pv 0)) rfl (fun C fp s H=>pts_one (Jl op_ne (pv 0) (pv 1) (Ju _))) (fun C fp s H=>pv 0)
    (by decide +kernel) (by decide +kernel) (by decide +kernel) (by intro p hp;simp only [List.mem_cons,List.not_mem_nil,or_false] at hp;rcases hp with rfl;rfl))),?_⟩
   refine ⟨_,rfl,q,rfl,⟨_,SqL.of hq⟩,fun d hd=>lc_lst (fun (j:Nat)=>V.int (j:Int)) row (fun j=>decide (j≠x)) (fun (j:Nat)=>V.int (j:Int)) (by rw [← nV_eq];exact SqL.of hq) (by omega) hd
    (fun j _ H2 Qt _ k=>⟨_,rfl,_,rfl,rfl,_,rfl,by rw [notv];exact k H2 (Same.refl _)⟩) (fun j hj H2 Qe _ s2 k=>⟨_,rfl,k _ (Same.refl _)⟩) (fun H' s' hd'=>k d H' s' (by rw [hd',nV_eq];rfl))⟩
  ·refine ⟨_,J8 (Jg (pe_lc (caps:=["letter"]) (js:=[1]) rfl (pi_tup (pv 0)) rfl (fun C fp s H=>pts_one (Jl op_ne (pv 0) (pv 1) (Ju _))) (fun C fp s H=>pv 0)
    (by decide +kernel) (by decide +kernel) (by decide +kernel) (by intro p hp;simp only [List.mem_cons,List.not_mem_nil,or_false] at hp;rcases hp with rfl;rfl))),?_⟩
   refine ⟨_,rfl,q,rfl,⟨_,SqT.of hq⟩,fun d hd=>lc_tup (fun (j:Nat)=>V.int (j:Int)) row (fun j=>decide (j≠x)) (fun (j:Nat)=>V.int (j:Int)) (by rw [← nV_eq];exact SqT.of hq) (by omega) hd
    (fun j _ H2 Qt _ k=>⟨_,rfl,_,rfl,rfl,_,rfl,by rw [notv];exact k H2 (Same.refl _)⟩) (fun j hj H2 Qe _ s2 k=>⟨_,rfl,k _ (Same.refl _)⟩) (fun H' s' hd'=>k d H' s' (by rw [hd',nV_eq];rfl))⟩
theorem J5f (row:List Nat) (n:Nat) (h:n≤row.length):cutV (nV row) none (some (n:Int))=nV (row.take n):=by
 unfold cutV
 rw [J2e,HT.sIx_nat,HT.sIx_none,Nat.min_eq_left h,nV_eq,nV_eq,List.map_take,List.drop_zero,Nat.sub_zero]
def spPut:Sp:=fun vs H Q _=>∃ (q:Addr) (row:List Nat) (w l:Nat) (ah:Bool),vs=[.ref q,.int (w:Nat),.int (l:Nat),.bl ah]∧SqH H q (nV row)∧row.length≤24∧w∈row∧w≠l∧∀ p H',Same H H'→H' p=some (.lst (nV (putR row w l ah)))→Q (.ref p) H'
theorem scPut:FnScope ["row","winner","loser","ahead","others","at"] ["row","winner","loser","ahead"] (J1 sPut):=⟨rfl,rfl,rfl,by decide +kernel,rfl,by decide +kernel,by decide +kernel⟩
theorem nV_app (xs ys:List Nat):nV (xs ++ ys)=nV xs ++ nV ys:=by rw [nV_eq,nV_eq,nV_eq,List.map_append]
theorem ok_put {f fW:Addr} {fd fdW:FuncData} (F:Fun K "put_beside" "put_beside" sPut f fd) (GW:FnOk P w K mg base CX0 1 fW fdW ["row","letter"] J36) (bW:Binds K fdW ["row","letter"] []) (mW:mg "without"=some (.ref fW)) (kW:PySem.W.keepIn K (.ref fW)=true) :
  FnOk P w K mg base CX0 2 f fd ["row","winner","loser","ahead"] spPut:=by
 refine F.ok scPut (fun vs H Q E h=>?_) (fun cdv A outer s H vs Q E hr h=>?_)
 ·obtain ⟨q,row,wi,lo,ah,rfl,_⟩:=h
  rfl
 ·obtain ⟨q,row,wi,lo,ah,rfl,hq,hn,hw,hwl,k⟩:=h
  refine ⟨_,J2 (Ji (i:=4) scPut.nd rfl (Or.inl rfl) (Jb GW hr rfl mW kW bW .nil pass0 (J0 (pv 0) (J0 (pv 2) J4))))
   (J2 (J2a (Ji (i:=5) scPut.nd rfl (Or.inl rfl) (J58 (J1o (pv 3)) (pe_bm PySem.F.plainAttrs_list PySem.F.slot_list_index PySem.F.type_list_index J23 (pv 4) (J0 (pv 1) J4)) (pe_op J1m (pe_bm PySem.F.plainAttrs_list PySem.F.slot_list_index PySem.F.type_list_index J23 (pv 4) (J0 (pv 1) J4)) Ja))))
   (J8 (Jg (pe_op op_cat (pe_op op_cat (J1i J30 (pv 4) J2o (J2n (pv 5))) (J2d (J0 (pv 2) J4))) (J1i J30 (pv 4) (J2n (pv 5)) J2o))))),?_⟩
  refine ⟨_,rfl,_,rfl,q,row,lo,rfl,hq,hn,fun o H1 s1 ho=>?_⟩
  have hm:wi∈withoutR row lo:=mem_without.mpr ⟨hw,hwl⟩
  have hl1:(withoutR row lo).length≤24:=Nat.le_trans (List.length_filter_le _ _) hn
  have k':∀ p H',Same H H'→H' p=some (.lst (nV ((withoutR row lo).take (if ah=true then (withoutR row lo).idxOf wi else (withoutR row lo).idxOf wi + 1) ++ [lo] ++ (withoutR row lo).drop (if ah=true then (withoutR row lo).idxOf wi else (withoutR row lo).idxOf wi + 1))))→Q (.ref p) H':=k
  generalize withoutR row lo=os at *
  have hi:os.idxOf wi < os.length:=List.idxOf_lt_length_iff.mpr hm
  have hb:∃ n:Nat,n≤os.length∧n=(if ah=true then os.idxOf wi else os.idxOf wi + 1):=by
   refine ⟨_,?_,rfl⟩
   split <;> omega
  obtain ⟨n,hn1,hn2⟩:=hb
  rw [← hn2] at k'
  refine ⟨fun σ' H'=>σ'=[some (.ref q),some (.int (wi:Nat)),some (.int (lo:Nat)),some (.bl ah),some (.ref o),some (.int (n:Nat))]∧H1=H',⟨_,rfl,_,rfl,?_⟩,?_⟩
  ·by_cases c:ah=true
   ·rw [if_pos c] at hn2
    refine iteBT c ⟨_,rfl,.inl ⟨rfl,_,SqL.of ho⟩,_,rfl,o,natI os,(wi:Int),rfl,rfl,SqL.of ho,J3g hm,?_,rfl⟩
    rw [hn2,← J45];rfl
   ·rw [if_neg c] at hn2
    refine iteBF c ⟨_,rfl,.inl ⟨rfl,_,SqL.of ho⟩,_,rfl,o,natI os,(wi:Int),rfl,rfl,SqL.of ho,J3g hm,_,_,rfl,rfl,?_,rfl⟩
    rw [hn2,← J45,Int.natCast_add];rfl
  rintro σ _ ⟨rfl,rfl⟩
  refine ⟨_,rfl,_,rfl,_,rfl,o,_,rfl,SqL.of ho,fun a ha=>?_⟩
  refine ⟨_,rfl,(by show 1≤sizeLine;decide),fun b hb=>?_⟩
  have sa:=J7 (o:=.lst (cutV (nV os) none (some (n:Int)))) ha
  have sb:=J7 (o:=.lst [V.int (lo:Nat)]) hb
  refine ⟨a,b,_,_,rfl,rfl,sb _ _ J3,J3,?_,fun c hc=>?_⟩
  ·rw [J5f _ _ hn1,J2e,List.length_take]
   have:=J18 (n:=min n os.length + 1) (by omega)
   show min n os.length + 1≤sizeLine
   omega
  have sc:=J7 (o:=.lst (cutV (nV os) none (some (n:Int)) ++ [V.int (lo:Nat)])) hc
  refine ⟨_,rfl,_,rfl,_,rfl,o,_,rfl,SqL.of (sc _ _ (sb _ _ (sa _ _ ho))),fun d hd=>?_⟩
  have sd:=J7 (o:=.lst (cutV (nV os) (some (n:Int)) none)) hd
  refine ⟨c,d,_,_,rfl,rfl,sd _ _ J3,J3,?_,fun e he=>k' e _ (s1.trans (sa.trans (sb.trans (sc.trans (sd.trans (J7 he)))))) ?_⟩
  ·rw [J5f _ _ hn1,cut_nat _ _ hn1,List.length_append,J2e,J2e,List.length_take,List.length_drop]
   have:=J18 (n:=min n os.length + 1 + (os.length - n)) (by omega)
   show min n os.length + 1 + (os.length - n)≤sizeLine
   omega
  ·rw [J3,J5f _ _ hn1,cut_nat _ _ hn1,nV_app,nV_app];rfl
def J2l:Sp:=fun vs H Q _=>∃ (q:Addr) (xs:List V) (j:Nat) (v:V),vs=[.ref q,.int (j:Nat),v]∧SqH H q xs∧j < xs.length∧∀ p H',Same H H'→H' p=some (.lst (xs.set j v))→Q (.ref p) H'
theorem scChanged:FnScope ["row","letter","entry","copied"] ["row","letter","entry"] (J1 J2v):=⟨rfl,rfl,rfl,by decide +kernel,rfl,by decide +kernel,by decide +kernel⟩
theorem ok_changed {f:Addr} {fd:FuncData} (F:Fun K "changed" "changed" J2v f fd) (T:TxtR mg):FnOk P w K mg base CX0 1 f fd ["row","letter","entry"] J2l:=by
 refine F.ok scChanged (fun vs H Q E h=>?_) (fun cdv A outer s H vs Q E hr h=>?_)
 ·obtain ⟨q,xs,j,v,rfl,_⟩:=h
  rfl
 ·obtain ⟨q,xs,j,v,rfl,hq,hj,k⟩:=h
  refine ⟨_,J2 (Ji (i:=3) scChanged.nd rfl (Or.inl rfl) (Jn Jq (by rfl) T.list PyProof.Rows.boot_list (J0 (pv 0) J4)))
   (J2 (J4d (pv 2) (J4f (pv 3) (pv 1) J1h)) (J8 (Jg (pv 3)))),?_⟩
  refine ⟨_,rfl,q,xs,rfl,hq.sq,fun c hc=>?_⟩
  refine ⟨_,rfl,_,rfl,_,rfl,c,xs,_,j,rfl,rfl,J3,J27 hj,?_⟩
  rw [upd_upd]
  exact ⟨_,rfl,k c _ (J7 hc) J3⟩
theorem J53 (ts:List Bool) (j:Nat) (b:Bool):(bV ts).set j (V.bl b)=bV (ts.set j b):=by
 show (ts.map V.bl).set j (V.bl b)=(ts.set j b).map V.bl
 rw [List.map_set]
def J4q (CR:Addr):Sp:=fun vs H Q _=>∃ (y:Addr) (r:Rst) (a:Nat) (less:Int),vs=[.ref y,.int (a:Nat),.int less]∧RestAt CR H y r∧a < r.ls.length∧∀ p H',Same H H'→H' p=some (.lst (iV (r.ls.set a (r.ls.getD a 0 - less))))→Q (.ref p) H'
theorem scShort:FnScope ["rest","winner","less"] ["rest","winner","less"] (J1 sShort):=⟨rfl,rfl,rfl,by decide +kernel,rfl,by decide +kernel,by decide +kernel⟩
theorem ok_short {f fC CR:Addr} {fd fdC:FuncData} (F:Fun K "shortened" "shortened" sShort f fd) (TR:TxtRest K CR) (GC:FnOk P w K mg base CX0 1 fC fdC ["row","letter","entry"] J2l) (bC:Binds K fdC ["row","letter","entry"] []) (mC:mg "changed"=some (.ref fC)) (kC:PySem.W.keepIn K (.ref fC)=true) :
  FnOk P w K mg base CX0 2 f fd ["rest","winner","less"] (J4q CR):=by
 refine F.ok scShort (fun vs H Q E h=>?_) (fun cdv A outer s H vs Q E hr h=>?_)
 ·obtain ⟨y,r,a,less,rfl,_⟩:=h
  rfl
 ·obtain ⟨y,r,a,less,rfl,R,ha,k⟩:=h
  obtain ⟨dr,fr,pt,pb,pl,pu,h0,⟨k1,k2,k3,k4,k5⟩,e1,e2,e3,e4⟩:=R.ex
  refine ⟨_,J8 (Jg (Jb GC hr rfl mC kC bC .nil pass0 (J0 (Je (pv 0) rfl) (J0 (pv 1) (J0 (pe_op J4y (pe_ix Jh (Je (pv 0) rfl) (pv 1) (fun _ _=>rfl)) (pv 2)) J4))))),?_⟩
  refine ⟨_,rfl,y,CR,dr,fr,_,rfl,h0,TR.cl,TR.nL,k3,_,rfl,_,rfl,y,CR,dr,fr,_,rfl,h0,TR.cl,TR.nL,k3,_,rfl,pl,_,_,_,rfl,rfl,SqT.of e3,J6 (J15 ha),_,rfl,_,_,rfl,rfl,pl,iV r.ls,a,_,rfl,.inr e3,by rw [J4h];exact ha,fun p H' s' hp=>k p H' s' ?_⟩
  rw [hp,J5d]
def J49 (CR:Addr):Sp:=fun vs H Q _=>∃ (y:Addr) (r:Rst) (a b:Nat),vs=[.ref y,.int (a:Nat),.int (b:Nat)]∧RestAt CR H y r∧a < r.ts.length∧b < r.ts.length∧∀ p H',Same H H'→H' p=some (.lst (bV (J10 r a b)))→Q (.ref p) H'
theorem scTurnsB:FnScope ["rest","winner","loser"] ["rest","winner","loser"] (J1 J3q):=⟨rfl,rfl,rfl,by decide +kernel,rfl,by decide +kernel,by decide +kernel⟩
theorem ok_turnsB {f fC CR:Addr} {fd fdC:FuncData} (F:Fun K "turns_behind" "turns_behind" J3q f fd) (TR:TxtRest K CR) (GC:FnOk P w K mg base CX0 1 fC fdC ["row","letter","entry"] J2l) (bC:Binds K fdC ["row","letter","entry"] []) (mC:mg "changed"=some (.ref fC)) (kC:PySem.W.keepIn K (.ref fC)=true) :
  FnOk P w K mg base CX0 2 f fd ["rest","winner","loser"] (J49 CR):=by
 refine F.ok scTurnsB (fun vs H Q E h=>?_) (fun cdv A outer s H vs Q E hr h=>?_)
 ·obtain ⟨y,r,a,b,rfl,_⟩:=h
  rfl
 ·obtain ⟨y,r,a,b,rfl,R,ha,hb,k⟩:=h
  obtain ⟨dr,fr,pt,pb,pl,pu,h0,⟨k1,k2,k3,k4,k5⟩,e1,e2,e3,e4⟩:=R.ex
  refine ⟨_,J8 (Jg (Jb GC hr rfl mC kC bC .nil pass0 (J0 (Je (pv 0) rfl) (J0 (pv 2) (J0 (pe_cmpR op_ne (pe_ix Jh (Je (pv 0) rfl) (pv 1) (fun _ _=>rfl)) (pe_ix Jh (Je (pv 0) rfl) (pv 2) (fun _ _=>rfl)) (Ju _)) J4))))),?_⟩
  refine ⟨_,rfl,y,CR,dr,fr,_,rfl,h0,TR.cl,TR.nU,k4,_,rfl,_,rfl,y,CR,dr,fr,_,rfl,h0,TR.cl,TR.nU,k4,_,rfl,pu,_,_,_,rfl,rfl,SqT.of e4,J6 (J26 ha),_,rfl,y,CR,dr,fr,_,rfl,h0,TR.cl,TR.nU,k4,_,rfl,pu,_,_,_,rfl,rfl,SqT.of e4,J6 (J26 hb),rfl,pu,bV r.ts,b,_,rfl,.inr e4,by rw [List.length_map];exact hb,fun p H' s' hp=>k p H' s' ?_⟩
  rw [hp]
  unfold J10
  rw [← J53]
  have e:(!decide (V.bl (r.ts.getD a false)=V.bl (r.ts.getD b false)))=(r.ts.getD a false != r.ts.getD b false):=by
   cases r.ts.getD a false <;> cases r.ts.getD b false <;> rfl
  rw [e]
structure Fit (s:Stp) (r:Rst):Prop where
 ok:r.Ok
 left:(s.behind r).Ok
 win:s.winner∈r.top
 lose:∀ b:Nat,loseV s=.int (b:Nat)→b∈r.top∧s.winner≠b
 few:s.times.natAbs < 2 ^ 4000
 small:r.size≤10 ^ 30
def J1d (cs:Kd→Addr) (CR:Addr) (k:Kd):Sp:=fun vs H Q _=>∃ (x y:Addr) (s:Stp) (r:Rst),vs=[.ref x,.ref y]∧kd s=k∧StepAt cs H x s∧RestAt CR H y r∧Fit s r∧∀ p H',Same H H'→RestAt CR H' p (s.behind r)→Q (.ref p) H'
theorem J22 {CR:Addr} {H:Hp} {p1 p2 p3 p4:Addr} {r:Rst} {Q:VK} (ok:r.Ok) (h1:SqH H p1 (nV r.top)) (h2:SqH H p2 (nV r.bot)) (h3:SqH H p3 (iV r.ls)) (h4:SqH H p4 (bV r.ts)) (k:∀ p H',Same H H'→RestAt CR H' p r→Q (.ref p) H') :
  ∀ x dx,H x=none→H dx=none→dx≠x→J2k CR (.ref x :: ([.ref p1,.ref p2,.ref p3,.ref p4] ++ [])) (upd (upd H dx (.own x)) x (.ins CR dx [])) (fun v H2=>v=.non∧Q (.ref x) H2) E0:=fun x dx hx hdx hne=>by
 have s0:Same H (upd (upd H dx (.own x)) x (.ins CR dx [])):=(J7 hdx).trans (J7 (by rw [Jk (Ne.symm hne)];exact hx))
 refine ⟨x,dx,p1,p2,p3,p4,r,rfl,J3,h1.same s0,h2.same s0,h3.same s0,h4.same s0,ok.row.lt,Nat.le_trans ok.row.len_le ok.few,fun H' R kp=>⟨rfl,k x H' (fun b u e=>?_) R⟩⟩
 exact kp b u (s0 _ _ e) (Jc e hx)
theorem scHoBehind:FnScope ["self","rest","top","bottom"] ["self","rest"] (J1 J20):=⟨rfl,rfl,rfl,by decide +kernel,rfl,by decide +kernel,by decide +kernel⟩
theorem ok_hobehind {f fW fC fI CR:Addr} {fd fdW fdC fdI:FuncData} {cs:Kd→Addr} (F:Fun K "behind" "Home.behind" J20 f fd) (TS:TxtS K cs) (TR:TxtRest K CR)
  (GW:FnOk P w K mg base CX0 1 fW fdW ["row","letter"] J36) (bW:Binds K fdW ["row","letter"] []) (mW:mg "without"=some (.ref fW)) (kW:PySem.W.keepIn K (.ref fW)=true)
  (GC:FnOk P w K mg base CX0 1 fC fdC ["row","letter","entry"] J2l) (bC:Binds K fdC ["row","letter","entry"] []) (mC:mg "changed"=some (.ref fC)) (kC:PySem.W.keepIn K (.ref fC)=true)
  (M:Mk K CR fI) (GI:FnOk P w K mg base CX0 2 fI fdI ["self","top","bottom","lengths","turned"] (J2k CR)) (bI:Binds K fdI ["self","top","bottom","lengths","turned"] []) (mgR:mg "Rest"=some (.ref CR)) :
  FnOk P w K mg base CX0 4 f fd ["self","rest"] (J1d cs CR .ho):=by
 refine F.ok scHoBehind (fun vs H Q E h=>?_) (fun cdv A outer s H vs Q E hr h=>?_)
 ·obtain ⟨x,y,s,r,rfl,_⟩:=h
  rfl
 ·obtain ⟨x,y,s,r,rfl,hs,⟨dx,hx⟩,R,fit,k⟩:=h
  have hr1:Room 1 _:=hr.mono (by decide)
  have hr2:Room 2 _:=hr.mono (by decide)
  have ok:=fit.ok
  have left:=fit.left
  have win:=fit.win
  have winB:=ok.perm.mem_iff.mpr win
  have few:=Nat.le_trans ok.row.len_le ok.few
  have fewB:=Nat.le_trans ok.rowB.len_le ok.few
  have lw:=ok.row.lt _ win
  obtain ⟨dr,fr,pt,pb,pl,pu,h0,⟨k1,k2,k3,k4,k5⟩,e1,e2,e3,e4⟩:=R.ex
  cases s with
  | home a =>
   have lt:a < r.ts.length:=by rw [ok.len];exact lw
   refine ⟨_,J2 (Ji (i:=2) scHoBehind.nd rfl (Or.inl rfl) (Jb GW hr1 rfl mW kW bW .nil pass0 (J0 (Je (pv 1) rfl) (J0 (Je (pv 0) rfl) J4))))
    (J2 (Ji (i:=3) scHoBehind.nd rfl (Or.inl rfl) (Jb GW hr1 rfl mW kW bW .nil pass0 (J0 (Je (pv 1) rfl) (J0 (Je (pv 0) rfl) J4))))
    (J8 (Jg (J14 M GI hr rfl mgR bI .nil pass0 (J0 (pv 2) (J0 (pv 3) (J0 (Jb GC hr1 rfl mC kC bC .nil pass0 (J0 (Je (pv 1) rfl) (J0 (Je (pv 0) rfl) (J0 Ja J4)))) (J0 (Jb GC hr1 rfl mC kC bC .nil pass0 (J0 (Je (pv 1) rfl) (J0 (Je (pv 0) rfl) (J0 pe_bl J4)))) J4)))))))),?_⟩
   refine ⟨_,rfl,y,CR,dr,fr,_,rfl,h0,TR.cl,TR.nT,k1,_,rfl,x,cs _,dx,stF _,_,rfl,hx,TS.cl _,TS.nW _,stF_w _,pt,r.top,a,rfl,.inr e1,few,fun t1 H1 s1 ht1=>?_⟩
   refine ⟨_,rfl,y,CR,dr,fr,_,rfl,s1 _ _ h0,TR.cl,TR.nB,k2,_,rfl,x,cs _,dx,stF _,_,rfl,s1 _ _ hx,TS.cl _,TS.nW _,stF_w _,pb,r.bot,a,rfl,.inr (s1 _ _ e2),fewB,fun b1 H2 s12 hb1=>?_⟩
   have s2:=s1.trans s12
   refine ⟨_,rfl,_,rfl,_,rfl,y,CR,dr,fr,_,rfl,s2 _ _ h0,TR.cl,TR.nL,k3,_,rfl,x,cs _,dx,stF _,_,rfl,s2 _ _ hx,TS.cl _,TS.nW _,stF_w _,pl,iV r.ls,a,.int 0,rfl,.inr (s2 _ _ e3),by rw [J4h];exact lw,fun l1 H3 s23 hl1=>?_⟩
   have s3:=s2.trans s23
   refine ⟨_,rfl,y,CR,dr,fr,_,rfl,s3 _ _ h0,TR.cl,TR.nU,k4,_,rfl,x,cs _,dx,stF _,_,rfl,s3 _ _ hx,TS.cl _,TS.nW _,stF_w _,pu,bV r.ts,a,.bl false,rfl,.inr (s3 _ _ e4),by rw [List.length_map];exact lt,fun u1 H4 s34 hu1=>?_⟩
   exact J22 left (.inl (s34 _ _ (s23 _ _ (s12 _ _ ht1)))) (.inl (s34 _ _ (s23 _ _ hb1))) (.inl (by rw [s34 _ _ hl1,J5d];rfl)) (.inl (by rw [hu1,J53];rfl)) fun p H' s' R'=>k p H' (s3.trans (s34.trans s')) R'
  | even a b=>cases hs
  | over a b=>cases hs
  | under a b=>cases hs
  | overs a t=>cases hs
  | unders a t=>cases hs
theorem scEvBehind:FnScope ["self","rest","top","bottom","turned"] ["self","rest"] (J1 J21):=⟨rfl,rfl,rfl,by decide +kernel,rfl,by decide +kernel,by decide +kernel⟩
theorem ok_evbehind {f fW fP fC fT fI CR:Addr} {fd fdW fdP fdC fdT fdI:FuncData} {cs:Kd→Addr} (F:Fun K "behind" "Even.behind" J21 f fd) (TS:TxtS K cs) (TR:TxtRest K CR)
  (GW:FnOk P w K mg base CX0 1 fW fdW ["row","letter"] J36) (bW:Binds K fdW ["row","letter"] []) (mW:mg "without"=some (.ref fW)) (kW:PySem.W.keepIn K (.ref fW)=true)
  (GP:FnOk P w K mg base CX0 2 fP fdP ["row","winner","loser","ahead"] spPut) (bP:Binds K fdP ["row","winner","loser","ahead"] []) (mP:mg "put_beside"=some (.ref fP)) (kP:PySem.W.keepIn K (.ref fP)=true)
  (GC:FnOk P w K mg base CX0 1 fC fdC ["row","letter","entry"] J2l) (bC:Binds K fdC ["row","letter","entry"] []) (mC:mg "changed"=some (.ref fC)) (kC:PySem.W.keepIn K (.ref fC)=true)
  (GT:FnOk P w K mg base CX0 2 fT fdT ["rest","winner","loser"] (J49 CR)) (bT:Binds K fdT ["rest","winner","loser"] []) (mT:mg "turns_behind"=some (.ref fT)) (kT:PySem.W.keepIn K (.ref fT)=true)
  (M:Mk K CR fI) (GI:FnOk P w K mg base CX0 2 fI fdI ["self","top","bottom","lengths","turned"] (J2k CR)) (bI:Binds K fdI ["self","top","bottom","lengths","turned"] []) (mgR:mg "Rest"=some (.ref CR)) :
  FnOk P w K mg base CX0 4 f fd ["self","rest"] (J1d cs CR .ev):=by
 refine F.ok scEvBehind (fun vs H Q E h=>?_) (fun cdv A outer s H vs Q E hr h=>?_)
 ·obtain ⟨x,y,s,r,rfl,_⟩:=h
  rfl
 ·obtain ⟨x,y,s,r,rfl,hs,⟨dx,hx⟩,R,fit,k⟩:=h
  have hr1:Room 1 _:=hr.mono (by decide)
  have hr2:Room 2 _:=hr.mono (by decide)
  have ok:=fit.ok
  have left:=fit.left
  have win:=fit.win
  have winB:=ok.perm.mem_iff.mpr win
  have few:=Nat.le_trans ok.row.len_le ok.few
  have fewB:=Nat.le_trans ok.rowB.len_le ok.few
  have lw:=ok.row.lt _ win
  obtain ⟨dr,fr,pt,pb,pl,pu,h0,⟨k1,k2,k3,k4,k5⟩,e1,e2,e3,e4⟩:=R.ex
  cases s with
  | even a b =>
   obtain ⟨lose,wl⟩:=fit.lose b rfl
   have lt:a < r.ts.length:=by rw [ok.len];exact lw
   have lb:b < r.ts.length:=by rw [ok.len];exact ok.row.lt _ lose
   refine ⟨_,J2 (Ji (i:=2) scEvBehind.nd rfl (Or.inl rfl) (Jb GW hr1 rfl mW kW bW .nil pass0 (J0 (Je (pv 1) rfl) (J0 (Je (pv 0) rfl) J4))))
    (J2 (Ji (i:=3) scEvBehind.nd rfl (Or.inl rfl) (Jb GW hr1 rfl mW kW bW .nil pass0 (J0 (Jb GP hr2 rfl mP kP bP .nil pass0 (J0 (Je (pv 1) rfl) (J0 (Je (pv 0) rfl) (J0 (Je (pv 0) rfl) (J0 pe_bl J4))))) (J0 (Je (pv 0) rfl) J4))))
    (J2 (Ji (i:=4) scEvBehind.nd rfl (Or.inl rfl) (Jb GC hr1 rfl mC kC bC .nil pass0 (J0 (Jb GT hr2 rfl mT kT bT .nil pass0 (J0 (pv 1) (J0 (Je (pv 0) rfl) (J0 (Je (pv 0) rfl) J4)))) (J0 (Je (pv 0) rfl) (J0 pe_bl J4)))))
    (J8 (Jg (J14 M GI hr rfl mgR bI .nil pass0 (J0 (pv 2) (J0 (pv 3) (J0 (Jb GC hr1 rfl mC kC bC .nil pass0 (J0 (Je (pv 1) rfl) (J0 (Je (pv 0) rfl) (J0 Ja J4)))) (J0 (pv 4) J4))))))))),?_⟩
   refine ⟨_,rfl,y,CR,dr,fr,_,rfl,h0,TR.cl,TR.nT,k1,_,rfl,x,cs _,dx,stF _,_,rfl,hx,TS.cl _,TS.nW _,stF_w _,pt,r.top,a,rfl,.inr e1,few,fun t1 H1 s1 ht1=>?_⟩
   refine ⟨_,rfl,y,CR,dr,fr,_,rfl,s1 _ _ h0,TR.cl,TR.nB,k2,_,rfl,x,cs _,dx,stF _,_,rfl,s1 _ _ hx,TS.cl _,TS.nW _,stF_w _,_,rfl,x,cs _,dx,stF _,_,rfl,s1 _ _ hx,TS.cl _,TS.nL _,stF_l _,pb,r.bot,a,b,false,rfl,.inr (s1 _ _ e2),fewB,winB,wl,fun b0 H2 s12 hb0=>?_⟩
   have s2:=s1.trans s12
   have fewP:(putR r.bot a b false).length≤24:=by rw [(J4c ok.rowB.nd (ok.perm.mem_iff.mpr lose) false).length_eq];exact fewB
   refine ⟨_,rfl,x,cs _,dx,stF _,_,rfl,s2 _ _ hx,TS.cl _,TS.nW _,stF_w _,b0,_,a,rfl,.inl hb0,fewP,fun b1 H3 s23 hb1=>?_⟩
   have s3:=s2.trans s23
   refine ⟨_,rfl,_,rfl,x,cs _,dx,stF _,_,rfl,s3 _ _ hx,TS.cl _,TS.nW _,stF_w _,_,rfl,x,cs _,dx,stF _,_,rfl,s3 _ _ hx,TS.cl _,TS.nL _,stF_l _,y,r,a,b,rfl,R.same s3,lt,lb,fun u0 H4 s34 hu0=>?_⟩
   have s4:=s3.trans s34
   refine ⟨_,rfl,x,cs _,dx,stF _,_,rfl,s4 _ _ hx,TS.cl _,TS.nW _,stF_w _,u0,bV (J10 r a b),a,.bl false,rfl,.inl hu0,by rw [List.length_map,J1a];exact lt,fun u1 H5 s45 hu1=>?_⟩
   have s5:=s4.trans s45
   refine ⟨_,rfl,_,rfl,_,rfl,y,CR,dr,fr,_,rfl,s5 _ _ h0,TR.cl,TR.nL,k3,_,rfl,x,cs _,dx,stF _,_,rfl,s5 _ _ hx,TS.cl _,TS.nW _,stF_w _,pl,iV r.ls,a,.int 0,rfl,.inr (s5 _ _ e3),by rw [J4h];exact lw,fun l1 H6 s56 hl1=>⟨_,rfl,?_⟩⟩
   exact J22 left (.inl (s56 _ _ (s45 _ _ (s34 _ _ (s23 _ _ (s12 _ _ ht1)))))) (.inl (s56 _ _ (s45 _ _ (s34 _ _ hb1)))) (.inl (by rw [hl1,J5d];rfl)) (.inl (by rw [s56 _ _ hu1,J53];rfl)) fun p H' s' R'=>k p H' (s5.trans (s56.trans s')) R'
  | home a=>cases hs
  | over a b=>cases hs
  | under a b=>cases hs
  | overs a t=>cases hs
  | unders a t=>cases hs
theorem scOvBehind:FnScope ["self","rest","bottom","lengths"] ["self","rest"] (J1 J1w):=⟨rfl,rfl,rfl,by decide +kernel,rfl,by decide +kernel,by decide +kernel⟩
theorem ok_ovbehind {f fP fS fT fI CR:Addr} {fd fdP fdS fdT fdI:FuncData} {cs:Kd→Addr} (F:Fun K "behind" "Over.behind" J1w f fd) (TS:TxtS K cs) (TR:TxtRest K CR)
  (GP:FnOk P w K mg base CX0 2 fP fdP ["row","winner","loser","ahead"] spPut) (bP:Binds K fdP ["row","winner","loser","ahead"] []) (mP:mg "put_beside"=some (.ref fP)) (kP:PySem.W.keepIn K (.ref fP)=true)
  (GS:FnOk P w K mg base CX0 2 fS fdS ["rest","winner","less"] (J4q CR)) (bS:Binds K fdS ["rest","winner","less"] []) (mS:mg "shortened"=some (.ref fS)) (kS:PySem.W.keepIn K (.ref fS)=true)
  (GT:FnOk P w K mg base CX0 2 fT fdT ["rest","winner","loser"] (J49 CR)) (bT:Binds K fdT ["rest","winner","loser"] []) (mT:mg "turns_behind"=some (.ref fT)) (kT:PySem.W.keepIn K (.ref fT)=true)
  (M:Mk K CR fI) (GI:FnOk P w K mg base CX0 2 fI fdI ["self","top","bottom","lengths","turned"] (J2k CR)) (bI:Binds K fdI ["self","top","bottom","lengths","turned"] []) (mgR:mg "Rest"=some (.ref CR)) :
  FnOk P w K mg base CX0 4 f fd ["self","rest"] (J1d cs CR .ov):=by
 refine F.ok scOvBehind (fun vs H Q E h=>?_) (fun cdv A outer s H vs Q E hr h=>?_)
 ·obtain ⟨x,y,s,r,rfl,_⟩:=h
  rfl
 ·obtain ⟨x,y,s,r,rfl,hs,⟨dx,hx⟩,R,fit,k⟩:=h
  have hr1:Room 1 _:=hr.mono (by decide)
  have hr2:Room 2 _:=hr.mono (by decide)
  have ok:=fit.ok
  have left:=fit.left
  have win:=fit.win
  have winB:=ok.perm.mem_iff.mpr win
  have few:=Nat.le_trans ok.row.len_le ok.few
  have fewB:=Nat.le_trans ok.rowB.len_le ok.few
  have lw:=ok.row.lt _ win
  obtain ⟨dr,fr,pt,pb,pl,pu,h0,⟨k1,k2,k3,k4,k5⟩,e1,e2,e3,e4⟩:=R.ex
  cases s with
  | over a b =>
   obtain ⟨lose,wl⟩:=fit.lose b rfl
   have lt:a < r.ts.length:=by rw [ok.len];exact lw
   have lbl:=ok.row.lt _ lose
   have lb:b < r.ts.length:=by rw [ok.len];exact lbl
   refine ⟨_,J2 (Ji (i:=2) scOvBehind.nd rfl (Or.inl rfl) (Jb GP hr2 rfl mP kP bP .nil pass0 (J0 (Je (pv 1) rfl) (J0 (Je (pv 0) rfl) (J0 (Je (pv 0) rfl) (J0 (pe_ix Jh (Je (pv 1) rfl) (Je (pv 0) rfl) (fun _ _=>rfl)) J4))))))
    (J2 (Ji (i:=3) scOvBehind.nd rfl (Or.inl rfl) (Jb GS hr2 rfl mS kS bS .nil pass0 (J0 (pv 1) (J0 (Je (pv 0) rfl) (J0 (pe_ix Jh (Je (pv 1) rfl) (Je (pv 0) rfl) (fun _ _=>rfl)) J4)))))
    (J8 (Jg (J14 M GI hr rfl mgR bI .nil pass0 (J0 (Je (pv 1) rfl) (J0 (pv 2) (J0 (pv 3) (J0 (Jb GT hr2 rfl mT kT bT .nil pass0 (J0 (pv 1) (J0 (Je (pv 0) rfl) (J0 (Je (pv 0) rfl) J4)))) J4)))))))),?_⟩
   refine ⟨_,rfl,y,CR,dr,fr,_,rfl,h0,TR.cl,TR.nB,k2,_,rfl,x,cs _,dx,stF _,_,rfl,hx,TS.cl _,TS.nW _,stF_w _,_,rfl,x,cs _,dx,stF _,_,rfl,hx,TS.cl _,TS.nL _,stF_l _,_,rfl,y,CR,dr,fr,_,rfl,h0,TR.cl,TR.nU,k4,_,rfl,x,cs _,dx,stF _,_,rfl,hx,TS.cl _,TS.nW _,stF_w _,pu,_,_,_,rfl,rfl,SqT.of e4,J6 (J26 lt),pb,r.bot,a,b,_,rfl,.inr e2,fewB,winB,wl,fun q1 H1 s1 hq1=>?_⟩
   refine ⟨_,rfl,_,rfl,x,cs _,dx,stF _,_,rfl,s1 _ _ hx,TS.cl _,TS.nW _,stF_w _,_,rfl,y,CR,dr,fr,_,rfl,s1 _ _ h0,TR.cl,TR.nL,k3,_,rfl,x,cs _,dx,stF _,_,rfl,s1 _ _ hx,TS.cl _,TS.nL _,stF_l _,pl,_,_,_,rfl,rfl,SqT.of (s1 _ _ e3),J6 (J15 lbl),y,r,a,_,rfl,R.same s1,lw,fun l1 H2 s12 hl1=>?_⟩
   have s2:=s1.trans s12
   refine ⟨_,rfl,y,CR,dr,fr,_,rfl,s2 _ _ h0,TR.cl,TR.nT,k1,_,rfl,_,rfl,_,rfl,_,rfl,x,cs _,dx,stF _,_,rfl,s2 _ _ hx,TS.cl _,TS.nW _,stF_w _,_,rfl,x,cs _,dx,stF _,_,rfl,s2 _ _ hx,TS.cl _,TS.nL _,stF_l _,y,r,a,b,rfl,R.same s2,lt,lb,fun u1 H3 s23 hu1=>?_⟩
   exact J22 left (.inr (s23 _ _ (s2 _ _ e1))) (.inl (s23 _ _ (s12 _ _ hq1))) (.inl (s23 _ _ hl1)) (.inl hu1) fun p H' s' R'=>k p H' (s2.trans (s23.trans s')) R'
  | home a=>cases hs
  | even a b=>cases hs
  | under a b=>cases hs
  | overs a t=>cases hs
  | unders a t=>cases hs
theorem scUnBehind:FnScope ["self","rest","top","lengths"] ["self","rest"] (J1 J1u):=⟨rfl,rfl,rfl,by decide +kernel,rfl,by decide +kernel,by decide +kernel⟩
theorem ok_unbehind {f fP fS fT fI CR:Addr} {fd fdP fdS fdT fdI:FuncData} {cs:Kd→Addr} (F:Fun K "behind" "Under.behind" J1u f fd) (TS:TxtS K cs) (TR:TxtRest K CR)
  (GP:FnOk P w K mg base CX0 2 fP fdP ["row","winner","loser","ahead"] spPut) (bP:Binds K fdP ["row","winner","loser","ahead"] []) (mP:mg "put_beside"=some (.ref fP)) (kP:PySem.W.keepIn K (.ref fP)=true)
  (GS:FnOk P w K mg base CX0 2 fS fdS ["rest","winner","less"] (J4q CR)) (bS:Binds K fdS ["rest","winner","less"] []) (mS:mg "shortened"=some (.ref fS)) (kS:PySem.W.keepIn K (.ref fS)=true)
  (GT:FnOk P w K mg base CX0 2 fT fdT ["rest","winner","loser"] (J49 CR)) (bT:Binds K fdT ["rest","winner","loser"] []) (mT:mg "turns_behind"=some (.ref fT)) (kT:PySem.W.keepIn K (.ref fT)=true)
  (M:Mk K CR fI) (GI:FnOk P w K mg base CX0 2 fI fdI ["self","top","bottom","lengths","turned"] (J2k CR)) (bI:Binds K fdI ["self","top","bottom","lengths","turned"] []) (mgR:mg "Rest"=some (.ref CR)) :
  FnOk P w K mg base CX0 4 f fd ["self","rest"] (J1d cs CR .un):=by
 refine F.ok scUnBehind (fun vs H Q E h=>?_) (fun cdv A outer s H vs Q E hr h=>?_)
 ·obtain ⟨x,y,s,r,rfl,_⟩:=h
  rfl
 ·obtain ⟨x,y,s,r,rfl,hs,⟨dx,hx⟩,R,fit,k⟩:=h
  have hr1:Room 1 _:=hr.mono (by decide)
  have hr2:Room 2 _:=hr.mono (by decide)
  have ok:=fit.ok
  have left:=fit.left
  have win:=fit.win
  have winB:=ok.perm.mem_iff.mpr win
  have few:=Nat.le_trans ok.row.len_le ok.few
  have fewB:=Nat.le_trans ok.rowB.len_le ok.few
  have lw:=ok.row.lt _ win
  obtain ⟨dr,fr,pt,pb,pl,pu,h0,⟨k1,k2,k3,k4,k5⟩,e1,e2,e3,e4⟩:=R.ex
  cases s with
  | under a b =>
   obtain ⟨lose,wl⟩:=fit.lose b rfl
   have lt:a < r.ts.length:=by rw [ok.len];exact lw
   have lbl:=ok.row.lt _ lose
   have lb:b < r.ts.length:=by rw [ok.len];exact lbl
   refine ⟨_,J2 (Ji (i:=2) scUnBehind.nd rfl (Or.inl rfl) (Jb GP hr2 rfl mP kP bP .nil pass0 (J0 (Je (pv 1) rfl) (J0 (Je (pv 0) rfl) (J0 (Je (pv 0) rfl) (J0 (pe_ix Jh (Je (pv 1) rfl) (Je (pv 0) rfl) (fun _ _=>rfl)) J4))))))
    (J2 (Ji (i:=3) scUnBehind.nd rfl (Or.inl rfl) (Jb GS hr2 rfl mS kS bS .nil pass0 (J0 (pv 1) (J0 (Je (pv 0) rfl) (J0 (pe_ix Jh (Je (pv 1) rfl) (Je (pv 0) rfl) (fun _ _=>rfl)) J4)))))
    (J8 (Jg (J14 M GI hr rfl mgR bI .nil pass0 (J0 (pv 2) (J0 (Je (pv 1) rfl) (J0 (pv 3) (J0 (Jb GT hr2 rfl mT kT bT .nil pass0 (J0 (pv 1) (J0 (Je (pv 0) rfl) (J0 (Je (pv 0) rfl) J4)))) J4)))))))),?_⟩
   refine ⟨_,rfl,y,CR,dr,fr,_,rfl,h0,TR.cl,TR.nT,k1,_,rfl,x,cs _,dx,stF _,_,rfl,hx,TS.cl _,TS.nW _,stF_w _,_,rfl,x,cs _,dx,stF _,_,rfl,hx,TS.cl _,TS.nL _,stF_l _,_,rfl,y,CR,dr,fr,_,rfl,h0,TR.cl,TR.nU,k4,_,rfl,x,cs _,dx,stF _,_,rfl,hx,TS.cl _,TS.nW _,stF_w _,pu,_,_,_,rfl,rfl,SqT.of e4,J6 (J26 lt),pt,r.top,a,b,_,rfl,.inr e1,few,win,wl,fun q1 H1 s1 hq1=>?_⟩
   refine ⟨_,rfl,_,rfl,x,cs _,dx,stF _,_,rfl,s1 _ _ hx,TS.cl _,TS.nW _,stF_w _,_,rfl,y,CR,dr,fr,_,rfl,s1 _ _ h0,TR.cl,TR.nL,k3,_,rfl,x,cs _,dx,stF _,_,rfl,s1 _ _ hx,TS.cl _,TS.nL _,stF_l _,pl,_,_,_,rfl,rfl,SqT.of (s1 _ _ e3),J6 (J15 lbl),y,r,a,_,rfl,R.same s1,lw,fun l1 H2 s12 hl1=>?_⟩
   have s2:=s1.trans s12
   refine ⟨_,rfl,_,rfl,y,CR,dr,fr,_,rfl,s2 _ _ h0,TR.cl,TR.nB,k2,_,rfl,_,rfl,_,rfl,x,cs _,dx,stF _,_,rfl,s2 _ _ hx,TS.cl _,TS.nW _,stF_w _,_,rfl,x,cs _,dx,stF _,_,rfl,s2 _ _ hx,TS.cl _,TS.nL _,stF_l _,y,r,a,b,rfl,R.same s2,lt,lb,fun u1 H3 s23 hu1=>?_⟩
   exact J22 left (.inl (s23 _ _ (s12 _ _ hq1))) (.inr (s23 _ _ (s2 _ _ e2))) (.inl (s23 _ _ hl1)) (.inl hu1) fun p H' s' R'=>k p H' (s2.trans (s23.trans s')) R'
  | home a=>cases hs
  | even a b=>cases hs
  | over a b=>cases hs
  | overs a t=>cases hs
  | unders a t=>cases hs
theorem scOsBehind:FnScope ["self","rest","lengths"] ["self","rest"] (J1 J1y):=⟨rfl,rfl,rfl,by decide +kernel,rfl,by decide +kernel,by decide +kernel⟩
theorem ok_osbehind {f fL fS fI CR:Addr} {fd fdL fdS fdI:FuncData} {cs:Kd→Addr} (F:Fun K "behind" "Overs.behind" J1y f fd) (TS:TxtS K cs) (TR:TxtRest K CR)
  (GL:FnOk P w K mg base CX0 1 fL fdL ["rest","letters"] (J4s K)) (bL:Binds K fdL ["rest","letters"] []) (mL:mg "length_of"=some (.ref fL)) (kL:PySem.W.keepIn K (.ref fL)=true)
  (GS:FnOk P w K mg base CX0 2 fS fdS ["rest","winner","less"] (J4q CR)) (bS:Binds K fdS ["rest","winner","less"] []) (mS:mg "shortened"=some (.ref fS)) (kS:PySem.W.keepIn K (.ref fS)=true)
  (M:Mk K CR fI) (GI:FnOk P w K mg base CX0 2 fI fdI ["self","top","bottom","lengths","turned"] (J2k CR)) (bI:Binds K fdI ["self","top","bottom","lengths","turned"] []) (mgR:mg "Rest"=some (.ref CR))
  (HL:∀ k,HasM P w K mg base CX0 2 "losers" ["self","rest"] (J1b cs CR k) (cs k)) :
  FnOk P w K mg base CX0 4 f fd ["self","rest"] (J1d cs CR .os):=by
 refine F.ok scOsBehind (fun vs H Q E h=>?_) (fun cdv A outer s H vs Q E hr h=>?_)
 ·obtain ⟨x,y,s,r,rfl,_⟩:=h
  rfl
 ·obtain ⟨x,y,s,r,rfl,hs,⟨dx,hx⟩,R,fit,k⟩:=h
  have hr1:Room 1 _:=hr.mono (by decide)
  have hr2:Room 2 _:=hr.mono (by decide)
  have ok:=fit.ok
  have left:=fit.left
  have win:=fit.win
  have winB:=ok.perm.mem_iff.mpr win
  have few:=Nat.le_trans ok.row.len_le ok.few
  have fewB:=Nat.le_trans ok.rowB.len_le ok.few
  have lw:=ok.row.lt _ win
  obtain ⟨dr,fr,pt,pb,pl,pu,h0,⟨k1,k2,k3,k4,k5⟩,e1,e2,e3,e4⟩:=R.ex
  cases s with
  | overs a t =>
   have hlt:∀ j∈J9 r.bot a,j < r.ls.length:=fun j hj=>ok.rowB.lt j (Jp hj)
   have hln:(J9 r.bot a).length≤24:=by unfold J9;rw [List.length_drop];omega
   have hsz:(lenOf r.ls (J9 r.bot a)).natAbs < 2 ^ 4000:=by
    have p0:∀ j∈r.bot,1≤r.ls.getD j 0:=fun j hj=>ok.rowB.pos j hj
    have h1:lenOf r.ls r.bot=r.size:=ok.sizeB
    have h2:lenOf r.ls r.bot=lenOf r.ls (r.bot.take (r.bot.idxOf a + 1)) + lenOf r.ls (J9 r.bot a):=by
     rw [← J1j]
     show _=lenOf r.ls (r.bot.take (r.bot.idxOf a + 1) ++ r.bot.drop (r.bot.idxOf a + 1))
     rw [List.take_append_drop]
    have h3:=Jt (ls:=r.ls) (os:=r.bot.take (r.bot.idxOf a + 1)) fun j hj=>by have:=p0 j (List.mem_of_mem_take hj);omega
    have h4:=Jt (ls:=r.ls) (os:=J9 r.bot a) fun j hj=>by have:=p0 j (Jp hj);omega
    have h5:=fit.small
    have h6:(lenOf r.ls (J9 r.bot a)).natAbs≤10 ^ 30:=by omega
    exact Nat.lt_of_le_of_lt h6 (by decide)
   refine ⟨_,J2 (Ji (i:=2) scOsBehind.nd rfl (Or.inl rfl) (Jb GS hr2 rfl mS kS bS .nil pass0 (J0 (pv 1) (J0 (Je (pv 0) rfl) (J0 (pe_op op_mulB (Je (pv 0) rfl) (Jb GL hr1 rfl mL kL bL .nil pass0 (J0 (pv 1) (J0 (J3f (sp:=J1b cs CR) (cls:=cs) (pv 0) HL hr2 pass0 (J0 (pv 1) J4)) J4)))) J4)))))
    (J8 (Jg (J14 M GI hr rfl mgR bI .nil pass0 (J0 (Je (pv 1) rfl) (J0 (Je (pv 1) rfl) (J0 (pv 2) (J0 (Je (pv 1) rfl) J4))))))),?_⟩
   refine ⟨_,rfl,_,rfl,x,cs _,dx,stF _,_,rfl,hx,TS.cl _,TS.nW _,stF_w _,_,rfl,x,cs _,dx,stF _,_,rfl,hx,TS.cl _,TS.nT _,stF_t _,_,rfl,_,rfl,x,.os,dx,stF _,rfl,hx,stF_no _ (by decide +kernel) (by decide +kernel) (by decide +kernel),_,rfl,x,y,.overs a t,r,rfl,rfl,⟨dx,hx⟩,R,win,winB,fun lp H1 s1 hlp=>?_⟩
   refine ⟨CR,y,lp,dr,pl,fr,r.ls,J9 r.bot a,rfl,s1 _ _ h0,TR.cl,TR.nL,k3,s1 _ _ e3,hlp,hlt,hln,fun H2 s12=>?_⟩
   have s2:=s1.trans s12
   refine ⟨_,_,rfl,rfl,⟨fit.few,hsz⟩,y,r,a,_,rfl,R.same s2,lw,fun l1 H3 s23 hl1=>?_⟩
   have s3:=s2.trans s23
   refine ⟨_,rfl,y,CR,dr,fr,_,rfl,s3 _ _ h0,TR.cl,TR.nT,k1,_,rfl,y,CR,dr,fr,_,rfl,s3 _ _ h0,TR.cl,TR.nB,k2,_,rfl,_,rfl,y,CR,dr,fr,_,rfl,s3 _ _ h0,TR.cl,TR.nU,k4,?_⟩
   exact J22 left (.inr (s3 _ _ e1)) (.inr (s3 _ _ e2)) (.inl hl1) (.inr (s3 _ _ e4)) fun p H' s' R'=>k p H' (s3.trans s') R'
  | home a=>cases hs
  | even a b=>cases hs
  | over a b=>cases hs
  | under a b=>cases hs
  | unders a t=>cases hs
theorem scUsBehind:FnScope ["self","rest","lengths"] ["self","rest"] (J1 J1t):=⟨rfl,rfl,rfl,by decide +kernel,rfl,by decide +kernel,by decide +kernel⟩
theorem ok_usbehind {f fL fS fI CR:Addr} {fd fdL fdS fdI:FuncData} {cs:Kd→Addr} (F:Fun K "behind" "Unders.behind" J1t f fd) (TS:TxtS K cs) (TR:TxtRest K CR)
  (GL:FnOk P w K mg base CX0 1 fL fdL ["rest","letters"] (J4s K)) (bL:Binds K fdL ["rest","letters"] []) (mL:mg "length_of"=some (.ref fL)) (kL:PySem.W.keepIn K (.ref fL)=true)
  (GS:FnOk P w K mg base CX0 2 fS fdS ["rest","winner","less"] (J4q CR)) (bS:Binds K fdS ["rest","winner","less"] []) (mS:mg "shortened"=some (.ref fS)) (kS:PySem.W.keepIn K (.ref fS)=true)
  (M:Mk K CR fI) (GI:FnOk P w K mg base CX0 2 fI fdI ["self","top","bottom","lengths","turned"] (J2k CR)) (bI:Binds K fdI ["self","top","bottom","lengths","turned"] []) (mgR:mg "Rest"=some (.ref CR))
  (HL:∀ k,HasM P w K mg base CX0 2 "losers" ["self","rest"] (J1b cs CR k) (cs k)) :
  FnOk P w K mg base CX0 4 f fd ["self","rest"] (J1d cs CR .us):=by
 refine F.ok scUsBehind (fun vs H Q E h=>?_) (fun cdv A outer s H vs Q E hr h=>?_)
 ·obtain ⟨x,y,s,r,rfl,_⟩:=h
  rfl
 ·obtain ⟨x,y,s,r,rfl,hs,⟨dx,hx⟩,R,fit,k⟩:=h
  have hr1:Room 1 _:=hr.mono (by decide)
  have hr2:Room 2 _:=hr.mono (by decide)
  have ok:=fit.ok
  have left:=fit.left
  have win:=fit.win
  have winB:=ok.perm.mem_iff.mpr win
  have few:=Nat.le_trans ok.row.len_le ok.few
  have fewB:=Nat.le_trans ok.rowB.len_le ok.few
  have lw:=ok.row.lt _ win
  obtain ⟨dr,fr,pt,pb,pl,pu,h0,⟨k1,k2,k3,k4,k5⟩,e1,e2,e3,e4⟩:=R.ex
  cases s with
  | unders a t =>
   have hlt:∀ j∈J9 r.top a,j < r.ls.length:=fun j hj=>ok.row.lt j (Jp hj)
   have hln:(J9 r.top a).length≤24:=by unfold J9;rw [List.length_drop];omega
   have hsz:(lenOf r.ls (J9 r.top a)).natAbs < 2 ^ 4000:=by
    have p0:∀ j∈r.top,1≤r.ls.getD j 0:=fun j hj=>ok.row.pos j hj
    have h1:lenOf r.ls r.top=r.size:=rfl
    have h2:lenOf r.ls r.top=lenOf r.ls (r.top.take (r.top.idxOf a + 1)) + lenOf r.ls (J9 r.top a):=by
     rw [← J1j]
     show _=lenOf r.ls (r.top.take (r.top.idxOf a + 1) ++ r.top.drop (r.top.idxOf a + 1))
     rw [List.take_append_drop]
    have h3:=Jt (ls:=r.ls) (os:=r.top.take (r.top.idxOf a + 1)) fun j hj=>by have:=p0 j (List.mem_of_mem_take hj);omega
    have h4:=Jt (ls:=r.ls) (os:=J9 r.top a) fun j hj=>by have:=p0 j (Jp hj);omega
    have h5:=fit.small
    have h6:(lenOf r.ls (J9 r.top a)).natAbs≤10 ^ 30:=by omega
    exact Nat.lt_of_le_of_lt h6 (by decide)
   refine ⟨_,J2 (Ji (i:=2) scUsBehind.nd rfl (Or.inl rfl) (Jb GS hr2 rfl mS kS bS .nil pass0 (J0 (pv 1) (J0 (Je (pv 0) rfl) (J0 (pe_op op_mulB (Je (pv 0) rfl) (Jb GL hr1 rfl mL kL bL .nil pass0 (J0 (pv 1) (J0 (J3f (sp:=J1b cs CR) (cls:=cs) (pv 0) HL hr2 pass0 (J0 (pv 1) J4)) J4)))) J4)))))
    (J8 (Jg (J14 M GI hr rfl mgR bI .nil pass0 (J0 (Je (pv 1) rfl) (J0 (Je (pv 1) rfl) (J0 (pv 2) (J0 (Je (pv 1) rfl) J4))))))),?_⟩
   refine ⟨_,rfl,_,rfl,x,cs _,dx,stF _,_,rfl,hx,TS.cl _,TS.nW _,stF_w _,_,rfl,x,cs _,dx,stF _,_,rfl,hx,TS.cl _,TS.nT _,stF_t _,_,rfl,_,rfl,x,.us,dx,stF _,rfl,hx,stF_no _ (by decide +kernel) (by decide +kernel) (by decide +kernel),_,rfl,x,y,.unders a t,r,rfl,rfl,⟨dx,hx⟩,R,win,winB,fun lp H1 s1 hlp=>?_⟩
   refine ⟨CR,y,lp,dr,pl,fr,r.ls,J9 r.top a,rfl,s1 _ _ h0,TR.cl,TR.nL,k3,s1 _ _ e3,hlp,hlt,hln,fun H2 s12=>?_⟩
   have s2:=s1.trans s12
   refine ⟨_,_,rfl,rfl,⟨fit.few,hsz⟩,y,r,a,_,rfl,R.same s2,lw,fun l1 H3 s23 hl1=>?_⟩
   have s3:=s2.trans s23
   refine ⟨_,rfl,y,CR,dr,fr,_,rfl,s3 _ _ h0,TR.cl,TR.nT,k1,_,rfl,y,CR,dr,fr,_,rfl,s3 _ _ h0,TR.cl,TR.nB,k2,_,rfl,_,rfl,y,CR,dr,fr,_,rfl,s3 _ _ h0,TR.cl,TR.nU,k4,?_⟩
   exact J22 left (.inr (s3 _ _ e1)) (.inr (s3 _ _ e2)) (.inl hl1) (.inr (s3 _ _ e4)) fun p H' s' R'=>k p H' (s3.trans s') R'
  | home a=>cases hs
  | even a b=>cases hs
  | over a b=>cases hs
  | under a b=>cases hs
  | overs a t=>cases hs
end
end R13
namespace R13
open PySem L2 Rl
section
variable {P:Program} {w:World} {K:PySem.W.Frag} {mg:Str→Option Value} {base:Heap}
def spCell (K:PySem.W.Frag):Sp:=fun vs H Q _=>∃ (a:Addr) (ns:List Int) (j:Nat),vs=[.ref a,.int j]∧SqL K H a (iV ns)∧Q (.int (cellN ns j)) H
theorem scCell:FnScope ["script","k"] ["script","k"] (J1 sCell):=⟨rfl,rfl,rfl,by decide +kernel,rfl,by decide +kernel,by decide +kernel⟩
theorem ok_cell {f:Addr} {fd:FuncData} (F:Fun K "_law_cell" "_law_cell" sCell f fd) (T:TxtR mg):FnOk P w K mg base CX0 1 f fd ["script","k"] (spCell K):=by
 refine F.ok scCell (fun vs H Q E h=>?_) (fun cdv A outer s H vs Q E hr h=>?_)
 ·obtain ⟨a,ns,j,rfl,_⟩:=h
  rfl
 ·obtain ⟨a,ns,j,rfl,hS,k⟩:=h
  refine ⟨_,J2 (ps_if (Jl op_lt (pv 1) (Jo J16 (by rfl) T.len PySem.boot_len (J0 (pv 0) J4)) (Ju _)) (J8 (Jg (pe_ix Jr (pv 0) (pv 1) (fun _ _=>rfl)))) Jm) (J8 (Jg Ja)),?_⟩
  refine ⟨_,rfl,_,rfl,a,_,rfl,.inl hS,_,_,rfl,rfl,_,rfl,?_⟩
  have hl:(iV ns).length=ns.length:=List.length_map ..
  by_cases hj:j < ns.length
  ·refine iteDT (by rw [hl];omega) ?_
   exact ⟨_,rfl,_,rfl,a,_,_,_,rfl,rfl,hS,J6 (J15 hj),k⟩
  ·refine iteD (by rw [hl];omega) ?_
   have e:cellN ns j=0:=by
    unfold cellN
    rw [List.getD_eq_getElem?_getD,List.getElem?_eq_none (by omega)];rfl
   rw [e] at k
   exact k
end
section
variable {P:Program} {w:World} {K:PySem.W.Frag} {mg:Str→Option Value} {base:Heap}
structure TxtL (K:PySem.W.Frag) (mg:Str→Option Value):Prop where
 isi:mg "isinstance"=none
 int:mg "int"=none
 bool:mg "bool"=none
 kib:PySem.W.kitOne K (.type "int") (.type "bool")=some false
def spWhole:Sp:=fun vs H Q _=>∃ i:Int,vs=[.int i]∧Q (.bl true) H
theorem scWhole:FnScope ["found"] ["found"] (J1 sWhole):=⟨rfl,rfl,rfl,by decide +kernel,rfl,by decide +kernel,by decide +kernel⟩
theorem ok_whole {f:Addr} {fd:FuncData} (F:Fun K "_law_whole" "_law_whole" sWhole f fd) (TL:TxtL K mg):FnOk P w K mg base CX0 1 f fd ["found"] spWhole:=by
 refine F.ok scWhole (fun vs H Q E h=>?_) (fun cdv A outer s H vs Q E hr h=>?_)
 ·obtain ⟨i,rfl,_⟩:=h
  rfl
 ·obtain ⟨i,rfl,k⟩:=h
  refine ⟨_,J8 (Jg (pe_and (Jo (J19 rfl) (by rfl) TL.isi PyProof.Rows.boot_isinstance (J0 (pv 0) (J0 (J4x (v:=.ty "int") rfl TL.int PyProof.Rows.boot_int rfl) J4)))
   (pe_one (pe_not (Jo (J19 rfl) (by rfl) TL.isi PyProof.Rows.boot_isinstance (J0 (pv 0) (J0 (J4x (v:=.ty "bool") rfl TL.bool PyProof.Rows.boot_bool rfl) J4))))))),?_⟩
  refine ⟨_,rfl,_,.ty "int",.type "int",.type "int",true,rfl,rfl,fun v h=>h,.int i,rfl,true,rfl,iteT ?_⟩
  exact ⟨_,rfl,_,.ty "bool",.type "int",.type "bool",false,rfl,rfl,fun v h=>h,.int i,TL.kib,false,rfl,k⟩
end
section
def pickL (ns:List Int) (lo st:Nat):List Int:=(List.range (Builtin.Range.rangeSize (lo:Int) (ns.length:Int) (st:Int)).toNat).map fun i=>ns.getD (lo + i * st) 0
def lenK (ns:List Int) (lo many:Nat) (span:Int) (k:Nat):Int:=1 + (pickL ns (lo + k) many).sum % span
theorem pick_read {K:PySem.W.Frag} {H1:Hp} {σ:St} {js:List Nat} {Q:VK} {d a:Addr} {ns:List Int} {lo st:Nat} (hS:SqL K H1 a (iV ns)) (hn:ns.length≤63) (hst:0 < st) (hd:H1 d=none) (e1:σ[js.getD 0 0]?=some (some (.ref a))) (ej:js=[js.getD 0 0])
  (hq:∀ H',Same H1 H'→H' d=some (.lst (iV (pickL ns lo st)))→Q (.ref d) H') :
  LCW (Its (lo:Int) (st:Int) (Builtin.Range.rangeSize (lo:Int) (ns.length:Int) (st:Int)).toNat) tYes (tOp (rIxL K) (tVar 1) (tVar 0)) σ js Q H1 d:=by
 have hc:(0:Int) < (st:Int):=by omega
 have few:=steps_few (a:=(lo:Int)) (b:=(ns.length:Int)) hc
 refine lc_stp (lo:Int) (st:Int) _ (fun i=>V.int (ns.getD (lo + i * st) 0)) (by omega) hd (fun _ _ H _ _ k=>k H (Same.refl _)) (fun i hi H2 Qe s2 k=>?_) (fun H' s' h=>hq H' s' ?_)
 ·have hlt:=steps_lt hc hi
  have e:(lo:Int) + (i:Int) * (st:Int)=((lo + i * st:Nat):Int):=by rw [Int.natCast_add,Int.natCast_mul]
  rw [e] at hlt
  refine ⟨.ref a,?_,.int ((lo + i * st:Nat):Int),by rw [← e];rfl,a,_,_,_,rfl,rfl,s2.seq hS,J6 (J15 (by omega)),k _ (Same.refl _)⟩
  rw [ej]
  show (capv σ [js.getD 0 0])[0]?=_
  unfold capv
  rw [List.map_cons,List.getElem?_cons_zero,e1]
  rfl
 ·rw [h]
  unfold pickL
  show _=some (HO.lst ((List.map _ _).map V.int))
  rw [List.map_map];rfl
def tbit (bits:Int) (k:Nat):Bool:=decide (V.int (bits / 2 ^ k % 2)=V.int 1)
end
section
variable {P:Program} {w:World} {K:PySem.W.Frag} {mg:Str→Option Value} {base:Heap}
theorem insV (os:List Nat) (i y:Nat):(nV os).take i ++ V.int (y:Int) :: (nV os).drop i=nV (insAt os i y):=by
 show ((os.map fun (n:Nat)=>(n:Int)).map V.int).take i ++ V.int (y:Int) :: ((os.map fun (n:Nat)=>(n:Int)).map V.int).drop i=((insAt os i y).map fun (n:Nat)=>(n:Int)).map V.int
 unfold insAt
 simp only [List.map_append,List.map_cons,List.map_take,List.map_drop]
def spShufL:Sp:=fun vs H Q _=>∃ (c:Int) (q:Addr) (ys:List Nat),vs=[.int c,.ref q]∧H q=some (.lst (nV ys))∧ys.length≤24∧∀ p H',Same H H'→H' p=some (.lst (nV (shufO c ys ys.length)))→Q (.ref p) H'
theorem scShuf:FnScope ["cell","letters","row","mixed","k"] ["cell","letters"] (J1 sShuf):=⟨rfl,rfl,rfl,by decide +kernel,rfl,by decide +kernel,by decide +kernel⟩
theorem ok_shufL {f:Addr} {fd:FuncData} (F:Fun K "_law_shuffled" "_law_shuffled" sShuf f fd) (T:TxtR mg):FnOk P w K mg base CX0 1 f fd ["cell","letters"] spShufL:=by
 refine F.ok scShuf (fun vs H Q E h=>?_) (fun cdv A outer s H vs Q E hr h=>?_)
 ·obtain ⟨c,q,ys,rfl,_⟩:=h
  rfl
 ·obtain ⟨c,q,ys,rfl,hq,hm,k⟩:=h
  refine ⟨_,J2 (Ji (i:=2) scShuf.nd rfl (Or.inl rfl) (J2d J4))
   (J2 (Ji (i:=3) scShuf.nd rfl (Or.inl rfl) (pe_op J1m Ja (pe_op J34 (pv 0) Ja)))
   (J2 (J57 PassesOwn.never rfl (J4e rfl T.range (J0 (Jo J16 (by rfl) T.len PySem.boot_len (J0 (pv 1) J4)) J4)) (J32 (i:=4) scShuf.nd rfl (Or.inl rfl))
    (J2 (Ji (i:=3) scShuf.nd rfl (Or.inl rfl) (pe_op J34 (pe_op op_mul (pv 3) Ja) Ja))
    (J8 (J31 (pe_bm PySem.F.plainAttrs_list PySem.F.slot_list_insert PySem.F.type_list_insert mt_insert (pv 2) (J0 (pe_op J34 (pv 3) (pe_op J1m (pv 4) Ja)) (J0 (pe_ix Jr (pv 1) (pv 4) (fun _ _=>rfl)) J4)))))))
   (J8 (Jg (pv 2))))),?_⟩
  refine ⟨Nat.zero_le _,fun ol hol=>?_⟩
  refine ⟨_,rfl,_,_,rfl,rfl,(by show (0:Int) < 1000000006;decide),_,_,rfl,rfl,?_⟩
  refine ⟨_,rfl,q,_,rfl,.inl (SqL.of (J7 hol _ _ hq)),(ys.length:Int),(by rw [J2e]),by omega,by omega,for_range (lo:=0) (n:=ys.length) (fun i σ H2=>∃ v,σ=[some (.int c),some (.ref q),some (.ref ol),some (.int (mixN c i)),v]∧H2 ol=some (.lst (nV (shufO c ys i)))∧Same H H2)
   ⟨none,rfl,J3,J7 hol⟩ ?_ ?_⟩
  ·rintro i σ H2 hi ⟨v,rfl,ho,s2⟩
   rw [Int.zero_add]
   obtain ⟨m0,m1⟩:=mixN_small c i
   obtain ⟨q1,q2⟩:=spotS_le c i
   have hlen:(nV (shufO c ys i)).length=i:=by rw [J2e,shufO_len _ _ _ (by omega)]
   refine ⟨_,rfl,_,_,rfl,rfl,.inl ⟨by omega,by omega⟩,_,_,rfl,rfl,(by show (0:Int) < 2147483647;decide),?_⟩
   refine ⟨_,rfl,.inl ⟨rfl,_,SqL.of ho⟩,_,rfl,_,rfl,_,_,rfl,rfl,_,_,rfl,rfl,(by omega),_,rfl,_,rfl,q,_,_,_,rfl,rfl,SqL.of (s2 _ _ hq),J6 (nV_at hi),
    ol,_,spotS c i,V.int (ys.getD i 0:Nat),rfl,(by rw [q2];rfl),ho,(by rw [hlen];exact q1),(by rw [hlen];exact J18 (by omega)),?_⟩
   refine ⟨_,rfl,?_,fun b o z=>?_⟩
   ·rw [J3,insV];rfl
   ·rw [Jk (Jc z hol)]
    exact s2 _ _ z
  ·rintro σ H2 ⟨v,rfl,ho,s2⟩
   exact ⟨_,rfl,k ol H2 s2 ho⟩
structure DrawnR (H:Hp) (p:Addr) (r:Rst):Prop where
 ex:∃ t b l u:Addr,H p=some (.tup [.ref t,.ref b,.ref l,.ref u])∧H t=some (.lst (nV r.top))∧H b=some (.lst (nV r.bot))∧H l=some (.lst (iV r.ls))∧H u=some (.lst (bV r.ts))
theorem DrawnR.same {H H':Hp} {p:Addr} {r:Rst} (h:DrawnR H p r) (s:Same H H'):DrawnR H' p r:=by
 obtain ⟨t,b,l,u,h0,h1,h2,h3,h4⟩:=h.ex
 exact ⟨t,b,l,u,s _ _ h0,s _ _ h1,s _ _ h2,s _ _ h3,s _ _ h4⟩
structure Few (B:Int) (r:Rst):Prop where
 ok:r.Ok
 ne:r.top≠[]
 six:r.ls.length≤6
 le:∀ j,r.ls.getD j 0≤B
theorem Few.size {B:Int} {r:Rst} (h:Few B r) (hB:0≤B):r.size≤6 * B:=by
 have h1:=lenOf_le (ls:=r.ls) (B:=B) (os:=r.top) fun j _=>h.le j
 have h2:=h.ok.row.len_le
 have h3:=h.six
 have h4:(r.top.length:Int) * B≤6 * B:=Int.mul_le_mul_of_nonneg_right (by omega) hB
 exact Int.le_trans h1 h4
def spDrawnR (K:PySem.W.Frag):Sp:=fun vs H Q _=>∃ (a q:Addr) (ns spans:List Int) (B:Int),vs=[.ref a,.ref q]∧SqL K H a (iV ns)∧ns.length≤63∧H q=some (.lst (iV spans))∧0 < spans.length∧spans.length≤24∧(∀ x∈spans,1≤x∧x≤B)∧
 ∀ p r H',Same H H'→DrawnR H' p r→Few B r→Q (.ref p) H'
theorem scDrawnR:FnScope ["script","spans","total","marks","letters","span","lengths","turned","bits","k","top","bottom"] ["script","spans"] (J1 J41):=⟨rfl,rfl,rfl,by decide +kernel,rfl,by decide +kernel,by decide +kernel⟩
def freeB (marks:Int) (k:Nat):Bool:=decide (V.int (Builtin.bitAnd (marks / 2 ^ k) 1)=V.int 0)
theorem ok_drawnR {f fC fS:Addr} {fd fdC fdS:FuncData} (F:Fun K "_law_rest" "_law_rest" J41 f fd) (T:TxtR mg)
  (GC:FnOk P w K mg base CX0 1 fC fdC ["script","k"] (spCell K)) (bC:Binds K fdC ["script","k"] []) (mC:mg "_law_cell"=some (.ref fC)) (kC:PySem.W.keepIn K (.ref fC)=true)
  (GS:FnOk P w K mg base CX0 1 fS fdS ["cell","letters"] spShufL) (bS:Binds K fdS ["cell","letters"] []) (mS:mg "_law_shuffled"=some (.ref fS)) (kS:PySem.W.keepIn K (.ref fS)=true) :
  FnOk P w K mg base CX0 2 f fd ["script","spans"] (spDrawnR K):=by
 refine F.ok scDrawnR (fun vs H Q E h=>?_) (fun cdv A outer s H vs Q E hr h=>?_)
 ·obtain ⟨a,q,ns,spans,B,rfl,_⟩:=h
  rfl
 ·obtain ⟨a,q,ns,spans,B,rfl,hS,hlen,hq,hsp,hsp2,hsm,kk⟩:=h
  have hu:=hr.units0
  refine ⟨_,J2 (J2a (Ji (i:=2) scDrawnR.nd rfl (Or.inl rfl) (pe_op J1m Ja (pe_op J34 (Jb GC hr rfl mC kC bC .nil pass0 (J0 (pv 0) (J0 Ja J4))) Ja))))
   (J2 (J2a (Ji (i:=3) scDrawnR.nd rfl (Or.inr rfl) (pe_op J34 (Jb GC hr rfl mC kC bC .nil pass0 (J0 (pv 0) (J0 Ja J4))) Ja)))
   (J2 (ps_lc (i:=4) (caps:=["marks"]) (js:=[3]) scDrawnR.nd rfl (Or.inl rfl) rfl (J4e rfl T.range (J0 (pv 2) J4)) rfl
    (fun C fp s H=>pts_one (Jl op_eq (pe_op op_and (pe_op op_shr (pv 1) (pv 0)) Ja) Ja (Ju _))) (fun C fp s H=>pv 0) (by decide +kernel) (by decide +kernel) (by decide +kernel) (by intro p hp;simp only [List.mem_cons,List.not_mem_nil,or_false] at hp;rcases hp with rfl;rfl))
   (J2 (J2a (ps_if (Jl (op_eqL hu) (pv 4) (J2d J4) (Ju _)) (J8 (Ji (i:=4) scDrawnR.nd rfl (Or.inl rfl) (J2d (J0 (pe_op J34 (pe_op op_fdiv (Jb GC hr rfl mC kC bC .nil pass0 (J0 (pv 0) (J0 Ja J4))) Ja) (pv 2)) J4)))) Jm))
   (J2 (J2a (Ji (i:=5) scDrawnR.nd rfl (Or.inl rfl) (pe_ix Jr (pv 1) (pe_op J34 (pe_op op_fdiv (Jb GC hr rfl mC kC bC .nil pass0 (J0 (pv 0) (J0 Ja J4))) Ja) (Jo J16 (by rfl) T.len PySem.boot_len (J0 (pv 1) J4))) (fun _ _=>rfl))))
   (J2 (J2a (Ji (i:=6) scDrawnR.nd rfl (Or.inl rfl) (pe_op op_rep (J2d (J0 Ja J4)) (pv 2))))
   (J2 (J2a (Ji (i:=7) scDrawnR.nd rfl (Or.inl rfl) (pe_op op_rep (J2d (J0 pe_bl J4)) (pv 2))))
   (J2 (J2a (Ji (i:=8) scDrawnR.nd rfl (Or.inl rfl) (pe_op op_fdiv (pe_op J34 (pe_op op_mul (pe_op J1m Ja (pe_op J34 (Jb GC hr rfl mC kC bC .nil pass0 (J0 (pv 0) (J0 Ja J4))) Ja)) Ja) Ja) Ja)))
   (J2 (J57 PassesOwn.never rfl (J43 (pv 4)) (J32 (i:=9) scDrawnR.nd rfl (Or.inl rfl))
    (J2 (J4d (pe_op J1m Ja (pe_op J34 (Jo (J2h rfl) (by rfl) T.sum PyProof.Rows.boot_sum (J0
     (pe_lc (caps:=["script"]) (js:=[0]) rfl (pi_steps rfl T.range (J0 (pe_op J1m Ja (pv 9)) (J0 (Jo J16 (by rfl) T.len PySem.boot_len (J0 (pv 0) J4)) (J0 (pv 2) J4)))) rfl (fun _ _ _ _=>J4v)
      (fun C fp s H=>pe_ixr (ix_listK K) (pv 1) (pv 0)) (by decide +kernel) (by decide +kernel) (by decide +kernel) (by intro p hp;simp only [List.mem_cons,List.not_mem_nil,or_false] at hp;rcases hp with rfl;rfl)) J4)) (pv 5))) (J4f (pv 6) (pv 9) J1h))
    (J8 (J4d (pe_cmpR op_eq (pe_op J34 (pe_op op_shr (pv 8) (pv 9)) Ja) Ja (Ju _)) (J4f (pv 7) (pv 9) J1h)))))
   (J2 (Ji (i:=10) scDrawnR.nd rfl (Or.inl rfl) (Jb GS hr rfl mS kS bS .nil pass0 (J0 (Jo (J2h rfl) (by rfl) T.sum PyProof.Rows.boot_sum (J0 (pv 0) J4)) (J0 (pv 4) J4))))
   (J2 (Ji (i:=11) scDrawnR.nd rfl (Or.inl rfl) (Jb GS hr rfl mS kS bS .nil pass0 (J0 (pe_op J1m (pe_op op_fdiv (Jo (J2h rfl) (by rfl) T.sum PyProof.Rows.boot_sum (J0 (pv 0) J4)) Ja) (Jb GC hr rfl mC kC bC .nil pass0 (J0 (pv 0) (J0 Ja J4)))) (J0 (pv 4) J4))))
   (J8 (Jg (J2c (J0 (pv 10) (J0 (pv 11) (J0 (pv 6) (J0 (pv 7) J4))))))))))))))))),?_⟩
  have a0:0≤cellN ns 0 % 5:=Int.emod_nonneg _ (by decide)
  have a1:cellN ns 0 % 5 < 5:=Int.emod_lt_of_pos _ (by decide)
  obtain ⟨total,ht⟩:∃ total:Nat,(total:Int)=2 + cellN ns 0 % 5:=⟨(2 + cellN ns 0 % 5).toNat,by omega⟩
  have t1:2≤total:=by omega
  have t2:total≤6:=by omega
  refine ⟨fun σ' H'=>σ'=[some (.ref a),some (.ref q),some (.int total),none,none,none,none,none,none,none,none,none]∧H=H',⟨_,rfl,a,ns,0,rfl,hS,_,_,rfl,rfl,(by show (0:Int) < 5;decide),_,_,rfl,rfl,?_,rfl⟩,?_⟩
  ·rw [ht];rfl
  rintro σ _ ⟨rfl,rfl⟩
  obtain ⟨marks,hmk⟩:∃ marks:Int,marks=cellN ns 1 % 64:=⟨_,rfl⟩
  refine ⟨fun σ' H'=>σ'=[some (.ref a),some (.ref q),some (.int total),some (.int marks),none,none,none,none,none,none,none,none]∧H=H',⟨_,rfl,a,ns,1,rfl,hS,_,_,rfl,rfl,(by show (0:Int) < 64;decide),?_,rfl⟩,?_⟩
  ·rw [hmk];rfl
  rintro σ _ ⟨rfl,rfl⟩
  refine ⟨_,rfl,(total:Int),rfl,by omega,by omega,fun dl hdl=>lc_rng 0 total (freeB marks) (fun k=>V.int (k:Nat)) (by omega) hdl (fun kk hkk H2 Qt s2 q=>?_) (fun kk hkk H2 Qe _ s2 q=>?_) (fun H2 s2 hl2=>?_)⟩
  ·have e:(0 + (kk:Int)).toNat=kk:=by omega
   refine ⟨_,rfl,_,rfl,_,_,rfl,rfl,(by omega),_,_,rfl,rfl,rfl,_,rfl,?_⟩
   have:=q H2 (Same.refl _)
   unfold freeB at this
   rw [e]
   exact this
  ·have:=q H2 (Same.refl _)
   exact ⟨_,rfl,by rw [Int.zero_add];exact this⟩
  have hl2':H2 dl=some (.lst (nV ((List.range total).filter (freeB marks)))):=by rw [hl2,nV_eq]
  clear hl2
  have nd0:((List.range total).filter (freeB marks)).Nodup:=List.nodup_range.filter _
  have lt0:∀ j∈(List.range total).filter (freeB marks),j < total:=fun j hj=>List.mem_range.mp (List.mem_filter.mp hj).1
  generalize (List.range total).filter (freeB marks)=let0 at *
  refine ⟨fun σ' H'=>∃ (ld:Addr) (letters:List Nat),σ'=[some (.ref a),some (.ref q),some (.int total),some (.int marks),some (.ref ld),none,none,none,none,none,none,none]∧Same H H'∧H' ld=some (.lst (nV letters))∧letters≠[]∧letters.Nodup∧∀ j∈letters,j < total,
   ⟨_,rfl,Nat.zero_le _,fun ne hne=>⟨dl,ne,_,_,rfl,rfl,SqL.of (J7 hne _ _ hl2'),SqL.of J3,fun x _ y hy=>(by cases hy),_,rfl,?_⟩⟩,?_⟩
  ·by_cases c:nV let0=[]
   ·refine iteDT c ?_
    obtain ⟨m,hm⟩:∃ m:Nat,(m:Int)=cellN ns 0 / 5 % (total:Int):=⟨(cellN ns 0 / 5 % (total:Int)).toNat,by have:=Int.emod_nonneg (cellN ns 0 / 5) (show (total:Int)≠0 by omega);omega⟩
    have hm2:m < total:=by have:=Int.emod_lt_of_pos (cellN ns 0 / 5) (show (0:Int) < (total:Int) by omega);omega
    refine ⟨_,rfl,a,ns,0,rfl,(s2.trans (J7 hne)).seq hS,_,_,rfl,rfl,⟨by decide,by decide⟩,_,rfl,_,_,rfl,rfl,(by show (0:Int) < (total:Int);omega),(by show 1≤sizeLine;decide),fun ld hld=>?_⟩
    refine ⟨ld,[m],rfl,(s2.trans (J7 hne)).trans (J7 hld),?_,by simp,by simp,fun j hj=>?_⟩
    ·rw [J3]
     show some (HO.lst [V.int (cellN ns 0 / 5 % (total:Int))])=some (HO.lst [V.int (m:Int)])
     rw [hm]
    ·obtain rfl:=List.mem_singleton.mp hj
     exact hm2
   ·refine iteD c ⟨dl,let0,rfl,s2.trans (J7 hne),J7 hne _ _ hl2',fun e=>c (by rw [e];rfl),nd0,lt0⟩
  rintro σ H3 ⟨ld,letters,rfl,s3,hl3,hnel,nd,lt⟩
  have hlen6:letters.length≤6:=Nat.le_trans (J4g _ _ nd lt) t2
  have hl0:0 < letters.length:=List.length_pos_iff.mpr hnel
  obtain ⟨m,hm⟩:∃ m:Nat,(m:Int)=cellN ns 0 / 30 % (spans.length:Int):=⟨(cellN ns 0 / 30 % (spans.length:Int)).toNat,by have:=Int.emod_nonneg (cellN ns 0 / 30) (show (spans.length:Int)≠0 by omega);omega⟩
  have hm2:m < spans.length:=by have:=Int.emod_lt_of_pos (cellN ns 0 / 30) (show (0:Int) < (spans.length:Int) by omega);omega
  obtain ⟨sp1,sp2⟩:=hsm _ (getD_memI hm2)
  refine ⟨fun σ' H'=>σ'=[some (.ref a),some (.ref q),some (.int total),some (.int marks),some (.ref ld),some (.int (spans.getD m 0)),none,none,none,none,none,none]∧H3=H',
   ⟨_,rfl,_,rfl,a,ns,0,rfl,s3.seq hS,_,_,rfl,rfl,⟨by decide,by decide⟩,_,rfl,q,_,rfl,.inl (SqL.of (s3 _ _ hq)),_,_,rfl,rfl,(by rw [J4h];omega),q,_,_,V.int (spans.getD m 0),rfl,rfl,SqL.of (s3 _ _ hq),?_,rfl,rfl⟩,?_⟩
  ·have e:cellN ns 0 / 30 % ((iV spans).length:Int)=(m:Int):=by rw [J4h];exact hm.symm
   show atI (iV spans) (cellN ns 0 / 30 % ((iV spans).length:Int))=_
   rw [e]
   exact J6 (J15 hm2)
  rintro σ _ ⟨rfl,rfl⟩
  generalize spans.getD m 0=span at *
  refine ⟨fun σ' H'=>∃ le:Addr,σ'=[some (.ref a),some (.ref q),some (.int total),some (.int marks),some (.ref ld),some (.int span),some (.ref le),none,none,none,none,none]∧H' le=some (.lst (iV (List.replicate total 0)))∧Same H3 H'∧H3 le=none,
   ⟨by show 1≤sizeLine;decide,fun z hz=>⟨_,rfl,z,(total:Int),[V.int 0],rfl,rfl,J3,by omega,by omega,?_,fun le hle=>⟨le,rfl,?_,(J7 hz).trans (J7 hle),(J7 hz).free hle⟩⟩⟩,?_⟩
  ·show 1 * (total:Int).toNat≤sizeLine
   have:=J18 (n:=total) (by omega)
   omega
  ·rw [J3,flat_zero];rfl
  rintro σ H4 ⟨le,rfl,hle4,s4,fle⟩
  refine ⟨fun σ' H'=>∃ te:Addr,σ'=[some (.ref a),some (.ref q),some (.int total),some (.int marks),some (.ref ld),some (.int span),some (.ref le),some (.ref te),none,none,none,none]∧H' te=some (.lst (bV (List.replicate total false)))∧Same H4 H'∧H4 te=none,
   ⟨by show 1≤sizeLine;decide,fun z hz=>⟨_,rfl,z,(total:Int),[V.bl false],rfl,rfl,J3,by omega,by omega,?_,fun te hte=>⟨te,rfl,?_,(J7 hz).trans (J7 hte),(J7 hz).free hte⟩⟩⟩,?_⟩
  ·show 1 * (total:Int).toNat≤sizeLine
   have:=J18 (n:=total) (by omega)
   omega
  ·rw [J3,flat_false];rfl
  rintro σ H5 ⟨te,rfl,hte5,s5,fte⟩
  have b0:0≤cellN ns 1 % 1000003:=Int.emod_nonneg _ (by decide)
  have b1:cellN ns 1 % 1000003 < 1000003:=Int.emod_lt_of_pos _ (by decide)
  obtain ⟨bits,hbits⟩:∃ bits:Int,bits=(1 + cellN ns 1 % 1000003) * 48271 % 2147483647 / 8:=⟨_,rfl⟩
  have s15:=s3.trans (s4.trans s5)
  refine ⟨fun σ' H'=>σ'=[some (.ref a),some (.ref q),some (.int total),some (.int marks),some (.ref ld),some (.int span),some (.ref le),some (.ref te),some (.int bits),none,none,none]∧H5=H',
   ⟨_,rfl,a,ns,1,rfl,s15.seq hS,_,_,rfl,rfl,(by show (0:Int) < 1000003;decide),_,_,rfl,rfl,_,_,rfl,rfl,.inl ⟨by omega,by omega⟩,_,_,rfl,rfl,(by show (0:Int) < 2147483647;decide),_,_,rfl,rfl,⟨by decide,by decide⟩,?_,rfl⟩,?_⟩
  ·rw [hbits];rfl
  rintro σ _ ⟨rfl,rfl⟩
  have hld5:=(s4.trans s5) _ _ hl3
  have hle5:=s5 _ _ hle4
  have fte3:H3 te=none:=s4.free fte
  have nlt:le≠te:=Jc hle4 fte
  have s35:=s4.trans s5
  have fI:∀ i,(fillI (lenK ns 2 total span) (List.replicate total 0) (letters.take i)).length=total:=fun i=>by rw [J25,List.length_replicate]
  have fB:∀ i,(fillB (tbit bits) (List.replicate total false) (letters.take i)).length=total:=fun i=>by rw [J4k,List.length_replicate]
  refine ⟨_,rfl,ld,rfl,⟨_,SqL.of hld5⟩,J5e (K:=K) (a:=ld) (xs:=nV letters)
   (fun i σ H6=>∃ v,σ=[some (.ref a),some (.ref q),some (.int total),some (.int marks),some (.ref ld),some (.int span),some (.ref le),some (.ref te),some (.int bits),v,none,none]∧
    H6 le=some (.lst (iV (fillI (lenK ns 2 total span) (List.replicate total 0) (letters.take i))))∧H6 te=some (.lst (bV (fillB (tbit bits) (List.replicate total false) (letters.take i))))∧Same H3 H6)
   ⟨none,rfl,hle5,hte5,s35⟩ (fun i σ H6 _ ⟨_,_,_,_,s⟩=>SqL.of (s _ _ hl3)) ?_ ?_⟩
  ·rintro i y σ H6 hy ⟨v,rfl,hle6,hte6,s6⟩
   obtain ⟨hi,rfl,hmem⟩:=nV_get hy
   have hkt:=lt _ hmem
   have etk:=take_snoc hi
   generalize letters.getD i 0=kk at *
   have e2:(2:Int) + (kk:Int)=((2 + kk:Nat):Int):=by omega
   refine ⟨_,rfl,_,_,rfl,rfl,_,rfl,a,_,rfl,.inl ((s3.trans s6).seq hS),_,rfl,((2 + kk:Nat):Int),(ns.length:Int),(total:Int),?_,⟨by omega,by omega,by omega,by omega,by omega,by omega⟩,fun d2 hd2=>pick_read ((s3.trans s6).seq hS) hlen (by omega) hd2 rfl rfl fun H7 s7 h7=>?_⟩
   ·rw [← e2,J4h]
   refine ⟨d2,_,rfl,.inl (SqL.of h7),_,rfl,_,_,rfl,rfl,(by show (0:Int) < span;omega),_,_,rfl,rfl,_,rfl,_,rfl,le,_,_,kk,rfl,rfl,s7 _ _ hle6,J27 (by rw [J4h,fI];exact hkt),?_⟩
   have e:((kk:Int)).toNat=kk:=by omega
   refine ⟨_,rfl,_,rfl,_,_,rfl,rfl,(by show (0:Int)≤(kk:Int);omega),_,_,rfl,rfl,(by show (0:Int) < 2;decide),rfl,_,rfl,_,rfl,te,bV (fillB (tbit bits) (List.replicate total false) (letters.take i)),_,kk,rfl,rfl,?_,J27 (by rw [List.length_map,fB];exact hkt),?_⟩
   ·rw [Jk (Ne.symm nlt)]
    exact s7 _ _ hte6
   refine ⟨_,rfl,?_,?_,fun b u z=>?_⟩
   ·rw [Jk nlt,J3,etk,fillI_snoc,← J5d];rfl
   ·rw [J3,etk,fillB_snoc]
    show some (HO.lst ((bV _).set kk (V.bl (decide (V.int (bits / 2 ^ ((kk:Int)).toNat % 2)=V.int 1)))))=some (HO.lst ((List.set _ kk (tbit bits kk)).map V.bl))
    rw [List.map_set,e];rfl
   ·rw [Jk (Jc z fte3),Jk (Jc z fle)]
    exact s7 _ _ (s6 _ _ z)
  ·rintro σ H6 ⟨v,rfl,hle6,hte6,s6⟩
   rw [J2e,List.take_length] at hle6 hte6
   have s16:=s3.trans s6
   refine ⟨_,rfl,a,ns,rfl,.inl (s16.seq hS),_,rfl,ns.sum,ld,letters,rfl,s6 _ _ hl3,by omega,fun tp H7 s7 htp=>?_⟩
   have s17:=s16.trans s7
   refine ⟨_,rfl,a,ns,rfl,.inl (s17.seq hS),_,_,rfl,rfl,⟨by decide,by decide⟩,_,rfl,a,ns,0,rfl,s17.seq hS,_,_,rfl,rfl,_,rfl,_,ld,letters,rfl,s7 _ _ (s6 _ _ hl3),by omega,fun bp H8 s8 hbp=>?_⟩
   refine ⟨_,rfl,_,rfl,_,rfl,_,rfl,(by show 4≤sizeLine;decide),fun p hp=>?_⟩
   have s9:Same H8 (upd H8 p (.tup [.ref tp,.ref bp,.ref le,.ref te])):=J7 hp
   have hf:∀ j∈letters,1≤lenK ns 2 total span j:=fun j hj=>by
    unfold lenK
    have:=Int.emod_nonneg (pickL ns (2 + j) total).sum (show span≠0 by omega)
    omega
   refine kk p ⟨shufO ns.sum letters letters.length,shufO (ns.sum / 7 + cellN ns 0) letters letters.length,fillI (lenK ns 2 total span) (List.replicate total 0) letters,fillB (tbit bits) (List.replicate total false) letters⟩ _ (s17.trans (s8.trans s9))
    ⟨tp,bp,le,te,J3,s9 _ _ (s8 _ _ htp),s9 _ _ hbp,s9 _ _ (s8 _ _ (s7 _ _ hle6)),s9 _ _ (s8 _ _ (s7 _ _ hte6))⟩ ⟨drawnR_ok nd lt t2 hf,fun e=>?_,?_,fun j=>?_⟩
   ·have:=shufO_len ns.sum letters letters.length (Nat.le_refl _)
    have e':shufO ns.sum letters letters.length=[]:=e
    rw [e'] at this
    simp at this
    omega
   ·show (fillI (lenK ns 2 total span) (List.replicate total 0) letters).length≤6
    rw [J25,List.length_replicate];exact t2
   ·show (fillI (lenK ns 2 total span) (List.replicate total 0) letters).getD j 0≤B
    rw [J39 _ _ _ _ fun k hk=>by rw [List.length_replicate];exact lt k hk]
    split
    ·unfold lenK
     have h2:=Int.emod_lt_of_pos (pickL ns (2 + j) total).sum (show (0:Int) < span by omega)
     omega
    ·rw [rep_getI];omega
end
section
variable {P:Program} {w:World} {K:PySem.W.Frag} {mg:Str→Option Value} {base:Heap}
def spSumL:Sp:=fun vs H Q _=>∃ (l q:Addr) (ls:List Int) (row:List Nat),vs=[.ref l,.ref q]∧H l=some (.lst (iV ls))∧H q=some (.lst (nV row))∧(∀ j∈row,j < ls.length)∧row.length≤24∧∀ H',Same H H'→Q (.int (lenOf ls row)) H'
theorem scSum:FnScope ["lengths","letters"] ["lengths","letters"] (J1 sSum):=⟨rfl,rfl,rfl,by decide +kernel,rfl,by decide +kernel,by decide +kernel⟩
theorem ok_sumL {f:Addr} {fd:FuncData} (F:Fun K "_law_sum" "_law_sum" sSum f fd) (T:TxtR mg):FnOk P w K mg base CX0 1 f fd ["lengths","letters"] spSumL:=by
 refine F.ok scSum (fun vs H Q E h=>?_) (fun cdv A outer s H vs Q E hr h=>?_)
 ·obtain ⟨l,q,ls,row,rfl,_⟩:=h
  rfl
 ·obtain ⟨l,q,ls,row,rfl,hl,hq,hlt,hn,k⟩:=h
  refine ⟨_,J8 (Jg (Jo (J2h rfl) (by rfl) T.sum PyProof.Rows.boot_sum (J0 (pe_lc (caps:=["lengths"]) (js:=[0]) rfl (J43 (pv 1)) rfl (fun _ _ _ _=>J4v)
   (fun C fp s H=>pe_ixr (ix_listK K) (pv 1) (pv 0))
   (by decide +kernel) (by decide +kernel) (by decide +kernel) (by intro p hp;simp only [List.mem_cons,List.not_mem_nil,or_false] at hp;rcases hp with rfl;rfl)) J4))),?_⟩
  refine ⟨_,rfl,q,rfl,⟨_,SqL.of hq⟩,fun d hd=>lc_lst (fun (j:Nat)=>V.int (j:Int)) row (fun _=>true) (fun j=>V.int (ls.getD j 0)) (by rw [← nV_eq];exact SqL.of hq) (by omega) hd
   (fun _ _ H _ _ k=>k H (Same.refl _)) (fun j hj H2 Qe _ s2 k=>?_) (fun H' s' hd'=>?_)⟩
  ·exact ⟨_,rfl,_,rfl,l,_,_,_,rfl,rfl,SqL.of (s2 _ _ hl),J6 (J15 (hlt j hj)),k _ (Same.refl _)⟩
  ·rw [J1r] at hd'
   refine ⟨d,row.map fun j=>ls.getD j 0,rfl,.inl (SqL.of ?_),k H' s'⟩
   rw [hd',List.map_map];rfl
def DueAt (H:Hp) (q:Addr) (s:Stp) (ls:List Nat):Prop:=∃ l:Addr,H q=some (.tup [.str (wordS (kd s)),.int (s.winner:Nat),.ref l,.int s.times])∧H l=some (.lst (nV ls))
theorem DueAt.same {H H':Hp} {q:Addr} {s:Stp} {ls:List Nat} (h:DueAt H q s ls) (e:Same H H'):DueAt H' q s ls:=let ⟨l,a,b⟩:=h;⟨l,e _ _ a,e _ _ b⟩
def spStepN:Sp:=fun vs H Q _=>∃ (p:Addr) (r:Rst),vs=[.ref p]∧DrawnR H p r∧r.Ok∧r.top≠[]∧r.size≤10 ^ 30∧∀ q H',Same H H'→DueAt H' q (nextN r) ((nextN r).losers r)→Q (.ref q) H'
theorem scStepN:FnScope ["drawn","top","bottom","lengths","one","two","rivals"] ["drawn"] (J1 sStepN):=⟨rfl,rfl,rfl,by decide +kernel,rfl,by decide +kernel,by decide +kernel⟩
theorem cut_lst (row:List Nat) (a:Nat) (ha:a∈row):cutV (nV row) (some ((((natI row).idxOf (a:Int):Nat):Int) + 1)) none=nV (J9 row a):=by
 have h1:row.idxOf a < row.length:=List.idxOf_lt_length_iff.mpr ha
 have e:(((natI row).idxOf (a:Int):Nat):Int) + 1=((row.idxOf a + 1:Nat):Int):=by rw [J45];omega
 rw [e,cut_nat row _ h1];rfl
theorem ok_stepN {f fS:Addr} {fd fdS:FuncData} (F:Fun K "_law_step" "_law_step" sStepN f fd)
  (GS:FnOk P w K mg base CX0 1 fS fdS ["lengths","letters"] spSumL) (bS:Binds K fdS ["lengths","letters"] []) (mS:mg "_law_sum"=some (.ref fS)) (kS:PySem.W.keepIn K (.ref fS)=true) :
  FnOk P w K mg base CX0 2 f fd ["drawn"] spStepN:=by
 refine F.ok scStepN (fun vs H Q E h=>?_) (fun cdv A outer s H vs Q E hr h=>?_)
 ·obtain ⟨p,r,rfl,_⟩:=h
  rfl
 ·obtain ⟨p,r,rfl,D,ok,ne,hz,k⟩:=h
  obtain ⟨pt,pb,pl,pu,h0,e1,e2,e3,e4⟩:=D.ex
  have mT:=ok.mT ne
  have mB:=ok.mB ne
  have mTb:=ok.perm.mem_iff.mpr mT
  have neB:r.bot≠[]:=fun e=>by
   have:=ok.lens
   rw [e] at this
   exact ne (List.length_eq_zero_iff.mp this.symm)
  have lT:=ok.row.lt _ mT
  have lB:=ok.row.lt _ mB
  have six:=Nat.le_trans ok.row.len_le ok.few
  have sixB:=Nat.le_trans ok.rowB.len_le ok.few
  refine ⟨_,J2 (Ji (i:=1) scStepN.nd rfl (Or.inl rfl) (pe_ix Jh (pv 0) Ja (fun _ _=>rfl)))
   (J2 (Ji (i:=2) scStepN.nd rfl (Or.inl rfl) (pe_ix Jh (pv 0) Ja (fun _ _=>rfl)))
   (J2 (Ji (i:=3) scStepN.nd rfl (Or.inl rfl) (pe_ix Jh (pv 0) Ja (fun _ _=>rfl)))
   (J2 (Ji (i:=4) scStepN.nd rfl (Or.inl rfl) (pe_ix Jr (pv 1) (pe_un J47 Ja) (fun _ _=>rfl)))
   (J2 (Ji (i:=5) scStepN.nd rfl (Or.inl rfl) (pe_ix Jr (pv 2) (pe_un J47 Ja) (fun _ _=>rfl)))
   (J2 (ps_if (Jl op_eq (pv 4) (pv 5) (Ju _)) (J8 (Jg (J2c (J0 J1c (J0 (pv 4) (J0 (J2d J4) (J0 Ja J4))))))) Jm)
   (J2 (ps_if (Jl op_eq (pe_ix Jr (pv 3) (pv 4) (fun _ _=>rfl)) (pe_ix Jr (pv 3) (pv 5) (fun _ _=>rfl)) (Ju _)) (J8 (Jg (J2c (J0 J1c (J0 (pv 4) (J0 (J2d (J0 (pv 5) J4)) (J0 Ja J4))))))) Jm)
   (J2 (ps_if (Jl op_gt (pe_ix Jr (pv 3) (pv 4) (fun _ _=>rfl)) (pe_ix Jr (pv 3) (pv 5) (fun _ _=>rfl)) (Ju _))
    (J2 (Ji (i:=6) scStepN.nd rfl (Or.inl rfl) (J1i J30 (pv 2) (J2n (pe_op J1m (pe_bm PySem.F.plainAttrs_list PySem.F.slot_list_index PySem.F.type_list_index J23 (pv 2) (J0 (pv 4) J4)) Ja)) J2o))
    (J2 (ps_if (PW.pt (pw_and (J2m (J1o (pe_ix Jr (pe_ix Jh (pv 0) Ja (fun _ _=>rfl)) (pv 4) (fun _ _=>rfl)))) (pw_and1 (Jl op_gt (pe_ix Jr (pv 3) (pv 4) (fun _ _=>rfl)) (Jb GS hr rfl mS kS bS .nil pass0 (J0 (pv 3) (J0 (pv 6) J4))) (Ju _)))))
     (J8 (Jg (J2c (J0 J1c (J0 (pv 4) (J0 (pv 6) (J0 (pe_op J59 (pe_op J4y (pe_ix Jr (pv 3) (pv 4) (fun _ _=>rfl)) Ja) (Jb GS hr rfl mS kS bS .nil pass0 (J0 (pv 3) (J0 (pv 6) J4)))) J4))))))) Jm)
    (J8 (Jg (J2c (J0 J1c (J0 (pv 4) (J0 (J2d (J0 (pv 5) J4)) (J0 Ja J4)))))))))
    Jm)
   (J2 (Ji (i:=6) scStepN.nd rfl (Or.inl rfl) (J1i J30 (pv 1) (J2n (pe_op J1m (pe_bm PySem.F.plainAttrs_list PySem.F.slot_list_index PySem.F.type_list_index J23 (pv 1) (J0 (pv 5) J4)) Ja)) J2o))
   (J2 (ps_if (PW.pt (pw_and (J2m (J1o (pe_ix Jr (pe_ix Jh (pv 0) Ja (fun _ _=>rfl)) (pv 5) (fun _ _=>rfl)))) (pw_and1 (Jl op_gt (pe_ix Jr (pv 3) (pv 5) (fun _ _=>rfl)) (Jb GS hr rfl mS kS bS .nil pass0 (J0 (pv 3) (J0 (pv 6) J4))) (Ju _)))))
     (J8 (Jg (J2c (J0 J1c (J0 (pv 5) (J0 (pv 6) (J0 (pe_op J59 (pe_op J4y (pe_ix Jr (pv 3) (pv 5) (fun _ _=>rfl)) Ja) (Jb GS hr rfl mS kS bS .nil pass0 (J0 (pv 3) (J0 (pv 6) J4)))) J4))))))) Jm)
   (J8 (Jg (J2c (J0 J1c (J0 (pv 5) (J0 (J2d (J0 (pv 4) J4)) (J0 Ja J4)))))))))))))))),?_⟩
  refine ⟨_,rfl,p,_,_,_,rfl,rfl,SqT.of h0,J6 (j:=0) rfl,?_⟩
  refine ⟨_,rfl,p,_,_,_,rfl,rfl,SqT.of h0,J6 (j:=1) rfl,?_⟩
  refine ⟨_,rfl,p,_,_,_,rfl,rfl,SqT.of h0,J6 (j:=2) rfl,?_⟩
  refine ⟨_,rfl,_,rfl,pt,_,_,_,rfl,rfl,SqL.of e1,J3a ne,?_⟩
  refine ⟨_,rfl,_,rfl,pb,_,_,_,rfl,rfl,SqL.of e2,J3a neB,?_⟩
  have inj:∀ {i j:Nat},V.int (i:Nat)=V.int (j:Nat)→i=j:=fun q=>by have:=V.int.inj q;omega
  have len1:∀ (row:List Nat) (a:Nat),a∈row→row.Perm r.top→row.getD (row.length - 1) 0≠a→1≤lenOf r.ls (J9 row a)∧lenOf r.ls (J9 row a)≤10 ^ 30:=fun row a ha hp hl=>by
   have hpos:∀ j∈row,1≤r.ls.getD j 0:=fun j hj=>ok.row.pos j (hp.mem_iff.mp hj)
   refine ⟨J4i (fun j hj=>hpos j (Jp hj)) (J4l ha hl),?_⟩
   have h1:lenOf r.ls row=r.size:=J1q hp
   have h2:lenOf r.ls row=lenOf r.ls (row.take (row.idxOf a + 1)) + lenOf r.ls (J9 row a):=by
    rw [← J1j]
    show _=lenOf r.ls (row.take (row.idxOf a + 1) ++ row.drop (row.idxOf a + 1))
    rw [List.take_append_drop]
   have h3:=Jt (ls:=r.ls) (os:=row.take (row.idxOf a + 1)) fun j hj=>by have:=hpos j (List.mem_of_mem_take hj);omega
   omega
  unfold nextN at k
  refine ⟨_,rfl,_,rfl,rfl,_,rfl,?_⟩
  by_cases c1:lastT r=lastB r
  ·rw [if_pos c1] at k
   refine iteDT (congrArg (fun n:Nat=>V.int (n:Int)) c1) ⟨_,rfl,Nat.zero_le _,fun l hl=>⟨by show 4≤sizeLine;decide,fun q hq=>k q _ ((J7 hl).trans (J7 hq)) ⟨l,J3,J7 hq _ _ J3⟩⟩⟩
  refine iteD (fun q=>c1 (inj q)) ?_
  rw [if_neg c1] at k
  refine ⟨_,rfl,_,rfl,pl,_,_,_,rfl,rfl,SqL.of e3,J6 (J15 lT),_,rfl,_,rfl,pl,_,_,_,rfl,rfl,SqL.of e3,J6 (J15 lB),rfl,_,rfl,?_⟩
  by_cases c2:r.ls.getD (lastT r) 0=r.ls.getD (lastB r) 0
  ·rw [if_pos c2] at k
   refine iteDT (congrArg V.int c2) ⟨_,rfl,_,rfl,(by show 1≤sizeLine;decide),fun l hl=>⟨by show 4≤sizeLine;decide,fun q hq=>k q _ ((J7 hl).trans (J7 hq)) ⟨l,J3,J7 hq _ _ J3⟩⟩⟩
  refine iteD (vint_ne c2) ?_
  rw [if_neg c2] at k
  refine ⟨_,rfl,_,rfl,pl,_,_,_,rfl,rfl,SqL.of e3,J6 (J15 lT),_,rfl,_,rfl,pl,_,_,_,rfl,rfl,SqL.of e3,J6 (J15 lB),_,_,rfl,rfl,_,rfl,?_⟩
  by_cases c3:r.ls.getD (lastB r) 0 < r.ls.getD (lastT r) 0
  ·rw [if_pos c3] at k
   obtain ⟨q1,q2⟩:=len1 r.bot (lastT r) mTb ok.perm (fun e=>c1 e.symm)
   refine iteDT c3 ?_
   refine ⟨_,rfl,_,rfl,.inl ⟨rfl,_,SqL.of e2⟩,_,rfl,pb,natI r.bot,(lastT r:Int),rfl,rfl,SqL.of e2,J3g mTb,_,_,rfl,rfl,_,rfl,pb,_,rfl,SqL.of e2,fun rv hrv=>?_⟩
   have hrv':upd H rv (.lst (cutV (nV r.bot) (some ((((natI r.bot).idxOf ((lastT r:Nat):Int):Nat):Int) + 1)) none)) rv=some (.lst (nV (J9 r.bot (lastT r)))):=by rw [J3,cut_lst _ _ mTb]
   have s1:Same H (upd H rv (.lst (cutV (nV r.bot) (some ((((natI r.bot).idxOf ((lastT r:Nat):Int):Nat):Int) + 1)) none))):=J7 hrv
   generalize upd H rv (.lst (cutV (nV r.bot) (some ((((natI r.bot).idxOf ((lastT r:Nat):Int):Nat):Int) + 1)) none))=H1 at *
   have hlt:∀ j∈J9 r.bot (lastT r),j < r.ls.length:=fun j hj=>ok.rowB.lt j (Jp hj)
   have hln:(J9 r.bot (lastT r)).length≤24:=by unfold J9;rw [List.length_drop];omega
   have hw:=J4n (r:=r) (a:=lastT r) (row:=r.bot) q1
   refine ⟨_,rfl,p,_,_,_,rfl,rfl,SqT.of (s1 _ _ h0),J6 (j:=3) rfl,_,rfl,pu,_,_,_,rfl,rfl,SqL.of (s1 _ _ e4),J6 (J26 (by rw [ok.len];exact lT)),_,rfl,?_⟩
   have one:∀ H2,Same H1 H2→¬ 0 < Js r (lastT r) r.bot→(∀ l,H2 l=none→4≤sizeLine∧∀ q,upd H2 l (.lst [V.int (lastB r:Nat)]) q=none→Q (.ref q) (upd (upd H2 l (.lst [V.int (lastB r:Nat)])) q (.tup [.str "over",.int (lastT r:Nat),.ref l,.int 1]))):=fun H2 s2 hn l hl=>by
    refine ⟨by decide,fun q hq=>k q _ (s1.trans (s2.trans ((J7 hl).trans (J7 hq)))) ?_⟩
    rw [if_neg hn]
    exact ⟨l,J3,J7 hq _ _ J3⟩
   by_cases ct:r.ts.getD (lastT r) false=true
   ·have hn:¬ 0 < Js r (lastT r) r.bot:=fun q=>by rw [(hw.mp q).1] at ct;cases ct
    rw [ct]
    exact iteF (iteF ⟨_,rfl,_,rfl,(by show 1≤sizeLine;decide),one H1 (Same.refl _) hn⟩)
   ·have cf:r.ts.getD (lastT r) false=false:=by simpa using ct
    rw [cf]
    refine iteT ?_
    refine ⟨_,rfl,_,rfl,pl,_,_,_,rfl,rfl,SqL.of (s1 _ _ e3),J6 (J15 lT),_,rfl,_,rfl,pl,rv,r.ls,J9 r.bot (lastT r),rfl,s1 _ _ e3,hrv',hlt,hln,fun H2 s2=>⟨_,_,rfl,rfl,_,rfl,?_⟩⟩
    by_cases c4:lenOf r.ls (J9 r.bot (lastT r)) < r.ls.getD (lastT r) 0
    ·have hp:=hw.mpr ⟨cf,c4⟩
     have hv:Js r (lastT r) r.bot=(r.ls.getD (lastT r) 0 - 1) / lenOf r.ls (J9 r.bot (lastT r)):=by unfold Js;rw [if_neg ct]
     rw [if_pos hp] at k
     have s12:=s1.trans s2
     refine iteDT c4 ⟨_,rfl,_,rfl,_,rfl,_,rfl,pl,_,_,_,rfl,rfl,SqL.of (s12 _ _ e3),J6 (J15 lT),_,_,rfl,rfl,_,rfl,_,rfl,pl,rv,r.ls,J9 r.bot (lastT r),rfl,s12 _ _ e3,s2 _ _ hrv',hlt,hln,fun H3 s3=>⟨_,_,rfl,rfl,J4a q1 q2,by show 4≤sizeLine;decide,fun q hq=>k q _ (s12.trans (s3.trans (J7 hq))) ⟨rv,?_,J7 hq _ _ (s3 _ _ (s2 _ _ hrv'))⟩⟩⟩
     rw [J3,hv];rfl
    ·have hn:¬ 0 < Js r (lastT r) r.bot:=fun q=>c4 (hw.mp q).2
     exact iteD c4 (⟨_,rfl,_,rfl,(by show 1≤sizeLine;decide),one H2 s2 hn⟩)
  ·rw [if_neg c3] at k
   obtain ⟨q1,q2⟩:=len1 r.top (lastB r) mB (List.Perm.refl _) c1
   refine iteD c3 ?_
   refine ⟨_,rfl,_,rfl,.inl ⟨rfl,_,SqL.of e1⟩,_,rfl,pt,natI r.top,(lastB r:Int),rfl,rfl,SqL.of e1,J3g mB,_,_,rfl,rfl,_,rfl,pt,_,rfl,SqL.of e1,fun rv hrv=>?_⟩
   have hrv':upd H rv (.lst (cutV (nV r.top) (some ((((natI r.top).idxOf ((lastB r:Nat):Int):Nat):Int) + 1)) none)) rv=some (.lst (nV (J9 r.top (lastB r)))):=by rw [J3,cut_lst _ _ mB]
   have s1:Same H (upd H rv (.lst (cutV (nV r.top) (some ((((natI r.top).idxOf ((lastB r:Nat):Int):Nat):Int) + 1)) none))):=J7 hrv
   generalize upd H rv (.lst (cutV (nV r.top) (some ((((natI r.top).idxOf ((lastB r:Nat):Int):Nat):Int) + 1)) none))=H1 at *
   have hlt:∀ j∈J9 r.top (lastB r),j < r.ls.length:=fun j hj=>ok.row.lt j (Jp hj)
   have hln:(J9 r.top (lastB r)).length≤24:=by unfold J9;rw [List.length_drop];omega
   have hw:=J4n (r:=r) (a:=lastB r) (row:=r.top) q1
   refine ⟨_,rfl,p,_,_,_,rfl,rfl,SqT.of (s1 _ _ h0),J6 (j:=3) rfl,_,rfl,pu,_,_,_,rfl,rfl,SqL.of (s1 _ _ e4),J6 (J26 (by rw [ok.len];exact lB)),_,rfl,?_⟩
   have one:∀ H2,Same H1 H2→¬ 0 < Js r (lastB r) r.top→(∀ l,H2 l=none→4≤sizeLine∧∀ q,upd H2 l (.lst [V.int (lastT r:Nat)]) q=none→Q (.ref q) (upd (upd H2 l (.lst [V.int (lastT r:Nat)])) q (.tup [.str "under",.int (lastB r:Nat),.ref l,.int 1]))):=fun H2 s2 hn l hl=>by
    refine ⟨by decide,fun q hq=>k q _ (s1.trans (s2.trans ((J7 hl).trans (J7 hq)))) ?_⟩
    rw [if_neg hn]
    exact ⟨l,J3,J7 hq _ _ J3⟩
   by_cases ct:r.ts.getD (lastB r) false=true
   ·have hn:¬ 0 < Js r (lastB r) r.top:=fun q=>by rw [(hw.mp q).1] at ct;cases ct
    rw [ct]
    exact iteF (iteF ⟨_,rfl,_,rfl,(by show 1≤sizeLine;decide),one H1 (Same.refl _) hn⟩)
   ·have cf:r.ts.getD (lastB r) false=false:=by simpa using ct
    rw [cf]
    refine iteT ?_
    refine ⟨_,rfl,_,rfl,pl,_,_,_,rfl,rfl,SqL.of (s1 _ _ e3),J6 (J15 lB),_,rfl,_,rfl,pl,rv,r.ls,J9 r.top (lastB r),rfl,s1 _ _ e3,hrv',hlt,hln,fun H2 s2=>⟨_,_,rfl,rfl,_,rfl,?_⟩⟩
    by_cases c4:lenOf r.ls (J9 r.top (lastB r)) < r.ls.getD (lastB r) 0
    ·have hp:=hw.mpr ⟨cf,c4⟩
     have hv:Js r (lastB r) r.top=(r.ls.getD (lastB r) 0 - 1) / lenOf r.ls (J9 r.top (lastB r)):=by unfold Js;rw [if_neg ct]
     rw [if_pos hp] at k
     have s12:=s1.trans s2
     refine iteDT c4 ⟨_,rfl,_,rfl,_,rfl,_,rfl,pl,_,_,_,rfl,rfl,SqL.of (s12 _ _ e3),J6 (J15 lB),_,_,rfl,rfl,_,rfl,_,rfl,pl,rv,r.ls,J9 r.top (lastB r),rfl,s12 _ _ e3,s2 _ _ hrv',hlt,hln,fun H3 s3=>⟨_,_,rfl,rfl,J4a q1 q2,by show 4≤sizeLine;decide,fun q hq=>k q _ (s12.trans (s3.trans (J7 hq))) ⟨rv,?_,J7 hq _ _ (s3 _ _ (s2 _ _ hrv'))⟩⟩⟩
     rw [J3,hv];rfl
    ·have hn:¬ 0 < Js r (lastB r) r.top:=fun q=>c4 (hw.mp q).2
     exact iteD c4 (⟨_,rfl,_,rfl,(by show 1≤sizeLine;decide),one H2 s2 hn⟩)
end
section
structure TxtI (K:PySem.W.Frag) (C:Addr):Prop where
 ha:PySem.W.findIn K (.ref C) "__class__"=some (some (.builtin "object.__class__"))
 hn:PySem.W.specialIn K (.builtin "object.__class__") "__get__"=some (some (.builtin "getset_descriptor.__get__"))
 ht:PySem.W.takesIn K (.builtin "object.__class__")=some true
 hm:PySem.W.mroIn K C (.type "object")=some true
theorem TxtI.ty {K:PySem.W.Frag} {C:Addr} (I:TxtI K C) (cl:Cls K C) {H:Hp} {a dx:Addr} {fs:List (Str × V)} (e:H a=some (.ins C dx fs)):TyOf K H (.ref a) (.ref C):=.ins e cl I.ha I.hn I.ht I.hm
theorem all_true {α:Type} (xs:List α):((xs.map fun _=>true).all id)=true:=by
 rw [List.all_eq_true]
 intro b hb
 obtain ⟨_,_,rfl⟩:=List.mem_map.mp hb
 rfl
theorem bls_true {α:Type} (xs:List α):(xs.map fun _=>V.bl true)=(xs.map fun _=>true).map V.bl:=by
 rw [List.map_map];rfl
end
end R13
namespace R13
open PySem L2 Rl
section
variable {P:Program} {w:World} {K:PySem.W.Frag} {mg:Str→Option Value} {base:Heap}
def spWith:Sp:=fun vs H Q _=>∃ (q:Addr) (xs:List V) (j:Nat) (v:V),vs=[.ref q,.int (j:Nat),v]∧H q=some (.lst xs)∧j < xs.length∧∀ p H',Same H H'→H' p=some (.lst (xs.set j v))→Q (.ref p) H'
theorem scWith:FnScope ["values","letter","value","told"] ["values","letter","value"] (J1 sWith):=⟨rfl,rfl,rfl,by decide +kernel,rfl,by decide +kernel,by decide +kernel⟩
theorem ok_with {f:Addr} {fd:FuncData} (F:Fun K "_law_with" "_law_with" sWith f fd) (T:TxtR mg):FnOk P w K mg base CX0 1 f fd ["values","letter","value"] spWith:=by
 refine F.ok scWith (fun vs H Q E h=>?_) (fun cdv A outer s H vs Q E hr h=>?_)
 ·obtain ⟨q,xs,j,v,rfl,_⟩:=h
  rfl
 ·obtain ⟨q,xs,j,v,rfl,hq,hj,k⟩:=h
  refine ⟨_,J2 (Ji (i:=3) scWith.nd rfl (Or.inl rfl) (Jn Jq (by rfl) T.list PyProof.Rows.boot_list (J0 (pv 0) J4)))
   (J2 (J4d (pv 2) (J4f (pv 3) (pv 1) J1h)) (J8 (Jg (pv 3)))),?_⟩
  refine ⟨_,rfl,q,xs,rfl,.inl (SqL.of hq),fun c hc=>?_⟩
  refine ⟨_,rfl,_,rfl,_,rfl,c,xs,_,j,rfl,rfl,J3,J27 hj,?_⟩
  rw [upd_upd]
  exact ⟨_,rfl,k c _ (J7 hc) J3⟩
def spPutL:Sp:=fun vs H Q _=>∃ (q:Addr) (row:List Nat) (w l:Nat) (ah:Bool),vs=[.ref q,.int (l:Nat),.int (w:Nat),.bl ah]∧H q=some (.lst (nV row))∧row.length≤24∧w∈row∧w≠l∧∀ p H',Same H H'→H' p=some (.lst (nV (putR row w l ah)))→Q (.ref p) H'
theorem scPutL:FnScope ["row","loser","winner","turned","kept","at"] ["row","loser","winner","turned"] (J1 sPutL):=⟨rfl,rfl,rfl,by decide +kernel,rfl,by decide +kernel,by decide +kernel⟩
theorem ok_putL {f:Addr} {fd:FuncData} (F:Fun K "_law_put" "_law_put" sPutL f fd):FnOk P w K mg base CX0 1 f fd ["row","loser","winner","turned"] spPutL:=by
 refine F.ok scPutL (fun vs H Q E h=>?_) (fun cdv A outer s H vs Q E hr h=>?_)
 ·obtain ⟨q,row,wi,lo,ah,rfl,_⟩:=h
  rfl
 ·obtain ⟨q,row,wi,lo,ah,rfl,hq,hn,hw,hwl,k⟩:=h
  refine ⟨_,J2 (ps_lc (i:=4) (caps:=["loser"]) (js:=[1]) scPutL.nd rfl (Or.inl rfl) rfl (J43 (pv 0)) rfl (fun C fp s H=>pts_one (Jl op_ne (pv 0) (pv 1) (Ju _))) (fun C fp s H=>pv 0)
    (by decide +kernel) (by decide +kernel) (by decide +kernel) (by intro p hp;simp only [List.mem_cons,List.not_mem_nil,or_false] at hp;rcases hp with rfl;rfl))
   (J2 (J2a (Ji (i:=5) scPutL.nd rfl (Or.inl rfl) (pe_bm PySem.F.plainAttrs_list PySem.F.slot_list_index PySem.F.type_list_index J23 (pv 4) (J0 (pv 2) J4))))
   (J2 (J2a (ps_if (J2m (J1o (pv 3))) (J8 (Ji (i:=5) scPutL.nd rfl (Or.inl rfl) (pe_op J1m (pv 5) Ja))) Jm))
   (J2 (J31 (pe_bm PySem.F.plainAttrs_list PySem.F.slot_list_insert PySem.F.type_list_insert mt_insert (pv 4) (J0 (pv 5) (J0 (pv 1) J4))))
   (J8 (Jg (pv 4)))))),?_⟩
  refine ⟨_,rfl,q,rfl,⟨_,SqL.of hq⟩,fun o ho=>lc_lst (fun (j:Nat)=>V.int (j:Int)) row (fun j=>decide (j≠lo)) (fun (j:Nat)=>V.int (j:Int)) (by rw [← nV_eq];exact SqL.of hq) (by omega) ho
    (fun j _ H2 Qt _ k=>⟨_,rfl,_,rfl,rfl,_,rfl,by rw [notv];exact k H2 (Same.refl _)⟩) (fun j hj H2 Qe _ s2 k=>⟨_,rfl,k _ (Same.refl _)⟩) (fun H1 s1 ho1=>?_)⟩
  have ho1':H1 o=some (.lst (nV (withoutR row lo))):=by rw [ho1,nV_eq];rfl
  clear ho1
  have hm:wi∈withoutR row lo:=mem_without.mpr ⟨hw,hwl⟩
  have hl1:(withoutR row lo).length≤24:=Nat.le_trans (List.length_filter_le _ _) hn
  have k':∀ p H',Same H H'→H' p=some (.lst (nV ((withoutR row lo).take (if ah=true then (withoutR row lo).idxOf wi else (withoutR row lo).idxOf wi + 1) ++ [lo] ++ (withoutR row lo).drop (if ah=true then (withoutR row lo).idxOf wi else (withoutR row lo).idxOf wi + 1))))→Q (.ref p) H':=k
  have fo:H o=none:=ho
  generalize withoutR row lo=os at *
  have hi:os.idxOf wi < os.length:=List.idxOf_lt_length_iff.mpr hm
  have hb:∃ n:Nat,n≤os.length∧n=(if ah=true then os.idxOf wi else os.idxOf wi + 1):=by
   refine ⟨_,?_,rfl⟩
   split <;> omega
  obtain ⟨n,hn1,hn2⟩:=hb
  rw [← hn2] at k'
  refine ⟨fun σ' H'=>σ'=[some (.ref q),some (.int (lo:Nat)),some (.int (wi:Nat)),some (.bl ah),some (.ref o),some (.int (os.idxOf wi:Nat))]∧H1=H',⟨_,rfl,.inl ⟨rfl,_,SqL.of ho1'⟩,_,rfl,o,natI os,(wi:Int),rfl,rfl,SqL.of ho1',J3g hm,?_,rfl⟩,?_⟩
  ·rw [← J45];rfl
  rintro σ _ ⟨rfl,rfl⟩
  refine ⟨fun σ' H'=>σ'=[some (.ref q),some (.int (lo:Nat)),some (.int (wi:Nat)),some (.bl ah),some (.ref o),some (.int (n:Nat))]∧H1=H',⟨_,rfl,_,rfl,?_⟩,?_⟩
  ·cases ah with
   | true =>
    rw [if_pos rfl] at hn2
    exact iteF ⟨by rw [hn2],rfl⟩
   | false =>
    rw [if_neg (by decide)] at hn2
    refine iteT ⟨_,rfl,_,_,rfl,rfl,?_,rfl⟩
    rw [hn2,Int.natCast_add];rfl
  rintro σ _ ⟨rfl,rfl⟩
  refine ⟨_,rfl,.inl ⟨rfl,_,SqL.of ho1'⟩,_,rfl,_,rfl,o,_,n,V.int (lo:Nat),rfl,rfl,ho1',by rw [J2e];exact hn1,by rw [J2e];exact J18 (by omega),?_⟩
  refine ⟨_,rfl,k' o _ (fun b u e=>?_) ?_⟩
  ·rw [Jk (Jc e fo)];exact s1 _ _ e
  ·have e1:nV (os.take n)=(nV os).take n:=by rw [nV_eq,nV_eq,List.map_take]
   have e2:nV (os.drop n)=(nV os).drop n:=by rw [nV_eq,nV_eq,List.map_drop]
   rw [J3,nV_app,nV_app,e1,e2,List.append_assoc];rfl
theorem J13 (k j:Kd):V.str (wordS k)=V.str (wordS j)→k=j:=by
 cases k <;> cases j <;> first | (intro _;rfl) | (intro h;exact absurd h (by decide +kernel))
theorem in_many (k:Kd):inV (V.str (wordS k)) [V.str "overs",V.str "unders"]=(decide (k=.os) || decide (k=.us)):=by cases k <;> decide +kernel
def spLeft:Sp:=fun vs H Q _=>∃ (p:Addr) (r:Rst),vs=[.ref p]∧DrawnR H p r∧r.Ok∧r.top≠[]∧r.size≤10 ^ 30∧∀ q H',Same H H'→DrawnR H' q ((nextN r).behind r)→Q (.ref q) H'
theorem scLeft:FnScope ["drawn","step","top","bottom","lengths","turned","winner","loser"] ["drawn"] (J1 sLeft):=⟨rfl,rfl,rfl,by decide +kernel,rfl,by decide +kernel,by decide +kernel⟩
theorem cut_but {row:List Nat} (h:row≠[]):cutV (nV row) none (some (-1))=nV row.dropLast:=by
 have hl:=List.length_pos_iff.mpr h
 unfold cutV
 have e:HT.sIx (nV row).length (nV row).length (some (-1))=row.length - 1:=by
  unfold HT.sIx
  rw [J2e]
  simp
  omega
 rw [e,HT.sIx_none,List.drop_zero,Nat.sub_zero,nV_eq,nV_eq,← List.map_take,← List.dropLast_eq_take]
theorem ok_left {f fN fS fW fP:Addr} {fd fdN fdS fdW fdP:FuncData} (F:Fun K "_law_left" "_law_left" sLeft f fd) (T:TxtR mg)
  (GN:FnOk P w K mg base CX0 2 fN fdN ["drawn"] spStepN) (bN:Binds K fdN ["drawn"] []) (mN:mg "_law_step"=some (.ref fN)) (kN:PySem.W.keepIn K (.ref fN)=true)
  (GS:FnOk P w K mg base CX0 1 fS fdS ["lengths","letters"] spSumL) (bS:Binds K fdS ["lengths","letters"] []) (mS:mg "_law_sum"=some (.ref fS)) (kS:PySem.W.keepIn K (.ref fS)=true)
  (GW:FnOk P w K mg base CX0 1 fW fdW ["values","letter","value"] spWith) (bW:Binds K fdW ["values","letter","value"] []) (mW:mg "_law_with"=some (.ref fW)) (kW:PySem.W.keepIn K (.ref fW)=true)
  (GP:FnOk P w K mg base CX0 1 fP fdP ["row","loser","winner","turned"] spPutL) (bP:Binds K fdP ["row","loser","winner","turned"] []) (mP:mg "_law_put"=some (.ref fP)) (kP:PySem.W.keepIn K (.ref fP)=true) :
  FnOk P w K mg base CX0 3 f fd ["drawn"] spLeft:=by
 refine F.ok scLeft (fun vs H Q E h=>?_) (fun cdv A outer s H vs Q E hr h=>?_)
 ·obtain ⟨p,r,rfl,_⟩:=h
  rfl
 ·obtain ⟨p,r,rfl,D,ok,ne,hz,k⟩:=h
  have hr1:Room 1 _:=hr.mono (by decide)
  refine ⟨_,J2 (Ji (i:=1) scLeft.nd rfl (Or.inl rfl) (Jb GN hr rfl mN kN bN .nil pass0 (J0 (pv 0) J4)))
   (J2 (J2a (Ji (i:=2) scLeft.nd rfl (Or.inl rfl) (Jn Jq (by rfl) T.list PyProof.Rows.boot_list (J0 (pe_ix Jh (pv 0) Ja (fun _ _=>rfl)) J4))))
   (J2 (J2a (Ji (i:=3) scLeft.nd rfl (Or.inl rfl) (Jn Jq (by rfl) T.list PyProof.Rows.boot_list (J0 (pe_ix Jh (pv 0) Ja (fun _ _=>rfl)) J4))))
   (J2 (J2a (Ji (i:=4) scLeft.nd rfl (Or.inl rfl) (Jn Jq (by rfl) T.list PyProof.Rows.boot_list (J0 (pe_ix Jh (pv 0) Ja (fun _ _=>rfl)) J4))))
   (J2 (J2a (Ji (i:=5) scLeft.nd rfl (Or.inl rfl) (Jn Jq (by rfl) T.list PyProof.Rows.boot_list (J0 (pe_ix Jh (pv 0) Ja (fun _ _=>rfl)) J4))))
   (J2 (Ji (i:=6) scLeft.nd rfl (Or.inl rfl) (pe_ix Jh (pv 1) Ja (fun _ _=>rfl)))
   (J2 (ps_if (Jl op_eq (pe_ix Jh (pv 1) Ja (fun _ _=>rfl)) J1c (Ju _)) (J8 (Jg (J2c (J0 (J1i J30 (pv 2) J2o (J2n (pe_un J47 Ja))) (J0 (J1i J30 (pv 3) J2o (J2n (pe_un J47 Ja)))
    (J0 (Jb GW hr1 rfl mW kW bW .nil pass0 (J0 (pv 4) (J0 (pv 6) (J0 Ja J4)))) (J0 (Jb GW hr1 rfl mW kW bW .nil pass0 (J0 (pv 5) (J0 (pv 6) (J0 pe_bl J4)))) J4))))))) Jm)
   (J2 (J4d (pe_op J4y (pe_ix Jr (pv 4) (pv 6) (fun _ _=>rfl)) (pe_op op_mulB (pe_ix Jh (pv 1) Ja (fun _ _=>rfl)) (Jb GS hr1 rfl mS kS bS .nil pass0 (J0 (pv 4) (J0 (pe_ix Jh (pv 1) Ja (fun _ _=>rfl)) J4))))) (J4f (pv 4) (pv 6) J1h))
   (J2 (ps_if (Jl op_in_seq (pe_ix Jh (pv 1) Ja (fun _ _=>rfl)) (J2c (J0 J1c (J0 J1c J4))) rfl) (J8 (Jg (J2c (J0 (pv 2) (J0 (pv 3) (J0 (pv 4) (J0 (pv 5) J4))))))) Jm)
   (J2 (Ji (i:=7) scLeft.nd rfl (Or.inl rfl) (pe_ix Jr (pe_ix Jh (pv 1) Ja (fun _ _=>rfl)) Ja (fun _ _=>rfl)))
   (J2 (J4d (pe_cmpR op_ne (pe_ix Jr (pv 5) (pv 7) (fun _ _=>rfl)) (pe_ix Jr (pv 5) (pv 6) (fun _ _=>rfl)) (Ju _)) (J4f (pv 5) (pv 7) J1h))
   (J2 (ps_if (Jl op_eq (pe_ix Jh (pv 1) Ja (fun _ _=>rfl)) J1c (Ju _)) (J8 (Jg (J2c (J0 (pv 2) (J0 (Jb GP hr1 rfl mP kP bP .nil pass0 (J0 (pv 3) (J0 (pv 7) (J0 (pv 6) (J0 (pe_ix Jr (pe_ix Jh (pv 0) Ja (fun _ _=>rfl)) (pv 6) (fun _ _=>rfl)) J4))))) (J0 (pv 4) (J0 (pv 5) J4))))))) Jm)
   (J2 (ps_if (Jl op_eq (pe_ix Jh (pv 1) Ja (fun _ _=>rfl)) J1c (Ju _)) (J8 (Jg (J2c (J0 (Jb GP hr1 rfl mP kP bP .nil pass0 (J0 (pv 2) (J0 (pv 7) (J0 (pv 6) (J0 (pe_ix Jr (pe_ix Jh (pv 0) Ja (fun _ _=>rfl)) (pv 6) (fun _ _=>rfl)) J4))))) (J0 (pv 3) (J0 (pv 4) (J0 (pv 5) J4))))))) Jm)
   (J2 (J2a (J4d (pv 7) (J4f (pv 3) (pe_bm PySem.F.plainAttrs_list PySem.F.slot_list_index PySem.F.type_list_index J23 (pv 3) (J0 (pv 6) J4)) J1h)))
   (J8 (Jg (J2c (J0 (J1i J30 (pv 2) J2o (J2n (pe_un J47 Ja))) (J0 (J1i J30 (pv 3) J2o (J2n (pe_un J47 Ja))) (J0 (pv 4) (J0 (Jb GW hr1 rfl mW kW bW .nil pass0 (J0 (pv 5) (J0 (pv 6) (J0 pe_bl J4)))) J4)))))))))))))))))))),?_⟩
  refine ⟨_,rfl,p,r,rfl,D,ok,ne,hz,fun q H1 s1 U=>?_⟩
  have np:=nextP ok ne
  have nok:=ok.next ne
  have win:=np.win ok ne
  have tm:=np.times ok ne hz
  obtain ⟨lsT,lsN⟩:=np.losers_lt ok ne
  have lsS:=J5a ok (NextP.losers_nd ok (s:=nextN r)) lsT
  have lsP:=Jt (ls:=r.ls) (os:=(nextN r).losers r) fun j hj=>by have:=ok.row.pos j (lsT j hj);omega
  generalize nextN r=st at *
  have D1:=D.same s1
  obtain ⟨pt,pb,pl,pu,h0,e1,e2,e3,e4⟩:=D1.ex
  have neB:r.bot≠[]:=fun e=>by
   have:=ok.lens
   rw [e] at this
   exact ne (List.length_eq_zero_iff.mp this.symm)
  have lw:=ok.row.lt _ win
  have lwt:st.winner < r.ts.length:=by rw [ok.len];exact lw
  refine ⟨fun σ' H'=>∃ t1,σ'=[some (.ref p),some (.ref q),some (.ref t1),none,none,none,none,none]∧H' t1=some (.lst (nV r.top))∧Same H1 H'∧H1 t1=none,⟨_,rfl,p,_,_,_,rfl,rfl,SqT.of h0,J6 (j:=0) rfl,pt,_,rfl,.inl (SqL.of e1),fun t1 ht=>⟨t1,rfl,J3,J7 ht,ht⟩⟩,?_⟩
  rintro σ H2 ⟨t1,rfl,ht2,s2,f1⟩
  refine ⟨fun σ' H'=>∃ b1,σ'=[some (.ref p),some (.ref q),some (.ref t1),some (.ref b1),none,none,none,none]∧H' b1=some (.lst (nV r.bot))∧Same H2 H'∧H2 b1=none,⟨_,rfl,p,_,_,_,rfl,rfl,SqT.of (s2 _ _ h0),J6 (j:=1) rfl,pb,_,rfl,.inl (SqL.of (s2 _ _ e2)),fun b1 hb=>⟨b1,rfl,J3,J7 hb,hb⟩⟩,?_⟩
  rintro σ H3 ⟨b1,rfl,hb3,s23,f2⟩
  have s3:=s2.trans s23
  refine ⟨fun σ' H'=>∃ l1,σ'=[some (.ref p),some (.ref q),some (.ref t1),some (.ref b1),some (.ref l1),none,none,none]∧H' l1=some (.lst (iV r.ls))∧Same H3 H'∧H3 l1=none,⟨_,rfl,p,_,_,_,rfl,rfl,SqT.of (s3 _ _ h0),J6 (j:=2) rfl,pl,_,rfl,.inl (SqL.of (s3 _ _ e3)),fun l1 hl=>⟨l1,rfl,J3,J7 hl,hl⟩⟩,?_⟩
  rintro σ H4 ⟨l1,rfl,hl4,s34,f3⟩
  have s4:=s3.trans s34
  refine ⟨fun σ' H'=>∃ u1,σ'=[some (.ref p),some (.ref q),some (.ref t1),some (.ref b1),some (.ref l1),some (.ref u1),none,none]∧H' u1=some (.lst (bV r.ts))∧Same H4 H'∧H4 u1=none,⟨_,rfl,p,_,_,_,rfl,rfl,SqT.of (s4 _ _ h0),J6 (j:=3) rfl,pu,_,rfl,.inl (SqL.of (s4 _ _ e4)),fun u1 hu=>⟨u1,rfl,J3,J7 hu,hu⟩⟩,?_⟩
  rintro σ H5 ⟨u1,rfl,hu5,s45,f4⟩
  have s5:=s4.trans s45
  have s35:=s34.trans s45
  have hl5:=s45 _ _ hl4
  have hb5:=s35 _ _ hb3
  have ht5:=s35 _ _ (s23 _ _ ht2)
  obtain ⟨lu,hq1,hlu1⟩:=U
  have hq:=s5 _ _ hq1
  have hlu:=s5 _ _ hlu1
  have f3':H1 l1=none:=s3.free f3
  have f4':H1 u1=none:=s4.free f4
  have f2':H1 b1=none:=s2.free f2
  have nbl:b1≠l1:=Jc hb3 f3
  have ntl:t1≠l1:=Jc (s23 _ _ ht2) f3
  have nlu:l1≠u1:=Jc hl4 f4
  have nbu:b1≠u1:=Jc (s34 _ _ hb3) f4
  have ntu:t1≠u1:=Jc (s34 _ _ (s23 _ _ ht2)) f4
  have ntb:t1≠b1:=Jc ht2 f2
  refine ⟨_,rfl,q,_,_,_,rfl,rfl,SqT.of hq,J6 (j:=1) rfl,?_⟩
  refine ⟨_,rfl,q,_,_,_,rfl,rfl,SqT.of hq,J6 (j:=0) rfl,rfl,_,rfl,?_⟩
  by_cases ch:kd st=.ho
  ·-- home
   cases st with
   | home a =>
    obtain ⟨n1,n2⟩:=np
    refine iteDT rfl ?_
    refine ⟨_,rfl,_,rfl,_,rfl,t1,_,rfl,SqL.of ht5,fun c1 hc1=>?_⟩
    have q1:=J7 (o:=.lst (cutV (nV r.top) none (some (-1)))) hc1
    refine ⟨_,rfl,_,rfl,_,rfl,b1,_,rfl,SqL.of (q1 _ _ hb5),fun c2 hc2=>?_⟩
    have q12:=J7 (o:=.lst (cutV (nV r.bot) none (some (-1)))) hc2
    have q2:=q1.trans q12
    refine ⟨_,rfl,_,rfl,l1,iV r.ls,a,.int 0,rfl,q2 _ _ hl5,by rw [J4h];exact lw,fun c3 H6 q23 hc3=>?_⟩
    have q3:=q2.trans q23
    refine ⟨_,rfl,_,rfl,u1,bV r.ts,a,.bl false,rfl,q3 _ _ hu5,by rw [List.length_map];exact lwt,fun c4 H7 q34 hc4=>?_⟩
    refine ⟨by show 4≤sizeLine;decide,fun z hz=>?_⟩
    have q4:=J7 (o:=.tup [.ref c1,.ref c2,.ref c3,.ref c4]) hz
    have q37:=q34.trans q4
    refine k z _ (s1.trans (s5.trans (q3.trans q37))) ⟨c1,c2,c3,c4,J3,?_,?_,?_,?_⟩
    ·rw [q37 _ _ (q23 _ _ (q12 _ _ J3)),cut_but ne,← J29 ok.row.nd ne]
     show some (HO.lst (nV (withoutR r.top (lastT r))))=some (HO.lst (nV (withoutR r.top a)))
     rw [n1]
    ·rw [q37 _ _ (q23 _ _ J3),cut_but neB,← J29 ok.rowB.nd neB]
     show some (HO.lst (nV (withoutR r.bot (lastB r))))=some (HO.lst (nV (withoutR r.bot a)))
     rw [n2]
    ·rw [q37 _ _ hc3,J5d];rfl
    ·rw [q4 _ _ hc4,J53];rfl
   | even a b=>cases ch
   | over a b=>cases ch
   | under a b=>cases ch
   | overs a t=>cases ch
   | unders a t=>cases ch
  refine iteD (fun e=>ch (J13 (kd st) .ho e)) ?_
  have big:CBig st.times (lenOf r.ls (st.losers r)):=by
   refine ⟨Nat.lt_of_le_of_lt tm (by decide),?_⟩
   have:(lenOf r.ls (st.losers r)).natAbs≤10 ^ 30:=by omega
   exact Nat.lt_of_le_of_lt this (by decide)
  refine ⟨_,rfl,_,rfl,l1,_,_,_,rfl,rfl,SqL.of hl5,J6 (J15 lw),_,rfl,q,_,_,_,rfl,rfl,SqT.of hq,J6 (j:=3) rfl,_,rfl,_,rfl,q,_,_,_,rfl,rfl,SqT.of hq,J6 (j:=2) rfl,l1,lu,r.ls,st.losers r,rfl,hl5,hlu,fun j hj=>ok.row.lt j (lsT j hj),lsN,fun H6 s6=>?_⟩
  refine ⟨_,_,rfl,rfl,big,_,_,rfl,rfl,_,rfl,_,rfl,l1,iV r.ls,_,st.winner,rfl,rfl,s6 _ _ hl5,J27 (by rw [J4h];exact lw),?_⟩
  have hl7:upd H6 l1 (.lst ((iV r.ls).set st.winner (V.int (r.ls.getD st.winner 0 - st.times * lenOf r.ls (st.losers r))))) l1=some (.lst (iV (r.ls.set st.winner (r.ls.getD st.winner 0 - st.times * lenOf r.ls (st.losers r))))):=by rw [J3,J5d]
  have kp7:∀ b o,H5 b=some o→b≠l1→upd H6 l1 (.lst ((iV r.ls).set st.winner (V.int (r.ls.getD st.winner 0 - st.times * lenOf r.ls (st.losers r))))) b=some o:=fun b o e n=>by rw [Jk n];exact s6 _ _ e
  have s17:Same H1 (upd H6 l1 (.lst ((iV r.ls).set st.winner (V.int (r.ls.getD st.winner 0 - st.times * lenOf r.ls (st.losers r)))))):=fun b o e=>kp7 b o (s5 _ _ e) (Jc e f3')
  have ht7:=kp7 _ _ ht5 ntl
  have hb7:=kp7 _ _ hb5 nbl
  have hu7:=kp7 _ _ hu5 (Ne.symm nlu)
  have hq7:=s17 _ _ hq1
  have hlu7:=s17 _ _ hlu1
  have hp7:=s17 _ _ h0
  have hpu7:=s17 _ _ e4
  clear kp7
  show tSeq _ _ _ _ (upd H6 l1 (.lst ((iV r.ls).set st.winner (V.int (r.ls.getD st.winner 0 - st.times * lenOf r.ls (st.losers r))))))
  generalize upd H6 l1 (.lst ((iV r.ls).set st.winner (V.int (r.ls.getD st.winner 0 - st.times * lenOf r.ls (st.losers r)))))=H7 at *
  refine ⟨_,rfl,q,_,_,_,rfl,rfl,SqT.of hq7,J6 (j:=0) rfl,(by show 2≤sizeLine;decide),fun tp htp=>⟨tp,_,rfl,.inr (SqT.of J3),rfl,rfl,_,rfl,?_⟩⟩
  have q7:=J7 (o:=.tup [.str "overs",.str "unders"]) htp
  have s18:=s17.trans q7
  have hl8:=q7 _ _ hl7
  have ht8:=q7 _ _ ht7
  have hb8:=q7 _ _ hb7
  have hu8:=q7 _ _ hu7
  have hq8:=q7 _ _ hq7
  have hlu8:=q7 _ _ hlu7
  have hp8:=q7 _ _ hp7
  have hpu8:=q7 _ _ hpu7
  clear hl7 ht7 hb7 hu7 hq7 hlu7 hp7 hpu7
  have f4u:=f4'
  generalize upd H7 tp (.tup [.str "overs",.str "unders"])=H8 at *
  have many:∀ {A B:Prop},(kd st=.os∨kd st=.us)→A→if (if false=true then !inV (V.str (wordS (kd st))) [V.str "overs",V.str "unders"] else inV (V.str (wordS (kd st))) [V.str "overs",V.str "unders"])=true then A else B:=fun {A B} hk ha=>by
   refine iteBT (show inV (V.str (wordS (kd st))) [V.str "overs",V.str "unders"]=true from ?_) ha
   rw [in_many]
   rcases hk with e | e <;> rw [e] <;> rfl
  have few':∀ {A B:Prop},¬ (kd st=.os∨kd st=.us)→B→if (if false=true then !inV (V.str (wordS (kd st))) [V.str "overs",V.str "unders"] else inV (V.str (wordS (kd st))) [V.str "overs",V.str "unders"])=true then A else B:=fun {A B} hk hb=>by
   refine iteBF (show ¬ inV (V.str (wordS (kd st))) [V.str "overs",V.str "unders"]=true from ?_) hb
   rw [in_many]
   intro e
   rcases (Bool.or_eq_true _ _).mp e with e | e
   ·exact hk (.inl (of_decide_eq_true e))
   ·exact hk (.inr (of_decide_eq_true e))
  cases st with
  | home a=>exact absurd rfl ch
  | overs a t =>
   refine many (.inl rfl) ⟨_,rfl,_,rfl,_,rfl,_,rfl,(by show 4≤sizeLine;decide),fun z hz=>?_⟩
   have q4:=J7 (o:=.tup [.ref t1,.ref b1,.ref l1,.ref u1]) hz
   exact k z _ (s1.trans (s18.trans q4)) ⟨t1,b1,l1,u1,J3,q4 _ _ ht8,q4 _ _ hb8,q4 _ _ hl8,q4 _ _ hu8⟩
  | unders a t =>
   refine many (.inr rfl) ⟨_,rfl,_,rfl,_,rfl,_,rfl,(by show 4≤sizeLine;decide),fun z hz=>?_⟩
   have q4:=J7 (o:=.tup [.ref t1,.ref b1,.ref l1,.ref u1]) hz
   exact k z _ (s1.trans (s18.trans q4)) ⟨t1,b1,l1,u1,J3,q4 _ _ ht8,q4 _ _ hb8,q4 _ _ hl8,q4 _ _ hu8⟩
  | over a b =>
   obtain ⟨n1,n2,n3,n4⟩:=np
   have lb:b∈r.top:=lsT b (by show b∈[b];simp)
   have lbt:b < r.ts.length:=by rw [ok.len];exact ok.row.lt _ lb
   have hsum:(Stp.over a b).times * lenOf r.ls ((Stp.over a b).losers r)=r.ls.getD b 0:=by
    show 1 * lenOf r.ls [b]=_
    rw [Jw,J38];omega
   rw [hsum] at hl8
   refine few' (by rintro (e | e) <;> cases e) ?_
   refine ⟨_,rfl,q,_,_,_,rfl,rfl,SqT.of hq8,J6 (j:=2) rfl,lu,_,_,_,rfl,rfl,SqL.of hlu8,J6 (j:=0) rfl,?_⟩
   refine ⟨_,rfl,_,rfl,u1,_,_,_,rfl,rfl,SqL.of hu8,J6 (J26 lbt),_,rfl,_,rfl,u1,_,_,_,rfl,rfl,SqL.of hu8,J6 (J26 lwt),rfl,_,rfl,_,rfl,u1,bV r.ts,_,b,rfl,rfl,hu8,J27 (by rw [List.length_map];exact lbt),?_⟩
   have eu:(bV r.ts).set b (V.bl (!decide (V.bl (r.ts.getD b false)=V.bl (r.ts.getD a false))))=bV (J10 r a b):=by
    unfold J10
    rw [← J53]
    have e:(!decide (V.bl (r.ts.getD b false)=V.bl (r.ts.getD a false)))=(r.ts.getD a false != r.ts.getD b false):=by
     cases r.ts.getD a false <;> cases r.ts.getD b false <;> rfl
    rw [e]
   show tSeq _ _ _ _ (upd H8 u1 (.lst ((bV r.ts).set b (V.bl (!decide (V.bl (r.ts.getD b false)=V.bl (r.ts.getD a false)))))))
   rw [eu]
   have hu9:upd H8 u1 (.lst (bV (J10 r a b))) u1=some (.lst (bV (J10 r a b))):=J3
   have kp9:∀ c o,H8 c=some o→c≠u1→upd H8 u1 (.lst (bV (J10 r a b))) c=some o:=fun c o e n=>by rw [Jk n];exact e
   have s19:Same H1 (upd H8 u1 (.lst (bV (J10 r a b)))):=fun c o e=>kp9 c o (s18 _ _ e) (Jc e f4u)
   have hl9:=kp9 _ _ hl8 nlu
   have ht9:=kp9 _ _ ht8 ntu
   have hb9:=kp9 _ _ hb8 nbu
   have hq9:=s19 _ _ hq1
   have hp9:=s19 _ _ h0
   have hpu9:=s19 _ _ e4
   clear kp9 eu
   generalize upd H8 u1 (.lst (bV (J10 r a b)))=H9 at *
   refine ⟨_,rfl,q,_,_,_,rfl,rfl,SqT.of hq9,J6 (j:=0) rfl,rfl,_,rfl,?_⟩
   refine iteDT rfl ?_
   refine ⟨_,rfl,_,rfl,_,rfl,_,rfl,_,rfl,p,_,_,_,rfl,rfl,SqT.of hp9,J6 (j:=3) rfl,_,rfl,pu,_,_,_,rfl,rfl,SqL.of hpu9,J6 (J26 lwt),b1,r.bot,a,b,r.ts.getD a false,rfl,hb9,Nat.le_trans ok.rowB.len_le ok.few,ok.perm.mem_iff.mpr win,n3,fun c2 Ha sa hc2=>?_⟩
   refine ⟨_,rfl,_,rfl,(by show 4≤sizeLine;decide),fun z hz=>?_⟩
   have q4:=J7 (o:=.tup [.ref t1,.ref c2,.ref l1,.ref u1]) hz
   exact k z _ (s1.trans (s19.trans (sa.trans q4))) ⟨t1,c2,l1,u1,J3,q4 _ _ (sa _ _ ht9),q4 _ _ hc2,q4 _ _ (sa _ _ hl9),q4 _ _ (sa _ _ hu9)⟩
  | under a b =>
   obtain ⟨n1,n2,n3,n4⟩:=np
   have lb:b∈r.top:=lsT b (by show b∈[b];simp)
   have lbt:b < r.ts.length:=by rw [ok.len];exact ok.row.lt _ lb
   have hsum:(Stp.under a b).times * lenOf r.ls ((Stp.under a b).losers r)=r.ls.getD b 0:=by
    show 1 * lenOf r.ls [b]=_
    rw [Jw,J38];omega
   rw [hsum] at hl8
   refine few' (by rintro (e | e) <;> cases e) ?_
   refine ⟨_,rfl,q,_,_,_,rfl,rfl,SqT.of hq8,J6 (j:=2) rfl,lu,_,_,_,rfl,rfl,SqL.of hlu8,J6 (j:=0) rfl,?_⟩
   refine ⟨_,rfl,_,rfl,u1,_,_,_,rfl,rfl,SqL.of hu8,J6 (J26 lbt),_,rfl,_,rfl,u1,_,_,_,rfl,rfl,SqL.of hu8,J6 (J26 lwt),rfl,_,rfl,_,rfl,u1,bV r.ts,_,b,rfl,rfl,hu8,J27 (by rw [List.length_map];exact lbt),?_⟩
   have eu:(bV r.ts).set b (V.bl (!decide (V.bl (r.ts.getD b false)=V.bl (r.ts.getD a false))))=bV (J10 r a b):=by
    unfold J10
    rw [← J53]
    have e:(!decide (V.bl (r.ts.getD b false)=V.bl (r.ts.getD a false)))=(r.ts.getD a false != r.ts.getD b false):=by
     cases r.ts.getD a false <;> cases r.ts.getD b false <;> rfl
    rw [e]
   show tSeq _ _ _ _ (upd H8 u1 (.lst ((bV r.ts).set b (V.bl (!decide (V.bl (r.ts.getD b false)=V.bl (r.ts.getD a false)))))))
   rw [eu]
   have hu9:upd H8 u1 (.lst (bV (J10 r a b))) u1=some (.lst (bV (J10 r a b))):=J3
   have kp9:∀ c o,H8 c=some o→c≠u1→upd H8 u1 (.lst (bV (J10 r a b))) c=some o:=fun c o e n=>by rw [Jk n];exact e
   have s19:Same H1 (upd H8 u1 (.lst (bV (J10 r a b)))):=fun c o e=>kp9 c o (s18 _ _ e) (Jc e f4u)
   have hl9:=kp9 _ _ hl8 nlu
   have ht9:=kp9 _ _ ht8 ntu
   have hb9:=kp9 _ _ hb8 nbu
   have hq9:=s19 _ _ hq1
   have hp9:=s19 _ _ h0
   have hpu9:=s19 _ _ e4
   clear kp9 eu
   generalize upd H8 u1 (.lst (bV (J10 r a b)))=H9 at *
   refine ⟨_,rfl,q,_,_,_,rfl,rfl,SqT.of hq9,J6 (j:=0) rfl,rfl,_,rfl,?_⟩
   refine iteD (fun e=>nomatch J13 .un .ov e) ?_
   refine ⟨_,rfl,q,_,_,_,rfl,rfl,SqT.of hq9,J6 (j:=0) rfl,rfl,_,rfl,iteDT rfl ?_⟩
   refine ⟨_,rfl,_,rfl,_,rfl,_,rfl,p,_,_,_,rfl,rfl,SqT.of hp9,J6 (j:=3) rfl,_,rfl,pu,_,_,_,rfl,rfl,SqL.of hpu9,J6 (J26 lwt),t1,r.top,a,b,r.ts.getD a false,rfl,ht9,Nat.le_trans ok.row.len_le ok.few,win,n3,fun c2 Ha sa hc2=>?_⟩
   refine ⟨_,rfl,_,rfl,_,rfl,(by show 4≤sizeLine;decide),fun z hz=>?_⟩
   have q4:=J7 (o:=.tup [.ref c2,.ref b1,.ref l1,.ref u1]) hz
   exact k z _ (s1.trans (s19.trans (sa.trans q4))) ⟨c2,b1,l1,u1,J3,q4 _ _ hc2,q4 _ _ (sa _ _ hb9),q4 _ _ (sa _ _ hl9),q4 _ _ (sa _ _ hu9)⟩
  | even a b =>
   obtain ⟨n1,n2,n3,n4⟩:=np
   have lb:b∈r.top:=lsT b (by show b∈[b];simp)
   have lbt:b < r.ts.length:=by rw [ok.len];exact ok.row.lt _ lb
   have hsum:(Stp.even a b).times * lenOf r.ls ((Stp.even a b).losers r)=r.ls.getD b 0:=by
    show 1 * lenOf r.ls [b]=_
    rw [Jw,J38];omega
   rw [hsum] at hl8
   refine few' (by rintro (e | e) <;> cases e) ?_
   refine ⟨_,rfl,q,_,_,_,rfl,rfl,SqT.of hq8,J6 (j:=2) rfl,lu,_,_,_,rfl,rfl,SqL.of hlu8,J6 (j:=0) rfl,?_⟩
   refine ⟨_,rfl,_,rfl,u1,_,_,_,rfl,rfl,SqL.of hu8,J6 (J26 lbt),_,rfl,_,rfl,u1,_,_,_,rfl,rfl,SqL.of hu8,J6 (J26 lwt),rfl,_,rfl,_,rfl,u1,bV r.ts,_,b,rfl,rfl,hu8,J27 (by rw [List.length_map];exact lbt),?_⟩
   have eu:(bV r.ts).set b (V.bl (!decide (V.bl (r.ts.getD b false)=V.bl (r.ts.getD a false))))=bV (J10 r a b):=by
    unfold J10
    rw [← J53]
    have e:(!decide (V.bl (r.ts.getD b false)=V.bl (r.ts.getD a false)))=(r.ts.getD a false != r.ts.getD b false):=by
     cases r.ts.getD a false <;> cases r.ts.getD b false <;> rfl
    rw [e]
   show tSeq _ _ _ _ (upd H8 u1 (.lst ((bV r.ts).set b (V.bl (!decide (V.bl (r.ts.getD b false)=V.bl (r.ts.getD a false)))))))
   rw [eu]
   have hu9:upd H8 u1 (.lst (bV (J10 r a b))) u1=some (.lst (bV (J10 r a b))):=J3
   have kp9:∀ c o,H8 c=some o→c≠u1→upd H8 u1 (.lst (bV (J10 r a b))) c=some o:=fun c o e n=>by rw [Jk n];exact e
   have s19:Same H1 (upd H8 u1 (.lst (bV (J10 r a b)))):=fun c o e=>kp9 c o (s18 _ _ e) (Jc e f4u)
   have hl9:=kp9 _ _ hl8 nlu
   have ht9:=kp9 _ _ ht8 ntu
   have hb9:=kp9 _ _ hb8 nbu
   have hq9:=s19 _ _ hq1
   have hp9:=s19 _ _ h0
   have hpu9:=s19 _ _ e4
   clear kp9 eu
   generalize upd H8 u1 (.lst (bV (J10 r a b)))=H9 at *
   refine ⟨_,rfl,q,_,_,_,rfl,rfl,SqT.of hq9,J6 (j:=0) rfl,rfl,_,rfl,?_⟩
   refine iteD (fun e=>nomatch J13 .ev .ov e) ?_
   refine ⟨_,rfl,q,_,_,_,rfl,rfl,SqT.of hq9,J6 (j:=0) rfl,rfl,_,rfl,iteD (fun e=>nomatch J13 .ev .un e) ?_⟩
   have winB:=ok.perm.mem_iff.mpr win
   have hib:r.bot.idxOf a < r.bot.length:=List.idxOf_lt_length_iff.mpr winB
   have eb:(nV r.bot).set (r.bot.idxOf a) (V.int (b:Nat))=nV (r.bot.set (r.bot.idxOf a) b):=by rw [nV_eq,nV_eq,List.map_set]
   refine ⟨fun σ' H'=>σ'=[some (.ref p),some (.ref q),some (.ref t1),some (.ref b1),some (.ref l1),some (.ref u1),some (.int (a:Nat)),some (.int (b:Nat))]∧H' b1=some (.lst (nV (r.bot.set (r.bot.idxOf a) b)))∧∀ c o,H9 c=some o→c≠b1→H' c=some o,
    ⟨_,rfl,_,rfl,_,rfl,.inl ⟨rfl,_,SqL.of hb9⟩,_,rfl,b1,natI r.bot,(a:Int),rfl,rfl,SqL.of hb9,J3g winB,b1,nV r.bot,_,r.bot.idxOf a,rfl,rfl,hb9,?_,rfl,?_,fun c o e n=>?_⟩,?_⟩
   ·show ixN (nV r.bot).length (((natI r.bot).idxOf (a:Int):Nat):Int)=_
    rw [J45]
    exact J27 (by rw [J2e];exact hib)
   ·rw [J3,← eb]
   ·rw [Jk n];exact e
   rintro σ Ha ⟨rfl,hba,kpa⟩
   have s1a:Same H1 Ha:=fun c o e=>kpa c o (s19 _ _ e) (Jc e f2')
   have hta:=kpa _ _ ht9 ntb
   have hla:=kpa _ _ hl9 (Ne.symm nbl)
   have hua:=kpa _ _ hu9 (Ne.symm nbu)
   have neS:r.bot.set (r.bot.idxOf a) b≠[]:=fun e=>by
    have:=congrArg List.length e
    rw [List.length_set] at this
    simp at this
    exact neB this
   refine ⟨_,rfl,_,rfl,_,rfl,t1,_,rfl,SqL.of hta,fun c1 hc1=>?_⟩
   have q1:=J7 (o:=.lst (cutV (nV r.top) none (some (-1)))) hc1
   refine ⟨_,rfl,_,rfl,_,rfl,b1,_,rfl,SqL.of (q1 _ _ hba),fun c2 hc2=>?_⟩
   have q12:=J7 (o:=.lst (cutV (nV (r.bot.set (r.bot.idxOf a) b)) none (some (-1)))) hc2
   have q2:=q1.trans q12
   refine ⟨_,rfl,_,rfl,_,rfl,u1,bV (J10 r a b),a,.bl false,rfl,q2 _ _ hua,by rw [List.length_map,J1a];exact lwt,fun c4 Hb q34 hc4=>?_⟩
   refine ⟨by show 4≤sizeLine;decide,fun z hz=>?_⟩
   have q4:=J7 (o:=.tup [.ref c1,.ref c2,.ref l1,.ref c4]) hz
   have q37:=q34.trans q4
   refine k z _ (s1.trans (s1a.trans (q2.trans q37))) ⟨c1,c2,l1,c4,J3,?_,?_,?_,?_⟩
   ·rw [q37 _ _ (q12 _ _ J3),cut_but ne,← J29 ok.row.nd ne]
    show some (HO.lst (nV (withoutR r.top (lastT r))))=some (HO.lst (nV (withoutR r.top a)))
    rw [n1]
   ·rw [q37 _ _ J3,cut_but neS,even_row (a:=a) ok.rowB.nd winB n2.symm n3];rfl
   ·rw [q37 _ _ (q2 _ _ hla)]
    show some (HO.lst (iV (r.ls.set a (r.ls.getD a 0 - r.ls.getD b 0))))=some (HO.lst (iV (r.ls.set a 0)))
    rw [n4,Int.sub_self]
   ·rw [q4 _ _ hc4,J53];rfl
end
end R13
namespace R13
open PySem L2 Rl
section
variable {P:Program} {w:World} {K:PySem.W.Frag} {mg:Str→Option Value} {base:Heap}
def spSameR (CR:Addr):Sp:=fun vs H Q _=>∃ (x p:Addr) (r:Rst),vs=[.ref x,.ref p]∧RestAt CR H x r∧DrawnR H p r∧r.Ok∧∀ H',Same H H'→Q (.bl true) H'
theorem scSameR:FnScope ["rest","drawn","rows","k"] ["rest","drawn"] (J1 sSameR):=⟨rfl,rfl,rfl,by decide +kernel,rfl,by decide +kernel,by decide +kernel⟩
theorem ok_sameR {f fW CR:Addr} {fd fdW:FuncData} (F:Fun K "_law_same" "_law_same" sSameR f fd) (T:TxtR mg) (TL:TxtL K mg) (hall:mg "all"=none) (TR:TxtRest K CR) (TI:TxtI K CR) (mgR:mg "Rest"=some (.ref CR)) (kt:PySem.W.kitOne K (.ref CR) (.ref CR)=some true)
  (GW:FnOk P w K mg base CX0 1 fW fdW ["found"] spWhole) (bW:Binds K fdW ["found"] []) (mW:mg "_law_whole"=some (.ref fW)) (kW:PySem.W.keepIn K (.ref fW)=true) :
  FnOk P w K mg base CX0 2 f fd ["rest","drawn"] (spSameR CR):=by
 refine F.ok scSameR (fun vs H Q E h=>?_) (fun cdv A outer s H vs Q E hr h=>?_)
 ·obtain ⟨x,p,r,rfl,_⟩:=h
  rfl
 ·obtain ⟨x,p,r,rfl,R,D,ok,k⟩:=h
  have hu:=hr.units0
  obtain ⟨dx,fs,pt,pb,pl,pu,h0,⟨k1,k2,k3,k4,k5⟩,e1,e2,e3,e4⟩:=R.ex
  obtain ⟨qt,qb,ql,qu,g0,g1,g2,g3,g4⟩:=D.ex
  have few:=Nat.le_trans ok.row.len_le ok.few
  have fewB:=Nat.le_trans ok.rowB.len_le ok.few
  have fewL:=ok.few
  have fewT:r.ts.length≤24:=by rw [ok.len];exact ok.few
  refine ⟨_,J2 (ps_if (PW.pt (pw_or (J2m (J1o (Jo (J19 rfl) (by rfl) TL.isi PyProof.Rows.boot_isinstance (J0 (pv 0) (J0 (pe_glob (v:=.ref CR) rfl mgR rfl) J4)))))
    (pw_or (J2m (J1o (Jb GW hr rfl mW kW bW .nil pass0 (J0 (Je (pv 0) rfl) J4))))
    (pw_or1 (Jl op_ne (Je (pv 0) rfl) (Jo (J2h rfl) (by rfl) T.sum PyProof.Rows.boot_sum (J0 (pe_ix Jh (pv 1) Ja (fun _ _=>rfl)) J4)) (Ju _)))))) (J8 (Jg pe_bl)) Jm)
   (J2 (Ji (i:=2) scSameR.nd rfl (Or.inl rfl) (J2d (J0 (Je (pv 0) rfl) (J0 (Je (pv 0) rfl) (J0 (Je (pv 0) rfl) J4)))))
   (J2 (J57 PassesOwn.never rfl (J4e rfl T.range (J0 Ja J4)) (J32 (i:=3) scSameR.nd rfl (Or.inl rfl))
    (J2 (ps_if (PW.pt (pw_or (J2m (J1o (Jo (J19 rfl) (by rfl) TL.isi PyProof.Rows.boot_isinstance (J0 (pe_ix Jr (pv 2) (pv 3) (fun _ _=>rfl)) (J0 (J4x (v:=.ty "tuple") rfl T.tuple PyProof.Rows.boot_tuple rfl) J4)))))
     (pw_or1 (J2m (J1o (Jo (call_all rfl) (by rfl) hall PyProof.Rows.boot_all (J0 (pe_lc (caps:=[]) (js:=[]) rfl (pi_tup (pe_ix Jr (pv 2) (pv 3) (fun _ _=>rfl))) rfl (fun _ _ _ _=>J4v)
      (fun C fp s H=>Jb GW hr rfl mW kW bW .nil pass0 (J0 (pv 0) J4)) (by decide +kernel) (by decide +kernel) (by decide +kernel) (by intro p hp;cases hp)) J4))))))) (J8 (Jg pe_bl)) Jm)
    (J8 (ps_if (Jl (op_neT hu) (pe_ix Jr (pv 2) (pv 3) (fun _ _=>rfl)) (Jn J1l (by rfl) T.tuple PyProof.Rows.boot_tuple (J0 (pe_ix Jh (pv 1) (pv 3) (fun _ _=>rfl)) J4)) (Ju _)) (J8 (Jg pe_bl)) Jm))))
   (J2 (ps_if (PW.pt (pw_or (J2m (J1o (Jo (J19 rfl) (by rfl) TL.isi PyProof.Rows.boot_isinstance (J0 (Je (pv 0) rfl) (J0 (J4x (v:=.ty "tuple") rfl T.tuple PyProof.Rows.boot_tuple rfl) J4)))))
     (pw_or1 (J2m (J1o (Jo (call_all rfl) (by rfl) hall PyProof.Rows.boot_all (J0 (pe_lc (caps:=[]) (js:=[]) rfl (pi_tup (Je (pv 0) rfl)) rfl (fun _ _ _ _=>J4v)
      (fun C fp s H=>Jo (J5g K) (by rfl) TL.isi PyProof.Rows.boot_isinstance (J0 (pv 0) (J0 (J4x (v:=.ty "bool") rfl TL.bool PyProof.Rows.boot_bool rfl) J4))) (by decide +kernel) (by decide +kernel) (by decide +kernel) (by intro p hp;cases hp)) J4))))))) (J8 (Jg pe_bl)) Jm)
   (J8 (Jg (pe_cmpR (op_eqT hu) (Je (pv 0) rfl) (Jn J1l (by rfl) T.tuple PyProof.Rows.boot_tuple (J0 (pe_ix Jh (pv 1) Ja (fun _ _=>rfl)) J4)) (Ju _))))))),?_⟩
  refine ⟨_,rfl,_,.ref CR,.ref CR,.ref CR,true,rfl,rfl,fun v h=>h,TI.ty TR.cl h0,kt,true,rfl,iteF ?_⟩
  refine ⟨_,rfl,x,CR,dx,fs,_,rfl,h0,TR.cl,TR.nZ,k5,_,rfl,true,rfl,iteF ?_⟩
  refine ⟨_,rfl,x,CR,dx,fs,_,rfl,h0,TR.cl,TR.nZ,k5,_,rfl,p,_,_,_,rfl,rfl,SqT.of g0,J6 (j:=2) rfl,ql,r.ls,rfl,.inl (SqL.of g3),rfl,_,rfl,iteNS (by rw [ok.size_sum]) ?_⟩
  refine ⟨_,rfl,x,CR,dx,fs,_,rfl,h0,TR.cl,TR.nT,k1,_,rfl,x,CR,dx,fs,_,rfl,h0,TR.cl,TR.nB,k2,_,rfl,x,CR,dx,fs,_,rfl,h0,TR.cl,TR.nL,k3,(by show 3≤sizeLine;decide),fun q hq=>?_⟩
  refine ⟨3,rfl,by decide,by decide,for_range (lo:=0) (n:=3) (fun i σ H2=>∃ v,σ=[some (.ref x),some (.ref p),some (.ref q),v]∧Same H H2∧H2 q=some (.lst [.ref pt,.ref pb,.ref pl]))
   ⟨none,rfl,J7 hq,J3⟩ ?_ ?_⟩
  ·rintro i σ H2 hi ⟨v,rfl,s2,hq2⟩
   rw [Int.zero_add]
   have hz':∃ (a d:Addr) (ns:List Int),([.ref pt,.ref pb,.ref pl]:List V)[i]?=some (.ref a)∧([.ref qt,.ref qb,.ref ql,.ref qu]:List V)[i]?=some (.ref d)∧H2 a=some (.tup (iV ns))∧H2 d=some (.lst (iV ns))∧ns.length≤24:=by
    have h3:i=0∨i=1∨i=2:=by omega
    rcases h3 with rfl | rfl | rfl
    ·exact ⟨pt,qt,_,rfl,rfl,s2 _ _ e1,s2 _ _ g1,by simp [natI];exact few⟩
    ·exact ⟨pb,qb,_,rfl,rfl,s2 _ _ e2,s2 _ _ g2,by simp [natI];exact fewB⟩
    ·exact ⟨pl,ql,_,rfl,rfl,s2 _ _ e3,s2 _ _ g3,fewL⟩
   obtain ⟨a,d0,ns,i1,i2,ha,hd0,hn⟩:=hz'
   refine ⟨_,rfl,_,rfl,q,_,_,_,rfl,rfl,SqL.of hq2,J6 i1,_,.ty "tuple",.type "tuple",.type "tuple",true,rfl,rfl,fun v h=>h,.tup ha,rfl,true,rfl,iteF ?_⟩
   refine ⟨_,rfl,_,rfl,q,_,_,_,rfl,rfl,SqL.of hq2,J6 i1,a,rfl,⟨_,SqT.of ha⟩,fun d hd=>lc_tup V.int ns (fun _=>true) (fun _=>V.bl true) (SqT.of ha) (by omega) hd (fun _ _ H _ _ k=>k H (Same.refl _)) (fun j hj H3 Qe _ s3 k=>⟨_,rfl,j,rfl,k _ (Same.refl _)⟩) (fun H3 s3 hd3=>?_)⟩
   rw [J1r,bls_true] at hd3
   refine ⟨d,_,rfl,SqL.of hd3,_,rfl,?_⟩
   rw [all_true]
   refine iteF ?_
   refine ⟨_,rfl,_,rfl,q,_,_,_,rfl,rfl,SqL.of (s3 _ _ hq2),J6 i1,_,rfl,_,rfl,p,_,_,_,rfl,rfl,SqT.of (s3 _ _ (s2 _ _ g0)),J6 i2,J1n (.inl (s3 _ _ hd0)) fun l4 H4 s34 hl4=>?_⟩
   refine ⟨a,l4,_,_,rfl,rfl,SqT.of (s34 _ _ (s3 _ _ ha)),SqT.of hl4,Kin.ints _ _,_,rfl,iteNS rfl ?_⟩
   exact ⟨_,rfl,s2.trans (s3.trans s34),s34 _ _ (s3 _ _ hq2)⟩
  ·rintro σ H2 ⟨v,rfl,s2,_⟩
   refine ⟨_,rfl,x,CR,dx,fs,_,rfl,s2 _ _ h0,TR.cl,TR.nU,k4,_,.ty "tuple",.type "tuple",.type "tuple",true,rfl,rfl,fun v h=>h,.tup (s2 _ _ e4),rfl,true,rfl,iteF ?_⟩
   refine ⟨_,rfl,x,CR,dx,fs,_,rfl,s2 _ _ h0,TR.cl,TR.nU,k4,pu,rfl,⟨_,SqT.of (s2 _ _ e4)⟩,fun d hd=>lc_tup V.bl r.ts (fun _=>true) (fun _=>V.bl true) (SqT.of (s2 _ _ e4)) (by omega) hd (fun _ _ H _ _ k=>k H (Same.refl _))
    (fun j hj H3 Qe _ s3 k=>⟨_,rfl,_,.ty "bool",.type "bool",.type "bool",true,rfl,rfl,fun v h=>h,.bl j,rfl,k _ (Same.refl _)⟩) (fun H3 s3 hd3=>?_)⟩
   rw [J1r,bls_true] at hd3
   refine ⟨d,_,rfl,SqL.of hd3,_,rfl,?_⟩
   rw [all_true]
   refine iteF ?_
   have s23:=s2.trans s3
   refine ⟨_,rfl,x,CR,dx,fs,_,rfl,s23 _ _ h0,TR.cl,TR.nU,k4,_,rfl,p,_,_,_,rfl,rfl,SqT.of (s23 _ _ g0),J6 (j:=3) rfl,J1n (.inl (s23 _ _ g4)) fun l5 H7 s67 hl5=>?_⟩
   refine ⟨pu,l5,_,_,rfl,rfl,SqT.of ((s23.trans s67) _ _ e4),SqT.of hl5,Kin.bls _ _,?_⟩
   rw [decide_eq_true rfl]
   exact k H7 (s23.trans s67)
def spMade (cs:Kd→Addr):Sp:=fun vs H Q _=>∃ (q:Addr) (s:Stp) (r:Rst),vs=[.ref q]∧DueAt H q s (s.losers r)∧∀ p H',Same H H'→StepAt cs H' p s→Q (.ref p) H'
theorem scMade:FnScope ["due"] ["due"] (J1 sMade):=⟨rfl,rfl,rfl,by decide +kernel,rfl,by decide +kernel,by decide +kernel⟩
theorem ok_made {f fH fE fO fU fM fN:Addr} {fd fdH fdE fdO fdU fdM fdN:FuncData} {cs:Kd→Addr} (F:Fun K "_law_made" "_law_made" sMade f fd)
  (MH:Mk K (cs .ho) fH) (GH:FnOk P w K mg base CX0 2 fH fdH ["self","winner"] (spMk cs aHo)) (bH:Binds K fdH ["self","winner"] []) (mH:mg "Home"=some (.ref (cs .ho)))
  (ME:Mk K (cs .ev) fE) (GE:FnOk P w K mg base CX0 2 fE fdE ["self","winner","loser"] (spMk cs aEv)) (bE:Binds K fdE ["self","winner","loser"] []) (mE:mg "Even"=some (.ref (cs .ev)))
  (MO:Mk K (cs .ov) fO) (GO:FnOk P w K mg base CX0 2 fO fdO ["self","winner","loser"] (spMk cs aOv)) (bO:Binds K fdO ["self","winner","loser"] []) (mO:mg "Over"=some (.ref (cs .ov)))
  (MU:Mk K (cs .un) fU) (GU:FnOk P w K mg base CX0 2 fU fdU ["self","winner","loser"] (spMk cs aUn)) (bU:Binds K fdU ["self","winner","loser"] []) (mU:mg "Under"=some (.ref (cs .un)))
  (MM:Mk K (cs .os) fM) (GM:FnOk P w K mg base CX0 2 fM fdM ["self","winner","times"] (spMk cs aOs)) (bM:Binds K fdM ["self","winner","times"] []) (mM:mg "Overs"=some (.ref (cs .os)))
  (MN:Mk K (cs .us) fN) (GN:FnOk P w K mg base CX0 2 fN fdN ["self","winner","times"] (spMk cs aUs)) (bN:Binds K fdN ["self","winner","times"] []) (mN:mg "Unders"=some (.ref (cs .us))) :
  FnOk P w K mg base CX0 4 f fd ["due"] (spMade cs):=by
 refine F.ok scMade (fun vs H Q E h=>?_) (fun cdv A outer s H vs Q E hr h=>?_)
 ·obtain ⟨q,s,r,rfl,_⟩:=h
  rfl
 ·obtain ⟨q,s,r,rfl,⟨l,hq,hl⟩,k⟩:=h
  refine ⟨_,J2 (ps_if (Jl op_eq (pe_ix Jh (pv 0) Ja (fun _ _=>rfl)) J1c (Ju _)) (J8 (Jg (J14 MH GH hr rfl mH bH .nil pass0 (J0 (pe_ix Jh (pv 0) Ja (fun _ _=>rfl)) J4)))) Jm)
   (J2 (ps_if (Jl op_eq (pe_ix Jh (pv 0) Ja (fun _ _=>rfl)) J1c (Ju _)) (J8 (Jg (J14 ME GE hr rfl mE bE .nil pass0 (J0 (pe_ix Jh (pv 0) Ja (fun _ _=>rfl)) (J0 (pe_ix Jr (pe_ix Jh (pv 0) Ja (fun _ _=>rfl)) Ja (fun _ _=>rfl)) J4))))) Jm)
   (J2 (ps_if (Jl op_eq (pe_ix Jh (pv 0) Ja (fun _ _=>rfl)) J1c (Ju _)) (J8 (Jg (J14 MO GO hr rfl mO bO .nil pass0 (J0 (pe_ix Jh (pv 0) Ja (fun _ _=>rfl)) (J0 (pe_ix Jr (pe_ix Jh (pv 0) Ja (fun _ _=>rfl)) Ja (fun _ _=>rfl)) J4))))) Jm)
   (J2 (ps_if (Jl op_eq (pe_ix Jh (pv 0) Ja (fun _ _=>rfl)) J1c (Ju _)) (J8 (Jg (J14 MU GU hr rfl mU bU .nil pass0 (J0 (pe_ix Jh (pv 0) Ja (fun _ _=>rfl)) (J0 (pe_ix Jr (pe_ix Jh (pv 0) Ja (fun _ _=>rfl)) Ja (fun _ _=>rfl)) J4))))) Jm)
   (J2 (ps_if (Jl op_eq (pe_ix Jh (pv 0) Ja (fun _ _=>rfl)) J1c (Ju _)) (J8 (Jg (J14 MM GM hr rfl mM bM .nil pass0 (J0 (pe_ix Jh (pv 0) Ja (fun _ _=>rfl)) (J0 (pe_ix Jh (pv 0) Ja (fun _ _=>rfl)) J4))))) Jm)
   (J8 (Jg (J14 MN GN hr rfl mN bN .nil pass0 (J0 (pe_ix Jh (pv 0) Ja (fun _ _=>rfl)) (J0 (pe_ix Jh (pv 0) Ja (fun _ _=>rfl)) J4))))))))),?_⟩
  cases s with
  | home a =>
   refine ⟨_,rfl,q,_,_,_,rfl,rfl,SqT.of hq,J6 (j:=0) rfl,rfl,_,rfl,iteDT rfl ⟨_,rfl,q,_,_,_,rfl,rfl,SqT.of hq,J6 (j:=1) rfl,fun x dx hx hdx hne=>?_⟩⟩
   obtain ⟨st,sm⟩:=J17 (cs:=cs) (s:=.home a) hx hdx
   exact ⟨x,dx,_,.home a,rfl,⟨a,rfl,rfl⟩,J3,rfl,k x _ sm st⟩
  | even a b =>
   refine ⟨_,rfl,q,_,_,_,rfl,rfl,SqT.of hq,J6 (j:=0) rfl,rfl,_,rfl,iteD (fun e=>nomatch J13 .ev .ho e) ?_⟩
   refine ⟨_,rfl,q,_,_,_,rfl,rfl,SqT.of hq,J6 (j:=0) rfl,rfl,_,rfl,iteDT rfl ?_⟩
   refine ⟨_,rfl,q,_,_,_,rfl,rfl,SqT.of hq,J6 (j:=1) rfl,_,rfl,q,_,_,_,rfl,rfl,SqT.of hq,J6 (j:=2) rfl,l,_,_,_,rfl,rfl,SqL.of hl,J6 (j:=0) rfl,fun x dx hx hdx hne=>?_⟩
   obtain ⟨st,sm⟩:=J17 (cs:=cs) (s:=.even a b) hx hdx
   exact ⟨x,dx,_,.even a b,rfl,⟨a,b,rfl,rfl⟩,J3,rfl,k x _ sm st⟩
  | over a b =>
   refine ⟨_,rfl,q,_,_,_,rfl,rfl,SqT.of hq,J6 (j:=0) rfl,rfl,_,rfl,iteD (fun e=>nomatch J13 .ov .ho e) ?_⟩
   refine ⟨_,rfl,q,_,_,_,rfl,rfl,SqT.of hq,J6 (j:=0) rfl,rfl,_,rfl,iteD (fun e=>nomatch J13 .ov .ev e) ?_⟩
   refine ⟨_,rfl,q,_,_,_,rfl,rfl,SqT.of hq,J6 (j:=0) rfl,rfl,_,rfl,iteDT rfl ?_⟩
   refine ⟨_,rfl,q,_,_,_,rfl,rfl,SqT.of hq,J6 (j:=1) rfl,_,rfl,q,_,_,_,rfl,rfl,SqT.of hq,J6 (j:=2) rfl,l,_,_,_,rfl,rfl,SqL.of hl,J6 (j:=0) rfl,fun x dx hx hdx hne=>?_⟩
   obtain ⟨st,sm⟩:=J17 (cs:=cs) (s:=.over a b) hx hdx
   exact ⟨x,dx,_,.over a b,rfl,⟨a,b,rfl,rfl⟩,J3,rfl,k x _ sm st⟩
  | under a b =>
   refine ⟨_,rfl,q,_,_,_,rfl,rfl,SqT.of hq,J6 (j:=0) rfl,rfl,_,rfl,iteD (fun e=>nomatch J13 .un .ho e) ?_⟩
   refine ⟨_,rfl,q,_,_,_,rfl,rfl,SqT.of hq,J6 (j:=0) rfl,rfl,_,rfl,iteD (fun e=>nomatch J13 .un .ev e) ?_⟩
   refine ⟨_,rfl,q,_,_,_,rfl,rfl,SqT.of hq,J6 (j:=0) rfl,rfl,_,rfl,iteD (fun e=>nomatch J13 .un .ov e) ?_⟩
   refine ⟨_,rfl,q,_,_,_,rfl,rfl,SqT.of hq,J6 (j:=0) rfl,rfl,_,rfl,iteDT rfl ?_⟩
   refine ⟨_,rfl,q,_,_,_,rfl,rfl,SqT.of hq,J6 (j:=1) rfl,_,rfl,q,_,_,_,rfl,rfl,SqT.of hq,J6 (j:=2) rfl,l,_,_,_,rfl,rfl,SqL.of hl,J6 (j:=0) rfl,fun x dx hx hdx hne=>?_⟩
   obtain ⟨st,sm⟩:=J17 (cs:=cs) (s:=.under a b) hx hdx
   exact ⟨x,dx,_,.under a b,rfl,⟨a,b,rfl,rfl⟩,J3,rfl,k x _ sm st⟩
  | overs a b =>
   refine ⟨_,rfl,q,_,_,_,rfl,rfl,SqT.of hq,J6 (j:=0) rfl,rfl,_,rfl,iteD (fun e=>nomatch J13 .os .ho e) ?_⟩
   refine ⟨_,rfl,q,_,_,_,rfl,rfl,SqT.of hq,J6 (j:=0) rfl,rfl,_,rfl,iteD (fun e=>nomatch J13 .os .ev e) ?_⟩
   refine ⟨_,rfl,q,_,_,_,rfl,rfl,SqT.of hq,J6 (j:=0) rfl,rfl,_,rfl,iteD (fun e=>nomatch J13 .os .ov e) ?_⟩
   refine ⟨_,rfl,q,_,_,_,rfl,rfl,SqT.of hq,J6 (j:=0) rfl,rfl,_,rfl,iteD (fun e=>nomatch J13 .os .un e) ?_⟩
   refine ⟨_,rfl,q,_,_,_,rfl,rfl,SqT.of hq,J6 (j:=0) rfl,rfl,_,rfl,iteDT rfl ?_⟩
   refine ⟨_,rfl,q,_,_,_,rfl,rfl,SqT.of hq,J6 (j:=1) rfl,_,rfl,q,_,_,_,rfl,rfl,SqT.of hq,J6 (j:=3) rfl,fun x dx hx hdx hne=>?_⟩
   obtain ⟨st,sm⟩:=J17 (cs:=cs) (s:=.overs a b) hx hdx
   exact ⟨x,dx,_,.overs a b,rfl,⟨a,b,rfl,rfl⟩,J3,rfl,k x _ sm st⟩
  | unders a b =>
   refine ⟨_,rfl,q,_,_,_,rfl,rfl,SqT.of hq,J6 (j:=0) rfl,rfl,_,rfl,iteD (fun e=>nomatch J13 .us .ho e) ?_⟩
   refine ⟨_,rfl,q,_,_,_,rfl,rfl,SqT.of hq,J6 (j:=0) rfl,rfl,_,rfl,iteD (fun e=>nomatch J13 .us .ev e) ?_⟩
   refine ⟨_,rfl,q,_,_,_,rfl,rfl,SqT.of hq,J6 (j:=0) rfl,rfl,_,rfl,iteD (fun e=>nomatch J13 .us .ov e) ?_⟩
   refine ⟨_,rfl,q,_,_,_,rfl,rfl,SqT.of hq,J6 (j:=0) rfl,rfl,_,rfl,iteD (fun e=>nomatch J13 .us .un e) ?_⟩
   refine ⟨_,rfl,q,_,_,_,rfl,rfl,SqT.of hq,J6 (j:=0) rfl,rfl,_,rfl,iteD (fun e=>nomatch J13 .us .os e) ?_⟩
   refine ⟨_,rfl,q,_,_,_,rfl,rfl,SqT.of hq,J6 (j:=1) rfl,_,rfl,q,_,_,_,rfl,rfl,SqT.of hq,J6 (j:=3) rfl,fun x dx hx hdx hne=>?_⟩
   obtain ⟨st,sm⟩:=J17 (cs:=cs) (s:=.unders a b) hx hdx
   exact ⟨x,dx,_,.unders a b,rfl,⟨a,b,rfl,rfl⟩,J3,rfl,k x _ sm st⟩
end
abbrev nmY:Str:="y"
section
variable {P:Program} {w:World} {K:PySem.W.Frag} {mg:Str→Option Value} {base:Heap}
def spAsk (CO CR:Addr):Sp:=fun vs H Q E=>∃ (k:Int) (x:Addr) (r:Rst) (y:Int),vs=[.int k,.ref x,.int y]∧RestAt CR H x r∧r.Ok∧¬ (0≤y∧y < r.size)∧E (.ref CO) none H
theorem scAsk:FnScope ["which","rest",nmY] ["which","rest",nmY] (J1 sAsk):=⟨rfl,rfl,rfl,by decide +kernel,rfl,by decide +kernel,by decide +kernel⟩
theorem ok_ask {f fA fG CO CR:Addr} {fd fdA fdG:FuncData} (F:Fun K "_law_ask" "_law_ask" sAsk f fd)
  (GA:FnOk P w K mg base (Exc1 P w) 2 fA fdA ["rest","y"] (spLetter CO CR)) (bA:Binds K fdA ["rest","y"] []) (mA:mg "letter_at"=some (.ref fA)) (kA:PySem.W.keepIn K (.ref fA)=true)
  (GG:FnOk P w K mg base (Exc1 P w) 3 fG fdG ["rest","y"] (spRGoes CO CR)) (bG:Binds K fdG ["rest","y"] []) (mG:mg "rest_goes"=some (.ref fG)) (kG:PySem.W.keepIn K (.ref fG)=true) :
  FnOk P w K mg base (Exc1 P w) 4 f fd ["which","rest",nmY] (spAsk CO CR):=by
 refine F.okX scAsk (fun vs H Q E h=>?_) (fun cdv A outer s H vs Q E hr h=>?_)
 ·obtain ⟨k,x,r,y,rfl,_⟩:=h
  rfl
 ·obtain ⟨k,x,r,y,rfl,R,ok,hy,kx⟩:=h
  have hr1:Room 2 _:=hr.mono (by decide)
  refine ⟨_,J2 (ps_if (Jl op_eq (pv 0) Ja (Ju _)) (J8 (Jg (Jb GA hr1 rfl mA kA bA .nil pass1 (J0 (pv 1) (J0 (pv 2) J4))))) Jm)
   (J8 (Jg (Jb GG hr rfl mG kG bG .nil pass1 (J0 (pv 1) (J0 (pv 2) J4))))),?_⟩
  refine ⟨_,rfl,rfl,_,rfl,ite2 (fun _=>?_) (fun _=>?_)⟩
  ·exact ⟨_,rfl,_,rfl,x,r,y,rfl,R,ok.row,fun i hi=>absurd (ok.row.inside hi) hy,fun _=>kx⟩
  ·exact ⟨_,rfl,_,rfl,x,r,y,rfl,R,ok,fun z H' _ hz=>absurd (ok.from_ hz) hy,fun _=>kx⟩
def J4r (CR:Addr):Sp:=fun vs H Q _=>∃ (k:Int) (x:Addr) (r:Rst) (y:Int),vs=[.int k,.ref x,.int y]∧RestAt CR H x r∧r.Ok∧¬ (0≤y∧y < r.size)∧∀ H',Same H H'→Q (.bl true) H'
theorem scRefused:FnScope ["which","rest",nmY,"found","e"] ["which","rest",nmY] (J1 J2u):=⟨rfl,rfl,rfl,by decide +kernel,rfl,by decide +kernel,by decide +kernel⟩
theorem ok_refusedR {f fG CO CL CR:Addr} {fd fdG:FuncData} (F:Fun K "_law_refused" "_law_refused" J2u f fd) (hisi:mg "isinstance"=none) (TO:TxtX K mg "Outside" CO) (mL:mg "LineError"=some (.ref CL)) (hx:PySem.W.exmOne K (.ref CO) (.ref CL)=some true)
  (GG:FnOk P w K mg base (Exc1 P w) 4 fG fdG ["which","rest",nmY] (spAsk CO CR)) (bG:Binds K fdG ["which","rest",nmY] []) (mG:mg "_law_ask"=some (.ref fG)) (kG:PySem.W.keepIn K (.ref fG)=true) :
  FnOk P w K mg base CX0 5 f fd ["which","rest",nmY] (J4r CR):=by
 refine F.ok scRefused (fun vs H Q E h=>?_) (fun cdv A outer s H vs Q E hr h=>?_)
 ·obtain ⟨k,x,r,y,rfl,_⟩:=h
  rfl
 ·obtain ⟨k,x,r,y,rfl,R,ok,hy,kk⟩:=h
  refine ⟨_,J2 (Ji (i:=3) scRefused.nd rfl (Or.inl rfl) pe_non)
   (J2 (ps_tryc (i:=4) GG hr rfl mG kG bG .nil (J0 (pv 0) (J0 (pv 1) (J0 (pv 2) J4))) rfl rfl rfl mL scRefused.nd rfl rfl (fun ea=>J8 (Ji (i:=3) scRefused.nd rfl (Or.inl rfl) (pv 4))))
   (J8 (Jg (Jo (call_isexc rfl) (by rfl) hisi PyProof.Rows.boot_isinstance (J0 (pv 3) (J0 (pe_glob (v:=.ref CO) rfl TO.mg rfl) J4)))))),?_⟩
  refine ⟨_,rfl,_,rfl,_,rfl,k,x,r,y,rfl,R,ok,hy,hx,fun ea hea=>?_⟩
  exact ⟨_,rfl,_,rfl,ea,CO,rfl,J3,kk _ (J7 hea)⟩
end
end R13
namespace R13
open PySem L2 Rl
section
variable {P:Program} {w:World} {K:PySem.W.Frag} {mg:Str→Option Value} {base:Heap}
def spLaw (K:PySem.W.Frag):Sp:=fun vs H Q _=>∃ (a:Addr) (ns:List Int),vs=[.ref a]∧SqL K H a (ns.map V.int)∧ns.length≤63∧∀ H',Q (.bl true) H'
theorem scLaw:FnScope ["script","drawn","rest","left","due","made","y"] ["script"] (J1 sLaw):=⟨rfl,rfl,rfl,by decide +kernel,rfl,by decide +kernel,by decide +kernel⟩
theorem Few.small {r:Rst} (h:Few (10 ^ 28) r):r.size≤10 ^ 30:=by
 have h1:=h.size (by decide)
 have h2:(6:Int) * 10 ^ 28≤10 ^ 30:=by decide
 omega
theorem next_fit {r:Rst} (ok:r.Ok) (ne:r.top≠[]) (hz:r.size≤10 ^ 30):Fit (nextN r) r:=by
 have np:=nextP ok ne
 refine ⟨ok,ok.next ne,np.win ok ne,fun b hb=>?_,Nat.lt_of_le_of_lt (np.times ok ne hz) (by decide),hz⟩
 have mT:=ok.mT ne
 have mB:=ok.mB ne
 generalize nextN r=st at *
 have inj:∀ {i j:Nat},V.int (i:Nat)=V.int (j:Nat)→i=j:=fun q=>by have:=V.int.inj q;omega
 cases st with
 | even a b'=>obtain rfl:=inj hb;obtain ⟨_,n2,n3,_⟩:=np;exact ⟨by rw [n2];exact mB,n3⟩
 | over a b'=>obtain rfl:=inj hb;obtain ⟨_,n2,n3,_⟩:=np;exact ⟨by rw [n2];exact mB,n3⟩
 | under a b'=>obtain rfl:=inj hb;obtain ⟨_,n2,n3,_⟩:=np;exact ⟨by rw [n2];exact mT,n3⟩
 | home a=>cases hb
 | overs a t=>cases hb
 | unders a t=>cases hb
theorem ok_law {f fD fRI fSt fN fSa fLe fMa fRf CR:Addr} {fd fdD fdRI fdSt fdN fdSa fdLe fdMa fdRf:FuncData} {cs:Kd→Addr} (F:Fun K "law" "law" sLaw f fd) (T:TxtR mg) (TR:TxtRest K CR) (TS:TxtS K cs)
  (GD:FnOk P w K mg base CX0 2 fD fdD ["script","spans"] (spDrawnR K)) (bD:Binds K fdD ["script","spans"] []) (mD:mg "_law_rest"=some (.ref fD)) (kD:PySem.W.keepIn K (.ref fD)=true)
  (M:Mk K CR fRI) (GI:FnOk P w K mg base CX0 2 fRI fdRI ["self","top","bottom","lengths","turned"] (J2k CR)) (bI:Binds K fdRI ["self","top","bottom","lengths","turned"] []) (mgR:mg "Rest"=some (.ref CR))
  (GSt:FnOk P w K mg base CX0 2 fSt fdSt ["drawn"] spStepN) (bSt:Binds K fdSt ["drawn"] []) (mSt:mg "_law_step"=some (.ref fSt)) (kSt:PySem.W.keepIn K (.ref fSt)=true)
  (GN:FnOk P w K mg base CX0 5 fN fdN ["rest"] (spNext cs CR)) (bN:Binds K fdN ["rest"] []) (mN:mg "next_step"=some (.ref fN)) (kN:PySem.W.keepIn K (.ref fN)=true)
  (GSa:FnOk P w K mg base CX0 2 fSa fdSa ["rest","drawn"] (spSameR CR)) (bSa:Binds K fdSa ["rest","drawn"] []) (mSa:mg "_law_same"=some (.ref fSa)) (kSa:PySem.W.keepIn K (.ref fSa)=true)
  (GLe:FnOk P w K mg base CX0 3 fLe fdLe ["drawn"] spLeft) (bLe:Binds K fdLe ["drawn"] []) (mLe:mg "_law_left"=some (.ref fLe)) (kLe:PySem.W.keepIn K (.ref fLe)=true)
  (GMa:FnOk P w K mg base CX0 4 fMa fdMa ["due"] (spMade cs)) (bMa:Binds K fdMa ["due"] []) (mMa:mg "_law_made"=some (.ref fMa)) (kMa:PySem.W.keepIn K (.ref fMa)=true)
  (GRf:FnOk P w K mg base CX0 5 fRf fdRf ["which","rest","y"] (J4r CR)) (bRf:Binds K fdRf ["which","rest","y"] []) (mRf:mg "_law_refused"=some (.ref fRf)) (kRf:PySem.W.keepIn K (.ref fRf)=true)
  (HW:∀ k,HasM P w K mg base CX0 1 "word" ["self"] (J48 k) (cs k)) (HL:∀ k,HasM P w K mg base CX0 2 "losers" ["self","rest"] (J1b cs CR k) (cs k)) (HB:∀ k,HasM P w K mg base CX0 4 "behind" ["self","rest"] (J1d cs CR k) (cs k)) :
  FnOk P w K mg base CX0 6 f fd ["script"] (spLaw K):=by
 refine F.ok scLaw (fun vs H Q E h=>?_) (fun cdv A outer s H vs Q E hr h=>?_)
 ·obtain ⟨a,ns,rfl,_⟩:=h
  rfl
 ·obtain ⟨a,ns,rfl,hS,hlen,k⟩:=h
  have hr1:Room 1 _:=hr.mono (by decide)
  have hr2:Room 2 _:=hr.mono (by decide)
  have hr3:Room 3 _:=hr.mono (by decide)
  have hr4:Room 4 _:=hr.mono (by decide)
  have hu:=hr.units0
  refine ⟨_,J2 (Ji (i:=1) scLaw.nd rfl (Or.inl rfl) (Jb GD hr2 rfl mD kD bD .nil pass0 (J0 (pv 0) (J0 (J2d (J0 Ja (J0 Ja (J0 Ja (J0 (pe_op op_pow Ja Ja) J4))))) J4))))
   (J2 (Ji (i:=2) scLaw.nd rfl (Or.inl rfl) (J14 M GI hr3 rfl mgR bI .nil pass0 (J0 (Jn Jq (by rfl) T.list PyProof.Rows.boot_list (J0 (pe_ix Jh (pv 1) Ja (fun _ _=>rfl)) J4))
    (J0 (Jn Jq (by rfl) T.list PyProof.Rows.boot_list (J0 (pe_ix Jh (pv 1) Ja (fun _ _=>rfl)) J4)) (J0 (Jn Jq (by rfl) T.list PyProof.Rows.boot_list (J0 (pe_ix Jh (pv 1) Ja (fun _ _=>rfl)) J4))
    (J0 (Jn Jq (by rfl) T.list PyProof.Rows.boot_list (J0 (pe_ix Jh (pv 1) Ja (fun _ _=>rfl)) J4)) J4))))))
   (J2 (Ji (i:=3) scLaw.nd rfl (Or.inl rfl) (J3f (sp:=J1d cs CR) (cls:=cs) (Jb GN hr rfl mN kN bN .nil pass0 (J0 (pv 2) J4)) HB hr4 pass0 (J0 (pv 2) J4)))
   (J2 (ps_if (PW.pt (pw_or (J2m (J1o (Jb GSa hr2 rfl mSa kSa bSa .nil pass0 (J0 (pv 3) (J0 (Jb GLe hr3 rfl mLe kLe bLe .nil pass0 (J0 (pv 1) J4)) J4))))) (pw_or1 (J2m (J1o (Jb GSa hr2 rfl mSa kSa bSa .nil pass0 (J0 (pv 2) (J0 (pv 1) J4)))))))) (J8 (Jg pe_bl)) Jm)
   (J2 (Ji (i:=4) scLaw.nd rfl (Or.inl rfl) (Jb GSt hr2 rfl mSt kSt bSt .nil pass0 (J0 (pv 1) J4)))
   (J2 (Ji (i:=5) scLaw.nd rfl (Or.inl rfl) (Jb GMa hr4 rfl mMa kMa bMa .nil pass0 (J0 (pv 4) J4)))
   (J2 (ps_if (PW.pt (pw_or (Jl op_ne (pe_methD0 (sp:=J48) (cls:=cs) (pv 5) HW hr1 pass0) (pe_ix Jh (pv 4) Ja (fun _ _=>rfl)) (Ju _)) (pw_or (Jl op_ne (Je (pv 5) rfl) (pe_ix Jh (pv 4) Ja (fun _ _=>rfl)) (Ju _))
    (pw_or (Jl op_ne (Je (pv 5) rfl) (pe_ix Jh (pv 4) Ja (fun _ _=>rfl)) (Ju _)) (pw_or1 (Jl (op_neT hu) (J3f (sp:=J1b cs CR) (cls:=cs) (pv 5) HL hr2 pass0 (J0 (pv 2) J4)) (Jn J1l (by rfl) T.tuple PyProof.Rows.boot_tuple (J0 (pe_ix Jh (pv 4) Ja (fun _ _=>rfl)) J4)) (Ju _))))))) (J8 (Jg pe_bl)) Jm)
   (J2 (ps_if (J2m (J1o (Jb GSa hr2 rfl mSa kSa bSa .nil pass0 (J0 (J3f (sp:=J1d cs CR) (cls:=cs) (pv 5) HB hr4 pass0 (J0 (pv 2) J4)) (J0 (Jb GLe hr3 rfl mLe kLe bLe .nil pass0 (J0 (pv 1) J4)) J4))))) (J8 (Jg pe_bl)) Jm)
   (J2 (J57 PassesOwn.never rfl (J43 (J2d (J0 (Je (pv 3) rfl) (J0 (pe_op J1m (Je (pv 3) rfl) (pe_op J34 (Jo (J2h rfl) (by rfl) T.sum PyProof.Rows.boot_sum (J0 (pv 0) J4)) (pe_op op_pow Ja Ja))) (J0 (pe_un J47 Ja) J4))))) (J32 (i:=6) scLaw.nd rfl (Or.inl rfl))
    (J8 (ps_if (PW.pt (pw_or (J2m (J1o (Jb GRf hr rfl mRf kRf bRf .nil pass0 (J0 Ja (J0 (pv 3) (J0 (pv 6) J4)))))) (pw_or1 (J2m (J1o (Jb GRf hr rfl mRf kRf bRf .nil pass0 (J0 Ja (J0 (pv 3) (J0 (pv 6) J4))))))))) (J8 (Jg pe_bl)) Jm)))
   (J8 (Jg (Jb GSa hr2 rfl mSa kSa bSa .nil pass0 (J0 (pv 2) (J0 (pv 1) J4))))))))))))),?_⟩
  refine ⟨_,rfl,_,_,rfl,rfl,⟨by decide,by decide,by decide⟩,(by show 4≤sizeLine;decide),fun sp hsp=>?_⟩
  refine ⟨a,sp,ns,[3,9,1000,10 ^ 28],10 ^ 28,rfl,(J7 hsp).seq hS,hlen,J3,by decide,by decide,(by decide),fun p r H1 s1 D fw=>?_⟩
  have s01:=(J7 (o:=.lst (iV [3,9,1000,10 ^ 28])) hsp).trans s1
  have ok:=fw.ok
  have ne:=fw.ne
  have hz:=fw.small
  obtain ⟨pt,pb,pl,pu,h0,e1,e2,e3,e4⟩:=D.ex
  refine ⟨_,rfl,p,_,_,_,rfl,rfl,SqT.of h0,J6 (j:=0) rfl,pt,_,rfl,.inl (SqL.of e1),fun l1 hl1=>?_⟩
  have q1:=J7 (o:=.lst (nV r.top)) hl1
  refine ⟨_,rfl,p,_,_,_,rfl,rfl,SqT.of (q1 _ _ h0),J6 (j:=1) rfl,pb,_,rfl,.inl (SqL.of (q1 _ _ e2)),fun l2 hl2=>?_⟩
  have q12:=J7 (o:=.lst (nV r.bot)) hl2
  have q2:=q1.trans q12
  refine ⟨_,rfl,p,_,_,_,rfl,rfl,SqT.of (q2 _ _ h0),J6 (j:=2) rfl,pl,_,rfl,.inl (SqL.of (q2 _ _ e3)),fun l3 hl3=>?_⟩
  have q23:=J7 (o:=.lst (iV r.ls)) hl3
  have q3:=q2.trans q23
  refine ⟨_,rfl,p,_,_,_,rfl,rfl,SqT.of (q3 _ _ h0),J6 (j:=3) rfl,pu,_,rfl,.inl (SqL.of (q3 _ _ e4)),fun l4 hl4=>?_⟩
  have q34:=J7 (o:=.lst (bV r.ts)) hl4
  have q4:=q3.trans q34
  intro x dx hx hdx hne
  have s0:=(J7 (o:=.own x) hdx).trans (J7 (l:=x) (o:=.ins CR dx []) (by rw [Jk (Ne.symm hne)];exact hx))
  refine ⟨x,dx,l1,l2,l3,l4,r,rfl,J3,.inl (s0 _ _ (q34 _ _ (q23 _ _ (q12 _ _ J3)))),.inl (s0 _ _ (q34 _ _ (q23 _ _ J3))),.inl (s0 _ _ (q34 _ _ J3)),.inl (s0 _ _ J3),ok.row.lt,Nat.le_trans ok.row.len_le ok.few,fun H2 R kp=>⟨rfl,?_⟩⟩
  have s2:Same H1 H2:=fun b u e=>kp b u (s0 _ _ (q4 _ _ e)) (Jc (q4 _ _ e) hx)
  have D2:=D.same s2
  have fit:=next_fit ok ne hz
  refine ⟨_,rfl,x,r,rfl,R,ok,ne,hz,fun y H3 s3 S=>?_⟩
  obtain ⟨dy,hy⟩:=S
  refine ⟨y,kd (nextN r),dy,stF (nextN r),rfl,hy,stF_no _ (by decide +kernel) (by decide +kernel) (by decide +kernel),_,rfl,y,x,nextN r,r,rfl,rfl,⟨dy,hy⟩,R.same s3,fit,fun z H4 s4 Z=>?_⟩
  have s24:=s3.trans s4
  refine ⟨_,rfl,_,rfl,p,r,rfl,D2.same s24,ok,ne,hz,fun q5 H5 s5 D5=>?_⟩
  refine ⟨z,q5,(nextN r).behind r,rfl,Z.same s5,D5,fit.left,fun H6 s6=>⟨true,rfl,iteF ?_⟩⟩
  have s26:=s24.trans (s5.trans s6)
  refine ⟨_,rfl,_,rfl,x,p,r,rfl,R.same s26,D2.same s26,ok,fun H7 s7=>⟨true,rfl,iteF ?_⟩⟩
  have s27:=s26.trans s7
  refine ⟨_,rfl,p,r,rfl,D2.same s27,ok,ne,hz,fun q H8 s8 U=>?_⟩
  refine ⟨_,rfl,q,nextN r,r,rfl,U,fun m H9 s9 Sm=>?_⟩
  have s29:=s27.trans (s8.trans s9)
  obtain ⟨dm,hm⟩:=Sm
  obtain ⟨lu,hq,hlu⟩:=U.same s9
  refine ⟨_,rfl,m,kd (nextN r),dm,stF (nextN r),rfl,hm,stF_no _ (by decide +kernel) (by decide +kernel) (by decide +kernel),m,rfl,_,rfl,q,_,_,_,rfl,rfl,SqT.of hq,J6 (j:=0) rfl,rfl,_,rfl,iteNS rfl ?_⟩
  refine ⟨_,rfl,m,cs (kd (nextN r)),dm,stF (nextN r),_,rfl,hm,TS.cl _,TS.nW _,stF_w _,_,rfl,q,_,_,_,rfl,rfl,SqT.of hq,J6 (j:=1) rfl,rfl,_,rfl,iteNS rfl ?_⟩
  refine ⟨_,rfl,m,cs (kd (nextN r)),dm,stF (nextN r),_,rfl,hm,TS.cl _,TS.nT _,stF_t _,_,rfl,q,_,_,_,rfl,rfl,SqT.of hq,J6 (j:=3) rfl,rfl,_,rfl,iteNS rfl ?_⟩
  refine ⟨_,rfl,m,kd (nextN r),dm,stF (nextN r),rfl,hm,stF_no _ (by decide +kernel) (by decide +kernel) (by decide +kernel),_,rfl,m,x,nextN r,r,rfl,rfl,⟨dm,hm⟩,R.same s29,fit.win,ok.perm.mem_iff.mpr fit.win,fun lp Ha sa hlp=>?_⟩
  refine ⟨_,rfl,q,_,_,_,rfl,rfl,SqT.of (sa _ _ hq),J6 (j:=2) rfl,J1n (.inl (sa _ _ hlu)) fun lt Hb sb hlt=>?_⟩
  refine ⟨lp,lt,_,_,rfl,rfl,SqT.of (sb _ _ hlp),SqT.of hlt,Kin.ints _ _,_,rfl,iteNS rfl ?_⟩
  have sab:=sa.trans sb
  have s2b:=s29.trans sab
  refine ⟨_,rfl,m,kd (nextN r),dm,stF (nextN r),rfl,sab _ _ hm,stF_no _ (by decide +kernel) (by decide +kernel) (by decide +kernel),_,rfl,m,x,nextN r,r,rfl,rfl,⟨dm,sab _ _ hm⟩,R.same s2b,fit,fun z2 Hc sc Z2=>?_⟩
  refine ⟨_,rfl,p,r,rfl,D2.same (s2b.trans sc),ok,ne,hz,fun q6 Hd sd D6=>?_⟩
  refine ⟨z2,q6,(nextN r).behind r,rfl,Z2.same sd,D6,fit.left,fun He se=>⟨true,rfl,iteF ?_⟩⟩
  have s2e:=s2b.trans (sc.trans (sd.trans se))
  have s4e:Same H4 He:=s5.trans (s6.trans (s7.trans (s8.trans (s9.trans (sab.trans (sc.trans (sd.trans se)))))))
  have Ze:=Z.same s4e
  have left:=fit.left
  obtain ⟨dz,fz,zt,zb,zl,zu,w0,⟨w1,w2,w3,w4,w5⟩,_⟩:=Ze.ex
  obtain ⟨far,hfar⟩:∃ far:Int,far=ns.sum % 10 ^ (30:Int).toNat:=⟨_,rfl⟩
  have f0:0≤far:=by rw [hfar];exact Int.emod_nonneg _ (by decide)
  generalize (nextN r).behind r=rl at *
  refine ⟨_,rfl,z,CR,dz,fz,_,rfl,w0,TR.cl,TR.nZ,w5,_,rfl,z,CR,dz,fz,_,rfl,w0,TR.cl,TR.nZ,w5,_,rfl,a,ns,rfl,.inl ((s01.trans (s2.trans s2e)).seq hS),_,_,rfl,rfl,⟨by decide,by decide,by decide⟩,_,_,rfl,rfl,(by show (0:Int) < 10 ^ (30:Int).toNat;decide),_,_,rfl,rfl,_,rfl,(by show 3≤sizeLine;decide),fun b hb=>?_⟩
  refine ⟨b,rfl,⟨_,SqL.of J3⟩,J5e (K:=K) (a:=b) (xs:=iV [rl.size,rl.size + far,-1])
   (fun i σ Hf=>∃ v,σ=[some (.ref a),some (.ref p),some (.ref x),some (.ref z),some (.ref q),some (.ref m),v]∧Hf b=some (.lst (iV [rl.size,rl.size + far,-1]))∧Same He Hf)
   ⟨none,rfl,by rw [hfar];exact J3,J7 hb⟩ (fun i σ Hf _ ⟨_,_,e,_⟩=>SqL.of e) ?_ ?_⟩
  ·rintro i y' σ Hf hy' ⟨v,rfl,hbc,sf⟩
   have hi:i < 3:=by
    have:=(List.getElem?_eq_some_iff.mp hy').1
    exact this
   have hz':∃ c:Int,y'=V.int c∧¬ (0≤c∧c < rl.size):=by
    have h4:i=0∨i=1∨i=2:=by omega
    rcases h4 with rfl | rfl | rfl
    ·exact ⟨rl.size,(Option.some.inj hy').symm,by omega⟩
    ·exact ⟨rl.size + far,(Option.some.inj hy').symm,by omega⟩
    ·exact ⟨-1,(Option.some.inj hy').symm,by omega⟩
   obtain ⟨c,rfl,hn⟩:=hz'
   refine ⟨_,rfl,_,rfl,0,z,rl,c,rfl,Ze.same sf,left,hn,fun Hg sg=>⟨true,rfl,iteF ?_⟩⟩
   refine ⟨_,rfl,_,rfl,1,z,rl,c,rfl,Ze.same (sf.trans sg),left,hn,fun Hh sh=>⟨true,rfl,iteF ?_⟩⟩
   exact ⟨_,rfl,sh _ _ (sg _ _ hbc),sf.trans (sg.trans sh)⟩
  ·rintro σ Hf ⟨_,rfl,_,sf⟩
   exact ⟨_,rfl,_,rfl,x,p,r,rfl,R.same (s2e.trans sf),D2.same (s2e.trans sf),ok,fun Hg _=>k Hg⟩
end
end R13
namespace R13
open PySem L2 Rl
theorem kib (K:PySem.W.Frag):PySem.W.kitOne K (.type "int") (.type "bool")=some false:=by kernel_rfl
def csOf (a b c d e f:Addr):Kd→Addr
 | .ho=>a | .ev=>b | .ov=>c | .un=>d | .os=>e | .us=>f
theorem all_mk {l:PySem.W.OpenLaw} {w:World} {K:PySem.W.Frag} {h:Heap} {mg:Str→Option Value} {fa CO CL CR CSt CHo CEv COv CUn COs CUs:Addr} (X:K.In h) (G:h.Ns mainGlobals mg) (hfa:mg "law"=some (.ref fa))
  {f0:Addr} {od0 an0:Option Addr} {sl0:Array (Option Value)} {oc0 kV0 dc0 pm0 cd0 ct0:Value}
  {f1:Addr} {od1 an1:Option Addr} {sl1:Array (Option Value)} {oc1 kV1 dc1 pm1 cd1 ct1:Value}
  {f2:Addr} {od2 an2:Option Addr} {sl2:Array (Option Value)} {oc2 kV2 dc2 pm2 cd2 ct2:Value}
  {f3:Addr} {od3 an3:Option Addr} {sl3:Array (Option Value)} {oc3 kV3 dc3 pm3 cd3 ct3:Value}
  {f4:Addr} {od4 an4:Option Addr} {sl4:Array (Option Value)} {oc4 kV4 dc4 pm4 cd4 ct4:Value}
  {f5:Addr} {od5 an5:Option Addr} {sl5:Array (Option Value)} {oc5 kV5 dc5 pm5 cd5 ct5:Value}
  {f6:Addr} {od6 an6:Option Addr} {sl6:Array (Option Value)} {oc6 kV6 dc6 pm6 cd6 ct6:Value}
  {f7:Addr} {od7 an7:Option Addr} {sl7:Array (Option Value)} {oc7 kV7 dc7 pm7 cd7 ct7:Value}
  {f8:Addr} {od8 an8:Option Addr} {sl8:Array (Option Value)} {oc8 kV8 dc8 pm8 cd8 ct8:Value}
  {f9:Addr} {od9 an9:Option Addr} {sl9:Array (Option Value)} {oc9 kV9 dc9 pm9 cd9 ct9:Value}
  {f10:Addr} {od10 an10:Option Addr} {sl10:Array (Option Value)} {oc10 kV10 dc10 pm10 cd10 ct10:Value}
  {f11:Addr} {od11 an11:Option Addr} {sl11:Array (Option Value)} {oc11 kV11 dc11 pm11 cd11 ct11:Value}
  {f12:Addr} {od12 an12:Option Addr} {sl12:Array (Option Value)} {oc12 kV12 dc12 pm12 cd12 ct12:Value}
  {f13:Addr} {od13 an13:Option Addr} {sl13:Array (Option Value)} {oc13 kV13 dc13 pm13 cd13 ct13:Value}
  {f14:Addr} {od14 an14:Option Addr} {sl14:Array (Option Value)} {oc14 kV14 dc14 pm14 cd14 ct14:Value}
  {f15:Addr} {od15 an15:Option Addr} {sl15:Array (Option Value)} {oc15 kV15 dc15 pm15 cd15 ct15:Value}
  {f16:Addr} {od16 an16:Option Addr} {sl16:Array (Option Value)} {oc16 kV16 dc16 pm16 cd16 ct16:Value}
  {f17:Addr} {od17 an17:Option Addr} {sl17:Array (Option Value)} {oc17 kV17 dc17 pm17 cd17 ct17:Value}
  {f18:Addr} {od18 an18:Option Addr} {sl18:Array (Option Value)} {oc18 kV18 dc18 pm18 cd18 ct18:Value}
  {f19:Addr} {od19 an19:Option Addr} {sl19:Array (Option Value)} {oc19 kV19 dc19 pm19 cd19 ct19:Value}
  {f20:Addr} {od20 an20:Option Addr} {sl20:Array (Option Value)} {oc20 kV20 dc20 pm20 cd20 ct20:Value}
  {f21:Addr} {od21 an21:Option Addr} {sl21:Array (Option Value)} {oc21 kV21 dc21 pm21 cd21 ct21:Value}
  {f22:Addr} {od22 an22:Option Addr} {sl22:Array (Option Value)} {oc22 kV22 dc22 pm22 cd22 ct22:Value}
  {f23:Addr} {od23 an23:Option Addr} {sl23:Array (Option Value)} {oc23 kV23 dc23 pm23 cd23 ct23:Value}
  {f24:Addr} {od24 an24:Option Addr} {sl24:Array (Option Value)} {oc24 kV24 dc24 pm24 cd24 ct24:Value}
  {f25:Addr} {od25 an25:Option Addr} {sl25:Array (Option Value)} {oc25 kV25 dc25 pm25 cd25 ct25:Value}
  {f26:Addr} {od26 an26:Option Addr} {sl26:Array (Option Value)} {oc26 kV26 dc26 pm26 cd26 ct26:Value}
  {f27:Addr} {od27 an27:Option Addr} {sl27:Array (Option Value)} {oc27 kV27 dc27 pm27 cd27 ct27:Value}
  {f28:Addr} {od28 an28:Option Addr} {sl28:Array (Option Value)} {oc28 kV28 dc28 pm28 cd28 ct28:Value}
  {f29:Addr} {od29 an29:Option Addr} {sl29:Array (Option Value)} {oc29 kV29 dc29 pm29 cd29 ct29:Value}
  {f30:Addr} {od30 an30:Option Addr} {sl30:Array (Option Value)} {oc30 kV30 dc30 pm30 cd30 ct30:Value}
  {f_RI:Addr} {od_RI an_RI:Option Addr} {sl_RI:Array (Option Value)} {oc_RI kV_RI dc_RI pm_RI cd_RI ct_RI:Value}
  {f_StI:Addr} {od_StI an_StI:Option Addr} {sl_StI:Array (Option Value)} {oc_StI kV_StI dc_StI pm_StI cd_StI ct_StI:Value}
  {f_StL:Addr} {od_StL an_StL:Option Addr} {sl_StL:Array (Option Value)} {oc_StL kV_StL dc_StL pm_StL cd_StL ct_StL:Value}
  {f_HoI:Addr} {od_HoI an_HoI:Option Addr} {sl_HoI:Array (Option Value)} {oc_HoI kV_HoI dc_HoI pm_HoI cd_HoI ct_HoI:Value}
  {f_HoW:Addr} {od_HoW an_HoW:Option Addr} {sl_HoW:Array (Option Value)} {oc_HoW kV_HoW dc_HoW pm_HoW cd_HoW ct_HoW:Value}
  {f_HoL:Addr} {od_HoL an_HoL:Option Addr} {sl_HoL:Array (Option Value)} {oc_HoL kV_HoL dc_HoL pm_HoL cd_HoL ct_HoL:Value}
  {f_HoB:Addr} {od_HoB an_HoB:Option Addr} {sl_HoB:Array (Option Value)} {oc_HoB kV_HoB dc_HoB pm_HoB cd_HoB ct_HoB:Value}
  {f_EvI:Addr} {od_EvI an_EvI:Option Addr} {sl_EvI:Array (Option Value)} {oc_EvI kV_EvI dc_EvI pm_EvI cd_EvI ct_EvI:Value}
  {f_EvW:Addr} {od_EvW an_EvW:Option Addr} {sl_EvW:Array (Option Value)} {oc_EvW kV_EvW dc_EvW pm_EvW cd_EvW ct_EvW:Value}
  {f_EvB:Addr} {od_EvB an_EvB:Option Addr} {sl_EvB:Array (Option Value)} {oc_EvB kV_EvB dc_EvB pm_EvB cd_EvB ct_EvB:Value}
  {f_OvI:Addr} {od_OvI an_OvI:Option Addr} {sl_OvI:Array (Option Value)} {oc_OvI kV_OvI dc_OvI pm_OvI cd_OvI ct_OvI:Value}
  {f_OvW:Addr} {od_OvW an_OvW:Option Addr} {sl_OvW:Array (Option Value)} {oc_OvW kV_OvW dc_OvW pm_OvW cd_OvW ct_OvW:Value}
  {f_OvB:Addr} {od_OvB an_OvB:Option Addr} {sl_OvB:Array (Option Value)} {oc_OvB kV_OvB dc_OvB pm_OvB cd_OvB ct_OvB:Value}
  {f_UnI:Addr} {od_UnI an_UnI:Option Addr} {sl_UnI:Array (Option Value)} {oc_UnI kV_UnI dc_UnI pm_UnI cd_UnI ct_UnI:Value}
  {f_UnW:Addr} {od_UnW an_UnW:Option Addr} {sl_UnW:Array (Option Value)} {oc_UnW kV_UnW dc_UnW pm_UnW cd_UnW ct_UnW:Value}
  {f_UnB:Addr} {od_UnB an_UnB:Option Addr} {sl_UnB:Array (Option Value)} {oc_UnB kV_UnB dc_UnB pm_UnB cd_UnB ct_UnB:Value}
  {f_OsI:Addr} {od_OsI an_OsI:Option Addr} {sl_OsI:Array (Option Value)} {oc_OsI kV_OsI dc_OsI pm_OsI cd_OsI ct_OsI:Value}
  {f_OsW:Addr} {od_OsW an_OsW:Option Addr} {sl_OsW:Array (Option Value)} {oc_OsW kV_OsW dc_OsW pm_OsW cd_OsW ct_OsW:Value}
  {f_OsL:Addr} {od_OsL an_OsL:Option Addr} {sl_OsL:Array (Option Value)} {oc_OsL kV_OsL dc_OsL pm_OsL cd_OsL ct_OsL:Value}
  {f_OsB:Addr} {od_OsB an_OsB:Option Addr} {sl_OsB:Array (Option Value)} {oc_OsB kV_OsB dc_OsB pm_OsB cd_OsB ct_OsB:Value}
  {f_UsI:Addr} {od_UsI an_UsI:Option Addr} {sl_UsI:Array (Option Value)} {oc_UsI kV_UsI dc_UsI pm_UsI cd_UsI ct_UsI:Value}
  {f_UsW:Addr} {od_UsW an_UsW:Option Addr} {sl_UsW:Array (Option Value)} {oc_UsW kV_UsW dc_UsW pm_UsW cd_UsW ct_UsW:Value}
  {f_UsL:Addr} {od_UsL an_UsL:Option Addr} {sl_UsL:Array (Option Value)} {oc_UsL kV_UsL dc_UsL pm_UsL cd_UsL ct_UsL:Value}
  {f_UsB:Addr} {od_UsB an_UsB:Option Addr} {sl_UsB:Array (Option Value)} {oc_UsB kV_UsB dc_UsB pm_UsB cd_UsB ct_UsB:Value}
  (a_R:PySem.W.nsIn K mainGlobals "Rest"=some (some (.ref CR)))
  (a_St:PySem.W.nsIn K mainGlobals "Step"=some (some (.ref CSt)))
  (a_Ho:PySem.W.nsIn K mainGlobals "Home"=some (some (.ref CHo)))
  (a_Ev:PySem.W.nsIn K mainGlobals "Even"=some (some (.ref CEv)))
  (a_Ov:PySem.W.nsIn K mainGlobals "Over"=some (some (.ref COv)))
  (a_Un:PySem.W.nsIn K mainGlobals "Under"=some (some (.ref CUn)))
  (a_Os:PySem.W.nsIn K mainGlobals "Overs"=some (some (.ref COs)))
  (a_Us:PySem.W.nsIn K mainGlobals "Unders"=some (some (.ref CUs)))
  (a0:PySem.W.nsIn K mainGlobals "moved"=some (some (.ref f0))) (l0:K.lookup f0=some ⟨oc0,od0,.func (PySem.W.fnOf "moved" "moved" (Jf sMoved) (Jd sMoved) (J1 sMoved) .none kV0 dc0 pm0 an0 cd0 ct0),sl0⟩) (c0:PySem.W.codeIn K cd0 "moved"=true) (k0:PySem.W.keepIn K (.ref f0)=true)
  (a1:PySem.W.nsIn K mainGlobals "first_places"=some (some (.ref f1))) (l1:K.lookup f1=some ⟨oc1,od1,.func (PySem.W.fnOf "first_places" "first_places" (Jf sFirst) (Jd sFirst) (J1 sFirst) .none kV1 dc1 pm1 an1 cd1 ct1),sl1⟩) (c1:PySem.W.codeIn K cd1 "first_places"=true) (k1:PySem.W.keepIn K (.ref f1)=true)
  (a2:PySem.W.nsIn K mainGlobals "length_of"=some (some (.ref f2))) (l2:K.lookup f2=some ⟨oc2,od2,.func (PySem.W.fnOf "length_of" "length_of" (Jf sLenOf) (Jd sLenOf) (J1 sLenOf) .none kV2 dc2 pm2 an2 cd2 ct2),sl2⟩) (c2:PySem.W.codeIn K cd2 "length_of"=true) (k2:PySem.W.keepIn K (.ref f2)=true)
  (a3:PySem.W.nsIn K mainGlobals "letter_in"=some (some (.ref f3))) (l3:K.lookup f3=some ⟨oc3,od3,.func (PySem.W.fnOf "letter_in" "letter_in" (Jf sLetIn) (Jd sLetIn) (J1 sLetIn) .none kV3 dc3 pm3 an3 cd3 ct3),sl3⟩) (c3:PySem.W.codeIn K cd3 "letter_in"=true) (k3:PySem.W.keepIn K (.ref f3)=true)
  (a4:PySem.W.nsIn K mainGlobals "gone_between"=some (some (.ref f4))) (l4:K.lookup f4=some ⟨oc4,od4,.func (PySem.W.fnOf "gone_between" "gone_between" (Jf sGone) (Jd sGone) (J1 sGone) .none kV4 dc4 pm4 an4 cd4 ct4),sl4⟩) (c4:PySem.W.codeIn K cd4 "gone_between"=true) (k4:PySem.W.keepIn K (.ref f4)=true)
  (a5:PySem.W.nsIn K mainGlobals "letter_at"=some (some (.ref f5))) (l5:K.lookup f5=some ⟨oc5,od5,.func (PySem.W.fnOf "letter_at" "letter_at" (Jf J3w) (Jd J3w) (J1 J3w) .none kV5 dc5 pm5 an5 cd5 ct5),sl5⟩) (c5:PySem.W.codeIn K cd5 "letter_at"=true) (k5:PySem.W.keepIn K (.ref f5)=true)
  (a6:PySem.W.nsIn K mainGlobals "rest_goes"=some (some (.ref f6))) (l6:K.lookup f6=some ⟨oc6,od6,.func (PySem.W.fnOf "rest_goes" "rest_goes" (Jf sRGoes) (Jd sRGoes) (J1 sRGoes) .none kV6 dc6 pm6 an6 cd6 ct6),sl6⟩) (c6:PySem.W.codeIn K cd6 "rest_goes"=true) (k6:PySem.W.keepIn K (.ref f6)=true)
  (a7:PySem.W.nsIn K mainGlobals "without"=some (some (.ref f7))) (l7:K.lookup f7=some ⟨oc7,od7,.func (PySem.W.fnOf "without" "without" (Jf J2t) (Jd J2t) (J1 J2t) .none kV7 dc7 pm7 an7 cd7 ct7),sl7⟩) (c7:PySem.W.codeIn K cd7 "without"=true) (k7:PySem.W.keepIn K (.ref f7)=true)
  (a8:PySem.W.nsIn K mainGlobals "letters_behind"=some (some (.ref f8))) (l8:K.lookup f8=some ⟨oc8,od8,.func (PySem.W.fnOf "letters_behind" "letters_behind" (Jf J2w) (Jd J2w) (J1 J2w) .none kV8 dc8 pm8 an8 cd8 ct8),sl8⟩) (c8:PySem.W.codeIn K cd8 "letters_behind"=true) (k8:PySem.W.keepIn K (.ref f8)=true)
  (a9:PySem.W.nsIn K mainGlobals "put_beside"=some (some (.ref f9))) (l9:K.lookup f9=some ⟨oc9,od9,.func (PySem.W.fnOf "put_beside" "put_beside" (Jf sPut) (Jd sPut) (J1 sPut) .none kV9 dc9 pm9 an9 cd9 ct9),sl9⟩) (c9:PySem.W.codeIn K cd9 "put_beside"=true) (k9:PySem.W.keepIn K (.ref f9)=true)
  (a10:PySem.W.nsIn K mainGlobals "changed"=some (some (.ref f10))) (l10:K.lookup f10=some ⟨oc10,od10,.func (PySem.W.fnOf "changed" "changed" (Jf J2v) (Jd J2v) (J1 J2v) .none kV10 dc10 pm10 an10 cd10 ct10),sl10⟩) (c10:PySem.W.codeIn K cd10 "changed"=true) (k10:PySem.W.keepIn K (.ref f10)=true)
  (a11:PySem.W.nsIn K mainGlobals "shortened"=some (some (.ref f11))) (l11:K.lookup f11=some ⟨oc11,od11,.func (PySem.W.fnOf "shortened" "shortened" (Jf sShort) (Jd sShort) (J1 sShort) .none kV11 dc11 pm11 an11 cd11 ct11),sl11⟩) (c11:PySem.W.codeIn K cd11 "shortened"=true) (k11:PySem.W.keepIn K (.ref f11)=true)
  (a12:PySem.W.nsIn K mainGlobals "turns_behind"=some (some (.ref f12))) (l12:K.lookup f12=some ⟨oc12,od12,.func (PySem.W.fnOf "turns_behind" "turns_behind" (Jf J3q) (Jd J3q) (J1 J3q) .none kV12 dc12 pm12 an12 cd12 ct12),sl12⟩) (c12:PySem.W.codeIn K cd12 "turns_behind"=true) (k12:PySem.W.keepIn K (.ref f12)=true)
  (a13:PySem.W.nsIn K mainGlobals "whole_times"=some (some (.ref f13))) (l13:K.lookup f13=some ⟨oc13,od13,.func (PySem.W.fnOf "whole_times" "whole_times" (Jf sTimes) (Jd sTimes) (J1 sTimes) .none kV13 dc13 pm13 an13 cd13 ct13),sl13⟩) (c13:PySem.W.codeIn K cd13 "whole_times"=true) (k13:PySem.W.keepIn K (.ref f13)=true)
  (a14:PySem.W.nsIn K mainGlobals "over_step"=some (some (.ref f14))) (l14:K.lookup f14=some ⟨oc14,od14,.func (PySem.W.fnOf "over_step" "over_step" (Jf sOverS) (Jd sOverS) (J1 sOverS) .none kV14 dc14 pm14 an14 cd14 ct14),sl14⟩) (c14:PySem.W.codeIn K cd14 "over_step"=true) (k14:PySem.W.keepIn K (.ref f14)=true)
  (a15:PySem.W.nsIn K mainGlobals "under_step"=some (some (.ref f15))) (l15:K.lookup f15=some ⟨oc15,od15,.func (PySem.W.fnOf "under_step" "under_step" (Jf J3n) (Jd J3n) (J1 J3n) .none kV15 dc15 pm15 an15 cd15 ct15),sl15⟩) (c15:PySem.W.codeIn K cd15 "under_step"=true) (k15:PySem.W.keepIn K (.ref f15)=true)
  (a16:PySem.W.nsIn K mainGlobals "next_step"=some (some (.ref f16))) (l16:K.lookup f16=some ⟨oc16,od16,.func (PySem.W.fnOf "next_step" "next_step" (Jf sNext) (Jd sNext) (J1 sNext) .none kV16 dc16 pm16 an16 cd16 ct16),sl16⟩) (c16:PySem.W.codeIn K cd16 "next_step"=true) (k16:PySem.W.keepIn K (.ref f16)=true)
  (a17:PySem.W.nsIn K mainGlobals "_law_cell"=some (some (.ref f17))) (l17:K.lookup f17=some ⟨oc17,od17,.func (PySem.W.fnOf "_law_cell" "_law_cell" (Jf sCell) (Jd sCell) (J1 sCell) .none kV17 dc17 pm17 an17 cd17 ct17),sl17⟩) (c17:PySem.W.codeIn K cd17 "_law_cell"=true) (k17:PySem.W.keepIn K (.ref f17)=true)
  (a18:PySem.W.nsIn K mainGlobals "_law_whole"=some (some (.ref f18))) (l18:K.lookup f18=some ⟨oc18,od18,.func (PySem.W.fnOf "_law_whole" "_law_whole" (Jf sWhole) (Jd sWhole) (J1 sWhole) .none kV18 dc18 pm18 an18 cd18 ct18),sl18⟩) (c18:PySem.W.codeIn K cd18 "_law_whole"=true) (k18:PySem.W.keepIn K (.ref f18)=true)
  (a19:PySem.W.nsIn K mainGlobals "_law_shuffled"=some (some (.ref f19))) (l19:K.lookup f19=some ⟨oc19,od19,.func (PySem.W.fnOf "_law_shuffled" "_law_shuffled" (Jf sShuf) (Jd sShuf) (J1 sShuf) .none kV19 dc19 pm19 an19 cd19 ct19),sl19⟩) (c19:PySem.W.codeIn K cd19 "_law_shuffled"=true) (k19:PySem.W.keepIn K (.ref f19)=true)
  (a20:PySem.W.nsIn K mainGlobals "_law_rest"=some (some (.ref f20))) (l20:K.lookup f20=some ⟨oc20,od20,.func (PySem.W.fnOf "_law_rest" "_law_rest" (Jf J41) (Jd J41) (J1 J41) .none kV20 dc20 pm20 an20 cd20 ct20),sl20⟩) (c20:PySem.W.codeIn K cd20 "_law_rest"=true) (k20:PySem.W.keepIn K (.ref f20)=true)
  (a21:PySem.W.nsIn K mainGlobals "_law_sum"=some (some (.ref f21))) (l21:K.lookup f21=some ⟨oc21,od21,.func (PySem.W.fnOf "_law_sum" "_law_sum" (Jf sSum) (Jd sSum) (J1 sSum) .none kV21 dc21 pm21 an21 cd21 ct21),sl21⟩) (c21:PySem.W.codeIn K cd21 "_law_sum"=true) (k21:PySem.W.keepIn K (.ref f21)=true)
  (a22:PySem.W.nsIn K mainGlobals "_law_step"=some (some (.ref f22))) (l22:K.lookup f22=some ⟨oc22,od22,.func (PySem.W.fnOf "_law_step" "_law_step" (Jf sStepN) (Jd sStepN) (J1 sStepN) .none kV22 dc22 pm22 an22 cd22 ct22),sl22⟩) (c22:PySem.W.codeIn K cd22 "_law_step"=true) (k22:PySem.W.keepIn K (.ref f22)=true)
  (a23:PySem.W.nsIn K mainGlobals "_law_with"=some (some (.ref f23))) (l23:K.lookup f23=some ⟨oc23,od23,.func (PySem.W.fnOf "_law_with" "_law_with" (Jf sWith) (Jd sWith) (J1 sWith) .none kV23 dc23 pm23 an23 cd23 ct23),sl23⟩) (c23:PySem.W.codeIn K cd23 "_law_with"=true) (k23:PySem.W.keepIn K (.ref f23)=true)
  (a24:PySem.W.nsIn K mainGlobals "_law_put"=some (some (.ref f24))) (l24:K.lookup f24=some ⟨oc24,od24,.func (PySem.W.fnOf "_law_put" "_law_put" (Jf sPutL) (Jd sPutL) (J1 sPutL) .none kV24 dc24 pm24 an24 cd24 ct24),sl24⟩) (c24:PySem.W.codeIn K cd24 "_law_put"=true) (k24:PySem.W.keepIn K (.ref f24)=true)
  (a25:PySem.W.nsIn K mainGlobals "_law_left"=some (some (.ref f25))) (l25:K.lookup f25=some ⟨oc25,od25,.func (PySem.W.fnOf "_law_left" "_law_left" (Jf sLeft) (Jd sLeft) (J1 sLeft) .none kV25 dc25 pm25 an25 cd25 ct25),sl25⟩) (c25:PySem.W.codeIn K cd25 "_law_left"=true) (k25:PySem.W.keepIn K (.ref f25)=true)
  (a26:PySem.W.nsIn K mainGlobals "_law_same"=some (some (.ref f26))) (l26:K.lookup f26=some ⟨oc26,od26,.func (PySem.W.fnOf "_law_same" "_law_same" (Jf sSameR) (Jd sSameR) (J1 sSameR) .none kV26 dc26 pm26 an26 cd26 ct26),sl26⟩) (c26:PySem.W.codeIn K cd26 "_law_same"=true) (k26:PySem.W.keepIn K (.ref f26)=true)
  (a27:PySem.W.nsIn K mainGlobals "_law_made"=some (some (.ref f27))) (l27:K.lookup f27=some ⟨oc27,od27,.func (PySem.W.fnOf "_law_made" "_law_made" (Jf sMade) (Jd sMade) (J1 sMade) .none kV27 dc27 pm27 an27 cd27 ct27),sl27⟩) (c27:PySem.W.codeIn K cd27 "_law_made"=true) (k27:PySem.W.keepIn K (.ref f27)=true)
  (a28:PySem.W.nsIn K mainGlobals "_law_ask"=some (some (.ref f28))) (l28:K.lookup f28=some ⟨oc28,od28,.func (PySem.W.fnOf "_law_ask" "_law_ask" (Jf sAsk) (Jd sAsk) (J1 sAsk) .none kV28 dc28 pm28 an28 cd28 ct28),sl28⟩) (c28:PySem.W.codeIn K cd28 "_law_ask"=true) (k28:PySem.W.keepIn K (.ref f28)=true)
  (a29:PySem.W.nsIn K mainGlobals "_law_refused"=some (some (.ref f29))) (l29:K.lookup f29=some ⟨oc29,od29,.func (PySem.W.fnOf "_law_refused" "_law_refused" (Jf J2u) (Jd J2u) (J1 J2u) .none kV29 dc29 pm29 an29 cd29 ct29),sl29⟩) (c29:PySem.W.codeIn K cd29 "_law_refused"=true) (k29:PySem.W.keepIn K (.ref f29)=true)
  (a30:PySem.W.nsIn K mainGlobals "law"=some (some (.ref f30))) (l30:K.lookup f30=some ⟨oc30,od30,.func (PySem.W.fnOf "law" "law" (Jf sLaw) (Jd sLaw) (J1 sLaw) .none kV30 dc30 pm30 an30 cd30 ct30),sl30⟩) (c30:PySem.W.codeIn K cd30 "law"=true) (k30:PySem.W.keepIn K (.ref f30)=true)
  (am_RI:PySem.W.findIn K (.ref CR) "__init__"=some (some (.ref f_RI))) (im_RI:PySem.W.isFn K (.ref f_RI)=true) (lm_RI:K.lookup f_RI=some ⟨oc_RI,od_RI,.func (PySem.W.fnOf "__init__" "Rest.__init__" (Jf sRInit) (Jd sRInit) (J1 sRInit) .none kV_RI dc_RI pm_RI an_RI cd_RI ct_RI),sl_RI⟩) (cm_RI:PySem.W.codeIn K cd_RI "Rest.__init__"=true) (km_RI:PySem.W.keepIn K (.ref f_RI)=true)
  (pg_R:PySem.W.plainGet K CR Str.empty=true) (hd_R:PySem.W.hasDictIn K CR=true) (po_R:PySem.W.plainOver K CR=true) (sa_R:PySem.W.findIn K (.ref CR) "__setattr__"=some (some (.builtin "object.__setattr__")))
  (mk_R:PySem.W.makesIn K CR=true) (kc_R:PySem.W.keepIn K (.ref CR)=true)
  (n_R_top:PySem.W.findIn K (.ref CR) "top"=some none)
  (n_R_bottom:PySem.W.findIn K (.ref CR) "bottom"=some none)
  (n_R_lengths:PySem.W.findIn K (.ref CR) "lengths"=some none)
  (n_R_turned:PySem.W.findIn K (.ref CR) "turned"=some none)
  (n_R_size:PySem.W.findIn K (.ref CR) "size"=some none)
  (ic_R:PySem.W.findIn K (.ref CR) "__class__"=some (some (.builtin "object.__class__"))) (mo_R:PySem.W.mroIn K CR (.type "object")=some true)
  (am_StI:PySem.W.findIn K (.ref CSt) "__init__"=some (some (.ref f_StI))) (im_StI:PySem.W.isFn K (.ref f_StI)=true) (lm_StI:K.lookup f_StI=some ⟨oc_StI,od_StI,.func (PySem.W.fnOf "__init__" "Step.__init__" (Jf J3r) (Jd J3r) (J1 J3r) .none kV_StI dc_StI pm_StI an_StI cd_StI ct_StI),sl_StI⟩) (cm_StI:PySem.W.codeIn K cd_StI "Step.__init__"=true) (km_StI:PySem.W.keepIn K (.ref f_StI)=true)
  (am_StL:PySem.W.findIn K (.ref CSt) "losers"=some (some (.ref f_StL))) (im_StL:PySem.W.isFn K (.ref f_StL)=true) (lm_StL:K.lookup f_StL=some ⟨oc_StL,od_StL,.func (PySem.W.fnOf "losers" "Step.losers" (Jf J1v) (Jd J1v) (J1 J1v) .none kV_StL dc_StL pm_StL an_StL cd_StL ct_StL),sl_StL⟩) (cm_StL:PySem.W.codeIn K cd_StL "Step.losers"=true) (km_StL:PySem.W.keepIn K (.ref f_StL)=true)
  (pg_St:PySem.W.plainGet K CSt Str.empty=true) (hd_St:PySem.W.hasDictIn K CSt=true) (po_St:PySem.W.plainOver K CSt=true) (sa_St:PySem.W.findIn K (.ref CSt) "__setattr__"=some (some (.builtin "object.__setattr__")))
  (am_HoI:PySem.W.findIn K (.ref CHo) "__init__"=some (some (.ref f_HoI))) (im_HoI:PySem.W.isFn K (.ref f_HoI)=true) (lm_HoI:K.lookup f_HoI=some ⟨oc_HoI,od_HoI,.func (PySem.W.fnOf "__init__" "Home.__init__" (Jf J3y) (Jd J3y) (J1 J3y) .none kV_HoI dc_HoI pm_HoI an_HoI cd_HoI ct_HoI),sl_HoI⟩) (cm_HoI:PySem.W.codeIn K cd_HoI "Home.__init__"=true) (km_HoI:PySem.W.keepIn K (.ref f_HoI)=true)
  (am_HoW:PySem.W.findIn K (.ref CHo) "word"=some (some (.ref f_HoW))) (im_HoW:PySem.W.isFn K (.ref f_HoW)=true) (lm_HoW:K.lookup f_HoW=some ⟨oc_HoW,od_HoW,.func (PySem.W.fnOf "word" "Home.word" (Jf J3x) (Jd J3x) (J1 J3x) .none kV_HoW dc_HoW pm_HoW an_HoW cd_HoW ct_HoW),sl_HoW⟩) (cm_HoW:PySem.W.codeIn K cd_HoW "Home.word"=true) (km_HoW:PySem.W.keepIn K (.ref f_HoW)=true)
  (am_HoL:PySem.W.findIn K (.ref CHo) "losers"=some (some (.ref f_HoL))) (im_HoL:PySem.W.isFn K (.ref f_HoL)=true) (lm_HoL:K.lookup f_HoL=some ⟨oc_HoL,od_HoL,.func (PySem.W.fnOf "losers" "Home.losers" (Jf J1z) (Jd J1z) (J1 J1z) .none kV_HoL dc_HoL pm_HoL an_HoL cd_HoL ct_HoL),sl_HoL⟩) (cm_HoL:PySem.W.codeIn K cd_HoL "Home.losers"=true) (km_HoL:PySem.W.keepIn K (.ref f_HoL)=true)
  (am_HoB:PySem.W.findIn K (.ref CHo) "behind"=some (some (.ref f_HoB))) (im_HoB:PySem.W.isFn K (.ref f_HoB)=true) (lm_HoB:K.lookup f_HoB=some ⟨oc_HoB,od_HoB,.func (PySem.W.fnOf "behind" "Home.behind" (Jf J20) (Jd J20) (J1 J20) .none kV_HoB dc_HoB pm_HoB an_HoB cd_HoB ct_HoB),sl_HoB⟩) (cm_HoB:PySem.W.codeIn K cd_HoB "Home.behind"=true) (km_HoB:PySem.W.keepIn K (.ref f_HoB)=true)
  (pg_Ho:PySem.W.plainGet K CHo Str.empty=true) (hd_Ho:PySem.W.hasDictIn K CHo=true) (po_Ho:PySem.W.plainOver K CHo=true) (sa_Ho:PySem.W.findIn K (.ref CHo) "__setattr__"=some (some (.builtin "object.__setattr__")))
  (mk_Ho:PySem.W.makesIn K CHo=true) (kc_Ho:PySem.W.keepIn K (.ref CHo)=true)
  (n_Ho_winner:PySem.W.findIn K (.ref CHo) "winner"=some none)
  (n_Ho_loser:PySem.W.findIn K (.ref CHo) "loser"=some none)
  (n_Ho_times:PySem.W.findIn K (.ref CHo) "times"=some none)
  (ic_Ho:PySem.W.findIn K (.ref CHo) "__class__"=some (some (.builtin "object.__class__"))) (mo_Ho:PySem.W.mroIn K CHo (.type "object")=some true)
  (am_EvI:PySem.W.findIn K (.ref CEv) "__init__"=some (some (.ref f_EvI))) (im_EvI:PySem.W.isFn K (.ref f_EvI)=true) (lm_EvI:K.lookup f_EvI=some ⟨oc_EvI,od_EvI,.func (PySem.W.fnOf "__init__" "Even.__init__" (Jf J40) (Jd J40) (J1 J40) .none kV_EvI dc_EvI pm_EvI an_EvI cd_EvI ct_EvI),sl_EvI⟩) (cm_EvI:PySem.W.codeIn K cd_EvI "Even.__init__"=true) (km_EvI:PySem.W.keepIn K (.ref f_EvI)=true)
  (am_EvW:PySem.W.findIn K (.ref CEv) "word"=some (some (.ref f_EvW))) (im_EvW:PySem.W.isFn K (.ref f_EvW)=true) (lm_EvW:K.lookup f_EvW=some ⟨oc_EvW,od_EvW,.func (PySem.W.fnOf "word" "Even.word" (Jf J3z) (Jd J3z) (J1 J3z) .none kV_EvW dc_EvW pm_EvW an_EvW cd_EvW ct_EvW),sl_EvW⟩) (cm_EvW:PySem.W.codeIn K cd_EvW "Even.word"=true) (km_EvW:PySem.W.keepIn K (.ref f_EvW)=true)
  (am_EvB:PySem.W.findIn K (.ref CEv) "behind"=some (some (.ref f_EvB))) (im_EvB:PySem.W.isFn K (.ref f_EvB)=true) (lm_EvB:K.lookup f_EvB=some ⟨oc_EvB,od_EvB,.func (PySem.W.fnOf "behind" "Even.behind" (Jf J21) (Jd J21) (J1 J21) .none kV_EvB dc_EvB pm_EvB an_EvB cd_EvB ct_EvB),sl_EvB⟩) (cm_EvB:PySem.W.codeIn K cd_EvB "Even.behind"=true) (km_EvB:PySem.W.keepIn K (.ref f_EvB)=true)
  (ih_Ev_losers:PySem.W.findIn K (.ref CEv) "losers"=some (some (.ref f_StL)))
  (pg_Ev:PySem.W.plainGet K CEv Str.empty=true) (hd_Ev:PySem.W.hasDictIn K CEv=true) (po_Ev:PySem.W.plainOver K CEv=true) (sa_Ev:PySem.W.findIn K (.ref CEv) "__setattr__"=some (some (.builtin "object.__setattr__")))
  (mk_Ev:PySem.W.makesIn K CEv=true) (kc_Ev:PySem.W.keepIn K (.ref CEv)=true)
  (n_Ev_winner:PySem.W.findIn K (.ref CEv) "winner"=some none)
  (n_Ev_loser:PySem.W.findIn K (.ref CEv) "loser"=some none)
  (n_Ev_times:PySem.W.findIn K (.ref CEv) "times"=some none)
  (ic_Ev:PySem.W.findIn K (.ref CEv) "__class__"=some (some (.builtin "object.__class__"))) (mo_Ev:PySem.W.mroIn K CEv (.type "object")=some true)
  (am_OvI:PySem.W.findIn K (.ref COv) "__init__"=some (some (.ref f_OvI))) (im_OvI:PySem.W.isFn K (.ref f_OvI)=true) (lm_OvI:K.lookup f_OvI=some ⟨oc_OvI,od_OvI,.func (PySem.W.fnOf "__init__" "Over.__init__" (Jf J3t) (Jd J3t) (J1 J3t) .none kV_OvI dc_OvI pm_OvI an_OvI cd_OvI ct_OvI),sl_OvI⟩) (cm_OvI:PySem.W.codeIn K cd_OvI "Over.__init__"=true) (km_OvI:PySem.W.keepIn K (.ref f_OvI)=true)
  (am_OvW:PySem.W.findIn K (.ref COv) "word"=some (some (.ref f_OvW))) (im_OvW:PySem.W.isFn K (.ref f_OvW)=true) (lm_OvW:K.lookup f_OvW=some ⟨oc_OvW,od_OvW,.func (PySem.W.fnOf "word" "Over.word" (Jf J3s) (Jd J3s) (J1 J3s) .none kV_OvW dc_OvW pm_OvW an_OvW cd_OvW ct_OvW),sl_OvW⟩) (cm_OvW:PySem.W.codeIn K cd_OvW "Over.word"=true) (km_OvW:PySem.W.keepIn K (.ref f_OvW)=true)
  (am_OvB:PySem.W.findIn K (.ref COv) "behind"=some (some (.ref f_OvB))) (im_OvB:PySem.W.isFn K (.ref f_OvB)=true) (lm_OvB:K.lookup f_OvB=some ⟨oc_OvB,od_OvB,.func (PySem.W.fnOf "behind" "Over.behind" (Jf J1w) (Jd J1w) (J1 J1w) .none kV_OvB dc_OvB pm_OvB an_OvB cd_OvB ct_OvB),sl_OvB⟩) (cm_OvB:PySem.W.codeIn K cd_OvB "Over.behind"=true) (km_OvB:PySem.W.keepIn K (.ref f_OvB)=true)
  (ih_Ov_losers:PySem.W.findIn K (.ref COv) "losers"=some (some (.ref f_StL)))
  (pg_Ov:PySem.W.plainGet K COv Str.empty=true) (hd_Ov:PySem.W.hasDictIn K COv=true) (po_Ov:PySem.W.plainOver K COv=true) (sa_Ov:PySem.W.findIn K (.ref COv) "__setattr__"=some (some (.builtin "object.__setattr__")))
  (mk_Ov:PySem.W.makesIn K COv=true) (kc_Ov:PySem.W.keepIn K (.ref COv)=true)
  (n_Ov_winner:PySem.W.findIn K (.ref COv) "winner"=some none)
  (n_Ov_loser:PySem.W.findIn K (.ref COv) "loser"=some none)
  (n_Ov_times:PySem.W.findIn K (.ref COv) "times"=some none)
  (ic_Ov:PySem.W.findIn K (.ref COv) "__class__"=some (some (.builtin "object.__class__"))) (mo_Ov:PySem.W.mroIn K COv (.type "object")=some true)
  (am_UnI:PySem.W.findIn K (.ref CUn) "__init__"=some (some (.ref f_UnI))) (im_UnI:PySem.W.isFn K (.ref f_UnI)=true) (lm_UnI:K.lookup f_UnI=some ⟨oc_UnI,od_UnI,.func (PySem.W.fnOf "__init__" "Under.__init__" (Jf J3p) (Jd J3p) (J1 J3p) .none kV_UnI dc_UnI pm_UnI an_UnI cd_UnI ct_UnI),sl_UnI⟩) (cm_UnI:PySem.W.codeIn K cd_UnI "Under.__init__"=true) (km_UnI:PySem.W.keepIn K (.ref f_UnI)=true)
  (am_UnW:PySem.W.findIn K (.ref CUn) "word"=some (some (.ref f_UnW))) (im_UnW:PySem.W.isFn K (.ref f_UnW)=true) (lm_UnW:K.lookup f_UnW=some ⟨oc_UnW,od_UnW,.func (PySem.W.fnOf "word" "Under.word" (Jf J3o) (Jd J3o) (J1 J3o) .none kV_UnW dc_UnW pm_UnW an_UnW cd_UnW ct_UnW),sl_UnW⟩) (cm_UnW:PySem.W.codeIn K cd_UnW "Under.word"=true) (km_UnW:PySem.W.keepIn K (.ref f_UnW)=true)
  (am_UnB:PySem.W.findIn K (.ref CUn) "behind"=some (some (.ref f_UnB))) (im_UnB:PySem.W.isFn K (.ref f_UnB)=true) (lm_UnB:K.lookup f_UnB=some ⟨oc_UnB,od_UnB,.func (PySem.W.fnOf "behind" "Under.behind" (Jf J1u) (Jd J1u) (J1 J1u) .none kV_UnB dc_UnB pm_UnB an_UnB cd_UnB ct_UnB),sl_UnB⟩) (cm_UnB:PySem.W.codeIn K cd_UnB "Under.behind"=true) (km_UnB:PySem.W.keepIn K (.ref f_UnB)=true)
  (ih_Un_losers:PySem.W.findIn K (.ref CUn) "losers"=some (some (.ref f_StL)))
  (pg_Un:PySem.W.plainGet K CUn Str.empty=true) (hd_Un:PySem.W.hasDictIn K CUn=true) (po_Un:PySem.W.plainOver K CUn=true) (sa_Un:PySem.W.findIn K (.ref CUn) "__setattr__"=some (some (.builtin "object.__setattr__")))
  (mk_Un:PySem.W.makesIn K CUn=true) (kc_Un:PySem.W.keepIn K (.ref CUn)=true)
  (n_Un_winner:PySem.W.findIn K (.ref CUn) "winner"=some none)
  (n_Un_loser:PySem.W.findIn K (.ref CUn) "loser"=some none)
  (n_Un_times:PySem.W.findIn K (.ref CUn) "times"=some none)
  (ic_Un:PySem.W.findIn K (.ref CUn) "__class__"=some (some (.builtin "object.__class__"))) (mo_Un:PySem.W.mroIn K CUn (.type "object")=some true)
  (am_OsI:PySem.W.findIn K (.ref COs) "__init__"=some (some (.ref f_OsI))) (im_OsI:PySem.W.isFn K (.ref f_OsI)=true) (lm_OsI:K.lookup f_OsI=some ⟨oc_OsI,od_OsI,.func (PySem.W.fnOf "__init__" "Overs.__init__" (Jf J3v) (Jd J3v) (J1 J3v) .none kV_OsI dc_OsI pm_OsI an_OsI cd_OsI ct_OsI),sl_OsI⟩) (cm_OsI:PySem.W.codeIn K cd_OsI "Overs.__init__"=true) (km_OsI:PySem.W.keepIn K (.ref f_OsI)=true)
  (am_OsW:PySem.W.findIn K (.ref COs) "word"=some (some (.ref f_OsW))) (im_OsW:PySem.W.isFn K (.ref f_OsW)=true) (lm_OsW:K.lookup f_OsW=some ⟨oc_OsW,od_OsW,.func (PySem.W.fnOf "word" "Overs.word" (Jf J3u) (Jd J3u) (J1 J3u) .none kV_OsW dc_OsW pm_OsW an_OsW cd_OsW ct_OsW),sl_OsW⟩) (cm_OsW:PySem.W.codeIn K cd_OsW "Overs.word"=true) (km_OsW:PySem.W.keepIn K (.ref f_OsW)=true)
  (am_OsL:PySem.W.findIn K (.ref COs) "losers"=some (some (.ref f_OsL))) (im_OsL:PySem.W.isFn K (.ref f_OsL)=true) (lm_OsL:K.lookup f_OsL=some ⟨oc_OsL,od_OsL,.func (PySem.W.fnOf "losers" "Overs.losers" (Jf J1x) (Jd J1x) (J1 J1x) .none kV_OsL dc_OsL pm_OsL an_OsL cd_OsL ct_OsL),sl_OsL⟩) (cm_OsL:PySem.W.codeIn K cd_OsL "Overs.losers"=true) (km_OsL:PySem.W.keepIn K (.ref f_OsL)=true)
  (am_OsB:PySem.W.findIn K (.ref COs) "behind"=some (some (.ref f_OsB))) (im_OsB:PySem.W.isFn K (.ref f_OsB)=true) (lm_OsB:K.lookup f_OsB=some ⟨oc_OsB,od_OsB,.func (PySem.W.fnOf "behind" "Overs.behind" (Jf J1y) (Jd J1y) (J1 J1y) .none kV_OsB dc_OsB pm_OsB an_OsB cd_OsB ct_OsB),sl_OsB⟩) (cm_OsB:PySem.W.codeIn K cd_OsB "Overs.behind"=true) (km_OsB:PySem.W.keepIn K (.ref f_OsB)=true)
  (pg_Os:PySem.W.plainGet K COs Str.empty=true) (hd_Os:PySem.W.hasDictIn K COs=true) (po_Os:PySem.W.plainOver K COs=true) (sa_Os:PySem.W.findIn K (.ref COs) "__setattr__"=some (some (.builtin "object.__setattr__")))
  (mk_Os:PySem.W.makesIn K COs=true) (kc_Os:PySem.W.keepIn K (.ref COs)=true)
  (n_Os_winner:PySem.W.findIn K (.ref COs) "winner"=some none)
  (n_Os_loser:PySem.W.findIn K (.ref COs) "loser"=some none)
  (n_Os_times:PySem.W.findIn K (.ref COs) "times"=some none)
  (ic_Os:PySem.W.findIn K (.ref COs) "__class__"=some (some (.builtin "object.__class__"))) (mo_Os:PySem.W.mroIn K COs (.type "object")=some true)
  (am_UsI:PySem.W.findIn K (.ref CUs) "__init__"=some (some (.ref f_UsI))) (im_UsI:PySem.W.isFn K (.ref f_UsI)=true) (lm_UsI:K.lookup f_UsI=some ⟨oc_UsI,od_UsI,.func (PySem.W.fnOf "__init__" "Unders.__init__" (Jf J3m) (Jd J3m) (J1 J3m) .none kV_UsI dc_UsI pm_UsI an_UsI cd_UsI ct_UsI),sl_UsI⟩) (cm_UsI:PySem.W.codeIn K cd_UsI "Unders.__init__"=true) (km_UsI:PySem.W.keepIn K (.ref f_UsI)=true)
  (am_UsW:PySem.W.findIn K (.ref CUs) "word"=some (some (.ref f_UsW))) (im_UsW:PySem.W.isFn K (.ref f_UsW)=true) (lm_UsW:K.lookup f_UsW=some ⟨oc_UsW,od_UsW,.func (PySem.W.fnOf "word" "Unders.word" (Jf J3l) (Jd J3l) (J1 J3l) .none kV_UsW dc_UsW pm_UsW an_UsW cd_UsW ct_UsW),sl_UsW⟩) (cm_UsW:PySem.W.codeIn K cd_UsW "Unders.word"=true) (km_UsW:PySem.W.keepIn K (.ref f_UsW)=true)
  (am_UsL:PySem.W.findIn K (.ref CUs) "losers"=some (some (.ref f_UsL))) (im_UsL:PySem.W.isFn K (.ref f_UsL)=true) (lm_UsL:K.lookup f_UsL=some ⟨oc_UsL,od_UsL,.func (PySem.W.fnOf "losers" "Unders.losers" (Jf J1s) (Jd J1s) (J1 J1s) .none kV_UsL dc_UsL pm_UsL an_UsL cd_UsL ct_UsL),sl_UsL⟩) (cm_UsL:PySem.W.codeIn K cd_UsL "Unders.losers"=true) (km_UsL:PySem.W.keepIn K (.ref f_UsL)=true)
  (am_UsB:PySem.W.findIn K (.ref CUs) "behind"=some (some (.ref f_UsB))) (im_UsB:PySem.W.isFn K (.ref f_UsB)=true) (lm_UsB:K.lookup f_UsB=some ⟨oc_UsB,od_UsB,.func (PySem.W.fnOf "behind" "Unders.behind" (Jf J1t) (Jd J1t) (J1 J1t) .none kV_UsB dc_UsB pm_UsB an_UsB cd_UsB ct_UsB),sl_UsB⟩) (cm_UsB:PySem.W.codeIn K cd_UsB "Unders.behind"=true) (km_UsB:PySem.W.keepIn K (.ref f_UsB)=true)
  (pg_Us:PySem.W.plainGet K CUs Str.empty=true) (hd_Us:PySem.W.hasDictIn K CUs=true) (po_Us:PySem.W.plainOver K CUs=true) (sa_Us:PySem.W.findIn K (.ref CUs) "__setattr__"=some (some (.builtin "object.__setattr__")))
  (mk_Us:PySem.W.makesIn K CUs=true) (kc_Us:PySem.W.keepIn K (.ref CUs)=true)
  (n_Us_winner:PySem.W.findIn K (.ref CUs) "winner"=some none)
  (n_Us_loser:PySem.W.findIn K (.ref CUs) "loser"=some none)
  (n_Us_times:PySem.W.findIn K (.ref CUs) "times"=some none)
  (ic_Us:PySem.W.findIn K (.ref CUs) "__class__"=some (some (.builtin "object.__class__"))) (mo_Us:PySem.W.mroIn K CUs (.type "object")=some true)
  (sget:PySem.W.specialIn K (.builtin "object.__class__") "__get__"=some (some (.builtin "getset_descriptor.__get__"))) (stk:PySem.W.takesIn K (.builtin "object.__class__")=some true)
  (z_len:PySem.W.nsIn K mainGlobals "len"=some none)
  (z_sum:PySem.W.nsIn K mainGlobals "sum"=some none)
  (z_tuple:PySem.W.nsIn K mainGlobals "tuple"=some none)
  (z_list:PySem.W.nsIn K mainGlobals "list"=some none)
  (z_range:PySem.W.nsIn K mainGlobals "range"=some none)
  (z_isinstance:PySem.W.nsIn K mainGlobals "isinstance"=some none)
  (z_int:PySem.W.nsIn K mainGlobals "int"=some none)
  (z_bool:PySem.W.nsIn K mainGlobals "bool"=some none)
  (z_all:PySem.W.nsIn K mainGlobals "all"=some none)
  (sbB:PySem.W.specialIn K (.ref CSt) "__getattribute__"=some (some (.builtin "type.__getattribute__")))
  (rdB:PySem.W.readsIn K CSt (.type "type")=true)
  (fdB:PySem.W.findCls K (.ref CSt) (.type "type") "__init__"=some (.val (.ref f_StI)))
  (aO:PySem.W.nsIn K mainGlobals "Outside"=some (some (.ref CO)))
  (xO:PySem.W.excIn K CO bmV "ValueError.__new__"=true)
  (aLE:PySem.W.nsIn K mainGlobals "LineError"=some (some (.ref CL)))
  (xm:PySem.W.exmOne K (.ref CO) (.ref CL)=some true)
  (kt:PySem.W.kitOne K (.ref CR) (.ref CR)=some true)
  : ∃ fd:FuncData,(∀ (s:Shared) (v:Value),BindsTo s fd ⟨[v],[]⟩ [("script",v)])∧∀ base:Heap,K.In base→base.Ns mainGlobals mg→FnOk l.prog w K mg base CX0 6 fa fd ["script"] (spLaw K):=by
 have e:=hfa.symm.trans (PySem.W.mg_of X G a30)
 cases e
 have F0:=Jj (st:=sMoved) l0 c0 k0
 have m0:=PySem.W.mg_of X G a0
 have b0:=F0.binds (ps:=["line","piece","offset","firsts"]) fun _ _ _ _ _ _ us hl=>match us,hl with | [_,_,_,_],_=>rfl
 have F1:=Jj (st:=sFirst) l1 c1 k1
 have m1:=PySem.W.mg_of X G a1
 have b1:=F1.binds (ps:=["lengths","order"]) fun _ _ _ _ _ _ us hl=>match us,hl with | [_,_],_=>rfl
 have F2:=Jj (st:=sLenOf) l2 c2 k2
 have m2:=PySem.W.mg_of X G a2
 have b2:=F2.binds (ps:=["rest","letters"]) fun _ _ _ _ _ _ us hl=>match us,hl with | [_,_],_=>rfl
 have F3:=Jj (st:=sLetIn) l3 c3 k3
 have m3:=PySem.W.mg_of X G a3
 have b3:=F3.binds (ps:=["rest","row","y"]) fun _ _ _ _ _ _ us hl=>match us,hl with | [_,_,_],_=>rfl
 have F4:=Jj (st:=sGone) l4 c4 k4
 have m4:=PySem.W.mg_of X G a4
 have b4:=F4.binds (ps:=["rest","y","from_row","to_row"]) fun _ _ _ _ _ _ us hl=>match us,hl with | [_,_,_,_],_=>rfl
 have F5:=Jj (st:=J3w) l5 c5 k5
 have m5:=PySem.W.mg_of X G a5
 have b5:=F5.binds (ps:=["rest","y"]) fun _ _ _ _ _ _ us hl=>match us,hl with | [_,_],_=>rfl
 have F6:=Jj (st:=sRGoes) l6 c6 k6
 have m6:=PySem.W.mg_of X G a6
 have b6:=F6.binds (ps:=["rest","y"]) fun _ _ _ _ _ _ us hl=>match us,hl with | [_,_],_=>rfl
 have F7:=Jj (st:=J2t) l7 c7 k7
 have m7:=PySem.W.mg_of X G a7
 have b7:=F7.binds (ps:=["row","letter"]) fun _ _ _ _ _ _ us hl=>match us,hl with | [_,_],_=>rfl
 have F8:=Jj (st:=J2w) l8 c8 k8
 have m8:=PySem.W.mg_of X G a8
 have b8:=F8.binds (ps:=["row","letter"]) fun _ _ _ _ _ _ us hl=>match us,hl with | [_,_],_=>rfl
 have F9:=Jj (st:=sPut) l9 c9 k9
 have m9:=PySem.W.mg_of X G a9
 have b9:=F9.binds (ps:=["row","winner","loser","ahead"]) fun _ _ _ _ _ _ us hl=>match us,hl with | [_,_,_,_],_=>rfl
 have F10:=Jj (st:=J2v) l10 c10 k10
 have m10:=PySem.W.mg_of X G a10
 have b10:=F10.binds (ps:=["row","letter","entry"]) fun _ _ _ _ _ _ us hl=>match us,hl with | [_,_,_],_=>rfl
 have F11:=Jj (st:=sShort) l11 c11 k11
 have m11:=PySem.W.mg_of X G a11
 have b11:=F11.binds (ps:=["rest","winner","less"]) fun _ _ _ _ _ _ us hl=>match us,hl with | [_,_,_],_=>rfl
 have F12:=Jj (st:=J3q) l12 c12 k12
 have m12:=PySem.W.mg_of X G a12
 have b12:=F12.binds (ps:=["rest","winner","loser"]) fun _ _ _ _ _ _ us hl=>match us,hl with | [_,_,_],_=>rfl
 have F13:=Jj (st:=sTimes) l13 c13 k13
 have m13:=PySem.W.mg_of X G a13
 have b13:=F13.binds (ps:=["rest","winner","row"]) fun _ _ _ _ _ _ us hl=>match us,hl with | [_,_,_],_=>rfl
 have F14:=Jj (st:=sOverS) l14 c14 k14
 have m14:=PySem.W.mg_of X G a14
 have b14:=F14.binds (ps:=["rest","winner","loser"]) fun _ _ _ _ _ _ us hl=>match us,hl with | [_,_,_],_=>rfl
 have F15:=Jj (st:=J3n) l15 c15 k15
 have m15:=PySem.W.mg_of X G a15
 have b15:=F15.binds (ps:=["rest","winner","loser"]) fun _ _ _ _ _ _ us hl=>match us,hl with | [_,_,_],_=>rfl
 have F16:=Jj (st:=sNext) l16 c16 k16
 have m16:=PySem.W.mg_of X G a16
 have b16:=F16.binds (ps:=["rest"]) fun _ _ _ _ _ _ us hl=>match us,hl with | [_],_=>rfl
 have F17:=Jj (st:=sCell) l17 c17 k17
 have m17:=PySem.W.mg_of X G a17
 have b17:=F17.binds (ps:=["script","k"]) fun _ _ _ _ _ _ us hl=>match us,hl with | [_,_],_=>rfl
 have F18:=Jj (st:=sWhole) l18 c18 k18
 have m18:=PySem.W.mg_of X G a18
 have b18:=F18.binds (ps:=["found"]) fun _ _ _ _ _ _ us hl=>match us,hl with | [_],_=>rfl
 have F19:=Jj (st:=sShuf) l19 c19 k19
 have m19:=PySem.W.mg_of X G a19
 have b19:=F19.binds (ps:=["cell","letters"]) fun _ _ _ _ _ _ us hl=>match us,hl with | [_,_],_=>rfl
 have F20:=Jj (st:=J41) l20 c20 k20
 have m20:=PySem.W.mg_of X G a20
 have b20:=F20.binds (ps:=["script","spans"]) fun _ _ _ _ _ _ us hl=>match us,hl with | [_,_],_=>rfl
 have F21:=Jj (st:=sSum) l21 c21 k21
 have m21:=PySem.W.mg_of X G a21
 have b21:=F21.binds (ps:=["lengths","letters"]) fun _ _ _ _ _ _ us hl=>match us,hl with | [_,_],_=>rfl
 have F22:=Jj (st:=sStepN) l22 c22 k22
 have m22:=PySem.W.mg_of X G a22
 have b22:=F22.binds (ps:=["drawn"]) fun _ _ _ _ _ _ us hl=>match us,hl with | [_],_=>rfl
 have F23:=Jj (st:=sWith) l23 c23 k23
 have m23:=PySem.W.mg_of X G a23
 have b23:=F23.binds (ps:=["values","letter","value"]) fun _ _ _ _ _ _ us hl=>match us,hl with | [_,_,_],_=>rfl
 have F24:=Jj (st:=sPutL) l24 c24 k24
 have m24:=PySem.W.mg_of X G a24
 have b24:=F24.binds (ps:=["row","loser","winner","turned"]) fun _ _ _ _ _ _ us hl=>match us,hl with | [_,_,_,_],_=>rfl
 have F25:=Jj (st:=sLeft) l25 c25 k25
 have m25:=PySem.W.mg_of X G a25
 have b25:=F25.binds (ps:=["drawn"]) fun _ _ _ _ _ _ us hl=>match us,hl with | [_],_=>rfl
 have F26:=Jj (st:=sSameR) l26 c26 k26
 have m26:=PySem.W.mg_of X G a26
 have b26:=F26.binds (ps:=["rest","drawn"]) fun _ _ _ _ _ _ us hl=>match us,hl with | [_,_],_=>rfl
 have F27:=Jj (st:=sMade) l27 c27 k27
 have m27:=PySem.W.mg_of X G a27
 have b27:=F27.binds (ps:=["due"]) fun _ _ _ _ _ _ us hl=>match us,hl with | [_],_=>rfl
 have F28:=Jj (st:=sAsk) l28 c28 k28
 have m28:=PySem.W.mg_of X G a28
 have b28:=F28.binds (ps:=["which","rest","y"]) fun _ _ _ _ _ _ us hl=>match us,hl with | [_,_,_],_=>rfl
 have F29:=Jj (st:=J2u) l29 c29 k29
 have m29:=PySem.W.mg_of X G a29
 have b29:=F29.binds (ps:=["which","rest","y"]) fun _ _ _ _ _ _ us hl=>match us,hl with | [_,_,_],_=>rfl
 have F30:=Jj (st:=sLaw) l30 c30 k30
 have m30:=PySem.W.mg_of X G a30
 have b30:=F30.binds (ps:=["script"]) fun _ _ _ _ _ _ us hl=>match us,hl with | [_],_=>rfl
 have mg_R:=PySem.W.mg_of X G a_R
 have cl_R:Cls K CR:=⟨pg_R,hd_R,po_R,sa_R⟩
 have ty_R:TxtI K CR:=⟨ic_R,sget,stk,mo_R⟩
 have F_RI:=Jj (x:="__init__") (qual:="Rest.__init__") (st:=sRInit) lm_RI cm_RI km_RI
 have b_RI:=F_RI.binds (ps:=["self","top","bottom","lengths","turned"]) fun _ _ _ _ _ _ us hl=>match us,hl with | [_,_,_,_,_],_=>rfl
 have mg_St:=PySem.W.mg_of X G a_St
 have cl_St:Cls K CSt:=⟨pg_St,hd_St,po_St,sa_St⟩
 have F_StI:=Jj (x:="__init__") (qual:="Step.__init__") (st:=J3r) lm_StI cm_StI km_StI
 have b_StI:=F_StI.binds (ps:=["self","winner","loser","times"]) fun _ _ _ _ _ _ us hl=>match us,hl with | [_,_,_,_],_=>rfl
 have F_StL:=Jj (x:="losers") (qual:="Step.losers") (st:=J1v) lm_StL cm_StL km_StL
 have b_StL:=F_StL.binds (ps:=["self","rest"]) fun _ _ _ _ _ _ us hl=>match us,hl with | [_,_],_=>rfl
 have mg_Ho:=PySem.W.mg_of X G a_Ho
 have cl_Ho:Cls K CHo:=⟨pg_Ho,hd_Ho,po_Ho,sa_Ho⟩
 have ty_Ho:TxtI K CHo:=⟨ic_Ho,sget,stk,mo_Ho⟩
 have F_HoI:=Jj (x:="__init__") (qual:="Home.__init__") (st:=J3y) lm_HoI cm_HoI km_HoI
 have b_HoI:=F_HoI.binds (ps:=["self","winner"]) fun _ _ _ _ _ _ us hl=>match us,hl with | [_,_],_=>rfl
 have F_HoW:=Jj (x:="word") (qual:="Home.word") (st:=J3x) lm_HoW cm_HoW km_HoW
 have b_HoW:=F_HoW.binds (ps:=["self"]) fun _ _ _ _ _ _ us hl=>match us,hl with | [_],_=>rfl
 have F_HoL:=Jj (x:="losers") (qual:="Home.losers") (st:=J1z) lm_HoL cm_HoL km_HoL
 have b_HoL:=F_HoL.binds (ps:=["self","rest"]) fun _ _ _ _ _ _ us hl=>match us,hl with | [_,_],_=>rfl
 have F_HoB:=Jj (x:="behind") (qual:="Home.behind") (st:=J20) lm_HoB cm_HoB km_HoB
 have b_HoB:=F_HoB.binds (ps:=["self","rest"]) fun _ _ _ _ _ _ us hl=>match us,hl with | [_,_],_=>rfl
 have mg_Ev:=PySem.W.mg_of X G a_Ev
 have cl_Ev:Cls K CEv:=⟨pg_Ev,hd_Ev,po_Ev,sa_Ev⟩
 have ty_Ev:TxtI K CEv:=⟨ic_Ev,sget,stk,mo_Ev⟩
 have F_EvI:=Jj (x:="__init__") (qual:="Even.__init__") (st:=J40) lm_EvI cm_EvI km_EvI
 have b_EvI:=F_EvI.binds (ps:=["self","winner","loser"]) fun _ _ _ _ _ _ us hl=>match us,hl with | [_,_,_],_=>rfl
 have F_EvW:=Jj (x:="word") (qual:="Even.word") (st:=J3z) lm_EvW cm_EvW km_EvW
 have b_EvW:=F_EvW.binds (ps:=["self"]) fun _ _ _ _ _ _ us hl=>match us,hl with | [_],_=>rfl
 have F_EvB:=Jj (x:="behind") (qual:="Even.behind") (st:=J21) lm_EvB cm_EvB km_EvB
 have b_EvB:=F_EvB.binds (ps:=["self","rest"]) fun _ _ _ _ _ _ us hl=>match us,hl with | [_,_],_=>rfl
 have mg_Ov:=PySem.W.mg_of X G a_Ov
 have cl_Ov:Cls K COv:=⟨pg_Ov,hd_Ov,po_Ov,sa_Ov⟩
 have ty_Ov:TxtI K COv:=⟨ic_Ov,sget,stk,mo_Ov⟩
 have F_OvI:=Jj (x:="__init__") (qual:="Over.__init__") (st:=J3t) lm_OvI cm_OvI km_OvI
 have b_OvI:=F_OvI.binds (ps:=["self","winner","loser"]) fun _ _ _ _ _ _ us hl=>match us,hl with | [_,_,_],_=>rfl
 have F_OvW:=Jj (x:="word") (qual:="Over.word") (st:=J3s) lm_OvW cm_OvW km_OvW
 have b_OvW:=F_OvW.binds (ps:=["self"]) fun _ _ _ _ _ _ us hl=>match us,hl with | [_],_=>rfl
 have F_OvB:=Jj (x:="behind") (qual:="Over.behind") (st:=J1w) lm_OvB cm_OvB km_OvB
 have b_OvB:=F_OvB.binds (ps:=["self","rest"]) fun _ _ _ _ _ _ us hl=>match us,hl with | [_,_],_=>rfl
 have mg_Un:=PySem.W.mg_of X G a_Un
 have cl_Un:Cls K CUn:=⟨pg_Un,hd_Un,po_Un,sa_Un⟩
 have ty_Un:TxtI K CUn:=⟨ic_Un,sget,stk,mo_Un⟩
 have F_UnI:=Jj (x:="__init__") (qual:="Under.__init__") (st:=J3p) lm_UnI cm_UnI km_UnI
 have b_UnI:=F_UnI.binds (ps:=["self","winner","loser"]) fun _ _ _ _ _ _ us hl=>match us,hl with | [_,_,_],_=>rfl
 have F_UnW:=Jj (x:="word") (qual:="Under.word") (st:=J3o) lm_UnW cm_UnW km_UnW
 have b_UnW:=F_UnW.binds (ps:=["self"]) fun _ _ _ _ _ _ us hl=>match us,hl with | [_],_=>rfl
 have F_UnB:=Jj (x:="behind") (qual:="Under.behind") (st:=J1u) lm_UnB cm_UnB km_UnB
 have b_UnB:=F_UnB.binds (ps:=["self","rest"]) fun _ _ _ _ _ _ us hl=>match us,hl with | [_,_],_=>rfl
 have mg_Os:=PySem.W.mg_of X G a_Os
 have cl_Os:Cls K COs:=⟨pg_Os,hd_Os,po_Os,sa_Os⟩
 have ty_Os:TxtI K COs:=⟨ic_Os,sget,stk,mo_Os⟩
 have F_OsI:=Jj (x:="__init__") (qual:="Overs.__init__") (st:=J3v) lm_OsI cm_OsI km_OsI
 have b_OsI:=F_OsI.binds (ps:=["self","winner","times"]) fun _ _ _ _ _ _ us hl=>match us,hl with | [_,_,_],_=>rfl
 have F_OsW:=Jj (x:="word") (qual:="Overs.word") (st:=J3u) lm_OsW cm_OsW km_OsW
 have b_OsW:=F_OsW.binds (ps:=["self"]) fun _ _ _ _ _ _ us hl=>match us,hl with | [_],_=>rfl
 have F_OsL:=Jj (x:="losers") (qual:="Overs.losers") (st:=J1x) lm_OsL cm_OsL km_OsL
 have b_OsL:=F_OsL.binds (ps:=["self","rest"]) fun _ _ _ _ _ _ us hl=>match us,hl with | [_,_],_=>rfl
 have F_OsB:=Jj (x:="behind") (qual:="Overs.behind") (st:=J1y) lm_OsB cm_OsB km_OsB
 have b_OsB:=F_OsB.binds (ps:=["self","rest"]) fun _ _ _ _ _ _ us hl=>match us,hl with | [_,_],_=>rfl
 have mg_Us:=PySem.W.mg_of X G a_Us
 have cl_Us:Cls K CUs:=⟨pg_Us,hd_Us,po_Us,sa_Us⟩
 have ty_Us:TxtI K CUs:=⟨ic_Us,sget,stk,mo_Us⟩
 have F_UsI:=Jj (x:="__init__") (qual:="Unders.__init__") (st:=J3m) lm_UsI cm_UsI km_UsI
 have b_UsI:=F_UsI.binds (ps:=["self","winner","times"]) fun _ _ _ _ _ _ us hl=>match us,hl with | [_,_,_],_=>rfl
 have F_UsW:=Jj (x:="word") (qual:="Unders.word") (st:=J3l) lm_UsW cm_UsW km_UsW
 have b_UsW:=F_UsW.binds (ps:=["self"]) fun _ _ _ _ _ _ us hl=>match us,hl with | [_],_=>rfl
 have F_UsL:=Jj (x:="losers") (qual:="Unders.losers") (st:=J1s) lm_UsL cm_UsL km_UsL
 have b_UsL:=F_UsL.binds (ps:=["self","rest"]) fun _ _ _ _ _ _ us hl=>match us,hl with | [_,_],_=>rfl
 have F_UsB:=Jj (x:="behind") (qual:="Unders.behind") (st:=J1t) lm_UsB cm_UsB km_UsB
 have b_UsB:=F_UsB.binds (ps:=["self","rest"]) fun _ _ _ _ _ _ us hl=>match us,hl with | [_,_],_=>rfl
 have T:TxtR mg:=⟨PySem.W.mg_none_of X G z_len,PySem.W.mg_none_of X G z_sum,PySem.W.mg_none_of X G z_tuple,PySem.W.mg_none_of X G z_list,PySem.W.mg_none_of X G z_range⟩
 have TR:TxtRest K CR:=⟨cl_R,n_R_top,n_R_bottom,n_R_lengths,n_R_turned,n_R_size⟩
 have TL:TxtL K mg:=⟨PySem.W.mg_none_of X G z_isinstance,PySem.W.mg_none_of X G z_int,PySem.W.mg_none_of X G z_bool,kib K⟩
 have TO:TxtX K mg "Outside" CO:=⟨PySem.W.mg_of X G aO,xO⟩
 have hcs:∃ cs:Kd→Addr,cs=csOf CHo CEv COv CUn COs CUs:=⟨_,rfl⟩
 obtain ⟨cs,hcs⟩:=hcs
 have TS:TxtS K cs:=by
  subst hcs
  exact ⟨fun k=>match k with | .ho=>cl_Ho | .ev=>cl_Ev | .ov=>cl_Ov | .un=>cl_Un | .os=>cl_Os | .us=>cl_Us,fun k=>match k with | .ho=>n_Ho_winner | .ev=>n_Ev_winner | .ov=>n_Ov_winner | .un=>n_Un_winner | .os=>n_Os_winner | .us=>n_Us_winner,fun k=>match k with | .ho=>n_Ho_loser | .ev=>n_Ev_loser | .ov=>n_Ov_loser | .un=>n_Un_loser | .os=>n_Os_loser | .us=>n_Us_loser,fun k=>match k with | .ho=>n_Ho_times | .ev=>n_Ev_times | .ov=>n_Ov_times | .un=>n_Un_times | .os=>n_Os_times | .us=>n_Us_times⟩
 have BM:BaseM K CSt "__init__" f_StI:=⟨sbB,rdB,fdB,km_StI⟩
 have MHo:Mk K (cs .ho) f_HoI:=by
  subst hcs
  exact ⟨mk_Ho,am_HoI,im_HoI,kc_Ho⟩
 have m_Ho:mg "Home"=some (.ref (cs .ho)):=by
  subst hcs
  exact mg_Ho
 have ClHo:Cls K (cs .ho):=TS.cl _
 have Me_Ho_W:Meth K (cs .ho) "word" f_HoW:=by
  subst hcs
  exact ⟨am_HoW,im_HoW,km_HoW⟩
 have Me_Ho_L:Meth K (cs .ho) "losers" f_HoL:=by
  subst hcs
  exact ⟨am_HoL,im_HoL,km_HoL⟩
 have Me_Ho_B:Meth K (cs .ho) "behind" f_HoB:=by
  subst hcs
  exact ⟨am_HoB,im_HoB,km_HoB⟩
 have MEv:Mk K (cs .ev) f_EvI:=by
  subst hcs
  exact ⟨mk_Ev,am_EvI,im_EvI,kc_Ev⟩
 have m_Ev:mg "Even"=some (.ref (cs .ev)):=by
  subst hcs
  exact mg_Ev
 have ClEv:Cls K (cs .ev):=TS.cl _
 have Me_Ev_W:Meth K (cs .ev) "word" f_EvW:=by
  subst hcs
  exact ⟨am_EvW,im_EvW,km_EvW⟩
 have Me_Ev_L:Meth K (cs .ev) "losers" f_StL:=by
  subst hcs
  exact ⟨ih_Ev_losers,im_StL,km_StL⟩
 have Me_Ev_B:Meth K (cs .ev) "behind" f_EvB:=by
  subst hcs
  exact ⟨am_EvB,im_EvB,km_EvB⟩
 have MOv:Mk K (cs .ov) f_OvI:=by
  subst hcs
  exact ⟨mk_Ov,am_OvI,im_OvI,kc_Ov⟩
 have m_Ov:mg "Over"=some (.ref (cs .ov)):=by
  subst hcs
  exact mg_Ov
 have ClOv:Cls K (cs .ov):=TS.cl _
 have Me_Ov_W:Meth K (cs .ov) "word" f_OvW:=by
  subst hcs
  exact ⟨am_OvW,im_OvW,km_OvW⟩
 have Me_Ov_L:Meth K (cs .ov) "losers" f_StL:=by
  subst hcs
  exact ⟨ih_Ov_losers,im_StL,km_StL⟩
 have Me_Ov_B:Meth K (cs .ov) "behind" f_OvB:=by
  subst hcs
  exact ⟨am_OvB,im_OvB,km_OvB⟩
 have MUn:Mk K (cs .un) f_UnI:=by
  subst hcs
  exact ⟨mk_Un,am_UnI,im_UnI,kc_Un⟩
 have m_Un:mg "Under"=some (.ref (cs .un)):=by
  subst hcs
  exact mg_Un
 have ClUn:Cls K (cs .un):=TS.cl _
 have Me_Un_W:Meth K (cs .un) "word" f_UnW:=by
  subst hcs
  exact ⟨am_UnW,im_UnW,km_UnW⟩
 have Me_Un_L:Meth K (cs .un) "losers" f_StL:=by
  subst hcs
  exact ⟨ih_Un_losers,im_StL,km_StL⟩
 have Me_Un_B:Meth K (cs .un) "behind" f_UnB:=by
  subst hcs
  exact ⟨am_UnB,im_UnB,km_UnB⟩
 have MOs:Mk K (cs .os) f_OsI:=by
  subst hcs
  exact ⟨mk_Os,am_OsI,im_OsI,kc_Os⟩
 have m_Os:mg "Overs"=some (.ref (cs .os)):=by
  subst hcs
  exact mg_Os
 have ClOs:Cls K (cs .os):=TS.cl _
 have Me_Os_W:Meth K (cs .os) "word" f_OsW:=by
  subst hcs
  exact ⟨am_OsW,im_OsW,km_OsW⟩
 have Me_Os_L:Meth K (cs .os) "losers" f_OsL:=by
  subst hcs
  exact ⟨am_OsL,im_OsL,km_OsL⟩
 have Me_Os_B:Meth K (cs .os) "behind" f_OsB:=by
  subst hcs
  exact ⟨am_OsB,im_OsB,km_OsB⟩
 have MUs:Mk K (cs .us) f_UsI:=by
  subst hcs
  exact ⟨mk_Us,am_UsI,im_UsI,kc_Us⟩
 have m_Us:mg "Unders"=some (.ref (cs .us)):=by
  subst hcs
  exact mg_Us
 have ClUs:Cls K (cs .us):=TS.cl _
 have Me_Us_W:Meth K (cs .us) "word" f_UsW:=by
  subst hcs
  exact ⟨am_UsW,im_UsW,km_UsW⟩
 have Me_Us_L:Meth K (cs .us) "losers" f_UsL:=by
  subst hcs
  exact ⟨am_UsL,im_UsL,km_UsL⟩
 have Me_Us_B:Meth K (cs .us) "behind" f_UsB:=by
  subst hcs
  exact ⟨am_UsB,im_UsB,km_UsB⟩
 refine ⟨PySem.W.fnOf "law" "law" (Jf sLaw) (Jd sLaw) (J1 sLaw) .none kV30 dc30 pm30 an30 cd30 ct30,fun s v=>.of_eq rfl,fun base _ _=>?_⟩
 have GLn:=ok_lenOf (P:=l.prog) (w:=w) (base:=base) F2 T
 have GRI:=ok_rinit F_RI T TR GLn b2 m2 k2
 have MR:Mk K CR f_RI:=⟨mk_R,am_RI,im_RI,kc_R⟩
 have GBL:=ok_behindL (P:=l.prog) (w:=w) (mg:=mg) (base:=base) F8
 have bBL:=b8
 have mBL:=m8
 have kBL:=k8
 have GSI:=ok_sinit (P:=l.prog) (w:=w) (mg:=mg) (base:=base) F_StI TS
 have GHoI:=ok_hoinit F_HoI BM mg_St GSI b_StI
 have GEvI:=ok_evinit F_EvI BM mg_St GSI b_StI
 have GOvI:=ok_ovinit F_OvI BM mg_St GSI b_StI
 have GUnI:=ok_uninit F_UnI BM mg_St GSI b_StI
 have GOsI:=ok_osinit F_OsI BM mg_St GSI b_StI
 have GUsI:=ok_usinit F_UsI BM mg_St GSI b_StI
 have HW:∀ k,HasM l.prog w K mg base CX0 1 "word" ["self"] (J48 k) (cs k):=fun k=>match k with | .ho=>⟨_,_,ClHo,Me_Ho_W,ok_howord F_HoW,b_HoW⟩ | .ev=>⟨_,_,ClEv,Me_Ev_W,ok_evword F_EvW,b_EvW⟩ | .ov=>⟨_,_,ClOv,Me_Ov_W,ok_ovword F_OvW,b_OvW⟩ | .un=>⟨_,_,ClUn,Me_Un_W,ok_unword F_UnW,b_UnW⟩ | .os=>⟨_,_,ClOs,Me_Os_W,ok_osword F_OsW,b_OsW⟩ | .us=>⟨_,_,ClUs,Me_Us_W,ok_usword F_UsW,b_UsW⟩
 have HL:∀ k,HasM l.prog w K mg base CX0 2 "losers" ["self","rest"] (J1b cs CR k) (cs k):=fun k=>match k with | .ho=>⟨_,_,ClHo,Me_Ho_L,ok_holosers F_HoL,b_HoL⟩ | .ev=>⟨_,_,ClEv,Me_Ev_L,J2x F_StL TS (.inl rfl),b_StL⟩ | .ov=>⟨_,_,ClOv,Me_Ov_L,J2x F_StL TS (.inr (.inl rfl)),b_StL⟩ | .un=>⟨_,_,ClUn,Me_Un_L,J2x F_StL TS (.inr (.inr rfl)),b_StL⟩ | .os=>⟨_,_,ClOs,Me_Os_L,ok_oslosers F_OsL TS TR GBL bBL mBL kBL,b_OsL⟩ | .us=>⟨_,_,ClUs,Me_Us_L,ok_uslosers F_UsL TS TR GBL bBL mBL kBL,b_UsL⟩
 have GF:=ok_first (P:=l.prog) (w:=w) (base:=base) F1 T
 have GM:=ok_movedF (P:=l.prog) (w:=w) (mg:=mg) (base:=base) F0
 have GLi:=ok_letIn (P:=l.prog) (w:=w) (base:=base) F3 TR TO
 have GLt:=ok_letter F5 TR GLi b3 m3 k3
 have GGo:=ok_gone F4 TR GLi b3 m3 k3 GF b1 m1 k1 GM b0 m0 k0
 have GRG:=ok_rgoes F6 TR GGo b4 m4 k4
 have GWo:=ok_without (P:=l.prog) (w:=w) (mg:=mg) (base:=base) F7
 have GPu:=ok_put F9 GWo b7 m7 k7
 have GCh:=ok_changed (P:=l.prog) (w:=w) (base:=base) F10 T
 have GSo:=ok_short F11 TR GCh b10 m10 k10
 have GTB:=ok_turnsB F12 TR GCh b10 m10 k10
 have HB:∀ k,HasM l.prog w K mg base CX0 4 "behind" ["self","rest"] (J1d cs CR k) (cs k):=fun k=>match k with | .ho=>⟨_,_,ClHo,Me_Ho_B,ok_hobehind F_HoB TS TR GWo b7 m7 k7 GCh b10 m10 k10 MR GRI b_RI mg_R,b_HoB⟩ | .ev=>⟨_,_,ClEv,Me_Ev_B,ok_evbehind F_EvB TS TR GWo b7 m7 k7 GPu b9 m9 k9 GCh b10 m10 k10 GTB b12 m12 k12 MR GRI b_RI mg_R,b_EvB⟩ | .ov=>⟨_,_,ClOv,Me_Ov_B,ok_ovbehind F_OvB TS TR GPu b9 m9 k9 GSo b11 m11 k11 GTB b12 m12 k12 MR GRI b_RI mg_R,b_OvB⟩ | .un=>⟨_,_,ClUn,Me_Un_B,ok_unbehind F_UnB TS TR GPu b9 m9 k9 GSo b11 m11 k11 GTB b12 m12 k12 MR GRI b_RI mg_R,b_UnB⟩ | .os=>⟨_,_,ClOs,Me_Os_B,ok_osbehind F_OsB TS TR GLn b2 m2 k2 GSo b11 m11 k11 MR GRI b_RI mg_R HL,b_OsB⟩ | .us=>⟨_,_,ClUs,Me_Us_B,ok_usbehind F_UsB TS TR GLn b2 m2 k2 GSo b11 m11 k11 MR GRI b_RI mg_R HL,b_UsB⟩
 have GT:=ok_times F13 TR GLn b2 m2 k2 GBL b8 m8 k8
 have GO:=ok_overs F14 TR GT b13 m13 k13 MOs GOsI b_OsI m_Os MOv GOvI b_OvI m_Ov
 have GU:=ok_unders F15 TR GT b13 m13 k13 MUs GUsI b_UsI m_Us MUn GUnI b_UnI m_Un
 have GN:=ok_next F16 TR MHo GHoI b_HoI m_Ho MEv GEvI b_EvI m_Ev GO b14 m14 k14 GU b15 m15 k15
 have GC:=ok_cell (P:=l.prog) (w:=w) (base:=base) F17 T
 have GW:=ok_whole (P:=l.prog) (w:=w) (base:=base) F18 TL
 have GSh:=ok_shufL (P:=l.prog) (w:=w) (base:=base) F19 T
 have GD:=ok_drawnR F20 T GC b17 m17 k17 GSh b19 m19 k19
 have GS:=ok_sumL (P:=l.prog) (w:=w) (base:=base) F21 T
 have GSt:=ok_stepN F22 GS b21 m21 k21
 have GWi:=ok_with (P:=l.prog) (w:=w) (base:=base) F23 T
 have GPL:=ok_putL (P:=l.prog) (w:=w) (mg:=mg) (base:=base) F24
 have GLe:=ok_left F25 T GSt b22 m22 k22 GS b21 m21 k21 GWi b23 m23 k23 GPL b24 m24 k24
 have GSa:=ok_sameR F26 T TL (PySem.W.mg_none_of X G z_all) TR ty_R mg_R kt GW b18 m18 k18
 have GMa:=ok_made F27 MHo GHoI b_HoI m_Ho MEv GEvI b_EvI m_Ev MOv GOvI b_OvI m_Ov MUn GUnI b_UnI m_Un MOs GOsI b_OsI m_Os MUs GUsI b_UsI m_Us
 have GAs:=ok_ask F28 GLt b5 m5 k5 GRG b6 m6 k6
 have GRf:=ok_refusedR F29 TL.isi TO (PySem.W.mg_of X G aLE) xm GAs b28 m28 k28
 exact ok_law F30 T TR TS GD b20 m20 k20 MR GRI b_RI mg_R GSt b22 m22 k22 GN b16 m16 k16 GSa b26 m26 k26 GLe b25 m25 k25 GMa b27 m27 k27 GRf b29 m29 k29 HW HL HB
theorem walk {l:PySem.W.OpenLaw} {q:Program} {loose:List Str} {XP:(Str→Option Value)→Heap→Prop} {YP:World→Heap→Prop} {d:DefRec} {K:Params→PySem.W.Frag} (hn:l.most=some 63) (hdf:d.params.defaults=[])
  (hY:∀ (w:World) (h:Heap),YP w h→(K w.params).In h)
  (F:∀ (w:World) (mg:Str→Option Value) (fa:Addr) (h:Heap),(K w.params).In h→h.Ns mainGlobals mg→mg d.name=some (.ref fa)→
   ∃ fd:FuncData,(∀ (s:Shared) (u:Value),BindsTo s fd ⟨[u],[]⟩ [("script",u)])∧∀ base:Heap,(K w.params).In base→base.Ns mainGlobals mg→FnOk l.prog w (K w.params) mg base CX0 6 fa fd ["script"] (spLaw (K w.params))) :
  PySem.W.WalkO q loose XP YP l.row.toRowW d [] (fun f vs=>PySem.call f vs) :=
 L2.walk_of (n:=63) (k:=6) (x:="script") (CX:=fun _=>CX0) (sp:=fun w=>spLaw (K w.params)) hn (by decide) hdf ⟨rfl,by decide,by decide⟩ hY F (fun _ _ a ns hl _ hS=>⟨a,ns,rfl,hS,hl,fun _=>rfl⟩) fun _ _ _ _ _ z=>z
end R13
open PySem PySem.W PyProof.Rows
def PySem.W.Fast.tw887737753291994181 : Unit := ()
def PySem.W.Fast.tw8504982341727932720 : Unit := ()
def PySem.W.Fast.tw15349701931214634254 : Unit := ()
def PySem.W.Fast.tw9027580148762543217 : Unit := ()
def PySem.W.Fast.tw17600448842650994008 : Unit := ()
def PySem.W.Fast.tw8894528051226901268 : Unit := ()
def PySem.W.Fast.tw583025549340482217 : Unit := ()
def PySem.W.Fast.tw11219390063655313877 : Unit := ()
def PySem.W.Fast.tw13760410572534510611 : Unit := ()
def PySem.W.Fast.tw3109246503136694279 : Unit := ()
def PySem.W.Fast.tw12523909466105427229 : Unit := ()
def PySem.W.Fast.tw11286176025022073777 : Unit := ()
def PySem.W.Fast.tw10457417580899128004 : Unit := ()
def PySem.W.Fast.tw477797612783731958 : Unit := ()
def PySem.W.Fast.tw1443455427882119260 : Unit := ()
namespace PySem.W.Fast
def tw9739052441836761511:Unit:=()
def tw4079290246164100617:Unit:=()
def tw9836951480885745986:Unit:=()
def tw2733398872566300493:Unit:=()
def tw14106188196603742073:Unit:=()
def tw2019813340451602162:Unit:=()
def tw3096395578522975183:Unit:=()
def tw3114294514557279773:Unit:=()
def tw4747959782288746752:Unit:=()
def tw2310515173182399764:Unit:=()
def tw12973379649158866739:Unit:=()
def tw10407380273616111871:Unit:=()
def tw11277040064964712555:Unit:=()
def tw12976834465630141240:Unit:=()
def tw3897101477263173743:Unit:=()
def tw1214651893215876180:Unit:=()
def tw13759707118180045366:Unit:=()
def tw17207016620346930735:Unit:=()
def tw6933766667975269302:Unit:=()
def tw3267670592098769112:Unit:=()
def tw13403162449337106123:Unit:=()
def tw9354178442214131351:Unit:=()
def tw7524101456976523596:Unit:=()
def tw10519248945676003064:Unit:=()
def tw1615164022229700673:Unit:=()
def tw14923574679978095476:Unit:=()
def tw1687208087955373336:Unit:=()
def tw6158201336773862947:Unit:=()
def tw15584824917717321716:Unit:=()
def tw3039259849804120278:Unit:=()
def tw1706469376964347666:Unit:=()
def tw12230411115505831874:Unit:=()
def tw10332379348413540717:Unit:=()
def tw11502411240266861008:Unit:=()
def tw7344325892366762293:Unit:=()
def tw16874418708781687226:Unit:=()
def tw1621517296795781945:Unit:=()
def tw6727279044422299434:Unit:=()
def tw8967745463531025013:Unit:=()
def tw433748617966232549:Unit:=()
def tw5170838713326685959:Unit:=()
def tw7156903318273493608:Unit:=()
def tw14499412550973621317:Unit:=()
def tw11079895302561524888:Unit:=()
def tw2475886366273553970:Unit:=()
def tw15133227558237248420:Unit:=()
def tw12997314427725591589:Unit:=()
def tw17477400095763247657:Unit:=()
def tw534586256169695435:Unit:=()
def tw3984565896246003962:Unit:=()
def tw9133836892553616535:Unit:=()
def tw352270950872729631:Unit:=()
def tw8751292448667449899:Unit:=()
def tw862357982907540565:Unit:=()
def tw17372849076631200236:Unit:=()
def tw412293272665741608:Unit:=()
def tw6506602008050246243:Unit:=()
def tw2243954557685337768:Unit:=()
def tw6133937194680632074:Unit:=()
def tw12336520119229765945:Unit:=()
def tw18269566749696847181:Unit:=()
def tw8904999753559502226:Unit:=()
def tw11026678163228045293:Unit:=()
def tw4756236121009808234:Unit:=()
def tw9398683438303397519:Unit:=()
def tw15559186968875839410:Unit:=()
def tw12780399061616736606:Unit:=()
def tw6751205505644065924:Unit:=()
def tw17191342508436175681:Unit:=()
def tw3694999773641542385:Unit:=()
def tw13379180148194977908:Unit:=()
def tw13841490099659801963:Unit:=()
def tw11284964652728863909:Unit:=()
def tw10263868777626925224:Unit:=()
def tw2566658558025490441:Unit:=()
def tw18205176540100713813:Unit:=()
def tw13589621484894835278:Unit:=()
def tw3883649011867675676:Unit:=()
def tw285697850620586195:Unit:=()
def tw4361453176634764506:Unit:=()
def tw18329841840371342697:Unit:=()
def tw3555098353497670531:Unit:=()
def tw860444434884900956:Unit:=()
def tw16617959420308983440:Unit:=()
def tw13298716644806594775:Unit:=()
def tw10532845868595898141:Unit:=()
def tw6363760869207048357:Unit:=()
def tw14920240012577444209:Unit:=()
def tw5054376831912885661:Unit:=()
def tw16701596851932321525:Unit:=()
def tw16548724649509791163:Unit:=()
def tw2116237605130487477:Unit:=()
def tw16680559651216828564:Unit:=()
def tw16235234486692204889:Unit:=()
def tw8197593559291042496:Unit:=()
def tw15423514905067606133:Unit:=()
def tw7010568620504118868:Unit:=()
def tw16152406216066084521:Unit:=()
def tw9287301549609765066:Unit:=()
def tw10859022707458556969:Unit:=()
def tw11457952488764902077:Unit:=()
def tw16616113165758866465:Unit:=()
def tw1858809639229873634:Unit:=()
def tw9607168034792223324:Unit:=()
def tw11510327363320483592:Unit:=()
def tw6724587694895866013:Unit:=()
def tw18264144871657062989:Unit:=()
def tw6373995373375332025:Unit:=()
def tw6632798897122299688:Unit:=()
def tw1777461914090094408:Unit:=()
def tw870206944297456347:Unit:=()
def tw5048315050167437263:Unit:=()
def tw1583159972163773178:Unit:=()
def tw14044717853891413279:Unit:=()
def tw12016874320875640093:Unit:=()
def tw5849397291068840486:Unit:=()
def tw11009379787192684606:Unit:=()
def tw7919995172748589719:Unit:=()
def tw13498404895194346247:Unit:=()
def tw14469524276039861803:Unit:=()
def tw14558251120866005966:Unit:=()
def tw8256016400268526171:Unit:=()
def tw1023869123980964673:Unit:=()
def tw11132430042956920535:Unit:=()
def tw12518381776354504046:Unit:=()
def tw10355747663673755167:Unit:=()
def tw5229981929645738339:Unit:=()
def tw5477861038790921015:Unit:=()
def tw1375268856412590783:Unit:=()
def tw10521029203991345292:Unit:=()
def tw8113518213290887140:Unit:=()
def tw11139613090303340384:Unit:=()
def tw182436950981993250:Unit:=()
def tw2063831768648109927:Unit:=()
def tw3901427026410781188:Unit:=()
def tw18168764712180166910:Unit:=()
def tw7876535610742704905:Unit:=()
def tw4722802301323310329:Unit:=()
def tw5672996898259309129:Unit:=()
def tw7074750717851770272:Unit:=()
def tw13437102276899751675:Unit:=()
def tw17407893741370604051:Unit:=()
def tw10191087081577092064:Unit:=()
def tw3566975868788808672:Unit:=()
def tw7061661389771683673:Unit:=()
def tw12715624110577800974:Unit:=()
def tw14191898282522433648:Unit:=()
def tw16522175464624422966:Unit:=()
def tw12013330594561172297:Unit:=()
def tw16648683215029343024:Unit:=()
def tw6628190462832859088:Unit:=()
def tw15626870061339115074:Unit:=()
def tw1975279296723917149:Unit:=()
def tw1591484875117169321:Unit:=()
def tw14171938373098784371:Unit:=()
def tw11066569136725596410:Unit:=()
def tw9389816867389567623:Unit:=()
def tw15145145981520767176:Unit:=()
def tw10873512475312795957:Unit:=()
def tw680500910012934214:Unit:=()
def tw7696967603571990273:Unit:=()
def tw10889277594727672629:Unit:=()
def tw5369398845440932416:Unit:=()
def tw6312772499387627715:Unit:=()
def tw14482785689341820298:Unit:=()
def tw11182785309032480366:Unit:=()
def tw5426451762412954328:Unit:=()
def tw15451829992385761490:Unit:=()
def tw16295209513818014624:Unit:=()
def tw7285220830162002581:Unit:=()
def tw7414997045852126699:Unit:=()
def tw9455636065491422745:Unit:=()
def tw1446452255052237583:Unit:=()
def tw11625799584568876689:Unit:=()
def tw14307689766378335563:Unit:=()
def tw13620790273508257943:Unit:=()
def tw13528655685401714223:Unit:=()
def tw4410651754502333386:Unit:=()
def tw18296197312032810741:Unit:=()
def tw8203014294244427070:Unit:=()
def tw9269530108784635476:Unit:=()
def tw13371813506028413708:Unit:=()
def tw5953827104442965497:Unit:=()
def tw16256490726209490611:Unit:=()
def tw15460009912786082113:Unit:=()
def tw11760968639851349024:Unit:=()
def tw9093565806862174348:Unit:=()
def tw17120973017519395359:Unit:=()
def tw2452816841427147464:Unit:=()
def tw1136391065571491422:Unit:=()
def tw758230849654195285:Unit:=()
def tw5549000137335794670:Unit:=()
def tw7933126915324571912:Unit:=()
def tw11377516186568717022:Unit:=()
def tw18413367705892012812:Unit:=()
def tw5517551923213127956:Unit:=()
def tw6703540284201974119:Unit:=()
def tw10178653633187711075:Unit:=()
def tw16143573041275253059:Unit:=()
def tw11255240233128888782:Unit:=()
def tw2432169346860118503:Unit:=()
def tw14079971796269354972:Unit:=()
def tw2729084749883805322:Unit:=()
def tw9330815384940697830:Unit:=()
def tw7327837184025873659:Unit:=()
def tw8047524660772063981:Unit:=()
def tw3907483031649417143:Unit:=()
def tw6526492917727531983:Unit:=()
def tw8928501438098708814:Unit:=()
def tw17506842017065284585:Unit:=()
def tw1484343118752221462:Unit:=()
def tw4796930997345035827:Unit:=()
def tw13497866675919044660:Unit:=()
def tw11272631302264102492:Unit:=()
def tw8374140162673716611:Unit:=()
def tw16103734903378166021:Unit:=()
def tw6643964021685180689:Unit:=()
def tw16831824027498841845:Unit:=()
def tw15844857257881309689:Unit:=()
def tw13778296204976494776:Unit:=()
def tw7921516634095452059:Unit:=()
def tw10764877524188849849:Unit:=()
def tw8660351879165253624:Unit:=()
def tw13562784172989044948:Unit:=()
def tw16459062902922619661:Unit:=()
def tw15160567684496005248:Unit:=()
def tw298211940520868920:Unit:=()
def tw12729327393405438916:Unit:=()
def tw6921834858571377836:Unit:=()
def tw1836612066182227651:Unit:=()
def tw5354592626217450799:Unit:=()
def tw13530296955131787363:Unit:=()
def tw12352227281094547923:Unit:=()
def tw16689387995303739956:Unit:=()
def tw7977331008843960641:Unit:=()
def tw15348614331464086060:Unit:=()
def tw12634398171885434358:Unit:=()
def tw10441243843845850547:Unit:=()
def tw4441503357153800783:Unit:=()
def tw4081324129202052533:Unit:=()
def tw10327908311074138898:Unit:=()
def tw365497834234261408:Unit:=()
def tw6191155978304524097:Unit:=()
def tw16424653937386256957:Unit:=()
def tw3568233113515052361:Unit:=()
def tw2674706406981679342:Unit:=()
def tw9849119524171192107:Unit:=()
def tw9682953673664891498:Unit:=()
def tw1498661151477502626:Unit:=()
def tw17712099660142593937:Unit:=()
def tw17765058405448441651:Unit:=()
def tw13431187740785703718:Unit:=()
def tw1587152138853643476:Unit:=()
def tw17376904923697151054:Unit:=()
def tw11176314348617455899:Unit:=()
def tw10334254820981089599:Unit:=()
def tw14971687355293450249:Unit:=()
def tw8835664080931881818:Unit:=()
def tw6437771700307067361:Unit:=()
def tw2075047736652191368:Unit:=()
def tw12450463312550493536:Unit:=()
def tw11229385901503347633:Unit:=()
def tw17263738766415824401:Unit:=()
def tw18373319334937303944:Unit:=()
def tw11248768543588561580:Unit:=()
def tw13780370799910552621:Unit:=()
def tw14682628373701027354:Unit:=()
def tw2502645891921229376:Unit:=()
def tw5018909110255393339:Unit:=()
def tw34914469393391118:Unit:=()
def tw15503689656423365359:Unit:=()
def tw13064359437915856798:Unit:=()
def tw17278981801866087058:Unit:=()
def tw11693146380521908708:Unit:=()
def tw3979325825308444913:Unit:=()
def tw5821385556754732444:Unit:=()
def tw17007222978144141391:Unit:=()
def tw12821627670261607264:Unit:=()
def tw845078851883191490:Unit:=()
def tw9142884844277167408:Unit:=()
def tw3539843572051566466:Unit:=()
def tw3643026992130484750:Unit:=()
def tw9050921371268429586:Unit:=()
def tw1083414460811330407:Unit:=()
def tw6109435640895273925:Unit:=()
def tw12677019333510098639:Unit:=()
def tw765667626285368932:Unit:=()
def tw15778132007328370757:Unit:=()
def tw13586218667917542463:Unit:=()
def tw8683008227911311225:Unit:=()
def tw13999487439489000570:Unit:=()
def tw1048403458934390515:Unit:=()
def tw16355733000833637628:Unit:=()
def tw12225122664920604630:Unit:=()
def tw7978196872100315704:Unit:=()
def tw17225789332436901546:Unit:=()
def tw8556685275184329363:Unit:=()
def tw14083830327254097526:Unit:=()
def tw18024963890971852214:Unit:=()
def tw17477613962424424533:Unit:=()
def tw2298382276396111669:Unit:=()
def tw9420922309546517784:Unit:=()
def tw3287457649328473939:Unit:=()
def tw8279660999933001991:Unit:=()
def tw4476817276157355468:Unit:=()
def tw7260382440092937282:Unit:=()
def tw414996817381664576:Unit:=()
def tw10996094059953971920:Unit:=()
def tw7026555887731195861:Unit:=()
end PySem.W.Fast
theorem PySem.Challenge.cw_relaid_k13_what_is_left_holds : PySem.Challenge.rw_relaid_k13_what_is_left.Holds := by
  w_on; o_law; k_head; (case hw => w_witness2)
  k_fill
  refine R13.walk (l := PySem.Challenge.rw_relaid_k13_what_is_left) rfl rfl (fun w h Y => PySem.W.kIn_of Y) ?F
  case F =>
    intro w mg fa h KX G hmg
    refine' R13.all_mk KX G hmg ?a_R ?a_St ?a_Ho ?a_Ev ?a_Ov ?a_Un ?a_Os ?a_Us ?a0 ?l0 ?c0 ?k0 ?a1 ?l1 ?c1 ?k1 ?a2 ?l2 ?c2 ?k2 ?a3 ?l3 ?c3 ?k3 ?a4 ?l4 ?c4 ?k4 ?a5 ?l5 ?c5 ?k5 ?a6 ?l6 ?c6 ?k6 ?a7 ?l7 ?c7 ?k7 ?a8 ?l8 ?c8 ?k8 ?a9 ?l9 ?c9 ?k9 ?a10 ?l10 ?c10 ?k10 ?a11 ?l11 ?c11 ?k11 ?a12 ?l12 ?c12 ?k12 ?a13 ?l13 ?c13 ?k13 ?a14 ?l14 ?c14 ?k14 ?a15 ?l15 ?c15 ?k15 ?a16 ?l16 ?c16 ?k16 ?a17 ?l17 ?c17 ?k17 ?a18 ?l18 ?c18 ?k18 ?a19 ?l19 ?c19 ?k19 ?a20 ?l20 ?c20 ?k20 ?a21 ?l21 ?c21 ?k21 ?a22 ?l22 ?c22 ?k22 ?a23 ?l23 ?c23 ?k23 ?a24 ?l24 ?c24 ?k24 ?a25 ?l25 ?c25 ?k25 ?a26 ?l26 ?c26 ?k26 ?a27 ?l27 ?c27 ?k27 ?a28 ?l28 ?c28 ?k28 ?a29 ?l29 ?c29 ?k29 ?a30 ?l30 ?c30 ?k30 ?am_RI ?im_RI ?lm_RI ?cm_RI ?km_RI ?pg_R ?hd_R ?po_R ?sa_R ?mk_R ?kc_R ?n_R_top ?n_R_bottom ?n_R_lengths ?n_R_turned ?n_R_size ?ic_R ?mo_R ?am_StI ?im_StI ?lm_StI ?cm_StI ?km_StI ?am_StL ?im_StL ?lm_StL ?cm_StL ?km_StL ?pg_St ?hd_St ?po_St ?sa_St ?am_HoI ?im_HoI ?lm_HoI ?cm_HoI ?km_HoI ?am_HoW ?im_HoW ?lm_HoW ?cm_HoW ?km_HoW ?am_HoL ?im_HoL ?lm_HoL ?cm_HoL ?km_HoL ?am_HoB ?im_HoB ?lm_HoB ?cm_HoB ?km_HoB ?pg_Ho ?hd_Ho ?po_Ho ?sa_Ho ?mk_Ho ?kc_Ho ?n_Ho_winner ?n_Ho_loser ?n_Ho_times ?ic_Ho ?mo_Ho ?am_EvI ?im_EvI ?lm_EvI ?cm_EvI ?km_EvI ?am_EvW ?im_EvW ?lm_EvW ?cm_EvW ?km_EvW ?am_EvB ?im_EvB ?lm_EvB ?cm_EvB ?km_EvB ?ih_Ev_losers ?pg_Ev ?hd_Ev ?po_Ev ?sa_Ev ?mk_Ev ?kc_Ev ?n_Ev_winner ?n_Ev_loser ?n_Ev_times ?ic_Ev ?mo_Ev ?am_OvI ?im_OvI ?lm_OvI ?cm_OvI ?km_OvI ?am_OvW ?im_OvW ?lm_OvW ?cm_OvW ?km_OvW ?am_OvB ?im_OvB ?lm_OvB ?cm_OvB ?km_OvB ?ih_Ov_losers ?pg_Ov ?hd_Ov ?po_Ov ?sa_Ov ?mk_Ov ?kc_Ov ?n_Ov_winner ?n_Ov_loser ?n_Ov_times ?ic_Ov ?mo_Ov ?am_UnI ?im_UnI ?lm_UnI ?cm_UnI ?km_UnI ?am_UnW ?im_UnW ?lm_UnW ?cm_UnW ?km_UnW ?am_UnB ?im_UnB ?lm_UnB ?cm_UnB ?km_UnB ?ih_Un_losers ?pg_Un ?hd_Un ?po_Un ?sa_Un ?mk_Un ?kc_Un ?n_Un_winner ?n_Un_loser ?n_Un_times ?ic_Un ?mo_Un ?am_OsI ?im_OsI ?lm_OsI ?cm_OsI ?km_OsI ?am_OsW ?im_OsW ?lm_OsW ?cm_OsW ?km_OsW ?am_OsL ?im_OsL ?lm_OsL ?cm_OsL ?km_OsL ?am_OsB ?im_OsB ?lm_OsB ?cm_OsB ?km_OsB ?pg_Os ?hd_Os ?po_Os ?sa_Os ?mk_Os ?kc_Os ?n_Os_winner ?n_Os_loser ?n_Os_times ?ic_Os ?mo_Os ?am_UsI ?im_UsI ?lm_UsI ?cm_UsI ?km_UsI ?am_UsW ?im_UsW ?lm_UsW ?cm_UsW ?km_UsW ?am_UsL ?im_UsL ?lm_UsL ?cm_UsL ?km_UsL ?am_UsB ?im_UsB ?lm_UsB ?cm_UsB ?km_UsB ?pg_Us ?hd_Us ?po_Us ?sa_Us ?mk_Us ?kc_Us ?n_Us_winner ?n_Us_loser ?n_Us_times ?ic_Us ?mo_Us ?sget ?stk ?z_len ?z_sum ?z_tuple ?z_list ?z_range ?z_isinstance ?z_int ?z_bool ?z_all ?sbB ?rdB ?fdB ?aO ?xO ?aLE ?xm ?kt
    (case a_R => k_is)
    (case a_St => k_is)
    (case a_Ho => k_is)
    (case a_Ev => k_is)
    (case a_Ov => k_is)
    (case a_Un => k_is)
    (case a_Os => k_is)
    (case a_Us => k_is)
    (case a0 => k_is)
    (case l0 => k_is)
    (case c0 => k_is)
    (case k0 => k_is)
    (case a1 => k_is)
    (case l1 => k_is)
    (case c1 => k_is)
    (case k1 => k_is)
    (case a2 => k_is)
    (case l2 => k_is)
    (case c2 => k_is)
    (case k2 => k_is)
    (case a3 => k_is)
    (case l3 => k_is)
    (case c3 => k_is)
    (case k3 => k_is)
    (case a4 => k_is)
    (case l4 => k_is)
    (case c4 => k_is)
    (case k4 => k_is)
    (case a5 => k_is)
    (case l5 => k_is)
    (case c5 => k_is)
    (case k5 => k_is)
    (case a6 => k_is)
    (case l6 => k_is)
    (case c6 => k_is)
    (case k6 => k_is)
    (case a7 => k_is)
    (case l7 => k_is)
    (case c7 => k_is)
    (case k7 => k_is)
    (case a8 => k_is)
    (case l8 => k_is)
    (case c8 => k_is)
    (case k8 => k_is)
    (case a9 => k_is)
    (case l9 => k_is)
    (case c9 => k_is)
    (case k9 => k_is)
    (case a10 => k_is)
    (case l10 => k_is)
    (case c10 => k_is)
    (case k10 => k_is)
    (case a11 => k_is)
    (case l11 => k_is)
    (case c11 => k_is)
    (case k11 => k_is)
    (case a12 => k_is)
    (case l12 => k_is)
    (case c12 => k_is)
    (case k12 => k_is)
    (case a13 => k_is)
    (case l13 => k_is)
    (case c13 => k_is)
    (case k13 => k_is)
    (case a14 => k_is)
    (case l14 => k_is)
    (case c14 => k_is)
    (case k14 => k_is)
    (case a15 => k_is)
    (case l15 => k_is)
    (case c15 => k_is)
    (case k15 => k_is)
    (case a16 => k_is)
    (case l16 => k_is)
    (case c16 => k_is)
    (case k16 => k_is)
    (case a17 => k_is)
    (case l17 => k_is)
    (case c17 => k_is)
    (case k17 => k_is)
    (case a18 => k_is)
    (case l18 => k_is)
    (case c18 => k_is)
    (case k18 => k_is)
    (case a19 => k_is)
    (case l19 => k_is)
    (case c19 => k_is)
    (case k19 => k_is)
    (case a20 => k_is)
    (case l20 => k_is)
    (case c20 => k_is)
    (case k20 => k_is)
    (case a21 => k_is)
    (case l21 => k_is)
    (case c21 => k_is)
    (case k21 => k_is)
    (case a22 => k_is)
    (case l22 => k_is)
    (case c22 => k_is)
    (case k22 => k_is)
    (case a23 => k_is)
    (case l23 => k_is)
    (case c23 => k_is)
    (case k23 => k_is)
    (case a24 => k_is)
    (case l24 => k_is)
    (case c24 => k_is)
    (case k24 => k_is)
    (case a25 => k_is)
    (case l25 => k_is)
    (case c25 => k_is)
    (case k25 => k_is)
    (case a26 => k_is)
    (case l26 => k_is)
    (case c26 => k_is)
    (case k26 => k_is)
    (case a27 => k_is)
    (case l27 => k_is)
    (case c27 => k_is)
    (case k27 => k_is)
    (case a28 => k_is)
    (case l28 => k_is)
    (case c28 => k_is)
    (case k28 => k_is)
    (case a29 => k_is)
    (case l29 => k_is)
    (case c29 => k_is)
    (case k29 => k_is)
    (case a30 => k_is)
    (case l30 => k_is)
    (case c30 => k_is)
    (case k30 => k_is)
    (case am_RI => k_is)
    (case im_RI => k_is)
    (case lm_RI => k_is)
    (case cm_RI => k_is)
    (case km_RI => k_is)
    (case pg_R => k_is)
    (case hd_R => k_is)
    (case po_R => k_is)
    (case sa_R => k_is)
    (case mk_R => k_is)
    (case kc_R => k_is)
    (case n_R_top => k_is)
    (case n_R_bottom => k_is)
    (case n_R_lengths => k_is)
    (case n_R_turned => k_is)
    (case n_R_size => k_is)
    (case ic_R => k_is)
    (case mo_R => k_is)
    (case am_StI => k_is)
    (case im_StI => k_is)
    (case lm_StI => k_is)
    (case cm_StI => k_is)
    (case km_StI => k_is)
    (case am_StL => k_is)
    (case im_StL => k_is)
    (case lm_StL => k_is)
    (case cm_StL => k_is)
    (case km_StL => k_is)
    (case pg_St => k_is)
    (case hd_St => k_is)
    (case po_St => k_is)
    (case sa_St => k_is)
    (case am_HoI => k_is)
    (case im_HoI => k_is)
    (case lm_HoI => k_is)
    (case cm_HoI => k_is)
    (case km_HoI => k_is)
    (case am_HoW => k_is)
    (case im_HoW => k_is)
    (case lm_HoW => k_is)
    (case cm_HoW => k_is)
    (case km_HoW => k_is)
    (case am_HoL => k_is)
    (case im_HoL => k_is)
    (case lm_HoL => k_is)
    (case cm_HoL => k_is)
    (case km_HoL => k_is)
    (case am_HoB => k_is)
    (case im_HoB => k_is)
    (case lm_HoB => k_is)
    (case cm_HoB => k_is)
    (case km_HoB => k_is)
    (case pg_Ho => k_is)
    (case hd_Ho => k_is)
    (case po_Ho => k_is)
    (case sa_Ho => k_is)
    (case mk_Ho => k_is)
    (case kc_Ho => k_is)
    (case n_Ho_winner => k_is)
    (case n_Ho_loser => k_is)
    (case n_Ho_times => k_is)
    (case ic_Ho => k_is)
    (case mo_Ho => k_is)
    (case am_EvI => k_is)
    (case im_EvI => k_is)
    (case lm_EvI => k_is)
    (case cm_EvI => k_is)
    (case km_EvI => k_is)
    (case am_EvW => k_is)
    (case im_EvW => k_is)
    (case lm_EvW => k_is)
    (case cm_EvW => k_is)
    (case km_EvW => k_is)
    (case am_EvB => k_is)
    (case im_EvB => k_is)
    (case lm_EvB => k_is)
    (case cm_EvB => k_is)
    (case km_EvB => k_is)
    (case ih_Ev_losers => k_is)
    (case pg_Ev => k_is)
    (case hd_Ev => k_is)
    (case po_Ev => k_is)
    (case sa_Ev => k_is)
    (case mk_Ev => k_is)
    (case kc_Ev => k_is)
    (case n_Ev_winner => k_is)
    (case n_Ev_loser => k_is)
    (case n_Ev_times => k_is)
    (case ic_Ev => k_is)
    (case mo_Ev => k_is)
    (case am_OvI => k_is)
    (case im_OvI => k_is)
    (case lm_OvI => k_is)
    (case cm_OvI => k_is)
    (case km_OvI => k_is)
    (case am_OvW => k_is)
    (case im_OvW => k_is)
    (case lm_OvW => k_is)
    (case cm_OvW => k_is)
    (case km_OvW => k_is)
    (case am_OvB => k_is)
    (case im_OvB => k_is)
    (case lm_OvB => k_is)
    (case cm_OvB => k_is)
    (case km_OvB => k_is)
    (case ih_Ov_losers => k_is)
    (case pg_Ov => k_is)
    (case hd_Ov => k_is)
    (case po_Ov => k_is)
    (case sa_Ov => k_is)
    (case mk_Ov => k_is)
    (case kc_Ov => k_is)
    (case n_Ov_winner => k_is)
    (case n_Ov_loser => k_is)
    (case n_Ov_times => k_is)
    (case ic_Ov => k_is)
    (case mo_Ov => k_is)
    (case am_UnI => k_is)
    (case im_UnI => k_is)
    (case lm_UnI => k_is)
    (case cm_UnI => k_is)
    (case km_UnI => k_is)
    (case am_UnW => k_is)
    (case im_UnW => k_is)
    (case lm_UnW => k_is)
    (case cm_UnW => k_is)
    (case km_UnW => k_is)
    (case am_UnB => k_is)
    (case im_UnB => k_is)
    (case lm_UnB => k_is)
    (case cm_UnB => k_is)
    (case km_UnB => k_is)
    (case ih_Un_losers => k_is)
    (case pg_Un => k_is)
    (case hd_Un => k_is)
    (case po_Un => k_is)
    (case sa_Un => k_is)
    (case mk_Un => k_is)
    (case kc_Un => k_is)
    (case n_Un_winner => k_is)
    (case n_Un_loser => k_is)
    (case n_Un_times => k_is)
    (case ic_Un => k_is)
    (case mo_Un => k_is)
    (case am_OsI => k_is)
    (case im_OsI => k_is)
    (case lm_OsI => k_is)
    (case cm_OsI => k_is)
    (case km_OsI => k_is)
    (case am_OsW => k_is)
    (case im_OsW => k_is)
    (case lm_OsW => k_is)
    (case cm_OsW => k_is)
    (case km_OsW => k_is)
    (case am_OsL => k_is)
    (case im_OsL => k_is)
    (case lm_OsL => k_is)
    (case cm_OsL => k_is)
    (case km_OsL => k_is)
    (case am_OsB => k_is)
    (case im_OsB => k_is)
    (case lm_OsB => k_is)
    (case cm_OsB => k_is)
    (case km_OsB => k_is)
    (case pg_Os => k_is)
    (case hd_Os => k_is)
    (case po_Os => k_is)
    (case sa_Os => k_is)
    (case mk_Os => k_is)
    (case kc_Os => k_is)
    (case n_Os_winner => k_is)
    (case n_Os_loser => k_is)
    (case n_Os_times => k_is)
    (case ic_Os => k_is)
    (case mo_Os => k_is)
    (case am_UsI => k_is)
    (case im_UsI => k_is)
    (case lm_UsI => k_is)
    (case cm_UsI => k_is)
    (case km_UsI => k_is)
    (case am_UsW => k_is)
    (case im_UsW => k_is)
    (case lm_UsW => k_is)
    (case cm_UsW => k_is)
    (case km_UsW => k_is)
    (case am_UsL => k_is)
    (case im_UsL => k_is)
    (case lm_UsL => k_is)
    (case cm_UsL => k_is)
    (case km_UsL => k_is)
    (case am_UsB => k_is)
    (case im_UsB => k_is)
    (case lm_UsB => k_is)
    (case cm_UsB => k_is)
    (case km_UsB => k_is)
    (case pg_Us => k_is)
    (case hd_Us => k_is)
    (case po_Us => k_is)
    (case sa_Us => k_is)
    (case mk_Us => k_is)
    (case kc_Us => k_is)
    (case n_Us_winner => k_is)
    (case n_Us_loser => k_is)
    (case n_Us_times => k_is)
    (case ic_Us => k_is)
    (case mo_Us => k_is)
    (case sget => k_is)
    (case stk => k_is)
    (case z_len => k_is)
    (case z_sum => k_is)
    (case z_tuple => k_is)
    (case z_list => k_is)
    (case z_range => k_is)
    (case z_isinstance => k_is)
    (case z_int => k_is)
    (case z_bool => k_is)
    (case z_all => k_is)
    (case sbB => k_is)
    (case rdB => k_is)
    (case fdB => k_is)
    (case aO => k_is)
    (case xO => k_exc)
    (case aLE => k_is)
    (case xm => kts_exm)
    (case kt => kit_is)
#print axioms PySem.Challenge.cw_relaid_k13_what_is_left_holds
