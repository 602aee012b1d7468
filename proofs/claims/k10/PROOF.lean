import PyProof.Rows.All
import Wide.All
import OpenK.AllK
import Wide.FinOn
import Lean
import PyProof.EqAt
import PyProof.EqKinds
import PyProof.TupleCall
import PySem.Challenge.RW_relaid_k10_lines_refused_as_read
set_option Elab.async false
set_option linter.all false
set_option maxRecDepth 100000
set_option maxHeartbeats 4000000
namespace L2
open PySem PySem.Spec PyProof.Rows
abbrev Key:=Sum Int Str
def keyIs:Key→Value→Bool
 | .inl k,v=>Value.isInt k v
 | .inr x,v=>Value.isStrOf x v
def keyH (w:World):Key→Int
 | .inl k=>hashInt k
 | .inr x=>hashStr w x
theorem Jl:∀ {k:Key} {v:Value},keyIs k v=true→(∃ i t,k=Sum.inl i∧v=Value.int i t)∨(∃ x t,k=Sum.inr x∧v=Value.str x t)
 | .inl i,v,h=>by
  obtain ⟨t,e⟩:=Value.isInt_shape (k:=i) (v:=v) h
  exact .inl ⟨i,t,rfl,e⟩
 | .inr x,v,h=>by
  obtain ⟨t,e⟩:=Value.isStrOf_shape (x:=x) (v:=v) h
  exact .inr ⟨x,t,rfl,e⟩
theorem key_ll (a b:Int):decide ((Sum.inl a:Key)=Sum.inl b)=(a == b):=by
 by_cases e:a=b
 ·subst e;simp
 ·have h:¬ (Sum.inl a:Key)=Sum.inl b:=fun q=>e (Sum.inl.inj q)
  rw [decide_eq_false h]
  exact (beq_eq_false_iff_ne.mpr e).symm
theorem key_rr (a b:Str):decide ((Sum.inr a:Key)=Sum.inr b)=decide (a=b):=by
 by_cases e:a=b
 ·subst e;simp
 ·have h:¬ (Sum.inr a:Key)=Sum.inr b:=fun q=>e (Sum.inr.inj q)
  rw [decide_eq_false h,decide_eq_false e]
theorem key_lr (a:Int) (b:Str):decide ((Sum.inl a:Key)=Sum.inr b)=false:=decide_eq_false (fun q=>nomatch q)
theorem key_rl (a:Str) (b:Int):decide ((Sum.inr a:Key)=Sum.inl b)=false:=decide_eq_false (fun q=>nomatch q)
def mixKind (prog:Program) (w:World):PySem.KeyKind prog w Key where
 is:=keyIs
 hash:=keyH w
 inj:=fun v a b ha hb=>by
  rcases Jl ha with ⟨i,t,rfl,rfl⟩ | ⟨x,t,rfl,rfl⟩
  ·rcases Jl hb with ⟨j,u,rfl,e⟩ | ⟨y,u,rfl,e⟩
   ·injection e with e1 _;rw [e1]
   ·exact nomatch e
  ·rcases Jl hb with ⟨j,u,rfl,e⟩ | ⟨y,u,rfl,e⟩
   ·exact nomatch e
   ·injection e with e1 _;rw [e1]
 byValue:=fun k v h=>by
  rcases Jl h with ⟨i,t,rfl,rfl⟩ | ⟨x,t,rfl,rfl⟩ <;> rfl
 pyHash:=fun hv h=>by
  rcases Jl hv with ⟨i,t,rfl,rfl⟩ | ⟨x,t,rfl,rfl⟩
  ·exact wpAny_pyHash_int h
  ·exact wpAny_pyHash_str h
 eqBool:=fun hu hv h=>by
  rcases Jl hu with ⟨i,t,rfl,rfl⟩ | ⟨x,t,rfl,rfl⟩
  ·rcases Jl hv with ⟨j,u,rfl,rfl⟩ | ⟨y,u,rfl,rfl⟩
   ·rw [key_ll] at h;exact wpAny_eqBool_int h
   ·rw [key_lr] at h;exact SeqAt.EqAt.int_str i t y u _ _ _ _ h
  ·rcases Jl hv with ⟨j,u,rfl,rfl⟩ | ⟨y,u,rfl,rfl⟩
   ·rw [key_rl] at h;exact SeqAt.EqAt.str_int x t j u _ _ _ _ h
   ·rw [key_rr] at h;exact wpAny_eqBool_str h
 «strs»:=fun k x t v h=>by
  rcases Jl h with ⟨i,u,rfl,e⟩ | ⟨y,u,rfl,e⟩
  ·exact nomatch e
  ·injection e with e1 _
   subst e1
   cases v <;> rfl
end L2
namespace L2
open PySem PySem.Spec PyProof.Rows
inductive V where
 | non | bl (b:Bool) | int (i:Int) | str (x:Str) | byt (b:Array UInt8) | flt (b:UInt64) | ref (a:Addr) | ty (n:String)
 deriving DecidableEq
def RelV:V→Value→Prop
 | .non,u=>u=Value.none
 | .bl b,u=>u=Value.bool b
 | .int i,u=>∃ t,u=Value.int i t
 | .str x,u=>∃ t,u=Value.str x t
 | .byt b,u=>∃ t,u=Value.bytes b t
 | .flt b,u=>∃ t,u=Value.float b t
 | .ref a,u=>u=Value.ref a
 | .ty n,u=>u=Value.type n
abbrev Vals:List V→List Value→Prop:=Paired RelV
theorem Vals.length {xs:List V} {us:List Value} (r:Vals xs us):xs.length=us.length:=Paired.length r
theorem Vals.get:∀ {xs:List V} {us:List Value} {i:Nat} {x:V},Vals xs us→xs[i]?=some x→∃ u,us[i]?=some u∧RelV x u
 | _,_,_,_,.nil,e=>by simp at e
 | _,_,0,_,.cons r _,e=>by simp at e;subst e;exact ⟨_,rfl,r⟩
 | _,_,i + 1,x,.cons _ t,e=>by
  obtain ⟨u,h1,h2⟩:=Vals.get (i:=i) (x:=x) t (by simpa using e)
  exact ⟨u,by simpa using h1,h2⟩
theorem Vals.set {x:V} {u:Value} (r:RelV x u):∀ {xs:List V} {us:List Value} (i:Nat),Vals xs us→Vals (xs.set i x) (us.set i u)
 | _,_,_,.nil=>.nil
 | _,_,0,.cons _ t=>.cons r t
 | _,_,i + 1,.cons q t=>.cons q (Vals.set r i t)
theorem Vals.append:∀ {xs ys:List V} {us ws:List Value},Vals xs us→Vals ys ws→Vals (xs ++ ys) (us ++ ws)
 | _,_,_,_,.nil,s=>s
 | _,_,_,_,.cons r t,s=>.cons r (Vals.append t s)
theorem Vals.take:∀ {xs:List V} {us:List Value} (n:Nat),Vals xs us→Vals (xs.take n) (us.take n)
 | _,_,0,_=>.nil
 | _,_,_ + 1,.nil=>.nil
 | _,_,n + 1,.cons r t=>.cons r (Vals.take n t)
theorem Vals.drop:∀ {xs:List V} {us:List Value} (n:Nat),Vals xs us→Vals (xs.drop n) (us.drop n)
 | _,_,0,r=>r
 | _,_,_ + 1,.nil=>.nil
 | _,_,n + 1,.cons _ t=>Vals.drop n t
def RelO:Option V→Option Value→Prop
 | some v,some u=>RelV v u
 | none,none=>True
 | _,_=>False
def KV {κ:Type}:List (κ × V)→List (κ × Value)→Prop:=Paired fun (p:κ × V) (q:κ × Value)=>p.1=q.1∧RelV p.2 q.2
def kV:Key→V
 | .inl i=>.int i
 | .inr x=>.str x
inductive HO where
  | lst (xs:List V)
  | tup (xs:List V)
  | dK (kvs:List (Key × V)) | dT (kvs:List (List Key × V))
  | set (S:Int→Bool) (n:Nat)
  | ins (C dx:Addr) (fs:List (Str × V))
  | own (x:Addr)
  | xd (fs:List (Str × V))
  | met (f x:Addr)
  | rng (lo hi:Int)
  | frz (o:Obj) (u:HO)
  | tbl (ps:Array Value)
  | ext (φ:Heap→Prop)
abbrev Hp:=Addr→Option HO
def upd (H:Hp) (a:Addr) (o:HO):Hp:=fun b=>if b=a then some o else H b
theorem J2 {H:Hp} {a:Addr} {o:HO}:upd H a o a=some o:=by unfold upd;rw [if_pos rfl]
theorem Jd {H:Hp} {a b:Addr} {o:HO} (h:b≠a):upd H a o b=H b:=by unfold upd;rw [if_neg h]
theorem upd_upd {H:Hp} {a:Addr} {o u:HO}:upd (upd H a o) a u=upd H a u:=by
 funext b;unfold upd;split <;> rfl
theorem ne_of {H:Hp} {a b:Addr} {o u:HO} (h:H a=some o) (h':H b=some u) (d:o≠u):a≠b:=by
 intro e;subst e;rw [h] at h';exact d (Option.some.inj h')
theorem Jc {H:Hp} {a b:Addr} {o:HO} (h:H a=some o) (h':H b=none):a≠b:=by
 intro e;subst e;rw [h] at h';cases h'
section
variable (P:Program) (w:World)
def TupX (h:Heap) (a:Addr) (items:Array Value):Prop:=∃ o,h.get? a=some o∧(o.cls=.type "tuple"∧o.dict=none)∧∃ n,o.data=.seq items n
theorem TupX.tup {h:Heap} {a:Addr} {items:Array Value} (x:TupX h a items):IsTup h a items:=let ⟨o,e,c,r⟩:=x;⟨o,e,c.1,r⟩
theorem TupX.lt {h:Heap} {a:Addr} {items:Array Value} (x:TupX h a items):a < h.objs.size:=let ⟨_,e,_⟩:=x;Heap.lt_size e
theorem TupX.new (h:Heap) (items:Array Value):TupX (h.push { cls:=.type "tuple",data:=.seq items }) h.objs.size items:=⟨_,Heap.get?_push_size _ rfl,⟨rfl,rfl⟩,_,rfl⟩
def ObjOk (H:Hp) (h:Heap) (a:Addr):HO→Prop
 | .lst xs=>xs.length≤sizeLine∧∃ (its:List Value) (n:Nat),Vals xs its∧h.get? a=some { cls:=.type "list",data:=.seq its.toArray n }
 | .tup xs=>xs.length≤sizeLine∧∃ its:List Value,Vals xs its∧TupX h a its.toArray
 | .dK kvs=>kvs.length≤sizeLine∧(a == sysModules)=false∧∃ vs,KV kvs vs∧h.DictOf (mixKind P w) a vs
 | .dT kvs=>kvs.length≤sizeLine∧(a == sysModules)=false∧∃ xs:List (List Key × Addr × Value),
   Paired (fun (p:List Key × V) (q:List Key × Addr × Value)=>p.1=q.1∧H q.2.1=some (.tup (p.1.map kV))∧RelV p.2 q.2.2) kvs xs∧
   ∃ o es ep,h.get? a=some o∧o.ExactDict∧o.data=.dict es ep∧es.toList=xs.map (entryOfKey (tupleKind (mixKind P w)))∧(xs.map (·.1)).Nodup
 | .set S n=>h.SetOf (intKind P w) a S n
 | .ins C dx fs=>H dx=some (.own a)∧fs.length≤1000∧dx≠a∧h.get? a=some (PySem.W.instObj C dx)∧
   ∃ mA,h.Ns1 dx mA∧(∀ f,RelO (fs.lookup f) (mA f))∧PySem.Within mA (fs.map (·.1))
 | .own _=>∃ o,h.get? a=some o
 | .xd fs=>∃ mA,h.Ns1 a mA∧∀ f,RelO (fs.lookup f) (mA f)
 | .rng lo hi=>∃ t u v,h.get? a=some { cls:=.type "range",data:=.fields #[.int lo t,.int hi u,.int 1 v] }
 | .frz o u=>h.get? a=some o∧ObjOk H h a u
 | .tbl ps=>h.get? a=some { cls:=.none,data:=.fields ps }
 | .met f x=>h.get? a=some (PySem.W.methodObj (.ref f) (.ref x))
 | .ext φ=>φ h∧(∃ o,h.get? a=some o)∧∀ h1 h2:Heap,φ h1→(∀ o,h1.get? a=some o→h2.get? a=some o)→φ h2
def HOk (H:Hp) (h:Heap):Prop:=∀ a o,H a=some o→ObjOk P w H h a o
end
section
variable {P:Program} {w:World} {H H':Hp} {h h':Heap} {a:Addr} {o:HO}
theorem ObjOk.lt (x:ObjOk P w H h a o):a < h.objs.size:=by
 cases o with
 | lst xs=>obtain ⟨_,_,_,_,e⟩:=x;exact Heap.lt_size e
 | tup xs=>obtain ⟨_,_,_,p⟩:=x;exact p.lt
 | dK kvs=>obtain ⟨_,_,_,_,o,_,_,e,_⟩:=x;exact Heap.lt_size e
 | dT kvs=>obtain ⟨_,_,_,_,o,_,_,e,_⟩:=x;exact Heap.lt_size e
 | set S n=>obtain ⟨o,_,_,_,e,_⟩:=x;exact Heap.lt_size e
 | ins C dx fs=>obtain ⟨_,_,_,e,_⟩:=x;exact Heap.lt_size e
 | own y=>obtain ⟨_,e⟩:=x;exact Heap.lt_size e
 | xd fs=>obtain ⟨_,⟨_,_,_,e,_⟩,_⟩:=x;exact Heap.lt_size e
 | rng lo hi=>obtain ⟨_,_,_,e⟩:=x;exact Heap.lt_size e
 | frz ob u=>obtain ⟨e,_⟩:=x;exact Heap.lt_size e
 | tbl ps=>exact Heap.lt_size (show h.get? a=some _ from x)
 | met f y=>exact Heap.lt_size (show h.get? a=some _ from x)
 | ext φ=>obtain ⟨_,⟨_,e⟩,_⟩:=x;exact Heap.lt_size e
theorem Paired.mapP {α β:Type} {F G:α→β→Prop}:∀ {l₁:List α} {l₂:List β},Paired F l₁ l₂→(∀ a b,F a b→G a b)→Paired G l₁ l₂
 | _,_,.nil,_=>.nil
 | _,_,.cons r t,f=>.cons (f _ _ r) (Paired.mapP t f)
theorem ObjOk.stay (x:ObjOk P w H h a o) (k:∀ b u,(b=a∨H b=some (.own a))→h.get? b=some u→h'.get? b=some u)
  (ho:∀ b,H b=some (.own a)→H' b=some (.own a)) (ht:∀ b xs,H b=some (.tup xs)→H' b=some (.tup xs)):ObjOk P w H' h' a o:=by
 induction o with
 | lst xs=>obtain ⟨z,its,n,r,e⟩:=x;exact ⟨z,its,n,r,k _ _ (.inl rfl) e⟩
 | tup xs=>obtain ⟨z,its,r,ob,e,c⟩:=x;exact ⟨z,its,r,ob,k _ _ (.inl rfl) e,c⟩
 | dK kvs=>obtain ⟨z,y,vs,r,ob,es,ep,e,c⟩:=x;exact ⟨z,y,vs,r,ob,es,ep,k _ _ (.inl rfl) e,c⟩
 | dT kvs =>
  obtain ⟨z,y,xs,r,ob,es,ep,e,c⟩:=x
  exact ⟨z,y,xs,Paired.mapP r fun p q z=>⟨z.1,ht _ _ z.2.1,z.2.2⟩,ob,es,ep,k _ _ (.inl rfl) e,c⟩
 | set S n=>obtain ⟨ob,es,ep,t,e,c⟩:=x;exact ⟨ob,es,ep,t,k _ _ (.inl rfl) e,c⟩
 | ins C dx fs =>
  obtain ⟨d,z,ne,e,mA,⟨od,es,ep,e2,c⟩,r⟩:=x
  exact ⟨ho _ d,z,ne,k _ _ (.inl rfl) e,mA,⟨od,es,ep,k _ _ (.inr d) e2,c⟩,r⟩
 | own y=>obtain ⟨ob,e⟩:=x;exact ⟨ob,k _ _ (.inl rfl) e⟩
 | xd fs=>obtain ⟨mA,⟨od,es,ep,e,c⟩,r⟩:=x;exact ⟨mA,⟨od,es,ep,k _ _ (.inl rfl) e,c⟩,r⟩
 | rng lo hi=>obtain ⟨t,u,v,e⟩:=x;exact ⟨t,u,v,k _ _ (.inl rfl) e⟩
 | frz ob u ih=>obtain ⟨e,q⟩:=x;exact ⟨k _ _ (.inl rfl) e,ih q⟩
 | tbl ps =>
  have e:h.get? a=some { cls:=.none,data:=.fields ps }:=x
  show h'.get? a=some { cls:=.none,data:=.fields ps }
  exact k a _ (.inl rfl) e
 | met f y =>
  have e:h.get? a=some (PySem.W.methodObj (.ref f) (.ref y)):=x
  show h'.get? a=some (PySem.W.methodObj (.ref f) (.ref y))
  exact k a _ (.inl rfl) e
 | ext φ=>obtain ⟨p,⟨o,e⟩,st⟩:=x;exact ⟨st _ _ p fun o q=>k _ _ (.inl rfl) q,⟨o,k _ _ (.inl rfl) e⟩,st⟩
theorem HOk.lt (x:HOk P w H h) (e:H a=some o):a < h.objs.size:=(x a o e).lt
theorem HOk.fresh (x:HOk P w H h) (e:h.objs.size≤a):H a=none:=by
 cases q:H a with
 | none=>rfl
 | some u=>exact absurd (Nat.lt_of_lt_of_le (x.lt q) e) (Nat.lt_irrefl _)
theorem HOk.kept (x:HOk P w H h) (k:∀ b u,h.get? b=some u→h'.get? b=some u):HOk P w H h':=fun a o e =>
 (x a o e).stay (fun b u _ q=>k b u q) (fun _ q=>q) fun _ _ q=>q
theorem HOk.laid (x:HOk P w H h) (k:∀ b u,h.get? b=some u→h'.get? b=some u) (hp:h.objs.size≤a) (new:ObjOk P w (upd H a o) h' a o):HOk P w (upd H a o) h':=fun b u e=>by
 have hn:=x.fresh hp
 by_cases hb:b=a
 ·subst hb;rw [J2] at e;cases e;exact new
 ·rw [Jd hb] at e
  exact (x b u e).stay (fun c v _ q=>k c v q) (fun c q=>by rw [Jd (Jc q hn)];exact q) fun c xs q=>by rw [Jd (Jc q hn)];exact q
end
def Rd (H:Hp) (a:Addr) (u:HO):Prop:=H a=some u∨∃ o,H a=some (.frz o u)
theorem Rd.ok {P:Program} {w:World} {H:Hp} {h:Heap} {a:Addr} {u:HO} (r:Rd H a u) (x:HOk P w H h):ObjOk P w H h a u:=by
 rcases r with r | ⟨o,r⟩
 ·exact x a u r
 ·obtain ⟨_,q⟩:=x a _ r
  exact q
def Mut:Option HO→Prop
 | some (.lst _)=>True
 | some (.dK _)=>True
 | some (.dT _)=>True
 | some (.set _ _)=>True
 | some (.ins _ _ _)=>True
 | some (.ext _)=>True
 | _=>False
section
variable {P:Program} {w:World} {H:Hp} {h h':Heap} {x e:Addr} {o':HO}
theorem HOk.write (ok:HOk P w H h) (mu:Mut (H x)) (he:e=x∨H e=some (.own x)) (k:∀ b u,b≠e→h.get? b=some u→h'.get? b=some u) (heo:∃ u,h'.get? e=some u)
  (new:ObjOk P w (upd H x o') h' x o'):HOk P w (upd H x o') h':=fun b u q=>by
 have nown:∀ c y,H c=some (.own y)→c≠x:=fun c y r z=>by subst z;rw [r] at mu;exact mu
 have ntup:∀ c xs,H c=some (.tup xs)→c≠x:=fun c xs r z=>by subst z;rw [r] at mu;exact mu
 by_cases hb:b=x
 ·subst hb;rw [J2] at q;cases q;exact new
 ·rw [Jd hb] at q
  by_cases hbe:b=e
  ·have q':H b=some (.own x):=by
    rcases he with z | z
    ·exact absurd (hbe.trans z) hb
    ·rw [hbe];exact z
   rw [q] at q';cases q'
   obtain ⟨v,hv⟩:=heo
   exact ⟨v,by rw [hbe];exact hv⟩
  ·refine (ok b u q).stay (fun c v hc r=>k c v ?_ r) (fun c r=>by rw [Jd (nown c b r)];exact r) fun c xs r=>by rw [Jd (ntup c xs r)];exact r
   rcases hc with rfl | hc
   ·exact hbe
   ·rintro rfl
    rcases he with z | z
    ·exact nown c b hc z
    ·rw [hc] at z;cases z;exact hb rfl
end
structure Un (fs ex:List Addr) (H H':Hp) (h h':Heap):Prop where
 keep:∀ b o,h.get? b=some o→H b=none→b ∉ fs→b ∉ ex→h'.get? b=some o
 slot:∀ b o,h.get? b=some o→H b=none→b∈fs→b ∉ ex→∃ sl,h'.get? b=some { o with slots:=sl }
 free:∀ b o,h.get? b=some o→H b=none→b ∉ ex→H' b=none
 there:∀ b o,h.get? b=some o→b ∉ ex→∃ o',h'.get? b=some o'
 tups:∀ b xs,H b=some (.tup xs)→H' b=some (.tup xs)
 frzs:∀ b o u,H b=some (.frz o u)→H' b=some (.frz o u)
 tbls:∀ b ps,H b=some (.tbl ps)→∃ more,H' b=some (.tbl (ps ++ more))
section
variable {fs fs' ex ex':List Addr} {H H1 H2:Hp} {h h1 h2 h':Heap} {a x e:Addr} {o:HO}
theorem Un.any (u:Un fs ex H H1 h h1) {b:Addr} {ob:Obj} (q:h.get? b=some ob) (n:H b=none) (hx:b ∉ ex):∃ sl,h1.get? b=some { ob with slots:=sl }:=by
 by_cases hb:b∈fs
 ·exact u.slot b ob q n hb hx
 ·exact ⟨ob.slots,u.keep b ob q n hb hx⟩
theorem Un.trans (a:Un fs ex H H1 h h1) (b:Un fs ex H1 H2 h1 h2):Un fs ex H H2 h h2 where
 keep:=fun c ob q n hc hx=>b.keep c ob (a.keep c ob q n hc hx) (a.free c ob q n hx) hc hx
 slot:=fun c ob q n hc hx=>by
  obtain ⟨sl,e1⟩:=a.slot c ob q n hc hx
  obtain ⟨sl',e2⟩:=b.slot c _ e1 (a.free c ob q n hx) hc hx
  exact ⟨sl',e2⟩
 free:=fun c ob q n hx=>by
  obtain ⟨o',e1⟩:=a.there c ob q hx
  exact b.free c o' e1 (a.free c ob q n hx) hx
 there:=fun c ob q hx=>by
  obtain ⟨o',e1⟩:=a.there c ob q hx
  exact b.there c o' e1 hx
 tups:=fun c xs q=>b.tups c xs (a.tups c xs q)
 frzs:=fun c ob xs q=>b.frzs c ob xs (a.frzs c ob xs q)
 tbls:=fun c ps q=>by
  obtain ⟨m1,e1⟩:=a.tbls c ps q
  obtain ⟨m2,e2⟩:=b.tbls c _ e1
  exact ⟨m1 ++ m2,by rw [e2,Array.append_assoc]⟩
theorem Un.kept (k:∀ b u,h.get? b=some u→h'.get? b=some u):Un fs ex H H h h' :=
 ⟨fun b ob q _ _ _=>k b ob q,fun b ob q _ _ _=>⟨ob.slots,k b ob q⟩,fun _ _ _ n _=>n,fun b ob q _=>⟨ob,k b ob q⟩,fun _ _ q=>q,fun _ _ _ q=>q,fun _ ps q=>⟨#[],by rw [q];simp⟩⟩
theorem Un.refl:Un fs ex H H h h:=Un.kept fun _ _ q=>q
theorem Un.laid (k:∀ b u,h.get? b=some u→h'.get? b=some u) (hp:h.objs.size≤a) (hn:H a=none):Un fs ex H (upd H a o) h h' where
 keep:=fun b u q _ _ _=>k b u q
 slot:=fun b u q _ _ _=>⟨u.slots,k b u q⟩
 free:=fun b u q n _=>by rw [Jd (Nat.ne_of_lt (Nat.lt_of_lt_of_le (Heap.lt_size q) hp))];exact n
 there:=fun b u q _=>⟨u,k b u q⟩
 tups:=fun b xs q=>by rw [Jd (Jc q hn)];exact q
 frzs:=fun b u xs q=>by rw [Jd (Jc q hn)];exact q
 tbls:=fun b ps q=>⟨#[],by rw [Jd (Jc q hn),q];simp⟩
theorem Un.write (mu:Mut (H x)) (he:e=x∨H e=some (.own x)) (k:∀ b u,b≠e→h.get? b=some u→h'.get? b=some u) (heo:∃ u,h'.get? e=some u):Un fs ex H (upd H x o) h h':=by
 have hx:∀ b,H b=none→b≠x:=fun b n z=>by subst z;rw [n] at mu;exact mu
 have hb:∀ b,H b=none→b≠e:=fun b n z=>by
  subst z
  rcases he with r | r
  ·exact hx b n r
  ·rw [n] at r;cases r
 have hm:∀ b u,H b=some u→¬ Mut (some u)→b≠x:=fun b u q nm z=>by subst z;rw [q] at mu;exact nm mu
 refine ⟨fun b u q n _ _=>k b u (hb b n) q,fun b u q n _ _=>⟨u.slots,k b u (hb b n) q⟩,fun b u q n _=>by rw [Jd (hx b n)];exact n,fun b u q _=>?_,
  fun b xs q=>by rw [Jd (hm b _ q fun z=>z)];exact q,fun b u xs q=>by rw [Jd (hm b _ q fun z=>z)];exact q,fun b ps q=>⟨#[],by rw [Jd (hm b _ q fun z=>z),q];simp⟩⟩
 by_cases hbe:b=e
 ·subst hbe;exact heo
 ·exact ⟨u,k b u hbe q⟩
theorem Un.mono (u:Un fs ex H H1 h h1) (hs:∀ b∈fs,b∈fs') (hx:∀ b∈ex,b∈ex'):Un fs' ex' H H1 h h1 :=
 ⟨fun b ob q n hb he=>u.keep b ob q n (fun z=>hb (hs b z)) fun z=>he (hx b z),fun _ _ q n _ he=>u.any q n fun z=>he (hx _ z),fun b ob q n he=>u.free b ob q n fun z=>he (hx b z),fun b ob q he=>u.there b ob q fun z=>he (hx b z),u.tups,u.frzs,u.tbls⟩
end
def trk (h:Heap) (H:Hp):List Addr:=(List.range h.objs.size).filter fun a=>(H a).isSome
def hidT (h:Heap) (H:Hp):Heap:=PySem.W.hideAll h (trk h H)
theorem hidT_size (h:Heap) (H:Hp):(hidT h H).objs.size=h.objs.size:=PySem.W.hideAll_size _ _
theorem hidT_get {h:Heap} {H:Hp} {b:Addr} {o:Obj} (e:h.get? b=some o) (n:H b=none):(hidT h H).get? b=some o :=
 PySem.W.hideAll_get _ e fun hm=>by
  have q:(H b).isSome=true:=(List.mem_filter.mp hm).2
  rw [n] at q;simp at q
theorem of_hidT {h:Heap} {H:Hp} {b:Addr} {o:Obj} (e:(hidT h H).get? b=some o):h.get? b=some o∧H b=none:=by
 have e':h.get? b=some o:=PySem.W.of_hideAll (trk h H) e
 refine ⟨e',?_⟩
 cases q:H b with
 | none=>rfl
 | some x =>
  have hm:b∈trk h H:=List.mem_filter.mpr ⟨List.mem_range.mpr (Heap.lt_size e'),by simp [q]⟩
  have z:(hidT h H).get? b=none:=PySem.W.hideAll_none (trk h H) hm
  rw [z] at e;cases e
def allNews (g h:Heap) (L:Addr):List (Addr × Obj):=(List.range h.objs.size).filterMap fun a=>if a=L∨(g.get? a).isSome=true then none else (h.get? a).map fun o=>(a,o)
def rest (g h:Heap) (L d:Addr):List (Addr × Obj):=(allNews g h L).filter fun p=>decide (p.1≠d)
end L2
namespace L2
open PySem PySem.Spec PyProof.Rows
structure Mod (K:PySem.W.Frag) (mg:Str→Option Value) (base:Heap):Prop where
 kin:K.In base
 glob:base.Ns mainGlobals mg
 blt:∃ mb,base.Ns builtinsNs mb∧∀ x:Str,x≠"__name__"→mb x=bootBuiltins x
 nolimit:base.NoLimit
structure Cx where
 prog:Program
 w:World
 K:PySem.W.Frag
 mg:Str→Option Value
 base:Heap
 A:Around
 N:List Str
 s₀:Shared
 H₀:Hp
 env:Env
 outer:List Env
 stack:List Env
 ex:List Addr
 fn:Str→Bool
 calm:Bool
 pn:List (Addr × Obj)
 xe:Value→Shared→Prop
def frs (l:List Env):List Addr:=l.filterMap (·.frame)
abbrev Cx.fs (X:Cx):List Addr:=frs X.outer
def Vis (sc:Scope) (x:Str):Prop:=sc.names.lookup x=some .local∨sc.names.lookup x=some .cell∨sc.names.lookup x=some .free
def Loc (sc:Scope) (x:Str):Prop:=sc.names.lookup x=some .local∨sc.names.lookup x=some .cell
def Look (env:Env) (h:Heap) (m:Str→Option Value) (x:Str) (u:Value):Prop :=
 (env.kindOf x=some .local∧m x=some u)∨((env.kindOf x=some .cell∨env.kindOf x=some .free)∧∃ c,env.cells.lookup x=some c∧h.IsCell c (some u))
structure Cx.Ok (X:Cx):Prop where
 mod:Mod X.K X.mg X.base
 kind:X.env.scope.kind=.function
 glob:X.env.globals=mainGlobals
 blt:X.env.builtins=builtinsNs
 above:X.s₀.heap.objs.size≤X.env.locals
 inj:∀ x y c,X.env.cells.lookup x=some c→X.env.cells.lookup y=some c→x=y
 has:∀ x,(X.env.kindOf x=some .cell∨X.env.kindOf x=some .free)→∃ c,X.env.cells.lookup x=some c
 cab:∀ x c,X.fn x=true→X.env.cells.lookup x=some c→X.s₀.heap.objs.size≤c
 hd:X.calm=true→X.A.handled=none
 frames:X.A.frames=some X.stack
 stk:X.stack=X.outer∨(X.stack=X.env :: X.outer∧X.env.frame=some X.env.locals)
 exf:∀ b∈X.ex,b≠X.env.locals∧∀ x c,X.env.cells.lookup x=some c→c≠b
 bs:∀ b o,X.base.get? b=some o→X.s₀.heap.get? b=some o∧X.H₀ b=none
 bsz:X.base.objs.size≤X.s₀.heap.objs.size
 noex:∀ b o,X.base.get? b=some o→b ∉ X.ex
 exfs:∀ b∈X.ex,b ∉ X.fs
 funs:X.s₀.heap.FunFrames X.base X.outer
 frf:∀ b∈X.fs,X.H₀ b=none
structure Inv (X:Cx) (pins:List (Addr × Obj)) (σ:List (Option V)) (H:Hp) (s:Shared):Prop where
 ok:X.Ok
 os:s.os=X.s₀.os
 bare:AllBare s.gens
 base:Un X.fs X.ex X.H₀ H X.s₀.heap s.heap
 loc:∃ m,s.heap.Ns X.env.locals m∧∀ (i:Nat) (x:Str) (v:V),X.N[i]?=some x→σ[i]?=some (some v)→Vis X.env.scope x→∃ u,RelV v u∧Look X.env s.heap m x u
 cell:∀ x c,X.env.cells.lookup x=some c→∃ v,s.heap.IsCell c v
 free:H X.env.locals=none
 freeC:∀ x c,X.env.cells.lookup x=some c→H c=none
 pin:∀ p∈X.pn ++ pins,s.heap.get? p.1=some p.2∧H p.1=none∧p.1≠X.env.locals∧p.1 ∉ X.fs∧∀ v,p.2.data≠.cell v
 hok:HOk X.prog X.w H s.heap
 len:σ.length=X.N.length
section
variable {X:Cx} {pins:List (Addr × Obj)} {σ:List (Option V)} {H H':Hp} {s:Shared} {h':Heap}
theorem Cx.Ok.nofr (ok:X.Ok) {b:Addr} {o:Obj} (e:X.base.get? b=some o):b ∉ X.fs:=fun hb=>by
 have:=(ok.funs.mem hb).1
 rw [e] at this;cases this
theorem Inv.bs (I:Inv X pins σ H s):∀ b o,X.base.get? b=some o→s.heap.get? b=some o∧H b=none:=fun b o e =>
 ⟨I.base.keep b o (I.ok.bs b o e).1 (I.ok.bs b o e).2 (I.ok.nofr e) (I.ok.noex b o e),I.base.free b o (I.ok.bs b o e).1 (I.ok.bs b o e).2 (I.ok.noex b o e)⟩
theorem Inv.bk (I:Inv X pins σ H s):∀ b o,X.base.get? b=some o→s.heap.get? b=some o:=fun b o e=>(I.bs b o e).1
theorem Inv.mod (I:Inv X pins σ H s):Mod X.K X.mg X.base:=I.ok.mod
theorem Inv.kIn (I:Inv X pins σ H s):X.K.In s.heap:=I.ok.mod.kin.keeps I.bk
theorem Inv.lt (I:Inv X pins σ H s):X.env.locals < s.heap.objs.size:=let ⟨_,hn,_⟩:=I.loc;hn.lt
theorem Inv.sz (I:Inv X pins σ H s):X.s₀.heap.objs.size≤s.heap.objs.size:=Nat.le_trans I.ok.above (Nat.le_of_lt I.lt)
theorem Inv.nofs (I:Inv X pins σ H s) {a:Addr} (h:s.heap.objs.size≤a):a ∉ X.fs:=fun hb=>by
 obtain ⟨_,o,ho,_⟩:=I.ok.funs.mem hb
 exact absurd (Nat.lt_of_lt_of_le (Heap.lt_size ho) (Nat.le_trans I.sz h)) (Nat.lt_irrefl _)
theorem Inv.cne (I:Inv X pins σ H s):∀ x c,X.env.cells.lookup x=some c→c≠X.env.locals:=fun x c e z=>by
 obtain ⟨v,o,ho,hd⟩:=I.cell x c e
 obtain ⟨m,⟨o',es,ep,ho',hd',_⟩,_⟩:=I.loc
 rw [z,ho'] at ho;cases ho;rw [hd'] at hd;cases hd
theorem Inv.funs (I:Inv X pins σ H s):s.heap.FunFrames X.base X.outer:=by
 have all:∀ (l:List Env),(∀ b∈frs l,b∈X.fs)→X.s₀.heap.FunFrames X.base l→s.heap.FunFrames X.base l:=by
  intro l
  induction l with
  | nil=>intro _ _;trivial
  | cons env r ih =>
   intro hs hl
   obtain ⟨hk,⟨L,o,hf,hn,ho,hd⟩,hr⟩:=hl
   have hL:L∈X.fs:=hs L (by unfold frs;rw [List.filterMap_cons,hf];exact List.mem_cons_self)
   obtain ⟨sl,e⟩:=I.base.slot L o ho (I.ok.frf L hL) hL fun z=>I.ok.exfs L z hL
   exact ⟨hk,⟨L,_,hf,hn,e,hd⟩,ih (fun b hb=>hs b (by unfold frs;rw [List.filterMap_cons,hf];exact List.mem_cons_of_mem _ hb)) hr⟩
 exact all X.outer (fun _ hb=>hb) I.ok.funs
theorem Inv.stack (I:Inv X pins σ H s):s.heap.FunFrames X.base X.stack:=by
 rcases I.ok.stk with e | ⟨e,hf⟩
 ·rw [e];exact I.funs
 ·rw [e]
  obtain ⟨m,hn,_⟩:=I.loc
  refine .cons (by rw [I.ok.kind];decide) hf hn ?_ I.funs
  exact Heap.get?_none_of_le (Nat.le_trans I.ok.bsz I.ok.above)
theorem Inv.stkSub (I:Inv X pins σ H s):∀ b∈frs X.stack,b∈X.env.locals :: X.fs:=fun b hb=>by
 rcases I.ok.stk with e | ⟨e,hf⟩
 ·rw [e] at hb;exact List.mem_cons_of_mem _ hb
 ·rw [e] at hb
  unfold frs at hb
  rw [List.filterMap_cons,hf] at hb
  exact hb
theorem Inv.stkFree (I:Inv X pins σ H s):∀ b∈frs X.stack,H b=none:=fun b hb=>by
 rcases List.mem_cons.mp (I.stkSub b hb) with e | hb
 ·rw [e];exact I.free
 ·obtain ⟨_,o,ho,_⟩:=I.ok.funs.mem hb
  exact I.base.free b o ho (I.ok.frf b hb) fun z=>I.ok.exfs b z hb
theorem Inv.step {g':Array GenState} {t':Nat} {d':Drawn} {ch:List Addr} (I:Inv X pins σ H s)
  (hch:∀ b∈ch,(b∈X.ex∨X.s₀.heap.objs.size≤b)∧b≠X.env.locals∧(∀ x c,X.env.cells.lookup x=some c→c≠b)∧∀ p∈X.pn ++ pins,p.1≠b)
  (keep:∀ b o,b≠X.env.locals→b ∉ X.fs→b ∉ ch→s.heap.get? b=some o→H b=none→h'.get? b=some o)
  (slot:∀ b o,b≠X.env.locals→b∈X.fs→b ∉ ch→s.heap.get? b=some o→H b=none→∃ sl,h'.get? b=some { o with slots:=sl }) (free:∀ b o,b ∉ ch→s.heap.get? b=some o→H b=none→H' b=none)
  (there:∀ b o,b ∉ ch→s.heap.get? b=some o→∃ o',h'.get? b=some o')
  (tups:∀ b xs,H b=some (.tup xs)→H' b=some (.tup xs)) (frzs:∀ b o u,H b=some (.frz o u)→H' b=some (.frz o u)) (tbls:∀ b ps,H b=some (.tbl ps)→∃ more,H' b=some (.tbl (ps ++ more)))
  (ns:∀ m,s.heap.Ns X.env.locals m→h'.Ns X.env.locals m) (hok:HOk X.prog X.w H' h') (hg:AllBare g') :
  Inv X pins σ H' { s with heap:=h',gens:=g',drawn:=d',toks:=t' }:=by
 have neL:∀ b o,X.s₀.heap.get? b=some o→b≠X.env.locals:=fun b o e=>Nat.ne_of_lt (Nat.lt_of_lt_of_le (Heap.lt_size e) I.ok.above)
 have neC:∀ b o,X.s₀.heap.get? b=some o→b ∉ X.ex→b ∉ ch:=fun b o e hx hb=>by
  rcases (hch b hb).1 with z | z
  ·exact hx z
  ·exact absurd (Nat.lt_of_lt_of_le (Heap.lt_size e) z) (Nat.lt_irrefl _)
 have cellK:∀ x c,X.env.cells.lookup x=some c→∀ v,s.heap.IsCell c v→h'.IsCell c v:=fun x c e v ⟨o,ho,hd⟩=>by
  have nch:c ∉ ch:=fun z=>(hch c z).2.2.1 x c e rfl
  by_cases hc:c∈X.fs
  ·obtain ⟨sl,q⟩:=slot c o (I.cne x c e) hc nch ho (I.freeC x c e)
   exact ⟨_,q,hd⟩
  ·exact ⟨o,keep c o (I.cne x c e) hc nch ho (I.freeC x c e),hd⟩
 refine ⟨I.ok,I.os,hg,⟨fun b o e n hb hx=>?_,fun b o e n hb hx=>?_,fun b o e n hx=>?_,fun b o e hx=>?_,fun b xs e=>tups b xs (I.base.tups b xs e),fun b o xs e=>frzs b o xs (I.base.frzs b o xs e),fun b ps e=>?_⟩,?_,fun x c e=>?_,?_,fun x c e=>?_,fun p hp=>?_,hok,I.len⟩
 ·exact keep b o (neL b o e) hb (neC b o e hx) (I.base.keep b o e n hb hx) (I.base.free b o e n hx)
 ·obtain ⟨sl,e1⟩:=I.base.slot b o e n hb hx
  obtain ⟨sl',e2⟩:=slot b _ (neL b o e) hb (neC b o e hx) e1 (I.base.free b o e n hx)
  exact ⟨sl',e2⟩
 ·obtain ⟨o',e1⟩:=I.base.there b o e hx
  exact free b o' (neC b o e hx) e1 (I.base.free b o e n hx)
 ·obtain ⟨o',e1⟩:=I.base.there b o e hx
  exact there b o' (neC b o e hx) e1
 ·obtain ⟨m1,e1⟩:=I.base.tbls b ps e
  obtain ⟨m2,e2⟩:=tbls b _ e1
  exact ⟨m1 ++ m2,by rw [e2,Array.append_assoc]⟩
 ·obtain ⟨m,hn,hl⟩:=I.loc
  refine ⟨m,ns m hn,fun i x v e1 e2 e3=>?_⟩
  obtain ⟨u,r,l⟩:=hl i x v e1 e2 e3
  refine ⟨u,r,?_⟩
  rcases l with l | ⟨k,c,e,z⟩
  ·exact .inl l
  ·exact .inr ⟨k,c,e,cellK x c e _ z⟩
 ·obtain ⟨v,z⟩:=I.cell x c e
  exact ⟨v,cellK x c e v z⟩
 ·obtain ⟨m,⟨o,_,_,ho,_⟩,_⟩:=I.loc
  exact free _ o (fun z=>(hch _ z).2.1 rfl) ho I.free
 ·obtain ⟨v,o,ho,hd⟩:=I.cell x c e
  exact free c o (fun z=>(hch c z).2.2.1 x c e rfl) ho (I.freeC x c e)
 ·obtain ⟨e,n,ne,nf,d⟩:=I.pin p hp
  have nch:p.1 ∉ ch:=fun z=>(hch p.1 z).2.2.2 p hp rfl
  exact ⟨keep p.1 p.2 ne nf nch e n,free p.1 p.2 nch e n,ne,nf,d⟩
theorem Inv.un {t':Nat} (I:Inv X pins σ H s) (u:Un X.fs [] H H' s.heap h') (hok:HOk X.prog X.w H' h'):Inv X pins σ H' { s with heap:=h',toks:=t' }:=by
 obtain ⟨m,⟨o,es,ep,ho,r⟩,_⟩:=id I.loc
 obtain ⟨sl,hL⟩:=u.any ho I.free (by simp)
 exact I.step (g':=s.gens) (d':=s.drawn) (ch:=[]) (fun _ z=>nomatch z) (fun b o _ hb _ e n=>u.keep b o e n hb (by simp)) (fun b o _ hb _ e n=>u.slot b o e n hb (by simp)) (fun b o _ e n=>u.free b o e n (by simp)) (fun b o _ e=>u.there b o e (by simp)) u.tups u.frzs u.tbls (fun m' hm=>by
  obtain ⟨o',es',ep',ho',r'⟩:=hm
  rw [ho] at ho';cases ho'
  exact ⟨_,es',ep',hL,r'⟩) hok I.bare
theorem Inv.call {g':Array GenState} {t':Nat} {d':Drawn} {ch:List Addr} (I:Inv X pins σ H s) (u:Un (frs X.stack) ch H H' s.heap h') (hok:HOk X.prog X.w H' h') (hg:AllBare g')
  (hch:∀ b∈ch,(b∈X.ex∨X.s₀.heap.objs.size≤b)∧b≠X.env.locals∧(∀ x c,X.env.cells.lookup x=some c→c≠b)∧∀ p∈X.pn ++ pins,p.1≠b) :
  Inv X pins σ H' { s with heap:=h',gens:=g',drawn:=d',toks:=t' }:=by
 obtain ⟨m,⟨o,es,ep,ho,r⟩,_⟩:=id I.loc
 obtain ⟨sl,hL⟩:=u.any ho I.free fun z=>(hch _ z).2.1 rfl
 exact I.step (ch:=ch) hch (fun b o hL hb hc e n=>u.keep b o e n (fun z=>(List.mem_cons.mp (I.stkSub b z)).elim hL hb) hc) (fun b o _ _ hc e n=>u.any e n hc) (fun b o hc e n=>u.free b o e n hc) (fun b o hc e=>u.there b o e hc) u.tups u.frzs u.tbls (fun m' hm=>by
  obtain ⟨o',es',ep',ho',r'⟩:=hm
  rw [ho] at ho';cases ho'
  exact ⟨_,es',ep',hL,r'⟩) hok hg
theorem Inv.turned {t':Nat} {it:Addr} (I:Inv X pins σ H s) (k:∀ b o,b≠it→s.heap.get? b=some o→h'.get? b=some o) (hn:H it=none) (hL:it≠X.env.locals)
  (h1:it∈X.ex∨X.s₀.heap.objs.size≤it) (h2:∀ x c,X.env.cells.lookup x=some c→c≠it) (h3:∀ p∈X.pn ++ pins,p.1≠it):Inv X pins σ H { s with heap:=h',toks:=t' }:=by
 have nit:∀ b u,H b=some u→b≠it:=fun b u e z=>by rw [z,hn] at e;cases e
 refine I.step (g':=s.gens) (d':=s.drawn) (ch:=[it]) (fun b hb=>?_) (fun b o _ _ hc e _=>k b o (fun z=>hc (by simp [z])) e) (fun b o _ _ hc e _=>⟨o.slots,k b o (fun z=>hc (by simp [z])) e⟩) (fun _ _ _ _ n=>n)
  (fun b o hc e=>⟨o,k b o (fun z=>hc (by simp [z])) e⟩) (fun _ _ e=>e) (fun _ _ _ e=>e) (fun b ps e=>⟨#[],by rw [e];simp⟩) (fun m hm=>?_) (fun b u e=>?_) I.bare
 ·have e:b=it:=by simpa using hb
  subst e
  exact ⟨h1,hL,h2,h3⟩
 ·obtain ⟨o,es,ep,ho,r⟩:=hm
  exact ⟨o,es,ep,k _ o (Ne.symm hL) ho,r⟩
 ·refine (I.hok b u e).stay (fun c v hc q=>k c v ?_ q) (fun _ q=>q) fun _ _ q=>q
  rcases hc with z | z
  ·rw [z];exact nit b u e
  ·exact nit c _ z
theorem Inv.tok (I:Inv X pins σ H s) (t:Nat):Inv X pins σ H { s with toks:=t }:=I.un (h':=s.heap) (t':=t) Un.refl I.hok
theorem Inv.kept {t':Nat} (I:Inv X pins σ H s) (k:∀ b u,s.heap.get? b=some u→h'.get? b=some u):Inv X pins σ H { s with heap:=h',toks:=t' }:=I.un (Un.kept k) (I.hok.kept k)
theorem Inv.laid {a:Addr} {o:HO} {t':Nat} (I:Inv X pins σ H s) (k:∀ b u,s.heap.get? b=some u→h'.get? b=some u) (hp:s.heap.objs.size≤a) (new:ObjOk X.prog X.w (upd H a o) h' a o) :
  Inv X pins σ (upd H a o) { s with heap:=h',toks:=t' }:=I.un (Un.laid k hp (I.hok.fresh hp)) (I.hok.laid k hp new)
theorem Inv.write {x e:Addr} {o:HO} {t':Nat} (I:Inv X pins σ H s) (mu:Mut (H x)) (he:e=x∨H e=some (.own x)) (k:∀ b u,b≠e→s.heap.get? b=some u→h'.get? b=some u) (heo:∃ u,h'.get? e=some u)
  (new:ObjOk X.prog X.w (upd H x o) h' x o):Inv X pins σ (upd H x o) { s with heap:=h',toks:=t' }:=I.un (Un.write mu he k heo) (I.hok.write mu he k heo new)
theorem Inv.pins_of {pins':List (Addr × Obj)} (I:Inv X pins σ H s) (h:∀ p∈pins',s.heap.get? p.1=some p.2∧H p.1=none∧p.1≠X.env.locals∧p.1 ∉ X.fs∧∀ v,p.2.data≠.cell v):Inv X pins' σ H s :=
 ⟨I.ok,I.os,I.bare,I.base,I.loc,I.cell,I.free,I.freeC,fun p hp=>(List.mem_append.mp hp).elim (fun z=>I.pin p (List.mem_append_left _ z)) (h p),I.hok,I.len⟩
theorem J3h {N:List Str} (hN:N.Nodup) {i j:Nat} {x:Str} (a:N[i]?=some x) (b:N[j]?=some x):i=j:=by
 obtain ⟨h1,e1⟩:=List.getElem?_eq_some_iff.mp a
 obtain ⟨h2,e2⟩:=List.getElem?_eq_some_iff.mp b
 exact (List.getElem_inj hN).mp (e1.trans e2.symm)
theorem J2h {M:Model} {A:Around} {E:Value→Shared→Prop} {i:Nat} {x:Str} {v:V} {u:Value} {Q:Unit→Shared→Prop} (I:Inv X pins σ H s) (hN:X.N.Nodup) (hi:X.N[i]?=some x) (hx:Loc X.env.scope x) (r:RelV v u)
  (h:∀ s',Inv X pins (σ.set i (some v)) H s'→(∃ a,Heap.SameBut a s.heap s'.heap∧(a=X.env.locals∨X.env.cells.lookup x=some a))→Q () s') (hf:X.fn x=true∨X.env.scope.names.lookup x=some .local:=by first | exact .inl rfl | exact .inr rfl | assumption):wpAny M A (storeName X.env x u) Q E s:=by
 obtain ⟨m,hn,hl⟩:=id I.loc
 have hcls:(X.env.scope.kind == .class || (X.env.scope.kind == .module && X.env.locals != X.env.globals))=false:=by rw [I.ok.kind];rfl
 have hiσ:i < σ.length:=by rw [I.len];exact (List.getElem?_eq_some_iff.mp hi).1
 have cne:=I.cne
 have tracked:∀ {a:Addr} {h':Heap},(∃ o,s.heap.get? a=some o∧H a=none)→Heap.SameBut a s.heap h'→HOk X.prog X.w H h':=fun {a h'} ha hs b ob e=>by
  obtain ⟨_,_,hfree⟩:=ha
  refine (I.hok b ob e).stay (fun c w' hc q=>(hs.2 c ?_).trans q) (fun _ q=>q) fun _ _ q=>q
  rintro rfl
  rcases hc with rfl | hc
  ·rw [hfree] at e;cases e
  ·rw [hfree] at hc;cases hc
 rcases hx with hk | hk
 ·refine wpAny_storeName_local hk hn (fun h' hn' hs=>?_) hcls
  obtain ⟨oL,_,_,hoL,_⟩:=id hn
  refine h _ ⟨I.ok,I.os,I.bare,⟨fun b o e n hb hx=>?_,fun b o e n hb hx=>?_,I.base.free,fun b o e hx=>?_,I.base.tups,I.base.frzs,I.base.tbls⟩,⟨_,hn',fun j y v' e1 e2 e3=>?_⟩,fun y c e=>?_,I.free,I.freeC,fun p hp=>?_,tracked ⟨oL,hoL,I.free⟩ hs,by simpa using I.len⟩ ⟨_,hs,.inl rfl⟩
  ·exact (hs.2 b (Nat.ne_of_lt (Nat.lt_of_lt_of_le (Heap.lt_size e) I.ok.above))).trans (I.base.keep b o e n hb hx)
  ·obtain ⟨sl,e1⟩:=I.base.slot b o e n hb hx
   exact ⟨sl,(hs.2 b (Nat.ne_of_lt (Nat.lt_of_lt_of_le (Heap.lt_size e) I.ok.above))).trans e1⟩
  ·obtain ⟨o',e1⟩:=I.base.there b o e hx
   exact ⟨o',(hs.2 b (Nat.ne_of_lt (Nat.lt_of_lt_of_le (Heap.lt_size e) I.ok.above))).trans e1⟩
  ·by_cases hj:j=i
   ·subst hj
    rw [hi] at e1;cases e1
    rw [List.getElem?_set_self hiσ] at e2
    cases e2
    exact ⟨u,r,.inl ⟨hk,by simp⟩⟩
   ·rw [List.getElem?_set_ne (Ne.symm hj)] at e2
    obtain ⟨u',r',q⟩:=hl j y v' e1 e2 e3
    refine ⟨u',r',?_⟩
    rcases q with ⟨k,e⟩ | ⟨k,c,e,z⟩
    ·refine .inl ⟨k,?_⟩
     have:y≠x:=fun e=>hj (J3h hN e1 (e ▸ hi))
     simp [this,e]
    ·exact .inr ⟨k,c,e,z.sameBut hs (cne y c e)⟩
  ·obtain ⟨w',z⟩:=I.cell y c e
   exact ⟨w',z.sameBut hs (cne y c e)⟩
  ·obtain ⟨e,n,ne,nf,d⟩:=I.pin p hp
   exact ⟨(hs.2 p.1 ne).trans e,n,ne,nf,d⟩
 ·have hfn:X.fn x=true:=by
   rcases hf with z | z
   ·exact z
   ·rw [z] at hk;cases hk
  obtain ⟨c,hc⟩:=I.ok.has x (.inl hk)
  obtain ⟨w',z⟩:=I.cell x c hc
  refine wpAny_storeName_cell I.ok.kind hk hc z (fun h' hc' hs=>?_)
  obtain ⟨oc,hoc,hocd⟩:=id z
  refine h { s with heap:=h' } ⟨I.ok,I.os,I.bare,⟨fun b o e n hb hx=>?_,fun b o e n hb hx=>?_,I.base.free,fun b o e hx=>?_,I.base.tups,I.base.frzs,I.base.tbls⟩,⟨m,hn.sameBut hs (Ne.symm (cne x c hc)),fun j y v' e1 e2 e3=>?_⟩,fun y c' e=>?_,I.free,I.freeC,fun p hp=>?_,tracked ⟨oc,hoc,I.freeC x c hc⟩ hs,by simpa using I.len⟩ ⟨c,hs,.inr hc⟩
  ·exact (hs.2 b (Nat.ne_of_lt (Nat.lt_of_lt_of_le (Heap.lt_size e) (I.ok.cab x c hfn hc)))).trans (I.base.keep b o e n hb hx)
  ·obtain ⟨sl,e1⟩:=I.base.slot b o e n hb hx
   exact ⟨sl,(hs.2 b (Nat.ne_of_lt (Nat.lt_of_lt_of_le (Heap.lt_size e) (I.ok.cab x c hfn hc)))).trans e1⟩
  ·obtain ⟨o',e1⟩:=I.base.there b o e hx
   exact ⟨o',(hs.2 b (Nat.ne_of_lt (Nat.lt_of_lt_of_le (Heap.lt_size e) (I.ok.cab x c hfn hc)))).trans e1⟩
  ·by_cases hj:j=i
   ·subst hj
    rw [hi] at e1;cases e1
    rw [List.getElem?_set_self hiσ] at e2
    cases e2
    exact ⟨u,r,.inr ⟨.inl hk,c,hc,hc'⟩⟩
   ·rw [List.getElem?_set_ne (Ne.symm hj)] at e2
    obtain ⟨u',r',q⟩:=hl j y v' e1 e2 e3
    refine ⟨u',r',?_⟩
    rcases q with q | ⟨k,c',e,z'⟩
    ·exact .inl q
    ·refine .inr ⟨k,c',e,z'.sameBut hs ?_⟩
     rintro rfl
     exact hj (J3h hN e1 (I.ok.inj _ _ _ e hc ▸ hi))
  ·by_cases hcc:c'=c
   ·subst hcc;exact ⟨_,hc'⟩
   ·obtain ⟨w2,z2⟩:=I.cell y c' e
    exact ⟨w2,z2.sameBut hs hcc⟩
  ·obtain ⟨e,n,ne,nf,d⟩:=I.pin p hp
   refine ⟨(hs.2 p.1 ?_).trans e,n,ne,nf,d⟩
   intro q
   rw [q,hoc] at e
   have q':oc=p.2:=Option.some.inj e
   exact d w' (by rw [← q'];exact hocd)
theorem J2i {M:Model} {A:Around} {E:Value→Shared→Prop} {i:Nat} {x:Str} {v:V} {u:Value} {Q:Unit→Shared→Prop} (I:Inv X pins σ H s) (hN:X.N.Nodup) (hi:X.N[i]?=some x) (hx:Loc X.env.scope x) (r:RelV v u)
  (h:∀ s',Inv X pins (σ.set i (some v)) H s'→Q () s') (hf:X.fn x=true∨X.env.scope.names.lookup x=some .local:=by first | exact .inl rfl | exact .inr rfl | assumption):wpAny M A (storeName X.env x u) Q E s :=
 J2h I hN hi hx r (fun s' I' _=>h s' I') hf
theorem Inv.call' {s':Shared} {ch:List Addr} (I:Inv X pins σ H s) (ho:s'.os=s.os) (u:Un (frs X.stack) ch H H' s.heap s'.heap) (hok:HOk X.prog X.w H' s'.heap) (hg:AllBare s'.gens)
  (hch:∀ b∈ch,(b∈X.ex∨X.s₀.heap.objs.size≤b)∧b≠X.env.locals∧(∀ x c,X.env.cells.lookup x=some c→c≠b)∧∀ p∈X.pn ++ pins,p.1≠b):Inv X pins σ H' s':=by
 obtain ⟨h',g',d',t',o'⟩:=s'
 have e:o'=s.os:=ho
 subst e
 exact I.call (g':=g') (t':=t') (d':=d') u hok hg hch
end
abbrev XK:=Value→Option Addr→Hp→Prop
abbrev St:=List (Option V)
abbrev VK:=V→Hp→Prop
abbrev TE:=St→Hp→VK→Prop
abbrev TT:=St→Hp→(Bool→Hp→Prop)→Prop
abbrev TA:=St→Hp→(List V→Hp→Prop)→Prop
structure Ends where
 nx:St→Hp→Prop
 rt:VK
 bk:St→Hp→Prop:=fun _ _=>False
 ct:St→Hp→Prop:=fun _ _=>False
abbrev TS:=Ends→St→Hp→Prop
def EP (X:Cx) (pins:List (Addr × Obj)) (σ:St) (Q:VK) (u:Value) (s':Shared):Prop:=∃ v H',Inv X pins σ H' s'∧RelV v u∧Q v H'
def TP (X:Cx) (pins:List (Addr × Obj)) (σ:St) (Q:Bool→Hp→Prop) (b:Bool) (s':Shared):Prop:=∃ H',Inv X pins σ H' s'∧Q b H'
def AP (X:Cx) (pins:List (Addr × Obj)) (σ:St) (Q:List V→Hp→Prop) (us:List Value) (s':Shared):Prop:=∃ vs H',Inv X pins σ H' s'∧Vals vs us∧Q vs H'
def SP (X:Cx) (pins:List (Addr × Obj)) (D:Ends) (f:Flow) (s':Shared):Prop :=
 match f with
 | .next=>∃ σ' H',Inv X pins σ' H' s'∧D.nx σ' H'
 | .brk=>∃ σ' H',Inv X pins σ' H' s'∧D.bk σ' H'
 | .cont=>∃ σ' H',Inv X pins σ' H' s'∧D.ct σ' H'
 | .ret u=>∃ v σ' H',Inv X pins σ' H' s'∧RelV v u∧D.rt v H'
def PE (X:Cx) (e:Expr) (t:TE):Prop :=
 ∀ (pins:List (Addr × Obj)) (s:Shared) (σ:St) (H:Hp) (Q:VK),Inv X pins σ H s→t σ H Q→wpAny (model X.prog X.w) X.A (eval e X.env) (EP X pins σ Q) X.xe s
def PT (X:Cx) (e:Expr) (t:TT):Prop :=
 ∀ (pins:List (Addr × Obj)) (s:Shared) (σ:St) (H:Hp) (Q:Bool→Hp→Prop),Inv X pins σ H s→t σ H Q→wpAny (model X.prog X.w) X.A (isTrue e X.env (eval e X.env)) (TP X pins σ Q) X.xe s
def PW (X:Cx) (e:Expr) (t:TT):Prop :=
 ∀ (whole:Sem Value) (pins:List (Addr × Obj)) (s:Shared) (σ:St) (H:Hp) (Q:Bool→Hp→Prop),Inv X pins σ H s→t σ H Q→wpAny (model X.prog X.w) X.A (isTrue e X.env whole) (TP X pins σ Q) X.xe s
theorem PW.pt {X:Cx} {e:Expr} {t:TT} (h:PW X e t):PT X e t:=h _
def PA (X:Cx) (es:List Expr) (t:TA):Prop :=
 ∀ (pos:Pos) (pins:List (Addr × Obj)) (s:Shared) (σ:St) (H:Hp) (Q:List V→Hp→Prop),Inv X pins σ H s→t σ H Q→wpAny (model X.prog X.w) X.A (spliced (backTo pos (starEach es X.env))) (AP X pins σ Q) X.xe s
def PS (X:Cx) (st:Stmt) (t:TS):Prop :=
 ∀ (pins:List (Addr × Obj)) (s:Shared) (σ:St) (H:Hp) (D:Ends),Inv X pins σ H s→t D σ H→wpAny (model X.prog X.w) X.A (exec st X.env) (SP X pins D) X.xe s
def PSs (X:Cx) (st:List Stmt) (t:TS):Prop :=
 ∀ (pins:List (Addr × Obj)) (s:Shared) (σ:St) (H:Hp) (D:Ends),Inv X pins σ H s→t D σ H→wpAny (model X.prog X.w) X.A (execs st X.env) (SP X pins D) X.xe s
theorem thn {α:Type} {t:Sem α} {Q Q':α→Shared→Prop} {M:Model} {A:Around} {E:Value→Shared→Prop} {s:Shared} (h:wpAny M A t Q E s) (hQ:∀ a s,Q a s→Q' a s):wpAny M A t Q' E s:=wpAny_mono h hQ fun _ _ x=>x
end L2
namespace L2
open PySem PySem.Spec PyProof.Rows
section
variable {X:Cx}
def tVar (i:Nat):TE:=fun σ H Q=>∃ v,σ[i]?=some (some v)∧Q v H
def tC (v:V):TE:=fun _ H Q=>Q v H
theorem pe_var {i:Nat} {x:Str} {pos:Pos} (hN:X.N[i]?=some x) (hv:Vis X.env.scope x) (hd:(x == ("__debug__":Str))=false:=by decide) (hcd:(x == ("__classdict__":Str))=false:=by decide):PE X (.Name x pos) (tVar i):=by
 intro pins s σ H Q I h
 obtain ⟨v,e,h⟩:=h
 obtain ⟨m,hn,hl⟩:=I.loc
 obtain ⟨u,r,l⟩:=hl i x v hN e hv
 have fin:EP X pins σ Q u s:=⟨v,H,I,r,h⟩
 rcases l with ⟨hk,hm⟩ | ⟨hk,c,hc,hcell⟩
 ·exact wpAny_Name (wpAny_loadName_local I.ok.kind hk hn hm fin) hd
 ·rcases hk with hk | hk
  ·exact wpAny_Name (wpAny_loadName_cell I.ok.kind hk hc hcell fin) hd
  ·exact wpAny_Name (wpAny_loadName_free I.ok.kind hk hc hcell fin hcd) hd
theorem J8 {i j pos}:PE X (.Constant (.int i) j pos) (tC (.int i)):=fun _ _ _ H _ I h=>wpAny_Constant_int ⟨.int i,H,I.tok _,⟨_,rfl⟩,h⟩
theorem pe_bl {b j pos}:PE X (.Constant (.bool b) j pos) (tC (.bl b)):=fun _ _ _ H _ I h=>Constant_bool ⟨.bl b,H,I,rfl,h⟩
theorem pe_non {j pos}:PE X (.Constant .none j pos) (tC .non):=fun _ _ _ H _ I h=>Constant_none ⟨.non,H,I,rfl,h⟩
theorem Jv {x j pos}:PE X (.Constant (.str x) j pos) (tC (.str x)):=fun _ _ _ H _ I h=>Calls.Constant_str ⟨.str x,H,I.tok _,⟨_,rfl⟩,h⟩
def Gl (X:Cx) (x:Str):Prop:=X.env.kindOf x=some .globalImplicit
theorem J2f {E:Value→Shared→Prop} {pins:List (Addr × Obj)} {s:Shared} {σ:St} {H:Hp} {x:Str} {u:Value} {pos:Pos} {Q:Value→Shared→Prop} (I:Inv X pins σ H s) (hg:Gl X x) (hm:X.mg x=some u) (h:Q u s)
  (hd:(x == ("__debug__":Str))=false:=by decide):wpAny (model X.prog X.w) X.A (eval (.Name x pos) X.env) Q E s :=
 Calls.Name_function_global I.ok.kind hg (Calls.loadGlobal_global (by rw [I.ok.glob];exact I.mod.glob.keeps I.bk) hm h) hd
theorem ld_blt {E:Value→Shared→Prop} {pins:List (Addr × Obj)} {s:Shared} {σ:St} {H:Hp} {x:Str} {u:Value} {pos:Pos} {Q:Value→Shared→Prop} (I:Inv X pins σ H s) (hg:Gl X x) (hm:X.mg x=none) (hv:bootBuiltins x=some u) (h:Q u s)
  (hn:x≠"__name__":=by decide) (hd:(x == ("__debug__":Str))=false:=by decide):wpAny (model X.prog X.w) X.A (eval (.Name x pos) X.env) Q E s:=by
 obtain ⟨mb,h1,h2⟩:=I.mod.blt
 exact Calls.Name_function_global I.ok.kind hg (Calls.loadGlobal_builtin (by rw [I.ok.glob];exact I.mod.glob.keeps I.bk) hm (by rw [I.ok.blt];exact h1.keeps I.bk) ((h2 x hn).trans hv) h) hd
theorem J2d {x:Str} {v:V} {u:Value} {pos:Pos} (hg:Gl X x) (hm:X.mg x=some u) (r:RelV v u) (hd:(x == ("__debug__":Str))=false:=by decide):PE X (.Name x pos) (tC v) :=
 fun _ _ _ H _ I h=>J2f I hg hm ⟨v,H,I,r,h⟩ hd
theorem pe_bltn {x:Str} {v:V} {u:Value} {pos:Pos} (hg:Gl X x) (hm:X.mg x=none) (hv:bootBuiltins x=some u) (r:RelV v u) (hn:x≠"__name__":=by decide) (hd:(x == ("__debug__":Str))=false:=by decide):PE X (.Name x pos) (tC v) :=
 fun _ _ _ H _ I h=>ld_blt I hg hm hv ⟨v,H,I,r,h⟩ hn hd
variable {a b:Expr} {ta tb:TE} {pos:Pos}
def PC (X:Cx) (op:CmpOp) (a b:Expr) (t:TE):Prop :=
 ∀ (pins:List (Addr × Obj)) (s:Shared) (σ:St) (H:Hp) (Q:VK),Inv X pins σ H s→t σ H Q→
  wpAny (model X.prog X.w) X.A (eval a X.env) (fun v s₁=>wpAny (model X.prog X.w) X.A (eval b X.env) (fun u s₂=>wpAny (model X.prog X.w) X.A (compareOp op v u) (EP X pins σ Q) X.xe s₂) X.xe s₁) X.xe s
theorem nobehind (b:Expr) {op:CmpOp} (h:op≠.In) (h2:op≠.NotIn):behindInMarks op b=false:=by
 have e1:(op == CmpOp.In)=false:=by cases op <;> first | rfl | exact absurd rfl h
 have e2:(op == CmpOp.NotIn)=false:=by cases op <;> first | rfl | exact absurd rfl h2
 cases b <;> simp [behindInMarks,e1,e2]
def tIsN (ta:TE):TE:=fun σ H Q=>ta σ H fun x H1=>Q (.bl (decide (x=.non))) H1
theorem RelV.none_iff {x:V} {v:Value} (r:RelV x v):(v == Value.none)=decide (x=.non):=by
 cases x with
 | non=>cases r;rfl
 | bl _=>cases r;rfl
 | int _=>obtain ⟨t,rfl⟩:=r;rfl
 | str _=>obtain ⟨t,rfl⟩:=r;rfl
 | byt _=>obtain ⟨t,rfl⟩:=r;rfl
 | flt _=>obtain ⟨t,rfl⟩:=r;rfl
 | ref _=>cases r;rfl
 | ty _=>cases r;rfl
theorem pc_isN {j pos'} (ha:PE X a ta):PC X .Is a (.Constant .none j pos') (tIsN ta):=by
 intro pins s σ H Q I h
 refine thn (ha pins s σ H _ I h) fun v s1 ⟨x,H1,I1,r1,q1⟩=>?_
 exact Constant_none (is_none_gen ⟨.bl _,H1,I1,by rw [r1.none_iff];rfl,q1⟩)
def tB (t:TE):TT:=fun σ H Q=>t σ H fun x H1=>∃ c,x=.bl c∧Q c H1
theorem pt_cmp {op:CmpOp} {t:TE} (h:PC X op a b t) (h1:behindInMarks op b=false:=by first | exact nobehind _ (by decide) (by decide) | rfl):PT X (.Compare a [op] [b] pos) (tB t):=by
 intro pins s σ H Q I hw
 refine wpAny_isTrue_Compare1 (thn (h pins s σ H _ I hw) fun v s1 h1=>thn h1 fun u s2 h2=>thn h2 fun c s3 ⟨x,H1,I1,r1,q1⟩=>?_) h1
 obtain ⟨d,rfl,q⟩:=q1
 cases r1
 exact wpAny_truthy_bool ⟨H1,I1,q⟩
theorem pt_val {e:Expr} {t:TE} (h:PE X e t) (he:∀ whole,isTrue e X.env whole=(do let v ← whole;standAt e.pos;holding [v] (truthy v)):=by intro _;rfl):PT X e (tB t):=by
 intro pins s σ H Q I hw
 refine isTrue_plain (thn (h pins s σ H _ I hw) fun v s1 ⟨x,H1,I1,r1,q1⟩=>?_) (he _)
 obtain ⟨d,rfl,q⟩:=q1
 cases r1
 exact wpAny_truthy_bool ⟨H1,I1,q⟩
variable {tA tB':TT} {rest:List Expr}
def tAnd (t u:TT):TT:=fun σ H Q=>t σ H fun c H1=>if c=true then u σ H1 Q else Q false H1
def tOr (t u:TT):TT:=fun σ H Q=>t σ H fun c H1=>if c=true then Q true H1 else u σ H1 Q
def tNot (t:TT):TT:=fun σ H Q=>t σ H fun c H1=>Q (!c) H1
theorem pw_and1 (ha:PT X a tA):PW X (.BoolOp .And [a] pos) tA:=by
 intro wh pins s σ H Q I h
 refine isTrue_and (thn (ha pins s σ H Q I h) fun c s1 e=>?_)
 cases c with
 | true=>exact isTrue_and_nil e
 | false=>exact e
theorem pw_or1 (ha:PT X a tA):PW X (.BoolOp .Or [a] pos) tA:=by
 intro wh pins s σ H Q I h
 refine isTrue_or (thn (ha pins s σ H Q I h) fun c s1 e=>?_)
 cases c with
 | false=>exact isTrue_or_nil e
 | true=>exact e
theorem pw_and (ha:PT X a tA) (hb:PW X (.BoolOp .And (b :: rest) pos) tB'):PW X (.BoolOp .And (a :: b :: rest) pos) (tAnd tA tB'):=by
 intro wh pins s σ H Q I h
 refine isTrue_and (thn (ha pins s σ H _ I h) fun c s1 ⟨H1,I1,q1⟩=>?_)
 cases c with
 | true=>exact hb wh pins s1 σ H1 Q I1 q1
 | false=>exact ⟨H1,I1,q1⟩
theorem pw_or (ha:PT X a tA) (hb:PW X (.BoolOp .Or (b :: rest) pos) tB'):PW X (.BoolOp .Or (a :: b :: rest) pos) (tOr tA tB'):=by
 intro wh pins s σ H Q I h
 refine isTrue_or (thn (ha pins s σ H _ I h) fun c s1 ⟨H1,I1,q1⟩=>?_)
 cases c with
 | true=>exact ⟨H1,I1,q1⟩
 | false=>exact hb wh pins s1 σ H1 Q I1 q1
theorem pt_not (ha:PT X a tA):PT X (.UnaryOp .Not a pos) (tNot tA):=by
 intro pins s σ H Q I h
 exact isTrue_not (ha pins s σ H (fun c H1=>Q (!c) H1) I h)
def tAndV (ta tb:TE):TE:=fun σ H Q=>ta σ H fun x H1=>∃ c,x=.bl c∧if c=true then tb σ H1 Q else Q (.bl false) H1
def tOrV (ta tb:TE):TE:=fun σ H Q=>ta σ H fun x H1=>∃ c,x=.bl c∧if c=true then Q (.bl true) H1 else tb σ H1 Q
theorem J3f {op} {t:TE} (h:PE X a t):PE X (.BoolOp op [a] pos) t:=fun pins s σ H Q I hw=>BoolOp_one (h pins s σ H Q I hw)
theorem J3g (ha:PE X a ta) (hb:PE X (.BoolOp .And (b :: rest) pos) tb):PE X (.BoolOp .And (a :: b :: rest) pos) (tAndV ta tb):=by
 intro pins s σ H Q I h
 refine BoolOp_and (thn (ha pins s σ H _ I h) fun v s1 ⟨x,H1,I1,r1,q1⟩=>?_)
 obtain ⟨c,rfl,q1⟩:=q1
 cases r1
 refine wpAny_truthy_bool ?_
 cases c with
 | true=>exact hb pins s1 σ H1 Q I1 q1
 | false=>exact ⟨.bl false,H1,I1,rfl,q1⟩
theorem pe_or (ha:PE X a ta) (hb:PE X (.BoolOp .Or (b :: rest) pos) tb):PE X (.BoolOp .Or (a :: b :: rest) pos) (tOrV ta tb):=by
 intro pins s σ H Q I h
 refine BoolOp_or (thn (ha pins s σ H _ I h) fun v s1 ⟨x,H1,I1,r1,q1⟩=>?_)
 obtain ⟨c,rfl,q1⟩:=q1
 cases r1
 refine wpAny_truthy_bool ?_
 cases c with
 | false=>exact hb pins s1 σ H1 Q I1 q1
 | true=>exact ⟨.bl true,H1,I1,rfl,q1⟩
def tIf (t:TT) (ta tb:TE):TE:=fun σ H Q=>t σ H fun c H1=>if c=true then ta σ H1 Q else tb σ H1 Q
theorem pe_ifExp {c:Expr} (hc:PT X c tA) (ha:PE X a ta) (hb:PE X b tb):PE X (.IfExp c a b pos) (tIf tA ta tb):=by
 intro pins s σ H Q I h
 refine wpAny_IfExp (thn (hc pins s σ H _ I h) fun d s1 ⟨H1,I1,q1⟩=>?_)
 cases d with
 | true=>exact ha pins s1 σ H1 Q I1 q1
 | false=>exact hb pins s1 σ H1 Q I1 q1
end
end L2
namespace L2
open PySem PySem.Spec PyProof.Rows
def SqL (K:PySem.W.Frag) (H:Hp) (a:Addr) (xs:List V):Prop :=
 Rd H a (.lst xs)∨
  ∃ (o:Obj) (its:Array Value) (n:Nat),K.lookup a=some o∧o.cls=.type "list"∧o.dict=none∧o.data=.seq its n∧its.size≤sizeLine∧Vals xs its.toList
def SqT (K:PySem.W.Frag) (H:Hp) (a:Addr) (xs:List V):Prop :=
 Rd H a (.tup xs)∨
  ∃ (o:Obj) (its:Array Value) (n:Nat),K.lookup a=some o∧o.cls=.type "tuple"∧o.data=.seq its n∧its.size≤sizeLine∧Vals xs its.toList
def absV:Value→Option V
 | .none=>some .non
 | .bool b=>some (.bl b)
 | .int i _=>some (.int i)
 | .str x _=>some (.str x)
 | .bytes b _=>some (.byt b)
 | .float b _=>some (.flt b)
 | .ref a=>some (.ref a)
 | .type n=>some (.ty n)
 | _=>none
theorem RelV.abs {x:V} {u:Value} (r:RelV x u):absV u=some x:=by
 cases x with
 | non=>cases r;rfl
 | bl _=>cases r;rfl
 | int _=>obtain ⟨t,rfl⟩:=r;rfl
 | str _=>obtain ⟨t,rfl⟩:=r;rfl
 | byt _=>obtain ⟨t,rfl⟩:=r;rfl
 | flt _=>obtain ⟨t,rfl⟩:=r;rfl
 | ref _=>cases r;rfl
 | ty _=>cases r;rfl
theorem RelV.inj {x y:V} {u:Value} (r:RelV x u) (q:RelV y u):x=y:=Option.some.inj (r.abs.symm.trans q.abs)
theorem Vals.inj:∀ {xs ys:List V} {us:List Value},Vals xs us→Vals ys us→xs=ys
 | _,_,_,.nil,.nil=>rfl
 | _,_,_,.cons r t,.cons r' t'=>by rw [r.inj r',Vals.inj t t']
section
variable {X:Cx} {pins:List (Addr × Obj)} {σ:St} {H:Hp} {s:Shared} {a:Addr} {xs ys:List V}
theorem SqL.of {K:PySem.W.Frag} (h:H a=some (.lst xs)):SqL K H a xs:=.inl (.inl h)
theorem SqT.of {K:PySem.W.Frag} (h:H a=some (.tup xs)):SqT K H a xs:=.inl (.inl h)
theorem Inv.list (I:Inv X pins σ H s) (h:SqL X.K H a xs):∃ its:List Value,Vals xs its∧PlainL s.heap a its.toArray∧xs.length≤sizeLine:=by
 rcases h with h | ⟨o,its,n,hk,hc,hd,hs,hz,r⟩
 ·obtain ⟨z,its,n,r,e⟩:=h.ok I.hok
  exact ⟨its,r,⟨_,n,e,rfl,rfl,rfl⟩,z⟩
 ·refine ⟨its.toList,r,⟨o,n,I.kIn a o hk,hc,hd,by simpa using hs⟩,?_⟩
  have e:=r.length
  simp only [Array.length_toList] at e
  omega
theorem Inv.tuple (I:Inv X pins σ H s) (h:SqT X.K H a xs):∃ its:List Value,Vals xs its∧IsTup s.heap a its.toArray∧xs.length≤sizeLine:=by
 rcases h with h | ⟨o,its,n,hk,hc,hs,hz,r⟩
 ·obtain ⟨z,its,r,p⟩:=h.ok I.hok
  exact ⟨its,r,p.tup,z⟩
 ·refine ⟨its.toList,r,⟨o,I.kIn a o hk,hc,n,by simpa using hs⟩,?_⟩
  have e:=r.length
  simp only [Array.length_toList] at e
  omega
theorem Inv.list_inj (I:Inv X pins σ H s) (h:SqL X.K H a xs) (h':SqL X.K H a ys):xs=ys:=by
 obtain ⟨its,r,⟨o,n,e,_,_,d⟩,_⟩:=I.list h
 obtain ⟨its',r',⟨o',n',e',_,_,d'⟩,_⟩:=I.list h'
 rw [e] at e';cases e'
 rw [d] at d'
 injection d' with d1 _
 have:its=its':=by simpa using congrArg Array.toList d1
 subst this
 exact r.inj r'
theorem Inv.tuple_inj (I:Inv X pins σ H s) (h:SqT X.K H a xs) (h':SqT X.K H a ys):xs=ys:=by
 obtain ⟨its,r,⟨o,e,_,n,d⟩,_⟩:=I.tuple h
 obtain ⟨its',r',⟨o',e',_,n',d'⟩,_⟩:=I.tuple h'
 rw [e] at e';cases e'
 rw [d] at d'
 injection d' with d1 _
 have:its=its':=by simpa using congrArg Array.toList d1
 subst this
 exact r.inj r'
end
abbrev Cx.wish (X:Cx) (E:Value→Shared→Prop):Cx:={ X with xe:=E }
abbrev Cx.nox (X:Cx):Cx:=X.wish fun _ _=>False
theorem Cx.Ok.wish {X:Cx} (ok:X.Ok) (E:Value→Shared→Prop):(X.wish E).Ok :=
 ⟨ok.mod,ok.kind,ok.glob,ok.blt,ok.above,ok.inj,ok.has,ok.cab,ok.hd,ok.frames,ok.stk,ok.exf,ok.bs,ok.bsz,ok.noex,ok.exfs,ok.funs,ok.frf⟩
theorem Cx.Ok.unwish {X:Cx} {E:Value→Shared→Prop} (ok:(X.wish E).Ok):X.Ok :=
 ⟨ok.mod,ok.kind,ok.glob,ok.blt,ok.above,ok.inj,ok.has,ok.cab,ok.hd,ok.frames,ok.stk,ok.exf,ok.bs,ok.bsz,ok.noex,ok.exfs,ok.funs,ok.frf⟩
section
variable {X:Cx} {pins:List (Addr × Obj)} {σ:St} {H:Hp} {s:Shared} {E:Value→Shared→Prop}
theorem Inv.wish (I:Inv X pins σ H s) (E:Value→Shared→Prop):Inv (X.wish E) pins σ H s:=⟨I.ok.wish E,I.os,I.bare,I.base,I.loc,I.cell,I.free,I.freeC,I.pin,I.hok,I.len⟩
theorem Inv.unwish (I:Inv (X.wish E) pins σ H s):Inv X pins σ H s:=⟨I.ok.unwish,I.os,I.bare,I.base,I.loc,I.cell,I.free,I.freeC,I.pin,I.hok,I.len⟩
theorem SP.unwish {D:Ends} {f:Flow} {s':Shared} (h:SP (X.wish E) pins D f s'):SP X pins D f s':=by
 cases f with
 | next=>obtain ⟨σ',H',I,q⟩:=h;exact ⟨σ',H',I.unwish,q⟩
 | brk=>obtain ⟨σ',H',I,q⟩:=h;exact ⟨σ',H',I.unwish,q⟩
 | cont=>obtain ⟨σ',H',I,q⟩:=h;exact ⟨σ',H',I.unwish,q⟩
 | ret u=>obtain ⟨v,σ',H',I,r,q⟩:=h;exact ⟨v,σ',H',I.unwish,r,q⟩
theorem PE.nox {e:Expr} {t:TE} (h:PE X.nox e t):PE X e t:=fun pins s σ H Q I hw =>
 wpAny_mono (h pins s σ H Q (I.wish _) hw) (fun _ _ ⟨v,H',I',r,q⟩=>⟨v,H',I'.unwish,r,q⟩) fun _ _ z=>False.elim z
theorem PT.nox {e:Expr} {t:TT} (h:PT X.nox e t):PT X e t:=fun pins s σ H Q I hw =>
 wpAny_mono (h pins s σ H Q (I.wish _) hw) (fun _ _ ⟨H',I',q⟩=>⟨H',I'.unwish,q⟩) fun _ _ z=>False.elim z
theorem PSs.nox {st:List Stmt} {t:TS} (h:PSs X.nox st t):PSs X st t:=fun pins s σ H D I hw =>
 wpAny_mono (h pins s σ H D (I.wish _) hw) (fun _ _ q=>q.unwish) fun _ _ z=>False.elim z
end
section
variable {X:Cx} {st:Stmt} {rest:List Stmt} {t u:TS} {e:Expr} {te:TE} {pos:Pos}
def tNext:TS:=fun D σ H=>D.nx σ H
def tSeq (t u:TS):TS:=fun D σ H=>t { D with nx:=u D } σ H
theorem Jj:PSs X [] tNext:=fun _ _ σ H _ I h=>wpAny_execs_nil ⟨σ,H,I,h⟩
theorem J1 (h1:PS X st t) (h2:PSs X rest u):PSs X (st :: rest) (tSeq t u):=by
 intro pins s σ H D I h
 refine wpAny_execs_cons (thn (h1 pins s σ H { D with nx:=u D } I h) fun f s1 q=>?_)
 cases f with
 | next =>
  obtain ⟨σ',H',I',q⟩:=q
  exact h2 pins s1 σ' H' D I' q
 | ret v=>exact q
 | brk=>exact q
 | cont=>exact q
theorem Jb (h1:PS X st t):PSs X [st] t:=by
 intro pins s σ H D I h
 refine wpAny_execs_cons (thn (h1 pins s σ H D I h) fun f s1 q=>?_)
 cases f with
 | next=>exact wpAny_execs_nil q
 | ret v=>exact q
 | brk=>exact q
 | cont=>exact q
theorem Inv.quiet {pins:List (Addr × Obj)} {σ:St} {H:Hp} {s:Shared} (I:Inv X pins σ H s):interactive X.env=false:=by simp [interactive,I.ok.kind]
def tDrop (te:TE):TS:=fun D σ H=>te σ H fun _ H1=>D.nx σ H1
theorem J1p (he:PE X e te) (hs:swapsWith e none pos.line X.env=pure false:=by rfl):PS X (.Expr e pos) (tDrop te):=by
 intro pins s σ H D I h
 exact wpAny_Expr_any (thn (he pins s σ H _ I h) fun v s1 ⟨x,H1,I1,r1,q1⟩=>⟨σ,H1,I1,q1⟩) I.quiet hs
def tRet (te:TE):TS:=fun D σ H=>te σ H D.rt
theorem Jy (he:PE X e te):PS X (.Return (some e) pos) (tRet te):=by
 intro pins s σ H D I h
 exact wpAny_Return_some (thn (he pins s σ H _ I h) fun v s1 ⟨x,H1,I1,r1,q1⟩=>⟨x,σ,H1,I1,r1,q1⟩)
def tIfS (c:TT) (t u:TS):TS:=fun D σ H=>c σ H fun b H1=>if b=true then t D σ H1 else u D σ H1
theorem ps_if {c:Expr} {a b:List Stmt} {tc:TT} (hc:PT X c tc) (ha:PSs X a t) (hb:PSs X b u):PS X (.If c a b pos) (tIfS tc t u):=by
 intro pins s σ H D I h
 refine wpAny_If (thn (hc pins s σ H _ I h) fun d s1 ⟨H1,I1,q1⟩=>?_)
 cases d with
 | true=>exact ha pins s1 σ H1 D I1 q1
 | false=>exact hb pins s1 σ H1 D I1 q1
def tNever:TS:=fun _ _ _=>False
theorem J2j:PS X st tNever:=fun _ _ _ _ _ _ h=>h.elim
end
abbrev TG:=V→St→Hp→(St→Hp→Prop)→Prop
def PG (X:Cx) (target:Expr) (t:TG):Prop :=
 ∀ (pins:List (Addr × Obj)) (s:Shared) (σ:St) (H:Hp) (v:V) (u:Value) (Q:St→Hp→Prop),Inv X pins σ H s→RelV v u→t v σ H Q→
  wpAny (model X.prog X.w) X.A (assign target X.env u) (fun _ s'=>∃ σ' H',Inv X pins σ' H' s'∧Q σ' H') X.xe s
abbrev TSet:=V→V→V→Hp→(Hp→Prop)→Prop
def PSet (X:Cx) (t:TSet):Prop :=
 ∀ (pins:List (Addr × Obj)) (s:Shared) (σ:St) (H:Hp) (o i v:V) (ov iv u:Value) (Q:Hp→Prop),Inv X pins σ H s→RelV o ov→RelV i iv→RelV v u→t o i v H Q→
  wpAny (model X.prog X.w) X.A (setItem ov iv u) (fun _ s'=>∃ H',Inv X pins σ H' s'∧Q H') X.xe s
section
variable {X:Cx} {pos:Pos}
def gName (i:Nat):TG:=fun v σ H Q=>Q (σ.set i (some v)) H
theorem J33 {i:Nat} {x:Str} (hN:X.N.Nodup) (hi:X.N[i]?=some x) (hx:Loc X.env.scope x) (hf:X.fn x=true∨X.env.scope.names.lookup x=some .local:=by first | exact .inl rfl | exact .inr rfl | assumption):PG X (.Name x pos) (gName i):=by
 intro pins s σ H v u Q I r h
 exact wpAny_assign_Name (J2i I hN hi hx r (fun s' I'=>⟨_,H,I',h⟩) hf)
def gSub (to ti:TE) (t:TSet):TG:=fun v σ H Q=>to σ H fun o H1=>ti σ H1 fun i H2=>t o i v H2 fun H3=>Q σ H3
theorem pg_sub {o i:Expr} {to ti:TE} {t:TSet} (ho:PE X o to) (hi:PE X i ti) (hs:PSet X t)
  (ha:∀ v,assign (.Subscript o i pos) X.env v=(do
   let ov ← holding [v] (eval o X.env)
   let iv ← holding [v,ov] (eval i X.env)
   standAt pos
   holding [v,ov,iv] (setItem ov iv v)
   release [v,ov,iv] []):=by intro _;rfl):PG X (.Subscript o i pos) (gSub to ti t):=by
 intro pins s σ H v u Q I r h
 rw [ha]
 refine wpAny_bind (wpAny_holding (thn (ho pins s σ H _ I h) fun ov s1 ⟨x,H1,I1,r1,q1⟩=>?_))
 refine wpAny_bind (wpAny_holding (thn (hi pins s1 σ H1 _ I1 q1) fun iv s2 ⟨y,H2,I2,r2,q2⟩=>?_))
 refine wpAny_bind (wpAny_standAt (wpAny_bind (wpAny_holding (thn (hs pins s2 σ H2 x y v ov iv u _ I2 r1 r2 r q2) fun _ s3 ⟨H3,I3,q3⟩=>?_))))
 exact wpAny_release ⟨σ,H3,I3,q3⟩
def tAsg (te:TE) (g:TG):TS:=fun D σ H=>te σ H fun x H1=>g x σ H1 D.nx
theorem ps_asg {tg e:Expr} {te:TE} {g:TG} (he:PE X e te) (hg:PG X tg g) (hs:swapsWithSole [tg] e pos.line X.env=pure false:=by rfl) (hw:swappedStores [tg] e X.env=pure none:=by rfl)
  (h1:(assignEach [tg] X.env).map (·.2)=[assign tg X.env]:=by rfl):PS X (.Assign [tg] e pos) (tAsg te g):=by
 intro pins s σ H D I h
 refine wpAny_Assign_stores (thn (he pins s σ H _ I h) fun v s1 ⟨x,H1,I1,r1,q1⟩=>?_) hs hw
 rw [h1]
 exact thn (hg pins s1 σ H1 x v _ I1 r1 q1) fun _ s2 q=>q
theorem Jn {i:Nat} {x:Str} {e:Expr} {te:TE} {pos':Pos} (hN:X.N.Nodup) (hi:X.N[i]?=some x) (hx:Loc X.env.scope x) (he:PE X e te) (hs:swapsWith e (some (.Name x pos')) pos.line X.env=pure false:=by rfl) (hf:X.fn x=true∨X.env.scope.names.lookup x=some .local:=by first | exact .inl rfl | exact .inr rfl | assumption) :
  PS X (.Assign [.Name x pos'] e pos) (tAsg te (gName i)):=by
 intro pins s σ H D I h
 refine wpAny_Assign_Name (thn (he pins s σ H _ I h) fun v s1 ⟨y,H1,I1,r1,q1⟩=>?_) hs
 exact J2i I1 hN hi hx r1 (fun s2 I2=>⟨_,H1,I2,q1⟩) hf
end
structure It where
 go:Nat→Hp→Prop
 yld:Nat→Hp→V→Hp→Prop
 stop:Nat→Hp→Prop
def FpOk (X:Cx) (pins:List (Addr × Obj)) (H:Hp) (b:Addr):Prop :=
 H b=none∧b≠X.env.locals∧b ∉ X.fs∧(b∈X.ex∨X.s₀.heap.objs.size≤b)∧(∀ x c,X.env.cells.lookup x=some c→c≠b)∧∀ p∈X.pn ++ pins,p.1≠b
theorem Inv.fpOk {X:Cx} {pins:List (Addr × Obj)} {σ:St} {H H':Hp} {s:Shared} {b:Addr} (I:Inv X pins σ H s) (hb:s.heap.objs.size≤b) (hn:H' b=none):FpOk X pins H' b:=by
 refine ⟨hn,Nat.ne_of_gt (Nat.lt_of_lt_of_le I.lt hb),I.nofs hb,.inr (Nat.le_trans I.sz hb),fun x c e z=>?_,fun p hp z=>?_⟩
 ·obtain ⟨v,q⟩:=I.cell x c e
  exact absurd (Nat.lt_of_lt_of_le q.lt (by rw [z];exact hb)) (Nat.lt_irrefl _)
 ·exact absurd (Nat.lt_of_lt_of_le (Heap.lt_size (I.pin p hp).1) (by rw [z];exact hb)) (Nat.lt_irrefl _)
structure Turn (P:Program) (w:World) (K:PySem.W.Frag) (tg:Expr) (J:It) (fp:List Addr) (it:Addr) (tn:Nat→Heap→Prop):Prop where
 mem:it∈fp
 obj:∀ i h,tn i h→∀ b∈fp,∃ o,h.get? b=some o∧∀ v,o.data≠.cell v
 keep:∀ i h h',tn i h→(∀ b∈fp,∀ o,h.get? b=some o→h'.get? b=some o)→tn i h'
 item:∀ (X:Cx),X.prog=P→X.w=w→X.K=K→X.calm=true→∀ (i:Nat) (pins:List (Addr × Obj)) (s:Shared) (σ:St) (H:Hp) (E:Value→Shared→Prop),Inv X pins σ H s→(∀ b∈fp,FpOk X pins H b)→tn i s.heap→J.go i H→
  wpAny (model P w) X.A (pyNext (.ref it)) (fun r s1=>∃ u,r=some u∧
   wpAny (model P w) X.A (letOwnedTupleGo tg (.ref it) u) (fun _ s2=>∃ x H',Inv X pins σ H' s2∧RelV x u∧J.yld i H x H'∧tn (i + 1) s2.heap∧∀ b∈fp,H' b=none) E s1) E s
 done:∀ (X:Cx),X.prog=P→X.w=w→X.K=K→X.calm=true→∀ (i:Nat) (pins:List (Addr × Obj)) (s:Shared) (σ:St) (H:Hp) (E:Value→Shared→Prop),Inv X pins σ H s→(∀ b∈fp,FpOk X pins H b)→tn i s.heap→J.stop i H→
  wpAny (model P w) X.A (pyNext (.ref it)) (fun r s1=>r=none∧Inv X pins σ H s1) E s
 self:∀ (A:Around) (i:Nat) (s:Shared) (Q:Value→Shared→Prop) (E:Value→Shared→Prop),tn i s.heap→Q (.ref it) s→wpAny (model P w) A (pyIter (.ref it)) Q E s
abbrev TI:=St→Hp→(It→Hp→Prop)→Prop
def PIE (X:Cx) (pins:List (Addr × Obj)) (σ:St) (tg:Expr) (R:It→Hp→Prop) (itv:Value) (s2:Shared):Prop :=
 ∃ (it:Addr) (fp:List Addr) (tn:Nat→Heap→Prop) (J:It) (H':Hp),itv=.ref it∧Inv X pins σ H' s2∧Turn X.prog X.w X.K tg J fp it tn∧tn 0 s2.heap∧(∀ b∈fp,FpOk X pins H' b)∧R J H'
def PI (X:Cx) (tg iter:Expr) (wi:TI):Prop :=
 ∀ (pins:List (Addr × Obj)) (s:Shared) (σ:St) (H:Hp) (R:It→Hp→Prop),Inv X pins σ H s→wi σ H R→
  wpAny (model X.prog X.w) X.A (eval iter X.env) (fun v s1=>wpAny (model X.prog X.w) X.A (pyIter v) (PIE X pins σ tg R) X.xe s1) X.xe s
theorem go_of {M : Model} {A : Around} {E : Value → Shared → Prop} {s : Shared} {tg : Expr} {it : Addr} {u : Value} {o : Obj} {n : String} {vs : Array Value} {Q : Unit → Shared → Prop} (ho : s.heap.get? it = some o) (hc : o.cls = .type n) (hd : o.data = .fields vs)
    (hn : ["enumerate", "zip", "dict_itemiterator", "dict_reverseitemiterator", "odict_iterator", "itertools.zip_longest", "itertools.pairwise"].contains n = false) (hQ : Q () s) : wpAny M A (letOwnedTupleGo tg (.ref it) u) Q E s := by
  unfold letOwnedTupleGo
  cases tg <;> first
    | exact wpAny_pure hQ
    | (cases u <;> first
        | exact wpAny_pure hQ
        | (refine wpAny_bind (wpAny_load ho ?_)
           rw [hc, hd]
           show wpAny M A (if (["enumerate", "zip", "dict_itemiterator", "dict_reverseitemiterator", "odict_iterator", "itertools.zip_longest", "itertools.pairwise"].contains n && vs[0]? == some (rawInt _)) = true then _ else _) Q E s
           rw [if_neg (by intro h; rw [hn, Bool.false_and] at h; cases h)]
           exact wpAny_pure hQ))
def Itl (K:PySem.W.Frag) (a:Addr):It :=
 ⟨fun i H=>∃ xs x,SqL K H a xs∧xs[i]?=some x,fun i H x H'=>H'=H∧∀ xs,SqL K H a xs→xs[i]?=some x,fun i H=>∃ xs,SqL K H a xs∧xs.length≤i⟩
def Itt (K:PySem.W.Frag) (a:Addr):It :=
 ⟨fun i H=>∃ xs x,SqT K H a xs∧xs[i]?=some x,fun i H x H'=>H'=H∧∀ xs,SqT K H a xs→xs[i]?=some x,fun i H=>∃ xs,SqT K H a xs∧xs.length≤i⟩
def Itr (lo:Int) (n:Nat):It:=⟨fun i _=>i < n,fun i H x H'=>H'=H∧x=.int (lo + i),fun i _=>n≤i⟩
theorem turn_list {P:Program} {w:World} {K:PySem.W.Frag} {tg:Expr} (a it:Addr):Turn P w K tg (Itl K a) [it] it (fun i h=>h.IsListIter it a i) where
 mem:=by simp
 obj:=fun i h st b hb=>by
  have e:b=it:=by simpa using hb
  subst e
  obtain ⟨o,e,c,d⟩:=st
  exact ⟨o,e,fun v z=>by rw [d] at z;cases z⟩
 keep:=fun i h h' st k=>st.at fun o e=>k it (by simp) o e
 item:=by
  intro X hP hw hK hc i pins s σ H E I hf st hg
  subst hP hw hK
  obtain ⟨xs,x,hq,hx⟩:=hg
  obtain ⟨its,rv,p,hz⟩:=I.list hq
  obtain ⟨u,hu,ru⟩:=rv.get hx
  obtain ⟨f0,f1,f2,f3,f4,f5⟩:=hf it (by simp)
  refine wpAny_pyNext_list_item st p.isList (x:=u) (by simpa using hu) fun h' st' sb=>?_
  have I1:Inv X pins σ H { s with heap:=h' }:=I.turned (t':=s.toks) (fun b o hb e=>(sb.2 b hb).trans e) f0 f1 f3 f4 f5
  obtain ⟨o,e,c,d⟩:=id st'
  exact ⟨u,rfl,go_of (s:={ s with heap:=h' }) e c d (by decide) ⟨x,H,I1,ru,⟨rfl,fun ys hy=>by rw [I.list_inj hy hq];exact hx⟩,st',fun b hb=>(hf b hb).1⟩⟩
 done:=by
  intro X hP hw hK hc i pins s σ H E I hf st hg
  subst hP hw hK
  obtain ⟨xs,hq,hx⟩:=hg
  obtain ⟨its,rv,p,hz⟩:=I.list hq
  obtain ⟨f0,f1,f2,f3,f4,f5⟩:=hf it (by simp)
  have hl:=rv.length
  exact wpAny_pyNext_list_end (I.ok.hd hc) st p.isList (by simp;omega) fun h' eb=>⟨rfl,I.turned (t':=s.toks) (fun b o hb e=>eb b o hb e) f0 f1 f3 f4 f5⟩
 self:=fun _ _ _ _ _ st h=>wpAny_pyIter_listiter st h
theorem turn_tuple {P:Program} {w:World} {K:PySem.W.Frag} {tg:Expr} (a it:Addr):Turn P w K tg (Itt K a) [it] it (fun i h=>h.IsTupleIter it a i) where
 mem:=by simp
 obj:=fun i h st b hb=>by
  have e:b=it:=by simpa using hb
  subst e
  obtain ⟨o,e,c,d⟩:=st
  exact ⟨o,e,fun v z=>by rw [d] at z;cases z⟩
 keep:=fun i h h' st k=>st.at fun o e=>k it (by simp) o e
 item:=by
  intro X hP hw hK hc i pins s σ H E I hf st hg
  subst hP hw hK
  obtain ⟨xs,x,hq,hx⟩:=hg
  obtain ⟨its,rv,p,hz⟩:=I.tuple hq
  obtain ⟨u,hu,ru⟩:=rv.get hx
  obtain ⟨f0,f1,f2,f3,f4,f5⟩:=hf it (by simp)
  refine wpAny_pyNext_tuple_item st (show s.heap.IsTuple a its.toArray from p) (x:=u) (by simpa using hu) fun h' st' sb=>?_
  have I1:Inv X pins σ H { s with heap:=h' }:=I.turned (t':=s.toks) (fun b o hb e=>(sb.2 b hb).trans e) f0 f1 f3 f4 f5
  obtain ⟨o,e,c,d⟩:=id st'
  exact ⟨u,rfl,go_of (s:={ s with heap:=h' }) e c d (by decide) ⟨x,H,I1,ru,⟨rfl,fun ys hy=>by rw [I.tuple_inj hy hq];exact hx⟩,st',fun b hb=>(hf b hb).1⟩⟩
 done:=by
  intro X hP hw hK hc i pins s σ H E I hf st hg
  subst hP hw hK
  obtain ⟨xs,hq,hx⟩:=hg
  obtain ⟨its,rv,p,hz⟩:=I.tuple hq
  obtain ⟨f0,f1,f2,f3,f4,f5⟩:=hf it (by simp)
  have hl:=rv.length
  exact wpAny_pyNext_tuple_end (I.ok.hd hc) st (show s.heap.IsTuple a its.toArray from p) (by simp;omega) fun h' eb=>⟨rfl,I.turned (t':=s.toks) (fun b o hb e=>eb b o hb e) f0 f1 f3 f4 f5⟩
 self:=fun _ _ _ _ _ st h=>wpAny_pyIter_tupleiter st h
theorem turn_range {P:Program} {w:World} {K:PySem.W.Frag} {tg:Expr} (it:Addr) (lo:Int) (n:Nat):Turn P w K tg (Itr lo n) [it] it (fun i h=>IsRangeIter h it (lo + (i:Nat) * 1) ((n:Int) - (i:Nat)) 1) where
 mem:=by simp
 obj:=fun i h st b hb=>by
  have e:b=it:=by simpa using hb
  subst e
  exact ⟨_,st,fun v z=>by
   have z':Data.fields _=Data.cell v:=z
   cases z'⟩
 keep:=fun i h h' st k=>k it (by simp) _ st
 item:=by
  intro X hP hw hK hc i pins s σ H E I hf st hg
  subst hP hw hK
  obtain ⟨f0,f1,f2,f3,f4,f5⟩:=hf it (by simp)
  have W:=Walks.range (prog:=X.prog) (w:=X.w) (I.ok.hd hc) it lo 1 n
  refine W.item i s _ _ hg st fun v h' tk hv st' kk=>?_
  obtain ⟨t,rfl⟩:=hv
  have I1:Inv X pins σ H { s with heap:=h',toks:=tk }:=I.turned (fun b o hb e=>kk b o (by simpa using hb) e) f0 f1 f3 f4 f5
  refine ⟨_,rfl,go_of (s:={ s with heap:=h',toks:=tk }) (n:="range_iterator") st' rfl rfl (by decide) ⟨.int (lo + i),H,I1,⟨t,?_⟩,⟨rfl,rfl⟩,st',fun b hb=>(hf b hb).1⟩⟩
  rw [Int.mul_one]
 done:=by
  intro X hP hw hK hc i pins s σ H E I hf st hg
  subst hP hw hK
  obtain ⟨f0,f1,f2,f3,f4,f5⟩:=hf it (by simp)
  exact wpAny_pyNext_range_end (I.ok.hd hc) st (by have:n≤i:=hg;omega) fun h' eb=>⟨rfl,I.turned (t':=s.toks) (fun b o hb e=>eb b o hb e) f0 f1 f3 f4 f5⟩
 self:=fun _ _ _ _ _ st h=>wpAny_pyIter_rangeiter st h
end L2
namespace L2
open PySem PySem.Spec PyProof.Rows
section
variable {X:Cx} {tg:Expr}
def iList (K:PySem.W.Frag) (tl:TE):TI:=fun σ H R=>tl σ H fun x H1=>∃ a,x=.ref a∧(∃ xs,SqL K H1 a xs)∧R (Itl K a) H1
def iTup (K:PySem.W.Frag) (tl:TE):TI:=fun σ H R=>tl σ H fun x H1=>∃ a,x=.ref a∧(∃ xs,SqT K H1 a xs)∧R (Itt K a) H1
theorem J1x {l:Expr} {tl:TE} (hl:PE X l tl):PI X tg l (iList X.K tl):=by
 intro pins s σ H R I h
 refine thn (hl pins s σ H _ I h) fun v s1 ⟨x,H1,I1,r1,q1⟩=>?_
 obtain ⟨a,e,⟨xs,hq⟩,q⟩:=q1
 subst e
 cases r1
 obtain ⟨its,rv,p,hz⟩:=I1.list hq
 refine wpAny_pyIter_list p.isList ?_
 refine ⟨s1.heap.objs.size,[s1.heap.objs.size],_,_,H1,rfl,I1.kept (t':=s1.toks) fun b o e=>Heap.get?_push_of_some _ e,turn_list a _,⟨_,Heap.get?_push_size _ rfl,rfl,rfl⟩,fun b hb=>?_,q⟩
 have e:b=s1.heap.objs.size:=by simpa using hb
 subst e
 exact I1.fpOk (Nat.le_refl _) (I1.hok.fresh (Nat.le_refl _))
theorem pi_tup {l:Expr} {tl:TE} (hl:PE X l tl):PI X tg l (iTup X.K tl):=by
 intro pins s σ H R I h
 refine thn (hl pins s σ H _ I h) fun v s1 ⟨x,H1,I1,r1,q1⟩=>?_
 obtain ⟨a,e,⟨xs,hq⟩,q⟩:=q1
 subst e
 cases r1
 obtain ⟨its,rv,p,hz⟩:=I1.tuple hq
 refine wpAny_pyIter_tuple (show s1.heap.IsTuple a its.toArray from p) ?_
 refine ⟨s1.heap.objs.size,[s1.heap.objs.size],_,_,H1,rfl,I1.kept (t':=s1.toks) fun b o e=>Heap.get?_push_of_some _ e,turn_tuple a _,⟨_,Heap.get?_push_size _ rfl,rfl,rfl⟩,fun b hb=>?_,q⟩
 have e:b=s1.heap.objs.size:=by simpa using hb
 subst e
 exact I1.fpOk (Nat.le_refl _) (I1.hok.fresh (Nat.le_refl _))
theorem range_it {pins:List (Addr × Obj)} {σ:St} {H:Hp} {s:Shared} {R:It→Hp→Prop} {E:Value→Shared→Prop} {lo hi:Int} {t u v:Tok} {tk:Nat} (I:Inv X pins σ H s) (h1:-(2 ^ 62)≤lo) (h2:lo < 2 ^ 62) (h3:-(2 ^ 62)≤hi) (h4:hi < 2 ^ 62)
  (q:R (Itr lo (hi - lo).toNat) H):wpAny (model X.prog X.w) X.A (pyIter (.ref s.heap.objs.size)) (PIE X pins σ tg R) E { s with heap:=s.heap.push { cls:=.type "range",data:=.fields #[.int lo t,.int hi u,.int 1 v] },toks:=tk }:=by
 refine wpAny_pyIter_range (IsRange.new ..) (small_one h1 h2 h3 h4) ?_
 have I1:Inv X pins σ H { s with heap:=s.heap.push { cls:=.type "range",data:=.fields #[.int lo t,.int hi u,.int 1 v] },toks:=tk }:=I.kept fun b o e=>Heap.get?_push_of_some _ e
 refine ⟨(s.heap.push { cls:=.type "range",data:=.fields #[.int lo t,.int hi u,.int 1 v] }).objs.size,[(s.heap.push { cls:=.type "range",data:=.fields #[.int lo t,.int hi u,.int 1 v] }).objs.size],_,_,H,rfl,
  I1.kept (t':=tk) fun b o e=>Heap.get?_push_of_some _ e,turn_range _ lo (hi - lo).toNat,?_,fun b hb=>?_,q⟩
 ·have e1:lo + ((0:Nat):Int) * 1=lo:=by simp
  have e2:(((hi - lo).toNat:Nat):Int) - ((0:Nat):Int)=Builtin.Range.rangeSize lo hi 1:=by rw [rangeSize_one];split <;> omega
  show IsRangeIter _ _ (lo + ((0:Nat):Int) * 1) ((((hi - lo).toNat:Nat):Int) - ((0:Nat):Int)) 1
  rw [e1,e2]
  exact Heap.get?_push_size _ rfl
 ·have e:b=(s.heap.push { cls:=.type "range",data:=.fields #[.int lo t,.int hi u,.int 1 v] }).objs.size:=by simpa using hb
  subst e
  exact I1.fpOk (Nat.le_refl _) (I1.hok.fresh (Nat.le_refl _))
def iRng1 (ta:TA):TI:=fun σ H R=>ta σ H fun vs H1=>∃ j:Int,vs=[.int j]∧-(2 ^ 62)≤j∧j < 2 ^ 62∧R (Itr 0 j.toNat) H1
theorem J1a {a:Expr} {ta:TA} {p pos:Pos} (hg:Gl X "range") (hm:X.mg "range"=none) (ha:PA X [a] ta) (hs:starEach [a] X.env=[(false,eval a X.env)]:=by rfl):PI X tg (.Call (.Name "range" p) [a] [] pos) (iRng1 ta):=by
 intro pins s σ H R I h
 refine Call_ (ld_blt I hg hm boot_range (PyProof.Rows.callWith_type1 (thn (ha pos pins s σ H _ I h) fun us s1 ⟨vs,H1,I1,r1,q1⟩=>?_) hs rfl))
 obtain ⟨j,e,q1,q2,q⟩:=q1
 subst e
 cases r1 with
 | cons r rr =>
  cases rr
  obtain ⟨t,rfl⟩:=r
  exact call_range_1 (range_it I1 (by omega) (by omega) q1 q2 (by simpa using q))
def tFor (wi:TI) (g:TG) (tb:TS):TS:=fun D σ H=>wi σ H fun J H1=>∃ W:Nat→Nat→St→Hp→Prop,(∃ m,W 0 m σ H1)∧∀ i m σ H,W i m σ H→
 (J.stop i H∧D.nx σ H)∨(J.go i H∧∃ N:St→Hp→Prop,(∀ σ' H',N σ' H'→∃ m',m' < m∧W (i + 1) m' σ' H')∧∀ x H',J.yld i H x H'→g x σ H' fun σ2 H2=>tb { D with nx:=N,ct:=N,bk:=D.nx } σ2 H2)
def pinsAt (fp:List Addr) (h:Heap):List (Addr × Obj):=fp.filterMap fun b=>(h.get? b).map fun o=>(b,o)
theorem J10 {fp:List Addr} {h:Heap} {b:Addr} {o:Obj} (hb:b∈fp) (e:h.get? b=some o):(b,o)∈pinsAt fp h:=List.mem_filterMap.mpr ⟨b,hb,by rw [e];rfl⟩
theorem of_pinsAt {fp:List Addr} {h:Heap} {p:Addr × Obj} (hp:p∈pinsAt fp h):p.1∈fp∧h.get? p.1=some p.2:=by
 obtain ⟨b,hb,e⟩:=List.mem_filterMap.mp hp
 cases q:h.get? b with
 | none=>rw [q] at e;cases e
 | some o =>
  rw [q] at e
  have e':(b,o)=p:=Option.some.inj e
  subst e'
  exact ⟨hb,q⟩
theorem Inv.pinned {pins:List (Addr × Obj)} {σ:St} {H:Hp} {s:Shared} {fp:List Addr} (I:Inv X pins σ H s) (hf:∀ b∈fp,FpOk X pins H b) (ho:∀ b∈fp,∃ o,s.heap.get? b=some o∧∀ v,o.data≠.cell v):Inv X (pins ++ pinsAt fp s.heap) σ H s :=
 I.pins_of fun p hp=>(List.mem_append.mp hp).elim (fun z=>I.pin p (List.mem_append_right _ z)) fun z=>by
  obtain ⟨hb,e⟩:=of_pinsAt z
  obtain ⟨f0,f1,f2,_⟩:=hf p.1 hb
  obtain ⟨o,e',d⟩:=ho p.1 hb
  rw [e] at e';cases e'
  exact ⟨e,f0,f1,f2,d⟩
theorem Inv.unpinned {pins pl:List (Addr × Obj)} {σ:St} {H:Hp} {s:Shared} (I:Inv X (pins ++ pl) σ H s):Inv X pins σ H s:=I.pins_of fun p hp=>I.pin p (List.mem_append_right _ (List.mem_append_left _ hp))
theorem ps_for {iter:Expr} {body:List Stmt} {wi:TI} {g:TG} {tb:TS} {pos:Pos} (hp:PassesOwn (model X.prog X.w) X.A X.env X.xe) (hc:X.calm=true) (hi:PI X tg iter wi) (hg:PG X tg g) (hb:PSs X body tb)
  (hs:∀ x,foldedSetIterable iter X.env x=pure x:=by intro _;rfl):PS X (.For tg iter body [] pos) (tFor wi g tb):=by
 intro pins s σ H D I h
 refine wpAny_For (thn (hi pins s σ H _ I h) fun v s1 h1=>thn h1 fun itv s2 h2=>?_) hs
 obtain ⟨it,fp,tn,J,H2,e,I2,T,st2,f2,W,⟨m0,w0⟩,turn⟩:=h2
 subst e
 have stat:∀ {H':Hp},(∀ b∈fp,H' b=none)→∀ b∈fp,FpOk X pins H' b:=fun hn b hb=>⟨hn b hb,(f2 b hb).2⟩
 refine codeAny_forLoop_any (fun n s'=>∃ i σ' H',Inv X pins σ' H' s'∧tn i s'.heap∧(∀ b∈fp,H' b=none)∧W i n σ' H') ?_ m0 ⟨0,σ,H2,I2,st2,fun b hb=>(f2 b hb).1,w0⟩
 rintro n s3 ⟨i,σ3,H3,I3,st3,fr3,w3⟩
 rcases turn i n σ3 H3 w3 with ⟨stop,qn⟩ | ⟨go,N,hN,step⟩
 ·refine wpAny_passesOwn hp (thn (T.done X rfl rfl rfl hc i pins s3 σ3 H3 X.xe I3 (stat fr3) st3 stop) fun r s4 ⟨hr,I4⟩=>?_)
  subst hr
  exact wpAny_execs_nil ⟨σ3,H3,I4,qn⟩
 ·refine wpAny_passesOwn hp (thn (T.item X rfl rfl rfl hc i pins s3 σ3 H3 X.xe I3 (stat fr3) st3 go) fun r s4 ⟨u,hr,h4⟩=>?_)
  subst hr
  refine wpAny_passesOwn hp (thn h4 fun _ s5 ⟨x,H5,I5,r5,y5,st5,fr5⟩=>?_)
  have I5':=I5.pinned (stat fr5) (T.obj _ _ st5)
  refine wpAny_passesOwn hp (thn (hg _ s5 σ3 H5 x u _ I5' r5 (step x H5 y5)) fun _ s6 ⟨σ6,H6,I6,q6⟩=>?_)
  refine wpAny_passesOwn hp (thn (hb _ s6 σ6 H6 _ I6 q6) fun f s7 q7=>?_)
  have again:∀ {σ7:St} {H7:Hp},Inv X (pins ++ pinsAt fp s5.heap) σ7 H7 s7→N σ7 H7→∃ m,m < n∧∃ i σ' H',Inv X pins σ' H' s7∧tn i s7.heap∧(∀ b∈fp,H' b=none)∧W i m σ' H':=fun {σ7 H7} I7 n7=>by
   obtain ⟨m',hm,w7⟩:=hN σ7 H7 n7
   refine ⟨m',hm,i + 1,σ7,H7,I7.unpinned,T.keep _ _ _ st5 fun b hb o e=>(I7.pin (b,o) (List.mem_append_right _ (List.mem_append_right _ (J10 hb e)))).1,fun b hb=>?_,w7⟩
   obtain ⟨o,e,d⟩:=T.obj _ _ st5 b hb
   exact (I7.pin (b,o) (List.mem_append_right _ (List.mem_append_right _ (J10 hb e)))).2.1
  cases f with
  | next=>obtain ⟨σ7,H7,I7,n7⟩:=q7;exact again I7 n7
  | cont=>obtain ⟨σ7,H7,I7,n7⟩:=q7;exact again I7 n7
  | brk=>obtain ⟨σ7,H7,I7,q7⟩:=q7;exact ⟨σ7,H7,I7.unpinned,q7⟩
  | ret v=>obtain ⟨x7,σ7,H7,I7,r7,q7⟩:=q7;exact ⟨x7,σ7,H7,I7.unpinned,r7,q7⟩
end
theorem for_list {K:PySem.W.Frag} {a:Addr} {xs:List V} {g:TG} {tb:TS} {D:Ends} {σ:St} {H:Hp} (Pv:Nat→St→Hp→Prop) (h0:Pv 0 σ H) (hl:∀ i σ H,i≤xs.length→Pv i σ H→SqL K H a xs)
  (hs:∀ i x σ H,xs[i]?=some x→Pv i σ H→g x σ H fun σ2 H2=>tb { D with nx:=Pv (i + 1),ct:=Pv (i + 1),bk:=D.nx } σ2 H2) (hd:∀ σ H,Pv xs.length σ H→D.nx σ H) :
  ∃ W:Nat→Nat→St→Hp→Prop,(∃ m,W 0 m σ H)∧∀ i m σ H,W i m σ H→
   ((Itl K a).stop i H∧D.nx σ H)∨((Itl K a).go i H∧∃ N:St→Hp→Prop,(∀ σ' H',N σ' H'→∃ m',m' < m∧W (i + 1) m' σ' H')∧∀ x H',(Itl K a).yld i H x H'→g x σ H' fun σ2 H2=>tb { D with nx:=N,ct:=N,bk:=D.nx } σ2 H2):=by
 refine ⟨fun i m σ H=>m=xs.length - i∧i≤xs.length∧Pv i σ H,⟨xs.length,by simp,Nat.zero_le _,h0⟩,?_⟩
 rintro i m σ H ⟨rfl,hi,p⟩
 have q:=hl i σ H hi p
 by_cases hlt:i < xs.length
 ·refine .inr ⟨⟨xs,xs[i],q,by simp [hlt]⟩,Pv (i + 1),fun σ' H' p'=>⟨xs.length - (i + 1),by omega,rfl,hlt,p'⟩,fun x H' y=>?_⟩
  obtain ⟨e,y⟩:=y
  subst e
  exact hs i x σ _ (y xs q) p
 ·have e:i=xs.length:=by omega
  subst e
  exact .inl ⟨⟨xs,q,Nat.le_refl _⟩,hd σ H p⟩
theorem for_tup {K:PySem.W.Frag} {a:Addr} {xs:List V} {g:TG} {tb:TS} {D:Ends} {σ:St} {H:Hp} (Pv:Nat→St→Hp→Prop) (h0:Pv 0 σ H) (hl:∀ i σ H,i≤xs.length→Pv i σ H→SqT K H a xs)
  (hs:∀ i x σ H,xs[i]?=some x→Pv i σ H→g x σ H fun σ2 H2=>tb { D with nx:=Pv (i + 1),ct:=Pv (i + 1),bk:=D.nx } σ2 H2) (hd:∀ σ H,Pv xs.length σ H→D.nx σ H) :
  ∃ W:Nat→Nat→St→Hp→Prop,(∃ m,W 0 m σ H)∧∀ i m σ H,W i m σ H→
   ((Itt K a).stop i H∧D.nx σ H)∨((Itt K a).go i H∧∃ N:St→Hp→Prop,(∀ σ' H',N σ' H'→∃ m',m' < m∧W (i + 1) m' σ' H')∧∀ x H',(Itt K a).yld i H x H'→g x σ H' fun σ2 H2=>tb { D with nx:=N,ct:=N,bk:=D.nx } σ2 H2):=by
 refine ⟨fun i m σ H=>m=xs.length - i∧i≤xs.length∧Pv i σ H,⟨xs.length,by simp,Nat.zero_le _,h0⟩,?_⟩
 rintro i m σ H ⟨rfl,hi,p⟩
 have q:=hl i σ H hi p
 by_cases hlt:i < xs.length
 ·refine .inr ⟨⟨xs,xs[i],q,by simp [hlt]⟩,Pv (i + 1),fun σ' H' p'=>⟨xs.length - (i + 1),by omega,rfl,hlt,p'⟩,fun x H' y=>?_⟩
  obtain ⟨e,y⟩:=y
  subst e
  exact hs i x σ _ (y xs q) p
 ·have e:i=xs.length:=by omega
  subst e
  exact .inl ⟨⟨xs,q,Nat.le_refl _⟩,hd σ H p⟩
theorem for_range {lo:Int} {n:Nat} {g:TG} {tb:TS} {D:Ends} {σ:St} {H:Hp} (Pv:Nat→St→Hp→Prop) (h0:Pv 0 σ H)
  (hs:∀ i σ H,i < n→Pv i σ H→g (.int (lo + i)) σ H fun σ2 H2=>tb { D with nx:=Pv (i + 1),ct:=Pv (i + 1),bk:=D.nx } σ2 H2) (hd:∀ σ H,Pv n σ H→D.nx σ H) :
  ∃ W:Nat→Nat→St→Hp→Prop,(∃ m,W 0 m σ H)∧∀ i m σ H,W i m σ H→
   ((Itr lo n).stop i H∧D.nx σ H)∨((Itr lo n).go i H∧∃ N:St→Hp→Prop,(∀ σ' H',N σ' H'→∃ m',m' < m∧W (i + 1) m' σ' H')∧∀ x H',(Itr lo n).yld i H x H'→g x σ H' fun σ2 H2=>tb { D with nx:=N,ct:=N,bk:=D.nx } σ2 H2):=by
 refine ⟨fun i m σ H=>m=n - i∧i≤n∧Pv i σ H,⟨n,by simp,Nat.zero_le _,h0⟩,?_⟩
 rintro i m σ H ⟨rfl,hi,p⟩
 by_cases hlt:i < n
 ·refine .inr ⟨hlt,Pv (i + 1),fun σ' H' p'=>⟨n - (i + 1),by omega,rfl,hlt,p'⟩,fun x H' y=>?_⟩
  obtain ⟨e,y⟩:=y
  subst e y
  exact hs i σ _ hlt p
 ·have e:i=n:=by omega
  subst e
  exact .inl ⟨Nat.le_refl _,hd σ H p⟩
end L2
namespace L2
open PySem PySem.Spec PyProof.Rows
abbrev R2:=V→V→Hp→VK→Prop
def OpR (X:Cx) (f:Value→Value→Sem Value) (r:R2):Prop :=
 ∀ (pins:List (Addr × Obj)) (s:Shared) (σ:St) (H:Hp) (x y:V) (v u:Value) (Q:VK),Inv X pins σ H s→RelV x v→RelV y u→r x y H Q→
  wpAny (model X.prog X.w) X.A (f v u) (EP X pins σ Q) X.xe s
def UnR (X:Cx) (f:Value→Sem Value) (r:V→Hp→VK→Prop):Prop :=
 ∀ (pins:List (Addr × Obj)) (s:Shared) (σ:St) (H:Hp) (x:V) (v:Value) (Q:VK),Inv X pins σ H s→RelV x v→r x H Q→
  wpAny (model X.prog X.w) X.A (f v) (EP X pins σ Q) X.xe s
def CallR (X:Cx) (f:Value) (r:List V→Hp→VK→Prop):Prop :=
 ∀ (pins:List (Addr × Obj)) (s:Shared) (σ:St) (H:Hp) (xs:List V) (us:List Value) (Q:VK),Inv X pins σ H s→Vals xs us→r xs H Q→
  wpAny (model X.prog X.w) X.A (call f us) (EP X pins σ Q) X.xe s
def tOp (r:R2) (ta tb:TE):TE:=fun σ H Q=>ta σ H fun x H1=>tb σ H1 fun y H2=>r x y H2 Q
def tUn (r:V→Hp→VK→Prop) (ta:TE):TE:=fun σ H Q=>ta σ H fun x H1=>r x H1 Q
def rI (C:Int→Int→Prop) (g:Int→Int→V):R2:=fun x y H Q=>∃ i j,x=.int i∧y=.int j∧C i j∧Q (g i j) H
def rI0 (g:Int→Int→V):R2:=fun x y H Q=>∃ i j,x=.int i∧y=.int j∧Q (g i j) H
def rU (g:Int→V):V→Hp→VK→Prop:=fun x H Q=>∃ i,x=.int i∧Q (g i) H
section
variable {X:Cx} {a b c:Expr} {ta tb tc:TE} {pos:Pos}
theorem binT (ha:PE X a ta) (hb:PE X b tb) {pins:List (Addr × Obj)} {s:Shared} {σ:St} {H:Hp} {R:V→V→Hp→Prop} (I:Inv X pins σ H s)
  (h:ta σ H fun x H1=>tb σ H1 fun y H2=>R x y H2) {Q:Value→Shared→Prop} {f:Value→Value→Sem Value}
  (hf:∀ v u s2 x y H2,Inv X pins σ H2 s2→RelV x v→RelV y u→R x y H2→wpAny (model X.prog X.w) X.A (f v u) Q X.xe s2) :
  wpAny (model X.prog X.w) X.A (eval a X.env) (fun v s₁=>wpAny (model X.prog X.w) X.A (eval b X.env) (fun u s₂=>wpAny (model X.prog X.w) X.A (f v u) Q X.xe s₂) X.xe s₁) X.xe s:=by
 refine thn (ha pins s σ H _ I h) fun v s1 ⟨x,H1,I1,r1,q1⟩=>?_
 refine thn (hb pins s1 σ H1 _ I1 q1) fun u s2 ⟨y,H2,I2,r2,q2⟩=>?_
 exact hf v u s2 x y H2 I2 r1 r2 q2
theorem pe_op {op:Operator} {r:R2} (ho:OpR X (binaryOp op) r) (ha:PE X a ta) (hb:PE X b tb):PE X (.BinOp a op b pos) (tOp r ta tb):=by
 intro pins s σ H Q I h
 exact wpAny_BinOp (binT ha hb I h fun v u s2 x y H2 I2 rx ry q=>ho pins s2 σ H2 x y v u Q I2 rx ry q)
theorem pe_un {op:UnaryOp} {r:V→Hp→VK→Prop} (ho:UnR X (unaryOp op) r) (ha:PE X a ta):PE X (.UnaryOp op a pos) (tUn r ta):=by
 intro pins s σ H Q I h
 exact UnaryOp_ (thn (ha pins s σ H _ I h) fun v s1 ⟨x,H1,I1,r1,q1⟩=>ho pins s1 σ H1 x v Q I1 r1 q1)
theorem opI {f:Value→Value→Sem Value} {C:Int→Int→Prop} {g:Int→Int→Int}
  (rule:∀ (i j:Int) (t u:Tok) (s:Shared) (Q:Value→Shared→Prop) (E:Value→Shared→Prop),C i j→Q (.int (g i j) s.toks) { s with toks:=s.toks + 1 }→wpAny (model X.prog X.w) X.A (f (.int i t) (.int j u)) Q E s) :
  OpR X f (rI C fun i j=>.int (g i j)):=by
 intro pins s σ H x y v u Q I rx ry h
 obtain ⟨i,j,rfl,rfl,hc,q⟩:=h
 obtain ⟨t,rfl⟩:=rx
 obtain ⟨t',rfl⟩:=ry
 exact rule i j t t' s _ _ hc ⟨.int (g i j),H,I.tok _,⟨_,rfl⟩,q⟩
theorem opI0 {f:Value→Value→Sem Value} {g:Int→Int→Int}
  (rule:∀ (i j:Int) (t u:Tok) (s:Shared) (Q:Value→Shared→Prop) (E:Value→Shared→Prop),Q (.int (g i j) s.toks) { s with toks:=s.toks + 1 }→wpAny (model X.prog X.w) X.A (f (.int i t) (.int j u)) Q E s) :
  OpR X f (rI0 fun i j=>.int (g i j)):=by
 intro pins s σ H x y v u Q I rx ry h
 obtain ⟨i,j,rfl,rfl,q⟩:=h
 obtain ⟨t,rfl⟩:=rx
 obtain ⟨t',rfl⟩:=ry
 exact rule i j t t' s _ _ ⟨.int (g i j),H,I.tok _,⟨_,rfl⟩,q⟩
theorem opB0 {f:Value→Value→Sem Value} {g:Int→Int→Bool}
  (rule:∀ (i j:Int) (t u:Tok) (s:Shared) (Q:Value→Shared→Prop) (E:Value→Shared→Prop),Q (.bool (g i j)) s→wpAny (model X.prog X.w) X.A (f (.int i t) (.int j u)) Q E s) :
  OpR X f (rI0 fun i j=>.bl (g i j)):=by
 intro pins s σ H x y v u Q I rx ry h
 obtain ⟨i,j,rfl,rfl,q⟩:=h
 obtain ⟨t,rfl⟩:=rx
 obtain ⟨t',rfl⟩:=ry
 exact rule i j t t' s _ _ ⟨.bl (g i j),H,I,rfl,q⟩
def CDiv (i j:Int):Prop:=0 < j∧j < 1073741824
def CPow (i j:Int):Prop:=0≤j∧j≤1000000∧i.natAbs < 2 ^ 64
def CMul (i j:Int):Prop:=(-(2 ^ 64) < i∧i < 2 ^ 64)∨(-(2 ^ 64) < j∧j < 2 ^ 64)
theorem CMul.ok {i j:Int} (h:CMul i j):IntMulOk i j:=by
 rcases h with ⟨h1,h2⟩ | ⟨h1,h2⟩
 ·exact .of_left (intBits_le_64 h1 h2)
 ·exact .of_right (intBits_le_64 h1 h2)
theorem two_pow_nn (k:Nat):(0:Int)≤2 ^ k:=by
 rw [two_pow_cast]
 exact Int.natCast_nonneg _
theorem J1k:OpR X (binaryOp .Add) (rI0 fun i j=>.int (i + j)):=opI0 fun _ _ _ _ _ _ _ q=>add_int q
theorem op_sub:OpR X (binaryOp .Sub) (rI0 fun i j=>.int (i - j)):=opI0 fun _ _ _ _ _ _ _ q=>sub_int q
theorem op_fdiv:OpR X (binaryOp .FloorDiv) (rI CDiv fun i j=>.int (i / j)):=opI fun i j _ _ _ _ _ hc q=>by
 have h1:(0:Int) < j:=hc.1
 have h2:j < 1073741824:=hc.2
 exact floordiv_int (by omega) (by rw [Int.fdiv_eq_ediv_of_nonneg i (by omega)];exact q) (.inl (PyProof.noPylong_small (by omega)))
theorem J16:OpR X (binaryOp .Mod) (rI (fun _ j=>0 < j) fun i j=>.int (i % j)):=opI fun i j _ _ _ _ _ hc q=>by
 have h1:(0:Int) < j:=hc
 exact mod_int' (by omega) (by rw [Int.fmod_eq_emod_of_nonneg i (by omega)];exact q)
theorem op_pow:OpR X (binaryOp .Pow) (rI CPow fun i j=>.int (i ^ j.toNat)):=opI fun _ _ _ _ _ _ _ hc q=>pow_int_small hc.1 hc.2.1 hc.2.2 q
theorem op_shl:OpR X (binaryOp .LShift) (rI CPow fun i j=>.int (i * 2 ^ j.toNat)):=opI fun _ _ _ _ _ _ _ hc q=>lshift_int_small hc.1 hc.2.1 hc.2.2 q
theorem op_shr:OpR X (binaryOp .RShift) (rI (fun _ j=>0≤j) fun i j=>.int (i / 2 ^ j.toNat)):=opI fun i j _ _ _ _ _ hc q =>
 rshift_int hc (by rw [Int.fdiv_eq_ediv_of_nonneg i (two_pow_nn _)];exact q)
theorem op_and:OpR X (binaryOp .BitAnd) (rI0 fun i j=>.int (Builtin.bitAnd i j)):=opI0 fun _ _ _ _ _ _ _ q=>and_int q
theorem unI {f:Value→Sem Value} {g:Int→Int}
  (rule:∀ (i:Int) (t:Tok) (s:Shared) (Q:Value→Shared→Prop) (E:Value→Shared→Prop),Q (.int (g i) s.toks) { s with toks:=s.toks + 1 }→wpAny (model X.prog X.w) X.A (f (.int i t)) Q E s) :
  UnR X f (rU fun i=>.int (g i)):=by
 intro pins s σ H x v Q I rx h
 obtain ⟨i,rfl,q⟩:=h
 obtain ⟨t,rfl⟩:=rx
 exact rule i t s _ _ ⟨.int (g i),H,I.tok _,⟨_,rfl⟩,q⟩
theorem un_neg:UnR X (unaryOp .USub) (rU fun i=>.int (-i)):=unI fun _ _ _ _ _ q=>neg_int q
end
def scal:V→V→Bool
 | .non,.non=>true | .non,.int _=>true | .int _,.non=>true | .non,.bl _=>true | .bl _,.non=>true | .non,.str _=>true | .str _,.non=>true
 | .int _,.int _=>true | .bl _,.bl _=>true | .str _,.str _=>true | .byt _,.byt _=>true
 | .int _,.str _=>true | .str _,.int _=>true | .bl _,.str _=>true | .str _,.bl _=>true
 | _,_=>false
def rEq:R2:=fun x y H Q=>scal x y=true∧Q (.bl (decide (x=y))) H
def rNe:R2:=fun x y H Q=>scal x y=true∧Q (.bl (!decide (x=y))) H
theorem dec_int {i j:Int}:decide (V.int i=V.int j)=(i == j):=by
 rw [Bool.eq_iff_iff]
 simp
theorem dec_bl {i j:Bool}:decide (V.bl i=V.bl j)=(i == j):=by
 rw [Bool.eq_iff_iff]
 simp
theorem dec_str {i j:Str}:decide (V.str i=V.str j)=(i == j):=by
 rw [Bool.eq_iff_iff]
 simp
theorem dec_byt {i j:Array UInt8}:decide (V.byt i=V.byt j)=(i.toList == j.toList):=by
 rw [Bool.eq_iff_iff]
 cases i
 cases j
 simp
section
variable {X:Cx} {a b c:Expr} {ta tb tc:TE} {pos:Pos}
theorem Jo {pins:List (Addr × Obj)} {σ:St} {H:Hp} {s:Shared} {Q:VK} {k k':Bool} (I:Inv X pins σ H s) (q:Q (.bl k) H) (e:k=k'):EP X pins σ Q (.bool k') s:=by
 subst e
 exact ⟨.bl k,H,I,rfl,q⟩
theorem op_eq:OpR X (compareOp .Eq) rEq:=by
 intro pins s σ H x y v u Q I rx ry h
 obtain ⟨hs,q⟩:=h
 cases x with
 | non =>
  cases rx
  cases y with
  | non=>cases ry;exact PySem.EqNone.eq_none_none (Jo I q (by simp))
  | bl j=>cases ry;exact PySem.EqNone.eq_none_bool (Jo I q (by simp))
  | int j=>obtain ⟨t',rfl⟩:=ry;exact PySem.EqNone.eq_none_int (Jo I q (by simp))
  | str j=>obtain ⟨t',rfl⟩:=ry;exact PySem.EqNone.eq_none_str (Jo I q (by simp))
  | _=>exact absurd (show false=true from hs) Bool.false_ne_true
 | bl i =>
  cases rx
  cases y with
  | non=>cases ry;exact PySem.EqNone.eq_bool_none (Jo I q (by simp))
  | bl j=>cases ry;exact eq_bool (Jo I q dec_bl)
  | str j=>obtain ⟨t',rfl⟩:=ry;exact PySem.EqMixed.eq_bool_str (Jo I q (by simp))
  | _=>exact absurd (show false=true from hs) Bool.false_ne_true
 | int i =>
  obtain ⟨t,rfl⟩:=rx
  cases y with
  | non=>cases ry;exact PySem.EqNone.eq_int_none (Jo I q (by simp))
  | int j=>obtain ⟨t',rfl⟩:=ry;exact eq_int (Jo I q dec_int)
  | str j=>obtain ⟨t',rfl⟩:=ry;exact PySem.EqMixed.eq_int_str (Jo I q (by simp))
  | _=>exact absurd (show false=true from hs) Bool.false_ne_true
 | str i =>
  obtain ⟨t,rfl⟩:=rx
  cases y with
  | non=>cases ry;exact PySem.EqNone.eq_str_none (Jo I q (by simp))
  | bl j=>cases ry;exact PySem.EqMixed.eq_str_bool (Jo I q (by simp))
  | int j=>obtain ⟨t',rfl⟩:=ry;exact PySem.EqMixed.eq_str_int (Jo I q (by simp))
  | str j=>obtain ⟨t',rfl⟩:=ry;exact eq_str (Jo I q dec_str)
  | _=>exact absurd (show false=true from hs) Bool.false_ne_true
 | byt i =>
  obtain ⟨t,rfl⟩:=rx
  cases y with
  | byt j=>obtain ⟨t',rfl⟩:=ry;exact PySem.W.eq_bytes (Jo I q dec_byt)
  | _=>exact absurd (show false=true from hs) Bool.false_ne_true
 | _=>cases y <;> exact absurd (show false=true from hs) Bool.false_ne_true
theorem op_ne:OpR X (compareOp .NotEq) rNe:=by
 intro pins s σ H x y v u Q I rx ry h
 obtain ⟨hs,q⟩:=h
 cases x with
 | non =>
  cases rx
  cases y with
  | non=>cases ry;exact PySem.EqNone.ne_none_none (Jo I q (by simp))
  | bl j=>cases ry;exact PySem.EqNone.ne_none_bool (Jo I q (by simp))
  | int j=>obtain ⟨t',rfl⟩:=ry;exact PySem.EqNone.ne_none_int (Jo I q (by simp))
  | str j=>obtain ⟨t',rfl⟩:=ry;exact PySem.EqNone.ne_none_str (Jo I q (by simp))
  | _=>exact absurd (show false=true from hs) Bool.false_ne_true
 | bl i =>
  cases rx
  cases y with
  | non=>cases ry;exact PySem.EqNone.ne_bool_none (Jo I q (by simp))
  | bl j=>cases ry;exact ne_bool (Jo I q (congrArg not dec_bl))
  | str j=>obtain ⟨t',rfl⟩:=ry;exact PySem.EqMixed.ne_bool_str (Jo I q (by simp))
  | _=>exact absurd (show false=true from hs) Bool.false_ne_true
 | int i =>
  obtain ⟨t,rfl⟩:=rx
  cases y with
  | non=>cases ry;exact PySem.EqNone.ne_int_none (Jo I q (by simp))
  | int j=>obtain ⟨t',rfl⟩:=ry;exact ne_int (Jo I q (congrArg not dec_int))
  | str j=>obtain ⟨t',rfl⟩:=ry;exact PySem.EqMixed.ne_int_str (Jo I q (by simp))
  | _=>exact absurd (show false=true from hs) Bool.false_ne_true
 | str i =>
  obtain ⟨t,rfl⟩:=rx
  cases y with
  | non=>cases ry;exact PySem.EqNone.ne_str_none (Jo I q (by simp))
  | bl j=>cases ry;exact PySem.EqMixed.ne_str_bool (Jo I q (by simp))
  | int j=>obtain ⟨t',rfl⟩:=ry;exact PySem.EqMixed.ne_str_int (Jo I q (by simp))
  | str j=>obtain ⟨t',rfl⟩:=ry;exact ne_str (Jo I q (congrArg not dec_str))
  | _=>exact absurd (show false=true from hs) Bool.false_ne_true
 | byt i =>
  obtain ⟨t,rfl⟩:=rx
  cases y with
  | byt j=>obtain ⟨t',rfl⟩:=ry;exact PySem.W.ne_bytes (Jo I q (congrArg not dec_byt))
  | _=>exact absurd (show false=true from hs) Bool.false_ne_true
 | _=>cases y <;> exact absurd (show false=true from hs) Bool.false_ne_true
theorem op_lt:OpR X (compareOp .Lt) (rI0 fun i j=>.bl (decide (i < j))):=opB0 fun _ _ _ _ _ _ _ q=>lt_int q
theorem op_gt:OpR X (compareOp .Gt) (rI0 fun i j=>.bl (decide (j < i))):=opB0 fun _ _ _ _ _ _ _ q=>gt_int q
theorem op_in_str:OpR X (compareOp .In) (fun x y H Q=>∃ i j,x=.str i∧y=.str j∧Q (.bl (!(Builtin.Str.occurrences j i 0 j.length 1).isEmpty)) H):=by
 intro pins s σ H x y v u Q I rx ry h
 obtain ⟨i,j,rfl,rfl,q⟩:=h
 obtain ⟨t,rfl⟩:=rx
 obtain ⟨t',rfl⟩:=ry
 exact in_str (Jo I q rfl)
theorem op_isN:OpR X (compareOp .Is) (fun x y H Q=>y=.non∧Q (.bl (decide (x=.non))) H):=by
 intro pins s σ H x y v u Q I rx ry h
 obtain ⟨rfl,q⟩:=h
 cases ry
 refine is_none_gen (Jo I q ?_)
 cases x <;> first
  | (cases rx;rfl)
  | (obtain ⟨t,rfl⟩:=rx;rfl)
theorem Ji (b:Expr) {op:CmpOp} (h:op≠.In:=by decide) (h2:op≠.NotIn:=by decide):behindInMarks op b=false:=by
 have e1:(op == CmpOp.In)=false:=by cases op <;> first | rfl | exact absurd rfl h
 have e2:(op == CmpOp.NotIn)=false:=by cases op <;> first | rfl | exact absurd rfl h2
 cases b <;> simp [behindInMarks,e1,e2]
theorem Jt {op:CmpOp} {r:R2} (ho:OpR X (compareOp op) r) (ha:PE X a ta) (hb:PE X b tb) (hm:behindInMarks op b=false):PE X (.Compare a [op] [b] pos) (tOp r ta tb):=by
 intro pins s σ H Q I h
 exact wpAny_Compare1 (binT ha hb I h fun v u s2 x y H2 I2 rx ry q=>ho pins s2 σ H2 x y v u Q I2 rx ry q) hm
def tTest (t:TE):TT:=fun σ H Q=>t σ H fun x H'=>∃ k,x=.bl k∧Q k H'
theorem Jh {op:CmpOp} {r:R2} (ho:OpR X (compareOp op) r) (ha:PE X a ta) (hb:PE X b tb) (hm:behindInMarks op b=false):PT X (.Compare a [op] [b] pos) (tTest (tOp r ta tb)):=by
 intro pins s σ H Q I h
 refine wpAny_isTrue_Compare1 (thn (ha pins s σ H _ I h) fun v s1 ⟨x,H1,I1,r1,q1⟩=>thn (hb pins s1 σ H1 _ I1 q1) fun u s2 ⟨y,H2,I2,r2,q2⟩ =>
  thn (ho pins s2 σ H2 x y v u _ I2 r1 r2 q2) fun c s3 ⟨z,H3,I3,r3,k,e,q3⟩=>?_) hm
 subst e
 cases r3
 exact wpAny_truthy_bool ⟨H3,I3,q3⟩
theorem J3k:(sizeLine:Nat) < 2 ^ 63:=by rw [sizeLine_eq];decide
theorem J1b:OpR X (binaryOp .Add) (fun x y H Q=>∃ i j,x=.str i∧y=.str j∧i.length + j.length≤sizeLine∧Q (.str (i ++ j)) H):=by
 intro pins s σ H x y v u Q I rx ry h
 obtain ⟨i,j,rfl,rfl,hz,q⟩:=h
 obtain ⟨t,rfl⟩:=rx
 obtain ⟨t',rfl⟩:=ry
 exact add_str (fun t' tk=>⟨.str (i ++ j),H,I.tok _,⟨_,rfl⟩,q⟩) hz
theorem vals1 {x:V} {us:List Value} (r:Vals [x] us):∃ u,us=[u]∧RelV x u:=by
 cases r with
 | cons r1 r2=>cases r2;exact ⟨_,rfl,r1⟩
theorem vals2 {x y:V} {us:List Value} (r:Vals [x,y] us):∃ u w',us=[u,w']∧RelV x u∧RelV y w':=by
 cases r with
 | cons r1 r2 =>
  cases r2 with
  | cons r3 r4=>cases r4;exact ⟨_,_,rfl,r1,r3⟩
theorem call_int1:CallR X (.type "int") (fun xs H Q=>(∃ i,xs=[.int i]∧Q (.int i) H)∨∃ k,xs=[.bl k]∧Q (.int (if k then 1 else 0)) H):=by
 intro pins s σ H xs us Q I r h
 rcases h with ⟨i,rfl,q⟩ | ⟨k,rfl,q⟩
 ·obtain ⟨u,rfl,t,rfl⟩:=vals1 r
  exact call_int_int ⟨.int i,H,I,⟨_,rfl⟩,q⟩
 ·obtain ⟨u,rfl,r1⟩:=vals1 r
  cases r1
  exact call_int_bool ⟨.int (if k then 1 else 0),H,I.tok _,⟨_,rfl⟩,q⟩
theorem J24:CallR X (.type "str") (fun xs H Q=>∃ i,xs=[.int i]∧i.natAbs.log2 < 1920∧Q (.str (toString i)) H):=by
 intro pins s σ H xs us Q I r h
 obtain ⟨i,rfl,hz,q⟩:=h
 obtain ⟨u,rfl,t,rfl⟩:=vals1 r
 exact PySem.P.str_of_int hz ⟨.str _,H,I.tok _,⟨_,rfl⟩,q⟩
end
end L2
namespace L2
open PySem PySem.Spec PyProof.Rows
structure ObjM (h:Heap) (x dx C:Addr) (mA:Str→Option Value):Prop where
 obj:h.get? x=some (PySem.W.instObj C dx)
 ns:h.Ns1 dx mA
 ne:dx≠x
theorem lookIn_ns {h:Heap} {dx:Addr} {mA:Str→Option Value} (n:h.Ns1 dx mA):∃ od,h.get? dx=some od∧∀ name,PySem.W.lookIn name od=some (mA name):=by
 obtain ⟨o,es,ep,ho,hd,hk,_,hm⟩:=n
 refine ⟨o,ho,fun name=>?_⟩
 have e:=hm name
 unfold nsFind findBy at e
 rw [← Array.find?_toList] at e
 unfold PySem.W.lookIn
 rw [hd]
 dsimp only
 split
 ·rename_i y q
  rw [q] at e
  exact congrArg some e
 ·rename_i q
  rw [q] at e
  have a:es.toList.any (·.refKey)=false:=by
   rw [List.any_eq_false]
   intro y hy
   obtain ⟨z,t,hkey⟩:=hk y (Array.mem_toList_iff.mp hy)
   simp [DictEntry.refKey,hkey]
  have a':¬ es.toList.any (·.refKey)=true:=by rw [a];exact Bool.false_ne_true
  rw [if_neg a']
  exact congrArg some e
theorem ObjM.look {h:Heap} {x dx C:Addr} {mA:Str→Option Value} (I:ObjM h x dx C mA):∃ od,PySem.W.InstAt h x (PySem.W.instObj C dx) C (some od)∧∀ name,PySem.W.lookIn name od=some (mA name) :=
 let ⟨od,ho,hl⟩:=lookIn_ns I.ns
 ⟨od,⟨I.obj,rfl,rfl,ho⟩,hl⟩
section
variable {prog:Program} {w:World} {A:Around} {E:Value→Shared→Prop} {s:Shared} {K:PySem.W.Frag} {x dx C f:Addr} {mA:Str→Option Value} {name:Str} {v:Value}
theorem get_map {expr:Bool} {Q:Value→Shared→Prop} (X:K.In s.heap) (I:ObjM s.heap x dx C mA) (hg:PySem.W.plainGet K C name=true) (hh:PySem.W.hasDictIn K C=true)
  (ha:PySem.W.findIn K (.ref C) name=some none) (hv:mA name=some v) (hv':PySem.W.handedIn v=true) (h:Q v { s with toks:=s.toks + 1 }) :
  wpAny (model prog w) A (getAttr (.ref x) name expr) Q E s:=by
 obtain ⟨od,J,hl⟩:=I.look
 exact PySem.W.get_value X J (PySem.W.plainGet_of hg).1 (PySem.W.findObj_own hh ha rfl (by rw [hl,hv])) hv' h
theorem set_map {ns:List Str} {Q:Unit→Shared→Prop} (X:K.In s.heap) (I:ObjM s.heap x dx C mA)
  (hs:PySem.W.findIn K (.ref C) "__setattr__"=some (some (.builtin "object.__setattr__"))) (hp:PySem.W.plainOver K C=true) (ht:PySem.W.takerIn K C name=some none) (hh:PySem.W.hasDictIn K C=true)
  (hw:PySem.Within mA ns) (hsz:ns.length≤sizeLine)
  (h:∀ h',ObjM h' x dx C (fun y=>if y=name then some v else mA y)→Heap.SameBut dx s.heap h'→Q () { s with heap:=h',toks:=s.toks + 2 }) :
  wpAny (model prog w) A (setAttr (.ref x) name v) Q E s:=by
 obtain ⟨od,J,hl⟩:=I.look
 refine PySem.W.set_plain X J hs (PySem.W.osa_open (s:={ s with toks:=s.toks + 1 }) (r:=none) X J hp ht fun b=>?_)
 obtain ⟨cd,hc,hd'⟩:=PySem.W.any_some hh
 have hx:s.heap.get? x=some ⟨.ref C,some dx,.plain,#[]⟩:=I.obj
 refine wpAny_bind (wpAny_pure (wpAny_bind (wpAny_bind (wpAny_loadPart hx (wpAny_bind (PySem.W.Looks.here (s:={ s with toks:=s.toks + 1 }) (PySem.W.looks_clsIn X hc) ?_))))))
 rw [hd']
 refine wpAny_pure (a:=some dx) (wpAny_bind (wpAny_pure (wpAny_bind ?_)))
 refine wpAny_nsSet1 (s:={ s with toks:=s.toks + 1 }) I.ns fun h' hn2 hs2=>?_
 obtain ⟨oD,esD,epD,hoD,hdD,hcD⟩:=hn2.count (PySem.Within.cons name v hw)
 refine wpAny_bind (wpAny_lookBehind hoD (by rw [hdD];exact pastItsLine_dict (Nat.le_trans hcD (by rw [List.length_cons];omega))) ?_)
 exact wpAny_pure (h _ ⟨(hs2.2 _ (Ne.symm I.ne)).trans I.obj,hn2,I.ne⟩ hs2)
theorem make_map {R:Result→Shared→Prop} {vs:List Value} {kw:List (Str × Value)} (X:K.In s.heap) (hm:PySem.W.makesIn K C=true)
  (hi:PySem.W.findIn K (.ref C) "__init__"=some (some (.ref f))) (hf:PySem.W.typeIn K (.ref f)=some (.type "function"))
  (h:codeAny (model prog w) (A.under (.builtin "type.__call__" ⟨.ref C :: vs,kw⟩)) (.call (.ref f) ⟨.ref (s.heap.objs.size + 1) :: vs,kw⟩) (PySem.W.InitBack (s.heap.objs.size + 1) R)
   { s with heap:=(s.heap.push PySem.W.emptyDict).push (PySem.W.instObj C s.heap.objs.size) }) :
  codeAny (model prog w) A (.call (.ref C) ⟨vs,kw⟩) R s:=by
 obtain ⟨hh,g,d,t,os⟩:=s
 exact PySem.W.make_core (PySem.W.makes_of X hm) (PySem.W.looks_findIn X hi) (fun self=>PySem.W.bind_fn X self hf) (.inl rfl) h
end
def putF (f:Str) (v:V):List (Str × V)→List (Str × V)
 | []=>[(f,v)]
 | (g,x) :: r=>if g=f then (g,v) :: r else (g,x) :: putF f v r
theorem J12 (f g:Str) (v:V):∀ fs:List (Str × V),(putF f v fs).lookup g=if g=f then some v else fs.lookup g
 | []=>by
  show List.lookup g [(f,v)]=_
  by_cases h:g=f
  ·have hb:(g == f)=true:=beq_iff_eq.mpr h
   simp only [List.lookup,hb,if_pos h]
  ·have hb:(g == f)=false:=beq_eq_false_iff_ne.mpr h
   simp only [List.lookup,hb,if_neg h]
 | (k,x) :: r=>by
  have ih:=J12 f g v r
  rw [show putF f v ((k,x) :: r)=(if k=f then (k,v) :: r else (k,x) :: putF f v r) from rfl]
  by_cases hk:k=f
  ·rw [if_pos hk]
   by_cases h:g=k
   ·have hb:(g == k)=true:=beq_iff_eq.mpr h
    simp only [List.lookup,hb,if_pos (h.trans hk)]
   ·have hb:(g == k)=false:=beq_eq_false_iff_ne.mpr h
    simp only [List.lookup,hb,if_neg (fun e:g=f=>h (e.trans hk.symm))]
  ·rw [if_neg hk]
   by_cases h:g=k
   ·have hb:(g == k)=true:=beq_iff_eq.mpr h
    simp only [List.lookup,hb,if_neg (fun e:g=f=>hk (h.symm.trans e))]
   ·have hb:(g == k)=false:=beq_eq_false_iff_ne.mpr h
    simp only [List.lookup,hb]
    exact ih
theorem J2p (f:Str) (v:V):∀ fs:List (Str × V),f∈(putF f v fs).map (·.1)∧∀ g,g∈fs.map (·.1)→g∈(putF f v fs).map (·.1)
 | []=>⟨by simp [putF],fun g h=>by simp at h⟩
 | (k,x) :: r=>by
  obtain ⟨i1,i2⟩:=J2p f v r
  rw [show putF f v ((k,x) :: r)=(if k=f then (k,v) :: r else (k,x) :: putF f v r) from rfl]
  by_cases hk:k=f
  ·rw [if_pos hk]
   subst hk
   exact ⟨by simp,fun g h=>by simpa using h⟩
  ·rw [if_neg hk]
   refine ⟨?_,fun g h=>?_⟩
   ·rw [List.map_cons]
    exact List.mem_cons_of_mem _ i1
   ·rw [List.map_cons] at h ⊢
    rcases List.mem_cons.mp h with e | e
    ·exact List.mem_cons.mpr (.inl e)
    ·exact List.mem_cons_of_mem _ (i2 g e)
theorem Js (f:Str) (v:V):∀ fs:List (Str × V),(putF f v fs).length≤fs.length + 1
 | []=>by simp [putF]
 | (k,x) :: r=>by
  have ih:=Js f v r
  rw [show putF f v ((k,x) :: r)=(if k=f then (k,v) :: r else (k,x) :: putF f v r) from rfl]
  by_cases hk:k=f
  ·rw [if_pos hk,List.length_cons,List.length_cons];omega
  ·rw [if_neg hk,List.length_cons,List.length_cons];omega
theorem RelO.some_of {v:V} {o:Option Value} (r:RelO (some v) o):∃ u,o=some u∧RelV v u:=by
 cases o with
 | none=>exact (show False from r).elim
 | some u=>exact ⟨u,rfl,r⟩
theorem handed_of {v:V} {u:Value} (r:RelV v u):PySem.W.handedIn u=true:=by
 cases v with
 | non=>cases (show u=Value.none from r);rfl
 | bl b=>cases (show u=Value.bool b from r);rfl
 | int i=>obtain ⟨t,e⟩:=(show ∃ t,u=Value.int i t from r);cases e;rfl
 | str x=>obtain ⟨t,e⟩:=(show ∃ t,u=Value.str x t from r);cases e;rfl
 | byt b=>obtain ⟨t,e⟩:=(show ∃ t,u=Value.bytes b t from r);cases e;rfl
 | flt b=>obtain ⟨t,e⟩:=(show ∃ t,u=Value.float b t from r);cases e;rfl
 | ref a=>cases (show u=Value.ref a from r);rfl
 | ty n=>cases (show u=Value.type n from r);rfl
section
variable {P:Program} {w:World} {H H':Hp} {h h':Heap} {a C dx:Addr} {fs fs':List (Str × V)}
theorem ins_get (hok:HOk P w H h) (e:H a=some (.ins C dx fs)):∃ mA,ObjM h a dx C mA∧(∀ f,RelO (fs.lookup f) (mA f))∧PySem.Within mA (fs.map (·.1))∧fs.length≤1000∧H dx=some (.own a):=by
 obtain ⟨d,z,ne,ob,mA,n,r,q⟩:=(show ObjOk P w H h a (.ins C dx fs) from hok a _ e)
 exact ⟨mA,⟨ob,n,ne⟩,r,q,z,d⟩
end
structure Cls (K:PySem.W.Frag) (C:Addr):Prop where
 pg:PySem.W.plainGet K C Str.empty=true
 hd:PySem.W.hasDictIn K C=true
 po:PySem.W.plainOver K C=true
 sa:PySem.W.findIn K (.ref C) "__setattr__"=some (some (.builtin "object.__setattr__"))
theorem Cls.get {K:PySem.W.Frag} {C:Addr} (c:Cls K C) (f:Str):PySem.W.plainGet K C f=true:=c.pg
def NoAttr (K:PySem.W.Frag) (C:Addr) (f:Str):Prop:=PySem.W.findIn K (.ref C) f=some none
theorem NoAttr.taker {K:PySem.W.Frag} {C:Addr} {f:Str} (n:NoAttr K C f):PySem.W.takerIn K C f=some none:=by
 unfold PySem.W.takerIn
 rw [show PySem.W.findIn K (.ref C) f=some none from n]
 rfl
section
variable {X:Cx} {pins:List (Addr × Obj)} {σ:St} {H:Hp} {s:Shared} {a C dx:Addr} {fs:List (Str × V)} {f:Str} {v:V} {A:Around} {E:Value→Shared→Prop}
theorem getattr_ok {b:Bool} {Q:Value→Shared→Prop} (I:Inv X pins σ H s) (e:H a=some (.ins C dx fs)) (c:Cls X.K C) (n:NoAttr X.K C f) (l:fs.lookup f=some v)
  (h:∀ u s',Inv X pins σ H s'→RelV v u→Q u s'):wpAny (model X.prog X.w) A (getAttr (.ref a) f b) Q E s:=by
 obtain ⟨mA,O,r,_,_,_⟩:=ins_get I.hok e
 obtain ⟨u,hu,ru⟩:=RelO.some_of (v:=v) (o:=mA f) (by rw [← l];exact r f)
 exact get_map I.kIn O (c.get f) c.hd n hu (handed_of ru) (h u _ (I.tok _) ru)
theorem setattr_ok {y:V} {u:Value} {Q:Unit→Shared→Prop} (I:Inv X pins σ H s) (e:H a=some (.ins C dx fs)) (c:Cls X.K C) (n:NoAttr X.K C f) (hl:fs.length < 1000) (ry:RelV y u)
  (h:∀ s',Inv X pins σ (upd H a (.ins C dx (putF f y fs))) s'→Q () s'):wpAny (model X.prog X.w) A (setAttr (.ref a) f u) Q E s:=by
 obtain ⟨mA,O,r,wi,_,ho⟩:=ins_get I.hok e
 have hz:(fs.map (·.1)).length≤sizeLine:=by rw [List.length_map,sizeLine_eq];omega
 refine set_map I.kIn O c.sa c.po n.taker c.hd wi hz fun h' O' sb=>h _ ?_
 have hd:∃ o,h'.get? dx=some o:=let ⟨o,_,_,e',_⟩:=O'.ns;⟨o,e'⟩
 refine I.write (x:=a) (e:=dx) (by rw [e];exact True.intro) (.inr ho) (fun b q hb z=>(sb.2 b hb).trans z) hd ?_
 refine ⟨by rw [Jd O.ne];exact ho,?_,O.ne,O'.obj,_,O'.ns,fun g=>?_,fun g hg=>?_⟩
 ·have:=Js f y fs;omega
 ·show RelO ((putF f y fs).lookup g) (if g=f then some u else mA g)
  rw [J12]
  by_cases q:g=f
  ·rw [if_pos q,if_pos q];exact ry
  ·rw [if_neg q,if_neg q];exact r g
 ·by_cases q:g=f
  ·rw [q];exact (J2p f y fs).1
  ·refine (J2p f y fs).2 g (wi g fun z=>hg ?_)
   show (if g=f then some u else mA g)=none
   rw [if_neg q];exact z
theorem Inv.made (I:Inv X pins σ H s):Inv X pins σ (upd (upd H s.heap.objs.size (.own (s.heap.objs.size + 1))) (s.heap.objs.size + 1) (.ins C s.heap.objs.size []))
  { s with heap:=(s.heap.push PySem.W.emptyDict).push (PySem.W.instObj C s.heap.objs.size) }:=by
 have e1:(s.heap.push PySem.W.emptyDict).get? s.heap.objs.size=some PySem.W.emptyDict:=Heap.get?_push_size s.heap rfl
 have e2:((s.heap.push PySem.W.emptyDict).push (PySem.W.instObj C s.heap.objs.size)).get? (s.heap.objs.size + 1)=some (PySem.W.instObj C s.heap.objs.size):=by
  have:=Heap.get?_push_size (s.heap.push PySem.W.emptyDict) (o:=PySem.W.instObj C s.heap.objs.size) rfl
  rwa [Heap.size_push] at this
 have e3:(s.heap.push PySem.W.emptyDict).Ns s.heap.objs.size (fun _=>none):=⟨PySem.W.emptyDict,#[],_,e1,rfl,(fun e he=>absurd he (by simp)),fun _=>rfl⟩
 have I1:=I.laid (a:=s.heap.objs.size) (o:=.own (s.heap.objs.size + 1)) (h':=s.heap.push PySem.W.emptyDict) (t':=s.toks) (fun b u q=>Heap.get?_push_of_some _ q) (Nat.le_refl _) ⟨_,e1⟩
 refine I1.laid (a:=s.heap.objs.size + 1) (o:=.ins C s.heap.objs.size []) (t':=s.toks) (fun b u q=>Heap.get?_push_of_some _ q) (Nat.le_of_eq (Heap.size_push _ _)) ?_
 have ne:s.heap.objs.size≠s.heap.objs.size + 1:=Nat.ne_of_lt (Nat.lt_succ_self _)
 refine ⟨by rw [Jd ne,J2],Nat.zero_le _,ne,e2,fun _=>none,(Heap.Ns1.of_empty e3).at fun o q=>Heap.get?_push_of_some _ q,fun _=>True.intro,fun y hy=>absurd rfl hy⟩
theorem attr_of {prog:Program} {w:World} {env:Env} {e:Expr} {f:Str} {pos:Pos} {s:Shared} {Q:Value→Shared→Prop} (hb:attributeBase e f env (eval e env)=eval e env)
  (h:wpAny (model prog w) A (eval e env) (fun o s₁=>wpAny (model prog w) A (getAttr o f true) Q E s₁) E s):wpAny (model prog w) A (eval (.Attribute e f pos) env) Q E s :=
 Attribute_any_ h (by rw [arm_eval_Attribute,hb])
end
def tFld (K:PySem.W.Frag) (ta:TE) (f:Str):TE:=fun σ H Q=>ta σ H fun x H1=>∃ a C dx fs v,x=.ref a∧H1 a=some (.ins C dx fs)∧Cls K C∧NoAttr K C f∧fs.lookup f=some v∧Q v H1
def sFld (K:PySem.W.Frag) (ta tv:TE) (f:Str):TS:=fun D σ H=>tv σ H fun y H1=>ta σ H1 fun x H2=>∃ a C dx fs,x=.ref a∧H2 a=some (.ins C dx fs)∧Cls K C∧NoAttr K C f∧fs.length < 1000∧
 D.nx σ (upd H2 a (.ins C dx (putF f y fs)))
section
variable {X:Cx} {o e value:Expr} {f:Str} {pos pos' tpos:Pos} {ta tv:TE}
theorem pe_fld (he:PE X e ta) (hb:attributeBase e f X.env (eval e X.env)=eval e X.env):PE X (.Attribute e f pos) (tFld X.K ta f):=by
 intro pins s σ H Q I h
 refine attr_of hb (thn (he pins s σ H _ I h) fun u s1 ⟨x,H1,I1,rx,a,C,dx,fs,v,ex,ea,c,n,l,q⟩=>?_)
 subst ex
 obtain rfl:u=Value.ref a:=rx
 exact getattr_ok I1 ea c n l fun u' s2 I2 ru=>⟨v,H1,I2,ru,q⟩
theorem ps_fld (ha:PE X o ta) (hv:PE X value tv) (hs:swapsWith value (some (.Attribute o f pos')) pos.line X.env=pure false):PS X (.Assign [.Attribute o f pos'] value pos) (sFld X.K ta tv f):=by
 intro pins s σ H D I h
 refine plainObj_wpAny_Assign_Attribute (thn (hv pins s σ H _ I h) fun u s1 ⟨y,H1,I1,ry,q⟩=>thn (ha pins s1 σ H1 _ I1 q) fun ov s2 ⟨x,H2,I2,rx,a,C,dx,fs,ex,ea,c,n,l,q2⟩=>?_) hs
 subst ex
 obtain rfl:ov=Value.ref a:=rx
 exact setattr_ok I2 ea c n l ry fun s3 I3=>⟨σ,_,I3,q2⟩
end
section
variable {X:Cx} {pins:List (Addr × Obj)} {σ:St} {H:Hp} {s:Shared} {A:Around} {E:Value→Shared→Prop} {Q:Value→Shared→Prop} {c:Value} {b:Bool}
inductive TyOf (K:PySem.W.Frag) (H:Hp):V→Value→Prop where
 | non:TyOf K H .non (.type "NoneType")
 | bl (x:Bool):TyOf K H (.bl x) (.type "bool")
 | int (i:Int):TyOf K H (.int i) (.type "int")
 | str (x:Str):TyOf K H (.str x) (.type "str")
 | flt (x:UInt64):TyOf K H (.flt x) (.type "float")
 | lst {a:Addr} {xs:List V} (e:H a=some (.lst xs)):TyOf K H (.ref a) (.type "list")
 | frz {a:Addr} {o:Obj} {xs:List V} (e:H a=some (.frz o (.lst xs))):TyOf K H (.ref a) (.type "list")
 | tup {a:Addr} {xs:List V} (e:H a=some (.tup xs)):TyOf K H (.ref a) (.type "tuple")
 | dK {a:Addr} {kvs:List (Key × V)} (e:H a=some (.dK kvs)):TyOf K H (.ref a) (.type "dict")
 | dT {a:Addr} {kvs:List (List Key × V)} (e:H a=some (.dT kvs)):TyOf K H (.ref a) (.type "dict")
 | ins {a C dx:Addr} {fs:List (Str × V)} (e:H a=some (.ins C dx fs)) (cl:Cls K C) (ha:PySem.W.findIn K (.ref C) "__class__"=some (some (.builtin "object.__class__")))
   (hn:PySem.W.specialIn K (.builtin "object.__class__") "__get__"=some (some (.builtin "getset_descriptor.__get__"))) (htk:PySem.W.takesIn K (.builtin "object.__class__")=some true)
   (hm:PySem.W.mroIn K C (.type "object")=some true):TyOf K H (.ref a) (.ref C)
theorem isinst_ok {x:V} {u t:Value} (I:Inv X pins σ H s) (rx:RelV x u) (ty:TyOf X.K H x t) (e:PySem.W.kitOne X.K t c=some b) (h:∀ tk,Q (.bool b) { s with toks:=tk }) :
  wpAny (model X.prog X.w) A (call (.builtin "isinstance") [u,c]) Q E s:=by
 cases ty with
 | non=>cases (show u=Value.none from rx);exact PySem.W.kia_one PySem.W.kitx_none I.kIn True.intro e (fun z=>nomatch z) h
 | bl y=>cases (show u=Value.bool y from rx);exact PySem.W.kia_one PySem.W.kitx_bool I.kIn True.intro e (fun z=>nomatch z) h
 | int i=>obtain ⟨t,q⟩:=(show ∃ t,u=Value.int i t from rx);cases q;exact PySem.W.kia_one PySem.W.kitx_int I.kIn True.intro e (fun z=>nomatch z) h
 | str y=>obtain ⟨t,q⟩:=(show ∃ t,u=Value.str y t from rx);cases q;exact PySem.W.kia_one PySem.W.kitx_str I.kIn True.intro e (fun z=>nomatch z) h
 | flt y=>obtain ⟨t,q⟩:=(show ∃ t,u=Value.float y t from rx);cases q;exact PySem.W.kia_one PySem.W.kitx_float I.kIn True.intro e (fun z=>nomatch z) h
 | @lst a xs ea =>
  cases (show u=Value.ref a from rx)
  obtain ⟨_,_,n,_,h1⟩:=(show ObjOk X.prog X.w H s.heap a (.lst xs) from I.hok a _ ea)
  exact PySem.W.kia_one PySem.W.kitx_list I.kIn ⟨_,h1,rfl⟩ e (fun z=>nomatch z) h
 | @frz a ob xs ea =>
  cases (show u=Value.ref a from rx)
  obtain ⟨_,_,_,n,_,h1⟩:=(show ObjOk X.prog X.w H s.heap a (.frz ob (.lst xs)) from I.hok a _ ea)
  exact PySem.W.kia_one PySem.W.kitx_list I.kIn ⟨_,h1,rfl⟩ e (fun z=>nomatch z) h
 | @tup a xs ea =>
  cases (show u=Value.ref a from rx)
  obtain ⟨_,_,_,p⟩:=(show ObjOk X.prog X.w H s.heap a (.tup xs) from I.hok a _ ea)
  obtain ⟨o,h1,h2,_⟩:=p
  exact PySem.W.kia_one PySem.W.kitx_tuple I.kIn ⟨o,h1,h2.1⟩ e (fun z=>nomatch z) h
 | @dK a kvs ea =>
  cases (show u=Value.ref a from rx)
  obtain ⟨_,_,vs,_,p⟩:=(show ObjOk X.prog X.w H s.heap a (.dK kvs) from I.hok a _ ea)
  obtain ⟨o,es,ep,h1,h2,_⟩:=p
  exact PySem.W.kia_one PySem.W.kitx_dict I.kIn ⟨o,h1,h2.1⟩ e (fun z=>nomatch z) h
 | @dT a kvs ea =>
  cases (show u=Value.ref a from rx)
  obtain ⟨_,_,xs,_,o,es,ep,h1,h2,_⟩:=(show ObjOk X.prog X.w H s.heap a (.dT kvs) from I.hok a _ ea)
  exact PySem.W.kia_one PySem.W.kitx_dict I.kIn ⟨o,h1,h2.1⟩ e (fun z=>nomatch z) h
 | @ins a C dx fs ea cl ha hn htk hm =>
  cases (show u=Value.ref a from rx)
  obtain ⟨mA,O,_⟩:=ins_get I.hok ea
  obtain ⟨od,J,_⟩:=O.look
  exact PySem.W.kia_one (PySem.W.kitx_own (cl.get _) cl.hd ha hn htk hm) I.kIn J e (fun z=>nomatch z) h
end
end L2
namespace L2
open PySem PySem.Spec PyProof.Rows
structure Room (k:Nat) (A:Around):Prop where
 hd:A.handled=none
 dp:A.depth + 3 * k + 5 < recursionLimit
 un:A.units + 16 * k + 200 < cLine
theorem Room.mono {j k:Nat} {A:Around} (r:Room k A) (h:j≤k):Room j A:=⟨r.hd,by have:=r.dp;omega,by have:=r.un;omega⟩
theorem Room.deeper {k:Nat} {A:Around} (r:Room (k + 1) A) (env:Env):Room k (A.deeper env) :=
 ⟨r.hd,by have:=r.dp;show A.depth + 1 + 3 * k + 5 < _;omega,by have:=r.un;show A.units + 3 + 16 * k + 200 < _;omega⟩
theorem make_depth {A:Around} {C:Addr} {us:List Value} {kw:List (Str × Value)}:(A.under (.builtin "type.__call__" ⟨.ref C :: us,kw⟩)).depth=A.depth + 1:=by
 first | rfl | simp [Around.under,Code.weight,Code.isCreation,Code.isGuard,Code.isCaller,Code.frames,Code.isFrame,guardIds]
theorem make_units {A:Around} {C:Addr} {us:List Value} {kw:List (Str × Value)}:(A.under (.builtin "type.__call__" ⟨.ref C :: us,kw⟩)).units=A.units + 1:=by
 first | rfl | simp [Around.under,Code.cUnits,Code.frames,Code.isFrame]
theorem Room.make {k:Nat} {A:Around} (r:Room (k + 1) A) (C:Addr) (us:List Value) (kw:List (Str × Value)):Room k (A.under (.builtin "type.__call__" ⟨.ref C :: us,kw⟩)) :=
 ⟨r.hd,by have:=r.dp;rw [make_depth];omega,by have:=r.un;rw [make_units];omega⟩
theorem Room.depth {k:Nat} {A:Around} (r:Room k A):A.depth < recursionLimit:=by have:=r.dp;omega
theorem Room.units {k:Nat} {A:Around} (r:Room k A):A.units + 64 < cLine:=by have:=r.un;omega
theorem Room.units0 {k:Nat} {A:Around} (r:Room k A):A.units < cLine:=by have:=r.un;omega
def tNil:TA:=fun _ H Q=>Q [] H
def tCons (ta:TE) (tr:TA):TA:=fun σ H Q=>ta σ H fun x H1=>tr σ H1 fun xs H2=>Q (x :: xs) H2
section
variable {X:Cx} {e:Expr} {es:List Expr} {te:TE} {t:TA} {pos:Pos}
theorem J3:PA X [] tNil:=fun _ _ _ _ H Q I h=>Calls.spliced_nil ⟨[],H,I,.nil,h⟩
theorem J0 (ha:PE X e te) (hr:PA X es t) (hs:starEach (e :: es) X.env=(false,eval e X.env) :: starEach es X.env:=by rfl):PA X (e :: es) (tCons te t):=by
 intro pos pins s σ H Q I h
 rw [hs]
 show wpAny _ _ (spliced ((false,eval e X.env) :: backTo pos (starEach es X.env))) _ _ s
 refine Calls.spliced_cons (thn (ha pins s σ H _ I h) fun u s1 ⟨x,H1,I1,r1,q1⟩=>?_)
 exact thn (hr pos pins s1 σ H1 _ I1 q1) fun us s2 ⟨xs,H2,I2,r2,q2⟩=>⟨x :: xs,H2,I2,.cons r1 r2,q2⟩
def tTup (t:TA):TE:=fun σ H Q=>t σ H fun xs H1=>xs.length≤sizeLine∧∀ p,H1 p=none→Q (.ref p) (upd H1 p (.tup xs))
def tLst (t:TA):TE:=fun σ H Q=>t σ H fun xs H1=>xs.length≤sizeLine∧∀ p,H1 p=none→Q (.ref p) (upd H1 p (.lst xs))
theorem pe_tup {x1} (h:PA X es t):PE X (.Tuple es x1 pos) (tTup t):=by
 intro pins s σ H Q I hq
 refine wpAny_Tuple_spliced (thn (h pos pins s σ H _ I hq) fun us s1 ⟨xs,H1,I1,r,z,q⟩=>⟨by rw [← r.length];exact z,?_⟩)
 have hf:H1 s1.heap.objs.size=none:=I1.hok.fresh (Nat.le_refl _)
 refine ⟨.ref s1.heap.objs.size,upd H1 s1.heap.objs.size (.tup xs),I1.laid (t':=s1.toks) (fun b u e=>Heap.get?_push_of_some _ e) (Nat.le_refl _) ?_,rfl,q _ hf⟩
 exact ⟨z,us,r,⟨_,Heap.get?_push_size _ rfl,⟨rfl,rfl⟩,_,rfl⟩⟩
theorem J1j (h:PA X es t):PE X (.List es pos) (tLst t):=by
 intro pins s σ H Q I hq
 refine wpAny_List_spliced (thn (h pos pins s σ H _ I hq) fun us s1 ⟨xs,H1,I1,r,z,q⟩=>⟨by rw [← r.length];exact z,?_⟩)
 have hf:H1 s1.heap.objs.size=none:=I1.hok.fresh (Nat.le_refl _)
 refine ⟨.ref s1.heap.objs.size,upd H1 s1.heap.objs.size (.lst xs),I1.laid (t':=s1.toks) (fun b u e=>Heap.get?_push_of_some _ e) (Nat.le_refl _) ?_,rfl,q _ hf⟩
 exact ⟨z,us,0,r,Heap.get?_push_size _ rfl⟩
end
abbrev Sp:=List V→Hp→VK→XK→Prop
abbrev CXT:=List Env→Hp→Shared→XK→Value→Shared→Prop
structure Env0 (P:Program) (w:World) (K:PySem.W.Frag) (mg:Str→Option Value) (base:Heap) (A:Around) (outer:List Env) (s:Shared) (H:Hp):Prop where
 frames:A.frames=some outer
 mod:Mod K mg base
 bs:∀ b o,base.get? b=some o→s.heap.get? b=some o∧H b=none
 bsz:base.objs.size≤s.heap.objs.size
 funs:s.heap.FunFrames base outer
 frf:∀ b∈frs outer,H b=none
 hok:HOk P w H s.heap
 bare:AllBare s.gens
def CE (outer:List Env) (P:Program) (w:World) (H:Hp) (s:Shared) (Q:VK) (u:Value) (s':Shared):Prop :=
 ∃ v H',s'.os=s.os∧AllBare s'.gens∧Un (frs outer) [] H H' s.heap s'.heap∧HOk P w H' s'.heap∧RelV v u∧Q v H'
def CR (CX:CXT) (outer:List Env) (P:Program) (w:World) (H:Hp) (s:Shared) (Q:VK) (E:XK) (r:Result) (s':Shared):Prop :=
 match r with
 | .ok (.ret u)=>CE outer P w H s Q u s'
 | .ok _=>False
 | .error e=>CX outer H s E e s'
structure FnOk (P:Program) (w:World) (K:PySem.W.Frag) (mg:Str→Option Value) (base:Heap) (CX:CXT) (k:Nat) (f:Addr) (fd:FuncData) (ps:List Str) (sp:Sp):Prop where
 len:∀ vs H Q E,sp vs H Q E→vs.length=ps.length
 run:∀ (A:Around) (outer:List Env) (s:Shared) (H:Hp) (args:Args) (us:List Value) (vs:List V) (Q:VK) (E:XK),Room k A→Env0 P w K mg base A outer s H→BindsTo s fd args (ps.zip us)→Vals vs us→sp vs H Q E→
  codeAny (model P w) A (.call (.ref f) args) (CR CX outer P w H s Q E) s
theorem FnOk.mono {P:Program} {w:World} {K:PySem.W.Frag} {mg:Str→Option Value} {base:Heap} {CX:CXT} {j k:Nat} {f:Addr} {fd:FuncData} {ps:List Str} {sp:Sp} (F:FnOk P w K mg base CX j f fd ps sp) (h:j≤k) :
  FnOk P w K mg base CX k f fd ps sp:=⟨F.len,fun A outer s H args us vs Q E hr=>F.run A outer s H args us vs Q E (hr.mono h)⟩
theorem Env0.make {P:Program} {w:World} {K:PySem.W.Frag} {mg:Str→Option Value} {base:Heap} {A:Around} {outer:List Env} {s:Shared} {H:Hp} (e:Env0 P w K mg base A outer s H) (C:Addr) (us:List Value) (kw:List (Str × Value)) :
  Env0 P w K mg base (A.under (.builtin "type.__call__" ⟨.ref C :: us,kw⟩)) outer s H:=⟨by first | exact e.frames | (simpa [Around.under,Code.envs,Code.isFrame,pushEnvs] using e.frames),e.mod,e.bs,e.bsz,e.funs,e.frf,e.hok,e.bare⟩
section
variable {X:Cx} {pins:List (Addr × Obj)} {σ:St} {H:Hp} {s s':Shared}
theorem Inv.env0 (I:Inv X pins σ H s):Env0 X.prog X.w X.K X.mg X.base X.A X.stack s H :=
 ⟨I.ok.frames,I.ok.mod,I.bs,Nat.le_trans I.ok.bsz I.sz,I.stack,I.stkFree,I.hok,I.bare⟩
theorem Inv.after {Q:VK} {u:Value} (I:Inv X pins σ H s) (h:CE X.stack X.prog X.w H s Q u s'):EP X pins σ Q u s':=by
 obtain ⟨v,H',os,bare,un,hok,r,q⟩:=h
 obtain ⟨hh,g,d,t,os'⟩:=s'
 obtain rfl:os'=s.os:=os
 exact ⟨v,H',I.call (h':=hh) (g':=g) (d':=d) (t':=t) (ch:=[]) un hok bare (fun b z=>absurd z (by simp)),r,q⟩
end
def tCall (sp:Sp) (dvs:List V) (E:XK) (t:TA):TE:=fun σ H Q=>t σ H fun vs H1=>sp (vs ++ dvs) H1 Q E
def tMake (C:Addr) (sp:Sp) (dvs:List V) (E:XK) (t:TA):TE:=fun σ H Q=>t σ H fun vs H1=>∀ x dx,H1 x=none→H1 dx=none→dx≠x→
 sp (.ref x :: (vs ++ dvs)) (upd (upd H1 dx (.own x)) x (.ins C dx [])) (fun v H2=>v=.non∧Q (.ref x) H2) E
def Binds (K:PySem.W.Frag) (fd:FuncData) (ps:List Str) (ds:List Value):Prop :=
 ∀ (s:Shared) (us:List Value),K.In s.heap→(us ++ ds).length=ps.length→BindsTo s fd ⟨us,[]⟩ (ps.zip (us ++ ds))
theorem Binds.all {K:PySem.W.Frag} {fd:FuncData} {ps:List Str} (h:∀ us:List Value,us.length=ps.length→bindArgs fd ⟨us,[]⟩=pure (ps.zip us)):Binds K fd ps []:=fun s us _ hl=>by
 rw [List.append_nil] at hl ⊢
 exact .of_eq (h us hl)
def Passes (CX:CXT) (X:Cx) (E:XK):Prop:=∀ (pins:List (Addr × Obj)) (σ:St) (H:Hp) (s:Shared) (e:Value) (s':Shared),Inv X pins σ H s→CX X.stack H s E e s'→X.xe e s'
section
variable {X:Cx} {CX:CXT} {k:Nat} {f C:Addr} {fd:FuncData} {ps:List Str} {sp:Sp} {dvs:List V} {ds:List Value} {E:XK} {x m:Str} {p pos apos:Pos} {e o:Expr} {es:List Expr} {ta:TE} {t:TA}
theorem run_fn {pins:List (Addr × Obj)} {σ:St} {H:Hp} {s:Shared} {Q:VK} {us:List Value} {vs:List V} (F:FnOk X.prog X.w X.K X.mg X.base CX k f fd ps sp) (hr:Room k X.A) (hb:Binds X.K fd ps ds) (hd:Vals dvs ds) (hx:Passes CX X E)
  (I:Inv X pins σ H s) (r:Vals vs us) (h:sp (vs ++ dvs) H Q E):wpAny (model X.prog X.w) X.A (call (.ref f) us) (EP X pins σ Q) X.xe s:=by
 have r2:Vals (vs ++ dvs) (us ++ ds):=r.append hd
 have hl:(us ++ ds).length=ps.length:=by rw [← r2.length];exact F.len _ _ _ _ h
 refine wpAny_call (codeAny_mono (F.run X.A X.stack s H ⟨us,[]⟩ (us ++ ds) (vs ++ dvs) Q E hr I.env0 (hb s us I.kIn hl) r2 h) fun r s' hq=>?_)
 cases r with
 | error e=>exact hx pins σ H s e s' I hq
 | ok fl =>
  cases fl with
  | ret u=>exact I.after hq
  | next=>exact False.elim hq
  | brk=>exact False.elim hq
  | cont=>exact False.elim hq
theorem Jm (F:FnOk X.prog X.w X.K X.mg X.base CX k f fd ps sp) (hr:Room k X.A) (hg:Gl X x) (hm:X.mg x=some (.ref f)) (hk:PySem.W.keepIn X.K (.ref f)=true) (hb:Binds X.K fd ps ds) (hd:Vals dvs ds) (hx:Passes CX X E)
  (ha:PA X (e :: es) t) (hdb:(x == ("__debug__":Str))=false:=by decide) (he:starEach (e :: es) X.env=(false,eval e X.env) :: starEach es X.env:=by rfl) (hpl:(backTo pos (starEach es X.env)).any (·.1)=false:=by rfl) :
  PE X (.Call (.Name x p) (e :: es) [] pos) (tCall sp dvs E t):=by
 intro pins s σ H Q I h
 refine wpAny_Call_Name_kw (J2f I hg hm ?_ hdb)
 refine PySem.W.callWith_K (h₀:=X.base) I.ok.mod.kin hk (thn (ha pos pins s σ H _ I h) fun us s1 ⟨vs,H1,I1,r,q⟩=>⟨I1.kIn,?_⟩) he hpl
 exact run_fn F hr hb hd hx I1 r q
structure Mk (K:PySem.W.Frag) (C f:Addr):Prop where
 makes:PySem.W.makesIn K C=true
 init:PySem.W.findIn K (.ref C) "__init__"=some (some (.ref f))
 fn:PySem.W.isFn K (.ref f)=true
 kp:PySem.W.keepIn K (.ref C)=true
theorem run_make {pins:List (Addr × Obj)} {σ:St} {H:Hp} {s:Shared} {Q:VK} {us:List Value} {vs:List V} (M:Mk X.K C f) (F:FnOk X.prog X.w X.K X.mg X.base CX k f fd ps sp) (hr:Room (k + 1) X.A) (hb:Binds X.K fd ps ds) (hd:Vals dvs ds)
  (hx:Passes CX X E) (I:Inv X pins σ H s) (r:Vals vs us)
  (h:∀ x dx,H x=none→H dx=none→dx≠x→sp (.ref x :: (vs ++ dvs)) (upd (upd H dx (.own x)) x (.ins C dx [])) (fun v H2=>v=.non∧Q (.ref x) H2) E) :
  wpAny (model X.prog X.w) X.A (call (.ref C) us) (EP X pins σ Q) X.xe s:=by
 have hq:=h (s.heap.objs.size + 1) s.heap.objs.size (I.hok.fresh (Nat.le_succ _)) (I.hok.fresh (Nat.le_refl _)) (Nat.ne_of_lt (Nat.lt_succ_self _))
 have I2:=Inv.made (C:=C) I
 have r2:Vals (V.ref (s.heap.objs.size + 1) :: (vs ++ dvs)) (Value.ref (s.heap.objs.size + 1) :: (us ++ ds)):=.cons rfl (r.append hd)
 have hl:(Value.ref (s.heap.objs.size + 1) :: us ++ ds).length=ps.length:=by
  have e:=r2.length
  rw [F.len _ _ _ _ hq] at e
  exact e.symm
 refine wpAny_call (make_map (f:=f) I.kIn M.makes M.init (beq_iff_eq.mp M.fn) (codeAny_mono (F.run _ X.stack _ _ ⟨Value.ref (s.heap.objs.size + 1) :: us,[]⟩ (Value.ref (s.heap.objs.size + 1) :: (us ++ ds)) _ _ E (hr.make C us [])
  (I2.env0.make C us []) (hb _ (Value.ref (s.heap.objs.size + 1) :: us) I2.kIn hl) r2 hq) fun r s' hq'=>?_))
 cases r with
 | error e=>exact hx pins σ _ _ e s' I2 hq'
 | ok fl =>
  cases fl with
  | ret u =>
   obtain ⟨v,H',I3,rv,ev,q3⟩:=I2.after hq'
   subst ev
   exact ⟨rv,⟨V.ref (s.heap.objs.size + 1),H',I3,rfl,q3⟩⟩
  | next=>exact False.elim hq'
  | brk=>exact False.elim hq'
  | cont=>exact False.elim hq'
theorem pe_make (M:Mk X.K C f) (F:FnOk X.prog X.w X.K X.mg X.base CX k f fd ps sp) (hr:Room (k + 1) X.A) (hg:Gl X x) (hm:X.mg x=some (.ref C)) (hb:Binds X.K fd ps ds) (hd:Vals dvs ds) (hx:Passes CX X E)
  (ha:PA X (e :: es) t) (hdb:(x == ("__debug__":Str))=false:=by decide) (he:starEach (e :: es) X.env=(false,eval e X.env) :: starEach es X.env:=by rfl) (hpl:(backTo pos (starEach es X.env)).any (·.1)=false:=by rfl) :
  PE X (.Call (.Name x p) (e :: es) [] pos) (tMake C sp dvs E t):=by
 intro pins s σ H Q I h
 refine wpAny_Call_Name_kw (J2f I hg hm ?_ hdb)
 refine PySem.W.callWith_K (h₀:=X.base) I.ok.mod.kin M.kp (thn (ha pos pins s σ H _ I h) fun us s1 ⟨vs,H1,I1,r,q⟩=>⟨I1.kIn,?_⟩) he hpl
 exact run_make M F hr hb hd hx I1 r q
end
structure FnScope (N P:List Str) (sc:Scope):Prop where
 kind:sc.kind=.function
 co:sc.isCoroutine=false
 gen:sc.isGenerator=false
 nd:N.Nodup
 pre:N.take P.length=P
 par:∀ x∈P,sc.names.lookup x=some .local∨sc.names.lookup x=some .cell
 nofree:∀ y∈sc.names,y.2≠.free
theorem bindL_out {kindOf:Str→Option NameKind} {x:Str}:∀ {binds:List (Str × Value)} {m:Str→Option Value},(∀ v,(x,v) ∉ binds)→bindL kindOf binds m x=m x
 | [],_,_=>rfl
 | (n,v) :: r,m,h=>by
  unfold bindL
  rw [bindL_out fun w hw=>h w (List.mem_cons_of_mem _ hw)]
  split
  ·have:x≠n:=by rintro rfl;exact h v List.mem_cons_self
   simp [this]
  ·rfl
theorem bindC_out {kindOf:Str→Option NameKind} {x:Str}:∀ {binds:List (Str × Value)} {m:Str→Option Value},(∀ v,(x,v) ∉ binds)→bindC kindOf binds m x=m x
 | [],_,_=>rfl
 | (n,v) :: r,m,h=>by
  unfold bindC
  rw [bindC_out fun w hw=>h w (List.mem_cons_of_mem _ hw)]
  split
  ·rfl
  ·have:x≠n:=by rintro rfl;exact h v List.mem_cons_self
   simp [this]
theorem bindL_get {kindOf:Str→Option NameKind} {x:Str} {v:Value}:∀ {P:List Str} {vs:List Value} {i:Nat} {m:Str→Option Value},P.Nodup→P[i]?=some x→vs[i]?=some v→kindOf x=some .local→
  bindL kindOf (P.zip vs) m x=some v
 | [],_,_,_,_,h,_,_=>by simp at h
 | _ :: _,[],_,_,_,_,h,_=>by simp at h
 | p :: P,w :: vs,0,m,nd,h1,h2,hk=>by
  simp at h1 h2;subst h1;subst h2
  show bindL kindOf ((p,w) :: P.zip vs) m p=_
  unfold bindL
  rw [bindL_out fun v hv=>(List.nodup_cons.mp nd).1 (List.of_mem_zip hv).1,if_pos hk]
  simp
 | p :: P,w :: vs,i + 1,m,nd,h1,h2,hk=>by
  show bindL kindOf ((p,w) :: P.zip vs) m x=_
  unfold bindL
  exact bindL_get (i:=i) (List.nodup_cons.mp nd).2 (by simpa using h1) (by simpa using h2) hk
theorem bindC_get {kindOf:Str→Option NameKind} {x:Str} {v:Value}:∀ {P:List Str} {vs:List Value} {i:Nat} {m:Str→Option Value},P.Nodup→P[i]?=some x→vs[i]?=some v→kindOf x≠some .local→
  bindC kindOf (P.zip vs) m x=some v
 | [],_,_,_,_,h,_,_=>by simp at h
 | _ :: _,[],_,_,_,_,h,_=>by simp at h
 | p :: P,w :: vs,0,m,nd,h1,h2,hk=>by
  simp at h1 h2;subst h1;subst h2
  show bindC kindOf ((p,w) :: P.zip vs) m p=_
  unfold bindC
  rw [bindC_out fun v hv=>(List.nodup_cons.mp nd).1 (List.of_mem_zip hv).1,if_neg hk]
  simp
 | p :: P,w :: vs,i + 1,m,nd,h1,h2,hk=>by
  show bindC kindOf ((p,w) :: P.zip vs) m x=_
  unfold bindC
  exact bindC_get (i:=i) (List.nodup_cons.mp nd).2 (by simpa using h1) (by simpa using h2) hk
def start (N:List Str) (vs:List V):St:=vs.map some ++ List.replicate (N.length - vs.length) none
def cxOf (CX:CXT) (P:Program) (w:World) (K:PySem.W.Frag) (mg:Str→Option Value) (base:Heap) (N:List Str) (qual:Str) (scope:Scope) (f:Addr) (cd:Value) (A:Around) (outer:List Env) (s:Shared) (H:Hp) (E:XK):Cx where
 prog:=P
 w:=w
 K:=K
 mg:=mg
 base:=base
 A:=A.deeper (envOfC qual scope s.heap.objs.size f cd)
 N:=N
 s₀:=s
 H₀:=H
 env:=envOfC qual scope s.heap.objs.size f cd
 outer:=outer
 stack:=envOfC qual scope s.heap.objs.size f cd :: outer
 ex:=[]
 calm:=true
 fn:=fun _=>true
 pn:=[]
 xe:=fun e s'=>wpAny (model P w) (A.deeper (envOfC qual scope s.heap.objs.size f cd)) (leaving (envOfC qual scope s.heap.objs.size f cd) e) (fun _ s''=>CX outer H s E e s'') (fun e' s''=>CX outer H s E e' s'') s'
theorem cell_has {sc:Scope} {n:Nat} {x:Str} (h:sc.names.lookup x=some .cell):∃ c,(cellsFrom n sc.names []).lookup x=some c:=by
 have q:=PySem.W.cellsFrom_some sc.names n [] (.inl h)
 exact Option.isSome_iff_exists.mp q
theorem inv_start {CX:CXT} {P:Program} {w:World} {K:PySem.W.Frag} {mg:Str→Option Value} {base:Heap} {N ps:List Str} {qual:Str} {scope:Scope} {f:Addr} {cd:Value} {A:Around} {outer:List Env} {s s1:Shared} {H:Hp} {E:XK} {us:List Value} {vs:List V}
  (S:FnScope N ps scope) (hd:A.handled=none) (e0:Env0 P w K mg base A outer s H) (hl:vs.length=ps.length) (r:Vals vs us)
  (x:InCallC s s.heap.objs.size (bindL (envOfC qual scope s.heap.objs.size f cd).kindOf (ps.zip us) fun _=>none) (cellsFrom (s.heap.objs.size + 1) scope.names []) (bindC (envOfC qual scope s.heap.objs.size f cd).kindOf (ps.zip us) fun _=>none) s1) :
  Inv (cxOf CX P w K mg base N qual scope f cd A outer s H E) [] (start N vs) H s1:=by
 have hpl:ps.length≤N.length:=by have:=congrArg List.length S.pre;rw [List.length_take] at this;omega
 obtain ⟨h1,tk,rfl,hk⟩:=x.done
 have noA:∀ b:Addr,b ∉ (cxOf CX P w K mg base N qual scope f cd A outer s H E).ex:=fun b z=>absurd (show b∈([]:List Addr) from z) (by simp)
 refine ⟨⟨e0.mod,S.kind,rfl,rfl,Nat.le_refl _,fun y z c h1 h2=>?_,fun y hy=>?_,fun y c _ h=>?_,fun _=>hd,Around.frames_deeper e0.frames,.inr ⟨rfl,rfl⟩,fun b z=>absurd z (noA b),e0.bs,e0.bsz,fun b _ _=>noA b,fun b z=>absurd z (noA b),e0.funs,e0.frf⟩,
  rfl,e0.bare,Un.kept hk,⟨_,x.toInCall.ns,fun i y v h1 h2 h3=>?_⟩,fun y c h=>⟨_,x.cell y c h⟩,e0.hok.fresh (Nat.le_refl _),fun y c h=>?_,fun p hp=>absurd (show p∈([]:List (Addr × Obj)) from hp) (by simp),e0.hok.kept hk,?_⟩
 ·exact name_of_addr x.apart (PySem.mem_of_lookup h1) (PySem.mem_of_lookup h2)
 ·have hy:scope.names.lookup y=some .cell∨scope.names.lookup y=some .free:=hy
  rcases hy with hy | hy
  ·exact cell_has hy
  ·exact absurd rfl (S.nofree _ (PySem.mem_of_lookup hy))
 ·exact Nat.le_of_lt (x.above y c (PySem.mem_of_lookup h))
 ·have hi:i < vs.length:=by
   unfold start at h2
   by_cases hi:i < vs.length
   ·exact hi
   ·rw [List.getElem?_append_right (by simpa using hi)] at h2
    rw [List.getElem?_replicate] at h2
    split at h2 <;> cases h2
  have ha:vs[i]?=some v:=by
   unfold start at h2
   rw [List.getElem?_append_left (by simpa using hi),List.getElem?_map] at h2
   cases e:vs[i]? with
   | none=>rw [e] at h2;cases h2
   | some a=>rw [e] at h2;cases h2;rfl
  obtain ⟨u,hu,rv⟩:=r.get ha
  have hp:ps[i]?=some y:=by
   rw [← S.pre,List.getElem?_take_of_lt (by omega)];exact h1
  have ndP:ps.Nodup:=by rw [← S.pre];exact S.nd.sublist (List.take_sublist _ _)
  refine ⟨u,rv,?_⟩
  rcases S.par y (List.mem_of_getElem? hp) with k | k
  ·exact .inl ⟨k,bindL_get ndP hp hu k⟩
  ·obtain ⟨c,e⟩:=cell_has (n:=s.heap.objs.size + 1) k
   refine .inr ⟨.inl k,c,e,?_⟩
   have q:=x.cell y c e
   rw [bindC_get ndP hp hu (by show scope.names.lookup y≠_;rw [k];decide)] at q
   exact q
 ·exact e0.hok.fresh (Nat.le_of_lt (x.above y c (PySem.mem_of_lookup h)))
 ·unfold start
  show _=N.length
  rw [List.length_append,List.length_map,List.length_replicate]
  omega
theorem fn_of {CX:CXT} {P:Program} {w:World} {K:PySem.W.Frag} {mg:Str→Option Value} {base:Heap} {k:Nat} {f:Addr} {name qual:Str} {params:Arguments} {body:List Stmt} {scope:Scope} {dV kV doc pm cdv ct oc:Value} {an od:Option Addr}
  {osl:Array (Option Value)} {N ps:List Str} {sp:Sp} (lk:K.lookup f=some ⟨oc,od,.func (PySem.W.fnOf name qual params body scope dV kV doc pm an cdv ct),osl⟩) (hcd:PySem.W.codeIn K cdv qual=true) (S:FnScope N ps scope)
  (len:∀ vs H Q E,sp vs H Q E→vs.length=ps.length)
  (hbody:∀ (A:Around) (outer:List Env) (s:Shared) (H:Hp) (vs:List V) (Q:VK) (E:XK),Room k (A.deeper (envOfC qual scope s.heap.objs.size f cdv))→sp vs H Q E→
   ∃ t,PSs (cxOf CX P w K mg base N qual scope f cdv A outer s H E) body t∧t { nx:=fun _ H'=>Q .non H',rt:=Q } (start N vs) H) :
  FnOk P w K mg base CX (k + 1) f (PySem.W.fnOf name qual params body scope dV kV doc pm an cdv ct) ps sp:=by
 refine ⟨len,fun A outer s H args us vs Q E hr e0 hb r hsp=>?_⟩
 have hl:=len _ _ _ _ hsp
 have KX:K.In s.heap:=e0.mod.kin.keeps fun b o e=>(e0.bs b o e).1
 have lim:s.heap.NoLimit:=e0.mod.nolimit.keeps fun b o e=>(e0.bs b o e).1
 have hkind:∀ y∈ps.zip us,scope.names.lookup y.1=some .local∨(scope.names.lookup y.1=some .cell∧((cellsFrom (s.heap.objs.size + 1) scope.names []).lookup y.1).isSome=true):=fun ⟨n,v⟩ hy=>by
  rcases S.par n (List.of_mem_zip hy).1 with q | q
  ·exact .inl q
  ·exact .inr ⟨q,PySem.W.cellsFrom_some _ _ _ (.inl q)⟩
 refine codeAny_call_function hr.depth (KX _ _ lk) rfl S.co S.gen rfl (PySem.W.codeRec_of KX hcd) (hb _ _ _ _ ?_)
 refine wpAny_newFunctionEnv_cells S.kind hkind fun env he s1 x=>?_
 subst he
 refine ⟨lim.keeps x.toInCall.keep,codeAny_func ?_⟩
 obtain ⟨t,ht,hq⟩:=hbody A outer s H vs Q E (hr.deeper _) hsp
 have I:Inv (cxOf CX P w K mg base N qual scope f cdv A outer s H E) [] (start N vs) H s1:=inv_start S hr.hd e0 hl r x
 refine wpAny_mono (ht [] s1 (start N vs) H _ I hq) (fun fl s' hs=>?_) fun e s' hs=>hs
 have fin:∀ {σ':St} {H':Hp} {v:V} {u:Value},Inv (cxOf CX P w K mg base N qual scope f cdv A outer s H E) [] σ' H' s'→RelV v u→Q v H'→CE outer P w H s Q u s' :=
  fun {σ' H' v u} J rv q=>⟨v,H',J.os,J.bare,J.base,J.hok,rv,q⟩
 cases fl with
 | ret u =>
  obtain ⟨v,σ',H',J,rv,q⟩:=hs
  exact fin J rv q
 | next =>
  obtain ⟨σ',H',J,q⟩:=hs
  exact fin (v:=V.non) (u:=Value.none) J rfl q
 | brk =>
  obtain ⟨_,_,_,q⟩:=hs
  exact False.elim q
 | cont =>
  obtain ⟨_,_,_,q⟩:=hs
  exact False.elim q
end L2
namespace L2
open PySem PySem.Spec PyProof.Rows
section
variable {X:Cx} {x:Str} {p pos:Pos} {e:Expr} {es:List Expr} {t:TA} {id T:String} {r:List V→Hp→VK→Prop}
def tCB (r:List V→Hp→VK→Prop) (t:TA):TE:=fun σ H Q=>t σ H fun vs H1=>r vs H1 Q
theorem Ja (hc:CallR X (.builtin id) r) (hg:Gl X x) (hm:X.mg x=none) (hv:bootBuiltins x=some (.builtin id)) (ha:PA X (e :: es) t) (hn:x≠"__name__":=by decide) (hdb:(x == ("__debug__":Str))=false:=by decide)
  (he:starEach (e :: es) X.env=(false,eval e X.env) :: starEach es X.env:=by rfl) (hpl:(backTo pos (starEach es X.env)).any (·.1)=false:=by rfl):PE X (.Call (.Name x p) (e :: es) [] pos) (tCB r t):=by
 intro pins s σ H Q I h
 refine wpAny_Call_Name_kw (ld_blt I hg hm hv ?_ hn hdb)
 exact PyProof.Rows.callWith_builtin1 (thn (ha pos pins s σ H _ I h) fun us s1 ⟨vs,H1,I1,r1,q1⟩=>hc pins s1 σ H1 vs us Q I1 r1 q1) he hpl
theorem Je (hc:CallR X (.type T) r) (hg:Gl X x) (hm:X.mg x=none) (hv:bootBuiltins x=some (.type T)) (ha:PA X (e :: es) t) (hn:x≠"__name__":=by decide) (hdb:(x == ("__debug__":Str))=false:=by decide)
  (he:starEach (e :: es) X.env=(false,eval e X.env) :: starEach es X.env:=by rfl) (hpl:(backTo pos (starEach es X.env)).any (·.1)=false:=by rfl):PE X (.Call (.Name x p) (e :: es) [] pos) (tCB r t):=by
 intro pins s σ H Q I h
 refine wpAny_Call_Name_kw (ld_blt I hg hm hv ?_ hn hdb)
 exact PyProof.Rows.callWith_type1 (thn (ha pos pins s σ H _ I h) fun us s1 ⟨vs,H1,I1,r1,q1⟩=>hc pins s1 σ H1 vs us Q I1 r1 q1) he hpl
end
end L2
namespace HT
open PySem PyProof.Rows
section
variable {prog:Program} {w:World} {A:Around} {E:Value→Shared→Prop} {s:Shared}
def sIx (n d:Nat):Option Int→Nat
 | none=>d
 | some v=>if v < 0 then (v + (n:Int)).toNat else min v.toNat n
theorem sIx_none (n d:Nat):sIx n d none=d:=rfl
end
end HT
namespace L2
open PySem PySem.Spec PyProof.Rows
abbrev TO:=St→Hp→(Option Int→Hp→Prop)→Prop
def PO (X:Cx) (e:Option Expr) (t:TO):Prop :=
 ∀ (pins:List (Addr × Obj)) (s:Shared) (σ:St) (H:Hp) (Q:Option Int→Hp→Prop),Inv X pins σ H s→t σ H Q→
  wpAny (model X.prog X.w) X.A (evalPart e X.env) (fun u s'=>∃ o H',Inv X pins σ H' s'∧IsPart u o∧Q o H') X.xe s
def tNoPart:TO:=fun _ H Q=>Q none H
def tPart (t:TE):TO:=fun σ H Q=>t σ H fun x H1=>∃ i,x=.int i∧Q (some i) H1
theorem Jw {ns:List Int}:∀ {us:List Value},Vals (ns.map V.int) us→IntsAre us ns:=by
 induction ns with
 | nil=>intro us r;rw [List.map_nil] at r;cases r;exact .nil
 | cons n ns ih =>
  intro us r
  rw [List.map_cons] at r
  cases r with
  | cons r1 r2 =>
   obtain ⟨t,e⟩:=r1
   subst e
   exact .cons n t (ih r2)
section
variable {X:Cx} {e:Expr} {te:TE} {lo hi:Option Expr} {tl th:TO} {pos p2:Pos}
theorem J32:PO X none tNoPart:=by
 intro pins s σ H Q I h
 rw [evalPart_none]
 exact wpAny_pure ⟨none,H,I,.none,h⟩
theorem J31 (h:PE X e te):PO X (some e) (tPart te):=by
 intro pins s σ H Q I hw
 rw [evalPart_some]
 refine thn (h pins s σ H _ I hw) fun u s1 ⟨x,H1,I1,r1,q1⟩=>?_
 obtain ⟨i,rfl,q⟩:=q1
 obtain ⟨t,rfl⟩:=r1
 exact ⟨some i,H1,I1,.int i t,q⟩
def SlR (X:Cx) (r:V→Option Int→Option Int→Hp→VK→Prop):Prop :=
 ∀ (pins:List (Addr × Obj)) (s:Shared) (σ:St) (H:Hp) (x:V) (v vl vu:Value) (lo hi:Option Int) (sl:Addr) (Q:VK),Inv X pins σ H s→RelV x v→s.heap.IsSliceOf sl vl vu .none→IsPart vl lo→IsPart vu hi→r x lo hi H Q→
  ∃ T id,typeLookup (.type T) "__getitem__"=pure (some (.builtin id))∧s.TypeIs v T∧wpAny (model X.prog X.w) X.A (getItem v (.ref sl)) (EP X pins σ Q) X.xe s
def tSl (r:V→Option Int→Option Int→Hp→VK→Prop) (te:TE) (tl th:TO):TE:=fun σ H Q=>te σ H fun x H1=>tl σ H1 fun l H2=>th σ H2 fun u H3=>r x l u H3 Q
theorem J1y {r:V→Option Int→Option Int→Hp→VK→Prop} (hr:SlR X r) (he:PE X e te) (hl:PO X lo tl) (hu:PO X hi th):PE X (.Subscript e (.Slice lo hi none p2) pos) (tSl r te tl th):=by
 intro pins s σ H Q I h
 refine Subscript_ (thn (he pins s σ H _ I h) fun v s1 ⟨x,H1,I1,r1,q1⟩=>?_)
 refine wpAny_Slice (thn (hl pins s1 σ H1 _ I1 q1) fun vl s2 ⟨l,H2,I2,pl,q2⟩=>thn (hu pins s2 σ H2 _ I2 q2) fun vu s3 ⟨u,H3,I3,pu,q3⟩=>?_)
 rw [evalPart_none]
 refine wpAny_pure ?_
 have I4:Inv X pins σ H3 { s3 with heap:=s3.heap.push { cls:=.type "slice",data:=.fields #[vl,vu,.none] } }:=I3.kept (t':=s3.toks) fun b ob q=>Heap.get?_push_of_some _ q
 obtain ⟨T,id,hT,ht,hg⟩:=hr pins { s3 with heap:=s3.heap.push { cls:=.type "slice",data:=.fields #[vl,vu,.none] } } σ H3 x v vl vu l u s3.heap.objs.size Q I4 r1 (Heap.IsSliceOf.new ..) pl pu q3
 show wpAny (model X.prog X.w) X.A (subscriptTail e (.Slice lo hi none p2) v (.ref s3.heap.objs.size)) (EP X pins σ Q) X.xe { s3 with heap:=s3.heap.push { cls:=.type "slice",data:=.fields #[vl,vu,.none] } }
 exact tail_any (ops:=[.ref s3.heap.objs.size,v]) ht hT hg (by with_unfolding_all rfl)
def cutV (xs:List V) (lo hi:Option Int):List V:=(xs.drop (HT.sIx xs.length 0 lo)).take (HT.sIx xs.length xs.length hi - HT.sIx xs.length 0 lo)
theorem cutV_length (xs:List V) (lo hi:Option Int):(cutV xs lo hi).length≤xs.length:=by
 unfold cutV
 rw [List.length_take,List.length_drop]
 omega
end
end L2
namespace L2
open PySem PySem.Spec PyProof.Rows
def ixN (n:Nat) (i:Int):Option Nat:=if 0≤i then (if i < n then some i.toNat else none) else if -(n:Int)≤i then some (i + n).toNat else none
def atI {α:Type} (xs:List α) (i:Int):Option α:=(ixN xs.length i).bind fun j=>xs[j]?
theorem ixN_seq {n:Nat} {i:Int} {j:Nat} (h:ixN n i=some j):seqIndex? i n=some j∧j < n∧-(n:Int)≤i∧i < n:=by
 unfold ixN at h
 by_cases h0:0≤i
 ·rw [if_pos h0] at h
  by_cases h1:i < n
  ·rw [if_pos h1] at h
   have e:i.toNat=j:=Option.some.inj h
   exact ⟨by rw [seqIndex_of h0 h1,e],by omega,by omega,h1⟩
  ·rw [if_neg h1] at h;cases h
 ·rw [if_neg h0] at h
  by_cases h1:-(n:Int)≤i
  ·rw [if_pos h1] at h
   have e:(i + n).toNat=j:=Option.some.inj h
   exact ⟨by rw [seqIndex_neg (by omega) h1,e],by omega,h1,by omega⟩
  ·rw [if_neg h1] at h;cases h
theorem atI_get {α:Type} {xs:List α} {i:Int} {v:α} (h:atI xs i=some v):∃ j,seqIndex? i xs.length=some j∧xs[j]?=some v∧j < xs.length∧-(xs.length:Int)≤i∧i < xs.length:=by
 unfold atI at h
 cases e:ixN xs.length i with
 | none=>rw [e] at h;cases h
 | some j =>
  rw [e] at h
  obtain ⟨h1,h2,h3,h4⟩:=ixN_seq e
  exact ⟨j,h1,h,h2,h3,h4⟩
theorem Jg {α:Type} {xs:List α} {j:Nat} {v:α} (h:xs[j]?=some v):atI xs (j:Int)=some v:=by
 have hj:j < xs.length:=(List.getElem?_eq_some_iff.mp h).1
 have e:ixN xs.length (j:Int)=some j:=by
  unfold ixN
  rw [if_pos (by omega),if_pos (by omega)];simp
 unfold atI;rw [e];exact h
def PlainIx (b:Expr):Prop:=∀ o i,subscripted b false o i=operate [o,i] (getItem o i)
def IxR (X:Cx) (r:R2):Prop :=
 ∀ (value slice:Expr) (pins:List (Addr × Obj)) (s:Shared) (σ:St) (H:Hp) (x y:V) (v u:Value) (Q:VK),Inv X pins σ H s→RelV x v→RelV y u→r x y H Q→
  subscripted slice false v u=operate [v,u] (getItem v u)→wpAny (model X.prog X.w) X.A (subscriptTail value slice v u) (EP X pins σ Q) X.xe s
def MtR (X:Cx) (id:String) (r:V→List V→Hp→VK→Prop):Prop :=
 ∀ (pins:List (Addr × Obj)) (s:Shared) (σ:St) (H:Hp) (x:V) (xs:List V) (v:Value) (us:List Value) (Q:VK),Inv X pins σ H s→RelV x v→Vals xs us→r x xs H Q→
  wpAny (model X.prog X.w) X.A (call (.builtin id) (v :: us)) (EP X pins σ Q) X.xe s
section
variable {X:Cx} {a b:Expr} {ta tb:TE} {pos:Pos}
theorem pe_ix {r:R2} (hr:IxR X r) (ha:PE X a ta) (hb:PE X b tb) (hs:PlainIx b):PE X (.Subscript a b pos) (tOp r ta tb):=by
 intro pins s σ H Q I h
 exact Subscript_ (binT ha hb I h fun v u s2 x y H2 I2 rx ry q=>hr a b pins s2 σ H2 x y v u Q I2 rx ry q (hs _ _))
def rIxL (K:PySem.W.Frag):R2:=fun x y H Q=>∃ p xs i v,x=.ref p∧y=.int i∧SqL K H p xs∧atI xs i=some v∧Q v H
def rIxT (K:PySem.W.Frag):R2:=fun x y H Q=>∃ p xs i v,x=.ref p∧y=.int i∧SqT K H p xs∧atI xs i=some v∧Q v H
def rIxS:R2:=fun x y H Q=>∃ z i c,x=.str z∧y=.int i∧z.length≤sizeLine∧atI z.cps.toList i=some c∧Q (.str ⟨#[c]⟩) H
theorem Ju:IxR X (rIxL X.K):=by
 intro value slice pins s σ H x y v u Q I rx ry h hs
 obtain ⟨p,xs,i,z,rfl,rfl,hq,he,q⟩:=h
 cases rx
 obtain ⟨t,rfl⟩:=ry
 obtain ⟨its,r,pl,hz⟩:=I.list hq
 obtain ⟨j,h1,h2,h3,h4,h5⟩:=atI_get he
 obtain ⟨w,ew,rw'⟩:=r.get h2
 have hl:=r.length
 have hn:=J3k
 have fin:EP X pins σ Q w s:=⟨z,H,I,rw',q⟩
 by_cases h0:0≤i
 ·have hj:i.toNat=j:=by
   rw [seqIndex_of h0 h5] at h1
   exact Option.some.inj h1
  exact item_listR pl.isList h0 (by omega) (by rw [hj];simpa using ew) fin hs
 ·have hj:(i + (its.toArray.size:Int)).toNat=j:=by
   rw [seqIndex_neg (by omega) h4] at h1
   rw [List.size_toArray,← hl]
   exact Option.some.inj h1
  exact subscriptTail_builtinR (x:=w) pl.isList.typeIs slot_list_getitem.lookup
   (wpAny_getItem_list_neg (Q:=fun r s'=>r=w∧EP X pins σ Q r s') pl.isList (by omega) (by rw [List.size_toArray] <;> omega) (by omega) (by rw [hj];simpa using ew) ⟨rfl,fin⟩) hs
theorem J21:IxR X (rIxT X.K):=by
 intro value slice pins s σ H x y v u Q I rx ry h hs
 obtain ⟨p,xs,i,z,rfl,rfl,hq,he,q⟩:=h
 cases rx
 obtain ⟨t,rfl⟩:=ry
 obtain ⟨its,r,pl,hz⟩:=I.tuple hq
 obtain ⟨j,h1,h2,h3,h4,h5⟩:=atI_get he
 obtain ⟨w,ew,rw'⟩:=r.get h2
 have hl:=r.length
 have hn:=J3k
 have fin:EP X pins σ Q w s:=⟨z,H,I,rw',q⟩
 exact subscriptTail_builtinR (x:=w) pl.typeIs slot_tuple_getitem.lookup
  (getItem_tuple (j:=j) (Q:=fun r s'=>r=w∧EP X pins σ Q r s') pl (by omega) (by omega) (by rw [List.size_toArray,← hl];exact h1) (by simpa using ew) ⟨rfl,fin⟩) hs
theorem ix_str:IxR X rIxS:=by
 intro value slice pins s σ H x y v u Q I rx ry h hs
 obtain ⟨z,i,c,rfl,rfl,hz,he,q⟩:=h
 obtain ⟨t,rfl⟩:=rx
 obtain ⟨t',rfl⟩:=ry
 obtain ⟨j,h1,h2,h3,h4,h5⟩:=atI_get he
 have hl:z.cps.toList.length=z.length:=by simp [Str.length]
 rw [hl] at h1 h4 h5
 have hn:=J3k
 exact tail_any (typeIs_str s z t) slot_str_getitem.lookup (getItem_str (c:=c) (by
  have e1:decide (i < -(2 ^ 63:Int))=false:=decide_eq_false (by omega)
  have e2:decide (i≥2 ^ 63)=false:=decide_eq_false (by omega)
  rw [e1,e2,Bool.or_false]) (by rw [h1];simpa using h2) ⟨.str ⟨#[c]⟩,H,I.tok _,⟨_,rfl⟩,q⟩) hs
theorem mapSeq_set (its:List Value) (n j:Nat) (u:Value):Obj.mapSeq (·.setIfInBounds j u) { cls:=.type "list",data:=.seq its.toArray n }={ cls:=.type "list",data:=.seq (its.set j u).toArray n }:=by
 simp [Obj.mapSeq]
theorem Inv.lst {pins:List (Addr × Obj)} {σ:St} {H:Hp} {s:Shared} {p:Addr} {xs:List V} (I:Inv X pins σ H s) (h:H p=some (.lst xs)) :
  ∃ (its:List Value) (n:Nat),Vals xs its∧s.heap.get? p=some { cls:=.type "list",data:=.seq its.toArray n }∧xs.length≤sizeLine:=by
 obtain ⟨z,its,n,r,e⟩:=I.hok p _ h
 exact ⟨its,n,r,e,z⟩
theorem Inv.lstUpd {pins:List (Addr × Obj)} {σ:St} {H:Hp} {s:Shared} {p:Addr} {xs ys:List V} {its its':List Value} {n n':Nat} {f:Obj→Obj} (I:Inv X pins σ H s) (h:H p=some (.lst xs))
  (ho:s.heap.get? p=some { cls:=.type "list",data:=.seq its.toArray n }) (hf:f { cls:=.type "list",data:=.seq its.toArray n }={ cls:=.type "list",data:=.seq its'.toArray n' }) (r:Vals ys its') (hz:ys.length≤sizeLine) (t:Nat) :
  Inv X pins σ (upd H p (.lst ys)) { s with heap:=s.heap.update p f,toks:=t }:=by
 have e:(s.heap.update p f).get? p=some { cls:=.type "list",data:=.seq its'.toArray n' }:=by
  rw [Heap.get?_update_self f ho (by rw [hf] <;> rfl),hf]
 refine I.write (x:=p) (e:=p) (by rw [h];trivial) (.inl rfl) (fun b u hb q=>(Heap.get?_update_other _ _ (Ne.symm hb)).trans q) ⟨_,e⟩ ?_
 exact ⟨hz,its',n',r,e⟩
def rSetL:V→V→V→Hp→(Hp→Prop)→Prop:=fun o i v H Q=>∃ p xs k j,o=.ref p∧i=.int k∧H p=some (.lst xs)∧ixN xs.length k=some j∧Q (upd H p (.lst (xs.set j v)))
theorem J1f:PSet X rSetL:=by
 intro pins s σ H o i v ov iv u Q I ro ri rv h
 obtain ⟨p,xs,k,j,rfl,rfl,hp,hj,q⟩:=h
 cases ro
 obtain ⟨t,rfl⟩:=ri
 obtain ⟨its,n,r,ho,hz⟩:=I.lst hp
 obtain ⟨h1,h2,h3,h4⟩:=ixN_seq hj
 have hl:=r.length
 have hn:=J3k
 have I':Inv X pins σ (upd H p (.lst (xs.set j v))) { s with heap:=s.heap.update p (Obj.mapSeq (·.setIfInBounds j u)) } :=
  I.lstUpd hp ho (mapSeq_set its n j u) (r.set rv j) (by rw [List.length_set];exact hz) s.toks
 by_cases h0:0≤k
 ·have hk:k.toNat=j:=by
   rw [seqIndex_of h0 h4] at h1
   exact Option.some.inj h1
  exact PySem.W.ki_setAt ho h0 (by omega) (by rw [List.size_toArray,← hl];exact h4) (by rw [hk];exact ⟨_,I',q⟩)
 ·have hk:(k + (its.toArray.size:Int)).toNat=j:=by
   rw [seqIndex_neg (by omega) h3] at h1
   rw [List.size_toArray,← hl]
   exact Option.some.inj h1
  exact PySem.W.ki_setBack ho (by omega) (by rw [List.size_toArray,← hl];exact h3) (by omega) (by rw [hk];exact ⟨_,I',q⟩)
theorem J3d (lo hi:Option Int) (n:Nat):(sliceBounds lo hi none n).1=((HT.sIx n 0 lo:Nat):Int)∧(sliceBounds lo hi none n).2.1=((HT.sIx n n hi:Nat):Int)∧(sliceBounds lo hi none n).2.2=1:=by
 refine ⟨?_,?_,rfl⟩
 ·cases lo with
  | none=>simp [sliceBounds,HT.sIx]
  | some i =>
   simp only [sliceBounds,HT.sIx,Option.getD_none,show (1:Int) > 0 by decide,if_true]
   by_cases h:i < 0
   ·simp only [h,if_true] <;> omega
   ·simp only [h,if_false] <;> omega
 ·cases hi with
  | none=>simp [sliceBounds,HT.sIx]
  | some i =>
   simp only [sliceBounds,HT.sIx,Option.getD_none,show (1:Int) > 0 by decide,if_true]
   by_cases h:i < 0
   ·simp only [h,if_true] <;> omega
   ·simp only [h,if_false] <;> omega
theorem J2y (its:List Value) (lo hi:Option Int):slicePick its.toArray lo hi none=((its.drop (HT.sIx its.length 0 lo)).take (HT.sIx its.length its.length hi - HT.sIx its.length 0 lo)).toArray:=by
 obtain ⟨h1,h2,h3⟩:=J3d lo hi its.toArray.size
 unfold slicePick
 rw [h1,h2,h3]
 simp only [sliceRange_one,pick_run,List.size_toArray] <;> rfl
def rSlL (K:PySem.W.Frag):V→Option Int→Option Int→Hp→VK→Prop:=fun x lo hi H Q=>∃ a xs,x=.ref a∧SqL K H a xs∧∀ p,H p=none→Q (.ref p) (upd H p (.lst (cutV xs lo hi)))
theorem sl_list:SlR X (rSlL X.K):=by
 intro pins s σ H x v vl vu lo hi sl Q I rx hs pl pu h
 obtain ⟨a,xs,rfl,hx,q⟩:=h
 cases rx
 obtain ⟨its,r,ht,hz⟩:=I.list hx
 have hlen:=r.length
 refine ⟨"list",_,slot_list_getitem.lookup,ht.isList.typeIs,?_⟩
 refine wpAny_getItem_list_slice ht.isList hs pl pu .none (by simp) ?_ (by rw [List.size_toArray] <;> omega)
 rw [J2y,← hlen]
 refine ⟨.ref s.heap.objs.size,_,I.laid (t':=s.toks) (o:=.lst (cutV xs lo hi)) (fun b ob q=>Heap.get?_push_of_some _ q) (Nat.le_refl _) ?_,rfl,q _ (I.hok.fresh (Nat.le_refl _))⟩
 exact ⟨Nat.le_trans (cutV_length xs lo hi) hz,_,0,(r.drop (HT.sIx xs.length 0 lo)).take (HT.sIx xs.length xs.length hi - HT.sIx xs.length 0 lo),Heap.get?_push_size _ rfl⟩
def flatV:V→Bool
 | .non=>true
 | .bl _=>true
 | .int _=>true
 | .str _=>true
 | _=>false
def eqV:V→V→Bool
 | .non,.non=>true
 | .bl a,.bl b=>a == b
 | .bl a,.int b=>(if a then 1 else 0) == b
 | .int a,.bl b=>a == (if b then 1 else 0)
 | .int a,.int b=>a == b
 | .str a,.str b=>a == b
 | _,_=>false
theorem eqAt_V {A:Around} {s:Shared} {y x:V} {u v:Value} (ry:RelV y u) (rx:RelV x v) (fy:flatV y=true) (fx:flatV x=true):SeqAt.EqAt A s u v (eqV y x):=by
 cases y with
 | non =>
  cases ry
  cases x with
  | non=>cases rx;exact SeqAt.EqAt.same _
  | bl b=>cases rx;exact SeqAt.EqAt.none_bool b
  | int b=>obtain ⟨t,rfl⟩:=rx;exact SeqAt.EqAt.none_int b t
  | str b=>obtain ⟨t,rfl⟩:=rx;exact SeqAt.EqAt.none_str b t
  | _=>exact absurd (show false=true from fx) Bool.false_ne_true
 | bl a =>
  cases ry
  cases x with
  | non=>cases rx;exact SeqAt.EqAt.bool_none a
  | bl b=>cases rx;exact SeqAt.EqAt.bool_bool a b
  | int b=>obtain ⟨t,rfl⟩:=rx;exact SeqAt.EqAt.bool_int a b t
  | str b=>obtain ⟨t,rfl⟩:=rx;exact SeqAt.EqAt.bool_str a b t
  | _=>exact absurd (show false=true from fx) Bool.false_ne_true
 | int a =>
  obtain ⟨t',rfl⟩:=ry
  cases x with
  | non=>cases rx;exact SeqAt.EqAt.int_none a t'
  | bl b=>cases rx;exact SeqAt.EqAt.int_bool a t' b
  | int b=>obtain ⟨t,rfl⟩:=rx;exact SeqAt.EqAt.int_int a t' b t
  | str b=>obtain ⟨t,rfl⟩:=rx;exact SeqAt.EqAt.int_str a t' b t
  | _=>exact absurd (show false=true from fx) Bool.false_ne_true
 | str a =>
  obtain ⟨t',rfl⟩:=ry
  cases x with
  | non=>cases rx;exact SeqAt.EqAt.str_none a t'
  | bl b=>cases rx;exact SeqAt.EqAt.str_bool a t' b
  | int b=>obtain ⟨t,rfl⟩:=rx;exact SeqAt.EqAt.str_int a t' b t
  | str b=>obtain ⟨t,rfl⟩:=rx;exact SeqAt.EqAt.str_str a t' b t
  | _=>exact absurd (show false=true from fx) Bool.false_ne_true
 | _=>exact absurd (show false=true from fy) Bool.false_ne_true
def eqU (x:V) (u:Value):Bool:=match u with
 | .none=>eqV .non x
 | .bool b=>eqV (.bl b) x
 | .int i _=>eqV (.int i) x
 | .str z _=>eqV (.str z) x
 | _=>false
theorem eqU_of {x y:V} {u:Value} (r:RelV y u) (f:flatV y=true):eqU x u=eqV y x:=by
 cases y with
 | non=>cases r;rfl
 | bl b=>cases r;rfl
 | int i=>obtain ⟨t,rfl⟩:=r;rfl
 | str z=>obtain ⟨t,rfl⟩:=r;rfl
 | _=>exact absurd (show false=true from f) Bool.false_ne_true
theorem any_eqU {x:V}:∀ {xs:List V} {us:List Value},Vals xs us→xs.all flatV=true→us.any (eqU x)=xs.any fun y=>eqV y x
 | _,_,.nil,_=>rfl
 | y :: xs,u :: us,.cons r t,f=>by
  rw [List.all_cons,Bool.and_eq_true] at f
  rw [List.any_cons,List.any_cons,eqU_of r f.1,any_eqU t f.2]
theorem J3j {A:Around} {s:Shared} {x:V} {v:Value} (rx:RelV x v) (fx:flatV x=true):∀ {xs:List V} {us:List Value},Vals xs us→xs.all flatV=true→∀ u∈us,SeqAt.EqAt A s u v (eqU x u)
 | _,_,.nil,_=>fun u hu=>by cases hu
 | y :: xs,u :: us,.cons r t,f=>fun u' hu=>by
  rw [List.all_cons,Bool.and_eq_true] at f
  rcases List.mem_cons.mp hu with rfl | hu
  ·rw [eqU_of r f.1];exact eqAt_V r rx f.1 fx
  ·exact J3j rx fx t f.2 u' hu
def inV (x:V) (xs:List V):Bool:=xs.any fun y=>eqV y x
def rIn (K:PySem.W.Frag) (neg:Bool):R2:=fun x y H Q=>∃ p xs,y=.ref p∧(SqL K H p xs∨SqT K H p xs)∧flatV x=true∧xs.all flatV=true∧Q (.bl (if neg then !inV x xs else inV x xs)) H
theorem op_in_seq:OpR X (compareOp .In) (rIn X.K false):=by
 intro pins s σ H x y v u Q I rx ry h
 obtain ⟨p,xs,rfl,hq,fx,fs,q⟩:=h
 cases ry
 rcases hq with hq | hq
 ·obtain ⟨its,r,pl,hz⟩:=I.list hq
  refine SeqAt.in_listAt (eqU x) pl.isList (fun w hw=>J3j rx fx r fs w (by simpa using hw)) ⟨.bl _,H,I,rfl,?_⟩
  rw [show its.toArray.any (eqU x)=its.any (eqU x) by simp,any_eqU r fs]
  exact q
 ·obtain ⟨its,r,pl,hz⟩:=I.tuple hq
  refine SeqAt.in_tupleAt (eqU x) pl (fun w hw=>J3j rx fx r fs w (by simpa using hw)) ⟨.bl _,H,I,rfl,?_⟩
  rw [show its.toArray.any (eqU x)=its.any (eqU x) by simp,any_eqU r fs]
  exact q
theorem J7:CallR X (.builtin "len") (fun xs H Q=>∃ p ys,xs=[.ref p]∧(SqL X.K H p ys∨SqT X.K H p ys)∧Q (.int ys.length) H):=by
 intro pins s σ H xs us Q I r h
 obtain ⟨p,ys,rfl,hq,q⟩:=h
 obtain ⟨u,rfl,rx⟩:=vals1 r
 cases rx
 have hn:=J3k
 rcases hq with hq | hq
 ·obtain ⟨its,r',pl,hz⟩:=I.list hq
  have hlen:=r'.length
  exact Calls.call_len_list pl.isList (by simp only [List.size_toArray] <;> omega) ⟨.int ys.length,H,I.tok _,⟨s.toks + 1,by rw [List.size_toArray,hlen]⟩,q⟩
 ·obtain ⟨its,r',pl,hz⟩:=I.tuple hq
  have hlen:=r'.length
  exact len_tuple pl (by simp only [List.size_toArray] <;> omega) ⟨.int ys.length,H,I.tok _,⟨s.toks + 1,by rw [List.size_toArray,hlen]⟩,q⟩
theorem J3m:CallR X (.builtin "len") (fun xs H Q=>∃ z,xs=[.str z]∧z.length≤sizeLine∧Q (.int z.length) H):=by
 intro pins s σ H xs us Q I r h
 obtain ⟨z,rfl,hz,q⟩:=h
 obtain ⟨u,rfl,t,rfl⟩:=vals1 r
 have hn:=J3k
 exact len_str (by omega) ⟨.int z.length,H,I.tok _,⟨_,rfl⟩,q⟩
theorem J25:CallR X (.type "list") (fun xs H Q=>∃ p ys,xs=[.ref p]∧(SqL X.K H p ys∨SqT X.K H p ys)∧∀ l,H l=none→Q (.ref l) (upd H l (.lst ys))):=by
 intro pins s σ H xs us Q I r h
 obtain ⟨p,ys,rfl,hq,q⟩:=h
 obtain ⟨u,rfl,rx⟩:=vals1 r
 cases rx
 have fin:∀ (its:List Value),Vals ys its→ys.length≤sizeLine→∀ (h':Heap) (c':Nat),(∀ b o',s.heap.get? b=some o'→h'.get? b=some o')→
   h'.get? s.heap.objs.size=some { cls:=.type "list",dict:=none,data:=.seq its.toArray c',slots:=#[] }→EP X pins σ Q (.ref s.heap.objs.size) { s with heap:=h' }:=fun its r' hz h' c' kp e =>
  ⟨.ref s.heap.objs.size,_,I.laid (t':=s.toks) kp (Nat.le_refl _) (show ObjOk X.prog X.w _ h' _ (.lst ys) from ⟨hz,its,c',r',e⟩),rfl,q _ (I.hok.fresh (Nat.le_refl _))⟩
 rcases hq with hq | hq
 ·obtain ⟨its,r',pl,hz⟩:=I.list hq
  have hlen:=r'.length
  obtain ⟨o,ho,hc,n,hd⟩:=pl.isList
  exact call_list_seq p (.inl rfl) ho hc hd (fun h' c' kp e=>fin its r' hz h' c' kp e) (by simp only [List.size_toArray] <;> omega)
 ·obtain ⟨its,r',pl,hz⟩:=I.tuple hq
  have hlen:=r'.length
  obtain ⟨o,ho,hc,n,hd⟩:=pl
  exact call_list_seq p (.inr rfl) ho hc hd (fun h' c' kp e=>fin its r' hz h' c' kp e) (by simp only [List.size_toArray] <;> omega)
theorem J39:CallR X (.type "tuple") (fun xs H Q=>∃ p ys,xs=[.ref p]∧((SqL X.K H p ys∧∀ l,H l=none→Q (.ref l) (upd H l (.tup ys)))∨(SqT X.K H p ys∧Q (.ref p) H))):=by
 intro pins s σ H xs us Q I r h
 obtain ⟨p,ys,rfl,h⟩:=h
 obtain ⟨u,rfl,rx⟩:=vals1 r
 cases rx
 rcases h with ⟨hq,q⟩ | ⟨hq,q⟩
 ·obtain ⟨its,r',pl,hz⟩:=I.list hq
  have hlen:=r'.length
  refine call_tuple_list pl.isList (fun h' kp=>?_) (by simp only [List.size_toArray] <;> omega)
  have I1:Inv X pins σ H { s with heap:=h' }:=I.kept (t':=s.toks) kp
  have I2:Inv X pins σ (upd H h'.objs.size (.tup ys)) { s with heap:=h'.push { cls:=.type "tuple",data:=.seq its.toArray } } :=
   I1.laid (t':=s.toks) (fun b o e=>Heap.get?_push_of_some _ e) (Nat.le_refl _) (show ObjOk X.prog X.w _ _ _ (.tup ys) from ⟨hz,its,r',TupX.new _ _⟩)
  exact ⟨.ref h'.objs.size,_,I2,rfl,q _ (I1.hok.fresh (Nat.le_refl _))⟩
 ·obtain ⟨its,r',pl,hz⟩:=I.tuple hq
  exact call_tuple_same pl ⟨.ref p,H,I,rfl,q⟩
def tyV (K:PySem.W.Frag) (T:String) (x:V) (H:Hp):Prop:=match x with
 | .str _=>T="str"
 | .int _=>T="int"
 | .ref p=>(T="list"∧∃ xs,SqL K H p xs)∨(T="tuple"∧∃ o,K.lookup p=some o∧o.cls=.type "tuple"∧o.dict=none)∨
   (T="dict"∧((∃ kvs,H p=some (.dK kvs))∨∃ kvs,H p=some (.dT kvs)))∨(T="set"∧∃ S n,H p=some (.set S n))
 | _=>False
theorem tyV_is {pins:List (Addr × Obj)} {σ:St} {H:Hp} {s:Shared} {T:String} {x:V} {v:Value} (I:Inv X pins σ H s) (r:RelV x v) (ty:tyV X.K T x H) :
  s.TypeIs v T∧∀ a,v=.ref a→∃ ob,s.heap.get? a=some ob∧ob.dict=none:=by
 cases x with
 | str z =>
  obtain ⟨t,rfl⟩:=r
  cases (show T="str" from ty)
  exact ⟨typeIs_str s z t,fun _ e=>nomatch e⟩
 | int i =>
  obtain ⟨t,rfl⟩:=r
  cases (show T="int" from ty)
  exact ⟨typeIs_int s i t,fun _ e=>nomatch e⟩
 | ref p =>
  cases r
  rcases ty with ⟨rfl,xs,hq⟩ | ⟨rfl,o,hk,hc,hd⟩ | ⟨rfl,hk⟩ | ⟨rfl,S,n,hk⟩
  ·obtain ⟨its,_,pl,_⟩:=I.list hq
   refine ⟨pl.isList.typeIs,fun a e=>?_⟩
   cases e
   obtain ⟨o,n,e,c,hd,_⟩:=pl
   exact ⟨o,e,hd⟩
  ·refine ⟨⟨o,I.kIn p o hk,hc⟩,fun a e=>?_⟩
   cases e
   exact ⟨o,I.kIn _ o hk,hd⟩
  ·have z:∃ o,s.heap.get? p=some o∧o.ExactDict:=by
    rcases hk with ⟨kvs,hk⟩ | ⟨kvs,hk⟩
    ·obtain ⟨_,_,_,_,o,_,_,e,ex,_⟩:=I.hok p _ hk
     exact ⟨o,e,ex⟩
    ·obtain ⟨_,_,_,_,o,_,_,e,ex,_⟩:=I.hok p _ hk
     exact ⟨o,e,ex⟩
   obtain ⟨o,e,ex⟩:=z
   refine ⟨⟨o,e,ex.1⟩,fun a e2=>?_⟩
   cases e2
   exact ⟨o,e,ex.2.1⟩
  ·obtain ⟨o,_,_,_,e,ex,_⟩:=I.hok p _ hk
   refine ⟨⟨o,e,ex.1⟩,fun a e2=>?_⟩
   cases e2
   exact ⟨o,e,ex.2.1⟩
 | _=>exact False.elim ty
def tBM (K:PySem.W.Frag) (T:String) (r:V→List V→Hp→VK→Prop) (to:TE) (t:TA):TE:=fun σ H Q=>to σ H fun x H1=>tyV K T x H1∧t σ H1 fun xs H2=>r x xs H2 Q
variable {o e:Expr} {es:List Expr} {to:TE} {t:TA} {name:Str} {apos cpos:Pos} {T id:String} {r:V→List V→Hp→VK→Prop}
theorem pe_bm (pa:PlainAttrs T) (slot:Slot T name id) (hty:typeOf (.builtin id)=pure (.type "method_descriptor")) (hm:MtR X id r) (ho:PE X o to) (ha:PA X (e :: es) t)
  (hbase:attributeBase o name X.env (eval o X.env)=eval o X.env:=by rfl)
  (hfew:((backTo cpos (starEach (e :: es) X.env)).all (fun x=>!x.1) && (backToKw cpos (keywordEach [] X.env)).all (fun x=>x.1.isSome)
   && decide ((e :: es).length + ([]:List Keyword).length + (if ([]:List Keyword).isEmpty then 0 else 1) < 30))=true:=by rfl)
  (hline:(apos.endLine == cpos.line)=true:=by rfl) (hs:starEach (e :: es) X.env=(false,eval e X.env) :: starEach es X.env:=by rfl) (hplain:(backTo cpos (starEach es X.env)).any (·.1)=false:=by rfl) :
  PE X (.Call (.Attribute o name apos) (e :: es) [] cpos) (tBM X.K T r to t):=by
 intro pins s σ H Q I h
 refine wpAny_Call_method_late hbase hfew hline rfl (thn (ho pins s σ H _ I h) fun v s1 ⟨x,H1,I1,r1,ty,q1⟩=>?_)
 obtain ⟨h1,h2⟩:=tyV_is I1 r1 ty
 refine ⟨T,id,pa,slot,hty,h1,h2,?_⟩
 have hA:=ha cpos pins s1 σ H1 _ I1 q1
 rw [hs] at hA ⊢
 refine Calls.callWith_builtin (by show (false || (backTo cpos (starEach es X.env)).any (·.1))=false;rw [hplain] <;> rfl) (Calls.evalArgs_plain ?_)
 exact thn hA fun us s2 ⟨vs,H2,I2,r2,q2⟩=>hm pins s2 σ H2 x vs v us Q I2 r1 r2 q2
end
end L2
namespace L2
open PySem PySem.Spec PyProof.Rows
def MtM (X:Cx) (id:String) (r:V→List V→Hp→VK→Prop):Prop :=
 ∀ (pins:List (Addr × Obj)) (s:Shared) (σ:St) (H:Hp) (x:V) (xs:List V) (v:Value) (us:List Value) (Q:VK),Inv X pins σ H s→RelV x v→Vals xs us→r x xs H Q→
  wpAny (model X.prog X.w) X.A (call (.builtin id) (v :: us)) (EP X pins σ Q) X.xe s
theorem Vals.one:∀ {x:V} {us:List Value},Vals [x] us→∃ u,us=[u]∧RelV x u
 | _,_,.cons r .nil=>⟨_,rfl,r⟩
theorem Vals.two:∀ {x y:V} {us:List Value},Vals [x,y] us→∃ u v,us=[u,v]∧RelV x u∧RelV y v
 | _,_,_,.cons r (.cons q .nil)=>⟨_,_,rfl,r,q⟩
theorem Vals.eraseIdx:∀ {xs:List V} {us:List Value} (i:Nat),Vals xs us→Vals (xs.eraseIdx i) (us.eraseIdx i)
 | _,_,_,.nil=>.nil
 | _,_,0,.cons _ t=>t
 | _,_,i + 1,.cons r t=>.cons r (Vals.eraseIdx i t)
theorem Vals.rep {xs:List V} {us:List Value} (h:Vals xs us):∀ k:Nat,Vals (List.replicate k xs).flatten (List.replicate k us).flatten
 | 0=>.nil
 | k + 1=>by
  rw [List.replicate_succ,List.replicate_succ,List.flatten_cons,List.flatten_cons]
  exact Vals.append h (Vals.rep h k)
theorem len_erase {α:Type}:∀ (l:List α) (i:Nat),(l.eraseIdx i).length≤l.length
 | [],_=>Nat.le_refl _
 | _ :: _,0=>Nat.le_succ _
 | _ :: r,i + 1=>Nat.succ_le_succ (len_erase r i)
theorem foldl_rep (its:List Value):∀ (k:Nat) (acc:List Value),
  List.foldl (fun x1 x2=>x1 ++ x2) acc.toArray (List.replicate k its.toArray)=(acc ++ (List.replicate k its).flatten).toArray
 | 0,acc=>by simp
 | k + 1,acc=>by
  have e:acc.toArray ++ its.toArray=(acc ++ its).toArray:=by simp
  have e2:(acc ++ its) ++ (List.replicate k its).flatten=acc ++ (List.replicate (k + 1) its).flatten:=by
   rw [List.replicate_succ,List.flatten_cons,List.append_assoc]
  rw [← e2,← foldl_rep its k (acc ++ its),← e,List.replicate_succ,List.foldl_cons]
section
variable {X:Cx} {pins:List (Addr × Obj)} {σ:St} {H:Hp} {s:Shared} {l b:Addr} {xs ys zs:List V}
theorem Inv.lset {its its':List Value} {n:Nat} {f:Array Value→Array Value} {t':Nat} (I:Inv X pins σ H s) (hH:H l=some (.lst xs))
  (e:s.heap.get? l=some { cls:=.type "list",data:=.seq its.toArray n }) (hf:f its.toArray=its'.toArray) (hv:Vals ys its') (hz:ys.length≤sizeLine) :
  Inv X pins σ (upd H l (.lst ys)) { s with heap:=s.heap.update l (Obj.mapSeq f),toks:=t' }:=by
 have q:=PySem.IsL.update e f
 rw [hf] at q
 refine I.write (x:=l) (e:=l) (by rw [hH];exact trivial) (.inl rfl) (fun b' u hb hu=>(Heap.get?_update_other s.heap (Obj.mapSeq f) (Ne.symm hb)).trans hu) ⟨_,q⟩ ?_
 exact ⟨hz,its',_,hv,q⟩
theorem Inv.lnew {its:List Value} {t':Nat} (I:Inv X pins σ H s) (hv:Vals ys its) (hz:ys.length≤sizeLine) :
  Inv X pins σ (upd H s.heap.objs.size (.lst ys)) { s with heap:=s.heap.push { cls:=.type "list",data:=.seq its.toArray },toks:=t' } :=
 I.laid (fun _ _ q=>Heap.get?_push_of_some _ q) (Nat.le_refl _) ⟨hz,its,0,hv,Heap.get?_push_size _ rfl⟩
theorem Inv.fresh (I:Inv X pins σ H s):H s.heap.objs.size=none:=I.hok.fresh (Nat.le_refl _)
theorem Inv.lstM (I:Inv X pins σ H s) (hH:H l=some (.lst xs)):xs.length≤sizeLine∧∃ (its:List Value) (n:Nat),Vals xs its∧xs.length=its.length∧s.heap.get? l=some { cls:=.type "list",data:=.seq its.toArray n }:=by
 obtain ⟨z,its,n,r,e⟩:=I.hok l _ hH
 exact ⟨z,its,n,r,r.length,e⟩
theorem notLongL {n:Nat} (h:n≤sizeLine):Builtin.List.listTooLong n=false:=by
 unfold Builtin.List.listTooLong
 exact decide_eq_false (by omega)
end
section
variable {X:Cx}
def rAppend:V→List V→Hp→VK→Prop:=fun x vs H Q=>∃ l xs y,x=.ref l∧vs=[y]∧H l=some (.lst xs)∧xs.length < sizeLine∧Q .non (upd H l (.lst (xs ++ [y])))
theorem J2n:MtM X "list.append" rAppend:=by
 intro pins s σ H x vs v us Q I rx rv h
 obtain ⟨l,xs,y,rfl,rfl,hH,hz,q⟩:=h
 cases rx
 obtain ⟨u,rfl,ru⟩:=rv.one
 obtain ⟨z,its,n,r,hl,e⟩:=I.lstM hH
 refine call_meets F.slot_list_append ⟨_,e,rfl⟩ F.entry_list_append (F.args_list_append_2 _ _) (PySem.list_append l its.toArray n u (by rw [List.size_toArray];omega)) ⟨e,?_⟩
 refine ⟨.non,_,I.lset (its':=its ++ [u]) hH e (by simp) (r.append (.cons ru .nil)) ?_,rfl,q⟩
 rw [List.length_append,List.length_singleton]
 omega
def rPopAt:V→List V→Hp→VK→Prop:=fun x vs H Q=>∃ l xs i k y,x=.ref l∧vs=[.int i]∧H l=some (.lst xs)∧-(2 ^ 63)≤i∧i < 2 ^ 63∧seqIndex? i xs.length=some k∧xs[k]?=some y∧Q y (upd H l (.lst (xs.eraseIdx k)))
theorem mt_popAt:MtM X "list.pop" rPopAt:=by
 intro pins s σ H x vs v us Q I rx rv h
 obtain ⟨l,xs,i,k,y,rfl,rfl,hH,h1,h2,hk,hy,q⟩:=h
 cases rx
 obtain ⟨u,rfl,ru⟩:=rv.one
 obtain ⟨t,rfl⟩:=ru
 obtain ⟨z,its,n,r,hl,e⟩:=I.lstM hH
 obtain ⟨w,hw,rw'⟩:=r.get hy
 refine call_meets F.slot_list_pop ⟨_,e,rfl⟩ F.entry_list_pop (F.args_list_pop_2 _ _)
  (MeetsSeq.list_pop_at l its.toArray n i t k w (fitsIndex_both h1 h2) (by rw [List.size_toArray,← hl];exact hk) (by rw [← Array.getElem?_toList];exact hw) (by rw [List.size_toArray];omega)) ⟨e,?_⟩
 refine ⟨y,_,I.lset (its':=its.eraseIdx k) hH e ?_ (r.eraseIdx k) ?_,rw',q⟩
 ·show its.toArray.eraseIdxIfInBounds k=(its.eraseIdx k).toArray
  rw [List.eraseIdxIfInBounds_toArray]
 ·have:=len_erase xs k
  omega
def rCat:R2:=fun x y H Q=>∃ l b xs zs,x=.ref l∧y=.ref b∧H l=some (.lst xs)∧H b=some (.lst zs)∧xs.length + zs.length≤sizeLine∧∀ p,H p=none→Q (.ref p) (upd H p (.lst (xs ++ zs)))
theorem op_cat:OpR X (binaryOp .Add) rCat:=by
 intro pins s σ H x y v u Q I rx ry h
 obtain ⟨l,b,xs,zs,rfl,rfl,hH,hB,hz,q⟩:=h
 cases rx
 cases ry
 obtain ⟨z,its,n,r,hl,e⟩:=I.lstM hH
 obtain ⟨z2,its2,n2,r2,hl2,e2⟩:=I.lstM hB
 refine PySem.P.add_list e e2 ?_ (by rw [List.size_toArray,List.size_toArray];omega)
 have ea:its.toArray ++ its2.toArray=(its ++ its2).toArray:=by simp
 rw [ea]
 exact ⟨.ref _,_,I.lnew (t':=s.toks) (r.append r2) (by rw [List.length_append];omega),rfl,q _ I.fresh⟩
def rRep:R2:=fun x y H Q=>∃ l k xs,x=.ref l∧y=.int k∧H l=some (.lst xs)∧-(2 ^ 63)≤k∧k < 2 ^ 63∧xs.length * k.toNat≤sizeLine∧
 ∀ p,H p=none→Q (.ref p) (upd H p (.lst (List.replicate k.toNat xs).flatten))
theorem len_rep {α:Type} (xs:List α) (k:Nat):(List.replicate k xs).flatten.length=k * xs.length:=by
 induction k with
 | zero=>simp
 | succ k ih=>rw [List.replicate_succ,List.flatten_cons,List.length_append,ih,Nat.succ_mul,Nat.add_comm]
theorem op_rep:OpR X (binaryOp .Mult) rRep:=by
 intro pins s σ H x y v u Q I rx ry h
 obtain ⟨l,k,xs,rfl,rfl,hH,h1,h2,hz,q⟩:=h
 cases rx
 obtain ⟨t,rfl⟩:=ry
 obtain ⟨z,its,n,r,hl,e⟩:=I.lstM hH
 have hlen:its.toArray.size * k.toNat≤sizeLine:=by rw [List.size_toArray,← hl];exact hz
 have hcap:¬ its.toArray.size * k.toNat > (2 ^ 63 - 1) / 8:=by
  have:(sizeLine:Nat)≤(2 ^ 63 - 1) / 8:=by decide
  omega
 have hfit:¬ (!Builtin.List.listFitsIndex k)=true:=by
  rw [fitsIndex_both h1 h2]
  exact Bool.false_ne_true
 have hlong:¬ Builtin.List.listTooLong (its.toArray.size * k.toNat)=true:=by
  rw [notLongL hlen]
  exact Bool.false_ne_true
 have hnew:List.foldl (fun x1 x2=>x1 ++ x2) #[] (List.replicate (if its.toArray.isEmpty=true then 0 else k.toNat) its.toArray)=(List.replicate k.toNat its).flatten.toArray:=by
  have f0:∀ m:Nat,List.foldl (fun x1 x2=>x1 ++ x2) #[] (List.replicate m its.toArray)=(List.replicate m its).flatten.toArray:=fun m=>by
   have:=foldl_rep its m []
   rw [List.nil_append] at this
   exact this
  rw [f0]
  cases its with
  | nil=>simp
  | cons a r'=>rw [if_neg (by simp)]
 refine wpAny_binaryOp_repeat_ref (T:="list") (U:="int") (by decide) ⟨_,e,rfl⟩ (fun s'=>typeIs_int s' k t) noFill_list_mul F.fills_int_mul F.slot_int_rmul repeat_list F.slot_int_index.lookup
  (call_meets F.slot_int_rmul (typeIs_int s k t) F.entry_int_rmul (F.args_int_rmul_2 _ _) (int___rmul___int_list k t l its.toArray n)
   ⟨e,rfl,⟨_,e,rfl⟩,call_meets F.slot_list_mul ⟨_,e,rfl⟩ F.entry_list_mul (F.args_list_mul_2 _ _) (AutoListH.list___mul___list_int_3 l its.toArray n k t hfit hcap hlong) ⟨e,?_⟩⟩)
 rw [hnew]
 exact ⟨.ref _,_,I.lnew (t':=s.toks) (r.rep k.toNat) (by rw [len_rep,Nat.mul_comm];exact hz),rfl,q _ I.fresh⟩
end
section
variable {prog:Program} {w:World} {A:Around} {E:Value→Shared→Prop} {s:Shared}
set_option maxRecDepth 100000 in
end
end L2
namespace Att
open PySem PySem.W PySem.Calls PyProof.Rows
theorem J26 {P:Params} {h:Heap}:∀ (ns:List Int) (vs:List Value),WellAll P h vs (ns.map WData.int)→IntsAre vs ns:=by
 intro ns
 induction ns with
 | nil =>
  intro vs w
  rw [List.map_nil] at w
  cases w
  exact .nil
 | cons n ns ih =>
  intro vs w
  rw [List.map_cons] at w
  cases w with
  | cons a b =>
   cases a
   exact .cons _ _ (ih _ b)
theorem script_of {l:OpenLaw} {n:Nat} (hn:l.most=some n) {P:Params} {h:Heap} {args:List WData} {vals:List Value}
  (hpre:l.row.toRowW.claim.pre args=true) (hwl:WellAll P h vals args) :
  ∃ a vs ns,vals=[Value.ref a]∧args=[WData.list (ns.map WData.int)]∧h.get? a=some { cls:=.type "list",data:=.seq vs.toArray }∧IntsAre vs ns∧ns.length≤n:=by
 have hsh:WShape.hasAll [] args [.list .int]=true:=(pre_splitW hpre).1
 have hc:l.pre.holds [] { args:=args }=true:=(pre_splitW hpre).2
 obtain ⟨d,r,rfl,h1,h2⟩:=hasAllW_cons hsh
 obtain rfl:=hasAllW_nil h2
 obtain ⟨xs,rfl,h3⟩:=hasW_list h1
 obtain ⟨ns,rfl⟩:=items_int h3
 have hlen:ns.length≤n:=by
  unfold OpenLaw.pre at hc
  have h4:(WTm.not (.lt (.lit (.int (n:Int))) (.len (.arg 0)))).holds [] { args:=[.list (ns.map .int)] }=true:=by
   have h4:=(holds_andW hc).1
   rw [hn] at h4
   exact h4
  have h5:=condW_of h4 (w_not (w_lt w_lit (w_len_list (w_arg rfl))))
  rw [List.length_map] at h5
  refine Nat.le_of_not_lt fun q=>?_
  have q':(n:Int) < ((ns.length:Nat):Int):=by omega
  first
   | (rw [decide_eq_true q'] at h5;exact absurd h5 (by decide))
   | (simp at h5;omega)
 cases hwl with
 | cons w1 w2 =>
  cases w2
  cases w1 with
  | list ho hall=>exact ⟨_,_,ns,rfl,rfl,ho,J26 ns _ hall,hlen⟩
theorem post_true (l:OpenLaw) (args:List WData):l.row.toRowW.claim.post args (.bool true) args=true :=
 postW_of (r:=l.row.toRowW) (X:=(true == true))
  (show WShape.has [] (.bool true) .bool=true by first | rfl | decide | simp [WShape.has,WShape.arms,WShape.armsAll])
  (show (WTm.eq .res (.lit (.bool true))).value [] { args:=args,res:=some (.bool true),after:=args }=some (.bool (true == true)) from w_eq_bool (w_res rfl) w_lit) rfl
theorem attach_call {l:OpenLaw} {n:Nat} {q:Program} {loose:List Str} {XP:(Str→Option Value)→Heap→Prop} {YP:World→Heap→Prop} {d:DefRec}
  (hn:l.most=some n) (hdf:d.params.defaults=[])
  (call:∀ (w:World) (s₀ s₁:Shared) (mg mb:Str→Option Value) (fa:Addr) (o:Obj) (pm cd doc:Value) (a:Addr) (vs:List Value) (ns:List Int),
   Ground q loose [] XP w s₀ mg mb s₁.heap→YP w s₁.heap→
   s₁.heap.get? fa=some o→o.data=.func (docDef d.name d.params d.body d.scope pm cd doc)→s₁.heap.CodeRec cd d.name→mg d.name=some (.ref fa)→
   s₁.heap.get? a=some { cls:=.type "list",data:=.seq vs.toArray }→IntsAre vs ns→ns.length≤n→s₁.gens=#[]→
   codeAny (model l.prog w) callerA (.call (.ref fa) ⟨[.ref a],[]⟩) (fun r s'=>r=.ok (.ret (.bool true))∧OldK s₁.heap s'.heap∧s'.os=s₁.os∧AllBare s'.gens) s₁) :
  WalkO q loose XP YP l.row.toRowW d [] (fun f vs=>PySem.call f vs):=by
 intro w s₀ s₁ mg mb G Y fa o pm cd doc dV kV ho hd hcd hD hmg hg args vals as hpre hlay hrd hwl hlo
 obtain rfl:dV=.none:=Dflts.none hD hdf
 obtain rfl:kV=.none:=Dflts.noKw hD
 obtain ⟨a,vs,ns,rfl,rfl,hobj,hints,hlen⟩:=script_of hn hpre hwl
 refine enter_call (codeAny_mono (call w s₀ s₁ mg mb fa o pm cd doc a vs ns G Y ho (fd_plain hd) hcd hmg hobj hints hlen hg) fun r s' hq=>?_)
 obtain ⟨rfl,h2,h3,h4⟩:=hq
 exact ⟨.inl ⟨.bool true,.bool true,[],rfl,fun _=>rfl,.bool true,post_true l _,fun _=>⟨List.Pairwise.nil,fun _ hm=>(nomatch hm)⟩⟩,h2,h3,h4⟩
end Att
namespace L2
open PySem PySem.Spec PyProof.Rows
theorem J2g:∀ {vs:List Value} {ns:List Int},IntsAre vs ns→Vals (ns.map V.int) vs
 | _,_,.nil=>.nil
 | _,_,.cons n t h=>.cons ⟨t,rfl⟩ (J2g h)
def Only (H:Hp):Prop:=∀ b,H b=none∨∃ o xs,H b=some (.frz o (.lst xs))
theorem law_call {P:Program} {w:World} {K:PySem.W.Frag} {mg mb:Str→Option Value} {CX:CXT} {k:Nat} {fa a:Addr} {fd:FuncData} {x:Str} {sp:Sp} {s₁:Shared} {vs:List Value} {ns:List Int}
  (KX:K.In s₁.heap) (hns:s₁.heap.Ns mainGlobals mg) (hb:s₁.heap.Ns builtinsNs mb) (hbb:∀ x:Str,x≠"__name__"→mb x=bootBuiltins x) (hlim:s₁.heap.NoLimit) (hg:s₁.gens=#[])
  (ha:s₁.heap.get? a=some { cls:=.type "list",data:=.seq vs.toArray }) (hi:IntsAre vs ns) (hl:ns.length≤sizeLine) (hr:Room k callerA)
  (F:∀ base:Heap,K.In base→base.Ns mainGlobals mg→FnOk P w K mg base CX k fa fd [x] sp) (hbind:∀ (s:Shared) (u:Value),BindsTo s fd ⟨[u],[]⟩ [(x,u)])
  (hsp:∀ H:Hp,Only H→SqL K H a (ns.map V.int)→sp [.ref a] H (fun v _=>v=.bl true) fun _ _ _=>False)
  (hCX:∀ H e s',CX [] H s₁ (fun _ _ _=>False) e s'→False) :
  codeAny (model P w) callerA (.call (.ref fa) ⟨[.ref a],[]⟩) (fun r s'=>r=.ok (.ret (.bool true))∧OldK s₁.heap s'.heap∧s'.os=s₁.os∧AllBare s'.gens) s₁:=by
 have rv:=J2g hi
 have lenV:=hi.length
 have core:∀ H:Hp,Only H→SqL K H a (ns.map V.int)→HOk P w H s₁.heap→(∀ b,H b≠none→b=a)→(H a≠none→K.lookup a=none)→
   codeAny (model P w) callerA (.call (.ref fa) ⟨[.ref a],[]⟩) (fun r s'=>r=.ok (.ret (.bool true))∧OldK s₁.heap s'.heap∧s'.os=s₁.os∧AllBare s'.gens) s₁:=by
  intro H hO hS hok hA hK
  have base_of:∀ {b:Addr} {o:Obj},s₁.heap.get? b=some o→H b=none→(hidT s₁.heap H).get? b=some o:=fun e n=>hidT_get e n
  have noA:∀ {b:Addr} {o:Obj} {es:Array DictEntry} {ep:Nat},s₁.heap.get? b=some o→o.data=.dict es ep→H b=none:=fun {b o es ep} e d=>by
   cases q:H b with
   | none=>rfl
   | some u =>
    have e':b=a:=hA b (by rw [q];simp)
    subst e'
    rw [ha] at e;cases e
    have d':Data.seq vs.toArray _=Data.dict es ep:=d
    cases d'
  have nsK:∀ {b:Addr} {m:Str→Option Value},s₁.heap.Ns b m→(hidT s₁.heap H).Ns b m:=fun {b m} ⟨o,es,ep,e,d,r⟩=>⟨o,es,ep,base_of e (noA e d),d,r⟩
  have hKb:K.In (hidT s₁.heap H):=fun b o e=>base_of (KX b o e) (by
   cases q:H b with
   | none=>rfl
   | some u =>
    have e':b=a:=hA b (by rw [q];simp)
    subst e'
    rw [hK (by rw [q];simp)] at e;cases e)
  have hM:Mod K mg (hidT s₁.heap H):=⟨hKb,nsK hns,⟨mb,nsK hb,hbb⟩,let ⟨mc,h1,h2⟩:=hlim;⟨mc,nsK h1,h2⟩⟩
  have e0:Env0 P w K mg (hidT s₁.heap H) callerA [] s₁ H:=⟨rfl,hM,fun b o e=>of_hidT e,Nat.le_of_eq (hidT_size _ _),trivial,fun b hb=>absurd (show b∈([]:List Addr) from hb) (by simp),hok,.of_eq hg⟩
  refine codeAny_mono ((F _ hKb (nsK hns)).run callerA [] s₁ H ⟨[.ref a],[]⟩ [.ref a] [.ref a] _ _ hr e0 (hbind s₁ (.ref a)) (.cons rfl .nil) (hsp H hO hS)) fun r s' h=>?_
  cases r with
  | error e=>exact (hCX H e s' h).elim
  | ok fl =>
   cases fl with
   | next=>exact False.elim h
   | brk=>exact False.elim h
   | cont=>exact False.elim h
   | ret u =>
    obtain ⟨v,H',os,bare,un,hok',r',q⟩:=h
    have q':v=.bl true:=q
    subst q'
    obtain rfl:u=Value.bool true:=r'
    refine ⟨rfl,OldK.of_keep fun b o e=>?_,os,bare⟩
    cases q:H b with
    | none=>exact un.keep b o e q (by intro z;exact absurd (show b∈([]:List Addr) from z) (by simp)) (by simp)
    | some u =>
     rcases hO b with z | ⟨ob,xs,z⟩
     ·rw [q] at z;cases z
     ·have z2:=un.frzs b ob _ z
      obtain ⟨e1,_⟩:=hok b _ z
      obtain ⟨e2,_⟩:=hok' b _ z2
      rw [e] at e1;cases e1
      exact e2
 cases hk:K.lookup a with
 | some o =>
  have e:=KX a o hk
  rw [ha] at e
  cases e
  refine core (fun _=>none) (fun _=>.inl rfl) (.inr ⟨_,vs.toArray,_,hk,rfl,rfl,rfl,by rw [List.size_toArray,lenV];exact hl,by simpa using rv⟩) (fun b u z=>by have z':(none:Option HO)=some u:=z;cases z') (fun b z=>absurd rfl z) fun z=>absurd rfl z
 | none =>
  refine core (fun b=>if b=a then some (.frz { cls:=.type "list",data:=.seq vs.toArray } (.lst (ns.map V.int))) else none) (fun b=>?_) (.inl (.inr ⟨{ cls:=.type "list",data:=.seq vs.toArray },if_pos rfl⟩)) (fun b u z=>?_) (fun b z=>?_) fun _=>hk
  ·by_cases hb:b=a
   ·exact .inr ⟨_,_,if_pos hb⟩
   ·exact .inl (if_neg hb)
  ·by_cases hb:b=a
   ·have z':=(if_pos hb).symm.trans z
    cases z'
    subst hb
    exact ⟨ha,by rw [List.length_map];exact hl,vs,_,rv,ha⟩
   ·have z':=(if_neg hb).symm.trans z
    cases z'
  ·by_cases hb:b=a
   ·exact hb
   ·exact absurd (if_neg hb) z
end L2
namespace L2
open PySem PySem.Spec PyProof.Rows
theorem walk_of {l:PySem.W.OpenLaw} {n k:Nat} {q:Program} {loose:List Str} {XP:(Str→Option Value)→Heap→Prop} {YP:World→Heap→Prop} {d:DefRec} {K:Params→PySem.W.Frag} {CX:World→CXT} {sp:World→Sp} {x:Str}
  (hn:l.most=some n) (hn2:n≤sizeLine) (hdf:d.params.defaults=[]) (hr:Room k callerA)
  (hY:∀ (w:World) (h:Heap),YP w h→(K w.params).In h)
  (F:∀ (w:World) (mg:Str→Option Value) (fa:Addr) (h:Heap),(K w.params).In h→h.Ns mainGlobals mg→mg d.name=some (.ref fa)→
   ∃ fd:FuncData,(∀ (s:Shared) (u:Value),BindsTo s fd ⟨[u],[]⟩ [(x,u)])∧
    ∀ base:Heap,(K w.params).In base→base.Ns mainGlobals mg→FnOk l.prog w (K w.params) mg base (CX w) k fa fd [x] (sp w))
  (hsp:∀ (w:World) (H:Hp) (a:Addr) (ns:List Int),ns.length≤n→Only H→SqL (K w.params) H a (ns.map V.int)→sp w [.ref a] H (fun v _=>v=.bl true) fun _ _ _=>False)
  (hCX:∀ (w:World) (H:Hp) (s:Shared) (e:Value) (s':Shared),CX w [] H s (fun _ _ _=>False) e s'→False) :
  PySem.W.WalkO q loose XP YP l.row.toRowW d [] (fun f vs=>PySem.call f vs):=by
 refine Att.attach_call hn hdf fun w s₀ s₁ mg mb fa o pm cd doc a vs ns G Y ho hd hcd hmg hobj hints hlen hg=>?_
 have KX:=hY w _ Y
 obtain ⟨fd,hb,hF⟩:=F w mg fa _ KX G.T.g hmg
 exact law_call KX G.T.g G.T.b G.T.builtins G.T.nolimit hg hobj hints (Nat.le_trans hlen hn2) hr hF hb (fun H hO hS=>hsp w H a ns hlen hO hS) fun H e s'=>hCX w H s₁ e s'
end L2
namespace L2
open PySem PySem.Spec PyProof.Rows
def inClass (s:Stmt) (j:Nat):Stmt:=match s with
 | .ClassDef _ _ _ body _ _ _ _ _ _ _=>body.getD j (.Pass ⟨0,0,0,0⟩)
 | _=>.Pass ⟨0,0,0,0⟩
def Jk (s:Stmt):Arguments:=match s with
 | .FunctionDef _ a _ _ _ _ _ _ _ _=>a
 | _=>{ posonlyargs:=[],args:=[],vararg:=none,kwonlyargs:=[],kw_defaults:=[],kwarg:=none,defaults:=[] }
def Jf (s:Stmt):List Stmt:=match s with
 | .FunctionDef _ _ b _ _ _ _ _ _ _=>b
 | _=>[]
def J6 (s:Stmt):Scope:=match s with
 | .FunctionDef _ _ _ _ _ _ sc _ _ _=>sc
 | _=>{ kind:=.function,names:=[],isGenerator:=false,isCoroutine:=false }
abbrev CX0:CXT:=fun _ _ _ _ _ _=>False
abbrev E0:XK:=fun _ _ _=>False
theorem pass0 {X:Cx}:Passes CX0 X E0:=fun _ _ _ _ _ _ _ h=>h.elim
structure Fun (K:PySem.W.Frag) (x qual:Str) (st:Stmt) (f:Addr) (fd:FuncData):Prop where
 ex:∃ (oc:Value) (od:Option Addr) (kV doc pm:Value) (an:Option Addr) (cdv ct:Value) (osl:Array (Option Value)),
  fd=PySem.W.fnOf x qual (Jk st) (Jf st) (J6 st) .none kV doc pm an cdv ct∧K.lookup f=some ⟨oc,od,.func fd,osl⟩∧PySem.W.codeIn K cdv qual=true
 kp:PySem.W.keepIn K (.ref f)=true
section
variable {P:Program} {w:World} {K:PySem.W.Frag} {mg:Str→Option Value} {base:Heap}
theorem Fun.ok {x qual:Str} {st:Stmt} {f:Addr} {fd:FuncData} {N ps:List Str} {k:Nat} {sp:Sp} (F:Fun K x qual st f fd) (S:FnScope N ps (J6 st)) (len:∀ vs H Q E,sp vs H Q E→vs.length=ps.length)
  (hbody:∀ (cdv:Value) (A:Around) (outer:List Env) (s:Shared) (H:Hp) (vs:List V) (Q:VK) (E:XK),Room k (A.deeper (envOfC qual (J6 st) s.heap.objs.size f cdv))→sp vs H Q E→
   ∃ t,PSs (cxOf CX0 P w K mg base N qual (J6 st) f cdv A outer s H E).nox (Jf st) t∧t { nx:=fun _ H'=>Q .non H',rt:=Q } (start N vs) H):FnOk P w K mg base CX0 (k + 1) f fd ps sp:=by
 obtain ⟨oc,od,kV,doc,pm,an,cdv,ct,osl,rfl,lk,hcd⟩:=F.ex
 refine fn_of lk hcd S len fun A outer s H vs Q E hr hsp=>?_
 obtain ⟨t,h,q⟩:=hbody cdv A outer s H vs Q E hr hsp
 exact ⟨t,h.nox,q⟩
theorem Fun.binds {x qual:Str} {st:Stmt} {f:Addr} {fd:FuncData} {ps:List Str} (F:Fun K x qual st f fd)
  (h:∀ (kV doc pm:Value) (an:Option Addr) (cdv ct:Value) (us:List Value),us.length=ps.length→bindArgs (PySem.W.fnOf x qual (Jk st) (Jf st) (J6 st) .none kV doc pm an cdv ct) ⟨us,[]⟩=pure (ps.zip us)):Binds K fd ps []:=by
 obtain ⟨oc,od,kV,doc,pm,an,cdv,ct,osl,rfl,lk,hcd⟩:=F.ex
 exact .all (h kV doc pm an cdv ct)
theorem J14 {x qual:Str} {st:Stmt} {f:Addr} {oc:Value} {od an:Option Addr} {osl:Array (Option Value)} {kV doc pm cdv ct:Value} (l:K.lookup f=some ⟨oc,od,.func (PySem.W.fnOf x qual (Jk st) (Jf st) (J6 st) .none kV doc pm an cdv ct),osl⟩)
  (c:PySem.W.codeIn K cdv qual=true) (k:PySem.W.keepIn K (.ref f)=true):Fun K x qual st f (PySem.W.fnOf x qual (Jk st) (Jf st) (J6 st) .none kV doc pm an cdv ct):=⟨⟨oc,od,kV,doc,pm,an,cdv,ct,osl,rfl,l,c⟩,k⟩
end
theorem Jx {n:Nat} (h:n≤1000):n < sizeLine:=Nat.lt_of_le_of_lt h (by decide)
section
variable {X:Cx}
theorem pv (i:Nat) {x:Str} {pos:Pos} (hN:X.N[i]?=some x:=by rfl) (hv:Vis X.env.scope x:=by first | exact Or.inl rfl | exact Or.inr (Or.inl rfl) | exact Or.inr (Or.inr rfl)) (hd:(x == ("__debug__":Str))=false:=by decide)
  (hcd:(x == ("__classdict__":Str))=false:=by decide):PE X (.Name x pos) (tVar i):=pe_var hN hv hd hcd
end
theorem iteF {A B:Prop} (h:B):if false=true then A else B:=by
 rw [if_neg Bool.false_ne_true]
 exact h
theorem iteT {A B:Prop} (h:A):if true=true then A else B:=by
 rw [if_pos rfl]
 exact h
theorem iteNS {c A B:Prop} [Decidable c] (hc:c) (h:B):if (!decide c)=true then A else B:=by
 rw [decide_eq_true hc]
 exact iteF h
def Same (H H':Hp):Prop:=∀ b o,H b=some o→H' b=some o
theorem Same.refl (H:Hp):Same H H:=fun _ _ h=>h
theorem Same.trans {H H1 H2:Hp} (a:Same H H1) (b:Same H1 H2):Same H H2:=fun c o h=>b c o (a c o h)
theorem Same.free {H H':Hp} (e:Same H H') {l:Addr} (h:H' l=Option.none):H l=Option.none:=by
 cases q:H l with
 | none=>rfl
 | some o =>
  rw [e l o q] at h
  cases h
theorem Same.seq {K:PySem.W.Frag} {H H':Hp} {a:Addr} {xs:List V} (e:Same H H') (h:SqL K H a xs):SqL K H' a xs:=by
 rcases h with (h | ⟨o,h⟩) | h
 ·exact .inl (.inl (e _ _ h))
 ·exact .inl (.inr ⟨o,e _ _ h⟩)
 ·exact .inr h
end L2
namespace L2
open PySem PySem.Spec PyProof.Rows
theorem J1d {prog:Program} {w:World} {A:Around} {R:Result→Shared→Prop} {s:Shared} {elt target iter:Expr} {scope:Scope} {pos:Pos} {it acc:Value} {env:Env} (J:Nat→Shared→Prop)
  (turn:∀ n s,J n s→wpAny (model prog w) A (pyNext it) (fun r s₁=>match r with
   | none=>R (.ok .next) s₁
   | some v=>wpAny (model prog w) A (letOwnedTupleGo target it v) (fun _ s₁'=>wpAny (model prog w) A (assign target env v) (fun _ s₂=>wpAny (model prog w) A (eval elt env) (fun x s₃ =>
     wpAny (model prog w) A (call (.builtin "list.append") [acc,x]) (fun _ s₄=>∃ m,m < n∧J m s₄) (fun _ _=>False) s₃) (fun _ _=>False) s₂) (fun _ _=>False) s₁') (fun _ _=>False) s₁) (fun _ _=>False) s)
  (n:Nat) (h:J n s):codeAny (model prog w) A (.compLoop (.ListComp elt [⟨target,iter,[],0⟩] scope pos) 0 it acc env) R s:=by
 refine codeAny_loop rfl J (fun n s hI=>?_) n h
 show wpAny _ _ ((compTurn (.ListComp elt [⟨target,iter,[],0⟩] scope pos) 0 it acc env).onRaise (fun x=>do noteFrame x env;theTreesLotGoes x)) _ _ s
 refine wpAny_noted ?_
 rw [compTurn_list1]
 refine wpAny_bind (wpAny_standAt (wpAny_bind (wpAny_mono (turn n s hI) (fun r s₁ h₁=>?_) fun _ _ h'=>False.elim h')))
 cases r with
 | none=>exact wpAny_pure h₁
 | some v =>
  refine wpAny_bind (wpAny_mono h₁ (fun _ s₁' h₁'=>?_) fun _ _ h'=>False.elim h')
  exact wpAny_bind (wpAny_mono h₁' (fun _ s₂ h₂=>wpAny_bind (wpAny_bind (wpAny_mono h₂ (fun x s₃ h₃=>wpAny_bind (wpAny_mono h₃
   (fun _ s₄ h₄=>wpAny_pure (wpAny_pure ⟨rfl,h₄⟩)) fun _ _ h'=>False.elim h')) fun _ _ h'=>False.elim h'))) fun _ _ h'=>False.elim h')
abbrev Cx.block (X:Cx) (N:List Str) (scope:Scope) (cl:List (Str × Addr)) (C:Addr) (fp:List Addr) (s:Shared) (H:Hp):Cx :=
 { X with N:=N,s₀:=s,H₀:=H,env:=compEnvC scope cl C X.env,outer:=X.stack,stack:=X.stack,ex:=fp,fn:=fun _=>false,pn:=[],xe:=fun _ _=>False }
theorem J2c {env:Env}:∀ {names:List (Str × NameKind)} {x:Str} {k:NameKind},(names.map fun (n,k)=>if (k == NameKind.free && env.scope.kind == .function && env.kindOf n == some .cell) then (n,NameKind.cell) else (n,k)).lookup x=some k→
  k=.cell∨k=.free→(∀ p∈names,p.2≠.cell)→∃ p∈names,p.1=x∧p.2=.free
 | [],_,_,h,_,_=>by simp at h
 | (n,q) :: r,x,k,h,hk,hc=>by
  have ih:=@J2c env r x k
  have hq:q≠.cell:=hc (n,q) List.mem_cons_self
  rw [List.map_cons] at h
  by_cases hx:x=n
  ·subst hx
   by_cases e:(q == NameKind.free && env.scope.kind == .function && env.kindOf x == some .cell)=true
   ·simp only [Bool.and_eq_true] at e
    exact ⟨(x,q),List.mem_cons_self,rfl,by simpa using e.1.1⟩
   ·have e2:List.lookup x ((x,q) :: List.map (fun (n,k)=>if (k == NameKind.free && env.scope.kind == .function && env.kindOf n == some .cell) then (n,NameKind.cell) else (n,k)) r)=some k:=by
     simpa only [e,if_false,Bool.false_eq_true] using h
    rw [List.lookup_cons_self] at e2
    cases e2
    rcases hk with hk | hk
    ·exact absurd hk hq
    ·exact ⟨(x,q),List.mem_cons_self,rfl,hk⟩
  ·have hb:(x == n)=false:=by simpa using hx
   have h':(List.map (fun (n,k)=>if (k == NameKind.free && env.scope.kind == .function && env.kindOf n == some .cell) then (n,NameKind.cell) else (n,k)) r).lookup x=some k:=by
    by_cases e:(q == NameKind.free && env.scope.kind == .function && env.kindOf n == some .cell)=true
    ·simp only [e,if_true,List.lookup_cons,hb] at h;exact h
    ·simp only [e,if_false,Bool.false_eq_true,List.lookup_cons,hb] at h;exact h
   obtain ⟨p,hp,e1,e2⟩:=ih h' hk fun p hp=>hc p (List.mem_cons_of_mem _ hp)
   exact ⟨p,List.mem_cons_of_mem _ hp,e1,e2⟩
def capv (σ:St) (js:List Nat):St:=js.map fun j=>(σ[j]?).join
theorem capv_get {σ:St} {js:List Nat} {k:Nat} {v:V} (h:(capv σ js)[k]?=some (some v)):∃ j,js[k]?=some j∧σ[j]?=some (some v):=by
 unfold capv at h
 rw [List.getElem?_map] at h
 cases e:js[k]? with
 | none=>rw [e] at h;cases h
 | some j =>
  rw [e] at h
  refine ⟨j,rfl,?_⟩
  cases e2:σ[j]? with
  | none=>rw [Option.map_some,e2] at h;cases h
  | some o=>rw [Option.map_some,e2] at h;exact congrArg some (Option.some.inj h)
def tComp (wi:TI) (te:TE) (js:List Nat) (i:Nat):TS:=fun D σ H=>wi σ H fun J H1=>∃ (lo:Int) (n:Nat) (f:Nat→V),J=Itr lo n∧n≤1000∧
 (∀ (d:Addr) (H2:Hp) (k:Nat),H1 d=none→k < n→H2=upd H1 d (.lst ((List.range k).map f))→te (some (.int (lo + k)) :: capv σ js) H2 fun v H3=>H3=H2∧v=f k)∧
 ∀ d,H1 d=none→D.nx (σ.set i (some (.ref d))) (upd H1 d (.lst ((List.range n).map f)))
section
variable {X:Cx} {elt iter:Expr} {x y:Str} {px py:Pos} {scope:Scope} {cl:List (Str × Addr)} {pos spos:Pos} {wi:TI} {te:TE} {caps:List Str} {js:List Nat} {i:Nat}
theorem J2u {pins:List (Addr × Obj)} {σ:St} {H:Hp} {s:Shared} {C:Addr} {fp:List Addr} (I:Inv X pins σ H s) (hC:s.heap.objs.size≤C) (f2:∀ b∈fp,FpOk X pins H b) (fl:∀ b∈fp,b < s.heap.objs.size)
  (hkind:scope.kind=.function) (hcell:∀ p∈scope.names,p.2≠.cell) (hsub:∀ p∈cl,X.env.cells.lookup p.1=some p.2) (hhas:∀ p∈scope.names,p.2=.free→∃ c,cl.lookup p.1=some c) :
  (X.block (x :: caps) scope cl C fp s H).Ok where
 mod:=I.ok.mod
 kind:=hkind
 glob:=I.ok.glob
 blt:=I.ok.blt
 above:=hC
 inj:=fun a b c h1 h2=>I.ok.inj a b c (hsub _ (PySem.mem_of_lookup h1)) (hsub _ (PySem.mem_of_lookup h2))
 has:=fun a h=>by
  have h':(∃ k,(relabel scope X.env).names.lookup a=some k∧(k=.cell∨k=.free)):=by
   rcases h with h | h
   ·exact ⟨_,h,.inl rfl⟩
   ·exact ⟨_,h,.inr rfl⟩
  obtain ⟨k,h1,hk⟩:=h'
  obtain ⟨p,hp,e1,e2⟩:=J2c h1 hk hcell
  rw [← e1]
  exact hhas p hp e2
 cab:=fun _ _ h=>nomatch h
 hd:=I.ok.hd
 frames:=I.ok.frames
 stk:=.inl rfl
 exf:=fun b hb=>⟨Nat.ne_of_lt (Nat.lt_of_lt_of_le (fl b hb) hC),fun a c e=>(f2 b hb).2.2.2.2.1 a c (hsub _ (PySem.mem_of_lookup e))⟩
 bs:=I.bs
 bsz:=Nat.le_trans I.ok.bsz I.sz
 noex:=fun b o e hb=>by
  rcases (f2 b hb).2.2.2.1 with z | z
  ·exact I.ok.noex b o e z
  ·exact absurd (Nat.lt_of_lt_of_le (Heap.lt_size e) (Nat.le_trans I.ok.bsz z)) (Nat.lt_irrefl _)
 exfs:=fun b hb z=>by
  rcases List.mem_cons.mp (I.stkSub b z) with e | e
  ·exact (f2 b hb).2.1 e
  ·exact (f2 b hb).2.2.1 e
 funs:=I.stack
 frf:=I.stkFree
theorem ps_comp (hN:X.N.Nodup) (hi:X.N[i]?=some y) (hy:Loc X.env.scope y) (hc:X.calm=true) (hp:PI X (.Name x px) iter wi)
  (he:∀ (C:Addr) (fp:List Addr) (s:Shared) (H:Hp),PE (X.block (x :: caps) scope cl C fp s H) elt te)
  (hcell:∀ p∈scope.names,p.2≠.cell) (hnames:∀ p∈scope.names,p.2=.local→scope.names.lookup p.1=some .local) (hnd:(x :: caps).Nodup)
  (hsub:∀ p∈cl,X.env.cells.lookup p.1=some p.2) (hhas:∀ p∈scope.names,p.2=.free→∃ c,cl.lookup p.1=some c) (hlen:caps.length=js.length)
  (hcaps:∀ (k:Nat) (c:Str),caps[k]?=some c→∃ (j:Nat) (a:Addr),js[k]?=some j∧X.N[j]?=some c∧X.env.scope.names.lookup c=some .cell∧cl.lookup c=some a∧(relabel scope X.env).names.lookup c=some .cell)
  (hf:X.fn y=true∨X.env.scope.names.lookup y=some .local:=by first | exact .inl rfl | exact .inr rfl | assumption)
  (hsw:swapsWith (.ListComp elt [⟨.Name x px,iter,[],0⟩] scope pos) (some (.Name y py)) spos.line X.env=pure true:=by rfl) (hclos:closureFor scope X.env=pure cl:=by rfl)
  (hkind:scope.kind=.function:=by rfl) (hx:scope.names.lookup x=some .local:=by rfl) (hs:∀ v,foldedSetIterable iter X.env v=pure v:=by intro _;rfl) :
  PS X (.Assign [.Name y py] (.ListComp elt [⟨.Name x px,iter,[],0⟩] scope pos) spos) (tComp wi te js i):=by
 intro pins s σ H D I h
 rw [exec_Assign_Name_used _ _ _ _ hsw]
 refine wpAny_bind (wpAny_standAt (wpAny_bind ?_))
 show wpAny _ X.A (do let _ ← comprehension (.ListComp elt [⟨.Name x px,iter,[],0⟩] scope pos) scope X.env _ (newList []) false (eval iter X.env) (some (assign (.Name y py) X.env))) _ _ s
 refine wpAny_bind (wpAny_mono (wpAny_comprehension_free (cl:=cl) (use:=some (assign (.Name y py) X.env)) (Q:=fun _ s'=>SP X pins D .next s') rfl hs hclos hkind hnames
  (thn (hp pins s σ H _ I h) fun v s1 h1=>thn h1 fun itv s2 h2=>?_)) (fun _ s' hq=>wpAny_pure (wpAny_pure hq)) fun _ _ e=>e)
 obtain ⟨it,fp,tn,J,H2,e,I2,T,st2,f2,lo,n,f,rfl,hn,hel,hfin⟩:=h2
 subst e
 refine wpAny_newObj_type (wpAny_newFunctionEnv hcell (by intro y hy;simp at hy) (fun h₁ hns₁ hsb₁=>?_) hkind)
 dsimp only at hns₁ hsb₁ ⊢
 generalize hH2:s2.heap.push { cls:=.type "list",dict:=none,data:=.seq ([]:List Value).toArray }=G at hns₁ hsb₁ ⊢
 have hC:G.objs.size=s2.heap.objs.size + 1:=by rw [← hH2,Heap.size_push]
 have hDC:s2.heap.objs.size≠G.objs.size:=by rw [hC];exact Nat.ne_of_lt (Nat.lt_succ_self _)
 have hCle:s2.heap.objs.size≤G.objs.size:=by rw [hC];exact Nat.le_succ _
 have old:∀ b o,s2.heap.get? b=some o→h₁.get? b=some o:=fun b o e=>hsb₁.extBut b o (by rw [hC];exact Nat.ne_of_lt (Nat.lt_succ_of_lt (Heap.lt_size e))) (Heap.get?_push_of_some _ (hH2 ▸ Heap.get?_push_of_some _ e))
 have hacc:h₁.get? s2.heap.objs.size=some { cls:=.type "list",dict:=none,data:=.seq ([]:List Value).toArray }:=hsb₁.extBut _ _ hDC (Heap.get?_push_of_some _ (hH2 ▸ Heap.get?_push_size _ rfl))
 have hfr:H2 s2.heap.objs.size=none:=I2.hok.fresh (Nat.le_refl _)
 have fl:∀ b∈fp,b < s2.heap.objs.size:=fun b hb=>by
  obtain ⟨o,e,_⟩:=T.obj _ _ st2 b hb
  exact Heap.lt_size e
 have hDf:s2.heap.objs.size ∉ fp:=fun hm=>Nat.lt_irrefl _ (fl _ hm)
 have hok1:HOk X.prog X.w (upd H2 s2.heap.objs.size (.lst [])) h₁:=I2.hok.laid old (Nat.le_refl _) ⟨Nat.zero_le _,[],0,.nil,hacc⟩
 have IY0:∀ tk,Inv (X.block (x :: caps) scope cl G.objs.size fp s2 H2) [] (none :: capv σ js) (upd H2 s2.heap.objs.size (.lst [])) { s2 with heap:=h₁,toks:=tk }:=fun tk=>by
  refine ⟨J2u I2 hCle f2 fl hkind hcell hsub hhas,rfl,I2.bare,Un.laid old (Nat.le_refl _) hfr,⟨_,hns₁,fun k z v e1 e2 e3=>?_⟩,fun z c e=>?_,?_,fun z c e=>?_,fun p hp=>absurd hp (by simp),hok1,?_⟩
  ·cases k with
   | zero=>simp at e2
   | succ k =>
    have e1':caps[k]?=some z:=by simpa using e1
    have e2':(capv σ js)[k]?=some (some v):=by simpa using e2
    obtain ⟨j,a,q1,q2,q3,q4,q5⟩:=hcaps k z e1'
    obtain ⟨j',r1,r2⟩:=capv_get e2'
    rw [q1] at r1;cases r1
    obtain ⟨m,hm,hl⟩:=I2.loc
    obtain ⟨u,ru,lu⟩:=hl j z v q2 r2 (.inr (.inl q3))
    refine ⟨u,ru,.inr ⟨.inl q5,a,q4,?_⟩⟩
    rcases lu with ⟨k1,_⟩ | ⟨_,c,ec,o,ho,hd⟩
    ·have k1':X.env.scope.names.lookup z=some .local:=k1
     rw [q3] at k1';cases k1'
    ·have:=hsub _ (PySem.mem_of_lookup q4)
     rw [ec] at this;cases this
     exact ⟨o,old _ _ ho,hd⟩
  ·obtain ⟨v,o,ho,hd⟩:=I2.cell z c (hsub _ (PySem.mem_of_lookup e))
   exact ⟨v,o,old _ _ ho,hd⟩
  ·show upd H2 s2.heap.objs.size (.lst []) G.objs.size=none
   rw [Jd hDC.symm]
   exact I2.hok.fresh hCle
  ·have ec:=hsub _ (PySem.mem_of_lookup e)
   obtain ⟨v,o,ho,hd⟩:=I2.cell z c ec
   rw [Jd (Nat.ne_of_lt (Heap.lt_size ho))]
   exact I2.freeC z c ec
  ·show (none :: capv σ js).length=(x :: caps).length
   unfold capv
   simp [hlen]
 have stat:∀ {H':Hp},(∀ b∈fp,H' b=none)→∀ b∈fp,FpOk (X.block (x :: caps) scope cl G.objs.size fp s2 H2) [] H' b:=fun hn b hb =>
  ⟨hn b hb,Nat.ne_of_lt (Nat.lt_of_lt_of_le (fl b hb) hCle),(J2u (x:=x) (caps:=caps) I2 hCle f2 fl hkind hcell hsub hhas).exfs b hb,.inl hb,fun z c e=>(f2 b hb).2.2.2.2.1 z c (hsub _ (PySem.mem_of_lookup e)),fun p hp=>absurd hp (by simp)⟩
 have fpn:∀ ys,∀ b∈fp,upd H2 s2.heap.objs.size (.lst ys) b=none:=fun ys b hb=>by
  rw [Jd (show b≠s2.heap.objs.size from fun e=>hDf (by rw [← e];exact hb))]
  exact (f2 b hb).1
 have hxl:(relabel scope X.env).names.lookup x=some .local:=lookup_relabel_local hx
 have fin:∀ (s5:Shared) (σ5:St),Inv (X.block (x :: caps) scope cl G.objs.size fp s2 H2) [] σ5 (upd H2 s2.heap.objs.size (.lst ((List.range n).map f))) s5→
   compPost (model X.prog X.w) X.A X.xe (some (assign (.Name y py) X.env)) (fun _ s'=>SP X pins D .next s') (.ref s2.heap.objs.size) G.objs.size (.ok .next) s5:=fun s5 σ5 I5=>by
  have J5:Inv X pins σ (upd H2 s2.heap.objs.size (.lst ((List.range n).map f))) s5:=I2.call' (ch:=fp) I5.os I5.base I5.hok I5.bare fun b hb=>⟨(f2 b hb).2.2.2.1,(f2 b hb).2.1,(f2 b hb).2.2.2.2.1,(f2 b hb).2.2.2.2.2⟩
  have hnsC:∃ m,s5.heap.Ns G.objs.size m:=let ⟨m,q,_⟩:=I5.loc;⟨m,q⟩
  obtain ⟨mC,nsC⟩:=hnsC
  show wpAny _ X.A (assign (.Name y py) X.env (.ref s2.heap.objs.size)) _ _ s5
  refine wpAny_assign_Name ?_
  refine J2h J5 hN hi hy (v:=.ref s2.heap.objs.size) rfl (fun s6 I6 keep6=>?_) hf
  obtain ⟨a,sa,ha⟩:=keep6
  have hLt:X.env.locals < s2.heap.objs.size:=I2.lt
  have aC:a≠G.objs.size:=by
   rcases ha with e | e
   ·rw [e];exact Nat.ne_of_lt (Nat.lt_of_lt_of_le hLt hCle)
   ·obtain ⟨v,o,ho,_⟩:=I2.cell y a e
    exact Nat.ne_of_lt (Nat.lt_of_lt_of_le (Heap.lt_size ho) hCle)
  refine ⟨mC,nsC.sameBut sa (Ne.symm aC),fun h' hs'=>?_⟩
  have hCn:upd H2 s2.heap.objs.size (.lst ((List.range n).map f)) G.objs.size=none:=by
   rw [Jd hDC.symm]
   exact I2.hok.fresh hCle
  have I7:=I6.turned (h':=h') (t':=s6.toks) (it:=G.objs.size) (fun b o hb e=>(hs'.2 b hb).trans e) hCn (Nat.ne_of_gt (Nat.lt_of_lt_of_le hLt hCle)) (.inr (Nat.le_trans I2.sz hCle))
   (fun z c e=>by
    obtain ⟨v,o,ho,_⟩:=I2.cell z c e
    exact Nat.ne_of_lt (Nat.lt_of_lt_of_le (Heap.lt_size ho) hCle))
   (fun p hp=>Nat.ne_of_lt (Nat.lt_of_lt_of_le (Heap.lt_size (I2.pin p hp).1) hCle))
  exact ⟨_,_,I7,hfin _ hfr⟩
 have loop:∀ tk,codeAny (model X.prog X.w) X.A (.compLoop (.ListComp elt [⟨.Name x px,iter,[],0⟩] scope pos) 0 (.ref it) (.ref s2.heap.objs.size) (compEnvC scope cl G.objs.size X.env))
   (compPost (model X.prog X.w) X.A X.xe (some (assign (.Name y py) X.env)) (fun _ s'=>SP X pins D .next s') (.ref s2.heap.objs.size) G.objs.size) { s2 with heap:=h₁,toks:=tk }:=fun tk=>by
  refine J1d (fun m s'=>∃ (k:Nat) (o:Option V),m=n - k∧k≤n∧Inv (X.block (x :: caps) scope cl G.objs.size fp s2 H2) [] (o :: capv σ js) (upd H2 s2.heap.objs.size (.lst ((List.range k).map f))) s'∧tn k s'.heap) ?_ n
   ⟨0,none,rfl,Nat.zero_le _,IY0 tk,T.keep _ _ _ st2 fun b hb o e=>old b o e⟩
  rintro m s3 ⟨k,o,rfl,hk,I3,st3⟩
  by_cases hlt:k < n
  ·refine thn (T.item (X.block (x :: caps) scope cl G.objs.size fp s2 H2) rfl rfl rfl hc k [] s3 _ _ (fun _ _=>False) I3 (stat (fpn _)) st3 hlt) fun r s4 ⟨u,hr,h4⟩=>?_
   subst hr
   refine thn h4 fun _ s5 ⟨v,H5,I5,r5,y5,st5,fr5⟩=>?_
   obtain ⟨rfl,rfl⟩:=y5
   have I5':=I5.pinned (stat fr5) (T.obj _ _ st5)
   refine thn (J33 (X:=X.block (x :: caps) scope cl G.objs.size fp s2 H2) (i:=0) (pos:=px) hnd rfl (.inl hxl) (.inr hxl) _ s5 _ _ _ u
    (fun σ' H'=>σ'=some (.int (lo + k)) :: capv σ js∧H'=upd H2 s2.heap.objs.size (.lst ((List.range k).map f))) I5' r5 ⟨rfl,rfl⟩) fun _ s6 ⟨σ6,H6,I6,q6⟩=>?_
   obtain ⟨rfl,rfl⟩:=q6
   refine thn (he _ _ _ _ _ s6 _ _ _ I6 (hel s2.heap.objs.size _ k hfr hlt rfl)) fun u7 s7 ⟨v7,H7,I7,r7,q7⟩=>?_
   obtain ⟨rfl,rfl⟩:=q7
   have hz:((List.range k).map f).length < sizeLine:=by
    rw [List.length_map,List.length_range]
    exact Jx (by omega)
   refine thn (J2n (X:=X.block (x :: caps) scope cl G.objs.size fp s2 H2) _ s7 _ _ (.ref s2.heap.objs.size) [f k] (.ref s2.heap.objs.size) [u7]
    (fun _ H'=>H'=upd (upd H2 s2.heap.objs.size (.lst ((List.range k).map f))) s2.heap.objs.size (.lst ((List.range k).map f ++ [f k]))) I7 rfl (.cons r7 .nil) ⟨s2.heap.objs.size,_,f k,rfl,rfl,J2,hz,rfl⟩) fun _ s8 ⟨_,H8,I8,_,q8⟩=>?_
   subst q8
   have eH:upd (upd H2 s2.heap.objs.size (.lst ((List.range k).map f))) s2.heap.objs.size (.lst ((List.range k).map f ++ [f k]))=upd H2 s2.heap.objs.size (.lst ((List.range (k + 1)).map f)):=by
    rw [upd_upd,List.range_succ,List.map_append,List.map_singleton]
   rw [eH] at I8
   refine ⟨n - (k + 1),by omega,k + 1,_,rfl,hlt,I8.unpinned,T.keep _ _ _ st5 fun b hb o e=>(I8.pin (b,o) (List.mem_append_right _ (List.mem_append_right _ (J10 hb e)))).1⟩
  ·have ek:k=n:=by omega
   subst ek
   refine thn (T.done (X.block (x :: caps) scope cl G.objs.size fp s2 H2) rfl rfl rfl hc k [] s3 _ _ (fun _ _=>False) I3 (stat (fpn _)) st3 (Nat.le_refl _)) fun r s4 ⟨hr,I4⟩=>?_
   subst hr
   exact fin s4 _ I4
 have st1:tn 0 h₁:=T.keep _ _ _ st2 fun b hb o e=>old b o e
 exact codeAny_compStart_list (loop _) (T.self X.A 0 _ _ _ st1 (loop _))
end
theorem ps_compB {X:Cx} {elt iter:Expr} {x y:Str} {px py:Pos} {scope:Scope} {cl:List (Str × Addr)} {pos spos:Pos} {wi:TI} {te:TE} {i:Nat} (caps:List Str) (js:List Nat)
  (hN:X.N.Nodup) (hi:X.N[i]?=some y) (hy:Loc X.env.scope y) (hc:X.calm=true) (hp:PI X (.Name x px) iter wi) (hclos:closureFor scope X.env=pure cl)
  (he:∀ (C:Addr) (fp:List Addr) (s:Shared) (H:Hp),PE (X.block (x :: caps) scope cl C fp s H) elt te)
  (hcell:∀ p∈scope.names,p.2≠.cell) (hnames:∀ p∈scope.names,p.2=.local→scope.names.lookup p.1=some .local) (hnd:(x :: caps).Nodup)
  (hsub:∀ p∈cl,X.env.cells.lookup p.1=some p.2)
  (hhas:(scope.names.all fun p=>p.2 != .free || (cl.lookup p.1).isSome)=true:=by rfl) (hlen:caps.length=js.length:=by rfl)
  (hcaps:((caps.zip js).all fun q=>X.N[q.2]? == some q.1 && X.env.scope.names.lookup q.1 == some .cell && (cl.lookup q.1).isSome && (relabel scope X.env).names.lookup q.1 == some .cell)=true:=by rfl)
  (hf:X.fn y=true∨X.env.scope.names.lookup y=some .local:=by first | exact .inl rfl | exact .inr rfl | assumption)
  (hsw:swapsWith (.ListComp elt [⟨.Name x px,iter,[],0⟩] scope pos) (some (.Name y py)) spos.line X.env=pure true:=by rfl)
  (hkind:scope.kind=.function:=by rfl) (hx:scope.names.lookup x=some .local:=by rfl) (hs:∀ v,foldedSetIterable iter X.env v=pure v:=by intro _;rfl) :
  PS X (.Assign [.Name y py] (.ListComp elt [⟨.Name x px,iter,[],0⟩] scope pos) spos) (tComp wi te js i):=by
 refine ps_comp (caps:=caps) (js:=js) hN hi hy hc hp he hcell hnames hnd hsub (fun p hp' e=>?_) hlen (fun k c hk=>?_) hf hsw hclos hkind hx hs
 ·have:=List.all_eq_true.mp hhas p hp'
  rw [e] at this
  exact Option.isSome_iff_exists.mp (by simpa using this)
 ·have hkl:k < caps.length:=(List.getElem?_eq_some_iff.mp hk).1
  have hj:js[k]?=some (js[k]'(hlen ▸ hkl)):=List.getElem?_eq_getElem (hlen ▸ hkl)
  have hm:(c,js[k]'(hlen ▸ hkl))∈caps.zip js:=by
   refine List.mem_iff_getElem?.mpr ⟨k,?_⟩
   rw [List.getElem?_zip_eq_some]
   exact ⟨hk,hj⟩
  have:=List.all_eq_true.mp hcaps _ hm
  simp only [Bool.and_eq_true,beq_iff_eq] at this
  obtain ⟨⟨⟨q1,q2⟩,q3⟩,q4⟩:=this
  obtain ⟨a,ha⟩:=Option.isSome_iff_exists.mp q3
  exact ⟨_,a,hj,q1,q2,ha,q4⟩
section
variable {X:Cx}
def rInsert:V→List V→Hp→VK→Prop:=fun x vs H Q=>∃ (l:Addr) (xs:List V) (k:Nat) (y:V),x=.ref l∧vs=[.int k,y]∧H l=some (.lst xs)∧k≤xs.length∧xs.length < sizeLine∧Q .non (upd H l (.lst (xs.take k ++ y :: xs.drop k)))
theorem mt_insert:MtM X "list.insert" rInsert:=by
 intro pins s σ H x vs v us Q I rx rv h
 obtain ⟨l,xs,k,y,rfl,rfl,hH,hk,hz,q⟩:=h
 cases rx
 obtain ⟨u1,u2,rfl,⟨t,rfl⟩,r2⟩:=rv.two
 obtain ⟨z,its,n,r,hl,e⟩:=I.lstM hH
 have hn:=J3k
 obtain ⟨x,hx⟩:∃ x:Int,x=(k:Int):=⟨_,rfl⟩
 rw [← hx]
 have hfit:¬ (!Builtin.List.listFitsIndex x)=true:=by
  rw [fitsIndex_both (by omega) (by omega)]
  exact Bool.false_ne_true
 have hsz:its.toArray.size≤sizeLine:=by rw [List.size_toArray,← hl];exact z
 refine call_meets F.slot_list_insert ⟨_,e,rfl⟩ F.entry_list_insert (F.args_list_insert_3 _ _ _) (PySem.AutoSeq1.list_insert_list_int_val_1 l its.toArray n x t u2 hfit hsz) ⟨e,?_⟩
 refine ⟨.non,_,I.lset (its':=its.take k ++ u2 :: its.drop k) hH e ?_ ((r.take k).append (.cons r2 (r.drop k))) ?_,rfl,q⟩
 ·have e1:(if x < 0 then (x + (its.toArray.size:Int)).toNat else min x.toNat its.toArray.size)=k:=by
   rw [if_neg (by omega),List.size_toArray]
   omega
  dsimp only
  rw [e1]
  apply Array.ext'
  simp
  rw [List.take_of_length_le (by rw [List.length_drop];exact Nat.le_refl _)]
 ·rw [List.length_append,List.length_cons,List.length_take,List.length_drop]
  omega
end
section
variable {X:Cx}
abbrev SqI (K:PySem.W.Frag) (H:Hp) (p:Addr) (xs:List V):Prop:=SqL K H p xs∨SqT K H p xs
theorem J2q {its:List Value} {ns:List Int} (hi:IntsAre its ns):∃ xs:Array (Int × Tok),its.toArray=intItems xs∧preSum (numAt xs) xs.size=ns.sum∧ns=xs.toList.map (·.1):=by
 obtain ⟨xs,hx⟩:=hi.allInts.items
 have e1:ns=xs.toList.map (·.1):=by
  rw [← nums_intItems,← hx]
  exact (show numsOf its.toArray.toList=ns from hi.numsOf).symm
 refine ⟨xs,hx,?_,e1⟩
 rw [preSum_eq,List.take_of_length_le (by simp),e1]
theorem J2t (hc:X.calm=true):CallR X (.builtin "sum") (fun xs H Q=>∃ (p:Addr) (ns:List Int),xs=[.ref p]∧SqI X.K H p (ns.map V.int)∧Q (.int ns.sum) H):=by
 intro pins s σ H xs us Q I r h
 obtain ⟨p,ns,rfl,hq,q⟩:=h
 obtain ⟨u,rfl,rx⟩:=vals1 r
 cases rx
 have hh:=I.ok.hd hc
 rcases hq with hq | hq
 ·obtain ⟨its,r',pl,hz⟩:=I.list hq
  obtain ⟨xs,hx,e2,_⟩:=J2q (Jw r')
  refine sum_intListG hh (hx ▸ pl.isList) fun h' tk t' hk=>?_
  rw [e2]
  exact ⟨.int ns.sum,H,I.kept hk,⟨t',rfl⟩,q⟩
 ·obtain ⟨its,r',pl,hz⟩:=I.tuple hq
  obtain ⟨xs,hx,e2,_⟩:=J2q (Jw r')
  refine PySem.W.ktm_sumG hh (hx ▸ (show s.heap.IsTuple p its.toArray from pl)) fun h' tk t' hk=>?_
  rw [e2]
  exact ⟨.int ns.sum,H,I.kept hk,⟨t',rfl⟩,q⟩
theorem J3i {prog:Program} {w:World} {A:Around} {E:Value→Shared→Prop} {s:Shared} {l:Addr} {xs:Array (Int × Tok)} {Q:Value→Shared→Prop} (hh:A.handled=none) (ht:s.heap.IsTuple l (intItems xs)) (hne:0 < xs.size)
  (h:∀ v h' tk,(intItems xs)[argBest (fun i j=>decide (numAt xs i < numAt xs j)) (xs.size - 1)]?=some v→(∀ b o,s.heap.get? b=some o→h'.get? b=some o)→Q v { s with heap:=h',toks:=tk }) :
  wpAny (model prog w) A (call (.builtin "min") [.ref l]) Q E s:=by
 obtain ⟨o,ho,hc,n,hd⟩:=id ht
 have hne':l≠s.heap.objs.size:=Nat.ne_of_lt (Heap.lt_size ho)
 refine call_min_walk (wpAny_pyIter_tuple ht ?_)
 refine ⟨s.heap.objs.size,_,_,_,_,_,_,rfl,Walks.tuple (A:=A.in1) hh _ l hne' (intItems xs),⟨⟨_,Heap.get?_push_size _ rfl,rfl,rfl⟩,ht.at fun o e=>Heap.get?_push_of_some _ e⟩,fun b hb=>?_,by simpa [intItems] using hne,CmpOf.ints_lt (numAt xs) (fun _ _=>intItems_at),fun v h' tk hP hk=>?_⟩
 ·rcases List.mem_cons.mp hb with rfl | hb
  ·exact Heap.lt_size (Heap.get?_push_size _ rfl)
  ·obtain rfl:=List.mem_singleton.mp hb
   exact Heap.lt_size (Heap.get?_push_of_some _ ho)
 ·refine h v h' tk (by simpa [intItems] using hP) fun b o e=>hk b o (fun hb=>absurd (Heap.lt_size e) ((List.mem_singleton.mp hb) ▸ Nat.lt_irrefl _)) (Heap.get?_push_of_some _ e)
theorem best_min {ns:List Int} {xs:Array (Int × Tok)} (hns:ns=xs.toList.map (·.1)) (hsz:0 < xs.size) :
  numAt xs (argBest (fun i j=>decide (numAt xs i < numAt xs j)) (xs.size - 1))∈ns∧∀ a∈ns,numAt xs (argBest (fun i j=>decide (numAt xs i < numAt xs j)) (xs.size - 1))≤a:=by
 obtain ⟨h1,h2⟩:=argBest_lt (numAt xs) (xs.size - 1)
 refine ⟨?_,fun a ha=>?_⟩
 ·rw [hns,numAt_eq];exact getD_mem (by rw [List.length_map,Array.length_toList];omega)
 ·rw [hns] at ha
  obtain ⟨j,hj,rfl⟩:=mem_getD ha
  rw [List.length_map,Array.length_toList] at hj
  rw [← numAt_eq];exact h2 j (by omega)
theorem call_min (hc:X.calm=true):CallR X (.builtin "min") (fun xs H Q=>∃ (p:Addr) (ns:List Int),xs=[.ref p]∧SqI X.K H p (ns.map V.int)∧0 < ns.length∧∀ M,M∈ns→(∀ a∈ns,M≤a)→Q (.int M) H):=by
 intro pins s σ H xs us Q I r h
 obtain ⟨p,ns,rfl,hq,hne,q⟩:=h
 obtain ⟨u,rfl,rx⟩:=vals1 r
 cases rx
 have hh:=I.ok.hd hc
 rcases hq with hq | hq
 ·obtain ⟨its,r',pl,hz⟩:=I.list hq
  obtain ⟨xs,hx,_,e1⟩:=J2q (Jw r')
  have hsz:0 < xs.size:=by rw [e1,List.length_map,Array.length_toList] at hne;exact hne
  refine min_intList hh (hx ▸ pl.isList) hsz fun v h' tk hv hk=>?_
  obtain ⟨t,rfl⟩:=intItems_at hv
  obtain ⟨b1,b2⟩:=best_min e1 hsz
  exact ⟨.int _,H,I.kept hk,⟨t,rfl⟩,q _ b1 b2⟩
 ·obtain ⟨its,r',pl,hz⟩:=I.tuple hq
  obtain ⟨xs,hx,_,e1⟩:=J2q (Jw r')
  have hsz:0 < xs.size:=by rw [e1,List.length_map,Array.length_toList] at hne;exact hne
  refine J3i hh (hx ▸ (show s.heap.IsTuple p its.toArray from pl)) hsz fun v h' tk hv hk=>?_
  obtain ⟨t,rfl⟩:=intItems_at hv
  obtain ⟨b1,b2⟩:=best_min e1 hsz
  exact ⟨.int _,H,I.kept hk,⟨t,rfl⟩,q _ b1 b2⟩
end
end L2
namespace L2
open PySem PySem.Spec PyProof.Rows
section
variable {prog:Program} {w:World} {A:Around} {E:Value→Shared→Prop} {s:Shared}
theorem J38 {l:Addr} {vs:List Value} {Q:List Value→Shared→Prop} (hl:s.heap.IsTuple l vs.toArray)
  (h:Q vs { s with heap:=(s.heap.push (seqObj "list" #[] 0)).update s.heap.objs.size (Obj.mapSeq (· ++ vs.toArray)) }) (hsz:vs.length≤sizeLine) :
  wpAny (model prog w) A (collect (.ref l)) Q E s:=by
 obtain ⟨o,ho,hc,n,hd⟩:=id hl
 unfold collect
 refine wpAny_bind (wpAny_runValue (codeAny_builtin entry_proto_collect' ?_))
 show wpAny _ _ (do again (.builtin "list.__iadd__" ⟨[← newList [],.ref l],[]⟩)) _ _ s
 refine wpAny_bind (wpAny_newList (wpAny_pure ⟨Code.quiet_builtin _ (by decide +kernel),codeAny_builtin entry_list_iadd' ?_⟩))
 show wpAny _ _ (Builtin.List.listExtendWith (.ref s.heap.objs.size) (.ref l) (.ref s.heap.objs.size)) _ _ { s with heap:=s.heap.push (seqObj "list" #[] 0) }
 unfold Builtin.List.listExtendWith
 have ho':(s.heap.push (seqObj "list" #[] 0)).get? l=some o:=Heap.get?_push_of_some _ ho
 refine wpAny_bind (wpAny_typeOf (T:="tuple") ⟨o,ho',hc⟩ ?_)
 have ht:(Value.type "tuple" == Value.type "tuple")=true:=by rfl
 rw [if_pos (by rw [ht];simp)]
 refine wpAny_bind (listItems_at ho' hd ?_)
 refine wpAny_bind (listItems_at (xs:=#[]) (n:=0) (Heap.get?_push_size _ rfl) rfl ?_)
 rw [if_neg (by simp)]
 refine wpAny_bind (listUpdate_at (xs:=#[]) (n:=0) (Heap.get?_push_size _ rfl) rfl ?_ (Nat.zero_le _) (by show (#[] ++ vs.toArray).size≤sizeLine + 1;simp only [Array.size_append,List.size_toArray,List.length_nil];omega))
 refine wpAny_pure ?_
 show wpAny (model prog w) A (do
   let o ← load s.heap.objs.size
   match o.data with
   | .seq xs _=>pure xs.toList
   | _=>unsupported "internal:collect") Q E { s with heap:=(s.heap.push (seqObj "list" #[] 0)).update s.heap.objs.size (Obj.mapSeq (· ++ vs.toArray)) }
 refine wpAny_bind (wpAny_load (get?_update_seq (Heap.get?_push_size _ rfl) _) ?_)
 show wpAny _ _ (pure ((#[]:Array Value) ++ vs.toArray).toList) Q E _
 rw [show ((#[]:Array Value) ++ vs.toArray).toList=vs by simp]
 exact wpAny_pure h
theorem J3c {l:Addr} {vs:List Value} {ns:List Int} {Q:Value→Shared→Prop} (hl:s.heap.IsTuple l vs.toArray) (hI:IntsAre vs ns) (h64:vs.length < 64)
  (h:∀ (out:Array Value) (ns':List Int),IntsAre out.toList ns'→ns'.Perm ns→ns'.Pairwise (·≤·)→Q (.ref (s.heap.objs.size + 1)) { s with heap:=sortedAll s.heap vs out }) :
  wpAny (model prog w) A (call (.builtin "sorted") [.ref l]) Q E s:=by
 refine Calls.call_function_entry kind_sorted plain_sorted entry_sorted (args_sorted1 _) ?_
 unfold Builtin.«sorted»
 refine wpAny_bind (m:=checkCount "sorted" 1 1 _) (wpAny_pure ?_)
 refine wpAny_bind (J38 hl ?_ (Nat.le_of_lt (Nat.lt_of_lt_of_le h64 (by rw [sizeLine_eq];decide))))
 refine wpAny_bind (wpAny_newList ?_)
 have hsz:((s.heap.push (seqObj "list" #[] 0)).update s.heap.objs.size (Obj.mapSeq (· ++ vs.toArray))).objs.size=s.heap.objs.size + 1:=by
  rw [Heap.size_update,size_push']
 have hoL:(((s.heap.push (seqObj "list" #[] 0)).update s.heap.objs.size (Obj.mapSeq (· ++ vs.toArray))).push (seqObj "list" vs.toArray 0)).get? (s.heap.objs.size + 1)=some (seqObj "list" vs.toArray 0):=by
  rw [← hsz];exact Heap.get?_push_size _ rfl
 show wpAny _ _ _ _ _ { s with heap:=((s.heap.push (seqObj "list" #[] 0)).update s.heap.objs.size (Obj.mapSeq (· ++ vs.toArray))).push (seqObj "list" vs.toArray 0) }
 rw [hsz]
 refine wpAny_bind (wpAny_holding (wpAny_call_entry slot_list_sort ⟨_,hoL,rfl⟩ entry_list_sort (list_sort_tree hoL hI h64 fun out ns' a1 a2 a3=>⟨_,rfl,?_⟩) (args_list_sort _)))
 exact wpAny_pure ⟨_,rfl,h out ns' a1 a2 a3⟩
end
section
variable {X:Cx}
theorem call_sorted:CallR X (.builtin "sorted") (fun xs H Q=>∃ (p:Addr) (ns:List Int),xs=[.ref p]∧SqI X.K H p (ns.map V.int)∧ns.length < 64∧∀ l (ns':List Int),H l=none→ns'.Perm ns→ns'.Pairwise (·≤·)→Q (.ref l) (upd H l (.lst (ns'.map V.int)))):=by
 intro pins s σ H xs us Q I r h
 obtain ⟨p,ns,rfl,hq,h64,q⟩:=h
 obtain ⟨u,rfl,rx⟩:=vals1 r
 cases rx
 have fin:∀ (its:List Value) (out:Array Value) (ns':List Int),IntsAre out.toList ns'→ns'.Perm ns→ns'.Pairwise (·≤·)→EP X pins σ Q (.ref (s.heap.objs.size + 1)) { s with heap:=sortedAll s.heap its out }:=fun its out ns' a1 a2 a3=>by
  obtain ⟨e,he⟩:=sortedAll_at s.heap its out
  have hz:(ns'.map V.int).length≤sizeLine:=by
   rw [List.length_map,a2.length_eq]
   exact Nat.le_of_lt (Jx (by omega))
  refine ⟨.ref _,_,I.laid (t':=s.toks) (a:=s.heap.objs.size + 1) (o:=.lst (ns'.map V.int)) (fun b o e=>sortedAll_old e) (Nat.le_succ _) ⟨hz,out.toList,e,J2g a1,he⟩,rfl,q _ ns' (I.hok.fresh (Nat.le_succ _)) a2 a3⟩
 rcases hq with hq | hq
 ·obtain ⟨its,r',pl,hz⟩:=I.list hq
  have hl:=r'.length
  rw [List.length_map] at hl
  exact sorted_ints pl.isList (Jw r') (by omega) (fin its)
 ·obtain ⟨its,r',pl,hz⟩:=I.tuple hq
  have hl:=r'.length
  rw [List.length_map] at hl
  exact J3c (show s.heap.IsTuple p its.toArray from pl) (Jw r') (by omega) (fin its)
theorem call_rng:CallR X (.type "range") (fun xs H Q=>∃ j:Int,xs=[.int j]∧∀ r,H r=none→Q (.ref r) (upd H r (.rng 0 j))):=by
 intro pins s σ H xs us Q I r h
 obtain ⟨j,rfl,q⟩:=h
 obtain ⟨u,rfl,t,rfl⟩:=vals1 r
 refine call_range_1 ?_
 exact ⟨.ref s.heap.objs.size,_,I.laid (o:=.rng 0 j) (fun b o e=>Heap.get?_push_of_some _ e) (Nat.le_refl _) ⟨_,_,_,Heap.get?_push_size _ rfl⟩,rfl,q _ (I.hok.fresh (Nat.le_refl _))⟩
theorem J2v {f:Nat→Int}:∀ {n:Nat} {us:List Value},us.length=n→(∀ (i:Nat) (v:Value),us[i]?=some v→∃ t,v=Value.int (f i) t)→Vals ((List.range n).map fun i=>V.int (f i)) us:=by
 intro n us hl h
 induction n generalizing f us with
 | zero=>cases us with
  | nil=>exact .nil
  | cons a r=>simp at hl
 | succ n ih=>cases us with
  | nil=>simp at hl
  | cons a r =>
   obtain ⟨t,e⟩:=h 0 a rfl
   subst e
   rw [List.range_succ_eq_map,List.map_cons,List.map_map]
   exact .cons ⟨t,rfl⟩ (ih (f:=fun i=>f (i + 1)) (by simpa using hl) fun i v e=>h (i + 1) v (by simpa using e))
theorem J1q (hc:X.calm=true):CallR X (.type "list") (fun xs H Q=>∃ (r:Addr) (n:Nat),xs=[.ref r]∧H r=some (.rng 0 (n:Int))∧n≤1000∧∀ l,H l=none→Q (.ref l) (upd H l (.lst (((List.range n).map fun (i:Nat)=>(i:Int)).map V.int)))):=by
 intro pins s σ H xs us Q I r h
 obtain ⟨p,n,rfl,hq,hn,q⟩:=h
 simp only [List.map_map,Function.comp_def] at q
 obtain ⟨u,rfl,rx⟩:=vals1 r
 cases rx
 obtain ⟨t,u,v,e⟩:=I.hok p _ hq
 refine call_list_range (I.ok.hd hc) (show IsRange s.heap p 0 (n:Int) 1 t u v from e) (small_one (by omega) (by omega) (by omega) (by omega)) (by rw [rangeSize_one];split <;> omega) (n:=n) (by omega) fun h' tk acc' c' hk hS' hacc=>?_
 have hv:Vals ((List.range n).map fun (i:Nat)=>V.int (i:Int)) acc'.toList:=J2v (by rw [Array.length_toList];exact hacc.1) fun i v e=>by
  obtain ⟨t,rfl⟩:=hacc.2 i v (by simpa using e)
  exact ⟨t,by simp⟩
 refine ⟨.ref s.heap.objs.size,_,I.laid (o:=.lst ((List.range n).map fun (i:Nat)=>V.int (i:Int))) hk (Nat.le_refl _) ⟨?_,acc'.toList,c',hv,by simpa using hS'⟩,rfl,q _ (I.hok.fresh (Nat.le_refl _))⟩
 rw [List.length_map,List.length_range]
 exact Nat.le_of_lt (Jx hn)
def Kin (xs ys:List V):Prop:=∀ a∈xs,∀ b∈ys,flatV a=true∧flatV b=true∧eqV a b=decide (a=b)
theorem Kin.ints (ns ms:List Int):Kin (ns.map V.int) (ms.map V.int):=fun a ha b hb=>by
 obtain ⟨i,_,rfl⟩:=List.mem_map.mp ha
 obtain ⟨j,_,rfl⟩:=List.mem_map.mp hb
 refine ⟨rfl,rfl,?_⟩
 show (i == j)=decide (V.int i=V.int j)
 by_cases e:i=j
 ·subst e;simp
 ·rw [decide_eq_false (fun h=>e (V.int.inj h))];simpa using e
theorem Kin.bls (ns ms:List Bool):Kin (ns.map V.bl) (ms.map V.bl):=fun a ha b hb=>by
 obtain ⟨i,_,rfl⟩:=List.mem_map.mp ha
 obtain ⟨j,_,rfl⟩:=List.mem_map.mp hb
 refine ⟨rfl,rfl,?_⟩
 show (i == j)=decide (V.bl i=V.bl j)
 cases i <;> cases j <;> rfl
def eAt (xs ys:List V) (j:Nat):Bool:=match xs[j]?,ys[j]? with
 | some a,some b=>eqV a b
 | _,_=>true
theorem all_eAt {xs ys:List V} (hl:xs.length=ys.length) (hk:Kin xs ys):((List.range xs.length).all (eAt xs ys))=decide (xs=ys):=by
 rw [Bool.eq_iff_iff,List.all_eq_true,decide_eq_true_iff]
 constructor
 ·intro h
  apply List.ext_getElem?
  intro j
  by_cases hj:j < xs.length
  ·have h1:xs[j]?=some xs[j]:=List.getElem?_eq_getElem hj
   have h2:ys[j]?=some (ys[j]'(hl ▸ hj)):=List.getElem?_eq_getElem (hl ▸ hj)
   have:=h j (List.mem_range.mpr hj)
   unfold eAt at this
   rw [h1,h2] at this
   have k:=(hk _ (List.getElem_mem hj) _ (List.getElem_mem (hl ▸ hj))).2.2
   have this:eqV xs[j] (ys[j]'(hl ▸ hj))=true:=this
   rw [k,decide_eq_true_iff] at this
   rw [h1,h2,this]
  ·rw [List.getElem?_eq_none (by omega),List.getElem?_eq_none (by omega)]
 ·rintro rfl j hj
  have hj':=List.mem_range.mp hj
  unfold eAt
  rw [List.getElem?_eq_getElem hj']
  have k:=(hk _ (List.getElem_mem hj') _ (List.getElem_mem hj')).2.2
  show eqV _ _=true
  rw [k];simp
theorem eAt_at {A:Around} {s:Shared} {xs ys:List V} {its its2:List Value} (r:Vals xs its) (r2:Vals ys its2) (hk:Kin xs ys) (j:Nat) (h1:j < its.toArray.size) (h2:j < its2.toArray.size):SeqAt.EqAt A s its.toArray[j] its2.toArray[j] (eAt xs ys j):=by
 have l1:=r.length
 have l2:=r2.length
 rw [List.size_toArray] at h1 h2
 have g1:xs[j]?=some (xs[j]'(by omega)):=List.getElem?_eq_getElem (by omega)
 have g2:ys[j]?=some (ys[j]'(by omega)):=List.getElem?_eq_getElem (by omega)
 obtain ⟨u,e1,ru⟩:=r.get g1
 obtain ⟨v,e2,rv⟩:=r2.get g2
 have e1':its.toArray[j]=u:=by
  have:=List.getElem?_eq_getElem h1
  rw [e1] at this
  simpa using (Option.some.inj this).symm
 have e2':its2.toArray[j]=v:=by
  have:=List.getElem?_eq_getElem h2
  rw [e2] at this
  simpa using (Option.some.inj this).symm
 obtain ⟨f1,f2,_⟩:=hk _ (List.getElem_mem (by omega:j < xs.length)) _ (List.getElem_mem (by omega:j < ys.length))
 unfold eAt
 rw [g1,g2,e1',e2']
 exact eqAt_V ru rv f1 f2
def rEqL (K:PySem.W.Frag):R2:=fun x y H Q=>∃ p q xs ys,x=.ref p∧y=.ref q∧SqL K H p xs∧SqL K H q ys∧Kin xs ys∧Q (.bl (decide (xs=ys))) H
def rNeL (K:PySem.W.Frag):R2:=fun x y H Q=>∃ p q xs ys,x=.ref p∧y=.ref q∧SqL K H p xs∧SqL K H q ys∧Kin xs ys∧Q (.bl (!decide (xs=ys))) H
theorem op_eqL (hu:X.A.units < cLine):OpR X (compareOp .Eq) (rEqL X.K):=by
 intro pins s σ H x y v u Q I rx ry h
 obtain ⟨p,q,xs,ys,rfl,rfl,hp,hq,hk,hQ⟩:=h
 cases rx
 cases ry
 obtain ⟨its,r,pl,_⟩:=I.list hp
 obtain ⟨its2,r2,pl2,_⟩:=I.list hq
 have l1:=r.length
 have l2:=r2.length
 by_cases hl:xs.length=ys.length
 ·refine SeqAt.eq_listAt pl.isList pl2.isList (by rw [List.size_toArray,List.size_toArray];omega) hu (fun j h1 h2=>eAt_at r r2 hk j h1 h2) ?_
  rw [List.size_toArray,← l1,all_eAt hl hk]
  exact ⟨.bl _,H,I,rfl,hQ⟩
 ·refine SeqAt.eq_list_lengthsAt pl.isList pl2.isList (by rw [List.size_toArray,List.size_toArray];simp;omega) hu ?_
  rw [decide_eq_false (fun e=>hl (congrArg List.length e))] at hQ
  exact ⟨.bl false,H,I,rfl,hQ⟩
theorem op_neL (hu:X.A.units < cLine):OpR X (compareOp .NotEq) (rNeL X.K):=by
 intro pins s σ H x y v u Q I rx ry h
 obtain ⟨p,q,xs,ys,rfl,rfl,hp,hq,hk,hQ⟩:=h
 cases rx
 cases ry
 obtain ⟨its,r,pl,_⟩:=I.list hp
 obtain ⟨its2,r2,pl2,_⟩:=I.list hq
 have l1:=r.length
 have l2:=r2.length
 by_cases hl:xs.length=ys.length
 ·refine SeqAt.RcNeAt.lists pl.isList pl2.isList (by rw [List.size_toArray,List.size_toArray];omega) hu (fun j h1 h2=>eAt_at r r2 hk j h1 h2) _ _ _ _ ?_
  rw [List.size_toArray,← l1,all_eAt hl hk]
  exact ⟨.bl _,H,I,rfl,hQ⟩
 ·refine SeqAt.RcNeAt.lists_lengths pl.isList pl2.isList (by rw [List.size_toArray,List.size_toArray];simp;omega) hu _ _ _ _ ?_
  rw [decide_eq_false (fun e=>hl (congrArg List.length e))] at hQ
  exact ⟨.bl true,H,I,rfl,hQ⟩
theorem call_isinst {f:Value} (hf:f=.builtin "isinstance"):CallR X f (fun xs H Q=>∃ (x c:V) (t cv:Value) (b:Bool),xs=[x,c]∧RelV c cv∧(∀ v,RelV c v→v=cv)∧TyOf X.K H x t∧PySem.W.kitOne X.K t cv=some b∧Q (.bl b) H):=by
 subst hf
 intro pins s σ H xs us Q I r h
 obtain ⟨x,c,t,cv,b,rfl,rc,uc,ty,e,q⟩:=h
 obtain ⟨u,v,rfl,ru,rv⟩:=vals2 r
 obtain rfl:=uc v rv
 exact isinst_ok I ru ty e fun tk=>⟨.bl b,H,I.tok tk,rfl,q⟩
end
end L2
namespace L2
open PySem PySem.Spec PyProof.Rows
section
variable {X:Cx}
@[irreducible] def rTup (K:PySem.W.Frag):List V→Hp→VK→Prop:=fun xs H Q=>∃ p ys,xs=[.ref p]∧((SqL K H p ys∧∀ l,H l=none→Q (.ref l) (upd H l (.tup ys)))∨(SqT K H p ys∧Q (.ref p) H))
theorem J1m:CallR X (.type "tuple") (rTup X.K):=by
 unfold rTup
 exact J39
end
end L2
namespace L2
open PySem PySem.Spec PyProof.Rows
end L2
namespace L2
open PySem PySem.Spec PyProof.Rows
end L2
namespace L2
open PySem PySem.Spec PyProof.Rows
def bmV:List Value:=[.type "ValueError",.type "Exception",.type "BaseException",.type "object"]
theorem ObjOk.has {P:Program} {w:World} {H:Hp} {h:Heap} {a:Addr} {o:HO} (x:ObjOk P w H h a o):∃ u,h.get? a=some u:=by
 cases o with
 | lst xs=>obtain ⟨_,_,_,_,e⟩:=x;exact ⟨_,e⟩
 | tup xs=>obtain ⟨_,_,_,ob,e,_⟩:=x;exact ⟨_,e⟩
 | dK kvs=>obtain ⟨_,_,_,_,o,_,_,e,_⟩:=x;exact ⟨_,e⟩
 | dT kvs=>obtain ⟨_,_,_,_,o,_,_,e,_⟩:=x;exact ⟨_,e⟩
 | set S n=>obtain ⟨o,_,_,_,e,_⟩:=x;exact ⟨_,e⟩
 | ins C dx fs=>obtain ⟨_,_,_,e,_⟩:=x;exact ⟨_,e⟩
 | own y=>exact x
 | xd fs=>obtain ⟨_,⟨_,_,_,e,_⟩,_⟩:=x;exact ⟨_,e⟩
 | rng lo hi=>obtain ⟨_,_,_,e⟩:=x;exact ⟨_,e⟩
 | frz ob u=>obtain ⟨e,_⟩:=x;exact ⟨_,e⟩
 | tbl ps=>exact ⟨_,(show h.get? a=some _ from x)⟩
 | met f y=>exact ⟨_,(show h.get? a=some _ from x)⟩
 | ext φ=>obtain ⟨_,e,_⟩:=x;exact e
theorem HOk.over {P:Program} {w:World} {H:Hp} {h h' B:Heap} (ok:HOk P w H h) (t:∀ b o,H b=some o→∃ u,B.get? b=some u) (k:B.StaysIn h) (k':B.StaysIn h'):HOk P w H h':=fun b u e=>by
 refine (ok b u e).stay (fun c v hc q=>?_) (fun _ q=>q) fun _ _ q=>q
 have hc':∃ x,B.get? c=some x:=by
  rcases hc with z | z
  ·rw [z];exact t b u e
  ·exact t c _ z
 obtain ⟨x,hx⟩:=hc'
 have:=k c x hx
 rw [q] at this
 cases this
 exact k' c _ hx
def Exc1 (P:Program) (w:World):CXT:=fun outer H s E e s'=>∃ (ea:Addr) (cls:Value) (H':Hp) (B:Heap) (a0:Value),e=.ref ea∧s'.os=s.os∧AllBare s'.gens∧Heap.FlyingW B outer ea cls a0 s'.heap∧
 Un (frs outer) [] H H' s.heap s'.heap∧HOk P w H' s'.heap∧H' ea=none∧s.heap.get? ea=none∧(∀ b o,H' b=some o→∃ u,B.get? b=some u)∧(∀ b u,s.heap.get? b=some u→b ∉ frs outer→∃ v,B.get? b=some v)∧E cls none H'
section
variable {P:Program} {w:World} {K:PySem.W.Frag} {mg:Str→Option Value} {base:Heap} {N:List Str} {qual:Str} {scope:Scope} {f:Addr} {cd:Value} {A:Around} {outer:List Env} {s0:Shared} {H0:Hp} {E:XK} {pins:List (Addr × Obj)} {σ:St} {H:Hp} {s:Shared}
theorem noFlds {h B:Heap} {l:List Env} (x:h.FunFrames B l) {b:Addr} (hb:b∈frs l):∃ o,h.get? b=some o∧∀ vs,o.data≠.fields vs:=(x.mem hb).2
theorem frs_cons {b:Addr} {env:Env} {L:Addr} (hf:env.frame=some L) {l:List Env}:b∈frs (env :: l)↔b=L∨b∈frs l:=by
 unfold frs
 rw [List.filterMap_cons,hf]
 simp
theorem xe_made {ea:Addr} {cls:Value} {args:List Value} {h':Heap} (I:Inv (cxOf (Exc1 P w) P w K mg base N qual scope f cd A outer s0 H0 E) pins σ H s) (hx:Heap.MadeExcOf s.heap h' ea cls args) (q:E cls none H) :
  (cxOf (Exc1 P w) P w K mg base N qual scope f cd A outer s0 H0 E).xe (.ref ea) { s with heap:=h' }:=by
 have fr:s.heap.FunFrames base (envOfC qual scope s0.heap.objs.size f cd :: outer):=I.stack
 have hin:∀ env∈(envOfC qual scope s0.heap.objs.size f cd :: outer),∀ b,env.frame=some b→b∈frs (envOfC qual scope s0.heap.objs.size f cd :: outer):=fun env he b hb=>List.mem_filterMap.mpr ⟨env,he,hb⟩
 have fl:∀ {b:Addr},b∈frs (envOfC qual scope s0.heap.objs.size f cd :: outer)↔b=s0.heap.objs.size∨b∈frs outer:=frs_cons rfl
 have inB:∀ b u,s.heap.get? b=some u→b ∉ frs (envOfC qual scope s0.heap.objs.size f cd :: outer)→(PySem.W.hideAll s.heap (frs (envOfC qual scope s0.heap.objs.size f cd :: outer))).get? b=some u:=fun b u e n=>PySem.W.hideAll_get _ e n
 have nL:∀ b u,s0.heap.get? b=some u→b≠s0.heap.objs.size:=fun b u e=>Nat.ne_of_lt (Heap.lt_size e)
 have nf:∀ b u,s0.heap.get? b=some u→b ∉ frs outer→b ∉ frs (envOfC qual scope s0.heap.objs.size f cd :: outer):=fun b u e n z=>(fl.mp z).elim (nL b u e) n
 refine wpAny_leaves_madeW (base:=PySem.W.hideAll s.heap (frs (envOfC qual scope s0.heap.objs.size f cd :: outer))) (h:=s.heap) (L:=s0.heap.objs.size) I.ok.frames rfl (fun b o z=>PySem.W.of_hideAll _ z) (PySem.W.funFrames_hide fr hin) hx fun h'' t fly tup nt ups=>?_
 have up:∀ b o,s.heap.get? b=some o→b∈frs (envOfC qual scope s0.heap.objs.size f cd :: outer)→∃ sl,h''.get? b=some { o with slots:=sl }:=fun b o e hb=>by
  obtain ⟨o',e',nd⟩:=noFlds fr hb
  rw [e] at e';cases e'
  exact ups b o (hx.keeps b o e) nd
 have there:∀ b o,s.heap.get? b=some o→∃ o',h''.get? b=some o':=fun b o e=>by
  by_cases hb:b∈frs (envOfC qual scope s0.heap.objs.size f cd :: outer)
  ·obtain ⟨sl,z⟩:=up b o e hb;exact ⟨_,z⟩
  ·exact ⟨o,fly.1 b o (inB b o e hb)⟩
 have trk:∀ b o,H b=some o→∃ u,(PySem.W.hideAll s.heap (frs (envOfC qual scope s0.heap.objs.size f cd :: outer))).get? b=some u:=fun b o e=>by
  obtain ⟨u,hu⟩:=(I.hok b o e).has
  refine ⟨u,inB b u hu fun z=>?_⟩
  have:=I.stkFree b z
  rw [e] at this;cases this
 refine ⟨ea,cls,H,_,_,rfl,I.os,I.bare,fly,⟨fun b o e n hb _=>?_,fun b o e n hb _=>?_,fun b o e n hb=>I.base.free b o e n hb,fun b o e _=>?_,I.base.tups,I.base.frzs,I.base.tbls⟩,I.hok.over trk (fun b o z=>PySem.W.of_hideAll _ z) fly.1,?_,?_,trk,fun b u e n=>?_,q⟩
 ·exact fly.1 b o (inB b o (I.base.keep b o e n hb (by simp [cxOf])) (nf b o e hb))
 ·obtain ⟨sl,e1⟩:=I.base.slot b o e n hb (by simp [cxOf])
  obtain ⟨sl',e2⟩:=up b _ e1 (fl.mpr (.inr hb))
  exact ⟨sl',e2⟩
 ·obtain ⟨o',e1⟩:=I.base.there b o e (by simp [cxOf])
  exact there b o' e1
 ·cases z:H ea with
  | none=>rfl
  | some o =>
   obtain ⟨u,hu⟩:=(I.hok ea o z).has
   have hnew:=hx.new
   rw [hu] at hnew;cases hnew
 ·cases z:s0.heap.get? ea with
  | none=>rfl
  | some o =>
   obtain ⟨o',e1⟩:=I.base.there ea o z (by simp [cxOf])
   have hnew:=hx.new
   rw [e1] at hnew;cases hnew
 ·obtain ⟨o',e1⟩:=I.base.there b u e (by simp [cxOf])
  exact ⟨o',inB b o' e1 (nf b u e n)⟩
theorem pass1:Passes (Exc1 P w) (cxOf (Exc1 P w) P w K mg base N qual scope f cd A outer s0 H0 E) E:=by
 rintro pins σ H s e s' I ⟨ea,cls,H',B,a0,rfl,os,bare,fly,un,hok,hea,new,trk,inB,q⟩
 have fl:∀ {b:Addr},b∈frs (envOfC qual scope s0.heap.objs.size f cd :: outer)↔b=s0.heap.objs.size∨b∈frs outer:=frs_cons rfl
 have nf:∀ b u,s0.heap.get? b=some u→b ∉ frs outer→b ∉ frs (envOfC qual scope s0.heap.objs.size f cd :: outer):=fun b u e n z=>(fl.mp z).elim (Nat.ne_of_lt (Heap.lt_size e)) n
 have fly0:Heap.FlyingW B (envOfC qual scope s0.heap.objs.size f cd :: outer) ea cls a0 s'.heap:=fly
 have un:Un (frs (envOfC qual scope s0.heap.objs.size f cd :: outer)) [] H H' s.heap s'.heap:=un
 have inB:∀ b u,s.heap.get? b=some u→b ∉ frs (envOfC qual scope s0.heap.objs.size f cd :: outer)→∃ v,B.get? b=some v:=inB
 refine wpAny_leaves_onW (L:=s0.heap.objs.size) I.ok.frames rfl fly0 fun h'' fly2 ups=>?_
 have stay:∀ b o,s.heap.get? b=some o→b ∉ frs (envOfC qual scope s0.heap.objs.size f cd :: outer)→∀ o',s'.heap.get? b=some o'→h''.get? b=some o':=fun b o e n o' e'=>by
  obtain ⟨v,hv⟩:=inB b o e n
  have:=fly0.1 b v hv
  rw [e'] at this;cases this
  exact fly2.1 b _ hv
 refine ⟨ea,cls,H',B,a0,rfl,os.trans I.os,bare,fly2,⟨fun b o e n hb _=>?_,fun b o e n hb _=>?_,fun b o e n _=>?_,fun b o e _=>?_,fun b xs e=>un.tups b xs (I.base.tups b xs e),fun b o u e=>un.frzs b o u (I.base.frzs b o u e),fun b ps e=>?_⟩,hok.over trk fly0.1 fly2.1,hea,?_,trk,fun b u e n=>?_,q⟩
 ·have e1:=I.base.keep b o e n hb (by simp [cxOf])
  have n1:=I.base.free b o e n (by simp [cxOf])
  exact stay b o e1 (nf b o e hb) o (un.keep b o e1 n1 (nf b o e hb) (by simp))
 ·obtain ⟨sl,e1⟩:=I.base.slot b o e n hb (by simp [cxOf])
  have n1:=I.base.free b o e n (by simp [cxOf])
  obtain ⟨sl',e2⟩:=un.slot b _ e1 n1 (fl.mpr (.inr hb)) (by simp)
  obtain ⟨o',e3,nd⟩:=noFlds fly0.2.2.1 (fl.mpr (.inr hb))
  rw [e2] at e3;cases e3
  obtain ⟨sl'',e4⟩:=ups b _ e2 nd
  exact ⟨sl'',e4⟩
 ·obtain ⟨o',e1⟩:=I.base.there b o e (by simp [cxOf])
  exact un.free b o' e1 (I.base.free b o e n (by simp [cxOf])) (by simp)
 ·obtain ⟨o',e1⟩:=I.base.there b o e (by simp [cxOf])
  obtain ⟨o2,e2⟩:=un.there b o' e1 (by simp)
  by_cases hb:b∈frs outer
  ·obtain ⟨o3,e3,nd⟩:=noFlds fly0.2.2.1 (fl.mpr (.inr hb))
   obtain ⟨sl,e4⟩:=ups b o3 e3 nd
   exact ⟨_,e4⟩
  ·exact ⟨o2,stay b o' e1 (nf b o e hb) o2 e2⟩
 ·obtain ⟨m1,e1⟩:=I.base.tbls b ps e
  obtain ⟨m2,e2⟩:=un.tbls b _ e1
  exact ⟨m1 ++ m2,by rw [e2,Array.append_assoc]⟩
 ·cases z:s0.heap.get? ea with
  | none=>rfl
  | some o =>
   obtain ⟨o',e1⟩:=I.base.there ea o z (by simp [cxOf])
   rw [e1] at new;cases new
 ·obtain ⟨o',e1⟩:=I.base.there b u e (by simp [cxOf])
  exact inB b o' e1 (nf b u e n)
theorem exc_obj {h:Heap} {C:Addr} {bmB:List Value} {nid:String} (X:K.In h) (q:PySem.W.excIn K C bmB nid=true) :
  ∃ bm N nm qn bs hdct sn sub ab col dd k0 k1 k2 k3 k5 mN,h.get? C=some (excClassObj nm qn C N bs bm hdct sn sub ab col dd k0 k1 k2 k3 k5 nid)∧h.Ns N mN∧mN "__init__"=none∧OwnTail h bmB bm:=by
 unfold PySem.W.excIn at q
 split at q
 ·rename_i dd cdd sl ho
  split at q
  ·rename_i C' bm k0 k1 k2 k3 n k5 hm hs
   simp only [Bool.and_eq_true,beq_iff_eq,Bool.not_eq_true'] at q
   obtain ⟨⟨⟨⟨⟨rfl,rfl⟩,q1⟩,q2⟩,q3⟩,q4⟩:=q
   obtain ⟨nm,bs,mro,ns,qn,hd,sn,sub,ab,col,del⟩:=cdd
   dsimp only at hm q1 q3 q4
   subst hm q1
   obtain ⟨l⟩:=sl
   simp only at hs
   subst hs
   exact ⟨bm,ns,nm,qn,bs,hd,sn,sub,ab,col,dd,k0,k1,k2,k3,k5,_,X _ _ ho,.of_isNs (PySem.W.isNs_of_in X q3),PySem.W.nsMap_none_of_in X q3 q4,PySem.W.tail_of_in X q2⟩
  ·cases q
 ·cases q
theorem J1i {x:Str} {C:Addr} {msg:Str} {j:Nat} {p1 np cpos pos:Pos} (hg:Gl (cxOf (Exc1 P w) P w K mg base N qual scope f cd A outer s0 H0 E) x) (hm:mg x=some (.ref C)) (q:PySem.W.excIn K C bmV "ValueError.__new__"=true) (hdb:(x == ("__debug__":Str))=false:=by decide) :
  PS (cxOf (Exc1 P w) P w K mg base N qual scope f cd A outer s0 H0 E) (.Raise (some (.Call (.Name x np) [.Constant (.str msg) j p1] [] cpos)) none pos) (fun D σ H=>E (.ref C) none H):=by
 intro pins s σ H D I h
 obtain ⟨bm,NN,nm,qn,bs,hdct,sn,sub,ab,col,dd,k0,k1,k2,k3,k5,mN,hC,hN,hni,T⟩:=exc_obj (I.ok.mod.kin) q
 refine wpAny_Raise_call_subT (C:=C) (nm:=nm) (q:=qn) (N:=NN) (bs:=bs) (bm:=bm) (hdct:=hdct) (sn:=sn) (sub:=sub) (ab:=ab) (col:=col) (dd:=dd) (k0:=k0) (k1:=k1) (k2:=k2) (k3:=k3) (k5:=k5)
  PySem.F.excBase_ValueError (mN:=mN) (T.hasType PySem.F.excBase_ValueError.hasBase) (I.ok.hd rfl) rfl hni (J2f I hg hm ⟨rfl,?_⟩ hdb)
 refine Calls.evalArgs_plain (thn ((J0 (Jv (X:=cxOf (Exc1 P w) P w K mg base N qual scope f cd A outer s0 H0 E)) J3) cpos pins s σ H (fun vs H'=>H'=H∧vs.length=1) I ⟨rfl,rfl⟩) fun us s2 ⟨vs,H2,I2,r,e2,e3⟩=>?_)
 subst e2
 have hl:us.length≤sizeLine:=by rw [← r.length,e3];decide
 exact ⟨rfl,hl,I2.bk _ _ hC,hN.keeps I2.bk,T.keeps I2.bk,fun h' e hm=>xe_made I2 hm h⟩
end
end L2
namespace L2
open PySem PySem.Spec PyProof.Rows
def excO (ea:Addr) (cls:Value):HO:=.ext fun h=>∃ o,h.get? ea=some o∧o.cls=cls
def Cx.caught (X:Cx) (ea:Addr):Cx:={ X with A:=X.A.mark (some (.ref ea)),calm:=false,xe:=fun _ _=>False }
def Ends.unset (D:Ends) (i:Nat):Ends:={ nx:=fun σ H=>D.nx (σ.set i none) H,rt:=D.rt,bk:=fun σ H=>D.bk (σ.set i none) H,ct:=fun σ H=>D.ct (σ.set i none) H }
section
variable {X:Cx} {pins:List (Addr × Obj)} {σ:St} {H:Hp} {s:Shared} {ea:Addr}
theorem Cx.Ok.caught (ok:X.Ok) (ea:Addr):(X.caught ea).Ok :=
 ⟨ok.mod,ok.kind,ok.glob,ok.blt,ok.above,ok.inj,ok.has,ok.cab,(fun z=>Bool.noConfusion z),ok.frames,ok.stk,ok.exf,ok.bs,ok.bsz,ok.noex,ok.exfs,ok.funs,ok.frf⟩
theorem Inv.caught (I:Inv X pins σ H s) (ea:Addr):Inv (X.caught ea) pins σ H s:=⟨I.ok.caught ea,I.os,I.bare,I.base,I.loc,I.cell,I.free,I.freeC,I.pin,I.hok,I.len⟩
theorem Inv.uncaught (I:Inv (X.caught ea) pins σ H s) (ok:X.Ok):Inv X pins σ H s:=⟨ok,I.os,I.bare,I.base,I.loc,I.cell,I.free,I.freeC,I.pin,I.hok,I.len⟩
theorem J1r {M:Model} {A:Around} {E:Value→Shared→Prop} {i:Nat} {x:Str} {pos:Pos} {Q:Unit→Shared→Prop} (I:Inv X pins σ H s) (hN:X.N.Nodup) (hi:X.N[i]?=some x) (hk:X.env.scope.names.lookup x=some .local)
  (h:∀ s',Inv X pins (σ.set i none) H s'→Q () s'):wpAny M A (do bindName X.env x .none;unbindBehindTheSuite X.env x pos) Q E s:=by
 obtain ⟨m,hn,hl⟩:=id I.loc
 have hcls:(X.env.scope.kind == .class || (X.env.scope.kind == .module && X.env.locals != X.env.globals))=false:=by rw [I.ok.kind];rfl
 have hiσ:i < σ.length:=by rw [I.len];exact (List.getElem?_eq_some_iff.mp hi).1
 have cne:=I.cne
 obtain ⟨oL,_,_,hoL,_⟩:=id hn
 refine wpAny_nameGoes_keeps hk hn hcls fun h' v hn' hs=>?_
 have nL:∀ b o,X.s₀.heap.get? b=some o→b≠X.env.locals:=fun b o e=>Nat.ne_of_lt (Nat.lt_of_lt_of_le (Heap.lt_size e) I.ok.above)
 refine h _ ⟨I.ok,I.os,I.bare,⟨fun b o e n hb hx=>?_,fun b o e n hb hx=>?_,I.base.free,fun b o e hx=>?_,I.base.tups,I.base.frzs,I.base.tbls⟩,⟨_,hn',fun j y v' e1 e2 e3=>?_⟩,fun y c e=>?_,I.free,I.freeC,fun p hp=>?_,fun b ob e=>?_,by simpa using I.len⟩
 ·exact (hs.2 b (nL b o e)).trans (I.base.keep b o e n hb hx)
 ·obtain ⟨sl,e1⟩:=I.base.slot b o e n hb hx
  exact ⟨sl,(hs.2 b (nL b o e)).trans e1⟩
 ·obtain ⟨o',e1⟩:=I.base.there b o e hx
  exact ⟨o',(hs.2 b (nL b o e)).trans e1⟩
 ·by_cases hj:j=i
  ·subst hj
   rw [List.getElem?_set_self hiσ] at e2
   cases e2
  ·rw [List.getElem?_set_ne (Ne.symm hj)] at e2
   obtain ⟨u',r',q⟩:=hl j y v' e1 e2 e3
   refine ⟨u',r',?_⟩
   rcases q with ⟨k,e⟩ | ⟨k,c,e,z⟩
   ·refine .inl ⟨k,?_⟩
    have:y≠x:=fun e=>hj (J3h hN e1 (e ▸ hi))
    simp [this,e]
   ·exact .inr ⟨k,c,e,z.sameBut hs (cne y c e)⟩
 ·obtain ⟨w',z⟩:=I.cell y c e
  exact ⟨w',z.sameBut hs (cne y c e)⟩
 ·obtain ⟨e,n,ne,nf,d⟩:=I.pin p hp
  exact ⟨(hs.2 p.1 ne).trans e,n,ne,nf,d⟩
 ·refine (I.hok b ob e).stay (fun c w' hc q=>(hs.2 c ?_).trans q) (fun _ q=>q) fun _ _ q=>q
  rintro rfl
  have hfree:=I.free
  rcases hc with z | hc
  ·rw [← z,hfree] at e;cases e
  ·rw [hfree] at hc;cases hc
theorem land {s1:Shared} {H':Hp} {B:Heap} {cls a0:Value} {h':Heap} (I:Inv X pins σ H s) (ho:s1.os=s.os) (bare:AllBare s1.gens) (fly:Heap.FlyingW B X.stack ea cls a0 s1.heap)
  (un:Un (frs X.stack) [] H H' s.heap s1.heap) (hok:HOk X.prog X.w H' s1.heap) (hea:H' ea=none) (new:s.heap.get? ea=none) (trk:∀ b o,H' b=some o→∃ u,B.get? b=some u)
  (inB:∀ b u,s.heap.get? b=some u→b ∉ frs X.stack→∃ v,B.get? b=some v) (fly':Heap.FlyingW B X.stack ea cls a0 h') (up:s1.heap.UpToSlots h') :
  Inv X pins σ (upd H' ea (excO ea cls)) { s1 with heap:=h' }:=by
 have neE:∀ b o,s.heap.get? b=some o→b≠ea:=fun b o e z=>by rw [z,new] at e;cases e
 have slots:∀ b o,b∈frs X.stack→s1.heap.get? b=some o→∃ sl,h'.get? b=some { o with slots:=sl }:=fun b o hb e=>by
  obtain ⟨o',e',nd⟩:=noFlds fly.2.2.1 hb
  rw [e] at e';cases e'
  exact up b o e nd
 have stay:∀ b o,s.heap.get? b=some o→b ∉ frs X.stack→∀ o',s1.heap.get? b=some o'→h'.get? b=some o':=fun b o e n o' e'=>by
  obtain ⟨v,hv⟩:=inB b o e n
  have:=fly.1 b v hv
  rw [e'] at this;cases this
  exact fly'.1 b _ hv
 refine I.call' (s':={ s1 with heap:=h' }) (ch:=[]) ho ⟨fun b o e n hb _=>?_,fun b o e n hb _=>?_,fun b o e n _=>?_,fun b o e _=>?_,fun b xs e=>?_,fun b o u e=>?_,fun b ps e=>?_⟩ (fun b u e=>?_) bare (fun _ z=>nomatch z)
 ·exact stay b o e hb o (un.keep b o e n hb (by simp))
 ·obtain ⟨sl,e1⟩:=un.slot b o e n hb (by simp)
  obtain ⟨sl',e2⟩:=slots b _ hb e1
  exact ⟨sl',e2⟩
 ·rw [Jd (neE b o e)];exact un.free b o e n (by simp)
 ·obtain ⟨o',e1⟩:=un.there b o e (by simp)
  by_cases hb:b∈frs X.stack
  ·obtain ⟨sl,e2⟩:=slots b o' hb e1
   exact ⟨_,e2⟩
  ·exact ⟨o',stay b o e hb o' e1⟩
 ·have q:=un.tups b xs e
  rw [Jd (Jc q hea)];exact q
 ·have q:=un.frzs b o u e
  rw [Jd (Jc q hea)];exact q
 ·obtain ⟨m,q⟩:=un.tbls b ps e
  exact ⟨m,by rw [Jd (Jc q hea)];exact q⟩
 ·have hok2:=hok.over trk fly.1 fly'.1
  by_cases hb:b=ea
  ·subst hb
   rw [J2] at e;cases e
   obtain ⟨ob,e1,e2⟩:=fly'.there
   exact ⟨⟨ob,e1,e2⟩,⟨ob,e1⟩,fun h1 h2 ⟨o1,z1,z2⟩ k=>⟨o1,k o1 z1,z2⟩⟩
  ·rw [Jd hb] at e
   exact (hok2 b u e).stay (fun c v _ q=>q) (fun c q=>by rw [Jd (Jc q hea)];exact q) fun c xs q=>by rw [Jd (Jc q hea)];exact q
def xCatch (K:PySem.W.Frag) (c:Value) (i:Nat) (tb:Addr→TS) (D:Ends) (σ:St):XK:=fun cls _ H2=>PySem.W.exmOne K cls c=some true∧∀ ea,H2 ea=none→tb ea (D.unset i) (σ.set i (some (.ref ea))) (upd H2 ea (excO ea cls))
variable {i:Nat} {n cx:Str} {c:Value} {b₀:Stmt} {suite:List Stmt} {hpos np:Pos} {tb:Addr→TS} {D:Ends}
theorem caught_at {e:Value} {s1:Shared} (hst:X.stack=X.env :: X.outer) (hfr:X.env.frame=some X.env.locals) (hgC:Gl X cx) (hmC:X.mg cx=some c) (hN:X.N.Nodup) (hi:X.N[i]?=some n) (hk:X.env.scope.names.lookup n=some .local)
  (hb:∀ ea,PSs (X.caught ea) (b₀ :: suite) (tb ea)) (I:Inv X pins σ H s) (x:Exc1 X.prog X.w X.stack H s (xCatch X.K c i tb D σ) e s1) (hdb:(cx == ("__debug__":Str))=false:=by decide) :
  wpAny (model X.prog X.w) X.A (noteFrame e X.env) (fun _ s₂=>wpAny (model X.prog X.w) X.A (setFlight e none) (fun _ s₃=>wpAny (model X.prog X.w) X.A (handleBy e X.env [.ExceptHandler (some (.Name cx np)) (some n) (b₀ :: suite) hpos]) (SP X pins D) X.xe s₃) X.xe s₂) X.xe s1:=by
 obtain ⟨ea,cls,H',B,a0,rfl,os,bare,fly,un,hok,hea,new,trk,inB,hx,q⟩:=x
 have fr:X.A.frames=some (X.env :: X.outer):=by rw [← hst];exact I.ok.frames
 have fly':Heap.FlyingW B (X.env :: X.outer) ea cls a0 s1.heap:=by rw [← hst];exact fly
 refine wpAny_looks_onW fr hfr fly' fun h2 held up2=>?_
 refine wpAny_landsW held fun h3 fly3 up3=>?_
 have fly3':Heap.FlyingW B X.stack ea cls a0 h3:=by rw [hst];exact fly3
 have I3:Inv X pins σ (upd H' ea (excO ea cls)) { s1 with heap:=h3 }:=land I os bare fly un hok hea new trk inB fly3' (up2.trans up3)
 refine wpAny_handleBy_cons (codeAny_handlers_test ?_) (by intro q;cases q)
 refine J2f (X:=X.caught ea) (I3.caught ea) hgC hmC ?_ hdb
 have LT:PySem.W.Looks (model X.prog X.w) h3 (typeOf (.ref ea)) cls:=by
  obtain ⟨ob,e1,e2⟩:=fly3.there
  exact e2 ▸ (PySem.W.Looks.ld e1).andThen .now
 refine (PySem.W.exm_one (M:=model X.prog X.w) I3.kIn LT hx).here ?_
 refine codeAny_handlers_suite_as ?_
 refine lands_againW fly3 fun h4 fly4 up4=>?_
 have fly4':Heap.FlyingW B X.stack ea cls a0 h4:=by rw [hst];exact fly4
 have I4:Inv X pins σ (upd H' ea (excO ea cls)) { s1 with heap:=h4 }:=land I os bare fly un hok hea new trk inB fly4' ((up2.trans up3).trans up4)
 refine J2i (X:=X.caught ea) (I4.caught ea) hN hi (.inl hk) (v:=.ref ea) rfl (fun s5 I5=>?_) (.inr hk)
 refine wpAny_mono (hb ea pins s5 _ _ (D.unset i) I5 (q ea hea)) (fun fl s6 z=>?_) fun _ _ z=>False.elim z
 cases fl with
 | next=>obtain ⟨σ',H2,I6,q6⟩:=z;exact J1r (I6.uncaught I.ok) hN hi hk fun s7 I7=>⟨_,H2,I7,q6⟩
 | brk=>obtain ⟨σ',H2,I6,q6⟩:=z;exact J1r (I6.uncaught I.ok) hN hi hk fun s7 I7=>⟨_,H2,I7,q6⟩
 | cont=>obtain ⟨σ',H2,I6,q6⟩:=z;exact J1r (I6.uncaught I.ok) hN hi hk fun s7 I7=>⟨_,H2,I7,q6⟩
 | ret u=>obtain ⟨v,σ',H2,I6,r6,q6⟩:=z;exact J1r (I6.uncaught I.ok) hN hi hk fun s7 I7=>⟨v,_,H2,I7,r6,q6⟩
end
theorem Fun.okX {P:Program} {w:World} {K:PySem.W.Frag} {mg:Str→Option Value} {base:Heap} {x qual:Str} {st:Stmt} {f:Addr} {fd:FuncData} {N ps:List Str} {k:Nat} {sp:Sp} (F:Fun K x qual st f fd) (S:FnScope N ps (J6 st)) (len:∀ vs H Q E,sp vs H Q E→vs.length=ps.length)
  (hbody:∀ (cdv:Value) (A:Around) (outer:List Env) (s:Shared) (H:Hp) (vs:List V) (Q:VK) (E:XK),Room k (A.deeper (envOfC qual (J6 st) s.heap.objs.size f cdv))→sp vs H Q E→
   ∃ t,PSs (cxOf (Exc1 P w) P w K mg base N qual (J6 st) f cdv A outer s H E) (Jf st) t∧t { nx:=fun _ H'=>Q .non H',rt:=Q } (start N vs) H):FnOk P w K mg base (Exc1 P w) (k + 1) f fd ps sp:=by
 obtain ⟨oc,od,kV,doc,pm,an,cdv,ct,osl,rfl,lk,hcd⟩:=F.ex
 exact fn_of lk hcd S len fun A outer s H vs Q E hr hsp=>hbody cdv A outer s H vs Q E hr hsp
end L2
namespace L2
open PySem PySem.Spec PyProof.Rows
structure XCls (K:PySem.W.Frag) (D:Addr):Prop where
 ga:PySem.W.findIn K (.ref D) "__getattribute__"=some (some (.builtin "BaseException.__getattribute__"))
 no:PySem.W.findIn K (.ref D) "__getattr__"=some none
 cl:PySem.W.findIn K (.ref D) "__class__"=some (some (.builtin "object.__class__"))
 get:PySem.W.specialIn K (.builtin "object.__class__") "__get__"=some (some (.builtin "getset_descriptor.__get__"))
 tk:PySem.W.takesIn K (.builtin "object.__class__")=some true
 mo:PySem.W.mroIn K D (.type "object")=some true
 mb:PySem.W.mroIn K D (.type "BaseException")=some true
 hd:PySem.W.hasDictIn K D=true
section
open PySem.W
variable {prog:Program} {w:World} {A:Around} {E:Value→Shared→Prop} {K:Frag} {x D:Addr} {hh:Heap} {g:Array GenState} {d:Drawn} {t:Nat} {os:OsState}
theorem x_find {M:Model} (X:K.In hh) (W:XCls K D):Looks M hh (Builtin.ObjectAttr.find (.ref x) (.ref D) "__class__") (.bind (.builtin "getset_descriptor.__get__") (.builtin "object.__class__")):=by
 have e1:=looks_findIn (M:=M) X W.cl
 have e2:Looks M hh (Builtin.ObjectAttr.getOf (some (.builtin "object.__class__"))) (some (.builtin "getset_descriptor.__get__")):=looks_specialIn X W.get
 have e3:=looks_takesIn (M:=M) X W.tk
 have e4:Looks M hh (Builtin.ObjectAttr.dataDescriptor? (some (.builtin "object.__class__")) (some (.builtin "getset_descriptor.__get__"))) (some (.builtin "getset_descriptor.__get__",.builtin "object.__class__")):=e3.andThen .now
 exact e1.andThen (e2.andThen (e4.andThen (Looks.tag .now)))
theorem x_get {R:Result→Shared→Prop} {tp:Value} (X:K.In hh) (W:XCls K D) (p:∃ o,hh.get? x=some o∧o.cls=.ref D) (h:R (.ok (.ret (.ref D))) ⟨hh,g,d,t,os⟩) :
  codeAny (model prog w) A (.call (.builtin "getset_descriptor.__get__") ⟨[.builtin "object.__class__",.ref x,tp],[]⟩) R ⟨hh,g,d,t,os⟩:=by
 obtain ⟨o,p1,p2⟩:=p
 have L0:Looks (model prog w) hh (typeOf (.ref x)) (.ref D):=p2 ▸ (Looks.ld p1).andThen .now
 have L1:=looks_mroIn (M:=model prog w) X W.mo
 have ck:=KF.slot_gs.check (M:=model prog w) (A:=A)
 refine codeAny_call_builtin KF.slot_gs.plain KF.entry_gs ?_
 refine KF.slot_gs.check _ _ _ _ _ _ _ _ KF.type_class (KF.args_gs ..) ?_
 unfold Builtin.«getset_descriptor.__get__»
 unfold Builtin.Getset_descriptor.descrGet
 rw [dga_obj]
 apply wpAny_bind
 apply wpAny_pure
 unfold Builtin.Getset_descriptor.descrGetter Builtin.Getset_descriptor.descrCheckInstance
 unfold Builtin.Getset_descriptor.descrNameAndClass isInstance
 simp only [KF.owner_class]
 repeat lk
 refine ⟨Code.quiet_builtin _ (by decide +kernel),?_⟩
 refine codeAny_builtin KF.entry_class ?_
 unfold Builtin.«object.__class__»
 unfold shownTypeOf
 repeat lk
 exact h
theorem x_class {Q:Option Value→Shared→Prop} (X:K.In hh) (W:XCls K D) (p:∃ o,hh.get? x=some o∧o.cls=.ref D) (h:Q (some (.ref D)) ⟨hh,g,d,t + 1,os⟩) :
  wpAny (model prog w) A (getAttr? (.ref x) "__class__") Q E ⟨hh,g,d,t,os⟩:=by
 have p':=p
 obtain ⟨o,p1,p2⟩:=p'
 have L0:Looks (model prog w) hh (typeOf (.ref x)) (.ref D):=p2 ▸ (Looks.ld p1).andThen .now
 have L1:=looks_findIn (M:=model prog w) X W.ga
 have L2:=looks_findIn (M:=model prog w) X W.no
 have L3:=x_find (x:=x) (M:=model prog w) X W
 have L4:=looks_mroIn (M:=model prog w) X W.mb
 have gb:=PySem.F.attrBase_ValueError.ga.bind (.ref x)
 unfold getAttr? getAttrBy?
 unfold getAttrBy
 apply wpAny_bind
 apply wpAny_mkText
 apply wpAny_bind
 apply wpAny_attempt
 apply wpAny_holding
 apply wpAny_bind
 refine L0.at ?_
 apply wpAny_bind
 refine L1.at ?_
 have nb:(Value.builtin "BaseException.__getattribute__" == Value.builtin "object.__getattribute__")=false:=by decide +kernel
 show wpAny _ _ (if (onTheHeap (Value.ref D) && Value.builtin "BaseException.__getattribute__" == Value.builtin "object.__getattribute__")=true then _ else _) _ _ _
 rw [nb,Bool.and_false,if_neg Bool.false_ne_true]
 unfold getAttrByItsOwn hookBefore
 apply wpAny_bind
 show wpAny _ _ (if onTheHeap (Value.ref D)=true then _ else _) _ _ _
 rw [if_pos (show onTheHeap (Value.ref D)=true from rfl)]
 refine L2.at ?_
 apply wpAny_bind
 apply wpAny_attempt
 apply wpAny_holding
 unfold callGetattribute
 rw [Bool.false_and,if_neg Bool.false_ne_true]
 unfold boundAndCalled
 rw [gb]
 apply wpAny_bind
 apply wpAny_pure
 refine wpAny_call (codeAny_call_builtin PySem.F.attrBase_ValueError.ga.plain PySem.F.entry_bexc_ga ?_)
 have hk:builtinKind "BaseException.__getattribute__"=some .slot:=by decide +kernel
 have hs:splitId "BaseException.__getattribute__"=some ("BaseException","__getattribute__"):=by decide +kernel
 have ha:=PySem.F.args_bexc_ga (.ref x) (.str "__class__" t)
 have L5:Looks (model prog w) hh (isInstance (.ref x) (.type "BaseException")) true:=L0.andThen L4
 simp only [checkBuiltinCall,hk,hs]
 apply wpAny_bind
 refine L5.at ?_
 repeat (first | assumption | wp_step)
 rw [p2]
 have e2:Looks (model prog w) hh (Builtin.ObjectAttr.getOf (some (.builtin "object.__class__"))) (some (.builtin "getset_descriptor.__get__")):=looks_specialIn X W.get
 have e3:=looks_takesIn (M:=model prog w) X W.tk
 have e4:Looks (model prog w) hh (Builtin.ObjectAttr.dataDescriptor? (some (.builtin "object.__class__")) (some (.builtin "getset_descriptor.__get__"))) (some (.builtin "getset_descriptor.__get__",.builtin "object.__class__")):=e3.andThen .now
 refine (looks_findIn (M:=model prog w) X W.cl).at ?_
 apply wpAny_bind
 refine e2.at ?_
 apply wpAny_bind
 refine e4.at ?_
 repeat (first | assumption | wp_step)
 refine x_get X W p ?_
 repeat (first | assumption | wp_step)
theorem x_isType {M:Model} (X:K.In hh) (W:XCls K D):Looks M hh (isType (.ref D)) true:=by
 obtain ⟨cd,hc,_⟩:=any_some W.hd
 unfold clsIn at hc
 split at hc
 next ho =>
  intro A' Q' E' s' k q
  unfold isType loadHead
  apply wpAny_bind
  exact wpAny_loadPart (k _ _ (X _ _ ho)) (wpAny_pure q)
 next=>cases hc
theorem kitx_exc (W:XCls K D):KitX K (.ref x) (.ref D) (fun h=>∃ o,h.get? x=some o∧o.cls=.ref D) where
 ty:=fun _ _ _ ⟨_,p1,p2⟩=>p2 ▸ (Looks.ld p1).andThen .now
 it:=fun _ _ X _=>x_isType X W
 ne:=fun h tp dd its n sl X htp=>by
  obtain ⟨cd,hc,_⟩:=any_some W.hd
  apply Bool.eq_false_iff.mpr
  intro q
  cases beq_iff_eq.mp q
  unfold clsIn at hc
  split at hc
  next ho=>have z:=X _ _ ho;rw [htp] at z;cases z
  next=>cases hc
 ca:=fun {_ _ _ _ _ s} X p k=>by
  obtain ⟨h0,g0,d0,t0,o0⟩:=s
  exact x_class X W p k
end
theorem call_isany {X:Cx} {f:Value} (hf:f=.builtin "isinstance"):CallR X f (fun xs H Q=>∃ (ea D:Addr) (c:V) (cv:Value) (b:Bool),xs=[.ref ea,c]∧RelV c cv∧(∀ v,RelV c v→v=cv)∧H ea=some (excO ea (.ref D))∧XCls X.K D∧PySem.W.kitOne X.K (.ref D) cv=some b∧Q (.bl b) H):=by
 subst hf
 intro pins s σ H xs us Q I r h
 obtain ⟨ea,D,c,cv,b,rfl,rc,uc,e,W,kb,q⟩:=h
 obtain ⟨u,v,rfl,ru,rv⟩:=vals2 r
 cases (show u=Value.ref ea from ru)
 obtain rfl:=uc v rv
 have:=I.hok ea _ e
 exact PySem.W.kia_one (kitx_exc W) I.kIn this.1 kb (fun z=>nomatch z) fun tk=>⟨.bl b,H,I.tok tk,rfl,q⟩
theorem boolsAre:∀ {bs:List Bool} {us:List Value},Vals (bs.map V.bl) us→us=bs.map Value.bool
 | [],us,r=>by cases r;rfl
 | b :: bs,us,r=>by
  cases r with
  | cons r1 r2 =>
   cases (show _=Value.bool b from r1)
   rw [boolsAre r2];rfl
structure RoomC (k:Nat) (A:Around):Prop where
 dp:A.depth + 3 * k + 5 < recursionLimit
 un:A.units + 16 * k + 200 < cLine
theorem RoomC.mono {j k:Nat} {A:Around} (r:RoomC k A) (h:j≤k):RoomC j A:=⟨by have:=r.dp;omega,by have:=r.un;omega⟩
theorem RoomC.deeper {k:Nat} {A:Around} (r:RoomC (k + 1) A) (env:Env):RoomC k (A.deeper env) :=
 ⟨by have:=r.dp;show A.depth + 1 + 3 * k + 5 < _;omega,by have:=r.un;show A.units + 3 + 16 * k + 200 < _;omega⟩
end L2
namespace L2
open PySem PySem.Spec PyProof.Rows
end L2
namespace L2
open PySem PySem.Spec PyProof.Rows
section
variable {X:Cx} {k:Nat} {f:Addr} {fd:FuncData} {ps:List Str} {sp:Sp} {dvs:List V} {ds:List Value} {x y n cx:Str} {i j:Nat} {p py pos cpos epos hpos np:Pos} {e:Expr} {es:List Expr} {t:TA} {c:Value} {b₀:Stmt} {suite:List Stmt} {tb:Addr→TS}
def tTrya (K:PySem.W.Frag) (sp:Sp) (dvs:List V) (c:Value) (i j:Nat) (t:TA) (tb:Addr→TS):TS:=fun D σ H=>t σ H fun vs H1=>sp (vs ++ dvs) H1 (fun v H2=>D.nx (σ.set j (some v)) H2) (xCatch K c i tb D σ)
theorem ps_trya (F:FnOk X.prog X.w X.K X.mg X.base (Exc1 X.prog X.w) k f fd ps sp) (hr:Room k X.A) (hg:Gl X x) (hm:X.mg x=some (.ref f)) (hk:PySem.W.keepIn X.K (.ref f)=true) (hb:Binds X.K fd ps ds) (hd:Vals dvs ds)
  (ha:PA X.nox (e :: es) t) (hst:X.stack=X.env :: X.outer) (hfr:X.env.frame=some X.env.locals) (hgC:Gl X cx) (hmC:X.mg cx=some c) (hN:X.N.Nodup) (hi:X.N[i]?=some n) (hkn:X.env.scope.names.lookup n=some .local)
  (hj:X.N[j]?=some y) (hy:Loc X.env.scope y)
  (hsu:∀ ea,PSs (X.caught ea) (b₀ :: suite) (tb ea)) (hdbC:(cx == ("__debug__":Str))=false:=by decide) (hs:swapsWith (.Call (.Name x p) (e :: es) [] cpos) (some (.Name y py)) epos.line X.env=pure false:=by rfl)
  (hdb:(x == ("__debug__":Str))=false:=by decide) (he:starEach (e :: es) X.env=(false,eval e X.env) :: starEach es X.env:=by rfl) (hpl:(backTo cpos (starEach es X.env)).any (·.1)=false:=by rfl)
  (hf:X.fn y=true∨X.env.scope.names.lookup y=some .local:=by first | exact .inl rfl | exact .inr rfl | assumption) :
  PS X (.Try [.Assign [.Name y py] (.Call (.Name x p) (e :: es) [] cpos) epos] [.ExceptHandler (some (.Name cx np)) (some n) (b₀ :: suite) hpos] [] [] pos) (tTrya X.K sp dvs c i j t tb):=by
 intro pins s σ H D I h
 refine wpAny_Try_except (wpAny_execs_cons (wpAny_Assign_Name ?_ hs))
 refine wpAny_Call_Name_kw (J2f I hg hm ?_ hdb)
 refine PySem.W.callWith_K (h₀:=X.base) I.ok.mod.kin hk (wpAny_mono (ha cpos pins s σ H _ (I.wish _) h) (fun us s1 ⟨vs,H1,I1,r,q⟩=>⟨I1.kIn,?_⟩) fun _ _ z=>False.elim z) he hpl
 have I1:=I1.unwish
 have r2:Vals (vs ++ dvs) (us ++ ds):=r.append hd
 have hl:(us ++ ds).length=ps.length:=by rw [← r2.length];exact F.len _ _ _ _ q
 refine wpAny_call (codeAny_mono (F.run X.A X.stack s1 H1 ⟨us,[]⟩ (us ++ ds) (vs ++ dvs) _ _ hr I1.env0 (hb s1 us I1.kIn hl) r2 q) fun r s' hq=>?_)
 cases r with
 | error e=>exact caught_at hst hfr hgC hmC hN hi hkn hsu I1 hq hdbC
 | ok fl =>
  cases fl with
  | ret u =>
   obtain ⟨v,H2,I2,rv,q2⟩:=I1.after hq
   exact J2i I2 hN hj hy rv (fun s3 I3=>wpAny_execs_nil (wpAny_execs_nil (show SP X pins D .next s3 from ⟨_,H2,I3,q2⟩))) hf
  | next=>exact False.elim hq
  | brk=>exact False.elim hq
  | cont=>exact False.elim hq
end
end L2
namespace L2
open PySem PySem.Spec PyProof.Rows
def PTs (X:Cx) (ifs:List Expr) (t:TT):Prop :=
 ∀ (pins:List (Addr × Obj)) (s:Shared) (σ:St) (H:Hp) (Q:Bool→Hp→Prop),Inv X pins σ H s→t σ H Q→
  wpAny (model X.prog X.w) X.A (forIn ifs true fun c r=>if r=true then do let ok ← isTrue c X.env (eval c X.env);pure (ForInStep.yield ok) else pure (ForInStep.yield r)) (TP X pins σ Q) X.xe s
def tYes:TT:=fun _ H Q=>Q true H
theorem J15 {X:Cx}:PTs X [] tYes:=fun _ s σ H Q I h=>wpAny_tests_nil ⟨H,I,h⟩
theorem J18 {prog:Program} {w:World} {A:Around} {R:Result→Shared→Prop} {s:Shared} {elt target iter:Expr} {ifs:List Expr} {scope:Scope} {pos:Pos} {it acc:Value} {env:Env} (J:Nat→Shared→Prop)
  (turn:∀ n s,J n s→wpAny (model prog w) A (pyNext it) (fun r s₁=>match r with
   | none=>R (.ok .next) s₁
   | some v=>wpAny (model prog w) A (letOwnedTupleGo target it v) (fun _ s₁'=>wpAny (model prog w) A (assign target env v) (fun _ s₂ =>
     wpAny (model prog w) A (forIn ifs true fun c r=>if r=true then do let ok ← isTrue c env (eval c env);pure (ForInStep.yield ok) else pure (ForInStep.yield r)) (fun ok s₃ =>
      if ok=true then wpAny (model prog w) A (eval elt env) (fun x s₄ =>
       wpAny (model prog w) A (call (.builtin "list.append") [acc,x]) (fun _ s₅=>∃ m,m < n∧J m s₅) (fun _ _=>False) s₄) (fun _ _=>False) s₃
      else ∃ m,m < n∧J m s₃) (fun _ _=>False) s₂) (fun _ _=>False) s₁') (fun _ _=>False) s₁) (fun _ _=>False) s)
  (n:Nat) (h:J n s):codeAny (model prog w) A (.compLoop (.ListComp elt [⟨target,iter,ifs,0⟩] scope pos) 0 it acc env) R s:=by
 refine codeAny_loop rfl J (fun n s hI=>?_) n h
 show wpAny _ _ ((compTurn (.ListComp elt [⟨target,iter,ifs,0⟩] scope pos) 0 it acc env).onRaise (fun x=>do noteFrame x env;theTreesLotGoes x)) _ _ s
 refine wpAny_noted ?_
 rw [compTurn_list]
 refine wpAny_bind (wpAny_standAt (wpAny_bind (wpAny_mono (turn n s hI) (fun r s₁ h₁=>?_) fun _ _ h'=>False.elim h')))
 cases r with
 | none=>exact wpAny_pure h₁
 | some v =>
  refine wpAny_bind (wpAny_mono h₁ (fun _ s₁' h₁'=>?_) fun _ _ h'=>False.elim h')
  refine wpAny_bind (wpAny_mono h₁' (fun _ s₂ h₂=>wpAny_bind (wpAny_mono h₂ (fun ok s₃ h₃=>?_) fun _ _ h'=>False.elim h')) fun _ _ h'=>False.elim h')
  cases ok with
  | false=>exact wpAny_pure ⟨rfl,h₃⟩
  | true =>
   exact wpAny_bind (wpAny_bind (wpAny_mono h₃ (fun x s₄ h₄=>wpAny_bind (wpAny_mono h₄ (fun _ s₅ h₅=>wpAny_pure (wpAny_pure ⟨rfl,h₅⟩)) fun _ _ h'=>False.elim h')) fun _ _ h'=>False.elim h'))
def LCW (J:It) (tc:TT) (te:TE) (σ:St) (js:List Nat) (Q:VK) (H1:Hp) (d:Addr):Prop:=∃ W:Nat→Nat→List V→Hp→Prop,(∃ m,W 0 m [] (upd H1 d (.lst [])))∧
 ∀ i m ys H2,W i m ys H2→H2 d=some (.lst ys)∧((J.stop i H2∧Q (.ref d) H2)∨(J.go i H2∧ys.length < sizeLine∧∀ v H3,J.yld i H2 v H3→
  tc (some v :: capv σ js) H3 fun b H4=>if b=true then te (some v :: capv σ js) H4 fun y H5=>H5 d=some (.lst ys)∧∃ m',m' < m∧W (i + 1) m' (ys ++ [y]) (upd H5 d (.lst (ys ++ [y])))
   else ∃ m',m' < m∧W (i + 1) m' ys H4))
def tLC (wi:TI) (tc:TT) (te:TE) (js:List Nat):TE:=fun σ H Q=>wi σ H fun J H1=>∀ d,H1 d=none→LCW J tc te σ js Q H1 d
section
variable {X:Cx} {elt iter:Expr} {ifs:List Expr} {x y:Str} {px py:Pos} {scope:Scope} {cl:List (Str × Addr)} {pos spos:Pos} {wi:TI} {tc:TT} {te:TE} {caps:List Str} {js:List Nat} {i:Nat}
theorem comp_core {p0:Pos} {use:Option (Value→Sem Unit)} {QV:Value→Shared→Prop} {Q:VK} {pins:List (Addr × Obj)} {s:Shared} {σ:St} {H:Hp} (hc:X.calm=true) (hp:PI X (.Name x px) iter wi)
  (he:∀ (C:Addr) (fp:List Addr) (s:Shared) (H:Hp),PE (X.block (x :: caps) scope cl C fp s H) elt te)
  (ht:∀ (C:Addr) (fp:List Addr) (s:Shared) (H:Hp),PTs (X.block (x :: caps) scope cl C fp s H) ifs tc)
  (hcell:∀ p∈scope.names,p.2≠.cell) (hnames:∀ p∈scope.names,p.2=.local→scope.names.lookup p.1=some .local) (hnd:(x :: caps).Nodup)
  (hsub:∀ p∈cl,X.env.cells.lookup p.1=some p.2) (hhas:∀ p∈scope.names,p.2=.free→∃ c,cl.lookup p.1=some c) (hlen:caps.length=js.length)
  (hcaps:∀ (k:Nat) (c:Str),caps[k]?=some c→∃ (j:Nat) (a:Addr),js[k]?=some j∧X.N[j]?=some c∧X.env.scope.names.lookup c=some .cell∧cl.lookup c=some a∧(relabel scope X.env).names.lookup c=some .cell)
  (hclos:closureFor scope X.env=pure cl) (hkind:scope.kind=.function) (hx:scope.names.lookup x=some .local) (hs:∀ v,foldedSetIterable iter X.env v=pure v)
  (I:Inv X pins σ H s) (h:tLC wi tc te js σ H Q)
  (fin:∀ (d:Addr) (H':Hp) (s5:Shared) (C:Addr),Inv X pins σ H' s5→Q (.ref d) H'→(∃ m,s5.heap.Ns C m)→FpOk X pins H' C→compPost (model X.prog X.w) X.A X.xe use QV (.ref d) C (.ok .next) s5) :
  wpAny (model X.prog X.w) X.A (comprehension (.ListComp elt [⟨.Name x px,iter,ifs,0⟩] scope pos) scope X.env p0 (newList []) false (eval iter X.env) use) QV X.xe s:=by
 refine wpAny_comprehension_free (cl:=cl) (use:=use) (Q:=QV) rfl hs hclos hkind hnames (thn (hp pins s σ H _ I h) fun v s1 h1=>thn h1 fun itv s2 h2=>?_)
 obtain ⟨it,fp,tn,J,H2,e,I2,T,st2,f2,h3⟩:=h2
 subst e
 have hfr:H2 s2.heap.objs.size=none:=I2.hok.fresh (Nat.le_refl _)
 obtain ⟨W,⟨m0,w0⟩,hW⟩:=h3 s2.heap.objs.size hfr
 refine wpAny_newObj_type (wpAny_newFunctionEnv hcell (by intro y hy;simp at hy) (fun h₁ hns₁ hsb₁=>?_) hkind)
 dsimp only at hns₁ hsb₁ ⊢
 generalize hH2:s2.heap.push { cls:=.type "list",dict:=none,data:=.seq ([]:List Value).toArray }=G at hns₁ hsb₁ ⊢
 have hC:G.objs.size=s2.heap.objs.size + 1:=by rw [← hH2,Heap.size_push]
 have hDC:s2.heap.objs.size≠G.objs.size:=by rw [hC];exact Nat.ne_of_lt (Nat.lt_succ_self _)
 have hCle:s2.heap.objs.size≤G.objs.size:=by rw [hC];exact Nat.le_succ _
 have old:∀ b o,s2.heap.get? b=some o→h₁.get? b=some o:=fun b o e=>hsb₁.extBut b o (by rw [hC];exact Nat.ne_of_lt (Nat.lt_succ_of_lt (Heap.lt_size e))) (Heap.get?_push_of_some _ (hH2 ▸ Heap.get?_push_of_some _ e))
 have hacc:h₁.get? s2.heap.objs.size=some { cls:=.type "list",dict:=none,data:=.seq ([]:List Value).toArray }:=hsb₁.extBut _ _ hDC (Heap.get?_push_of_some _ (hH2 ▸ Heap.get?_push_size _ rfl))
 have fl:∀ b∈fp,b < s2.heap.objs.size:=fun b hb=>by
  obtain ⟨o,e,_⟩:=T.obj _ _ st2 b hb
  exact Heap.lt_size e
 have hDf:s2.heap.objs.size ∉ fp:=fun hm=>Nat.lt_irrefl _ (fl _ hm)
 have hok1:HOk X.prog X.w (upd H2 s2.heap.objs.size (.lst [])) h₁:=I2.hok.laid old (Nat.le_refl _) ⟨Nat.zero_le _,[],0,.nil,hacc⟩
 have IY0:∀ tk,Inv (X.block (x :: caps) scope cl G.objs.size fp s2 H2) [] (none :: capv σ js) (upd H2 s2.heap.objs.size (.lst [])) { s2 with heap:=h₁,toks:=tk }:=fun tk=>by
  refine ⟨J2u I2 hCle f2 fl hkind hcell hsub hhas,rfl,I2.bare,Un.laid old (Nat.le_refl _) hfr,⟨_,hns₁,fun k z v e1 e2 e3=>?_⟩,fun z c e=>?_,?_,fun z c e=>?_,fun p hp=>absurd hp (by simp),hok1,?_⟩
  ·cases k with
   | zero=>simp at e2
   | succ k =>
    have e1':caps[k]?=some z:=by simpa using e1
    have e2':(capv σ js)[k]?=some (some v):=by simpa using e2
    obtain ⟨j,a,q1,q2,q3,q4,q5⟩:=hcaps k z e1'
    obtain ⟨j',r1,r2⟩:=capv_get e2'
    rw [q1] at r1;cases r1
    obtain ⟨m,hm,hl⟩:=I2.loc
    obtain ⟨u,ru,lu⟩:=hl j z v q2 r2 (.inr (.inl q3))
    refine ⟨u,ru,.inr ⟨.inl q5,a,q4,?_⟩⟩
    rcases lu with ⟨k1,_⟩ | ⟨_,c,ec,o,ho,hd⟩
    ·have k1':X.env.scope.names.lookup z=some .local:=k1
     rw [q3] at k1';cases k1'
    ·have:=hsub _ (PySem.mem_of_lookup q4)
     rw [ec] at this;cases this
     exact ⟨o,old _ _ ho,hd⟩
  ·obtain ⟨v,o,ho,hd⟩:=I2.cell z c (hsub _ (PySem.mem_of_lookup e))
   exact ⟨v,o,old _ _ ho,hd⟩
  ·show upd H2 s2.heap.objs.size (.lst []) G.objs.size=none
   rw [Jd hDC.symm]
   exact I2.hok.fresh hCle
  ·have ec:=hsub _ (PySem.mem_of_lookup e)
   obtain ⟨v,o,ho,hd⟩:=I2.cell z c ec
   rw [Jd (Nat.ne_of_lt (Heap.lt_size ho))]
   exact I2.freeC z c ec
  ·show (none :: capv σ js).length=(x :: caps).length
   unfold capv
   simp [hlen]
 have stat:∀ {H':Hp},(∀ b∈fp,H' b=none)→∀ b∈fp,FpOk (X.block (x :: caps) scope cl G.objs.size fp s2 H2) [] H' b:=fun hn b hb =>
  ⟨hn b hb,Nat.ne_of_lt (Nat.lt_of_lt_of_le (fl b hb) hCle),(J2u (x:=x) (caps:=caps) I2 hCle f2 fl hkind hcell hsub hhas).exfs b hb,.inl hb,fun z c e=>(f2 b hb).2.2.2.2.1 z c (hsub _ (PySem.mem_of_lookup e)),fun p hp=>absurd hp (by simp)⟩
 have hxl:(relabel scope X.env).names.lookup x=some .local:=lookup_relabel_local hx
 have loop:∀ tk,codeAny (model X.prog X.w) X.A (.compLoop (.ListComp elt [⟨.Name x px,iter,ifs,0⟩] scope pos) 0 (.ref it) (.ref s2.heap.objs.size) (compEnvC scope cl G.objs.size X.env))
   (compPost (model X.prog X.w) X.A X.xe use QV (.ref s2.heap.objs.size) G.objs.size) { s2 with heap:=h₁,toks:=tk }:=fun tk=>by
  refine J18 (fun m s'=>∃ (k:Nat) (o:Option V) (ys:List V) (H':Hp),Inv (X.block (x :: caps) scope cl G.objs.size fp s2 H2) [] (o :: capv σ js) H' s'∧tn k s'.heap∧(∀ b∈fp,H' b=none)∧W k m ys H') ?_ m0
   ⟨0,none,[],_,IY0 tk,T.keep _ _ _ st2 fun b hb o e=>old b o e,fun b hb=>by
    rw [Jd (show b≠s2.heap.objs.size from fun e=>hDf (by rw [← e];exact hb))]
    exact (f2 b hb).1,w0⟩
  rintro m s3 ⟨k,o,ys,H',I3,st3,fr3,w3⟩
  obtain ⟨hd,hW3⟩:=hW k m ys H' w3
  rcases hW3 with ⟨stop,q⟩ | ⟨go,hz,step⟩
  ·refine thn (T.done (X.block (x :: caps) scope cl G.objs.size fp s2 H2) rfl rfl rfl hc k [] s3 _ _ (fun _ _=>False) I3 (stat fr3) st3 stop) fun r s4 ⟨hr,I4⟩=>?_
   subst hr
   have J5:Inv X pins σ H' s4:=I2.call' (ch:=fp) I4.os I4.base I4.hok I4.bare fun b hb=>⟨(f2 b hb).2.2.2.1,(f2 b hb).2.1,(f2 b hb).2.2.2.2.1,(f2 b hb).2.2.2.2.2⟩
   exact fin _ H' s4 _ J5 q (let ⟨m,q,_⟩:=I4.loc;⟨m,q⟩) (I2.fpOk hCle I4.free)
  ·refine thn (T.item (X.block (x :: caps) scope cl G.objs.size fp s2 H2) rfl rfl rfl hc k [] s3 _ _ (fun _ _=>False) I3 (stat fr3) st3 go) fun r s4 ⟨u,hr,h4⟩=>?_
   subst hr
   refine thn h4 fun _ s5 ⟨v,H5,I5,r5,y5,st5,fr5⟩=>?_
   have I5':=I5.pinned (stat fr5) (T.obj _ _ st5)
   have stp:=step v H5 y5
   refine thn (J33 (X:=X.block (x :: caps) scope cl G.objs.size fp s2 H2) (i:=0) (pos:=px) hnd rfl (.inl hxl) (.inr hxl) _ s5 _ _ _ u
    (fun σ' H'=>σ'=some v :: capv σ js∧H'=H5) I5' r5 ⟨rfl,rfl⟩) fun _ s6 ⟨σ6,H6,I6,q6⟩=>?_
   obtain ⟨rfl,rfl⟩:=q6
   refine thn (ht _ _ _ _ _ s6 _ _ _ I6 stp) fun ok s7 ⟨H7,I7,q7⟩=>?_
   have back:∀ {s8:Shared} {H8:Hp} {o8:Option V} {ys8:List V} {m':Nat},Inv (X.block (x :: caps) scope cl G.objs.size fp s2 H2) ([] ++ pinsAt fp s5.heap) (o8 :: capv σ js) H8 s8→m' < m→W (k + 1) m' ys8 H8→
     ∃ m',m' < m∧∃ (k:Nat) (o:Option V) (ys:List V) (H':Hp),Inv (X.block (x :: caps) scope cl G.objs.size fp s2 H2) [] (o :: capv σ js) H' s8∧tn k s8.heap∧(∀ b∈fp,H' b=none)∧W k m' ys H':=fun {s8 H8 o8 ys8 m'} I8 hm w8=>by
    refine ⟨m',hm,k + 1,o8,ys8,H8,I8.unpinned,T.keep _ _ _ st5 fun b hb o e=>(I8.pin (b,o) (List.mem_append_right _ (List.mem_append_right _ (J10 hb e)))).1,fun b hb=>?_,w8⟩
    obtain ⟨o,e,d⟩:=T.obj _ _ st5 b hb
    exact (I8.pin (b,o) (List.mem_append_right _ (List.mem_append_right _ (J10 hb e)))).2.1
   cases ok with
   | false =>
    have q7':∃ m',m' < m∧W (k + 1) m' ys H7:=by
     have:=q7
     rwa [if_neg (by decide)] at this
    obtain ⟨m',hm,w8⟩:=q7'
    exact back I7 hm w8
   | true =>
    have q7':te (some v :: capv σ js) H7 fun y H5=>H5 s2.heap.objs.size=some (.lst ys)∧∃ m',m' < m∧W (k + 1) m' (ys ++ [y]) (upd H5 s2.heap.objs.size (.lst (ys ++ [y]))):=by
     have:=q7
     rwa [if_pos rfl] at this
    refine (show wpAny _ _ _ _ _ _ from thn (he _ _ _ _ _ s7 _ _ _ I7 q7') fun u8 s8 ⟨v8,H8,I8,r8,hd8,m',hm,w8⟩=>?_)
    refine thn (J2n (X:=X.block (x :: caps) scope cl G.objs.size fp s2 H2) _ s8 _ _ (.ref s2.heap.objs.size) [v8] (.ref s2.heap.objs.size) [u8]
     (fun _ H'=>H'=upd H8 s2.heap.objs.size (.lst (ys ++ [v8]))) I8 rfl (.cons r8 .nil) ⟨s2.heap.objs.size,_,v8,rfl,rfl,hd8,hz,rfl⟩) fun _ s9 ⟨_,H9,I9,_,q9⟩=>?_
    subst q9
    exact back I9 hm w8
 have st1:tn 0 h₁:=T.keep _ _ _ st2 fun b hb o e=>old b o e
 exact codeAny_compStart_list (loop _) (T.self X.A 0 _ _ _ st1 (loop _))
def capsOk (X:Cx) (scope:Scope) (cl:List (Str × Addr)) (caps:List Str) (js:List Nat):Bool :=
 (caps.zip js).all fun q=>X.N[q.2]? == some q.1 && X.env.scope.names.lookup q.1 == some .cell && (cl.lookup q.1).isSome && (relabel scope X.env).names.lookup q.1 == some .cell
theorem capsOk.get (hlen:caps.length=js.length) (h:capsOk X scope cl caps js=true):∀ (k:Nat) (c:Str),caps[k]?=some c→∃ (j:Nat) (a:Addr),js[k]?=some j∧X.N[j]?=some c∧X.env.scope.names.lookup c=some .cell∧cl.lookup c=some a∧(relabel scope X.env).names.lookup c=some .cell:=fun k c hk=>by
 have hkl:k < caps.length:=(List.getElem?_eq_some_iff.mp hk).1
 have hj:js[k]?=some (js[k]'(hlen ▸ hkl)):=List.getElem?_eq_getElem (hlen ▸ hkl)
 have hm:(c,js[k]'(hlen ▸ hkl))∈caps.zip js:=by
  refine List.mem_iff_getElem?.mpr ⟨k,?_⟩
  rw [List.getElem?_zip_eq_some]
  exact ⟨hk,hj⟩
 have:=List.all_eq_true.mp h _ hm
 simp only [Bool.and_eq_true,beq_iff_eq] at this
 obtain ⟨⟨⟨q1,q2⟩,q3⟩,q4⟩:=this
 obtain ⟨a,ha⟩:=Option.isSome_iff_exists.mp q3
 exact ⟨_,a,hj,q1,q2,ha,q4⟩
def freeOk (scope:Scope) (cl:List (Str × Addr)):Bool:=scope.names.all fun p=>p.2 != .free || (cl.lookup p.1).isSome
theorem freeOk.get (h:freeOk scope cl=true):∀ p∈scope.names,p.2=.free→∃ c,cl.lookup p.1=some c:=fun p hp' e=>by
 have:=List.all_eq_true.mp h p hp'
 rw [e] at this
 exact Option.isSome_iff_exists.mp (by simpa using this)
theorem pe_lc (hc:X.calm=true) (hp:PI X (.Name x px) iter wi) (hclos:closureFor scope X.env=pure cl)
  (ht:∀ (C:Addr) (fp:List Addr) (s:Shared) (H:Hp),PTs (X.block (x :: caps) scope cl C fp s H) ifs tc)
  (he:∀ (C:Addr) (fp:List Addr) (s:Shared) (H:Hp),PE (X.block (x :: caps) scope cl C fp s H) elt te)
  (hcell:∀ p∈scope.names,p.2≠.cell) (hnames:∀ p∈scope.names,p.2=.local→scope.names.lookup p.1=some .local) (hnd:(x :: caps).Nodup)
  (hsub:∀ p∈cl,X.env.cells.lookup p.1=some p.2)
  (hhas:freeOk scope cl=true:=by rfl) (hlen:caps.length=js.length:=by rfl) (hcaps:capsOk X scope cl caps js=true:=by rfl)
  (hkind:scope.kind=.function:=by rfl) (hx:scope.names.lookup x=some .local:=by rfl) (hs:∀ v,foldedSetIterable iter X.env v=pure v:=by intro _;rfl) :
  PE X (.ListComp elt [⟨.Name x px,iter,ifs,0⟩] scope pos) (tLC wi tc te js):=by
 intro pins s σ H Q I h
 rw [eval_ListComp]
 refine comp_core (use:=none) hc hp he ht hcell hnames hnd hsub (freeOk.get hhas) hlen (capsOk.get hlen hcaps) hclos hkind hx hs I h fun d H' s5 C J5 q hC fp=>?_
 obtain ⟨m,nsC⟩:=hC
 exact ⟨m,nsC,fun h' hs'=>⟨.ref d,H',J5.turned (h':=h') (t':=s5.toks) (it:=C) (fun b o hb e=>(hs'.2 b hb).trans e) fp.1 fp.2.1 fp.2.2.2.1 fp.2.2.2.2.1 fp.2.2.2.2.2,rfl,q⟩⟩
def tSetLC (t:TE) (i:Nat):TS:=fun D σ H=>t σ H fun v H'=>D.nx (σ.set i (some v)) H'
theorem ps_lc (hN:X.N.Nodup) (hi:X.N[i]?=some y) (hy:Loc X.env.scope y) (hc:X.calm=true) (hp:PI X (.Name x px) iter wi) (hclos:closureFor scope X.env=pure cl)
  (ht:∀ (C:Addr) (fp:List Addr) (s:Shared) (H:Hp),PTs (X.block (x :: caps) scope cl C fp s H) ifs tc)
  (he:∀ (C:Addr) (fp:List Addr) (s:Shared) (H:Hp),PE (X.block (x :: caps) scope cl C fp s H) elt te)
  (hcell:∀ p∈scope.names,p.2≠.cell) (hnames:∀ p∈scope.names,p.2=.local→scope.names.lookup p.1=some .local) (hnd:(x :: caps).Nodup)
  (hsub:∀ p∈cl,X.env.cells.lookup p.1=some p.2)
  (hhas:freeOk scope cl=true:=by rfl) (hlen:caps.length=js.length:=by rfl) (hcaps:capsOk X scope cl caps js=true:=by rfl)
  (hf:X.fn y=true∨X.env.scope.names.lookup y=some .local:=by first | exact .inl rfl | exact .inr rfl | assumption)
  (hsw:swapsWith (.ListComp elt [⟨.Name x px,iter,ifs,0⟩] scope pos) (some (.Name y py)) spos.line X.env=pure true:=by rfl)
  (hkind:scope.kind=.function:=by rfl) (hx:scope.names.lookup x=some .local:=by rfl) (hs:∀ v,foldedSetIterable iter X.env v=pure v:=by intro _;rfl) :
  PS X (.Assign [.Name y py] (.ListComp elt [⟨.Name x px,iter,ifs,0⟩] scope pos) spos) (tSetLC (tLC wi tc te js) i):=by
 intro pins s σ H D I h
 rw [exec_Assign_Name_used _ _ _ _ hsw]
 refine wpAny_bind (wpAny_standAt (wpAny_bind ?_))
 show wpAny _ X.A (do let _ ← comprehension (.ListComp elt [⟨.Name x px,iter,ifs,0⟩] scope pos) scope X.env _ (newList []) false (eval iter X.env) (some (assign (.Name y py) X.env))) _ _ s
 refine wpAny_bind (wpAny_mono (comp_core (use:=some (assign (.Name y py) X.env)) (QV:=fun _ s'=>SP X pins D .next s') hc hp he ht hcell hnames hnd hsub (freeOk.get hhas) hlen (capsOk.get hlen hcaps) hclos hkind hx hs I h fun d H' s5 C J5 q hC fp=>?_)
  (fun _ s' hq=>wpAny_pure (wpAny_pure hq)) fun _ _ e=>e)
 obtain ⟨mC,nsC⟩:=hC
 show wpAny _ X.A (assign (.Name y py) X.env (.ref d)) _ _ s5
 refine wpAny_assign_Name ?_
 refine J2h J5 hN hi hy (v:=.ref d) rfl (fun s6 I6 keep6=>?_) hf
 obtain ⟨a,sa,ha⟩:=keep6
 have aC:a≠C:=by
  rcases ha with e | e
  ·rw [e];exact Ne.symm fp.2.1
  ·exact fp.2.2.2.2.1 y a e
 exact ⟨mC,nsC.sameBut sa (Ne.symm aC),fun h' hs'=>⟨_,H',I6.turned (h':=h') (t':=s6.toks) (it:=C) (fun b o hb e=>(hs'.2 b hb).trans e) fp.1 fp.2.1 fp.2.2.2.1 fp.2.2.2.2.1 fp.2.2.2.2.2,q⟩⟩
end
theorem lc_over {J:It} {H1:Hp} {tc:TT} {te:TE} {σ:St} {js:List Nat} {Q:VK} {d:Addr} (n:Nat) (g:Nat→Bool) (f:Nat→V) (hd:H1 d=none) (hn:n≤1000)
  (hgo:∀ i H,i < n→Same H1 H→J.go i H) (hst:∀ H,Same H1 H→J.stop n H) (vv:Nat→V) (hy:∀ i H v H',i < n→Same H1 H→J.yld i H v H'→H'=H∧v=vv i)
  (hs:∀ i H Qt,i < n→Same H1 H→(∀ H',Same H H'→Qt (g i) H')→tc (some (vv i) :: capv σ js) H Qt)
  (he:∀ i H Qe,i < n→g i=true→Same H1 H→(∀ H',Same H H'→Qe (f i) H')→te (some (vv i) :: capv σ js) H Qe)
  (hq:∀ H',Same H1 H'→H' d=some (.lst (((List.range n).filter g).map f))→Q (.ref d) H') :
  ∃ W:Nat→Nat→List V→Hp→Prop,(∃ m,W 0 m [] (upd H1 d (.lst [])))∧
   ∀ i m ys H2,W i m ys H2→H2 d=some (.lst ys)∧((J.stop i H2∧Q (.ref d) H2)∨(J.go i H2∧ys.length < sizeLine∧∀ v H3,J.yld i H2 v H3→
    tc (some v :: capv σ js) H3 fun b H4=>if b=true then te (some v :: capv σ js) H4 fun y H5=>H5 d=some (.lst ys)∧∃ m',m' < m∧W (i + 1) m' (ys ++ [y]) (upd H5 d (.lst (ys ++ [y])))
     else ∃ m',m' < m∧W (i + 1) m' ys H4)):=by
 have s0:∀ o,Same H1 (upd H1 d o):=fun o b u e=>by rw [Jd (Jc e hd)];exact e
 refine ⟨fun i m ys H=>m=n - i∧i≤n∧ys=((List.range i).filter g).map f∧Same H1 H∧H d=some (.lst ys),⟨n,rfl,Nat.zero_le _,rfl,s0 _,J2⟩,?_⟩
 rintro i m ys H2 ⟨rfl,hi,rfl,sm,h2⟩
 refine ⟨h2,?_⟩
 by_cases hlt:i < n
 ·refine .inr ⟨hgo i H2 hlt sm,?_,fun v H3 y3=>?_⟩
  ·have h1:(((List.range i).filter g).map f).length≤i:=by
    rw [List.length_map]
    exact Nat.le_trans (List.length_filter_le _ _) (by rw [List.length_range];exact Nat.le_refl _)
   exact Jx (by omega)
  ·obtain ⟨rfl,rfl⟩:=hy i H2 v H3 hlt sm y3
   refine hs i H3 _ hlt sm fun H4 s4=>?_
   cases hg:g i with
   | false =>
    rw [if_neg (by decide)]
    refine ⟨n - (i + 1),by omega,rfl,hlt,?_,sm.trans s4,s4 _ _ h2⟩
    rw [List.range_succ,List.filter_append,List.map_append]
    simp [hg]
   | true =>
    rw [if_pos rfl]
    refine he i H4 _ hlt hg (sm.trans s4) fun H5 s5=>⟨s5 _ _ (s4 _ _ h2),n - (i + 1),by omega,rfl,hlt,?_,?_,J2⟩
    ·rw [List.range_succ,List.filter_append,List.map_append]
     simp [hg]
    ·intro b u e
     rw [Jd (Jc e hd)]
     exact s5 _ _ (s4 _ _ (sm _ _ e))
 ·have e:i=n:=by omega
  subst e
  exact .inl ⟨hst H2 sm,hq H2 sm h2⟩
theorem Same.tup {K:PySem.W.Frag} {H H':Hp} {a:Addr} {xs:List V} (e:Same H H') (h:SqT K H a xs):SqT K H' a xs:=by
 rcases h with (h | ⟨o,h⟩) | h
 ·exact .inl (.inl (e _ _ h))
 ·exact .inl (.inr ⟨o,e _ _ h⟩)
 ·exact .inr h
theorem pick_all {α:Type} (G:α→Bool) (F:α→V):∀ xs:List α,
  ((List.range xs.length).filter fun i=>match xs[i]? with | some v=>G v | none=>false).map (fun i=>match xs[i]? with | some v=>F v | none=>V.non)=(xs.filter G).map F
 | []=>rfl
 | a :: r=>by
  have ih:=pick_all G F r
  rw [List.length_cons,List.range_succ_eq_map,List.filter_cons,List.filter_map,List.filter_cons]
  have e:(fun i=>match (a :: r)[i]? with | some v=>G v | none=>false) ∘ Nat.succ=fun i=>match r[i]? with | some v=>G v | none=>false:=by
   funext i;simp
  have e2:(fun i=>match (a :: r)[i]? with | some v=>F v | none=>V.non) ∘ Nat.succ=fun i=>match r[i]? with | some v=>F v | none=>V.non:=by
   funext i;simp
  rw [e]
  cases hg:G a with
  | true =>
   simp only [List.getElem?_cons_zero,hg,if_true,List.map_cons,List.map_map]
   rw [e2,ih]
  | false =>
   simp only [List.getElem?_cons_zero,hg,Bool.false_eq_true,if_false,List.map_map]
   rw [e2,ih]
section
variable {α:Type} {K:PySem.W.Frag} {a:Addr} {H1:Hp} {tc:TT} {te:TE} {σ:St} {js:List Nat} {Q:VK} {d:Addr}
theorem lc_seq {J:It} (e:α→V) (xs:List α) (G:α→Bool) (F:α→V) (hn:xs.length≤1000) (hd:H1 d=none)
  (hgo:∀ i H,i < xs.length→Same H1 H→J.go i H) (hst:∀ H,Same H1 H→J.stop xs.length H) (hy:∀ i H v H',i < xs.length→Same H1 H→J.yld i H v H'→H'=H∧(xs.map e)[i]?=some v)
  (hs:∀ v∈xs,∀ H Qt,Same H1 H→(∀ H',Same H H'→Qt (G v) H')→tc (some (e v) :: capv σ js) H Qt)
  (he:∀ v∈xs,∀ H Qe,G v=true→Same H1 H→(∀ H',Same H H'→Qe (F v) H')→te (some (e v) :: capv σ js) H Qe)
  (hq:∀ H',Same H1 H'→H' d=some (.lst ((xs.filter G).map F))→Q (.ref d) H'):LCW J tc te σ js Q H1 d:=by
 have at_:∀ i,i < xs.length→∃ v,xs[i]?=some v∧v∈xs:=fun i hi=>⟨_,List.getElem?_eq_getElem hi,List.getElem_mem hi⟩
 refine lc_over xs.length (fun i=>match xs[i]? with | some v=>G v | none=>false) (fun i=>match xs[i]? with | some v=>F v | none=>V.non) hd hn hgo hst (fun i=>((xs.map e)[i]?).getD .non)
  (fun i H v H' hi s y=>?_) (fun i H Qt hi s k=>?_) (fun i H Qe hi hg s k=>?_) (fun H' s h=>?_)
 ·obtain ⟨e1,e2⟩:=hy i H v H' hi s y
  exact ⟨e1,by rw [e2];rfl⟩
 ·obtain ⟨v,e1,hv⟩:=at_ i hi
  rw [List.getElem?_map,e1]
  refine hs v hv H Qt s fun H' s'=>?_
  have:=k H' s'
  rw [e1] at this
  exact this
 ·obtain ⟨v,e1,hv⟩:=at_ i hi
  rw [e1] at hg
  rw [List.getElem?_map,e1]
  refine he v hv H Qe hg s fun H' s'=>?_
  have:=k H' s'
  rw [e1] at this
  exact this
 ·rw [pick_all] at h
  exact hq H' s h
theorem lc_lst (e:α→V) (xs:List α) (G:α→Bool) (F:α→V) (hx:SqL K H1 a (xs.map e)) (hn:xs.length≤1000) (hd:H1 d=none)
  (hs:∀ v∈xs,∀ H Qt,Same H1 H→(∀ H',Same H H'→Qt (G v) H')→tc (some (e v) :: capv σ js) H Qt)
  (he:∀ v∈xs,∀ H Qe,G v=true→Same H1 H→(∀ H',Same H H'→Qe (F v) H')→te (some (e v) :: capv σ js) H Qe)
  (hq:∀ H',Same H1 H'→H' d=some (.lst ((xs.filter G).map F))→Q (.ref d) H'):LCW (Itl K a) tc te σ js Q H1 d :=
 lc_seq e xs G F hn hd (fun i H hi s=>⟨_,_,s.seq hx,by rw [List.getElem?_map,List.getElem?_eq_getElem hi];rfl⟩) (fun H s=>⟨_,s.seq hx,by rw [List.length_map];exact Nat.le_refl _⟩)
  (fun i H v H' hi s y=>⟨y.1,y.2 _ (s.seq hx)⟩) hs he hq
theorem lc_rng (lo:Int) (n:Nat) (G:Nat→Bool) (F:Nat→V) (hn:n≤1000) (hd:H1 d=none)
  (hs:∀ i,i < n→∀ H Qt,Same H1 H→(∀ H',Same H H'→Qt (G i) H')→tc (some (.int (lo + i)) :: capv σ js) H Qt)
  (he:∀ i,i < n→∀ H Qe,G i=true→Same H1 H→(∀ H',Same H H'→Qe (F i) H')→te (some (.int (lo + i)) :: capv σ js) H Qe)
  (hq:∀ H',Same H1 H'→H' d=some (.lst (((List.range n).filter G).map F))→Q (.ref d) H'):LCW (Itr lo n) tc te σ js Q H1 d :=
 lc_over n G F hd hn (fun i H hi _=>hi) (fun H _=>Nat.le_refl _) (fun i=>.int (lo + i)) (fun i H v H' hi _ y=>y) (fun i H Qt hi s k=>hs i hi H Qt s k) (fun i H Qe hi hg s k=>he i hi H Qe hg s k) hq
end
theorem Jp {α:Type} (xs:List α):xs.filter (fun _=>true)=xs:=List.filter_eq_self.mpr fun _ _=>rfl
theorem pe_ixr {X:Cx} {a b:Expr} {pos:Pos} {ta tb:TE} {r:R2} (hr:IxR X r) (ha:PE X a ta) (hb:PE X b tb) (hs:PlainIx b:=by intro _ _;rfl):PE X (.Subscript a b pos) (tOp r ta tb):=pe_ix hr ha hb hs
end L2
namespace L2
open PySem PySem.Spec PyProof.Rows
section
variable {X:Cx}
def rEqT (K:PySem.W.Frag):R2:=fun x y H Q=>∃ p q xs ys,x=.ref p∧y=.ref q∧SqT K H p xs∧SqT K H q ys∧Kin xs ys∧Q (.bl (decide (xs=ys))) H
theorem tup_all {xs ys:List V} {its its2:List Value} (l1:xs.length=its.length) (l2:ys.length=its2.length) (hk:Kin xs ys) :
  ((List.range (min its.toArray.size its2.toArray.size)).all (eAt xs ys) && its.toArray.size == its2.toArray.size)=decide (xs=ys):=by
 rw [List.size_toArray,List.size_toArray,← l1,← l2]
 by_cases hl:xs.length=ys.length
 ·rw [hl,Nat.min_self,← hl,all_eAt hl hk]
  simp
 ·rw [decide_eq_false (fun e=>hl (congrArg List.length e)),show (xs.length == ys.length)=false from by simpa using hl,Bool.and_false]
theorem op_eqT (hu:X.A.units < cLine):OpR X (compareOp .Eq) (rEqT X.K):=by
 intro pins s σ H x y v u Q I rx ry h
 obtain ⟨p,q,xs,ys,rfl,rfl,hp,hq,hk,hQ⟩:=h
 cases rx
 cases ry
 obtain ⟨its,r,pl,_⟩:=I.tuple hp
 obtain ⟨its2,r2,pl2,_⟩:=I.tuple hq
 refine SeqAt.eq_tupleAt (show s.heap.IsTuple p its.toArray from pl) (show s.heap.IsTuple q its2.toArray from pl2) hu (fun j h1 h2=>eAt_at r r2 hk j h1 h2) ?_
 rw [tup_all r.length r2.length hk]
 exact ⟨.bl _,H,I,rfl,hQ⟩
def CBig (i j:Int):Prop:=i.natAbs < 2 ^ 4000∧j.natAbs < 2 ^ 4000
theorem bits_big {k:Int} (h:k.natAbs < 2 ^ 4000):Builtin.Int.intBits k≤2 ^ 20:=by
 unfold Builtin.Int.intBits
 split
 ·exact Nat.zero_le _
 ·have:k.natAbs.log2 < 4000:=by
   rcases Nat.eq_zero_or_pos k.natAbs with h0 | hp
   ·rw [h0];decide
   ·exact (Nat.log2_lt (Nat.ne_of_gt hp)).mpr h
  have h2:(4001:Nat)≤2 ^ 20:=by decide
  omega
theorem op_mulB:OpR X (binaryOp .Mult) (rI CBig fun i j=>.int (i * j)):=opI fun _ _ _ _ _ _ _ hc q=>mul_int q (.of_bits (bits_big hc.1) (bits_big hc.2))
theorem bools_at {bs:List Bool} {i:Nat} {v:Value} (h:((bs.map Value.bool).toArray)[i]?=some v):v=Value.bool (bs.getD i false):=by
 rw [List.getElem?_toArray,List.getElem?_map] at h
 cases e:bs[i]? with
 | none=>rw [e] at h;cases h
 | some b =>
  rw [e] at h
  rw [List.getD_eq_getElem?_getD,e]
  exact (Option.some.inj h).symm
theorem truth_bools {prog:Program} {w:World} {A:Around} (bs:List Bool):TruthOf prog w A (fun i v=>((bs.map Value.bool).toArray)[i]?=some v) (fun i=>bs.getD i false):=by
 intro i v s Q E hP h
 rw [bools_at hP]
 exact wpAny_truthy_bool h
theorem range_all (bs:List Bool):((List.range bs.length).all fun i=>bs.getD i false)=bs.all id:=by
 have e:(List.range bs.length).map (fun i=>bs.getD i false)=bs:=by
  apply List.ext_getElem
  ·simp
  ·intro n h1 h2
   simp [List.getElem?_eq_getElem h2]
 conv=>rhs;rw [← e]
 rw [List.all_map]
 rfl
theorem J3n (hc:X.calm=true):CallR X (.builtin "all") (fun xs H Q=>∃ (p:Addr) (bs:List Bool),xs=[.ref p]∧SqL X.K H p (bs.map V.bl)∧Q (.bl (bs.all id)) H):=by
 intro pins s σ H xs us Q I r h
 obtain ⟨p,bs,rfl,hq,q⟩:=h
 obtain ⟨u,rfl,rx⟩:=vals1 r
 cases rx
 obtain ⟨its,r',pl,hz⟩:=I.list hq
 obtain rfl:=boolsAre r'
 have hl:=pl.isList
 obtain ⟨o,ho,_⟩:=id hl
 have hne':p≠s.heap.objs.size:=Nat.ne_of_lt (Heap.lt_size ho)
 refine call_all_walk (wpAny_pyIter_list hl ⟨s.heap.objs.size,_,_,_,_,_,_,rfl,Walks.list (A:=X.A.in1) (I.ok.hd hc) _ p hne' _,⟨⟨_,Heap.get?_push_size _ rfl,rfl,rfl⟩,hl.at fun o e=>Heap.get?_push_of_some _ e⟩,truth_bools bs,fun h' tk hk=>?_⟩)
 rw [List.size_toArray,List.length_map,range_all]
 exact ⟨.bl _,H,I.kept (fun b o e=>hk b o (fun hb=>absurd (Heap.lt_size e) ((List.mem_singleton.mp hb) ▸ Nat.lt_irrefl _)) (Heap.get?_push_of_some _ e)),rfl,q⟩
end
end L2
namespace L2
open PySem PySem.Spec PyProof.Rows
section
variable {X:Cx}
theorem ix_listK (K:PySem.W.Frag) (h:X.K=K:=by rfl):IxR X (rIxL K):=by subst h;exact Ju
theorem ix_tupK (K:PySem.W.Frag) (h:X.K=K:=by rfl):IxR X (rIxT K):=by subst h;exact J21
theorem J3a (K:PySem.W.Frag) (h:X.K=K:=by rfl):CallR X (.builtin "len") (fun xs H Q=>∃ p ys,xs=[.ref p]∧(SqL K H p ys∨SqT K H p ys)∧Q (.int ys.length) H):=by subst h;exact J7
theorem op_inK (K:PySem.W.Frag) (h:X.K=K:=by rfl):OpR X (compareOp .In) (rIn K false):=by subst h;exact op_in_seq
end
end L2
namespace L2
open PySem PySem.Spec PyProof.Rows
section
variable {X:Cx}
theorem vals_strs:∀ {ys:List Str} {its:List Value},Vals (ys.map V.str) its→∃ l:List (Str × Tok),l.map (·.1)=ys∧its=strValues l
 | [],_,.nil=>⟨[],rfl,rfl⟩
 | y :: ys,_,.cons r t=>by
  obtain ⟨k,rfl⟩:=r
  obtain ⟨l,e1,e2⟩:=vals_strs t
  subst e1 e2
  exact ⟨(y,k) :: l,rfl,rfl⟩
def rJoin:V→List V→Hp→VK→Prop:=fun x xs H Q=>∃ (sep:Str) (p:Addr) (ys:List Str),x=.str sep∧xs=[.ref p]∧H p=some (.lst (ys.map V.str))∧sep.length≤16∧(ys.map (·.length)).sum + ys.length≤1048576∧Q (.str (Txt.join sep ys)) H
theorem mt_join:MtR X "str.join" rJoin:=by
 intro pins s σ H x xs v us Q I rx rv h
 obtain ⟨sep,p,ys,rfl,rfl,hH,hs,hw,q⟩:=h
 obtain ⟨t,rfl⟩:=rx
 obtain ⟨u,rfl,ru⟩:=rv.one
 obtain rfl:u=Value.ref p:=ru
 obtain ⟨z,its,n,r,hl,e⟩:=I.lstM hH
 obtain ⟨l,e1,e2⟩:=vals_strs r
 subst e2
 exact SC.join (l:=l) ⟨_,e,rfl,_,rfl⟩ e1 (joinOk_of_weight hw hs) (fun t' k=>⟨.str _,H,I.tok _,⟨_,rfl⟩,q⟩)
end
end L2
namespace L2
open PySem PySem.Spec PyProof.Rows
structure Refs (Pr:Addr→Nat→Prop) (xs:List V) (n:Nat):Prop where
 len:xs.length=n
 at_:∀ i,i < n→∃ q,xs[i]?=some (.ref q)∧Pr q i
theorem Refs.nil {Pr:Addr→Nat→Prop}:Refs Pr [] 0:=⟨rfl,fun i h=>absurd h (Nat.not_lt_zero _)⟩
theorem Refs.mono {Pr Pr':Addr→Nat→Prop} {xs:List V} {n:Nat} (h:Refs Pr xs n) (m:∀ q i,i < n→Pr q i→Pr' q i):Refs Pr' xs n :=
 ⟨h.len,fun i hi=>let ⟨q,e,p⟩:=h.at_ i hi;⟨q,e,m q i hi p⟩⟩
end L2
namespace PySem
namespace F
end F
end PySem
namespace L2
open PySem PyProof.Rows
end L2
namespace Rl
def cellN (ns:List Int) (k:Nat):Int:=ns.getD k 0
def drawL (ns:List Int) (many:Nat) (top:Int):List Int:=(List.range many).map fun k=>1 + cellN ns (2 + k) % top
def insAt (xs:List Nat) (i y:Nat):List Nat:=xs.take i ++ y :: xs.drop i
def spotO (ns:List Int) (many k:Nat):Nat:=(cellN ns (2 + many + k) % ((k:Int) + 1)).toNat
def drawO (ns:List Int) (many:Nat):Nat→List Nat
 | 0=>[]
 | k + 1=>insAt (drawO ns many k) (spotO ns many k) k
theorem spotO_le (ns:List Int) (many k:Nat):spotO ns many k≤k∧((spotO ns many k:Nat):Int)=cellN ns (2 + many + k) % ((k:Int) + 1):=by
 unfold spotO
 have h1:0≤cellN ns (2 + many + k) % ((k:Int) + 1):=Int.emod_nonneg _ (by omega)
 have h2:cellN ns (2 + many + k) % ((k:Int) + 1) < (k:Int) + 1:=Int.emod_lt_of_pos _ (by omega)
 omega
theorem insAt_perm (xs:List Nat) (i y:Nat):(insAt xs i y).Perm (y :: xs):=by
 unfold insAt
 have h:(xs.take i ++ y :: xs.drop i).Perm (y :: (xs.take i ++ xs.drop i)):=List.perm_middle
 rwa [List.take_append_drop] at h
theorem J22 (ns:List Int) (many:Nat):∀ k,(drawO ns many k).Perm (List.range k)
 | 0=>List.Perm.refl _
 | k + 1=>by
  have h1:=insAt_perm (drawO ns many k) (spotO ns many k) k
  have h2:(k :: drawO ns many k).Perm (k :: List.range k):=(J22 ns many k).cons k
  have h3:(k :: List.range k).Perm (List.range (k + 1)):=by
   rw [List.range_succ]
   exact (List.perm_append_singleton k (List.range k)).symm
  exact h1.trans (h2.trans h3)
theorem drawO_len (ns:List Int) (many k:Nat):(drawO ns many k).length=k:=by
 rw [(J22 ns many k).length_eq,List.length_range]
theorem drawL_len (ns:List Int) (many:Nat) (top:Int):(drawL ns many top).length=many:=by simp [drawL]
theorem J2r {ns:List Int} {many:Nat} {top:Int} (ht:0 < top):∀ a∈drawL ns many top,1≤a∧a≤top:=fun a h=>by
 obtain ⟨k,_,rfl⟩:=List.mem_map.mp h
 have h1:=Int.emod_nonneg (cellN ns (2 + k)) (Int.ne_of_gt ht)
 have h2:=Int.emod_lt_of_pos (cellN ns (2 + k)) ht
 omega
theorem sum_le {b:Int}:∀ (xs:List Int),(∀ a∈xs,a≤b)→xs.sum≤(xs.length:Int) * b
 | [],_=>by simp
 | x :: xs,h=>by
  have h1:=h x List.mem_cons_self
  have h2:=sum_le xs fun a ha=>h a (List.mem_cons_of_mem _ ha)
  rw [List.sum_cons,List.length_cons]
  have e:(((xs.length + 1:Nat):Int)) * b=(xs.length:Int) * b + b:=by
   rw [Int.natCast_add,Int.add_mul];simp
  omega
theorem mul_top {n:Nat} {b:Int} (hn:n≤24) (hb:0≤b):(n:Int) * b≤24 * b:=Int.mul_le_mul_of_nonneg_right (by omega) hb
def sumsF (ls:List Int) (os:List Nat):Nat→List Int × Int
 | 0=>(List.replicate ls.length 0,0)
 | i + 1=>((sumsF ls os i).1.set (os.getD i 0) (sumsF ls os i).2,(sumsF ls os i).2 + ls.getD (os.getD i 0) 0)
theorem J1s (ls:List Int) (os:List Nat):∀ i,(sumsF ls os i).1.length=ls.length
 | 0=>by simp [sumsF]
 | i + 1=>by
  show ((sumsF ls os i).1.set _ _).length=_
  rw [List.length_set]
  exact J1s ls os i
def firsts (ls:List Int) (os:List Nat):List Int:=(sumsF ls os os.length).1
theorem J29:∀ {xs ys:List Int},xs.Perm ys→xs.Pairwise (·≤·)→ys.Pairwise (·≤·)→xs=ys
 | [],ys,h,_,_=>(List.Perm.nil_eq h)
 | x :: xs,[],h,_,_=>absurd h.length_eq (by simp)
 | x :: xs,y :: ys,h,hx,hy=>by
  have hx':=List.pairwise_cons.mp hx
  have hy':=List.pairwise_cons.mp hy
  have m1:x∈y :: ys:=h.mem_iff.mp List.mem_cons_self
  have m2:y∈x :: xs:=h.mem_iff.mpr List.mem_cons_self
  have e:x=y:=by
   rcases List.mem_cons.mp m1 with e | m1
   ·exact e
   ·rcases List.mem_cons.mp m2 with e | m2
    ·exact e.symm
    ·have a:=hx'.1 y m2
     have b:=hy'.1 x m1
     omega
  subst e
  rw [J29 h.cons_inv hx'.2 hy'.2]
def natI (os:List Nat):List Int:=os.map fun (n:Nat)=>(n:Int)
theorem J3e (n:Nat):(natI (List.range n)).Pairwise (·≤·):=by
 unfold natI
 rw [List.pairwise_map]
 exact List.pairwise_lt_range.imp fun h=>by omega
theorem J3b {os:List Nat} {n:Nat} {ns':List Int} (hp:os.Perm (List.range n)) (h1:ns'.Perm (natI os)) (h2:ns'.Pairwise (·≤·)):ns'=natI (List.range n) :=
 J29 (h1.trans (hp.map _)) h2 (J3e n)
end Rl
namespace Rl
def Jr (ls:List Int) (os:List Nat) (i:Nat):Int:=(sumsF ls os i).2
theorem J1n (ls:List Int) (os:List Nat):Jr ls os 0=0:=rfl
theorem Jq (ls:List Int) (os:List Nat) (i:Nat):Jr ls os (i + 1)=Jr ls os i + ls.getD (os.getD i 0) 0:=rfl
structure Ord (ls:List Int) (os:List Nat):Prop where
 pos:∀ a∈ls,1≤a
 perm:os.Perm (List.range ls.length)
theorem Ord.range {ls:List Int} {os:List Nat} (h:Ord ls os):Ord ls (List.range ls.length):=⟨h.pos,List.Perm.refl _⟩
theorem Ord.len {ls:List Int} {os:List Nat} (h:Ord ls os):os.length=ls.length:=by rw [h.perm.length_eq,List.length_range]
theorem Ord.nodup {ls:List Int} {os:List Nat} (h:Ord ls os):os.Nodup:=h.perm.nodup_iff.mpr List.nodup_range
theorem J1u {os:List Nat} {i:Nat} (h:i < os.length):os.getD i 0∈os:=by
 rw [List.getD_eq_getElem?_getD,List.getElem?_eq_getElem h];exact List.getElem_mem h
theorem getD_memI {ls:List Int} {i:Nat} (h:i < ls.length):ls.getD i 0∈ls:=by
 rw [List.getD_eq_getElem?_getD,List.getElem?_eq_getElem h];exact List.getElem_mem h
theorem Ord.lt {ls:List Int} {os:List Nat} (h:Ord ls os) {i:Nat} (hi:i < ls.length):os.getD i 0 < ls.length :=
 List.mem_range.mp (h.perm.mem_iff.mp (J1u (by rw [h.len];exact hi)))
theorem Ord.one {ls:List Int} {os:List Nat} (h:Ord ls os) {j:Nat} (hj:j < ls.length):1≤ls.getD j 0:=h.pos _ (getD_memI hj)
theorem Ord.inj {ls:List Int} {os:List Nat} (h:Ord ls os) {i j:Nat} (hi:i < ls.length) (hj:j < ls.length) (e:os.getD i 0=os.getD j 0):i=j:=by
 rw [List.getD_eq_getElem?_getD,List.getD_eq_getElem?_getD,List.getElem?_eq_getElem (by rw [h.len];exact hi),List.getElem?_eq_getElem (by rw [h.len];exact hj)] at e
 exact (List.getElem_inj h.nodup).mp e
theorem Ord.onto {ls:List Int} {os:List Nat} (h:Ord ls os) {j:Nat} (hj:j < ls.length):∃ i,i < ls.length∧os.getD i 0=j:=by
 obtain ⟨i,hi,e⟩:=List.getElem_of_mem (h.perm.mem_iff.mpr (List.mem_range.mpr hj))
 refine ⟨i,by rw [← h.len];exact hi,?_⟩
 rw [List.getD_eq_getElem?_getD,List.getElem?_eq_getElem hi];exact e
theorem Ord.step {ls:List Int} {os:List Nat} (h:Ord ls os) {i:Nat} (hi:i < ls.length):Jr ls os i < Jr ls os (i + 1):=by
 have:=h.one (h.lt hi)
 rw [Jq];lia
theorem Ord.mono {ls:List Int} {os:List Nat} (h:Ord ls os) {i:Nat}:∀ {k:Nat},i≤k→k≤ls.length→Jr ls os i≤Jr ls os k
 | 0,h1,_=>by rw [Nat.le_zero.mp h1];exact Int.le_refl _
 | k + 1,h1,h2=>by
  by_cases e:i=k + 1
  ·rw [e];exact Int.le_refl _
  ·have a:=h.mono (i:=i) (k:=k) (by lia) (by lia)
   have b:=h.step (i:=k) (by lia)
   lia
theorem set_get (f:List Int) (p q:Nat) (v:Int) (hp:p < f.length):(f.set p v).getD q 0=if q=p then v else f.getD q 0:=by
 rw [List.getD_eq_getElem?_getD,List.getD_eq_getElem?_getD]
 by_cases e:q=p
 ·subst e;rw [List.getElem?_set_self hp,if_pos rfl];rfl
 ·rw [List.getElem?_set_ne (Ne.symm e),if_neg e]
theorem Ord.at {ls:List Int} {os:List Nat} (h:Ord ls os) {i:Nat}:∀ {k:Nat},i < k→k≤ls.length→(sumsF ls os k).1.getD (os.getD i 0) 0=Jr ls os i
 | 0,h1,_=>absurd h1 (Nat.not_lt_zero _)
 | k + 1,h1,h2=>by
  show ((sumsF ls os k).1.set (os.getD k 0) (sumsF ls os k).2).getD (os.getD i 0) 0=_
  rw [set_get _ _ _ _ (by rw [J1s];exact h.lt (by lia))]
  by_cases e:i=k
  ·subst e;rw [if_pos rfl];rfl
  ·rw [if_neg (fun q=>e (h.inj (by lia) (by lia) q))]
   exact h.at (by lia) (by lia)
theorem Ord.first {ls:List Int} {os:List Nat} (h:Ord ls os) {i:Nat} (hi:i < ls.length):(firsts ls os).getD (os.getD i 0) 0=Jr ls os i:=by
 unfold firsts
 rw [h.len]
 exact h.at hi (Nat.le_refl _)
theorem J2o (ls:List Int):(List.range ls.length).map (fun j=>ls.getD j 0)=ls:=by
 apply List.ext_getElem?
 intro k
 rw [List.getElem?_map]
 by_cases hk:k < ls.length
 ·rw [List.getElem?_range hk,List.getElem?_eq_getElem hk]
  show some (ls.getD k 0)=_
  rw [List.getD_eq_getElem?_getD,List.getElem?_eq_getElem hk];rfl
 ·rw [List.getElem?_eq_none (by simpa using hk),List.getElem?_eq_none (by lia)];rfl
theorem J1o (ls:List Int) (os:List Nat):∀ i,i≤os.length→Jr ls os i=((os.take i).map fun j=>ls.getD j 0).sum
 | 0,_=>by simp [J1n]
 | i + 1,h=>by
  rw [Jq,J1o ls os i (by lia),List.take_succ,List.getElem?_eq_getElem (by lia)]
  simp only [Option.toList_some,List.map_append,List.map_cons,List.map_nil,List.sum_append,List.sum_cons,List.sum_nil]
  rw [List.getD_eq_getElem?_getD (l:=os),List.getElem?_eq_getElem (by lia)]
  simp
theorem perm_sum {xs ys:List Int} (h:xs.Perm ys):xs.sum=ys.sum:=by
 induction h with
 | nil=>rfl
 | cons x _ ih=>rw [List.sum_cons,List.sum_cons,ih]
 | swap x y l=>rw [List.sum_cons,List.sum_cons,List.sum_cons,List.sum_cons];lia
 | trans _ _ a b=>exact a.trans b
theorem Ord.whole {ls:List Int} {os:List Nat} (h:Ord ls os):Jr ls os ls.length=ls.sum:=by
 rw [J1o ls os _ (by rw [h.len];exact Nat.le_refl _),List.take_of_length_le (by rw [h.len];exact Nat.le_refl _)]
 have p:(os.map fun j=>ls.getD j 0).Perm ((List.range ls.length).map fun j=>ls.getD j 0):=h.perm.map _
 rw [perm_sum p,J2o]
def Lies (fs ls:List Int) (x:Int) (j:Nat):Prop:=j < ls.length∧fs.getD j 0≤x∧x < fs.getD j 0 + ls.getD j 0
theorem J17 {S:Nat→Int} {x:Int}:∀ (k:Nat),S 0≤x→x < S k→∃ i,i < k∧S i≤x∧x < S (i + 1)
 | 0,h0,h1=>by lia
 | k + 1,h0,h1=>by
  by_cases e:x < S k
  ·obtain ⟨i,hi,q⟩:=J17 k h0 e
   exact ⟨i,by lia,q⟩
  ·exact ⟨k,by lia,by lia,h1⟩
theorem Ord.lies {ls:List Int} {os:List Nat} (h:Ord ls os) {i:Nat} {x:Int} (hi:i < ls.length) (h1:Jr ls os i≤x) (h2:x < Jr ls os (i + 1)):Lies (firsts ls os) ls x (os.getD i 0):=by
 refine ⟨h.lt hi,?_,?_⟩
 ·rw [h.first hi];exact h1
 ·rw [h.first hi];rw [Jq] at h2;exact h2
theorem Ord.lies_of {ls:List Int} {os:List Nat} (h:Ord ls os) {j:Nat} {x:Int} (q:Lies (firsts ls os) ls x j):∃ i,i < ls.length∧os.getD i 0=j∧Jr ls os i≤x∧x < Jr ls os (i + 1):=by
 obtain ⟨hj,q1,q2⟩:=q
 obtain ⟨i,hi,e⟩:=h.onto hj
 subst e
 rw [h.first hi] at q1 q2
 exact ⟨i,hi,rfl,q1,by rw [Jq];exact q2⟩
theorem Ord.exists {ls:List Int} {os:List Nat} (h:Ord ls os) {x:Int} (h0:0≤x) (h1:x < ls.sum):∃ j,Lies (firsts ls os) ls x j:=by
 obtain ⟨i,hi,a,b⟩:=J17 (S:=Jr ls os) ls.length (by rw [J1n];exact h0) (by rw [h.whole];exact h1)
 exact ⟨_,h.lies hi a b⟩
theorem Ord.unique {ls:List Int} {os:List Nat} (h:Ord ls os) {x:Int} {j k:Nat} (a:Lies (firsts ls os) ls x j) (b:Lies (firsts ls os) ls x k):j=k:=by
 obtain ⟨i,hi,rfl,a1,a2⟩:=h.lies_of a
 obtain ⟨i',hi',rfl,b1,b2⟩:=h.lies_of b
 have:i=i':=by
  by_cases e:i < i'
  ·have:=h.mono (i:=i + 1) (k:=i') e (by lia);lia
  ·by_cases e':i' < i
   ·have:=h.mono (i:=i' + 1) (k:=i) e' (by lia);lia
   ·lia
 rw [this]
def moveN (ls:List Int) (ts:List Bool) (j:Nat) (off:Int) (fs:List Int):Int:=if ts.getD j false=true then fs.getD j 0 + ls.getD j 0 - 1 - off else fs.getD j 0 + off
end Rl
namespace Rl
def lenOf (ls:List Int) (row:List Nat):Int:=(row.map fun j=>ls.getD j 0).sum
theorem lenOf_ahead (ls:List Int) (os:List Nat):Jr ls os os.length=lenOf ls os:=by
 rw [J1o ls os _ (Nat.le_refl _),List.take_length];rfl
structure Row (ls:List Int) (os:List Nat):Prop where
 nd:os.Nodup
 lt:∀ j∈os,j < ls.length
 pos:∀ j∈os,1≤ls.getD j 0
theorem Row.inj {ls:List Int} {os:List Nat} (h:Row ls os) {i j:Nat} (hi:i < os.length) (hj:j < os.length) (e:os.getD i 0=os.getD j 0):i=j:=by
 rw [List.getD_eq_getElem?_getD,List.getD_eq_getElem?_getD,List.getElem?_eq_getElem hi,List.getElem?_eq_getElem hj] at e
 exact (List.getElem_inj h.nd).mp e
theorem Row.at {ls:List Int} {os:List Nat} (h:Row ls os) {i:Nat}:∀ {k:Nat},i < k→k≤os.length→(sumsF ls os k).1.getD (os.getD i 0) 0=Jr ls os i
 | 0,h1,_=>absurd h1 (Nat.not_lt_zero _)
 | k + 1,h1,h2=>by
  show ((sumsF ls os k).1.set (os.getD k 0) (sumsF ls os k).2).getD (os.getD i 0) 0=_
  rw [set_get _ _ _ _ (by rw [J1s];exact h.lt _ (J1u (by lia)))]
  by_cases e:i=k
  ·subst e;rw [if_pos rfl];rfl
  ·rw [if_neg (fun q=>e (h.inj (by lia) (by lia) q))]
   exact h.at (by lia) (by lia)
theorem Row.first {ls:List Int} {os:List Nat} (h:Row ls os) {i:Nat} (hi:i < os.length):(firsts ls os).getD (os.getD i 0) 0=Jr ls os i:=h.at hi (Nat.le_refl _)
theorem Row.step {ls:List Int} {os:List Nat} (h:Row ls os) {i:Nat} (hi:i < os.length):Jr ls os i < Jr ls os (i + 1):=by
 rw [Jq]
 have:=h.pos _ (J1u hi)
 lia
theorem Row.mono {ls:List Int} {os:List Nat} (h:Row ls os) {i:Nat}:∀ {k:Nat},i≤k→k≤os.length→Jr ls os i≤Jr ls os k
 | 0,h1,_=>by
  have e:i=0:=Nat.le_zero.mp h1
  rw [e]
  exact Int.le_refl _
 | k + 1,h1,h2=>by
  by_cases e:i=k + 1
  ·subst e;exact Int.le_refl _
  ·have a:=Row.mono h (i:=i) (k:=k) (by lia) (by lia)
   have b:=h.step (i:=k) (by lia)
   lia
def AtR (ls:List Int) (os:List Nat) (y:Int) (i:Nat):Prop:=i < os.length∧Jr ls os i≤y∧y < Jr ls os (i + 1)
theorem Row.exists {ls:List Int} {os:List Nat} (h:Row ls os) {y:Int} (h0:0≤y) (h1:y < lenOf ls os):∃ i,AtR ls os y i:=by
 rw [← lenOf_ahead] at h1
 obtain ⟨i,hi,a,b⟩:=J17 (S:=Jr ls os) os.length (by rw [J1n];exact h0) h1
 exact ⟨i,hi,a,b⟩
theorem Row.unique {ls:List Int} {os:List Nat} (h:Row ls os) {y:Int} {i k:Nat} (a:AtR ls os y i) (b:AtR ls os y k):i=k:=by
 obtain ⟨a1,a2,a3⟩:=a
 obtain ⟨b1,b2,b3⟩:=b
 rcases Nat.lt_trichotomy i k with q | q | q
 ·have:=h.mono (i:=i + 1) (k:=k) (by lia) (by lia)
  lia
 ·exact q
 ·have:=h.mono (i:=k + 1) (k:=i) (by lia) (by lia)
  lia
structure Rst where
 top:List Nat
 bot:List Nat
 ls:List Int
 ts:List Bool
structure Rst.Ok (r:Rst):Prop where
 row:Row r.ls r.top
 perm:r.bot.Perm r.top
 zl:∀ j,j ∉ r.top→r.ls.getD j 0=0
 zt:∀ j,j ∉ r.top→r.ts.getD j false=false
 len:r.ts.length=r.ls.length
 few:r.ls.length≤24
def Rst.size (r:Rst):Int:=lenOf r.ls r.top
theorem Rst.Ok.rowB {r:Rst} (h:r.Ok):Row r.ls r.bot:=⟨h.perm.nodup_iff.mpr h.row.nd,fun j hj=>h.row.lt j (h.perm.mem_iff.mp hj),fun j hj=>h.row.pos j (h.perm.mem_iff.mp hj)⟩
def GoesTo (r:Rst) (y z:Int):Prop:=∃ i,AtR r.ls r.top y i∧z=moveN r.ls r.ts (r.top.getD i 0) (y - Jr r.ls r.top i) (firsts r.ls r.bot)
theorem mem_at {os:List Nat} {j:Nat} (h:j∈os):∃ k,k < os.length∧os.getD k 0=j:=by
 obtain ⟨k,hk,e⟩:=List.getElem_of_mem h
 exact ⟨k,hk,by rw [List.getD_eq_getElem?_getD,List.getElem?_eq_getElem hk];exact e⟩
theorem Rst.Ok.goes {r:Rst} (h:r.Ok) {y z:Int} (g:GoesTo r y z):∃ i k,AtR r.ls r.top y i∧AtR r.ls r.bot z k∧r.bot.getD k 0=r.top.getD i 0∧
  z - Jr r.ls r.bot k=(if r.ts.getD (r.top.getD i 0) false=true then r.ls.getD (r.top.getD i 0) 0 - 1 - (y - Jr r.ls r.top i) else y - Jr r.ls r.top i):=by
 obtain ⟨i,⟨i1,i2,i3⟩,rfl⟩:=g
 obtain ⟨k,hk,ek⟩:=mem_at (h.perm.mem_iff.mpr (J1u i1))
 have f:=h.rowB.first hk
 rw [ek] at f
 rw [Jq] at i3
 refine ⟨i,k,⟨i1,i2,by rw [Jq];exact i3⟩,?_,ek,?_⟩
 ·unfold moveN
  refine ⟨hk,?_,?_⟩
  ·rw [f];split <;> lia
  ·rw [Jq,ek,f];split <;> lia
 ·unfold moveN
  rw [f];split <;> lia
theorem Rst.Ok.inj {r:Rst} (h:r.Ok) {y y' z:Int} (a:GoesTo r y z) (b:GoesTo r y' z):y=y':=by
 obtain ⟨i,k,hi,hk,e1,o1⟩:=h.goes a
 obtain ⟨i',k',hi',hk',e2,o2⟩:=h.goes b
 obtain rfl:=h.rowB.unique hk hk'
 rw [e1] at e2
 obtain rfl:=h.row.inj hi.1 hi'.1 e2
 rw [o1] at o2
 split at o2 <;> lia
theorem Rst.Ok.there {r:Rst} (h:r.Ok) {y:Int} (h0:0≤y) (h1:y < r.size):∃ z,GoesTo r y z:=by
 obtain ⟨i,hi⟩:=h.row.exists h0 h1
 exact ⟨_,i,hi,rfl⟩
end Rl
namespace Rl
end Rl
namespace L2
open PySem PySem.Spec PyProof.Rows
section
variable {X:Cx}
theorem strs_vals:∀ (l:List (Str × Tok)),Vals ((l.map (·.1)).map V.str) (strValues l)
 | []=>.nil
 | p :: r=>.cons ⟨p.2,rfl⟩ (strs_vals r)
def rSplit:V→List V→Hp→VK→Prop:=fun x xs H Q=>∃ (z y:Str),x=.str z∧xs=[.str y]∧(y.length == 0)=false∧z.length + 2≤sizeLine∧∀ d,H d=none→Q (.ref d) (upd H d (.lst ((Txt.split z y).map V.str)))
theorem J1z:MtR X "str.split" rSplit:=by
 intro pins s σ H x xs v us Q I rx rv h
 obtain ⟨z,y,rfl,rfl,hy,hz,q⟩:=h
 obtain ⟨t,rfl⟩:=rx
 obtain ⟨u,rfl,ru⟩:=rv.one
 obtain ⟨t',rfl⟩:=ru
 have fin:∀ (l:List (Str × Tok)) (k:Nat),l.map (·.1)=Txt.split z y→EP X pins σ Q (.ref s.heap.objs.size) { s with heap:=s.heap.push { cls:=.type "list",data:=.seq (strValues l).toArray },toks:=k }:=fun l k e=>by
  refine ⟨.ref s.heap.objs.size,_,I.laid (t':=k) (o:=.lst ((Txt.split z y).map V.str)) (fun b ob q=>Heap.get?_push_of_some _ q) (Nat.le_refl _) ⟨?_,strValues l,0,?_,Heap.get?_push_size _ rfl⟩,rfl,q _ (I.hok.fresh (Nat.le_refl _))⟩
  ·rw [List.length_map]
   exact Nat.le_trans (split_le z y) hz
  ·rw [← e];exact strs_vals l
 have hn:(Builtin.Str.partsBetween z (Builtin.Str.occurrences z y 0 z.length (z.length + 1)) y.length).length≤sizeLine:=by
  have e1:=StrLaws.occ_length_le z y 0 z.length (z.length + 1)
  rw [length_partsBetween];omega
 cases h1:(decide (z.length < y.length) || decide (Builtin.Str.strKind z < Builtin.Str.strKind y))
 ·cases hf:(Builtin.Str.occurrences z y 0 z.length (z.length + 1)).isEmpty
  ·refine call_meets PySem.F.slot_str_split (typeIs_str _ _ _) PySem.F.entry_str_split (PySem.F.args_str_split_2 _ _) (meets_str_split_sep z y t t' h1 hy hf (by omega) hn) ?_
   show wants _ _ _ { s with toks:=_,heap:=s.heap.push { cls:=.type "list",data:=.seq (strsFrom s.toks (Builtin.Str.partsBetween z (Builtin.Str.occurrences z y 0 z.length (z.length + 1)) y.length)).toArray } }
   rw [strsFrom_eq]
   exact fin (numbered s.toks _) _ ((numbered_texts _ _).trans ((if_neg (ne_true_of_eq_false h1)).trans (if_neg (ne_true_of_eq_false hf))).symm)
  ·exact call_meets PySem.F.slot_str_split (typeIs_str _ _ _) PySem.F.entry_str_split (PySem.F.args_str_split_2 _ _) (meets_str_split_not_found z y t t' h1 hy hf)
    (fin [(z,t)] s.toks ((if_neg (ne_true_of_eq_false h1)).trans (if_pos hf)).symm)
 ·exact call_meets PySem.F.slot_str_split (typeIs_str _ _ _) PySem.F.entry_str_split (PySem.F.args_str_split_2 _ _) (meets_str_split_cannot_occur z y t t' h1)
   (fin [(z,t)] s.toks (if_pos h1).symm)
def rEnds:V→List V→Hp→VK→Prop:=fun x xs H Q=>∃ (z y:Str),x=.str z∧xs=[.str y]∧Q (.bl (0 + y.length≤z.length && Builtin.Str.subAt z y (z.length - y.length))) H
theorem mt_ends:MtR X "str.endswith" rEnds:=by
 intro pins s σ H x xs v us Q I rx rv h
 obtain ⟨z,y,rfl,rfl,q⟩:=h
 obtain ⟨t,rfl⟩:=rx
 obtain ⟨u,rfl,ru⟩:=rv.one
 obtain ⟨t',rfl⟩:=ru
 exact call_gives PySem.F.slot_str_endswith (typeIs_str _ _ _) PySem.F.entry_str_endswith (PySem.F.args_str_endswith_2 _ _) (gives_str_endswith z y t t') (show EP X pins σ Q (.bool _) s from ⟨.bl _,H,I,rfl,q⟩)
def rSlS:V→Option Int→Option Int→Hp→VK→Prop:=fun x lo hi H Q=>∃ z,x=.str z∧z.length≤sizeLine∧Q (.str (Txt.slice z lo hi)) H
theorem sl_str:SlR X rSlS:=by
 intro pins s σ H x v vl vu lo hi sl Q I rx hs pl pu h
 obtain ⟨z,rfl,hz,q⟩:=h
 obtain ⟨t,rfl⟩:=rx
 refine ⟨"str",_,PySem.F.slot_str_getitem.lookup,typeIs_str _ _ _,?_⟩
 obtain ⟨o,e1,e2,e3⟩:=hs
 have fin:∀ t' k,EP X pins σ Q (.str (Txt.slice z lo hi) t') { s with toks:=k }:=fun t' k=>⟨.str _,H,I.tok _,⟨_,rfl⟩,q⟩
 cases pl with
 | none=>cases pu with
  | none=>exact wpAny_getItem_str_slice (l:=none) (u:=none) (st:=none) ⟨o,e1,e2,e3⟩ rfl (post_val_or_str ⟨Nat.le_trans (Txt.slice_le z _ _) hz,fin⟩)
  | int j uj=>exact wpAny_getItem_str_slice (l:=none) (u:=some (j,uj)) (st:=none) ⟨o,e1,e2,e3⟩ rfl (post_val_or_str ⟨Nat.le_trans (Txt.slice_le z _ _) hz,fin⟩)
 | int i ui=>cases pu with
  | none=>exact wpAny_getItem_str_slice (l:=some (i,ui)) (u:=none) (st:=none) ⟨o,e1,e2,e3⟩ rfl (post_val_or_str ⟨Nat.le_trans (Txt.slice_le z _ _) hz,fin⟩)
  | int j uj=>exact wpAny_getItem_str_slice (l:=some (i,ui)) (u:=some (j,uj)) (st:=none) ⟨o,e1,e2,e3⟩ rfl (post_val_or_str ⟨Nat.le_trans (Txt.slice_le z _ _) hz,fin⟩)
theorem call_intS:CallR X (.type "int") (fun xs H Q=>∃ z n,xs=[.str z]∧PySem.intText? z=some n∧z.length≤640∧Q (.int n) H):=by
 intro pins s σ H xs us Q I rv h
 obtain ⟨z,n,rfl,hn,hl,q⟩:=h
 obtain ⟨u,rfl,ru⟩:=rv.one
 obtain ⟨t',rfl⟩:=ru
 exact PySem.W.KIN.call_text hn hl ⟨.int n,H,I.tok _,⟨_,rfl⟩,q⟩
def tFI (c:Str) (ta:TE):TE:=fun σ H Q=>ta σ H fun x H1=>∃ i:Int,x=.int i∧i.natAbs < 10 ^ 40∧Q (.str (Str.empty ++ Str.ofString (toString i) ++ c)) H1
theorem pe_fi {a:Expr} {ta:TE} {c:Str} {k1:Nat} {p1 p2 pos:Pos} (ha:PE X a ta) (hc:c.length≤1000) :
  PE X (.JoinedStr [.FormattedValue a (-1) none p1,.Constant (.str c) k1 p2] pos) (tFI c ta):=by
 intro pins s σ H Q I h
 have hz:sizeLine=16777216:=sizeLine_eq
 refine wpAny_JoinedStr ?_
 show wpAny _ _ (eval (.FormattedValue a (-1) none p1) X.env) _ X.xe s
 refine wpAny_FormattedValue_plain (thn (ha pins s σ H _ I h) fun v s1 ⟨x,H1,I1,r1,q1⟩=>?_)
 obtain ⟨i,rfl,hi,q1⟩:=q1
 obtain ⟨t,rfl⟩:=r1
 have li:(Str.ofString (toString i)).length≤1048576:=by
  have:(Str.ofString (toString i)).length≤41:=by
   rw [PySem.ofString_length]
   exact int_text_length_le10 (by decide) hi
  omega
 have hi:i.natAbs.log2 < 1920:=by
  by_cases hz:i.natAbs=0
  ·rw [hz];decide
  ·refine (Nat.log2_lt hz).mpr (Nat.lt_trans hi ?_)
   decide +kernel
 refine wpAny_formatField_int hi ?_
 have l0:(Str.empty ++ Str.ofString (toString i)).length≤1048576:=by rw [strLen_append];show 0 + (Str.ofString (toString i)).length≤_;omega
 refine ⟨Str.ofString (toString i),_,rfl,by omega,?_⟩
 show wpAny _ _ (eval (.Constant (.str c) k1 p2) X.env) _ X.xe _
 refine Calls.Constant_str ?_
 have l1:(Str.empty ++ Str.ofString (toString i) ++ c).length≤1048576 + 1000:=by rw [strLen_append];omega
 refine ⟨c,_,rfl,by omega,?_⟩
 exact ⟨by omega,.str _,H1,((I1.tok _).tok _).tok _,⟨_,rfl⟩,q1⟩
end
def Itz (z:Str):It:=⟨fun i _=>i < z.cps.size,fun i H x H'=>H'=H∧∃ c,z.cps[i]?=some c∧x=.str ⟨#[c]⟩,fun i _=>i=z.cps.size⟩
theorem turn_str {P:Program} {w:World} {K:PySem.W.Frag} {tg:Expr} (z:Str) (t:Tok) (it:Addr) {n:String} (hn:["enumerate","zip","dict_itemiterator","dict_reverseitemiterator","odict_iterator","itertools.zip_longest","itertools.pairwise"].contains n=false)
  (W:∀ A':Around,A'.handled=none→Walks P w A' it [it] [it] z.cps.size (SignAt z) (fun i h=>h.IsStrIter it n z t i)) (S:∀ (A:Around) (i:Nat) (s:Shared) (Q:Value→Shared→Prop) (E:Value→Shared→Prop),s.heap.IsStrIter it n z t i→Q (.ref it) s→wpAny (model P w) A (pyIter (.ref it)) Q E s) :
  Turn P w K tg (Itz z) [it] it (fun i h=>h.IsStrIter it n z t i) where
 mem:=by simp
 obj:=fun i h st b hb=>by
  have e:b=it:=by simpa using hb
  subst e
  obtain ⟨o,e,c,d⟩:=st
  exact ⟨o,e,fun v z=>by rw [d] at z;cases z⟩
 keep:=fun i h h' st k=>let ⟨o,e,r⟩:=st;⟨o,k it (by simp) o e,r⟩
 item:=by
  intro X hP hw hK hc i pins s σ H E I hf st hg
  subst hP hw hK
  obtain ⟨f0,f1,f2,f3,f4,f5⟩:=hf it (by simp)
  refine (W X.A (I.ok.hd hc)).item i s _ _ hg st fun v h' tk hv st' kk=>?_
  obtain ⟨c,u,hcp,rfl⟩:=hv
  have I1:Inv X pins σ H { s with heap:=h',toks:=tk }:=I.turned (fun b o hb e=>kk b o (by simpa using hb) e) f0 f1 f3 f4 f5
  obtain ⟨o,e,c1,d⟩:=id st'
  exact ⟨_,rfl,go_of (s:={ s with heap:=h',toks:=tk }) e c1 d hn ⟨.str ⟨#[c]⟩,H,I1,⟨u,rfl⟩,⟨rfl,c,hcp,rfl⟩,st',fun b hb=>(hf b hb).1⟩⟩
 done:=by
  intro X hP hw hK hc i pins s σ H E I hf st hg
  subst hP hw hK
  obtain ⟨f0,f1,f2,f3,f4,f5⟩:=hf it (by simp)
  have hg:i=z.cps.size:=hg
  subst hg
  exact (W X.A (I.ok.hd hc)).done s _ _ st fun h' tk kk=>⟨rfl,I.turned (fun b o hb e=>kk b o (by simpa using hb) e) f0 f1 f3 f4 f5⟩
 self:=fun A i s Q E st h=>S A i s Q E st h
def iStr (tl:TE):TI:=fun σ H R=>tl σ H fun x H1=>∃ z,x=.str z∧R (Itz z) H1
theorem pi_str {X:Cx} {tg l:Expr} {tl:TE} (hl:PE X l tl):PI X tg l (iStr tl):=by
 intro pins s σ H R I h
 refine thn (hl pins s σ H _ I h) fun v s1 ⟨x,H1,I1,r1,q1⟩=>?_
 obtain ⟨z,e,q⟩:=q1
 subst e
 obtain ⟨t,rfl⟩:=r1
 have new:∀ (ob:Obj),∀ b∈[s1.heap.objs.size],FpOk X pins H1 b:=fun ob b hb=>by
  have e:b=s1.heap.objs.size:=by simpa using hb
  subst e
  exact I1.fpOk (Nat.le_refl _) (I1.hok.fresh (Nat.le_refl _))
 cases ha:z.cps.all (· < 128)
 ·exact wpAny_pyIter_wide ha ⟨s1.heap.objs.size,[s1.heap.objs.size],_,_,H1,rfl,I1.kept (t':=s1.toks) fun b o e=>Heap.get?_push_of_some _ e,turn_str z t _ (n:="str_iterator") (by decide) (fun A' hA=>Walks.strWide hA _ z t) (fun _ _ _ _ _ st h=>wpAny_pyIter_striter_wide st h),⟨_,Heap.get?_push_size _ rfl,rfl,rfl⟩,new default,q⟩
 ·exact wpAny_pyIter_ascii ha ⟨s1.heap.objs.size,[s1.heap.objs.size],_,_,H1,rfl,I1.kept (t':=s1.toks) fun b o e=>Heap.get?_push_of_some _ e,turn_str z t _ (n:="str_ascii_iterator") (by decide) (fun A' hA=>Walks.strAscii hA _ z t) (fun _ _ _ _ _ st h=>wpAny_pyIter_striter_ascii st h),⟨_,Heap.get?_push_size _ rfl,rfl,rfl⟩,new default,q⟩
section
variable {H1:Hp} {tc:TT} {te:TE} {σ:St} {js:List Nat} {Q:VK} {d:Addr}
theorem lc_str (z:Str) (G:Nat→Bool) (F:Nat→V) (hn:z.length≤1000) (hd:H1 d=none)
  (hs:∀ c∈z.cps.toList,∀ H Qt,Same H1 H→(∀ H',Same H H'→Qt (G c) H')→tc (some (.str ⟨#[c]⟩) :: capv σ js) H Qt)
  (he:∀ c∈z.cps.toList,∀ H Qe,G c=true→Same H1 H→(∀ H',Same H H'→Qe (F c) H')→te (some (.str ⟨#[c]⟩) :: capv σ js) H Qe)
  (hq:∀ H',Same H1 H'→H' d=some (.lst ((z.cps.toList.filter G).map F))→Q (.ref d) H'):LCW (Itz z) tc te σ js Q H1 d:=by
 have hl:z.cps.toList.length=z.cps.size:=Array.length_toList
 have hn:z.cps.size≤1000:=hn
 refine lc_seq (fun c:Nat=>V.str ⟨#[c]⟩) z.cps.toList G F (by rw [hl];exact hn) hd (fun i H hi s=>by rw [hl] at hi;exact hi) (fun H s=>hl) (fun i H v H' hi s y=>?_) hs he hq
 obtain ⟨e,c,hc,rfl⟩:=y
 refine ⟨e,?_⟩
 rw [List.getElem?_map]
 have:z.cps.toList[i]?=some c:=by simpa using hc
 rw [this];rfl
end
end L2
namespace Rl
open PySem
theorem J37 {c:Nat}:∀ {a a' b b':List Nat},c ∉ a→c ∉ a'→a ++ c :: b=a' ++ c :: b'→a=a'∧b=b'
 | [],[],_,_,_,_,e=>⟨rfl,(List.cons.inj e).2⟩
 | [],y :: ys,_,_,_,h',e=>absurd (List.mem_cons.mpr (.inl (List.cons.inj e).1)) h'
 | x :: xs,[],_,_,h,_,e=>absurd (List.mem_cons.mpr (.inl (List.cons.inj e).1.symm)) h
 | x :: xs,y :: ys,_,_,h,h',e=>by
  obtain ⟨e1,e2⟩:=List.cons.inj e
  obtain ⟨q1,q2⟩:=J37 (fun m=>h (List.mem_cons_of_mem _ m)) (fun m=>h' (List.mem_cons_of_mem _ m)) e2
  exact ⟨by rw [e1,q1],q2⟩
theorem J13 (a b:Str):(a ++ b).cps.toList=a.cps.toList ++ b.cps.toList:=by
 rw [Str.cps_append,Array.toList_append]
theorem J1v {a b:Str} (h:a.cps.toList=b.cps.toList):a=b:=Str.ext' (Array.toList_inj.mp h)
theorem J1c (c:Nat) (x y:Str) (r:List Str):(Str.join ⟨#[c]⟩ (x :: y :: r)).cps.toList=x.cps.toList ++ c :: (Str.join ⟨#[c]⟩ (y :: r)).cps.toList:=by
 show (x ++ ⟨#[c]⟩ ++ Str.join ⟨#[c]⟩ (y :: r)).cps.toList=_
 rw [J13,J13,List.append_assoc];rfl
theorem join_inj (c:Nat):∀ {ps qs:List Str},ps≠[]→qs≠[]→(∀ p∈ps,c ∉ p.cps.toList)→(∀ p∈qs,c ∉ p.cps.toList)→Str.join ⟨#[c]⟩ ps=Str.join ⟨#[c]⟩ qs→ps=qs
 | [],_,h,_,_,_,_=>absurd rfl h
 | _ :: _,[],_,h,_,_,_=>absurd rfl h
 | [x],[y],_,_,_,_,e=>by rw [show x=y from e]
 | [x],y :: z :: r,_,_,hx,_,e=>by
  have e1:=congrArg (fun s=>s.cps.toList) e
  rw [J1c] at e1
  have e1:x.cps.toList=y.cps.toList ++ c :: (Str.join ⟨#[c]⟩ (z :: r)).cps.toList:=e1
  exact absurd (by rw [e1];exact List.mem_append_right _ (List.mem_cons_self ..)) (hx x (List.mem_cons_self ..))
 | x :: y :: r,[z],_,_,_,hz,e=>by
  have e1:=congrArg (fun s=>s.cps.toList) e
  rw [J1c] at e1
  have e1:x.cps.toList ++ c :: (Str.join ⟨#[c]⟩ (y :: r)).cps.toList=z.cps.toList:=e1
  exact absurd (by rw [← e1];exact List.mem_append_right _ (List.mem_cons_self ..)) (hz z (List.mem_cons_self ..))
 | x :: y :: r,x' :: y' :: r',_,_,h,h',e=>by
  have e1:=congrArg (fun s=>s.cps.toList) e
  rw [J1c,J1c] at e1
  obtain ⟨q1,q2⟩:=J37 (h x (List.mem_cons_self ..)) (h' x' (List.mem_cons_self ..)) e1
  have:=join_inj c (List.cons_ne_nil y r) (List.cons_ne_nil y' r') (fun p hp=>h p (List.mem_cons_of_mem _ hp)) (fun p hp=>h' p (List.mem_cons_of_mem _ hp)) (J1v q2)
  rw [J1v q1,this]
theorem J2w (c:Nat) {ps:List Str} (h:ps≠[]) (hf:∀ p∈ps,c ∉ p.cps.toList):Txt.split (Txt.join ⟨#[c]⟩ ps) ⟨#[c]⟩=ps:=by
 have e:Txt.join ⟨#[c]⟩ ps=Str.join ⟨#[c]⟩ ps:=StrLaws.glued_eq_join ..
 rw [e]
 refine join_inj c (fun q=>?_) h (StrLaws.split_free _ c) hf (StrLaws.join_split _ _)
 have:=PyProof.Rows.split_pos (Str.join ⟨#[c]⟩ ps) ⟨#[c]⟩
 rw [q] at this
 exact absurd this (by decide)
theorem J1t {n:Int} (h:0≤n):(Str.ofString (toString n)).cps.toList=(Nat.toDigits 10 n.toNat).map Char.toNat:=by
 obtain ⟨m,rfl⟩:=Int.eq_ofNat_of_zero_le h
 exact PySem.W.KIN.signs_num m
theorem Jz {n:Int} (h:0≤n):∀ c∈(Str.ofString (toString n)).cps.toList,48≤c∧c≤57:=by
 intro c hc
 rw [J1t h] at hc
 obtain ⟨ch,hch,e⟩:=List.mem_map.mp hc
 have r:=PyProof.Rows.digit_range (Nat.isDigit_of_mem_toDigits (by decide) (by decide) hch)
 rw [← e];exact r
theorem digits_ne (m:Nat):Nat.toDigits 10 m≠[]:=by
 intro e
 have h:=PySem.toDigits_len_ge 10 m
 rw [e] at h
 exact absurd h (by decide)
theorem num_ne {n:Int} (h:0≤n):(Str.ofString (toString n)).cps.toList≠[]:=by
 rw [J1t h]
 intro e
 exact digits_ne _ (List.map_eq_nil_iff.mp e)
theorem J2k {n:Int} (h:0≤n) (h1:n < 10 ^ 40):PySem.intText? (Str.ofString (toString n))=some n:=by
 have hl:(Str.ofString (toString n)).length≤40:=PyProof.Rows.toString_length_le h (by decide) h1
 have e:=PySem.intText_digits (Jz h) (num_ne h) (Nat.le_trans hl (by decide))
 rw [J1t h,PySem.W.KIN.val_back] at e
 rw [e,Int.toNat_of_nonneg h]
theorem digit_zero:∀ d:Nat,d < 10→d≠0→(Nat.digitChar d).toNat≠48:=by decide
theorem head_digit (m:Nat):m≠0→∃ c r,Nat.toDigits 10 m=c :: r∧c.toNat≠48:=by
 induction m using Nat.strongRecOn with
 | _ m ih =>
  intro h0
  by_cases h:m < 10
  ·exact ⟨_,[],Nat.toDigits_of_lt_base h,digit_zero m h h0⟩
  ·have hm:m % 10 < 10:=Nat.mod_lt m (by decide)
   have t:Nat.toDigits 10 (m / 10) ++ Nat.toDigits 10 (m % 10)=Nat.toDigits 10 (10 * (m / 10) + m % 10):=Nat.toDigits_append_toDigits (by decide) (by omega) hm
   rw [Nat.div_add_mod] at t
   obtain ⟨c,r,e,q⟩:=ih (m / 10) (by omega) (by omega)
   exact ⟨c,r ++ Nat.toDigits 10 (m % 10),by rw [← t,e];rfl,q⟩
end Rl
namespace R10
open PySem L2 Rl
def top (i:Nat):Stmt:=PySem.Challenge.pw_relaid_k10_lines_refused_as_read.main.body.getD i (.Pass ⟨0,0,0,0⟩)
abbrev sRefL:Stmt:=top 8
abbrev sRefO:Stmt:=top 9
abbrev sRefT:Stmt:=top 10
abbrev sTold:Stmt:=top 11
abbrev sFirst:Stmt:=top 12
abbrev sIsNum:Stmt:=top 16
abbrev sNoT:Stmt:=top 17
abbrev J2b:Stmt:=top 18
abbrev J1h:Stmt:=top 19
abbrev J1g:Stmt:=top 20
abbrev sRead:Stmt:=top 21
abbrev sCell:Stmt:=top 23
abbrev sDrawn:Stmt:=top 24
abbrev J11:Stmt:=top 26
abbrev J2a:Stmt:=top 27
abbrev sLaw:Stmt:=top 28
abbrev sInit:Stmt:=inClass (top 13) 0
abbrev iV (ns:List Int):List V:=ns.map V.int
abbrev nV (os:List Nat):List V:=(natI os).map V.int
abbrev bV (bs:List Bool):List V:=bs.map V.bl
def SqH (H:Hp) (p:Addr) (xs:List V):Prop:=H p=some (.lst xs)∨H p=some (.tup xs)
theorem SqH.sq {K:PySem.W.Frag} {H:Hp} {p:Addr} {xs:List V} (h:SqH H p xs):SqL K H p xs∨SqT K H p xs:=h.elim (fun h=>.inl (SqL.of h)) fun h=>.inr (SqT.of h)
theorem SqH.same {H H':Hp} {p:Addr} {xs:List V} (h:SqH H p xs) (s:Same H H'):SqH H' p xs:=h.elim (fun h=>.inl (s _ _ h)) fun h=>.inr (s _ _ h)
theorem J4 {H:Hp} {l:Addr} {o:HO} (h:H l=none):Same H (upd H l o):=fun b u e=>by rw [Jd (Jc e h)];exact e
theorem iteD {c A B:Prop} [Decidable c] (hc:¬ c) (h:B):if decide c=true then A else B:=by
 rw [decide_eq_false hc];exact iteF h
theorem iteDT {c A B:Prop} [Decidable c] (hc:c) (h:A):if decide c=true then A else B:=by
 rw [decide_eq_true hc];exact iteT h
theorem iteBT {c:Bool} {A B:Prop} (h:c=true) (q:A):if c=true then A else B:=by rw [if_pos h];exact q
theorem iteBF {c:Bool} {A B:Prop} (h:¬ c=true) (q:B):if c=true then A else B:=by rw [if_neg h];exact q
theorem iteND {c A B:Prop} [Decidable c] (hc:¬ c) (h:A):if (!decide c)=true then A else B:=by
 rw [decide_eq_false hc];exact iteT h
theorem J1w {K:PySem.W.Frag} {H:Hp} {p:Addr} {xs:List V} {Q:VK} (h:SqH H p xs) (k:∀ l H',Same H H'→H' l=some (.tup xs)→Q (.ref l) H'):rTup K [V.ref p] H Q:=by
 unfold rTup
 rcases h with h | h
 ·exact ⟨p,xs,rfl,.inl ⟨SqL.of h,fun l hl=>k l _ (J4 hl) J2⟩⟩
 ·exact ⟨p,xs,rfl,.inr ⟨SqT.of h,k p H (Same.refl _) h⟩⟩
theorem J9 {i j:Int} (h:i≠j):¬ V.int i=V.int j:=fun e=>h (V.int.inj e)
theorem J36 {n o:Nat} (h:o < n):ixN n (o:Int)=some o:=by
 unfold ixN
 rw [if_pos (by omega),if_pos (by omega)]
 simp
theorem J3l {ns:List Int} {j:Nat} (h:j < ns.length):(iV ns)[j]?=some (V.int (ns.getD j 0)):=by
 rw [List.getElem?_map,List.getElem?_eq_getElem h,List.getD_eq_getElem?_getD,List.getElem?_eq_getElem h];rfl
theorem iV_set (ns:List Int) (j:Nat) (z:Int):(iV ns).set j (V.int z)=iV (ns.set j z):=by
 show (ns.map V.int).set j (V.int z)=(ns.set j z).map V.int
 rw [List.map_set]
theorem nV_get {os:List Nat} {j:Nat} {y:V} (h:(nV os)[j]?=some y):j < os.length∧y=V.int (os.getD j 0:Nat)∧os.getD j 0∈os:=by
 have hj:j < os.length:=by
  have:=(List.getElem?_eq_some_iff.mp h).1
  simpa [natI] using this
 refine ⟨hj,?_,?_⟩
 ·rw [List.getElem?_map] at h
  unfold natI at h
  rw [List.getElem?_map,List.getElem?_eq_getElem hj] at h
  rw [List.getD_eq_getElem?_getD,List.getElem?_eq_getElem hj]
  exact (Option.some.inj h).symm
 ·rw [List.getD_eq_getElem?_getD,List.getElem?_eq_getElem hj]
  exact List.getElem_mem hj
theorem flat_zero (n:Nat):(List.replicate n [V.int 0]).flatten=iV (List.replicate n 0):=by
 induction n with
 | zero=>rfl
 | succ n ih=>rw [List.replicate_succ,List.flatten_cons,ih,List.replicate_succ];rfl
theorem J2e {f:Str} {v:V} {fs:List (Str × V)}:(putF f v fs).lookup f=some v:=by rw [J12,if_pos rfl]
theorem lk_ne {f g:Str} {v:V} {fs:List (Str × V)} (h:¬ g=f):(putF f v fs).lookup g=fs.lookup g:=by rw [J12,if_neg h]
theorem len_iV (ls:List Int):(iV ls).length=ls.length:=List.length_map ..
def KeepX (x:Addr) (H H':Hp):Prop:=∀ b o,H b=some o→b≠x→H' b=some o
theorem KeepX.of {x:Addr} {H H':Hp} (s:Same H H'):KeepX x H H':=fun b o e _=>s b o e
theorem KeepX.trans {x:Addr} {H H1 H2:Hp} (a:KeepX x H H1) (b:KeepX x H1 H2):KeepX x H H2:=fun c o e n=>b c o (a c o e n) n
theorem KeepX.upd {x:Addr} {H:Hp} {o:HO}:KeepX x H (upd H x o):=fun b u e n=>by rw [Jd n];exact e
theorem KeepX.sqH {x p:Addr} {H H':Hp} {xs:List V} (k:KeepX x H H') (h:SqH H p xs) (n:p≠x):SqH H' p xs:=h.elim (fun h=>.inl (k _ _ h n)) fun h=>.inr (k _ _ h n)
theorem SqH.ne {H:Hp} {p x C dx:Addr} {xs:List V} {fs:List (Str × V)} (h:SqH H p xs) (hx:H x=some (.ins C dx fs)):p≠x:=h.elim (fun h=>ne_of h hx (by intro z;cases z)) fun h=>ne_of h hx (by intro z;cases z)
theorem bV_get {ts:List Bool} {j:Nat} (h:j < ts.length):(bV ts)[j]?=some (V.bl (ts.getD j false)):=by
 rw [List.getElem?_map,List.getElem?_eq_getElem h,List.getD_eq_getElem?_getD,List.getElem?_eq_getElem h];rfl
structure TxtX (K:PySem.W.Frag) (mg:Str→Option Value) (x:Str) (CO:Addr):Prop where
 mg:mg x=some (.ref CO)
 ex:PySem.W.excIn K CO bmV "ValueError.__new__"=true
structure TxtR (mg:Str→Option Value):Prop where
 len:mg "len"=none
 sum:mg "sum"=none
 tuple:mg "tuple"=none
 list:mg "list"=none
 range:mg "range"=none
theorem nV_eq (row:List Nat):nV row=row.map fun (j:Nat)=>V.int (j:Int):=by
 show (row.map fun (n:Nat)=>(n:Int)).map V.int=_
 rw [List.map_map];rfl
theorem len_nV (row:List Nat):(nV row).length=row.length:=by rw [nV_eq,List.length_map]
section
variable {P:Program} {w:World} {K:PySem.W.Frag} {mg:Str→Option Value} {base:Heap}
def spFirst:Sp:=fun vs H Q _=>∃ (p q:Addr) (ls:List Int) (os:List Nat),vs=[.ref p,.ref q]∧H p=some (.tup (iV ls))∧SqH H q (nV os)∧(∀ o∈os,o < ls.length)∧ls.length≤24∧
 ∀ l H',Same H H'→H' l=some (.tup (iV (firsts ls os)))→Q (.ref l) H'
theorem scFirst:FnScope ["lengths","order","firsts","place","piece"] ["lengths","order"] (J6 sFirst):=⟨rfl,rfl,rfl,by decide +kernel,rfl,by decide +kernel,by decide +kernel⟩
def PvF (p q fl:Addr) (ls:List Int) (os:List Nat) (H:Hp) (i:Nat) (σ:St) (H2:Hp):Prop :=
 ∃ v,σ=[some (.ref p),some (.ref q),some (.ref fl),some (.int (sumsF ls os i).2),v]∧H2 fl=some (.lst (iV (sumsF ls os i).1))∧H fl=none∧Same H H2
theorem ok_first {f:Addr} {fd:FuncData} (F:Fun K "first_places" "first_places" sFirst f fd) (T:TxtR mg):FnOk P w K mg base CX0 1 f fd ["lengths","order"] spFirst:=by
 refine F.ok scFirst (fun vs H Q E h=>?_) (fun cdv A outer s H vs Q E hr h=>?_)
 ·obtain ⟨p,q,ls,os,rfl,_⟩:=h
  rfl
 ·obtain ⟨p,q,ls,os,rfl,hp,hq,hlt,hn,k⟩:=h
  have hl:(iV ls).length=ls.length:=List.length_map ..
  have turn:∀ (fl:Addr) (i:Nat) (y:V) (σ:St) (H2:Hp) (D:Ends),(nV os)[i]?=some y→PvF p q fl ls os H i σ H2→D.nx=PvF p q fl ls os H (i + 1)→
    gName 4 y σ H2 fun σ2 H2=>tSeq (tAsg (tVar 3) (gSub (tVar 2) (tVar 4) rSetL)) (tAsg (tOp (rI0 fun i j=>.int (i + j)) (tVar 3) (tOp (rIxT K) (tVar 0) (tVar 4))) (gName 3)) D σ2 H2:=by
   rintro fl i y σ H2 D hy ⟨v,rfl,h1,h2,h3⟩ hD
   obtain ⟨hi,rfl,hm⟩:=nV_get hy
   have ho:=hlt _ hm
   refine ⟨_,rfl,_,rfl,_,rfl,fl,_,_,os.getD i 0,rfl,rfl,h1,J36 (by rw [List.length_map,J1s];exact ho),?_⟩
   refine ⟨_,rfl,_,rfl,_,rfl,p,_,_,_,rfl,rfl,SqT.of (xs:=iV ls) ?_,Jg (J3l ho),_,_,rfl,rfl,?_⟩
   ·rw [Jd (ne_of (h3 _ _ hp) h1 (by intro z;cases z))]
    exact h3 _ _ hp
   ·show D.nx _ _
    rw [hD]
    refine ⟨_,rfl,?_,h2,fun b o e=>?_⟩
    ·rw [J2,iV_set];rfl
    ·rw [Jd (Jc e h2)];exact h3 _ _ e
  have start0:∀ fl,H fl=none→∀ H1,Same H H1→H1 fl=some (.lst (iV (List.replicate ls.length 0)))→PvF p q fl ls os H 0 [some (.ref p),some (.ref q),some (.ref fl),some (.int 0),none] H1:=fun fl h1 H1 h2 h3=>⟨none,rfl,h3,h1,h2⟩
  have done:∀ fl (σ:St) (H2:Hp),PvF p q fl ls os H (nV os).length σ H2→tRet (tCB (rTup K) (tCons (tVar 2) tNil)) { nx:=fun _ H'=>Q .non H',rt:=Q } σ H2:=by
   rintro fl σ H2 ⟨v,rfl,h1,h2,h3⟩
   have e:(nV os).length=os.length:=by simp [natI]
   rw [e] at h1
   exact ⟨_,rfl,J1w (.inl h1) fun l H' s hl=>k l _ (h3.trans s) hl⟩
  have rep:∀ fl,H fl=none→∀ l2,(upd H fl (.lst [V.int 0])) l2=none→PvF p q l2 ls os H 0 [some (.ref p),some (.ref q),some (.ref l2),some (.int 0),none] (upd (upd H fl (.lst [V.int 0])) l2 (.lst (List.replicate ((iV ls).length:Int).toNat [V.int 0]).flatten)):=fun fl hf l2 h2 =>
   start0 l2 ((J4 hf).free h2) _ ((J4 hf).trans (J4 h2)) (by rw [J2,flat_zero,hl];rfl)
  rcases hq with hq | hq
  ·refine ⟨_,J1 (Jn (i:=2) scFirst.nd rfl (Or.inl rfl) (pe_op op_rep (J1j (J0 J8 J3)) (Ja J7 (by rfl) T.len PySem.boot_len (J0 (pv 0) J3))))
    (J1 (Jn (i:=3) scFirst.nd rfl (Or.inl rfl) J8)
    (J1 (ps_for PassesOwn.never rfl (J1x (pv 1)) (J33 (i:=4) scFirst.nd rfl (Or.inl rfl)) (J1 (ps_asg (pv 3) (pg_sub (pv 2) (pv 4) J1f)) (Jb (Jn (i:=3) scFirst.nd rfl (Or.inl rfl) (pe_op J1k (pv 3) (pe_ix J21 (pv 0) (pv 4) (fun _ _=>rfl)))))))
    (Jb (Jy (Je J1m (by rfl) T.tuple PyProof.Rows.boot_tuple (J0 (pv 2) J3)))))),?_⟩
   refine ⟨by show 1≤sizeLine;decide,fun fl hf=>⟨_,rfl,p,_,rfl,.inr (SqT.of (J4 hf _ _ hp)),fl,_,[V.int 0],rfl,rfl,J2,by omega,by omega,?_,fun l2 h2=>?_⟩⟩
   ·show 1 * ((iV ls).length:Int).toNat≤sizeLine
    have:=Jx (n:=ls.length) (by omega)
    omega
   ·have p0:=rep fl hf l2 h2
    exact ⟨_,rfl,q,rfl,⟨_,SqL.of (((J4 hf).trans (J4 h2)) _ _ hq)⟩,for_list (K:=K) (a:=q) (xs:=nV os) (PvF p q l2 ls os H) p0 (fun i σ H2 _ ⟨_,_,_,_,s⟩=>SqL.of (s _ _ hq)) (fun i y σ H2 hi pv=>turn l2 i y σ H2 _ hi pv rfl) (fun σ H2 pv=>done l2 σ H2 pv)⟩
  ·refine ⟨_,J1 (Jn (i:=2) scFirst.nd rfl (Or.inl rfl) (pe_op op_rep (J1j (J0 J8 J3)) (Ja J7 (by rfl) T.len PySem.boot_len (J0 (pv 0) J3))))
    (J1 (Jn (i:=3) scFirst.nd rfl (Or.inl rfl) J8)
    (J1 (ps_for PassesOwn.never rfl (pi_tup (pv 1)) (J33 (i:=4) scFirst.nd rfl (Or.inl rfl)) (J1 (ps_asg (pv 3) (pg_sub (pv 2) (pv 4) J1f)) (Jb (Jn (i:=3) scFirst.nd rfl (Or.inl rfl) (pe_op J1k (pv 3) (pe_ix J21 (pv 0) (pv 4) (fun _ _=>rfl)))))))
    (Jb (Jy (Je J1m (by rfl) T.tuple PyProof.Rows.boot_tuple (J0 (pv 2) J3)))))),?_⟩
   refine ⟨by show 1≤sizeLine;decide,fun fl hf=>⟨_,rfl,p,_,rfl,.inr (SqT.of (J4 hf _ _ hp)),fl,_,[V.int 0],rfl,rfl,J2,by omega,by omega,?_,fun l2 h2=>?_⟩⟩
   ·show 1 * ((iV ls).length:Int).toNat≤sizeLine
    have:=Jx (n:=ls.length) (by omega)
    omega
   ·have p0:=rep fl hf l2 h2
    exact ⟨_,rfl,q,rfl,⟨_,SqT.of (((J4 hf).trans (J4 h2)) _ _ hq)⟩,for_tup (K:=K) (a:=q) (xs:=nV os) (PvF p q l2 ls os H) p0 (fun i σ H2 _ ⟨_,_,_,_,s⟩=>SqT.of (s _ _ hq)) (fun i y σ H2 hi pv=>turn l2 i y σ H2 _ hi pv rfl) (fun σ H2 pv=>done l2 σ H2 pv)⟩
end
end R10
namespace R10
open PySem L2 Rl
structure Good (ls:List Int) (os:List Nat):Prop where
 lo:1≤ls.length
 hi:ls.length≤24
 pos:∀ a∈ls,1≤a
 sum:ls.sum≤10 ^ 30
 perm:os.Perm (List.range ls.length)
theorem Good.olt {ls:List Int} {os:List Nat} (g:Good ls os):∀ o∈os,o < ls.length:=fun o h=>List.mem_range.mp (g.perm.mem_iff.mp h)
structure Txt (K:PySem.W.Frag) (mg:Str→Option Value):Prop where
 len:mg "len"=none
 min:mg "min"=none
 sum:mg "sum"=none
 sorted:mg "sorted"=none
 list:mg "list"=none
 range:mg "range"=none
 tuple:mg "tuple"=none
 most:∃ t,mg "MOST_PIECES"=some (.int 24 t)
section
variable {P:Program} {w:World} {K:PySem.W.Frag} {mg:Str→Option Value} {base:Heap}
theorem scRefL:FnScope ["lengths"] ["lengths"] (J6 sRefL):=⟨rfl,rfl,rfl,by decide +kernel,rfl,by decide +kernel,by decide +kernel⟩
theorem scRefO:FnScope ["order","pieces"] ["order","pieces"] (J6 sRefO):=⟨rfl,rfl,rfl,by decide +kernel,rfl,by decide +kernel,by decide +kernel⟩
theorem scRefT:FnScope ["turned","pieces"] ["turned","pieces"] (J6 sRefT):=⟨rfl,rfl,rfl,by decide +kernel,rfl,by decide +kernel,by decide +kernel⟩
theorem scTold:FnScope ["turned","pieces"] ["turned","pieces"] (J6 sTold):=⟨rfl,rfl,rfl,by decide +kernel,rfl,by decide +kernel,by decide +kernel⟩
end
section
variable {P:Program} {w:World} {K:PySem.W.Frag} {mg:Str→Option Value} {base:Heap}
def tCut (t:TS):TS:=fun D σ H=>∃ post:St→Hp→Prop,t { D with nx:=post } σ H∧∀ σ' H',post σ' H'→D.nx σ' H'
theorem ps_cut {X:Cx} {st:Stmt} {t:TS} (h:PS X st t):PS X st (tCut t):=by
 intro pins s σ H D I ⟨post,q,m⟩
 refine thn (h pins s σ H _ I q) fun f s' z=>?_
 cases f with
 | next=>obtain ⟨σ',H',I',z⟩:=z;exact ⟨σ',H',I',m σ' H' z⟩
 | brk=>exact z
 | cont=>exact z
 | ret u=>exact z
structure LineAt (C:Addr) (H:Hp) (x:Addr) (ls:List Int) (os:List Nat) (ts:List Bool):Prop where
 ex:∃ (dx:Addr) (fs:List (Str × V)) (pl po pt ps pd:Addr),H x=some (.ins C dx fs)∧(fs.lookup ("lengths":Str)=some (.ref pl)∧fs.lookup ("order":Str)=some (.ref po)∧fs.lookup ("turned":Str)=some (.ref pt)∧
  fs.lookup ("starts":Str)=some (.ref ps)∧fs.lookup ("laid":Str)=some (.ref pd)∧fs.lookup ("size":Str)=some (.int ls.sum))∧
  H pl=some (.tup (iV ls))∧H po=some (.tup (nV os))∧H pt=some (.tup (bV ts))∧H ps=some (.tup (iV (firsts ls (List.range ls.length))))∧H pd=some (.tup (iV (firsts ls os)))
theorem LineAt.same {C:Addr} {H H':Hp} {x:Addr} {ls:List Int} {os:List Nat} {ts:List Bool} (h:LineAt C H x ls os ts) (s:Same H H'):LineAt C H' x ls os ts:=by
 obtain ⟨dx,fs,pl,po,pt,ps,pd,h0,hl,h1,h2,h3,h4,h5⟩:=h.ex
 exact ⟨dx,fs,pl,po,pt,ps,pd,s _ _ h0,hl,s _ _ h1,s _ _ h2,s _ _ h3,s _ _ h4,s _ _ h5⟩
structure TxtC (K:PySem.W.Frag) (mg:Str→Option Value) (C:Addr):Prop where
 cl:Cls K C
 nL:NoAttr K C "lengths"
 nO:NoAttr K C "order"
 nT:NoAttr K C "turned"
 nS:NoAttr K C "starts"
 nD:NoAttr K C "laid"
 nZ:NoAttr K C "size"
structure FunD (K:PySem.W.Frag) (x qual:Str) (st:Stmt) (f:Addr) (fd:FuncData) (TD:Addr):Prop where
 ex:∃ (oc:Value) (od:Option Addr) (kV doc pm:Value) (an:Option Addr) (cdv ct:Value) (osl:Array (Option Value)),
  fd=PySem.W.fnOf x qual (Jk st) (Jf st) (J6 st) (.ref TD) kV doc pm an cdv ct∧K.lookup f=some ⟨oc,od,.func fd,osl⟩∧PySem.W.codeIn K cdv qual=true
 kp:PySem.W.keepIn K (.ref f)=true
theorem FunD.ok {x qual:Str} {st:Stmt} {f TD:Addr} {fd:FuncData} {N ps:List Str} {k:Nat} {sp:Sp} (F:FunD K x qual st f fd TD) (S:FnScope N ps (J6 st)) (len:∀ vs H Q E,sp vs H Q E→vs.length=ps.length)
  (hbody:∀ (cdv:Value) (A:Around) (outer:List Env) (s:Shared) (H:Hp) (vs:List V) (Q:VK) (E:XK),Room k (A.deeper (PyProof.Rows.envOfC qual (J6 st) s.heap.objs.size f cdv))→sp vs H Q E→
   ∃ t,PSs (cxOf CX0 P w K mg base N qual (J6 st) f cdv A outer s H E).nox (Jf st) t∧t { nx:=fun _ H'=>Q .non H',rt:=Q } (start N vs) H):FnOk P w K mg base CX0 (k + 1) f fd ps sp:=by
 obtain ⟨oc,od,kV,doc,pm,an,cdv,ct,osl,rfl,lk,hcd⟩:=F.ex
 refine fn_of lk hcd S len fun A outer s H vs Q E hr hsp=>?_
 obtain ⟨t,h,q⟩:=hbody cdv A outer s H vs Q E hr hsp
 exact ⟨t,h.nox,q⟩
theorem scInit:FnScope ["self","lengths","order","turned"] ["self","lengths","order","turned"] (J6 sInit):=⟨rfl,rfl,rfl,by decide +kernel,rfl,by decide +kernel,by decide +kernel⟩
end
end R10
namespace R10
open PySem L2 Rl
section
variable {P:Program} {w:World} {K:PySem.W.Frag} {mg:Str→Option Value} {base:Heap}
def GoodL (ls:List Int):Prop:=1≤ls.length∧ls.length≤24∧(∀ a∈ls,1≤a)∧ls.sum≤10 ^ 30
theorem perm_nat {zs:List Int} {l:List Nat} (h:zs.Perm (natI l)):∃ os,zs=natI os∧os.Perm l:=by
 have hm:∀ z∈zs,((z.toNat:Nat):Int)=z:=fun z hz=>by
  have:=h.mem_iff.mp hz
  obtain ⟨k,_,rfl⟩:=List.mem_map.mp (show z∈l.map (fun (n:Nat)=>(n:Int)) from this)
  simp
 have e:natI (zs.map Int.toNat)=zs:=by
  unfold natI
  rw [List.map_map]
  have e1:zs.map ((fun (n:Nat)=>(n:Int)) ∘ Int.toNat)=zs.map id:=List.map_congr_left (fun z hz=>hm z hz)
  rw [e1,List.map_id]
 refine ⟨zs.map Int.toNat,e.symm,?_⟩
 have p:=h.map Int.toNat
 have e2:(natI l).map Int.toNat=l:=by
  unfold natI
  rw [List.map_map]
  have e1:l.map (Int.toNat ∘ fun (n:Nat)=>(n:Int))=l.map id:=List.map_congr_left (fun z hz=>by simp)
  rw [e1,List.map_id]
 rwa [e2] at p
theorem iV_inj {xs ys:List Int} (h:iV xs=iV ys):xs=ys:=(List.map_inj_right (fun a b z=>V.int.inj z)).mp h
def spRefLX (c0:Addr):Sp:=fun vs H Q E=>∃ (p:Addr) (ls:List Int),vs=[.ref p]∧SqH H p (iV ls)∧(GoodL ls→Q .non H)∧(¬ GoodL ls→E (.ref c0) none H)
theorem ok_refLX {f c0:Addr} {fd:FuncData} (F:Fun K "refuse_lengths" "refuse_lengths" sRefL f fd) (T:Txt K mg) (T0:TxtX K mg "BadLengths" c0):FnOk P w K mg base (Exc1 P w) 1 f fd ["lengths"] (spRefLX c0):=by
 refine F.okX scRefL (fun vs H Q E h=>?_) (fun cdv A outer s H vs Q E hr h=>?_)
 ·obtain ⟨p,ls,rfl,_⟩:=h
  rfl
 ·obtain ⟨p,ls,rfl,hp,k,kx⟩:=h
  obtain ⟨t24,h24⟩:=T.most
  refine ⟨_,J1 (ps_if (Jh op_eq (Ja J7 (by rfl) T.len PySem.boot_len (J0 (pv 0) J3)) J8 (Ji _)) (Jb (J1i rfl T0.mg T0.ex)) Jj)
   (J1 (ps_if (Jh op_gt (Ja J7 (by rfl) T.len PySem.boot_len (J0 (pv 0) J3)) (J2d (v:=.int 24) rfl h24 ⟨_,rfl⟩) (Ji _)) (Jb (J1i rfl T0.mg T0.ex)) Jj)
   (J1 (ps_if (Jh op_lt (Ja (call_min rfl) (by rfl) T.min PyProof.Rows.boot_min (J0 (pv 0) J3)) J8 (Ji _)) (Jb (J1i rfl T0.mg T0.ex)) Jj)
   (Jb (ps_if (Jh op_gt (Ja (J2t rfl) (by rfl) T.sum PyProof.Rows.boot_sum (J0 (pv 0) J3)) (pe_op op_pow J8 J8) (Ji _)) (Jb (J1i rfl T0.mg T0.ex)) Jj)))),?_⟩
  have hl:(iV ls).length=ls.length:=List.length_map ..
  refine ⟨_,rfl,p,_,rfl,hp.sq,rfl,_,rfl,?_⟩
  by_cases c1:ls.length=0
  ·exact iteDT (congrArg V.int (by rw [hl];omega)) (kx fun g=>by have:=g.1;omega)
  refine iteD (J9 (by rw [hl];omega)) ?_
  refine ⟨_,rfl,p,_,rfl,hp.sq,_,_,rfl,rfl,_,rfl,?_⟩
  by_cases c2:24 < ls.length
  ·exact iteDT (by rw [hl];omega) (kx fun g=>by have:=g.2.1;omega)
  refine iteD (by rw [hl];omega) ?_
  refine ⟨_,rfl,p,ls,rfl,hp.sq,by omega,fun M hM hall=>⟨_,_,rfl,rfl,_,rfl,?_⟩⟩
  by_cases c3:M < 1
  ·exact iteDT c3 (kx fun g=>by have:=g.2.2.1 M hM;omega)
  refine iteD c3 ?_
  refine ⟨_,rfl,p,ls,rfl,hp.sq,_,_,rfl,rfl,⟨by decide,by decide,by decide⟩,_,_,rfl,rfl,_,rfl,?_⟩
  by_cases c4:(10:Int) ^ (30:Int).toNat < ls.sum
  ·refine iteDT c4 (kx fun g=>?_)
   have h4:=g.2.2.2
   have e:(10:Int) ^ (30:Int).toNat=10 ^ 30:=rfl
   omega
  ·refine iteD c4 (k ⟨by omega,by omega,fun a ha=>?_,?_⟩)
   ·have:=hall a ha;omega
   ·have e:(10:Int) ^ (30:Int).toNat=10 ^ 30:=rfl
    omega
def spRefOX (c1:Addr):Sp:=fun vs H Q E=>∃ (q:Addr) (zs:List Int) (n:Nat),vs=[.ref q,.int n]∧SqH H q (iV zs)∧zs.length < 64∧n≤24∧(zs.Perm (natI (List.range n))→∀ H',Same H H'→Q .non H')∧(¬ zs.Perm (natI (List.range n))→∀ H',Same H H'→E (.ref c1) none H')
theorem ok_refOX {f c1:Addr} {fd:FuncData} (F:Fun K "refuse_order" "refuse_order" sRefO f fd) (T:Txt K mg) (T1:TxtX K mg "BadOrder" c1):FnOk P w K mg base (Exc1 P w) 1 f fd ["order","pieces"] (spRefOX c1):=by
 refine F.okX scRefO (fun vs H Q E h=>?_) (fun cdv A outer s H vs Q E hr h=>?_)
 ·obtain ⟨q,zs,n,rfl,_⟩:=h
  rfl
 ·obtain ⟨q,zs,n,rfl,hq,hz,hn,k,kx⟩:=h
  have hu:=hr.units0
  refine ⟨_,Jb (ps_if (Jh (op_neL hu) (Ja call_sorted (by rfl) T.sorted PyProof.Rows.boot_sorted (J0 (pv 0) J3))
   (Je (J1q rfl) (by rfl) T.list PyProof.Rows.boot_list (J0 (Je call_rng (by rfl) T.range PyProof.Rows.boot_range (J0 (pv 1) J3)) J3)) (Ji _)) (Jb (J1i rfl T1.mg T1.ex)) Jj),?_⟩
  refine ⟨_,rfl,q,zs,rfl,hq.sq,hz,fun l ns' hl h1 h2=>?_⟩
  refine ⟨_,rfl,(n:Int),rfl,fun r hr'=>⟨r,n,rfl,J2,by omega,fun l2 hl2=>?_⟩⟩
  have n1:l≠r:=Jc (H:=upd H l (.lst (ns'.map V.int))) J2 hr'
  have s1:Same (upd H l (.lst (ns'.map V.int))) (upd (upd (upd H l (.lst (ns'.map V.int))) r (.rng 0 n)) l2 (.lst (((List.range n).map fun (i:Nat)=>(i:Int)).map V.int))):=(J4 hr').trans (J4 hl2)
  refine ⟨l,l2,_,_,rfl,rfl,SqL.of (s1 _ _ J2),SqL.of J2,Kin.ints _ _,_,rfl,?_⟩
  have sall:=(J4 (o:=.lst (ns'.map V.int)) hl).trans s1
  by_cases hp:zs.Perm (natI (List.range n))
  ·obtain ⟨os,rfl,po⟩:=perm_nat hp
   have e:=J3b po h1 h2
   exact iteNS (by rw [e];rfl) (k hp _ sall)
  ·refine iteND (fun e=>hp ?_) (kx hp _ sall)
   have e2:ns'=natI (List.range n):=iV_inj e
   rw [← e2]
   exact h1.symm
def spRefTX (c2:Addr):Sp:=fun vs H Q E=>∃ (q:Addr) (xs:List V) (n:Nat),vs=[.ref q,.int n]∧SqH H q xs∧(xs.length=n→Q .non H)∧(xs.length≠n→E (.ref c2) none H)
theorem ok_refTX {f c2:Addr} {fd:FuncData} (F:Fun K "refuse_turned" "refuse_turned" sRefT f fd) (T:Txt K mg) (T2:TxtX K mg "BadTurned" c2):FnOk P w K mg base (Exc1 P w) 1 f fd ["turned","pieces"] (spRefTX c2):=by
 refine F.okX scRefT (fun vs H Q E h=>?_) (fun cdv A outer s H vs Q E hr h=>?_)
 ·obtain ⟨q,xs,n,rfl,_⟩:=h
  rfl
 ·obtain ⟨q,xs,n,rfl,hq,k,kx⟩:=h
  refine ⟨_,Jb (ps_if (Jh op_ne (Ja J7 (by rfl) T.len PySem.boot_len (J0 (pv 0) J3)) (pv 1) (Ji _)) (Jb (J1i rfl T2.mg T2.ex)) Jj),?_⟩
  refine ⟨_,rfl,q,_,rfl,hq.sq,_,rfl,rfl,_,rfl,?_⟩
  by_cases hn:xs.length=n
  ·exact iteNS (by rw [hn]) (k hn)
  ·exact iteND (J9 (by omega)) (kx hn)
def spToldX (c2:Addr):Sp:=fun vs H Q E=>∃ (t:Addr) (n:Nat) (ts:List Bool),vs=[.ref t,.int n]∧SqH H t (bV ts)∧(ts.length=n→∀ p H',Same H H'→H' p=some (.tup (bV ts))→Q (.ref p) H')∧(ts.length≠n→E (.ref c2) none H)
theorem ok_toldX {f fT c2:Addr} {fd fdT:FuncData} (F:Fun K "turns_told" "turns_told" sTold f fd) (T:Txt K mg) (GT:FnOk P w K mg base (Exc1 P w) 1 fT fdT ["turned","pieces"] (spRefTX c2)) (bT:Binds K fdT ["turned","pieces"] []) (mT:mg "refuse_turned"=some (.ref fT)) (kT:PySem.W.keepIn K (.ref fT)=true) :
  FnOk P w K mg base (Exc1 P w) 2 f fd ["turned","pieces"] (spToldX c2):=by
 refine F.okX scTold (fun vs H Q E h=>?_) (fun cdv A outer s H vs Q E hr h=>?_)
 ·obtain ⟨t,n,ts,rfl,_⟩:=h
  rfl
 ·obtain ⟨t,n,ts,rfl,hq,k,kx⟩:=h
  refine ⟨_,J1 (ps_if (pt_cmp (pc_isN (pv 0))) (Jb J2j) Jj)
   (J1 (J1p (Jm GT hr rfl mT kT bT .nil pass1 (J0 (pv 0) (J0 (pv 1) J3))))
   (Jb (Jy (Je J1m (by rfl) T.tuple PyProof.Rows.boot_tuple (J0 (pv 0) J3))))),?_⟩
  refine ⟨_,rfl,_,rfl,iteD (fun z=>nomatch z) ?_⟩
  have hl:(bV ts).length=ts.length:=List.length_map ..
  refine ⟨_,rfl,_,rfl,t,bV ts,n,rfl,hq,fun e=>?_,fun e=>kx (by rw [← hl];exact e)⟩
  exact ⟨_,rfl,J1w hq fun p H' s' hp=>k (by rw [← hl];exact e) p H' s' hp⟩
theorem FunD.okX {x qual:Str} {st:Stmt} {f TD:Addr} {fd:FuncData} {N ps:List Str} {k:Nat} {sp:Sp} (F:FunD K x qual st f fd TD) (S:FnScope N ps (J6 st)) (len:∀ vs H Q E,sp vs H Q E→vs.length=ps.length)
  (hbody:∀ (cdv:Value) (A:Around) (outer:List Env) (s:Shared) (H:Hp) (vs:List V) (Q:VK) (E:XK),Room k (A.deeper (PyProof.Rows.envOfC qual (J6 st) s.heap.objs.size f cdv))→sp vs H Q E→
   ∃ t,PSs (cxOf (Exc1 P w) P w K mg base N qual (J6 st) f cdv A outer s H E) (Jf st) t∧t { nx:=fun _ H'=>Q .non H',rt:=Q } (start N vs) H):FnOk P w K mg base (Exc1 P w) (k + 1) f fd ps sp:=by
 obtain ⟨oc,od,kV,doc,pm,an,cdv,ct,osl,rfl,lk,hcd⟩:=F.ex
 exact fn_of lk hcd S len fun A outer s H vs Q E hr hsp=>hbody cdv A outer s H vs Q E hr hsp
def spInitX (c0 c1 c2 C:Addr):Sp:=fun vs H Q E=>∃ (x dx p q t:Addr) (ls zs:List Int) (ts:List Bool),vs=[.ref x,.ref p,.ref q,.ref t]∧H x=some (.ins C dx [])∧SqH H p (iV ls)∧SqH H q (iV zs)∧zs.length < 64∧SqH H t (bV ts)∧
 (GoodL ls→∀ os,zs=natI os→os.Perm (List.range ls.length)→ts.length=ls.length→∀ H',LineAt C H' x ls os ts→(∀ b o,H b=some o→b≠x→H' b=some o)→Q .non H')∧
 (¬ GoodL ls→∀ H',Same H H'→E (.ref c0) none H')∧(GoodL ls→¬ zs.Perm (natI (List.range ls.length))→∀ H',Same H H'→E (.ref c1) none H')∧
 (GoodL ls→zs.Perm (natI (List.range ls.length))→ts.length≠ls.length→∀ H',Same H H'→E (.ref c2) none H')
theorem ok_initX {f fL fO fT fF TD C c0 c1 c2:Addr} {fd fdL fdO fdT fdF:FuncData} (F:FunD K "__init__" "Line.__init__" sInit f fd TD) (T:Txt K mg) (TC:TxtC K mg C)
  (GL:FnOk P w K mg base (Exc1 P w) 1 fL fdL ["lengths"] (spRefLX c0)) (bL:Binds K fdL ["lengths"] []) (mL:mg "refuse_lengths"=some (.ref fL)) (kL:PySem.W.keepIn K (.ref fL)=true)
  (GO:FnOk P w K mg base (Exc1 P w) 1 fO fdO ["order","pieces"] (spRefOX c1)) (bO:Binds K fdO ["order","pieces"] []) (mO:mg "refuse_order"=some (.ref fO)) (kO:PySem.W.keepIn K (.ref fO)=true)
  (GT:FnOk P w K mg base (Exc1 P w) 2 fT fdT ["turned","pieces"] (spToldX c2)) (bT:Binds K fdT ["turned","pieces"] []) (mT:mg "turns_told"=some (.ref fT)) (kT:PySem.W.keepIn K (.ref fT)=true)
  (GF:FnOk P w K mg base CX0 1 fF fdF ["lengths","order"] spFirst) (bF:Binds K fdF ["lengths","order"] []) (mF:mg "first_places"=some (.ref fF)) (kF:PySem.W.keepIn K (.ref fF)=true) :
  FnOk P w K mg base (Exc1 P w) 3 f fd ["self","lengths","order","turned"] (spInitX c0 c1 c2 C):=by
 refine F.okX scInit (fun vs H Q E h=>?_) (fun cdv A outer s H vs Q E hr h=>?_)
 ·obtain ⟨x,dx,p,q,t,ls,zs,ts,rfl,_⟩:=h
  rfl
 ·obtain ⟨x,dx,p,q,t,ls,zs,ts,rfl,hx,hp,hq,hz,ht,good,x0,x1,x2⟩:=h
  have hr1:Room 1 _:=hr.mono (by decide)
  have npx:=hp.ne hx
  have nqx:=hq.ne hx
  refine ⟨_,J1 (J1p (Jm GL hr1 rfl mL kL bL .nil pass1 (J0 (pv 1) J3)))
   (J1 (J1p (Jm GO hr1 rfl mO kO bO .nil pass1 (J0 (pv 2) (J0 (Ja J7 (by rfl) T.len PySem.boot_len (J0 (pv 1) J3)) J3))))
   (J1 (ps_fld (pv 0) (Jm GT hr rfl mT kT bT .nil pass1 (J0 (pv 3) (J0 (Ja J7 (by rfl) T.len PySem.boot_len (J0 (pv 1) J3)) J3))) rfl)
   (J1 (ps_fld (pv 0) (Je J1m (by rfl) T.tuple PyProof.Rows.boot_tuple (J0 (pv 1) J3)) rfl)
   (J1 (ps_fld (pv 0) (Je J1m (by rfl) T.tuple PyProof.Rows.boot_tuple (J0 (pv 2) J3)) rfl)
   (J1 (ps_fld (pv 0) (Jm GF hr1 rfl mF kF bF .nil pass0 (J0 (pe_fld (pv 0) rfl) (J0 (Je (J1q rfl) (by rfl) T.list PyProof.Rows.boot_list (J0 (Je call_rng (by rfl) T.range PyProof.Rows.boot_range (J0 (Ja J7 (by rfl) T.len PySem.boot_len (J0 (pv 1) J3)) J3)) J3)) J3))) rfl)
   (J1 (ps_fld (pv 0) (Jm GF hr1 rfl mF kF bF .nil pass0 (J0 (pe_fld (pv 0) rfl) (J0 (pe_fld (pv 0) rfl) J3))) rfl)
   (Jb (ps_fld (pv 0) (Ja (J2t rfl) (by rfl) T.sum PyProof.Rows.boot_sum (J0 (pe_fld (pv 0) rfl) J3)) rfl)))))))),?_⟩
  refine ⟨_,rfl,p,ls,rfl,hp,fun gl=>?_,fun n=>x0 n H (Same.refl _)⟩
  have g1:=gl.1
  have g2:=gl.2.1
  refine ⟨_,rfl,_,rfl,p,_,rfl,hp.sq,q,zs,ls.length,(by rw [len_iV];rfl),hq,hz,g2,fun pm H1 s1=>?_,fun n=>x1 gl n⟩
  obtain ⟨os,rfl,po'⟩:=perm_nat pm
  have g:Good ls os:=⟨g1,g2,gl.2.2.1,gl.2.2.2,po'⟩
  refine ⟨_,rfl,_,rfl,p,_,rfl,(hp.same s1).sq,t,ls.length,ts,(by rw [len_iV];rfl),ht.same s1,fun hts pt H2 s2 hpt=>?_,fun n=>x2 gl pm n H1 s1⟩
  have k:=good gl os rfl po' hts
  have s12:=s1.trans s2
  refine ⟨_,rfl,x,C,dx,[],rfl,s12 _ _ hx,TC.cl,TC.nT,(by show 0 < 1000;decide),?_⟩
  generalize hfs1:putF ("turned":Str) (.ref pt) []=fs1
  generalize hH3:upd H2 x (.ins C dx fs1)=H3
  have l1:fs1.length≤1:=by rw [← hfs1];exact Js ..
  have k3:KeepX x H H3:=by rw [← hH3];exact (KeepX.of s12).trans KeepX.upd
  have hx3:H3 x=some (.ins C dx fs1):=by rw [← hH3];exact J2
  have ptx:pt≠x:=ne_of hpt (s12 _ _ hx) (by intro z;cases z)
  have hpt3:H3 pt=some (.tup (bV ts)):=by rw [← hH3,Jd ptx];exact hpt
  refine ⟨_,rfl,J1w (k3.sqH hp npx) fun pl H4 s4 hpl=>⟨_,rfl,x,C,dx,fs1,rfl,s4 _ _ hx3,TC.cl,TC.nL,(by omega),?_⟩⟩
  generalize hfs2:putF ("lengths":Str) (.ref pl) fs1=fs2
  generalize hH5:upd H4 x (.ins C dx fs2)=H5
  have l2:fs2.length≤2:=by rw [← hfs2];have:=Js ("lengths":Str) (.ref pl) fs1;omega
  have k35:KeepX x H3 H5:=by rw [← hH5];exact (KeepX.of s4).trans KeepX.upd
  have k5:KeepX x H H5:=k3.trans k35
  have hx5:H5 x=some (.ins C dx fs2):=by rw [← hH5];exact J2
  have plx:pl≠x:=ne_of hpl (s4 _ _ hx3) (by intro z;cases z)
  have hpl5:H5 pl=some (.tup (iV ls)):=by rw [← hH5,Jd plx];exact hpl
  refine ⟨_,rfl,J1w (k5.sqH hq nqx) fun po H6 s6 hpo=>⟨_,rfl,x,C,dx,fs2,rfl,s6 _ _ hx5,TC.cl,TC.nO,(by omega),?_⟩⟩
  generalize hfs3:putF ("order":Str) (.ref po) fs2=fs3
  generalize hH7:upd H6 x (.ins C dx fs3)=H7
  have l3:fs3.length≤3:=by rw [← hfs3];have:=Js ("order":Str) (.ref po) fs2;omega
  have k57:KeepX x H5 H7:=by rw [← hH7];exact (KeepX.of s6).trans KeepX.upd
  have k7:KeepX x H H7:=k5.trans k57
  have hx7:H7 x=some (.ins C dx fs3):=by rw [← hH7];exact J2
  have pox:po≠x:=ne_of hpo (s6 _ _ hx5) (by intro z;cases z)
  have hpo7:H7 po=some (.tup (nV os)):=by rw [← hH7,Jd pox];exact hpo
  have hpl7:H7 pl=some (.tup (iV ls)):=k57 _ _ hpl5 plx
  have lkL:fs3.lookup ("lengths":Str)=some (.ref pl):=by rw [← hfs3,lk_ne (by decide +kernel),← hfs2,J2e]
  have lkO:fs3.lookup ("order":Str)=some (.ref po):=by rw [← hfs3,J2e]
  have lkT:fs3.lookup ("turned":Str)=some (.ref pt):=by rw [← hfs3,lk_ne (by decide +kernel),← hfs2,lk_ne (by decide +kernel),← hfs1,J2e]
  refine ⟨_,rfl,x,C,dx,fs3,_,rfl,hx7,TC.cl,TC.nL,lkL,_,rfl,p,_,rfl,(k7.sqH hp npx).sq,_,rfl,fun r hr'=>⟨r,_,rfl,J2,(by rw [len_iV];omega),fun l hl=>?_⟩⟩
  have s8:Same H7 (upd (upd H7 r (.rng 0 ((iV ls).length:Nat))) l (.lst (((List.range (iV ls).length).map fun (i:Nat)=>(i:Int)).map V.int))):=(J4 hr').trans (J4 hl)
  refine ⟨pl,l,ls,List.range ls.length,rfl,s8 _ _ hpl7,.inl (by rw [J2,len_iV];rfl),fun o ho=>List.mem_range.mp ho,g2,fun ps H9 s9 hps=>?_⟩
  have s79:=s8.trans s9
  refine ⟨_,rfl,x,C,dx,fs3,rfl,s79 _ _ hx7,TC.cl,TC.nS,(by omega),?_⟩
  generalize hfs4:putF ("starts":Str) (.ref ps) fs3=fs4
  generalize hHa:upd H9 x (.ins C dx fs4)=Ha
  have l4:fs4.length≤4:=by rw [← hfs4];have:=Js ("starts":Str) (.ref ps) fs3;omega
  have k7a:KeepX x H7 Ha:=by rw [← hHa];exact (KeepX.of s79).trans KeepX.upd
  have hxa:Ha x=some (.ins C dx fs4):=by rw [← hHa];exact J2
  have psx:ps≠x:=ne_of hps (s79 _ _ hx7) (by intro z;cases z)
  have hpsa:Ha ps=some (.tup (iV (firsts ls (List.range ls.length)))):=by rw [← hHa,Jd psx];exact hps
  have hpla:=k7a _ _ hpl7 plx
  have hpoa:=k7a _ _ hpo7 pox
  have lkL4:fs4.lookup ("lengths":Str)=some (.ref pl):=by rw [← hfs4,lk_ne (by decide +kernel),lkL]
  have lkO4:fs4.lookup ("order":Str)=some (.ref po):=by rw [← hfs4,lk_ne (by decide +kernel),lkO]
  have lkT4:fs4.lookup ("turned":Str)=some (.ref pt):=by rw [← hfs4,lk_ne (by decide +kernel),lkT]
  have lkS4:fs4.lookup ("starts":Str)=some (.ref ps):=by rw [← hfs4,J2e]
  refine ⟨_,rfl,x,C,dx,fs4,_,rfl,hxa,TC.cl,TC.nL,lkL4,_,rfl,x,C,dx,fs4,_,rfl,hxa,TC.cl,TC.nO,lkO4,pl,po,ls,os,rfl,hpla,.inr hpoa,g.olt,g2,fun pd Hb sb hpd=>?_⟩
  refine ⟨_,rfl,x,C,dx,fs4,rfl,sb _ _ hxa,TC.cl,TC.nD,(by omega),?_⟩
  generalize hfs5:putF ("laid":Str) (.ref pd) fs4=fs5
  generalize hHc:upd Hb x (.ins C dx fs5)=Hc
  have l5:fs5.length≤5:=by rw [← hfs5];have:=Js ("laid":Str) (.ref pd) fs4;omega
  have kac:KeepX x Ha Hc:=by rw [← hHc];exact (KeepX.of sb).trans KeepX.upd
  have hxc:Hc x=some (.ins C dx fs5):=by rw [← hHc];exact J2
  have pdx:pd≠x:=ne_of hpd (sb _ _ hxa) (by intro z;cases z)
  have hpdc:Hc pd=some (.tup (iV (firsts ls os))):=by rw [← hHc,Jd pdx];exact hpd
  have lkL5:fs5.lookup ("lengths":Str)=some (.ref pl):=by rw [← hfs5,lk_ne (by decide +kernel),lkL4]
  refine ⟨_,rfl,x,C,dx,fs5,_,rfl,hxc,TC.cl,TC.nL,lkL5,pl,ls,rfl,.inr (SqT.of (kac _ _ hpla plx)),_,rfl,x,C,dx,fs5,rfl,hxc,TC.cl,TC.nZ,(by omega),?_⟩
  have kz:KeepX x Hc (upd Hc x (.ins C dx (putF ("size":Str) (.int ls.sum) fs5))):=KeepX.upd
  refine k _ ⟨dx,_,pl,po,pt,ps,pd,J2,⟨?_,?_,?_,?_,?_,J2e⟩,kz _ _ (kac _ _ hpla plx) plx,kz _ _ (kac _ _ hpoa pox) pox,kz _ _ (kac _ _ (k7a _ _ (k57 _ _ (k35 _ _ hpt3 ptx) ptx) ptx) ptx) ptx,kz _ _ (kac _ _ hpsa psx) psx,kz _ _ hpdc pdx⟩ (k7.trans (k7a.trans (kac.trans kz)))
  ·rw [lk_ne (by decide +kernel),lkL5]
  ·rw [lk_ne (by decide +kernel),← hfs5,lk_ne (by decide +kernel),lkO4]
  ·rw [lk_ne (by decide +kernel),← hfs5,lk_ne (by decide +kernel),lkT4]
  ·rw [lk_ne (by decide +kernel),← hfs5,lk_ne (by decide +kernel),lkS4]
  ·rw [lk_ne (by decide +kernel),← hfs5,J2e]
end
section
variable {P:Program} {w:World} {K:PySem.W.Frag} {mg:Str→Option Value} {base:Heap}
def numS (i:Int):Str:=Str.ofString (toString i)
theorem J1l {i:Int} (h:i.natAbs < 10 ^ 40):(numS i).length≤41:=by
 unfold numS
 rw [ofString_length]
 exact int_text_length_le10 (by decide) h
theorem log_small {i:Int} (h:i.natAbs < 10 ^ 40):i.natAbs.log2 < 1920:=by
 by_cases hz:i.natAbs=0
 ·rw [hz];decide
 ·refine (Nat.log2_lt hz).mpr (Nat.lt_trans h ?_)
  decide +kernel
theorem J19 {B:Nat}:∀ {ys:List Str},(∀ y∈ys,y.length≤B)→(ys.map (·.length)).sum≤ys.length * B
 | [],_=>Nat.zero_le _
 | y :: ys,h=>by
  have h1:=h y (List.mem_cons_self ..)
  have h2:=J19 (ys:=ys) fun z hz=>h z (List.mem_cons_of_mem _ hz)
  rw [List.map_cons,List.sum_cons,List.length_cons,Nat.succ_mul]
  omega
theorem join_len {B:Nat} {sep:Str} {ys:List Str} (h:∀ y∈ys,y.length≤B):(Txt.join sep ys).length≤ys.length * B + ys.length * sep.length:=by
 show (Builtin.Str.glued sep ys).length≤_
 rw [StrLaws.glued_eq_join]
 exact Nat.le_trans (StrLaws.join_length_le sep ys) (Nat.add_le_add_right (J19 h) _)
theorem J28:∀ {ls:List Int},(∀ a∈ls,0≤a)→0≤ls.sum
 | [],_=>Int.le_refl _
 | b :: ls,h=>by
  have h1:=h b (List.mem_cons_self ..)
  have h2:=J28 (ls:=ls) fun a ha=>h a (List.mem_cons_of_mem _ ha)
  rw [List.sum_cons]
  omega
theorem J34:∀ {ls:List Int},(∀ a∈ls,0≤a)→∀ {l:Int},l∈ls→l≤ls.sum
 | b :: ls,h,l,hl=>by
  have h1:=h b (List.mem_cons_self ..)
  have h3:0≤ls.sum:=J28 fun a ha=>h a (List.mem_cons_of_mem _ ha)
  rw [List.sum_cons]
  rcases List.mem_cons.mp hl with rfl | hl
  ·omega
  ·have h2:=J34 (ls:=ls) (fun a ha=>h a (List.mem_cons_of_mem _ ha)) hl
   omega
end
end R10
namespace R10
open PySem L2 Rl
section
variable {P:Program} {w:World} {K:PySem.W.Frag} {mg:Str→Option Value} {base:Heap}
def digB (c:Nat):Bool:=!(Builtin.Str.occurrences (Str.ofString "0123456789") ⟨#[c]⟩ 0 (Str.ofString "0123456789").length 1).isEmpty
def numB (z:Str):Bool:=if z=Str.ofString "" then false else if 31 < z.length then false else if z.cps.getD 0 0=48∧z≠Str.ofString "0" then false else z.cps.toList.all digB
def endB (z:Str):Bool:=(0 + (Str.ofString "-").length≤z.length && Builtin.Str.subAt z (Str.ofString "-") (z.length - (Str.ofString "-").length))
def noT (z:Str):Str:=if endB z=true then Txt.slice z none (some (-1)) else z
def spIsNum:Sp:=fun vs H Q _=>∃ z:Str,vs=[.str z,.int 31]∧z.length≤sizeLine∧∀ H',Same H H'→Q (.bl (numB z)) H'
def spNoT:Sp:=fun vs H Q _=>∃ z:Str,vs=[.str z]∧z.length≤sizeLine∧Q (.str (noT z)) H
abbrev sp1:Str:=Str.ofString " "
abbrev nl1:Str:=Str.ofString "\n"
def J35 (z:Str):Bool:=decide ((Txt.split z sp1).headD Str.empty=Str.ofString "pieces") && ((Txt.split z sp1).drop 1).all numB
def J20 (z:Str):Bool:=decide ((Txt.split z sp1).headD Str.empty=Str.ofString "laid") && ((Txt.split z sp1).drop 1).all fun y=>numB (noT y)
def spLenRow:Sp:=fun vs H Q _=>∃ z:Str,vs=[.str z]∧z.length≤100000∧(Txt.split z sp1).length≤1000∧∀ H',Same H H'→Q (.bl (J35 z)) H'
def spLaidRow:Sp:=fun vs H Q _=>∃ z:Str,vs=[.str z]∧z.length≤100000∧(Txt.split z sp1).length≤1000∧∀ H',Same H H'→Q (.bl (J20 z)) H'
theorem J2s (x:V) (xs:List V):cutV (x :: xs) (some 1) none=xs:=by
 unfold cutV
 have e:HT.sIx (x :: xs).length 0 (some 1)=1:=by
  show (if (1:Int) < 0 then ((1:Int) + ((x :: xs).length:Int)).toNat else min (1:Int).toNat (x :: xs).length)=_
  rw [if_neg (by decide),List.length_cons]
  show min 1 (xs.length + 1)=1
  omega
 rw [e,HT.sIx_none]
 show xs.take (xs.length + 1 - 1)=xs
 rw [Nat.add_sub_cancel,List.take_length]
theorem noT_len (z:Str):(noT z).length≤z.length:=by
 unfold noT
 split
 ·exact Txt.slice_le ..
 ·exact Nat.le_refl _
theorem sign_ne {c:Nat}:(⟨#[c]⟩:Str)=Str.ofString "0"↔c=48:=by
 have e:Str.ofString "0"=⟨#[48]⟩:=by decide +kernel
 rw [e]
 constructor
 ·intro h
  have:=congrArg (fun s=>s.cps.toList) h
  simpa using this
 ·intro h;rw [h]
theorem empty_iff (z:Str):z=Str.ofString ""↔z.cps.toList=[]:=by
 have e:Str.ofString ""=⟨#[]⟩:=by decide +kernel
 rw [e]
 exact ⟨fun h=>by rw [h],fun h=>J1v h⟩
theorem scIsNum:FnScope ["word","figures"] ["word","figures"] (J6 sIsNum):=⟨rfl,rfl,rfl,by decide +kernel,rfl,by decide +kernel,by decide +kernel⟩
theorem ok_isNum {f   : Addr} {fd  : FuncData}  (F : Fun K "is_number" "is_number" sIsNum f fd) (T : TxtR mg) (hall : mg "all" = none)
 :
    FnOk P w K mg base CX0 1 f fd ["word", "figures"] spIsNum := by
  refine F.ok scIsNum (fun vs H Q E h => ?_) (fun cdv A outer s H vs Q E hr h => ?_)
  · obtain ⟨z, rfl, _⟩ := h
    rfl
  · obtain ⟨z, rfl, hz, k⟩ := h
    refine ⟨_, (J1 (ps_if (PW.pt (pw_or (Jh op_eq (pv 0) Jv (Ji _)) (pw_or1 (Jh op_gt (Ja J3m (by rfl) T.len PySem.boot_len (J0 (pv 0) J3)) (pv 1) (Ji _))))) (Jb (Jy pe_bl)) Jj)
      (J1 (ps_cut (ps_if (PW.pt (pw_and (Jh op_eq (pe_ix ix_str (pv 0) J8 (fun _ _ => rfl)) Jv (Ji _)) (pw_and1 (Jh op_ne (pv 0) Jv (Ji _))))) (Jb (Jy pe_bl)) Jj))
      (Jb (Jy (Ja (J3n rfl) (by rfl) hall PyProof.Rows.boot_all (J0 (pe_lc (caps := []) (js := []) rfl (pi_str (pv 0)) rfl (fun _ _ _ _ => J15) (fun C fp s H => (Jt op_in_str (pv 0) Jv rfl)) (by decide +kernel) (by decide +kernel) (by decide +kernel) (by intro p hp; cases hp)) J3)))))), ?_⟩
    refine ⟨_, rfl, rfl, _, rfl, ?_⟩
    by_cases c1 : z = Str.ofString ""
    · refine iteDT (by rw [c1]) (iteT ?_)
      have := k H (Same.refl _)
      unfold numB at this
      rw [if_pos c1] at this
      exact this
    refine iteD (fun e => c1 (V.str.inj e)) ?_
    refine ⟨_, rfl, z, rfl, hz, _, rfl, _, _, rfl, rfl, _, rfl, ?_⟩
    by_cases c2 : 31 < z.length
    · refine iteDT (by show (31 : Int) < _; omega) ?_
      have := k H (Same.refl _)
      unfold numB at this
      rw [if_neg c1, if_pos c2] at this
      exact this
    refine iteD (by show ¬ (31 : Int) < _; omega) ?_
    have ne : z.cps.toList ≠ [] := fun e => c1 ((empty_iff z).mpr e)
    obtain ⟨c, r, hc⟩ := List.exists_cons_of_ne_nil ne
    have h0 : z.cps.getD 0 0 = c := by
      have e : z.cps.toList[0]? = some c := by rw [hc]; rfl
      rw [Array.getElem?_toList] at e
      rw [Array.getD_eq_getD_getElem?, e]; rfl
    refine ⟨fun σ' H' => σ' = [some (V.str z), some (V.int 31)] ∧ H = H' ∧ ¬ (z.cps.getD 0 0 = 48 ∧ z ≠ Str.ofString "0"), ?_, ?_⟩
    · refine ⟨_, rfl, z, _, c, rfl, rfl, hz, Jg (j := 0) (by rw [hc]; rfl), rfl, _, rfl, ?_⟩
      by_cases c3 : c = 48
      · refine iteDT (by rw [sign_ne.mpr c3]) ?_
        refine ⟨_, rfl, rfl, _, rfl, ?_⟩
        by_cases c4 : z = Str.ofString "0"
        · exact iteNS (by rw [c4]) ⟨rfl, rfl, fun q => q.2 c4⟩
        · refine iteND (fun e => c4 (V.str.inj e)) ?_
          have := k H (Same.refl _)
          unfold numB at this
          rw [if_neg c1, if_neg c2, if_pos ⟨h0.trans c3, c4⟩] at this
          exact this
      · exact iteD (fun e => c3 (sign_ne.mp (V.str.inj e))) (iteF ⟨rfl, rfl, fun q => c3 (h0.symm.trans q.1)⟩)
    rintro σ _ ⟨rfl, rfl, c5⟩
    refine ⟨_, rfl, z, rfl, fun d hd => lc_str z (fun _ => true) (fun c => V.bl (digB c)) (by omega) hd (fun _ _ H _ _ q => q H (Same.refl _)) (fun c hc H2 Qe _ s2 q => ?_) (fun H2 s2 hd2 => ?_)⟩
    · exact ⟨_, rfl, _, _, rfl, rfl, q H2 (Same.refl _)⟩
    rw [Jp] at hd2
    refine ⟨d, z.cps.toList.map digB, rfl, SqL.of (by rw [hd2, List.map_map]; rfl), ?_⟩
    have := k H2 s2
    unfold numB at this
    rw [if_neg c1, if_neg c2, if_neg c5] at this
    rw [List.all_map]
    exact this
theorem scNoT:FnScope ["word"] ["word"] (J6 sNoT):=⟨rfl,rfl,rfl,by decide +kernel,rfl,by decide +kernel,by decide +kernel⟩
theorem ok_noT {f   : Addr} {fd  : FuncData}  (F : Fun K "without_turn" "without_turn" sNoT f fd) 
 :
    FnOk P w K mg base CX0 1 f fd ["word"] spNoT := by
  refine F.ok scNoT (fun vs H Q E h => ?_) (fun cdv A outer s H vs Q E hr h => ?_)
  · obtain ⟨z, rfl, _⟩ := h
    rfl
  · obtain ⟨z, rfl, hz, k⟩ := h
    refine ⟨_, (Jb (Jy (pe_ifExp (pt_val (pe_bm PySem.F.plainAttrs_str PySem.F.slot_str_endswith PySem.F.type_str_endswith mt_ends (pv 0) (J0 Jv J3))) (J1y sl_str (pv 0) J32 (J31 (pe_un un_neg J8))) (pv 0)))), ?_⟩
    refine ⟨_, rfl, rfl, z, _, rfl, rfl, _, rfl, ?_⟩
    unfold noT at k
    by_cases c : endB z = true
    · rw [if_pos c] at k
      exact iteBT c ⟨_, rfl, _, rfl, _, rfl, z, rfl, hz, k⟩
    · rw [if_neg c] at k
      exact iteBF c ⟨_, rfl, k⟩
theorem scLenRow:FnScope ["row","words"] ["row"] (J6 J2b):=⟨rfl,rfl,rfl,by decide +kernel,rfl,by decide +kernel,by decide +kernel⟩
theorem ok_lenRow {f fIN :Addr} {fd fdIN:FuncData}  (F:Fun K "is_length_row" "is_length_row" J2b f fd) (T:TxtR mg) (hall:mg "all"=none) (h31:∃ t,mg "MOST_FIGURES"=some (.int 31 t))
  (GIN:FnOk P w K mg base CX0 1 fIN fdIN ["word","figures"] spIsNum) (bIN:Binds K fdIN ["word","figures"] []) (mIN:mg "is_number"=some (.ref fIN)) (kIN:PySem.W.keepIn K (.ref fIN)=true) :
  FnOk P w K mg base CX0 2 f fd ["row"] spLenRow:=by
 refine F.ok scLenRow (fun vs H Q E h=>?_) (fun cdv A outer s H vs Q E hr h=>?_)
 ·obtain ⟨z,rfl,_⟩:=h
  rfl
 ·obtain ⟨z,rfl,hz,hn,k⟩:=h
  have hr1:Room 1 _:=hr.mono (by decide)
  obtain ⟨t31,h31⟩:=h31
  refine ⟨_,(J1 (Jn (i:=1) scLenRow.nd rfl (Or.inl rfl) (pe_bm PySem.F.plainAttrs_str PySem.F.slot_str_split PySem.F.type_str_split J1z (pv 0) (J0 Jv J3)))
   (Jb (Jy (J3g (Jt op_eq (pe_ix Ju (pv 1) J8 (fun _ _=>rfl)) Jv (Ji _)) (J3f (Ja (J3n rfl) (by rfl) hall PyProof.Rows.boot_all (J0 (pe_lc (caps:=[]) (js:=[]) rfl (J1x (J1y sl_list (pv 1) (J31 J8) J32)) rfl (fun _ _ _ _=>J15) (fun C fp s H=>(Jm GIN hr1 rfl mIN kIN bIN .nil pass0 (J0 (pv 0) (J0 (J2d (v:=.int 31) rfl h31 ⟨_,rfl⟩) J3)))) (by decide +kernel) (by decide +kernel) (by decide +kernel) (by intro p hp;cases hp)) J3))))))),?_⟩
  refine ⟨_,rfl,rfl,z,_,rfl,rfl,(by decide +kernel),(by rw [sizeLine_eq];omega),fun d hd=>?_⟩
  have s1:=J4 (o:=.lst ((Txt.split z sp1).map V.str)) hd
  have hd1:upd H d (.lst ((Txt.split z sp1).map V.str)) d=some (.lst ((Txt.split z sp1).map V.str)):=J2
  generalize upd H d (.lst ((Txt.split z sp1).map V.str))=H1 at *
  have short:∀ y∈Txt.split z sp1,y.length≤sizeLine:=fun y hy=>Nat.le_trans (PyProof.Rows.part_short hy) (by rw [sizeLine_eq];omega)
  obtain ⟨y,ys,hys⟩:∃ y ys,Txt.split z sp1=y :: ys:=List.exists_cons_of_ne_nil (fun e=>by
   have:=PyProof.Rows.split_pos z sp1
   rw [e] at this
   exact absurd this (by decide))
  unfold J35 at k
  rw [hys] at k hd1 short hn
  refine ⟨_,rfl,d,_,_,_,rfl,rfl,SqL.of hd1,Jg (j:=0) rfl,rfl,_,rfl,?_⟩
  by_cases c:y=Str.ofString "pieces"
  ·refine iteDT (by rw [c]) ?_
   refine ⟨_,rfl,_,rfl,d,_,rfl,SqL.of hd1,fun l hl=>?_⟩
   rw [List.map_cons,J2s]
   have s2:=J4 (o:=.lst (ys.map V.str)) hl
   have hl1:upd H1 l (.lst (ys.map V.str)) l=some (.lst (ys.map V.str)):=J2
   generalize upd H1 l (.lst (ys.map V.str))=H2 at *
   refine ⟨l,rfl,⟨_,SqL.of hl1⟩,fun e he=>lc_lst V.str ys (fun _=>true) (fun y=>V.bl (numB y)) (SqL.of hl1) (Nat.le_trans (Nat.le_succ _) hn) he (fun _ _ H _ _ q=>q H (Same.refl _)) (fun v hv H3 Qe _ s3 q=>?_) (fun H3 s3 hd3=>?_)⟩
   ·have sv:=short v (List.mem_cons_of_mem _ hv)
    exact ⟨_,rfl,v,rfl,sv,fun H' s'=>q H' s'⟩
   rw [Jp] at hd3
   refine ⟨e,ys.map (fun y=>numB y),rfl,SqL.of (by rw [hd3,List.map_map];rfl),?_⟩
   have:=k H3 ((s1.trans s2).trans s3)
   rw [show (y :: ys).headD Str.empty=y from rfl,decide_eq_true c,Bool.true_and] at this
   rw [List.all_map]
   exact this
  ·refine iteD (fun e=>c (V.str.inj e)) ?_
   have:=k H1 s1
   rw [show (y :: ys).headD Str.empty=y from rfl,decide_eq_false c,Bool.false_and] at this
   exact this
theorem scLaidRow:FnScope ["row","words"] ["row"] (J6 J1h):=⟨rfl,rfl,rfl,by decide +kernel,rfl,by decide +kernel,by decide +kernel⟩
theorem ok_laidRow {f fIN fNT :Addr} {fd fdIN fdNT:FuncData}  (F:Fun K "is_laid_row" "is_laid_row" J1h f fd) (T:TxtR mg) (hall:mg "all"=none) (h31:∃ t,mg "MOST_FIGURES"=some (.int 31 t))
  (GIN:FnOk P w K mg base CX0 1 fIN fdIN ["word","figures"] spIsNum) (bIN:Binds K fdIN ["word","figures"] []) (mIN:mg "is_number"=some (.ref fIN)) (kIN:PySem.W.keepIn K (.ref fIN)=true)
  (GNT:FnOk P w K mg base CX0 1 fNT fdNT ["word"] spNoT) (bNT:Binds K fdNT ["word"] []) (mNT:mg "without_turn"=some (.ref fNT)) (kNT:PySem.W.keepIn K (.ref fNT)=true) :
  FnOk P w K mg base CX0 2 f fd ["row"] spLaidRow:=by
 refine F.ok scLaidRow (fun vs H Q E h=>?_) (fun cdv A outer s H vs Q E hr h=>?_)
 ·obtain ⟨z,rfl,_⟩:=h
  rfl
 ·obtain ⟨z,rfl,hz,hn,k⟩:=h
  have hr1:Room 1 _:=hr.mono (by decide)
  obtain ⟨t31,h31⟩:=h31
  refine ⟨_,(J1 (Jn (i:=1) scLaidRow.nd rfl (Or.inl rfl) (pe_bm PySem.F.plainAttrs_str PySem.F.slot_str_split PySem.F.type_str_split J1z (pv 0) (J0 Jv J3)))
   (Jb (Jy (J3g (Jt op_eq (pe_ix Ju (pv 1) J8 (fun _ _=>rfl)) Jv (Ji _)) (J3f (Ja (J3n rfl) (by rfl) hall PyProof.Rows.boot_all (J0 (pe_lc (caps:=[]) (js:=[]) rfl (J1x (J1y sl_list (pv 1) (J31 J8) J32)) rfl (fun _ _ _ _=>J15) (fun C fp s H=>(Jm GIN hr1 rfl mIN kIN bIN .nil pass0 (J0 (Jm GNT hr1 rfl mNT kNT bNT .nil pass0 (J0 (pv 0) J3)) (J0 (J2d (v:=.int 31) rfl h31 ⟨_,rfl⟩) J3)))) (by decide +kernel) (by decide +kernel) (by decide +kernel) (by intro p hp;cases hp)) J3))))))),?_⟩
  refine ⟨_,rfl,rfl,z,_,rfl,rfl,(by decide +kernel),(by rw [sizeLine_eq];omega),fun d hd=>?_⟩
  have s1:=J4 (o:=.lst ((Txt.split z sp1).map V.str)) hd
  have hd1:upd H d (.lst ((Txt.split z sp1).map V.str)) d=some (.lst ((Txt.split z sp1).map V.str)):=J2
  generalize upd H d (.lst ((Txt.split z sp1).map V.str))=H1 at *
  have short:∀ y∈Txt.split z sp1,y.length≤sizeLine:=fun y hy=>Nat.le_trans (PyProof.Rows.part_short hy) (by rw [sizeLine_eq];omega)
  obtain ⟨y,ys,hys⟩:∃ y ys,Txt.split z sp1=y :: ys:=List.exists_cons_of_ne_nil (fun e=>by
   have:=PyProof.Rows.split_pos z sp1
   rw [e] at this
   exact absurd this (by decide))
  unfold J20 at k
  rw [hys] at k hd1 short hn
  refine ⟨_,rfl,d,_,_,_,rfl,rfl,SqL.of hd1,Jg (j:=0) rfl,rfl,_,rfl,?_⟩
  by_cases c:y=Str.ofString "laid"
  ·refine iteDT (by rw [c]) ?_
   refine ⟨_,rfl,_,rfl,d,_,rfl,SqL.of hd1,fun l hl=>?_⟩
   rw [List.map_cons,J2s]
   have s2:=J4 (o:=.lst (ys.map V.str)) hl
   have hl1:upd H1 l (.lst (ys.map V.str)) l=some (.lst (ys.map V.str)):=J2
   generalize upd H1 l (.lst (ys.map V.str))=H2 at *
   refine ⟨l,rfl,⟨_,SqL.of hl1⟩,fun e he=>lc_lst V.str ys (fun _=>true) (fun y=>V.bl (numB (noT y))) (SqL.of hl1) (Nat.le_trans (Nat.le_succ _) hn) he (fun _ _ H _ _ q=>q H (Same.refl _)) (fun v hv H3 Qe _ s3 q=>?_) (fun H3 s3 hd3=>?_)⟩
   ·have sv:=short v (List.mem_cons_of_mem _ hv)
    exact ⟨_,rfl,v,rfl,sv,noT v,rfl,Nat.le_trans (noT_len v) sv,fun H' s'=>q H' s'⟩
   rw [Jp] at hd3
   refine ⟨e,ys.map (fun y=>numB (noT y)),rfl,SqL.of (by rw [hd3,List.map_map];rfl),?_⟩
   have:=k H3 ((s1.trans s2).trans s3)
   rw [show (y :: ys).headD Str.empty=y from rfl,decide_eq_true c,Bool.true_and] at this
   rw [List.all_map]
   exact this
  ·refine iteD (fun e=>c (V.str.inj e)) ?_
   have:=k H1 s1
   rw [show (y :: ys).headD Str.empty=y from rfl,decide_eq_false c,Bool.false_and] at this
   exact this
end
end R10
namespace R10
open PySem L2 Rl
section
variable {P:Program} {w:World} {K:PySem.W.Frag} {mg:Str→Option Value} {base:Heap}
theorem inV_strs (a:Str) (ws:List Str):inV (V.str a) (ws.map V.str)=decide (a∈ws):=by
 unfold inV
 rw [Bool.eq_iff_iff,List.any_eq_true,decide_eq_true_iff]
 constructor
 ·rintro ⟨y,hy,e⟩
  obtain ⟨i,hi,rfl⟩:=List.mem_map.mp hy
  have e':(i == a)=true:=e
  exact eq_of_beq e' ▸ hi
 ·intro h
  exact ⟨V.str a,List.mem_map.mpr ⟨a,h,rfl⟩,(beq_self_eq_true _:(a == a)=true)⟩
theorem flat_strs (ws:List Str):(ws.map V.str).all flatV=true:=by
 rw [List.all_eq_true]
 intro y hy
 obtain ⟨i,_,rfl⟩:=List.mem_map.mp hy
 rfl
def spRefRows (K:PySem.W.Frag):Sp:=fun vs H Q _=>∃ (p:Addr) (r0 r1:Str),vs=[.ref p]∧SqL K H p [.str r0,.str r1,.str (Str.ofString "")]∧(r0.length≤100000∧r1.length≤100000)∧((Txt.split r0 sp1).length≤1000∧(Txt.split r1 sp1).length≤1000)∧(J35 r0=true∧J20 r1=true)∧∀ H',Same H H'→Q .non H'
theorem scRefRows:FnScope ["rows"] ["rows"] (J6 J1g):=⟨rfl,rfl,rfl,by decide +kernel,rfl,by decide +kernel,by decide +kernel⟩
theorem ok_refRows {f fLR fDR :Addr} {fd fdLR fdDR:FuncData}  (F:Fun K "refuse_rows" "refuse_rows" J1g f fd) (T:TxtR mg)
  (GLR:FnOk P w K mg base CX0 2 fLR fdLR ["row"] spLenRow) (bLR:Binds K fdLR ["row"] []) (mLR:mg "is_length_row"=some (.ref fLR)) (kLR:PySem.W.keepIn K (.ref fLR)=true)
  (GDR:FnOk P w K mg base CX0 2 fDR fdDR ["row"] spLaidRow) (bDR:Binds K fdDR ["row"] []) (mDR:mg "is_laid_row"=some (.ref fDR)) (kDR:PySem.W.keepIn K (.ref fDR)=true) :
  FnOk P w K mg base CX0 3 f fd ["rows"] (spRefRows K):=by
 refine F.ok scRefRows (fun vs H Q E h=>?_) (fun cdv A outer s H vs Q E hr h=>?_)
 ·obtain ⟨p,r0,r1,rfl,_⟩:=h
  rfl
 ·obtain ⟨p,r0,r1,rfl,hS,⟨z0,z1⟩,⟨n0,n1⟩,⟨b0,b1⟩,k⟩:=h
  have hr2:Room 2 _:=hr.mono (by decide)
  refine ⟨_,(J1 (ps_if (PW.pt (pw_or (Jh op_lt (Ja J7 (by rfl) T.len PySem.boot_len (J0 (pv 0) J3)) J8 (Ji _)) (pw_or1 (pt_not (pt_val (Jm GLR hr2 rfl mLR kLR bLR .nil pass0 (J0 (pe_ix Ju (pv 0) J8 (fun _ _=>rfl)) J3))))))) (Jb J2j) Jj)
   (J1 (ps_if (PW.pt (pw_or (Jh op_lt (Ja J7 (by rfl) T.len PySem.boot_len (J0 (pv 0) J3)) J8 (Ji _)) (pw_or1 (pt_not (pt_val (Jm GDR hr2 rfl mDR kDR bDR .nil pass0 (J0 (pe_ix Ju (pv 0) J8 (fun _ _=>rfl)) J3))))))) (Jb J2j) Jj)
   (Jb (ps_if (PW.pt (pw_or (Jh op_gt (Ja J7 (by rfl) T.len PySem.boot_len (J0 (pv 0) J3)) J8 (Ji _)) (pw_or1 (Jh op_ne (pe_ix Ju (pv 0) J8 (fun _ _=>rfl)) Jv (Ji _))))) (Jb J2j) Jj)))),?_⟩
  refine ⟨_,rfl,p,_,rfl,.inl hS,_,_,rfl,rfl,_,rfl,iteD (by show ¬ (3:Int) < 2;decide) ?_⟩
  refine ⟨_,rfl,p,_,_,_,rfl,rfl,hS,Jg (j:=0) rfl,r0,rfl,z0,n0,fun H1 s1=>⟨_,rfl,?_⟩⟩
  rw [b0]
  refine iteF ?_
  have hS1:=s1.seq hS
  refine ⟨_,rfl,p,_,rfl,.inl hS1,_,_,rfl,rfl,_,rfl,iteD (by show ¬ (3:Int) < 3;decide) ?_⟩
  refine ⟨_,rfl,p,_,_,_,rfl,rfl,hS1,Jg (j:=1) rfl,r1,rfl,z1,n1,fun H2 s2=>⟨_,rfl,?_⟩⟩
  rw [b1]
  refine iteF ?_
  have hS2:=s2.seq hS1
  refine ⟨_,rfl,p,_,rfl,.inl hS2,_,_,rfl,rfl,_,rfl,iteD (by show ¬ (3:Int) < 3;decide) ?_⟩
  exact ⟨_,rfl,p,_,_,_,rfl,rfl,hS2,Jg (j:=2) rfl,rfl,_,rfl,iteNS rfl (k _ (s1.trans s2))⟩
end
section
theorem sp1_eq:sp1=⟨#[32]⟩:=by decide +kernel
theorem nl1_eq:nl1=⟨#[10]⟩:=by decide +kernel
theorem dash_eq:Str.ofString "-"=⟨#[45]⟩:=by decide +kernel
theorem slice_last (x:Str) (c:Nat):Txt.slice (x ++ ⟨#[c]⟩) none (some (-1))=x:=by
 have hl:(x ++ ⟨#[c]⟩:Str).length=x.length + 1:=by rw [strLen_append];rfl
 have lx:x.cps.toList.length=x.length:=Array.length_toList
 have e1:Txt.slice (x ++ ⟨#[c]⟩) none (some (-1))=StrLaws.sliceText (x ++ ⟨#[c]⟩) (some ((0:Nat):Int)) (some ((x.length:Nat):Int)):=by
  unfold Txt.slice StrLaws.sliceText
  rw [StrLaws.sliceIdx_none_lo,StrLaws.sliceIdx_neg_hi _ _ (by decide) (by rw [hl];omega)]
  have e2:(-1 + (((x ++ ⟨#[c]⟩:Str).length:Nat):Int))=((x.length:Nat):Int):=by rw [hl];omega
  rw [e2];rfl
 rw [e1,StrLaws.sliceText_nat _ (Nat.zero_le _) (by rw [hl];omega)]
 refine J1v ?_
 show ((((x ++ ⟨#[c]⟩:Str).cps.toList.drop 0).take (x.length - 0)).toArray).toList=_
 rw [J13,List.drop_zero,Nat.sub_zero,← lx]
 show List.take x.cps.toList.length (x.cps.toList ++ _)=_
 exact List.take_left
theorem endB_iff {z:Str} (h:endB z=true):45∈z.cps.toList:=by
 unfold endB at h
 rw [Bool.and_eq_true] at h
 have h2:=h.2
 rw [StrLaws.subAt_eq,dash_eq] at h2
 have h3:=eq_of_beq h2
 have h4:45∈List.take (⟨#[45]⟩:Str).length (List.drop (z.length - (⟨#[45]⟩:Str).length) z.cps.toList):=by rw [h3];exact List.mem_singleton.mpr rfl
 exact List.mem_of_mem_drop (List.mem_of_mem_take h4)
theorem endB_dash (x:Str):endB (x ++ Str.ofString "-")=true:=by
 have:=PySem.W.KT.ends_app x (Str.ofString "-")
 unfold Txt.endswith at this
 unfold endB
 exact this
def wordB (o:Int) (b:Bool):Str:=if b=true then numS o ++ Str.ofString "-" else numS o
theorem J2l {n:Int} (h:0≤n) {c:Nat} (hc:c < 48):c ∉ (numS n).cps.toList:=fun m=>by
 have:=Jz h c m
 omega
theorem J2m {o:Int} (h:0≤o) (b:Bool):noT (wordB o b)=numS o:=by
 unfold noT wordB
 cases b with
 | true =>
  rw [if_pos (show true=true from rfl),if_pos (endB_dash _),dash_eq]
  exact slice_last _ _
 | false =>
  rw [if_neg (show ¬ false=true by decide),if_neg (fun q=>J2l h (by decide) (endB_iff q))]
theorem J27 {o:Int} (h:0≤o) (b:Bool) {c:Nat} (hc:c∈(wordB o b).cps.toList):45≤c:=by
 unfold wordB at hc
 split at hc
 ·rw [J13,dash_eq] at hc
  rcases List.mem_append.mp hc with q | q
  ·have:=Jz h c q;omega
  ·have:c=45:=List.mem_singleton.mp q
   omega
 ·have:=Jz h c hc;omega
theorem digB_digit:∀ c:Nat,c < 58→48≤c→digB c=true:=by decide +kernel
theorem numB_num {n:Int} (h:0≤n) (h1:n < 10 ^ 31):numB (numS n)=true:=by
 have hl:(numS n).length≤31:=PyProof.Rows.toString_length_le h (by decide) h1
 have hd:∀ c∈(numS n).cps.toList,48≤c∧c≤57:=Jz h
 have hne:(numS n).cps.toList≠[]:=num_ne h
 have h0:¬ numS n=Str.ofString "":=fun e=>hne ((empty_iff _).mp e)
 unfold numB
 rw [if_neg h0,if_neg (by omega),if_neg,List.all_eq_true]
 ·intro c hc
  have:=hd c hc
  exact digB_digit c (by omega) this.1
 ·rintro ⟨q1,q2⟩
  by_cases c0:n=0
  ·subst c0;exact q2 rfl
  ·obtain ⟨c,r,e,q⟩:=head_digit n.toNat (by omega)
   have e1:=J1t h
   rw [e] at e1
   have e2:(numS n).cps.toList[0]?=some c.toNat:=by
    show (Str.ofString (toString n)).cps.toList[0]?=_
    rw [e1];rfl
   rw [Array.getElem?_toList] at e2
   rw [Array.getD_eq_getD_getElem?,e2] at q1
   exact q q1
theorem join_mem {c:Nat} {s:Str}:∀ {ps:List Str},c∈(Str.join s ps).cps.toList→c∈s.cps.toList∨∃ p∈ps,c∈p.cps.toList
 | [],h=>absurd (show c∈([]:List Nat) from h) (by simp)
 | [x],h=>.inr ⟨x,List.mem_cons_self ..,h⟩
 | x :: y :: r,h=>by
  have h:c∈(x ++ s ++ Str.join s (y :: r)).cps.toList:=h
  rw [J13,J13] at h
  rcases List.mem_append.mp h with q | q
  ·rcases List.mem_append.mp q with q | q
   ·exact .inr ⟨x,List.mem_cons_self ..,q⟩
   ·exact .inl q
  ·rcases join_mem q with q | ⟨p,hp,hc⟩
   ·exact .inl q
   ·exact .inr ⟨p,List.mem_cons_of_mem _ hp,hc⟩
theorem row_split {a:Str} {ws:List Str} (ha:32 ∉ a.cps.toList) (hw:∀ y∈ws,32 ∉ y.cps.toList):Txt.split (Txt.join sp1 (a :: ws)) sp1=a :: ws:=by
 rw [sp1_eq]
 refine J2w 32 (List.cons_ne_nil _ _) fun p hp=>?_
 rcases List.mem_cons.mp hp with rfl | hp
 ·exact ha
 ·exact hw p hp
theorem row_free {a:Str} {ws:List Str} {c:Nat} (hc:c≠32) (ha:c ∉ a.cps.toList) (hw:∀ y∈ws,c ∉ y.cps.toList):c ∉ (Txt.join sp1 (a :: ws)).cps.toList:=by
 intro h
 have e:Txt.join sp1 (a :: ws)=Str.join sp1 (a :: ws):=StrLaws.glued_eq_join ..
 rw [e] at h
 rcases join_mem h with q | ⟨p,hp,q⟩
 ·rw [sp1_eq] at q
  exact hc (List.mem_singleton.mp q)
 ·rcases List.mem_cons.mp hp with rfl | hp
  ·exact ha q
  ·exact hw p hp q
theorem text_split {r0 r1:Str} (h0:10 ∉ r0.cps.toList) (h1:10 ∉ r1.cps.toList):Txt.split (r0 ++ nl1 ++ (r1 ++ nl1)) nl1=[r0,r1,Str.ofString ""]:=by
 have e:r0 ++ nl1 ++ (r1 ++ nl1)=Txt.join nl1 [r0,r1,Str.ofString ""]:=by
  have e1:Txt.join nl1 [r0,r1,Str.ofString ""]=Str.join nl1 [r0,r1,Str.ofString ""]:=StrLaws.glued_eq_join ..
  rw [e1]
  show _=r0 ++ nl1 ++ (r1 ++ nl1 ++ Str.ofString "")
  refine congrArg _ ?_
  have e2:Str.ofString ""=Str.empty:=by decide +kernel
  rw [e2]
  exact Str.ext' (by rw [Str.cps_append (r1 ++ nl1)];exact Array.append_empty.symm)
 rw [e,nl1_eq]
 refine J2w 10 (List.cons_ne_nil _ _) fun p hp=>?_
 simp only [List.mem_cons,List.not_mem_nil,or_false] at hp
 rcases hp with rfl | rfl | rfl
 ·exact h0
 ·exact h1
 ·decide +kernel
theorem pieces_free:(32 ∉ (Str.ofString "pieces").cps.toList)∧10 ∉ (Str.ofString "pieces").cps.toList:=by decide +kernel
theorem laid_free:(32 ∉ (Str.ofString "laid").cps.toList)∧10 ∉ (Str.ofString "laid").cps.toList:=by decide +kernel
def rowN (ls:List Int):Str:=Txt.join sp1 (Str.ofString "pieces" :: ls.map numS)
def rowB (ps:List (Int × Bool)):Str:=Txt.join sp1 (Str.ofString "laid" :: ps.map fun p=>wordB p.1 p.2)
theorem J2z {ls:List Int} (h:∀ l∈ls,0≤l):Txt.split (rowN ls) sp1=Str.ofString "pieces" :: ls.map numS:=row_split pieces_free.1 fun y hy=>by
 obtain ⟨l,hl,rfl⟩:=List.mem_map.mp hy
 exact J2l (h l hl) (by decide)
theorem J30 {ps:List (Int × Bool)} (h:∀ p∈ps,0≤p.1):Txt.split (rowB ps) sp1=Str.ofString "laid" :: ps.map fun p=>wordB p.1 p.2:=row_split laid_free.1 fun y hy=>by
 obtain ⟨p,hp,rfl⟩:=List.mem_map.mp hy
 exact fun m=>by have:=J27 (h p hp) p.2 m;omega
theorem rowN_free {ls:List Int} (h:∀ l∈ls,0≤l):10 ∉ (rowN ls).cps.toList:=row_free (by decide) pieces_free.2 fun y hy=>by
 obtain ⟨l,hl,rfl⟩:=List.mem_map.mp hy
 exact J2l (h l hl) (by decide)
theorem rowB_free {ps:List (Int × Bool)} (h:∀ p∈ps,0≤p.1):10 ∉ (rowB ps).cps.toList:=row_free (by decide) laid_free.2 fun y hy=>by
 obtain ⟨p,hp,rfl⟩:=List.mem_map.mp hy
 exact fun m=>by have:=J27 (h p hp) p.2 m;omega
theorem rowN_ok {ls:List Int} (h:∀ l∈ls,0≤l∧l < 10 ^ 31):J35 (rowN ls)=true:=by
 unfold J35
 rw [J2z fun l hl=>(h l hl).1]
 show (decide (Str.ofString "pieces"=Str.ofString "pieces") && (ls.map numS).all numB)=true
 rw [decide_eq_true rfl,Bool.true_and,List.all_eq_true]
 intro y hy
 obtain ⟨l,hl,rfl⟩:=List.mem_map.mp hy
 exact numB_num (h l hl).1 (h l hl).2
theorem rowB_ok {ps:List (Int × Bool)} (h:∀ p∈ps,0≤p.1∧p.1 < 10 ^ 31):J20 (rowB ps)=true:=by
 unfold J20
 rw [J30 fun p hp=>(h p hp).1]
 show (decide (Str.ofString "laid"=Str.ofString "laid") && (ps.map fun p=>wordB p.1 p.2).all fun y=>numB (noT y))=true
 rw [decide_eq_true rfl,Bool.true_and,List.all_eq_true]
 intro y hy
 obtain ⟨p,hp,rfl⟩:=List.mem_map.mp hy
 rw [J2m (h p hp).1]
 exact numB_num (h p hp).1 (h p hp).2
theorem rowN_len {ls:List Int} (h:∀ l∈ls,0≤l∧l < 10 ^ 31) (n:ls.length≤900):(rowN ls).length≤40000:=by
 have c1:sp1.length=1:=by decide +kernel
 have c2:(Str.ofString "pieces").length=6:=by decide +kernel
 have e40:(10:Int) ^ 31 < 10 ^ 40:=by decide
 have h1:=join_len (B:=41) (sep:=sp1) (ys:=Str.ofString "pieces" :: ls.map numS) (fun y hy=>by
  rcases List.mem_cons.mp hy with rfl | hy
  ·omega
  ·obtain ⟨l,hl,rfl⟩:=List.mem_map.mp hy
   have:=h l hl
   exact J1l (by omega))
 rw [List.length_cons,List.length_map,c1] at h1
 have:(ls.length + 1) * 41≤901 * 41:=Nat.mul_le_mul_right _ (by omega)
 show (Txt.join _ _).length≤_
 omega
theorem wordB_len {o:Int} (h:0≤o∧o < 10 ^ 31) (b:Bool):(wordB o b).length≤42:=by
 have e40:(10:Int) ^ 31 < 10 ^ 40:=by decide
 have h1:=J1l (i:=o) (by omega)
 have h2:(Str.ofString "-").length=1:=by decide +kernel
 unfold wordB
 split
 ·rw [strLen_append];omega
 ·omega
theorem rowB_len {ps:List (Int × Bool)} (h:∀ p∈ps,0≤p.1∧p.1 < 10 ^ 31) (n:ps.length≤900):(rowB ps).length≤40000:=by
 have c1:sp1.length=1:=by decide +kernel
 have c2:(Str.ofString "laid").length=4:=by decide +kernel
 have h1:=join_len (B:=42) (sep:=sp1) (ys:=Str.ofString "laid" :: ps.map fun p=>wordB p.1 p.2) (fun y hy=>by
  rcases List.mem_cons.mp hy with rfl | hy
  ·omega
  ·obtain ⟨p,hp,rfl⟩:=List.mem_map.mp hy
   exact wordB_len (h p hp) _)
 rw [List.length_cons,List.length_map,c1] at h1
 have:(ps.length + 1) * 42≤901 * 42:=Nat.mul_le_mul_right _ (by omega)
 show (Txt.join _ _).length≤_
 omega
end
end R10
namespace R10
open PySem L2 Rl
section
variable {P:Program} {w:World} {K:PySem.W.Frag} {mg:Str→Option Value} {base:Heap}
def textN (ls:List Int) (ps:List (Int × Bool)):Str:=rowN ls ++ nl1 ++ (rowB ps ++ nl1)
structure Nums (ls:List Int) (ps:List (Int × Bool)):Prop where
 l:∀ l∈ls,0≤l∧l < 10 ^ 31
 p:∀ p∈ps,0≤p.1∧p.1 < 10 ^ 31
 nl:ls.length≤900
 np:ps.length < 64
def spReadX (c0 c1 C:Addr):Sp:=fun vs H Q E=>∃ (ls:List Int) (ps:List (Int × Bool)),vs=[.str (textN ls ps)]∧Nums ls ps∧
 (GoodL ls→∀ os,ps.map (·.1)=natI os→os.Perm (List.range ls.length)→∀ x H' ts,Same H H'→LineAt C H' x ls os ts→Q (.ref x) H')∧
 (¬ GoodL ls→∀ H',Same H H'→E (.ref c0) none H')∧(GoodL ls→¬ (ps.map (·.1)).Perm (natI (List.range ls.length))→∀ H',Same H H'→E (.ref c1) none H')
theorem scRead:FnScope ["text","rows","lengths","words","order","turned"] ["text"] (J6 sRead):=⟨rfl,rfl,rfl,by decide +kernel,rfl,by decide +kernel,by decide +kernel⟩
theorem ok_readX {f fRR fNT fI c0 c1 c2 C:Addr} {fd fdRR fdNT fdI:FuncData}  (F:Fun K "read" "read" sRead f fd) (T:TxtR mg) (hint:mg "int"=none)
  (GRR:FnOk P w K mg base CX0 3 fRR fdRR ["rows"] (spRefRows K)) (bRR:Binds K fdRR ["rows"] []) (mRR:mg "refuse_rows"=some (.ref fRR)) (kRR:PySem.W.keepIn K (.ref fRR)=true)
  (GNT:FnOk P w K mg base CX0 1 fNT fdNT ["word"] spNoT) (bNT:Binds K fdNT ["word"] []) (mNT:mg "without_turn"=some (.ref fNT)) (kNT:PySem.W.keepIn K (.ref fNT)=true)
  (MI:Mk K C fI) (GI:FnOk P w K mg base (Exc1 P w) 3 fI fdI ["self","lengths","order","turned"] (spInitX c0 c1 c2 C)) (bI:Binds K fdI ["self","lengths","order","turned"] []) (mgI:mg "Line"=some (.ref C)) :
  FnOk P w K mg base (Exc1 P w) 5 f fd ["text"] (spReadX c0 c1 C):=by
 refine F.okX scRead (fun vs H Q E h=>?_) (fun cdv A outer s H vs Q E hr h=>?_)
 ·obtain ⟨ls,ps,rfl,_⟩:=h
  rfl
 ·obtain ⟨ls,ps,rfl,NU,k,k0,k1⟩:=h
  have hr1:Room 1 _:=hr.mono (by decide)
  have hr3:Room 3 _:=hr.mono (by decide)
  have hr4:Room 4 _:=hr.mono (by decide)
  refine ⟨_,(J1 (Jn (i:=1) scRead.nd rfl (Or.inl rfl) (pe_bm PySem.F.plainAttrs_str PySem.F.slot_str_split PySem.F.type_str_split J1z (pv 0) (J0 Jv J3)))
   (J1 (J1p (Jm GRR hr3 rfl mRR kRR bRR .nil pass0 (J0 (pv 1) J3)))
   (J1 (ps_lc (i:=2) (caps:=[]) (js:=[]) scRead.nd rfl (Or.inl rfl) rfl (J1x (J1y sl_list (pe_bm PySem.F.plainAttrs_str PySem.F.slot_str_split PySem.F.type_str_split J1z (pe_ix Ju (pv 1) J8 (fun _ _=>rfl)) (J0 Jv J3)) (J31 J8) J32)) rfl (fun _ _ _ _=>J15) (fun C fp s H=>(Je call_intS (by rfl) hint PyProof.Rows.boot_int (J0 (pv 0) J3))) (by decide +kernel) (by decide +kernel) (by decide +kernel) (by intro p hp;cases hp))
   (J1 (Jn (i:=3) scRead.nd rfl (Or.inr rfl) (J1y sl_list (pe_bm PySem.F.plainAttrs_str PySem.F.slot_str_split PySem.F.type_str_split J1z (pe_ix Ju (pv 1) J8 (fun _ _=>rfl)) (J0 Jv J3)) (J31 J8) J32))
   (J1 (ps_lc (i:=4) (caps:=[]) (js:=[]) scRead.nd rfl (Or.inl rfl) rfl (J1x (pv 3)) rfl (fun _ _ _ _=>J15) (fun C fp s H=>(Je call_intS (by rfl) hint PyProof.Rows.boot_int (J0 (Jm GNT hr1 rfl mNT kNT bNT .nil pass0 (J0 (pv 0) J3)) J3))) (by decide +kernel) (by decide +kernel) (by decide +kernel) (by intro p hp;cases hp))
   (J1 (ps_lc (i:=5) (caps:=["words"]) (js:=[3]) scRead.nd rfl (Or.inl rfl) rfl (J1a rfl T.range (J0 (Ja J7 (by rfl) T.len PySem.boot_len (J0 (pv 2) J3)) J3)) rfl (fun _ _ _ _=>J15) (fun C fp s H=>(Jt (op_inK K) (pe_fi (pv 0) (by decide +kernel)) (pv 1) rfl)) (by decide +kernel) (by decide +kernel) (by decide +kernel) (by intro p hp;simp only [List.mem_cons,List.not_mem_nil,or_false] at hp;rcases hp with rfl;rfl))
   (Jb (Jy (pe_make MI GI hr4 rfl mgI bI .nil pass1 (J0 (pv 2) (J0 (pv 4) (J0 (pv 5) J3)))))))))))),?_⟩
  obtain ⟨hls,hps,nl,np⟩:=NU
  have h0:∀ l∈ls,0≤l:=fun l hl=>(hls l hl).1
  have h1:∀ p∈ps,0≤p.1:=fun p hp=>(hps p hp).1
  have z0:(rowN ls).length≤40000:=rowN_len hls nl
  have z1:(rowB ps).length≤40000:=rowB_len hps (by omega)
  have c1':nl1.length=1:=by decide +kernel
  have hz:(textN ls ps).length≤100000:=by
   unfold textN
   rw [strLen_append,strLen_append,strLen_append];omega
  have e0:Txt.split (textN ls ps) nl1=[rowN ls,rowB ps,Str.ofString ""]:=text_split (rowN_free h0) (rowB_free h1)
  have e1:=J2z h0
  have e2:=J30 h1
  have b0:=rowN_ok hls
  have b1:=rowB_ok hps
  have nw:(ps.map fun p=>wordB p.1 p.2).length≤900:=by rw [List.length_map];omega
  have eo:(ps.map fun p=>wordB p.1 p.2).map noT=ps.map fun p=>numS p.1:=by
   rw [List.map_map]
   exact List.map_congr_left fun p hp=>J2m (h1 p hp) p.2
  have n0:(Txt.split (rowN ls) sp1).length≤1000:=by rw [e1,List.length_cons,List.length_map];omega
  have n1:(Txt.split (rowB ps) sp1).length≤1000:=by rw [e2,List.length_cons];omega
  generalize (rowN ls)=r0 at *
  generalize (rowB ps)=r1 at *
  generalize (textN ls ps)=z at *
  refine ⟨_,rfl,rfl,z,_,rfl,rfl,(by decide +kernel),(by rw [sizeLine_eq];omega),fun d hd=>?_⟩
  rw [e0]
  have s1:=J4 (o:=.lst ([r0,r1,Str.ofString ""].map V.str)) hd
  have hd1:upd H d (.lst ([r0,r1,Str.ofString ""].map V.str)) d=some (.lst ([r0,r1,Str.ofString ""].map V.str)):=J2
  generalize upd H d (.lst ([r0,r1,Str.ofString ""].map V.str))=H1 at *
  refine ⟨_,rfl,d,r0,r1,rfl,SqL.of hd1,⟨Nat.le_trans z0 (by decide),Nat.le_trans z1 (by decide)⟩,⟨n0,n1⟩,⟨b0,b1⟩,fun H2 s2=>?_⟩
  have hd2:=s2 _ _ hd1
  refine ⟨_,rfl,d,_,_,_,rfl,rfl,SqL.of hd2,Jg (j:=0) rfl,rfl,r0,_,rfl,rfl,(by decide +kernel),(by rw [sizeLine_eq];omega),fun l1 hl1=>?_⟩
  rw [e1]
  have s3:=J4 (o:=.lst ((Str.ofString "pieces" :: ls.map numS).map V.str)) hl1
  have hl1':upd H2 l1 (.lst ((Str.ofString "pieces" :: ls.map numS).map V.str)) l1=some (.lst ((Str.ofString "pieces" :: ls.map numS).map V.str)):=J2
  generalize upd H2 l1 (.lst ((Str.ofString "pieces" :: ls.map numS).map V.str))=H3 at *
  refine ⟨_,rfl,l1,_,rfl,SqL.of hl1',fun l2 hl2=>?_⟩
  rw [List.map_cons,J2s]
  have s4:=J4 (o:=.lst ((ls.map numS).map V.str)) hl2
  have hl2':upd H3 l2 (.lst ((ls.map numS).map V.str)) l2=some (.lst ((ls.map numS).map V.str)):=J2
  generalize upd H3 l2 (.lst ((ls.map numS).map V.str))=H4 at *
  rw [List.map_map] at hl2'
  refine ⟨l2,rfl,⟨_,SqL.of hl2'⟩,fun lp hlp=>lc_lst (fun l:Int=>V.str (numS l)) ls (fun _=>true) (fun l=>V.int l) (SqL.of hl2') (by omega) hlp (fun _ _ H _ _ q=>q H (Same.refl _)) (fun l hl H5 Qe _ s5 q=>?_) (fun H5 s5 hl5=>?_)⟩
  ·obtain ⟨p1,p2⟩:=hls l hl
   have e40:(10:Int) ^ 31 < 10 ^ 40:=by decide
   exact ⟨_,rfl,numS l,l,rfl,J2k p1 (by omega),Nat.le_trans (J1l (by omega)) (by decide),q H5 (Same.refl _)⟩
  rw [Jp] at hl5
  have s45:=((s1.trans s2).trans (s3.trans s4)).trans s5
  have hd5:=s5 _ _ (s4 _ _ (s3 _ _ hd2))
  refine ⟨_,rfl,d,_,_,_,rfl,rfl,SqL.of hd5,Jg (j:=1) rfl,rfl,r1,_,rfl,rfl,(by decide +kernel),(by rw [sizeLine_eq];omega),fun l3 hl3=>?_⟩
  rw [e2]
  have s6:=J4 (o:=.lst ((Str.ofString "laid" :: (ps.map fun p=>wordB p.1 p.2)).map V.str)) hl3
  have hl3':upd H5 l3 (.lst ((Str.ofString "laid" :: (ps.map fun p=>wordB p.1 p.2)).map V.str)) l3=some (.lst ((Str.ofString "laid" :: (ps.map fun p=>wordB p.1 p.2)).map V.str)):=J2
  generalize upd H5 l3 (.lst ((Str.ofString "laid" :: (ps.map fun p=>wordB p.1 p.2)).map V.str))=H6 at *
  refine ⟨_,rfl,l3,_,rfl,SqL.of hl3',fun l4 hl4=>?_⟩
  rw [List.map_cons,J2s]
  have s7:=J4 (o:=.lst ((ps.map fun p=>wordB p.1 p.2).map V.str)) hl4
  have hl4':upd H6 l4 (.lst ((ps.map fun p=>wordB p.1 p.2).map V.str)) l4=some (.lst ((ps.map fun p=>wordB p.1 p.2).map V.str)):=J2
  generalize upd H6 l4 (.lst ((ps.map fun p=>wordB p.1 p.2).map V.str))=H7 at *
  have sw:∀ v∈(ps.map fun p=>wordB p.1 p.2),v.length≤sizeLine:=fun v hv=>Nat.le_trans (PyProof.Rows.part_short (x:=r1) (y:=sp1) (by rw [e2];exact List.mem_cons_of_mem _ hv)) (by rw [sizeLine_eq];omega)
  have ew:(ps.map fun p=>wordB p.1 p.2).map (fun v=>V.int ((PySem.intText? (noT v)).getD 0))=iV (ps.map (·.1)):=by
   have h1':(ps.map fun p=>wordB p.1 p.2).map (fun v=>V.int ((PySem.intText? (noT v)).getD 0))=((ps.map fun p=>wordB p.1 p.2).map noT).map (fun y=>V.int ((PySem.intText? y).getD 0)):=by rw [List.map_map (f:=noT)];rfl
   rw [h1',eo]
   show _=(ps.map (·.1)).map V.int
   rw [List.map_map,List.map_map]
   refine List.map_congr_left fun p hp=>?_
   show V.int ((PySem.intText? (numS p.1)).getD 0)=_
   have h2:PySem.intText? (numS p.1)=some p.1:=J2k (hps p hp).1 (Int.lt_trans (hps p hp).2 (by decide))
   rw [h2];rfl
  refine ⟨_,rfl,l4,rfl,⟨_,SqL.of hl4'⟩,fun op hop=>lc_lst V.str (ps.map fun p=>wordB p.1 p.2) (fun _=>true) (fun v=>V.int ((PySem.intText? (noT v)).getD 0)) (SqL.of hl4') (by omega) hop (fun _ _ H _ _ q=>q H (Same.refl _)) (fun v hv H8 Qe _ s8 q=>?_) (fun H8 s8 hl8=>?_)⟩
  ·obtain ⟨o,ho,rfl⟩:=List.mem_map.mp hv
   have h2:PySem.intText? (numS o.1)=some o.1:=J2k (hps o ho).1 (Int.lt_trans (hps o ho).2 (by decide))
   have eo':numS o.1=noT (wordB o.1 o.2):=(J2m (h1 o ho) o.2).symm
   have h3:PySem.intText? (noT (wordB o.1 o.2))=some o.1:=by rw [← eo'];exact h2
   have e40:(10:Int) ^ 31 < 10 ^ 40:=by decide
   have h4:=hps o ho
   refine ⟨_,rfl,wordB o.1 o.2,rfl,sw _ hv,noT (wordB o.1 o.2),o.1,rfl,h3,?_,?_⟩
   ·rw [← eo']
    exact Nat.le_trans (J1l (by omega)) (by decide)
   ·have:=q H8 (Same.refl _)
    rw [h3] at this
    exact this
  rw [Jp,ew] at hl8
  have hlp:=s8 _ _ (s7 _ _ (s6 _ _ hl5))
  have hl8w:=s8 _ _ hl4'
  have lL:(List.map (fun l=>V.int l) ls).length=ls.length:=List.length_map ..
  generalize hts:(List.range ls.length).map (fun i:Nat=>decide ((Str.empty ++ numS (i:Int) ++ Str.ofString "-")∈ps.map fun p=>wordB p.1 p.2))=ts
  have lt:ts.length=ls.length:=by rw [← hts,List.length_map,List.length_range]
  refine ⟨_,rfl,lp,_,rfl,.inl (SqL.of hlp),(ls.length:Int),(by rw [lL]),by omega,by omega,fun tp htp=>lc_rng 0 ls.length (fun _=>true) (fun i=>V.bl (decide ((Str.empty ++ numS (i:Int) ++ Str.ofString "-")∈ps.map fun p=>wordB p.1 p.2))) (by omega) htp (fun _ _ H _ _ q=>q H (Same.refl _)) (fun i hi H9 Qe _ s9 q=>?_) (fun H9 s9 hl9=>?_)⟩
  ·have h1:((0:Int) + (i:Int)).natAbs < 10 ^ 40:=by
    have:(1000:Nat) < 10 ^ 40:=by decide
    omega
   refine ⟨_,rfl,_,rfl,h1,_,rfl,l4,_,rfl,.inl (SqL.of (s9 _ _ hl8w)),rfl,flat_strs _,?_⟩
   rw [inV_strs]
   have h3:(Str.ofString (toString ((0:Int) + (i:Int))))=numS (i:Int):=by rw [Int.zero_add];rfl
   rw [h3]
   exact q H9 (Same.refl _)
  rw [Jp] at hl9
  have hl9:H9 tp=some (.lst (bV ts)):=by
   rw [hl9,← hts]
   show _=some (HO.lst ((List.map _ _).map V.bl))
   rw [List.map_map];rfl
  have hlp9:=s9 _ _ hlp
  have hop9:=s9 _ _ hl8
  have s19:=s45.trans (((s6.trans s7).trans s8).trans s9)
  refine ⟨_,rfl,_,rfl,_,rfl,?_⟩
  intro x dx hx hdx hne
  have sc:=(J4 (o:=.own x) hdx).trans (J4 (l:=x) (o:=.ins C dx []) (by rw [Jd (Ne.symm hne)];exact hx))
  have lz:(ps.map (·.1)).length < 64:=by rw [List.length_map];exact np
  refine ⟨x,dx,lp,op,tp,ls,ps.map (·.1),ts,rfl,J2,.inl (sc _ _ hlp9),.inl (sc _ _ hop9),lz,.inl (sc _ _ hl9),fun gl os eos po _ H10 L kp=>⟨rfl,?_⟩,fun n H' s'=>k0 n H' (fun b o e=>s' _ _ (sc _ _ (s19 _ _ e))),fun gl n H' s'=>k1 gl n H' (fun b o e=>s' _ _ (sc _ _ (s19 _ _ e))),fun _ _ n=>absurd lt n⟩
  exact k gl os eos po x H10 ts (fun b u e=>kp b u (sc _ _ (s19 _ _ e)) (Jc (s19 _ _ e) hx)) L
end
end R10
namespace R10
open PySem L2 Rl
section
variable {P:Program} {w:World} {K:PySem.W.Frag} {mg:Str→Option Value} {base:Heap}
def spCell (K:PySem.W.Frag):Sp:=fun vs H Q _=>∃ (a:Addr) (ns:List Int) (j:Nat),vs=[.ref a,.int j]∧SqL K H a (iV ns)∧Q (.int (cellN ns j)) H
theorem scCell:FnScope ["script","k"] ["script","k"] (J6 sCell):=⟨rfl,rfl,rfl,by decide +kernel,rfl,by decide +kernel,by decide +kernel⟩
theorem ok_cell {f:Addr} {fd:FuncData} (F:Fun K "_law_cell" "_law_cell" sCell f fd) (T:TxtR mg):FnOk P w K mg base CX0 1 f fd ["script","k"] (spCell K):=by
 refine F.ok scCell (fun vs H Q E h=>?_) (fun cdv A outer s H vs Q E hr h=>?_)
 ·obtain ⟨a,ns,j,rfl,_⟩:=h
  rfl
 ·obtain ⟨a,ns,j,rfl,hS,k⟩:=h
  refine ⟨_,J1 (ps_if (Jh op_lt (pv 1) (Ja J7 (by rfl) T.len PySem.boot_len (J0 (pv 0) J3)) (Ji _)) (Jb (Jy (pe_ix Ju (pv 0) (pv 1) (fun _ _=>rfl)))) Jj) (Jb (Jy J8)),?_⟩
  refine ⟨_,rfl,_,rfl,a,_,rfl,.inl hS,_,_,rfl,rfl,_,rfl,?_⟩
  have hl:(iV ns).length=ns.length:=List.length_map ..
  by_cases hj:j < ns.length
  ·refine iteDT (by rw [hl];omega) ?_
   exact ⟨_,rfl,_,rfl,a,_,_,_,rfl,rfl,hS,Jg (J3l hj),k⟩
  ·refine iteD (by rw [hl];omega) ?_
   have e:cellN ns j=0:=by
    unfold cellN
    rw [List.getD_eq_getElem?_getD,List.getElem?_eq_none (by omega)];rfl
   rw [e] at k
   exact k
end
section
def bitsN (ns:List Int):Int:=cellN ns 1 % (1 * 2 ^ (24:Int).toNat)
def turnB (ns:List Int) (k:Nat):Bool:=decide (V.int (Builtin.bitAnd (bitsN ns / 2 ^ k) 1)=V.int 1)
def drawT (ns:List Int) (many:Nat):List Bool:=(List.range many).map (turnB ns)
theorem drawT_len (ns:List Int) (many:Nat):(drawT ns many).length=many:=by simp [drawT]
structure DrawnAt (H:Hp) (p:Addr) (ls:List Int) (os:List Nat) (ts:List Bool):Prop where
 ex:∃ l o t:Addr,H p=some (.tup [.ref l,.ref o,.ref t])∧H l=some (.lst (iV ls))∧H o=some (.lst (nV os))∧H t=some (.lst (bV ts))
theorem insV (os:List Nat) (i y:Nat):(nV os).take i ++ V.int (y:Int) :: (nV os).drop i=nV (insAt os i y):=by
 show ((os.map fun (n:Nat)=>(n:Int)).map V.int).take i ++ V.int (y:Int) :: ((os.map fun (n:Nat)=>(n:Int)).map V.int).drop i=((insAt os i y).map fun (n:Nat)=>(n:Int)).map V.int
 unfold insAt
 simp only [List.map_append,List.map_cons,List.map_take,List.map_drop]
end
section
variable {P:Program} {w:World} {K:PySem.W.Frag} {mg:Str→Option Value} {base:Heap}
theorem J23 (ns:List Int) (m j:Nat):cellN (ns.drop m) j=cellN ns (m + j):=by
 unfold cellN
 rw [List.getD_eq_getElem?_getD,List.getD_eq_getElem?_getD,List.getElem?_drop]
def spDrawnA (K:PySem.W.Frag):Sp:=fun vs H Q _=>∃ (a:Addr) (ns:List Int) (m many:Nat) (top:Int),vs=[.ref a,.int ((m + 1:Nat):Int),.int many,.int top]∧SqL K H a (iV ns)∧1≤many∧many≤24∧0 < top∧
 ∀ p H',Same H H'→DrawnAt H' p (drawL (ns.drop m) many top) (drawO (ns.drop m) many many) (drawT (ns.drop m) many)→Q (.ref p) H'
theorem scDrawnA:FnScope ["script","at","many","top","lengths","order","k","bits"] ["script","at","many","top"] (J6 sDrawn):=⟨rfl,rfl,rfl,by decide +kernel,rfl,by decide +kernel,by decide +kernel⟩
theorem ok_drawnA {f fc:Addr} {fd fdc:FuncData} (F:Fun K "_law_drawn" "_law_drawn" sDrawn f fd) (T:TxtR mg) (GC:FnOk P w K mg base CX0 1 fc fdc ["script","k"] (spCell K)) (bC:Binds K fdc ["script","k"] []) (mC:mg "_law_cell"=some (.ref fc)) (kC:PySem.W.keepIn K (.ref fc)=true) :
  FnOk P w K mg base CX0 2 f fd ["script","at","many","top"] (spDrawnA K):=by
 refine F.ok scDrawnA (fun vs H Q E h=>?_) (fun cdv A outer s H vs Q E hr h=>?_)
 ·obtain ⟨a,ns,m,many,top,rfl,_⟩:=h
  rfl
 ·obtain ⟨a,ns,m,many,top,rfl,hS,h1,h2,h3,k⟩:=h
  refine ⟨_,J1 (ps_compB (i:=4) ["script","at","top"] [0,1,3] scDrawnA.nd rfl (Or.inl rfl) rfl (J1a rfl T.range (J0 (pv 2) J3)) rfl
    (fun C fp s H=>pe_op J1k J8 (pe_op J16 (Jm GC hr rfl mC kC bC .nil pass0 (J0 (pv 1) (J0 (pe_op J1k (pe_op J1k (pv 2) J8) (pv 0)) J3))) (pv 3)))
    (by decide +kernel) (by decide +kernel) (by decide +kernel) (by intro p hp;simp only [List.mem_cons,List.not_mem_nil,or_false] at hp;rcases hp with rfl | rfl | rfl <;> rfl))
   (J1 (Jn (i:=5) scDrawnA.nd rfl (Or.inl rfl) (J1j J3))
   (J1 (ps_for PassesOwn.never rfl (J1a rfl T.range (J0 (pv 2) J3)) (J33 (i:=6) scDrawnA.nd rfl (Or.inl rfl))
    (Jb (J1p (pe_bm PySem.F.plainAttrs_list PySem.F.slot_list_insert PySem.F.type_list_insert mt_insert (pv 5)
     (J0 (pe_op J16 (Jm GC hr rfl mC kC bC .nil pass0 (J0 (pv 0) (J0 (pe_op J1k (pe_op J1k (pe_op J1k (pv 1) J8) (pv 2)) (pv 6)) J3))) (pe_op J1k (pv 6) J8)) (J0 (pv 6) J3))))))
   (J1 (Jn (i:=7) scDrawnA.nd rfl (Or.inr rfl) (pe_op J16 (Jm GC hr rfl mC kC bC .nil pass0 (J0 (pv 0) (J0 (pv 1) J3))) (pe_op op_shl J8 J8)))
   (Jb (Jy (pe_tup (J0 (pv 4) (J0 (pv 5) (J0
    (pe_lc (caps:=["bits"]) (js:=[7]) rfl (J1a rfl T.range (J0 (pv 2) J3)) rfl (fun _ _ _ _=>J15)
     (fun C fp s H=>Jt op_eq (pe_op op_and (pe_op op_shr (pv 1) (pv 0)) J8) J8 (Ji _))
     (by decide +kernel) (by decide +kernel) (by decide +kernel) (by intro p hp;simp only [List.mem_cons,List.not_mem_nil,or_false] at hp;rcases hp with rfl;rfl)) J3))))))))),?_⟩
  refine ⟨_,rfl,(many:Int),rfl,by omega,by omega,0,many,fun k=>V.int (1 + cellN ns (m + (2 + k)) % top),rfl,by omega,?_,fun d hd=>?_⟩
  ·rintro d H2 j hd hj rfl
   have e:(((m + 1:Nat):Int) + 1 + (0 + (j:Int)))=((m + (2 + j):Nat):Int):=by omega
   exact ⟨_,rfl,_,rfl,_,_,rfl,rfl,_,rfl,_,_,rfl,rfl,a,ns,m + (2 + j),(by rw [← e];rfl),(J4 hd).seq hS,_,rfl,_,_,rfl,rfl,h3,_,_,rfl,rfl,rfl,rfl⟩
  have eL:(List.range many).map (fun k=>V.int (1 + cellN ns (m + (2 + k)) % top))=iV (drawL (ns.drop m) many top):=by
   show _=(drawL (ns.drop m) many top).map V.int
   unfold drawL
   rw [List.map_map]
   refine List.map_congr_left fun k _=>?_
   show _=V.int (1 + cellN (ns.drop m) (2 + k) % top)
   rw [J23]
  rw [eL]
  have s1:Same H (upd H d (.lst (iV (drawL (ns.drop m) many top)))):=J4 hd
  generalize hH1:upd H d (.lst (iV (drawL (ns.drop m) many top)))=H1 at s1
  have hd1:H1 d=some (.lst (iV (drawL (ns.drop m) many top))):=by rw [← hH1];exact J2
  refine ⟨Nat.zero_le _,fun ol hol=>?_⟩
  refine ⟨_,rfl,(many:Int),rfl,by omega,by omega,for_range (lo:=0) (n:=many) (fun i σ H2=>∃ v,σ=[some (.ref a),some (.int ((m + 1:Nat):Int)),some (.int many),some (.int top),some (.ref d),some (.ref ol),v,none]∧H2 ol=some (.lst (nV (drawO (ns.drop m) many i)))∧Same H1 H2)
   ⟨none,rfl,J2,J4 hol⟩ ?_ ?_⟩
  ·rintro i σ H2 hi ⟨v,rfl,ho,s2⟩
   rw [Int.zero_add]
   obtain ⟨q1,q2⟩:=spotO_le (ns.drop m) many i
   have e:(((m + 1:Nat):Int) + 1 + (many:Int) + (i:Int))=((m + (2 + many + i):Nat):Int):=by omega
   rw [J23] at q2
   have hlen:(nV (drawO (ns.drop m) many i)).length=i:=by rw [len_nV,drawO_len]
   refine ⟨_,rfl,.inl ⟨rfl,_,SqL.of ho⟩,_,rfl,_,rfl,_,_,rfl,rfl,_,rfl,_,_,rfl,rfl,_,rfl,_,_,rfl,rfl,a,ns,m + (2 + many + i),(by rw [← e];rfl),(s1.trans s2).seq hS,_,rfl,_,_,rfl,rfl,_,_,rfl,rfl,(by omega),_,rfl,
    ol,_,spotO (ns.drop m) many i,V.int (i:Int),rfl,(by rw [q2]),ho,(by rw [hlen];exact q1),(by rw [hlen];exact Jx (by omega)),?_⟩
   refine ⟨_,rfl,?_,fun b o z=>?_⟩
   ·rw [J2,insV];rfl
   ·rw [Jd (Jc z hol)]
    exact s2 _ _ z
  ·rintro σ H2 ⟨v,rfl,ho,s2⟩
   have s3:=s1.trans s2
   refine ⟨_,rfl,_,rfl,a,ns,m + 1,rfl,s3.seq hS,_,_,rfl,rfl,⟨by decide,by decide,by decide⟩,_,_,rfl,rfl,(by show (0:Int) < 1 * 2 ^ 24;decide),?_⟩
   refine ⟨_,rfl,_,rfl,_,rfl,(many:Int),rfl,by omega,by omega,fun tl htl=>lc_rng 0 many (fun _=>true) (fun k=>V.bl (turnB (ns.drop m) k)) (by omega) htl (fun _ _ H _ _ q=>q H (Same.refl _)) (fun j hj H3 Qe _ s3' q=>?_) (fun H3 s3' htl'=>?_)⟩
   ·have e:(0 + (j:Int)).toNat=j:=by omega
    refine ⟨_,rfl,_,rfl,_,_,rfl,rfl,(by omega),_,_,rfl,rfl,rfl,?_⟩
    have:=q H3 (Same.refl _)
    unfold turnB bitsN at this
    rw [J23] at this
    rw [e]
    exact this
   rw [Jp] at htl'
   have eT:(List.range many).map (fun k=>V.bl (turnB (ns.drop m) k))=bV (drawT (ns.drop m) many):=by
    show _=(drawT (ns.drop m) many).map V.bl
    unfold drawT
    rw [List.map_map];rfl
   rw [eT] at htl'
   refine ⟨(by show 3≤sizeLine;rw [sizeLine_eq];decide),fun p hp=>?_⟩
   have s4:=s3'.trans (J4 (o:=.tup [.ref d,.ref ol,.ref tl]) hp)
   exact k p _ (s3.trans s4) ⟨d,ol,tl,J2,s4 _ _ (s2 _ _ hd1),s4 _ _ ho,J4 hp _ _ htl'⟩
end
section
theorem menu {m:Int} (h0:0≤m) (h1:m < 3):∃ top:Int,atI [V.int 7,V.int (10 ^ (28:Int).toNat),V.int 1000] m=some (V.int top)∧0 < top∧top≤10 ^ 28:=by
 have h:m=0∨m=1∨m=2:=by omega
 rcases h with rfl | rfl | rfl
 ·exact ⟨7,rfl,by decide,by decide⟩
 ·exact ⟨10 ^ (28:Int).toNat,rfl,by decide,by decide⟩
 ·exact ⟨1000,rfl,by decide,by decide⟩
theorem drawn_good (ns:List Int) {many:Nat} {top:Int} (h1:1≤many) (h2:many≤24) (h3:0 < top) (h4:top≤10 ^ 28):Good (drawL ns many top) (drawO ns many many):=by
 have hl:=drawL_len ns many top
 refine ⟨by omega,by omega,fun a ha=>(J2r h3 a ha).1,?_,by rw [hl];exact J22 ns many many⟩
 have e1:=sum_le (drawL ns many top) fun a ha=>(J2r h3 a ha).2
 rw [hl] at e1
 have e2:=mul_top h2 (Int.le_of_lt h3)
 have e3:(24:Int) * top≤10 ^ 30:=by
  have:(24:Int) * top≤24 * 10 ^ 28:=by omega
  have:(24:Int) * 10 ^ 28≤10 ^ 30:=by decide
  omega
 omega
end
end R10
namespace R10
open PySem L2 Rl
section
variable {P:Program} {w:World} {K:PySem.W.Frag} {mg:Str→Option Value} {base:Heap}
def J2x:Sp:=fun vs H Q _=>∃ (l:Addr) (ls:List Int) (way cell:Int),vs=[.ref l,.int way,.int cell]∧H l=some (.lst (iV ls))∧(0≤way∧way < 5)∧(1≤ls.length∧ls.length≤24)∧(∀ a∈ls,1≤a∧a≤10 ^ 28)∧
 ∀ p q told flag H',Same H H'→H' p=some (.tup [.ref q,.bl flag])→H' q=some (.lst (iV told))→(flag=true↔¬ GoodL told)→(flag=false→told.length=ls.length)→(∀ a∈told,0≤a∧a < 10 ^ 31)→told.length≤60→Q (.ref p) H'
theorem scLengthsL:FnScope ["lengths","way","cell","told","at","rest"] ["lengths","way","cell"] (J6 J11):=⟨rfl,rfl,rfl,by decide +kernel,rfl,by decide +kernel,by decide +kernel⟩
theorem ok_lengthsL {f   : Addr} {fd  : FuncData}  (F : Fun K "_law_lengths" "_law_lengths" J11 f fd) (T : TxtR mg)
 :
    FnOk P w K mg base CX0 1 f fd ["lengths", "way", "cell"] J2x := by
  refine F.ok scLengthsL (fun vs H Q E h => ?_) (fun cdv A outer s H vs Q E hr h => ?_)
  · obtain ⟨l, ls, way, cell, rfl, _⟩ := h
    rfl
  · obtain ⟨l, ls, way, cell, rfl, hl, hw, hn, hb, k⟩ := h
    refine ⟨_, (J1 (Jn (i := 3) scLengthsL.nd rfl (Or.inl rfl) (Je J25 (by rfl) T.list PyProof.Rows.boot_list (J0 (pv 0) J3)))
      (J1 (ps_if (Jh op_eq (pv 1) J8 (Ji _)) (Jb (ps_asg J8 (pg_sub (pv 3) (pe_op J16 (pv 2) (Ja J7 (by rfl) T.len PySem.boot_len (J0 (pv 3) J3))) J1f))) Jj)
      (J1 (ps_if (Jh op_eq (pv 1) J8 (Ji _)) (Jb (Jn (i := 3) scLengthsL.nd rfl (Or.inl rfl) (J1j J3))) Jj)
      (J1 (ps_if (Jh op_eq (pv 1) J8 (Ji _)) (Jb (Jn (i := 3) scLengthsL.nd rfl (Or.inl rfl) (pe_op op_cat (pv 3) (pe_lc (caps := ["cell"]) (js := [2]) rfl (J1a rfl T.range (J0 (pe_op op_sub (pe_op J1k J8 (pe_op J16 (pv 2) J8)) (Ja J7 (by rfl) T.len PySem.boot_len (J0 (pv 3) J3))) J3)) rfl (fun _ _ _ _ => J15) (fun C fp s H => (pe_op J1k J8 (pe_op J16 (pv 1) J8))) (by decide +kernel) (by decide +kernel) (by decide +kernel) (by intro p hp; simp only [List.mem_cons, List.not_mem_nil, or_false] at hp; rcases hp with rfl; rfl))))) Jj)
      (J1 (ps_if (Jh op_eq (pv 1) J8 (Ji _)) (J1 (Jn (i := 4) scLengthsL.nd rfl (Or.inl rfl) (pe_op J16 (pv 2) (Ja J7 (by rfl) T.len PySem.boot_len (J0 (pv 3) J3))))
        (J1 (Jn (i := 5) scLengthsL.nd rfl (Or.inl rfl) (pe_op op_sub (Ja (J2t rfl) (by rfl) T.sum PyProof.Rows.boot_sum (J0 (pv 3) J3)) (pe_ix Ju (pv 3) (pv 4) (fun _ _ => rfl))))
        (J1 (ps_asg (pe_op op_sub (pe_op op_pow J8 J8) (pe_op op_mulB (pe_op J16 (pv 2) J8) (pv 5))) (pg_sub (pv 3) (pv 4) J1f))
        (Jb (Jy (pe_tup (J0 (pv 3) (J0 (Jt op_gt (Ja (J2t rfl) (by rfl) T.sum PyProof.Rows.boot_sum (J0 (pv 3) J3)) (pe_op op_pow J8 J8) (Ji _)) J3)))))))) Jj)
      (Jb (Jy (pe_tup (J0 (pv 3) (J0 (Jt op_gt (pv 1) J8 (Ji _)) J3)))))))))), ?_⟩
    refine ⟨_, rfl, l, _, rfl, .inl (SqL.of hl), fun q hq => ?_⟩
    have s1 := J4 (o := .lst (iV ls)) hq
    have hq1 : upd H q (.lst (iV ls)) q = some (.lst (iV ls)) := J2
    have up : ∀ o : HO, Same H (upd (upd H q (.lst (iV ls))) q o) := fun o b u e => by rw [Jd (Jc e hq)]; exact s1 _ _ e
    generalize upd H q (.lst (iV ls)) = H1 at *
    have hlen : (iV ls).length = ls.length := List.length_map ..
    have z2 : 2 ≤ sizeLine := by rw [sizeLine_eq]; decide
    have e31 : (10 : Int) ^ 28 < 10 ^ 31 := by decide
    have e30 : (10 : Int) ^ 30 < 10 ^ 31 := by decide
    have e24 : (24 : Int) * 10 ^ 28 < 10 ^ 30 := by decide
    have hsum : ls.sum ≤ 24 * 10 ^ 28 := by
      have h1 := sum_le ls fun a ha => (hb a ha).2
      have h2 : (ls.length : Int) * 10 ^ 28 ≤ 24 * 10 ^ 28 := Int.mul_le_mul_of_nonneg_right (by omega) (by decide)
      omega
    have gl : GoodL ls := ⟨hn.1, hn.2, fun a ha => (hb a ha).1, by omega⟩
    have l0 : (0 : Int) < ((iV ls).length : Nat) := by rw [hlen]; omega
    have m0 : 0 ≤ cell % ((iV ls).length : Nat) := Int.emod_nonneg _ (by omega)
    have m1 : cell % ((iV ls).length : Nat) < ((iV ls).length : Nat) := Int.emod_lt_of_pos _ l0
    obtain ⟨j, hj⟩ : ∃ j : Nat, (j : Int) = cell % ((iV ls).length : Nat) := ⟨(cell % ((iV ls).length : Nat)).toNat, by omega⟩
    have jl : j < ls.length := by rw [← hlen]; omega
    have fin : ∀ (tl : List Int) (flag : Bool) (Hx : Hp) (qx : Addr), Same H Hx → Hx qx = some (.lst (iV tl)) → (flag = true ↔ ¬ GoodL tl) → (flag = false → tl.length = ls.length) → (∀ a ∈ tl, 0 ≤ a ∧ a < 10 ^ 31) → tl.length ≤ 60 → ∀ p, Hx p = none → Q (.ref p) (upd Hx p (.tup [.ref qx, .bl flag])) :=
      fun tl flag Hx qx sx hx c1 c2 c3 c4 p hp => k p qx tl flag _ (sx.trans (J4 hp)) J2 (J4 hp _ _ hx) c1 c2 c3 c4
    have hway : way = 0 ∨ way = 1 ∨ way = 2 ∨ way = 3 ∨ way = 4 := by omega
    rcases hway with rfl | rfl | rfl | rfl | rfl
    · refine ⟨_, rfl, rfl, _, rfl, iteD (J9 (by decide)) ?_⟩
      refine ⟨_, rfl, rfl, _, rfl, iteD (J9 (by decide)) ?_⟩
      refine ⟨_, rfl, rfl, _, rfl, iteD (J9 (by decide)) ?_⟩
      refine ⟨_, rfl, rfl, _, rfl, iteD (J9 (by decide)) ?_⟩
      refine ⟨_, rfl, _, rfl, _, _, rfl, rfl, z2, fun p hp => fin ls false H1 q s1 hq1 ⟨fun e => Bool.noConfusion e, fun n => absurd gl n⟩ (fun _ => rfl) (fun a ha => ?_) (by omega) p hp⟩
      have := hb a ha
      omega
    · refine ⟨_, rfl, rfl, _, rfl, iteDT rfl ?_⟩
      refine ⟨_, rfl, _, rfl, _, rfl, q, _, rfl, .inl (SqL.of hq1), _, _, rfl, rfl, l0, q, _, _, j, rfl, rfl, hq1, (by rw [← hj]; exact J36 (by rw [hlen]; exact jl)), ?_⟩
      have up1 := up (.lst ((iV ls).set j (V.int 0)))
      have hq2 : upd H1 q (.lst ((iV ls).set j (V.int 0))) q = some (.lst (iV (ls.set j 0))) := by rw [J2, iV_set]
      generalize upd H1 q (.lst ((iV ls).set j (V.int 0))) = H2 at *
      refine ⟨_, rfl, rfl, _, rfl, iteD (J9 (by decide)) ?_⟩
      refine ⟨_, rfl, rfl, _, rfl, iteD (J9 (by decide)) ?_⟩
      refine ⟨_, rfl, rfl, _, rfl, iteD (J9 (by decide)) ?_⟩
      refine ⟨_, rfl, _, rfl, _, _, rfl, rfl, z2, fun p hp => fin (ls.set j 0) true H2 q up1 hq2 ⟨fun _ g => ?_, fun _ => rfl⟩ (fun e => Bool.noConfusion e) (fun a ha => ?_) (by rw [List.length_set]; omega) p hp⟩
      · have := g.2.2.1 0 (List.mem_set jl 0)
        omega
      · rcases List.mem_or_eq_of_mem_set ha with q | q
        · have := hb a q; omega
        · rw [q]; decide
    · refine ⟨_, rfl, rfl, _, rfl, iteD (J9 (by decide)) ?_⟩
      refine ⟨_, rfl, rfl, _, rfl, iteDT rfl ?_⟩
      refine ⟨Nat.zero_le _, fun q2 hq2 => ?_⟩
      have s2 := s1.trans (J4 (o := .lst []) hq2)
      refine ⟨_, rfl, rfl, _, rfl, iteD (J9 (by decide)) ?_⟩
      refine ⟨_, rfl, rfl, _, rfl, iteD (J9 (by decide)) ?_⟩
      exact ⟨_, rfl, _, rfl, _, _, rfl, rfl, z2, fun p hp => fin [] true _ q2 s2 J2 ⟨fun _ g => absurd g.1 (by decide), fun _ => rfl⟩ (fun e => Bool.noConfusion e) (fun a ha => absurd ha (by simp)) (Nat.zero_le _) p hp⟩
    · refine ⟨_, rfl, rfl, _, rfl, iteD (J9 (by decide)) ?_⟩
      refine ⟨_, rfl, rfl, _, rfl, iteD (J9 (by decide)) ?_⟩
      refine ⟨_, rfl, rfl, _, rfl, iteDT rfl ?_⟩
      have a0 : 0 ≤ cell % 36 := Int.emod_nonneg _ (by decide)
      have a1 : cell % 36 < 36 := Int.emod_lt_of_pos _ (by decide)
      have b0 : 0 ≤ cell % 9 := Int.emod_nonneg _ (by decide)
      have b1 : cell % 9 < 9 := Int.emod_lt_of_pos _ (by decide)
      obtain ⟨n, hn'⟩ : ∃ n : Nat, (n : Int) = 25 + cell % 36 - ((iV ls).length : Nat) := ⟨(25 + cell % 36 - ((iV ls).length : Nat)).toNat, by rw [hlen]; omega⟩
      have hn2 : (25 + cell % 36 - ((iV ls).length : Nat) : Int).toNat = n := by omega
      refine ⟨_, rfl, _, rfl, _, _, rfl, rfl, (by show (0 : Int) < 36; decide), _, _, rfl, rfl, _, rfl, q, _, rfl, .inl (SqL.of hq1), _, _, rfl, rfl, 25 + cell % 36 - ((iV ls).length : Nat), rfl, by omega, by omega, ?_⟩
      rw [hn2]
      refine fun d hd => lc_rng 0 n (fun _ => true) (fun _ => V.int (1 + cell % 9)) (by omega) hd (fun _ _ H _ _ q => q H (Same.refl _)) (fun i hi H2 Qe _ s2 qq => ?_) (fun H2 s2 hd2 => ?_)
      · exact ⟨_, rfl, _, _, rfl, rfl, (by show (0 : Int) < 9; decide), _, _, rfl, rfl, qq H2 (Same.refl _)⟩
      rw [Jp] at hd2
      have er : (List.range n).map (fun _ => V.int (1 + cell % 9)) = iV (List.replicate n (1 + cell % 9)) := by
        show _ = (List.replicate n (1 + cell % 9)).map V.int
        rw [List.map_replicate, List.map_const', List.length_range]
      rw [er] at hd2
      have ea : iV ls ++ iV (List.replicate n (1 + cell % 9)) = iV (ls ++ List.replicate n (1 + cell % 9)) := (List.map_append ..).symm
      have lt : (ls ++ List.replicate n (1 + cell % 9)).length = ls.length + n := by rw [List.length_append, List.length_replicate]
      refine ⟨q, d, _, _, rfl, rfl, s2 _ _ hq1, hd2, (by rw [← List.length_append, ea, show (iV (ls ++ List.replicate n (1 + cell % 9))).length = (ls ++ List.replicate n (1 + cell % 9)).length from List.length_map .., lt, sizeLine_eq]; omega), fun q3 hq3 => ?_⟩
      rw [ea]
      have s3 := (s1.trans s2).trans (J4 (o := .lst (iV (ls ++ List.replicate n (1 + cell % 9)))) hq3)
      refine ⟨_, rfl, rfl, _, rfl, iteD (J9 (by decide)) ?_⟩
      refine ⟨_, rfl, _, rfl, _, _, rfl, rfl, z2, fun p hp => fin _ true _ q3 s3 J2 ⟨fun _ g => ?_, fun _ => rfl⟩ (fun e => Bool.noConfusion e) (fun a ha => ?_) (by rw [lt]; omega) p hp⟩
      · have := g.2.1
        rw [lt] at this
        omega
      · rcases List.mem_append.mp ha with q | q
        · have := hb a q; omega
        · have e9 : (10 : Int) < 10 ^ 31 := by decide
          rw [List.eq_of_mem_replicate q]; omega
    · refine ⟨_, rfl, rfl, _, rfl, iteD (J9 (by decide)) ?_⟩
      refine ⟨_, rfl, rfl, _, rfl, iteD (J9 (by decide)) ?_⟩
      refine ⟨_, rfl, rfl, _, rfl, iteD (J9 (by decide)) ?_⟩
      refine ⟨_, rfl, rfl, _, rfl, iteDT rfl ?_⟩
      have a0 : 0 ≤ cell % 2 := Int.emod_nonneg _ (by decide)
      have a1 : cell % 2 < 2 := Int.emod_lt_of_pos _ (by decide)
      have hjm : ls.getD j 0 ∈ ls := by
        rw [List.getD_eq_getElem?_getD, List.getElem?_eq_getElem jl]
        exact List.getElem_mem jl
      have r1 := J34 (fun a ha => by have := hb a ha; omega) hjm
      have r2 := hb _ hjm
      refine ⟨_, rfl, _, rfl, q, _, rfl, .inl (SqL.of hq1), _, _, rfl, rfl, l0, ?_⟩
      refine ⟨_, rfl, q, ls, rfl, .inl (SqL.of hq1), _, rfl, _, rfl, q, _, _, _, rfl, rfl, SqL.of hq1, (by rw [← hj]; exact Jg (J3l jl)), _, _, rfl, rfl, ?_⟩
      have big : CBig (cell % 2) (ls.sum - ls.getD j 0) := by
        have e4 : (10 : Nat) ^ 30 < 2 ^ 4000 := by decide +kernel
        have e5 : (1 : Nat) < 10 ^ 30 := by decide
        exact ⟨Nat.lt_trans (show (cell % 2).natAbs < 10 ^ 30 by omega) e4, Nat.lt_trans (show (ls.sum - ls.getD j 0).natAbs < 10 ^ 30 by omega) e4⟩
      refine ⟨_, _, rfl, rfl, ⟨by decide, by decide, by decide⟩, _, rfl, _, _, rfl, rfl, (by show (0 : Int) < 2; decide), _, rfl, _, _, rfl, rfl, big, _, _, rfl, rfl, _, rfl, _, rfl, q, _, _, j, rfl, rfl, hq1, (by rw [← hj]; exact J36 (by rw [hlen]; exact jl)), ?_⟩
      have ev : (10 : Int) ^ (30 : Int).toNat - cell % 2 * (ls.sum - ls.getD j 0) = 10 ^ 30 - cell % 2 * (ls.sum - ls.getD j 0) := rfl
      generalize hv : 10 ^ 30 - cell % 2 * (ls.sum - ls.getD j 0) = v at *
      have v1 : 1 ≤ v ∧ v ≤ 10 ^ 30 := by
        have c : cell % 2 = 0 ∨ cell % 2 = 1 := by omega
        rcases c with c | c
        · rw [c] at hv; omega
        · rw [c] at hv; omega
      have up1 := up (.lst ((iV ls).set j (V.int ((10 : Int) ^ (30 : Int).toNat - cell % 2 * (ls.sum - ls.getD j 0)))))
      have hq2 : upd H1 q (.lst ((iV ls).set j (V.int ((10 : Int) ^ (30 : Int).toNat - cell % 2 * (ls.sum - ls.getD j 0))))) q = some (.lst (iV (ls.set j v))) := by rw [J2, ev, iV_set]
      generalize upd H1 q (.lst ((iV ls).set j (V.int ((10 : Int) ^ (30 : Int).toNat - cell % 2 * (ls.sum - ls.getD j 0))))) = H2 at *
      have mem : ∀ a ∈ ls.set j v, 1 ≤ a ∧ a ≤ 10 ^ 30 := fun a ha => by
        rcases List.mem_or_eq_of_mem_set ha with q | q
        · have := hb a q
          have : (10 : Int) ^ 28 < 10 ^ 30 := by decide
          omega
        · rw [q]; exact v1
      have ln : (ls.set j v).length = ls.length := List.length_set ..
      refine ⟨_, rfl, _, rfl, q, ls.set j v, rfl, .inl (SqL.of hq2), _, _, rfl, rfl, ⟨by decide, by decide, by decide⟩, _, _, rfl, rfl, z2, fun p hp => fin (ls.set j v) _ H2 q up1 hq2 ⟨fun e g => ?_, fun n => ?_⟩ (fun _ => ln) (fun a ha => ?_) (by rw [ln]; omega) p hp⟩
      · have h1 := of_decide_eq_true e
        have h2 := g.2.2.2
        have h3 : (10 : Int) ^ 30 < (ls.set j v).sum := h1
        omega
      · refine decide_eq_true ?_
        show (10 : Int) ^ 30 < (ls.set j v).sum
        refine Int.not_le.mp fun h => n ⟨by rw [ln]; exact hn.1, by rw [ln]; exact hn.2, fun a ha => (mem a ha).1, h⟩
      · have := mem a ha
        omega
theorem atI_m1 {xs:List V} {n:Nat} {v:V} (h:xs.length=n + 1) (e:xs[n]?=some v):atI xs (-1)=some v:=by
 unfold atI ixN
 rw [if_neg (by decide),if_pos (by rw [h];omega)]
 show xs[((-1:Int) + (xs.length:Int)).toNat]?=some v
 rw [h,show ((-1:Int) + ((n + 1:Nat):Int)).toNat=n by omega]
 exact e
theorem erase_map (f:Int→V):∀ (l:List Int) (j:Nat),(l.map f).eraseIdx j=(l.eraseIdx j).map f
 | [],_=>rfl
 | _ :: _,0=>rfl
 | a :: l,j + 1=>congrArg (f a :: ·) (erase_map f l j)
def spOrderL:Sp:=fun vs H Q _=>∃ (o:Addr) (os:List Nat) (n:Nat) (way cell:Int),vs=[.ref o,.int way,.int cell]∧H o=some (.lst (nV os))∧(0≤way∧way < 7)∧os.Perm (List.range n)∧(1≤n∧n≤24)∧
 ∀ p q told flag H',Same H H'→H' p=some (.tup [.ref q,.bl flag])→H' q=some (.lst (iV told))→(flag=true↔¬ told.Perm (natI (List.range n)))→(∀ a∈told,0≤a∧a < 10 ^ 31)→told.length≤25→Q (.ref p) H'
theorem scOrderL:FnScope ["order","way","cell","told","at"] ["order","way","cell"] (J6 J2a):=⟨rfl,rfl,rfl,by decide +kernel,rfl,by decide +kernel,by decide +kernel⟩
theorem ok_orderL {f   : Addr} {fd  : FuncData}  (F : Fun K "_law_order" "_law_order" J2a f fd) (T : TxtR mg)
 :
    FnOk P w K mg base CX0 1 f fd ["order", "way", "cell"] spOrderL := by
  refine F.ok scOrderL (fun vs H Q E h => ?_) (fun cdv A outer s H vs Q E hr h => ?_)
  · obtain ⟨o, os, n, way, cell, rfl, _⟩ := h
    rfl
  · obtain ⟨o, os, n, way, cell, rfl, hl, hw, hp, hn, k⟩ := h
    refine ⟨_, (J1 (Jn (i := 3) scOrderL.nd rfl (Or.inl rfl) (Je J25 (by rfl) T.list PyProof.Rows.boot_list (J0 (pv 0) J3)))
      (J1 (Jn (i := 4) scOrderL.nd rfl (Or.inl rfl) (pe_op J16 (pv 2) (Ja J7 (by rfl) T.len PySem.boot_len (J0 (pv 3) J3))))
      (J1 (ps_if (Jh op_eq (pv 1) J8 (Ji _)) (Jb (J1p (pe_bm PySem.F.plainAttrs_list PySem.F.slot_list_append PySem.F.type_list_append J2n (pv 3) (J0 (pe_ix Ju (pv 3) (pv 4) (fun _ _ => rfl)) J3)))) Jj)
      (J1 (ps_if (Jh op_eq (pv 1) J8 (Ji _)) (Jb (J1p (pe_bm PySem.F.plainAttrs_list PySem.F.slot_list_pop PySem.F.type_list_pop mt_popAt (pv 3) (J0 (pv 4) J3)))) Jj)
      (J1 (ps_if (Jh op_eq (pv 1) J8 (Ji _)) (Jb (J1p (pe_bm PySem.F.plainAttrs_list PySem.F.slot_list_insert PySem.F.type_list_insert mt_insert (pv 3) (J0 (pv 4) (J0 (Ja J7 (by rfl) T.len PySem.boot_len (J0 (pv 0) J3)) J3))))) Jj)
      (J1 (ps_if (Jh op_eq (pv 1) J8 (Ji _)) (Jb (ps_asg (pe_op J1k (Ja J7 (by rfl) T.len PySem.boot_len (J0 (pv 0) J3)) (pe_op J16 (pe_op op_fdiv (pv 2) J8) (pe_op op_pow J8 J8))) (pg_sub (pv 3) (pv 4) J1f))) Jj)
      (J1 (ps_if (Jh op_eq (pv 1) J8 (Ji _)) (Jb (Jn (i := 3) scOrderL.nd rfl (Or.inl rfl) (J1j J3))) Jj)
      (J1 (ps_if (PW.pt (pw_and (Jh op_eq (pv 1) J8 (Ji _)) (pw_and1 (Jh op_gt (Ja J7 (by rfl) T.len PySem.boot_len (J0 (pv 3) J3)) J8 (Ji _))))) (Jb (ps_asg (pe_ix Ju (pv 3) (pe_op op_sub (pv 4) J8) (fun _ _ => rfl)) (pg_sub (pv 3) (pv 4) J1f))) Jj)
      (Jb (Jy (pe_tup (J0 (pv 3) (J0 (J3g (Jt op_gt (pv 1) J8 (Ji _)) (J3f (pe_or (Jt op_lt (pv 1) J8 (Ji _)) (J3f (Jt op_gt (Ja J7 (by rfl) T.len PySem.boot_len (J0 (pv 3) J3)) J8 (Ji _)))))) J3))))))))))))), ?_⟩
    have hl : H o = some (.lst (iV (natI os))) := hl
    have hz : (natI os).Perm (natI (List.range n)) := hp.map _
    have ln : (natI os).length = n := by rw [hz.length_eq]; simp [natI]
    have mem : ∀ a ∈ natI os, 0 ≤ a ∧ a < n := fun a ha => by
      obtain ⟨b, hb, rfl⟩ := List.mem_map.mp (hz.mem_iff.mp ha)
      have := List.mem_range.mp hb
      constructor <;> omega
    have nd : (natI (List.range n)).Nodup := List.pairwise_map.mpr (List.nodup_range.imp fun h e => h (by omega))
    generalize natI os = zs at *
    refine ⟨_, rfl, o, _, rfl, .inl (SqL.of hl), fun q hq => ?_⟩
    have s1 := J4 (o := .lst (iV zs)) hq
    have hq1 : upd H q (.lst (iV zs)) q = some (.lst (iV zs)) := J2
    have up : ∀ o : HO, Same H (upd (upd H q (.lst (iV zs))) q o) := fun o b u e => by rw [Jd (Jc e hq)]; exact s1 _ _ e
    have hlo := s1 _ _ hl
    generalize upd H q (.lst (iV zs)) = H1 at *
    have hlen : (iV zs).length = n := by rw [← ln]; exact List.length_map ..
    have z2 : 2 ≤ sizeLine := by rw [sizeLine_eq]; decide
    have e31 : (10 : Int) ^ 30 + 24 < 10 ^ 31 := by decide
    have e24 : (24 : Int) < 10 ^ 30 := by decide
    have l0 : (0 : Int) < ((iV zs).length : Nat) := by rw [hlen]; omega
    have m0 : 0 ≤ cell % ((iV zs).length : Nat) := Int.emod_nonneg _ (by omega)
    have m1 : cell % ((iV zs).length : Nat) < ((iV zs).length : Nat) := Int.emod_lt_of_pos _ l0
    obtain ⟨j, hj⟩ : ∃ j : Nat, (j : Int) = cell % ((iV zs).length : Nat) := ⟨(cell % ((iV zs).length : Nat)).toNat, by omega⟩
    have jl : j < n := by rw [← hlen]; omega
    have jz : j < zs.length := by omega
    have sz : n + 1 ≤ sizeLine := by rw [sizeLine_eq]; omega
    have fin : ∀ (tl : List Int) (flag : Bool) (Hx : Hp) (qx : Addr), Same H Hx → Hx qx = some (.lst (iV tl)) → (flag = true ↔ ¬ tl.Perm (natI (List.range n))) → (∀ a ∈ tl, 0 ≤ a ∧ a < 10 ^ 31) → tl.length ≤ 25 → ∀ p, Hx p = none → Q (.ref p) (upd Hx p (.tup [.ref qx, .bl flag])) :=
      fun tl flag Hx qx sx hx c1 c3 c4 p hp => k p qx tl flag _ (sx.trans (J4 hp)) J2 (J4 hp _ _ hx) c1 c3 c4
    have notP : ∀ {tl : List Int}, tl.length ≠ n → (true = true ↔ ¬ tl.Perm (natI (List.range n))) := fun {tl} h => ⟨fun _ p => h (by rw [p.length_eq]; simp [natI]), fun _ => rfl⟩
    have big : ∀ a ∈ zs, 0 ≤ a ∧ a < 10 ^ 31 := fun a ha => by have := mem a ha; omega
    have ix : atI (iV zs) (cell % ((iV zs).length : Nat)) = some (V.int (zs.getD j 0)) := by rw [← hj]; exact Jg (J3l jz)
    have gm : zs.getD j 0 ∈ zs := by
      rw [List.getD_eq_getElem?_getD, List.getElem?_eq_getElem jz]
      exact List.getElem_mem jz
    refine ⟨_, rfl, _, rfl, q, _, rfl, .inl (SqL.of hq1), _, _, rfl, rfl, l0, ?_⟩
    have hway : way = 0 ∨ way = 1 ∨ way = 2 ∨ way = 3 ∨ way = 4 ∨ way = 5 ∨ way = 6 := by omega
    rcases hway with rfl | rfl | rfl | rfl | rfl | rfl | rfl
    · refine ⟨_, rfl, rfl, _, rfl, iteD (J9 (by decide)) ?_⟩
      refine ⟨_, rfl, rfl, _, rfl, iteD (J9 (by decide)) ?_⟩
      refine ⟨_, rfl, rfl, _, rfl, iteD (J9 (by decide)) ?_⟩
      refine ⟨_, rfl, rfl, _, rfl, iteD (J9 (by decide)) ?_⟩
      refine ⟨_, rfl, rfl, _, rfl, iteD (J9 (by decide)) ?_⟩
      refine ⟨_, rfl, rfl, _, rfl, iteD (J9 (by decide)) (iteF ?_)⟩
      exact ⟨_, rfl, _, rfl, _, _, rfl, rfl, _, rfl, iteD (by decide) ⟨z2, fun p hp => fin zs false H1 q s1 hq1 ⟨fun e => Bool.noConfusion e, fun n => absurd hz n⟩ big (by omega) p hp⟩⟩
    · refine ⟨_, rfl, rfl, _, rfl, iteDT rfl ?_⟩
      refine ⟨_, rfl, .inl ⟨rfl, _, SqL.of hq1⟩, _, rfl, _, rfl, q, _, _, _, rfl, rfl, SqL.of hq1, ix, q, _, _, rfl, rfl, hq1, (by rw [hlen]; omega), ?_⟩
      have ea : iV zs ++ [V.int (zs.getD j 0)] = iV (zs ++ [zs.getD j 0]) := by
        show _ = (zs ++ [zs.getD j 0]).map V.int
        rw [List.map_append]; rfl
      rw [ea]
      have up1 := up (.lst (iV (zs ++ [zs.getD j 0])))
      have hq2 : upd H1 q (.lst (iV (zs ++ [zs.getD j 0]))) q = some (.lst (iV (zs ++ [zs.getD j 0]))) := J2
      generalize upd H1 q (.lst (iV (zs ++ [zs.getD j 0]))) = H2 at *
      have lt : (zs ++ [zs.getD j 0]).length = n + 1 := by rw [List.length_append, ln]; rfl
      refine ⟨_, rfl, rfl, _, rfl, iteD (J9 (by decide)) ?_⟩
      refine ⟨_, rfl, rfl, _, rfl, iteD (J9 (by decide)) ?_⟩
      refine ⟨_, rfl, rfl, _, rfl, iteD (J9 (by decide)) ?_⟩
      refine ⟨_, rfl, rfl, _, rfl, iteD (J9 (by decide)) ?_⟩
      refine ⟨_, rfl, rfl, _, rfl, iteD (J9 (by decide)) (iteF ?_)⟩
      refine ⟨_, rfl, _, rfl, _, _, rfl, rfl, _, rfl, iteDT (by decide) ⟨_, rfl, _, _, rfl, rfl, _, rfl, iteDT (by decide) ?_⟩⟩
      refine ⟨z2, fun p hp => fin _ true H2 q up1 hq2 (notP (by rw [lt]; omega)) (fun a ha => ?_) (by rw [lt]; omega) p hp⟩
      rcases List.mem_append.mp ha with h | h
      · exact big a h
      · rw [List.mem_singleton.mp h]; exact big _ gm
    · refine ⟨_, rfl, rfl, _, rfl, iteD (J9 (by decide)) ?_⟩
      refine ⟨_, rfl, rfl, _, rfl, iteDT rfl ?_⟩
      have sq : seqIndex? (cell % ((iV zs).length : Nat)) (iV zs).length = some j := by
        rw [← hj]
        unfold seqIndex?
        have e1 : ¬ ((j : Nat) : Int) < 0 := by omega
        have e2 : (decide (0 ≤ ((j : Nat) : Int)) && decide (((j : Nat) : Int) < ((iV zs).length : Nat))) = true := by
          rw [decide_eq_true (by omega), decide_eq_true (by omega)]; rfl
        simp only [e1, if_false]
        rw [if_pos e2, Int.toNat_natCast]
      refine ⟨_, rfl, .inl ⟨rfl, _, SqL.of hq1⟩, _, rfl, q, _, _, j, _, rfl, rfl, hq1, by omega, by omega, sq, J3l jz, ?_⟩
      have ea : (iV zs).eraseIdx j = iV (zs.eraseIdx j) := by
        show (zs.map V.int).eraseIdx j = (zs.eraseIdx j).map V.int
        exact erase_map _ _ _
      rw [ea]
      have up1 := up (.lst (iV (zs.eraseIdx j)))
      have hq2 : upd H1 q (.lst (iV (zs.eraseIdx j))) q = some (.lst (iV (zs.eraseIdx j))) := J2
      generalize upd H1 q (.lst (iV (zs.eraseIdx j))) = H2 at *
      have lt : (zs.eraseIdx j).length = n - 1 := by rw [List.length_eraseIdx_of_lt jz, ln]
      refine ⟨_, rfl, rfl, _, rfl, iteD (J9 (by decide)) ?_⟩
      refine ⟨_, rfl, rfl, _, rfl, iteD (J9 (by decide)) ?_⟩
      refine ⟨_, rfl, rfl, _, rfl, iteD (J9 (by decide)) ?_⟩
      refine ⟨_, rfl, rfl, _, rfl, iteD (J9 (by decide)) (iteF ?_)⟩
      refine ⟨_, rfl, _, rfl, _, _, rfl, rfl, _, rfl, iteDT (by decide) ⟨_, rfl, _, _, rfl, rfl, _, rfl, iteDT (by decide) ?_⟩⟩
      exact ⟨z2, fun p hp => fin _ true H2 q up1 hq2 (notP (by rw [lt]; omega)) (fun a ha => big a (List.mem_of_mem_eraseIdx ha)) (by rw [lt]; omega) p hp⟩
    · refine ⟨_, rfl, rfl, _, rfl, iteD (J9 (by decide)) ?_⟩
      refine ⟨_, rfl, rfl, _, rfl, iteD (J9 (by decide)) ?_⟩
      refine ⟨_, rfl, rfl, _, rfl, iteDT rfl ?_⟩
      refine ⟨_, rfl, .inl ⟨rfl, _, SqL.of hq1⟩, _, rfl, _, rfl, o, _, rfl, .inl (SqL.of hlo), q, _, j, V.int ((iV zs).length : Nat), rfl, (by rw [hj]), hq1, (by omega), (by rw [hlen]; omega), ?_⟩
      have ea : (iV zs).take j ++ V.int ((iV zs).length : Nat) :: (iV zs).drop j = iV (zs.take j ++ ((iV zs).length : Int) :: zs.drop j) := by
        show (zs.map V.int).take j ++ V.int ((iV zs).length : Nat) :: (zs.map V.int).drop j = (zs.take j ++ ((iV zs).length : Int) :: zs.drop j).map V.int
        rw [List.map_append, List.map_cons, List.map_take, List.map_drop]
      rw [ea]
      have up1 := up (.lst (iV (zs.take j ++ ((iV zs).length : Int) :: zs.drop j)))
      have hq2 : upd H1 q (.lst (iV (zs.take j ++ ((iV zs).length : Int) :: zs.drop j))) q = some (.lst (iV (zs.take j ++ ((iV zs).length : Int) :: zs.drop j))) := J2
      generalize upd H1 q (.lst (iV (zs.take j ++ ((iV zs).length : Int) :: zs.drop j))) = H2 at *
      have lt : (zs.take j ++ ((iV zs).length : Int) :: zs.drop j).length = n + 1 := by rw [List.length_append, List.length_cons, List.length_take, List.length_drop, ln]; omega
      refine ⟨_, rfl, rfl, _, rfl, iteD (J9 (by decide)) ?_⟩
      refine ⟨_, rfl, rfl, _, rfl, iteD (J9 (by decide)) ?_⟩
      refine ⟨_, rfl, rfl, _, rfl, iteD (J9 (by decide)) (iteF ?_)⟩
      refine ⟨_, rfl, _, rfl, _, _, rfl, rfl, _, rfl, iteDT (by decide) ⟨_, rfl, _, _, rfl, rfl, _, rfl, iteDT (by decide) ?_⟩⟩
      refine ⟨z2, fun p hp => fin _ true H2 q up1 hq2 (notP (by rw [lt]; omega)) (fun a ha => ?_) (by rw [lt]; omega) p hp⟩
      rcases List.mem_append.mp ha with h | h
      · exact big a (List.mem_of_mem_take h)
      · rcases List.mem_cons.mp h with h | h
        · rw [h, hlen]; omega
        · exact big a (List.mem_of_mem_drop h)
    · refine ⟨_, rfl, rfl, _, rfl, iteD (J9 (by decide)) ?_⟩
      refine ⟨_, rfl, rfl, _, rfl, iteD (J9 (by decide)) ?_⟩
      refine ⟨_, rfl, rfl, _, rfl, iteD (J9 (by decide)) ?_⟩
      refine ⟨_, rfl, rfl, _, rfl, iteDT rfl ?_⟩
      refine ⟨_, rfl, o, _, rfl, .inl (SqL.of hlo), _, rfl, _, _, rfl, rfl, ⟨by decide, by decide⟩, _, _, rfl, rfl, ⟨by decide, by decide, by decide⟩, _, _, rfl, rfl, (by show (0 : Int) < 10 ^ 30; decide), _, _, rfl, rfl, _, rfl, _, rfl, q, _, _, j, rfl, rfl, hq1, (by rw [← hj]; exact J36 (by rw [hlen]; exact jl)), ?_⟩
      have v0 : 0 ≤ cell / 7 % 10 ^ 30 := Int.emod_nonneg _ (by decide)
      have v1 : cell / 7 % 10 ^ 30 < 10 ^ 30 := Int.emod_lt_of_pos _ (by decide)
      have up1 := up (.lst ((iV zs).set j (V.int (((iV zs).length : Nat) + cell / 7 % (10 : Int) ^ (30 : Int).toNat))))
      have hq2 : upd H1 q (.lst ((iV zs).set j (V.int (((iV zs).length : Nat) + cell / 7 % (10 : Int) ^ (30 : Int).toNat)))) q = some (.lst (iV (zs.set j ((n : Int) + cell / 7 % 10 ^ 30)))) := by rw [J2, iV_set, hlen]; rfl
      generalize upd H1 q (.lst ((iV zs).set j (V.int (((iV zs).length : Nat) + cell / 7 % (10 : Int) ^ (30 : Int).toNat)))) = H2 at *
      generalize cell / 7 % 10 ^ 30 = v at *
      have lt : (zs.set j ((n : Int) + v)).length = n := by rw [List.length_set, ln]
      refine ⟨_, rfl, rfl, _, rfl, iteD (J9 (by decide)) ?_⟩
      refine ⟨_, rfl, rfl, _, rfl, iteD (J9 (by decide)) (iteF ?_)⟩
      refine ⟨_, rfl, _, rfl, _, _, rfl, rfl, _, rfl, iteDT (by decide) ⟨_, rfl, _, _, rfl, rfl, _, rfl, iteDT (by decide) ?_⟩⟩
      refine ⟨z2, fun p hp => fin _ true H2 q up1 hq2 ⟨fun _ pm => ?_, fun _ => rfl⟩ (fun a ha => ?_) (by rw [lt]; omega) p hp⟩
      · obtain ⟨b, hb, e⟩ := List.mem_map.mp (pm.mem_iff.mp (List.mem_set jz ((n : Int) + v)))
        have := List.mem_range.mp hb
        have e : ((b : Nat) : Int) = n + v := e
        omega
      · rcases List.mem_or_eq_of_mem_set ha with h | h
        · exact big a h
        · rw [h]; omega
    · refine ⟨_, rfl, rfl, _, rfl, iteD (J9 (by decide)) ?_⟩
      refine ⟨_, rfl, rfl, _, rfl, iteD (J9 (by decide)) ?_⟩
      refine ⟨_, rfl, rfl, _, rfl, iteD (J9 (by decide)) ?_⟩
      refine ⟨_, rfl, rfl, _, rfl, iteD (J9 (by decide)) ?_⟩
      refine ⟨_, rfl, rfl, _, rfl, iteDT rfl ?_⟩
      refine ⟨Nat.zero_le _, fun q2 hq2 => ?_⟩
      have s2 := s1.trans (J4 (o := .lst []) hq2)
      refine ⟨_, rfl, rfl, _, rfl, iteD (J9 (by decide)) (iteF ?_)⟩
      refine ⟨_, rfl, _, rfl, _, _, rfl, rfl, _, rfl, iteDT (by decide) ⟨_, rfl, _, _, rfl, rfl, _, rfl, iteDT (by decide) ?_⟩⟩
      exact ⟨z2, fun p hp => fin [] true _ q2 s2 J2 (notP (by show 0 ≠ n; omega)) (fun a ha => absurd ha (by simp)) (Nat.zero_le _) p hp⟩
    · refine ⟨_, rfl, rfl, _, rfl, iteD (J9 (by decide)) ?_⟩
      refine ⟨_, rfl, rfl, _, rfl, iteD (J9 (by decide)) ?_⟩
      refine ⟨_, rfl, rfl, _, rfl, iteD (J9 (by decide)) ?_⟩
      refine ⟨_, rfl, rfl, _, rfl, iteD (J9 (by decide)) ?_⟩
      refine ⟨_, rfl, rfl, _, rfl, iteD (J9 (by decide)) ?_⟩
      refine ⟨_, rfl, rfl, _, rfl, iteDT rfl ⟨_, rfl, q, _, rfl, .inl (SqL.of hq1), _, _, rfl, rfl, _, rfl, ?_⟩⟩
      by_cases c : 1 < n
      · refine iteDT (by rw [hlen]; omega) ?_
        obtain ⟨j', jl', nj, ix'⟩ : ∃ j' : Nat, j' < zs.length ∧ j ≠ j' ∧ atI (iV zs) (cell % ((iV zs).length : Nat) - 1) = some (V.int (zs.getD j' 0)) := by
          rw [← hj]
          by_cases c0 : j = 0
          · refine ⟨n - 1, by omega, by omega, ?_⟩
            rw [c0, show (((0 : Nat) : Int) - 1) = -1 from rfl]
            refine atI_m1 (n := n - 1) (by omega) ?_
            exact J3l (by omega)
          · refine ⟨j - 1, by omega, by omega, ?_⟩
            rw [show ((j : Nat) : Int) - 1 = ((j - 1 : Nat) : Int) by omega]
            exact Jg (J3l (by omega))
        refine ⟨_, rfl, _, rfl, _, _, rfl, rfl, q, _, _, _, rfl, rfl, SqL.of hq1, ix', _, rfl, _, rfl, q, _, _, j, rfl, rfl, hq1, (by rw [← hj]; exact J36 (by rw [hlen]; exact jl)), ?_⟩
        rw [iV_set]
        have up1 := up (.lst (iV (zs.set j (zs.getD j' 0))))
        have hq2 : upd H1 q (.lst (iV (zs.set j (zs.getD j' 0)))) q = some (.lst (iV (zs.set j (zs.getD j' 0)))) := J2
        generalize upd H1 q (.lst (iV (zs.set j (zs.getD j' 0)))) = H2 at *
        have lt : (zs.set j (zs.getD j' 0)).length = n := by rw [List.length_set, ln]
        have ll : (iV (zs.set j (zs.getD j' 0))).length = n := by rw [← lt]; exact List.length_map ..
        have gm' : zs.getD j' 0 ∈ zs := by
          rw [List.getD_eq_getElem?_getD, List.getElem?_eq_getElem jl']
          exact List.getElem_mem jl'
        refine ⟨_, rfl, _, rfl, _, _, rfl, rfl, _, rfl, iteDT (by decide) ⟨_, rfl, _, _, rfl, rfl, _, rfl, iteD (by decide) ⟨_, rfl, q, _, rfl, .inl (SqL.of hq2), _, _, rfl, rfl, ?_⟩⟩⟩
        refine ⟨z2, fun p hp => fin _ _ H2 q up1 hq2 ⟨fun _ pm => ?_, fun _ => decide_eq_true (by rw [ll]; omega)⟩ (fun a ha => ?_) (by rw [lt]; omega) p hp⟩
        · have nd2 : (zs.set j (zs.getD j' 0)).Nodup := (pm.nodup_iff).mpr nd
          have e1 : (zs.set j (zs.getD j' 0))[j]? = some (zs.getD j' 0) := by rw [List.getElem?_set_self jz]
          have e2 : (zs.set j (zs.getD j' 0))[j']? = some (zs.getD j' 0) := by
            rw [List.getElem?_set_ne nj, List.getElem?_eq_getElem jl', List.getD_eq_getElem?_getD, List.getElem?_eq_getElem jl']; rfl
          have e3 := (List.getElem?_inj (by rw [lt]; exact jl) nd2).mp (e1.trans e2.symm)
          exact nj e3
        · rcases List.mem_or_eq_of_mem_set ha with h | h
          · exact big a h
          · rw [h]; exact big _ gm'
      · refine iteD (by rw [hlen]; omega) ?_
        refine ⟨_, rfl, _, rfl, _, _, rfl, rfl, _, rfl, iteDT (by decide) ⟨_, rfl, _, _, rfl, rfl, _, rfl, iteD (by decide) ⟨_, rfl, q, _, rfl, .inl (SqL.of hq1), _, _, rfl, rfl, ?_⟩⟩⟩
        exact ⟨z2, fun p hp => fin zs _ H1 q s1 hq1 ⟨fun e => absurd (of_decide_eq_true e) (by rw [hlen]; omega), fun n => absurd hz n⟩ big (by omega) p hp⟩
end
end R10
namespace R10
open PySem L2 Rl
section
variable {P:Program} {w:World} {K:PySem.W.Frag} {mg:Str→Option Value} {base:Heap}
theorem boot_VE:bootBuiltins "ValueError"=some (.type "ValueError"):=by boot_by_name
theorem J1e {X:Cx} {f:Value} (hf:f=.builtin "isinstance"):CallR X f (fun xs H Q=>(∃ (ea D:Addr) (c:V) (cv:Value) (b:Bool),xs=[.ref ea,c]∧RelV c cv∧(∀ v,RelV c v→v=cv)∧H ea=some (excO ea (.ref D))∧XCls X.K D∧PySem.W.kitOne X.K (.ref D) cv=some b∧Q (.bl b) H)∨
  (∃ (x c:V) (t cv:Value) (b:Bool),xs=[x,c]∧RelV c cv∧(∀ v,RelV c v→v=cv)∧TyOf X.K H x t∧PySem.W.kitOne X.K t cv=some b∧Q (.bl b) H)):=by
 intro pins s σ H xs us Q I r h
 rcases h with h | h
 ·exact call_isany hf pins s σ H xs us Q I r h
 ·exact call_isinst hf pins s σ H xs us Q I r h
structure Tx10 (K:PySem.W.Frag) (mg:Str→Option Value) (CL c0 c1 c3:Addr):Prop where
 isi:mg "isinstance"=none
 mv:mg "ValueError"=none
 ml:mg "LineError"=some (.ref CL)
 m0:mg "BadLengths"=some (.ref c0)
 m1:mg "BadOrder"=some (.ref c1)
 m3:mg "BadText"=some (.ref c3)
 x0:PySem.W.exmOne K (.ref c0) (.ref CL)=some true
 x1:PySem.W.exmOne K (.ref c1) (.ref CL)=some true
 w0:XCls K c0
 w1:XCls K c1
 k00:PySem.W.kitOne K (.ref c0) (.ref c0)=some true
 k01:PySem.W.kitOne K (.ref c0) (.ref c1)=some false
 k03:PySem.W.kitOne K (.ref c0) (.ref c3)=some false
 k0v:PySem.W.kitOne K (.ref c0) (.type "ValueError")=some true
 k10:PySem.W.kitOne K (.ref c1) (.ref c0)=some false
 k11:PySem.W.kitOne K (.ref c1) (.ref c1)=some true
 k13:PySem.W.kitOne K (.ref c1) (.ref c3)=some false
 k1v:PySem.W.kitOne K (.ref c1) (.type "ValueError")=some true
 n0:PySem.W.kitOne K (.type "NoneType") (.ref c0)=some false
 n1:PySem.W.kitOne K (.type "NoneType") (.ref c1)=some false
 n3:PySem.W.kitOne K (.type "NoneType") (.ref c3)=some false
theorem app_empty (x:Str):x ++ Str.ofString ""=x:=by
 have e:Str.ofString ""=Str.empty:=by decide +kernel
 rw [e]
 exact Str.ext' (by rw [Str.cps_append];exact Array.append_empty)
theorem word_B (z:Int) (b:Bool):numS z ++ (if b=true then Str.ofString "-" else Str.ofString "")=wordB z b:=by
 unfold wordB
 cases b with
 | true=>rfl
 | false=>exact app_empty _
def bitO (ts:List Bool) (z:Int):Bool:=ts.getD (z % (ts.length:Nat)).toNat false
def spLaw (K:PySem.W.Frag):Sp:=fun vs H Q _=>∃ (a:Addr) (ns:List Int),vs=[.ref a]∧SqL K H a (ns.map V.int)∧ns.length≤63∧∀ H',Q (.bl true) H'
theorem scLaw:FnScope ["script","first","drawn","cell","lengths","order","many","signs","laid","rows","found","line","e","kinds"] ["script"] (J6 sLaw):=⟨rfl,rfl,rfl,by decide +kernel,rfl,by decide +kernel,by decide +kernel⟩
theorem ok_law {f fC fD fLL fOL fRd CL c0 c1 c3 C:Addr} {fd fdC fdD fdLL fdOL fdRd:FuncData}  (F:Fun K "law" "law" sLaw f fd) (T:TxtR mg) (TC:TxtC K mg C) (TX:Tx10 K mg CL c0 c1 c3) (hstr:mg "str"=none) (hint:mg "int"=none)
  (GC:FnOk P w K mg base CX0 1 fC fdC ["script","k"] (spCell K)) (bC:Binds K fdC ["script","k"] []) (mC:mg "_law_cell"=some (.ref fC)) (kC:PySem.W.keepIn K (.ref fC)=true)
  (GD:FnOk P w K mg base CX0 2 fD fdD ["script","at","many","top"] (spDrawnA K)) (bD:Binds K fdD ["script","at","many","top"] []) (mD:mg "_law_drawn"=some (.ref fD)) (kD:PySem.W.keepIn K (.ref fD)=true)
  (GLL:FnOk P w K mg base CX0 1 fLL fdLL ["lengths","way","cell"] J2x) (bLL:Binds K fdLL ["lengths","way","cell"] []) (mLL:mg "_law_lengths"=some (.ref fLL)) (kLL:PySem.W.keepIn K (.ref fLL)=true)
  (GOL:FnOk P w K mg base CX0 1 fOL fdOL ["order","way","cell"] spOrderL) (bOL:Binds K fdOL ["order","way","cell"] []) (mOL:mg "_law_order"=some (.ref fOL)) (kOL:PySem.W.keepIn K (.ref fOL)=true)
  (GRd:FnOk P w K mg base (Exc1 P w) 5 fRd fdRd ["text"] (spReadX c0 c1 C)) (bRd:Binds K fdRd ["text"] []) (mRd:mg "read"=some (.ref fRd)) (kRd:PySem.W.keepIn K (.ref fRd)=true) :
  FnOk P w K mg base CX0 7 f fd ["script"] (spLaw K):=by
 refine F.ok scLaw (fun vs H Q E h=>?_) (fun cdv A outer s H vs Q E hr h=>?_)
 ·obtain ⟨a,ns,rfl,_⟩:=h
  rfl
 ·obtain ⟨a,ns,rfl,hS,hlen,k⟩:=h
  have hr1:Room 1 _:=hr.mono (by decide)
  have hr2:Room 2 _:=hr.mono (by decide)
  have hr5:Room 5 _:=hr.mono (by decide)
  have hu:=hr.units0
  refine ⟨_,(J1 (Jn (i:=1) scLaw.nd rfl (Or.inl rfl) (Jm GC hr1 rfl mC kC bC .nil pass0 (J0 (pv 0) (J0 J8 J3))))
   (J1 (Jn (i:=2) scLaw.nd rfl (Or.inr rfl) (Jm GD hr2 rfl mD kD bD .nil pass0 (J0 (pv 0) (J0 J8 (J0 (pe_op J1k J8 (pe_op J16 (pv 1) J8)) (J0 (pe_ix Ju (J1j (J0 J8 (J0 (pe_op op_pow J8 J8) (J0 J8 J3)))) (pe_op J16 (pe_op op_fdiv (pv 1) J8) J8) (fun _ _=>rfl)) J3))))))
   (J1 (Jn (i:=3) scLaw.nd rfl (Or.inl rfl) (Jm GC hr1 rfl mC kC bC .nil pass0 (J0 (pv 0) (J0 J8 J3))))
   (J1 (Jn (i:=4) scLaw.nd rfl (Or.inl rfl) (Jm GLL hr1 rfl mLL kLL bLL .nil pass0 (J0 (pe_ix J21 (pv 2) J8 (fun _ _=>rfl)) (J0 (pe_op J16 (pv 3) J8) (J0 (pe_op op_fdiv (pv 3) J8) J3)))))
   (J1 (Jn (i:=3) scLaw.nd rfl (Or.inl rfl) (Jm GC hr1 rfl mC kC bC .nil pass0 (J0 (pv 0) (J0 J8 J3))))
   (J1 (Jn (i:=5) scLaw.nd rfl (Or.inl rfl) (Jm GOL hr1 rfl mOL kOL bOL .nil pass0 (J0 (pe_ix J21 (pv 2) J8 (fun _ _=>rfl)) (J0 (pe_op J16 (pv 3) J8) (J0 (pe_op op_fdiv (pv 3) J8) J3)))))
   (J1 (Jn (i:=6) scLaw.nd rfl (Or.inl rfl) (Ja J7 (by rfl) T.len PySem.boot_len (J0 (pe_ix J21 (pv 4) J8 (fun _ _=>rfl)) J3)))
   (J1 (Jn (i:=7) scLaw.nd rfl (Or.inr rfl) (J1j (J0 Jv (J0 Jv J3))))
   (J1 (ps_cut (ps_lc (i:=8) (caps:=["signs","drawn"]) (js:=[7,2]) scLaw.nd rfl (Or.inl rfl) rfl (J1x (pe_ix J21 (pv 5) J8 (fun _ _=>rfl))) rfl (fun _ _ _ _=>J15) (fun C fp s H=>(pe_op J1b (Je J24 (by rfl) hstr PyProof.Rows.boot_str (J0 (pv 0) J3)) (pe_ixr (ix_listK K) (pv 1) (Je call_int1 (by rfl) hint PyProof.Rows.boot_int (J0 (pe_ixr (ix_listK K) (pe_ixr (ix_tupK K) (pv 2) J8) (pe_op J16 (pv 0) (Ja (J3a K) (by rfl) T.len PySem.boot_len (J0 (pe_ixr (ix_tupK K) (pv 2) J8) J3)))) J3))))) (by decide +kernel) (by decide +kernel) (by decide +kernel) (by intro p hp;simp only [List.mem_cons,List.not_mem_nil,or_false] at hp;rcases hp with rfl | rfl <;> rfl)))
   (J1 (ps_cut (Jn (i:=9) scLaw.nd rfl (Or.inl rfl) (J1j (J0 (pe_bm PySem.F.plainAttrs_str PySem.F.slot_str_join PySem.F.type_str_join mt_join Jv (J0 (pe_op op_cat (J1j (J0 Jv J3)) (pe_lc (caps:=[]) (js:=[]) rfl (J1x (pe_ix J21 (pv 4) J8 (fun _ _=>rfl))) rfl (fun _ _ _ _=>J15) (fun C fp s H=>(Je J24 (by rfl) hstr PyProof.Rows.boot_str (J0 (pv 0) J3))) (by decide +kernel) (by decide +kernel) (by decide +kernel) (by intro p hp;cases hp))) J3)) (J0 (pe_bm PySem.F.plainAttrs_str PySem.F.slot_str_join PySem.F.type_str_join mt_join Jv (J0 (pe_op op_cat (J1j (J0 Jv J3)) (pv 8)) J3)) J3)))))
   (J1 (Jn (i:=10) scLaw.nd rfl (Or.inl rfl) pe_non)
   (J1 (Jn (i:=11) scLaw.nd rfl (Or.inl rfl) pe_non)
   (J1 (ps_cut (ps_trya (i:=12) (j:=11) GRd hr5 rfl mRd kRd bRd .nil (J0 (pe_op J1b (pe_op J1b (pe_op J1b (pe_ix Ju (pv 9) J8 (fun _ _=>rfl)) Jv) (pe_ix Ju (pv 9) J8 (fun _ _=>rfl))) Jv) J3) rfl rfl rfl TX.ml scLaw.nd rfl rfl rfl (Or.inl rfl) (fun ea=>Jb (Jn (i:=10) scLaw.nd rfl (Or.inl rfl) (pv 12)))))
   (J1 (Jn (i:=13) scLaw.nd rfl (Or.inl rfl) (J1j (J0 (Ja (J1e rfl) (by rfl) TX.isi PyProof.Rows.boot_isinstance (J0 (pv 10) (J0 (J2d (v:=.ref c0) rfl TX.m0 rfl) J3))) (J0 (Ja (J1e rfl) (by rfl) TX.isi PyProof.Rows.boot_isinstance (J0 (pv 10) (J0 (J2d (v:=.ref c1) rfl TX.m1 rfl) J3))) (J0 (Ja (J1e rfl) (by rfl) TX.isi PyProof.Rows.boot_isinstance (J0 (pv 10) (J0 (J2d (v:=.ref c3) rfl TX.m3 rfl) J3))) J3)))))
   (J1 (ps_if (pt_val (pe_ix J21 (pv 4) J8 (fun _ _=>rfl))) (Jb (Jy (J3g (Jt (op_eqL hu) (pv 13) (J1j (J0 pe_bl (J0 pe_bl (J0 pe_bl J3)))) (Ji _)) (J3f (Ja (J1e rfl) (by rfl) TX.isi PyProof.Rows.boot_isinstance (J0 (pv 10) (J0 (pe_bltn (v:=.ty "ValueError") rfl TX.mv boot_VE rfl) J3))))))) Jj)
   (J1 (ps_if (pt_val (pe_ix J21 (pv 5) J8 (fun _ _=>rfl))) (Jb (Jy (J3g (Jt (op_eqL hu) (pv 13) (J1j (J0 pe_bl (J0 pe_bl (J0 pe_bl J3)))) (Ji _)) (J3f (Ja (J1e rfl) (by rfl) TX.isi PyProof.Rows.boot_isinstance (J0 (pv 10) (J0 (pe_bltn (v:=.ty "ValueError") rfl TX.mv boot_VE rfl) J3))))))) Jj)
   (Jb (Jy (J3g (Jt op_isN (pv 10) pe_non (Ji _)) (J3g (Jt op_eq (Ja J7 (by rfl) T.len PySem.boot_len (J0 (pe_fld (pv 11) rfl) J3)) (pv 6) (Ji _)) (J3f (Jt (op_eqT hu) (pe_fld (pv 11) rfl) (Je J1m (by rfl) T.tuple PyProof.Rows.boot_tuple (J0 (pe_ix J21 (pv 5) J8 (fun _ _=>rfl)) J3)) (Ji _))))))))))))))))))))))),?_⟩
  refine ⟨_,rfl,a,ns,0,rfl,hS,?_⟩
  have m0:0≤cellN ns 0 / 24 % 3:=Int.emod_nonneg _ (by decide)
  have m1:cellN ns 0 / 24 % 3 < 3:=Int.emod_lt_of_pos _ (by decide)
  obtain ⟨top,hat,t0,t1⟩:=menu m0 m1
  have a0:0≤cellN ns 0 % 24:=Int.emod_nonneg _ (by decide)
  have a1:cellN ns 0 % 24 < 24:=Int.emod_lt_of_pos _ (by decide)
  obtain ⟨many,hm⟩:∃ many:Nat,(many:Int)=1 + cellN ns 0 % 24:=⟨(1 + cellN ns 0 % 24).toNat,by lia⟩
  have y1:1≤many:=by lia
  have y2:many≤24:=by lia
  refine ⟨_,rfl,_,rfl,_,_,rfl,rfl,(by show (0:Int) < 24;decide),_,_,rfl,rfl,_,_,rfl,rfl,⟨by decide,by decide,by decide⟩,(by show 3≤sizeLine;decide),fun me hme=>⟨_,rfl,_,_,rfl,rfl,⟨by decide,by decide⟩,_,_,rfl,rfl,(by show (0:Int) < 3;decide),me,_,_,V.int top,rfl,rfl,SqL.of J2,hat,?_⟩⟩
  have s1:Same H (upd H me (.lst [V.int 7,V.int (10 ^ (28:Int).toNat),V.int 1000])):=J4 hme
  generalize (upd H me (.lst [V.int 7,V.int (10 ^ (28:Int).toNat),V.int 1000]))=H1 at s1
  clear hat
  refine ⟨a,ns,2,many,top,(by rw [hm];rfl),s1.seq hS,y1,y2,t0,fun p H2 s2 D=>?_⟩
  have g:=drawn_good (ns.drop 2) y1 y2 t0 t1
  have hb:∀ a∈drawL (ns.drop 2) many top,1≤a∧a≤10 ^ 28:=fun a ha=>by
   have:=J2r t0 a ha
   lia
  have hts:(drawT (ns.drop 2) many).length=(drawL (ns.drop 2) many top).length:=by rw [drawT_len,drawL_len]
  generalize drawL (ns.drop 2) many top=ls at *
  generalize drawO (ns.drop 2) many many=os at *
  generalize drawT (ns.drop 2) many=ts at *
  clear m0 m1 a0 a1 t0 t1
  obtain ⟨l,o,t,h0,h1,h2,h3⟩:=D.ex
  have s2:=s1.trans s2
  clear s1
  have w0:0≤cellN ns 1 % 5:=Int.emod_nonneg _ (by decide)
  have w1:cellN ns 1 % 5 < 5:=Int.emod_lt_of_pos _ (by decide)
  have v0:0≤cellN ns 2 % 7:=Int.emod_nonneg _ (by decide)
  have v1:cellN ns 2 % 7 < 7:=Int.emod_lt_of_pos _ (by decide)
  refine ⟨_,rfl,a,ns,1,rfl,s2.seq hS,?_⟩
  refine ⟨_,rfl,p,_,_,_,rfl,rfl,SqT.of h0,Jg (j:=0) rfl,_,rfl,_,_,rfl,rfl,(by show (0:Int) < 5;decide),_,rfl,_,_,rfl,rfl,⟨by decide,by decide⟩,l,ls,_,_,rfl,h1,⟨w0,w1⟩,⟨g.lo,g.hi⟩,hb,fun pl ql tl fl H3 s3 hpl hql cl1 cl2 cl3 cl4=>?_⟩
  refine ⟨_,rfl,a,ns,2,rfl,(s2.trans s3).seq hS,?_⟩
  refine ⟨_,rfl,p,_,_,_,rfl,rfl,SqT.of (s3 _ _ h0),Jg (j:=1) rfl,_,rfl,_,_,rfl,rfl,(by show (0:Int) < 7;decide),_,rfl,_,_,rfl,rfl,⟨by decide,by decide⟩,o,os,ls.length,_,_,rfl,s3 _ _ h2,⟨v0,v1⟩,g.perm,⟨g.lo,g.hi⟩,fun po qo to fo H4 s4 hpo hqo co1 co3 co4=>?_⟩
  have hpl4:=s4 _ _ hpl
  have hql4:=s4 _ _ hql
  have h04:=s4 _ _ (s3 _ _ h0)
  have h34:=s4 _ _ (s3 _ _ h3)
  refine ⟨_,rfl,pl,_,_,_,rfl,rfl,SqT.of hpl4,Jg (j:=0) rfl,ql,_,rfl,.inl (SqL.of hql4),?_⟩
  refine ⟨(by show 2≤sizeLine;decide),fun sg hsg=>?_⟩
  have s5:=J4 (o:=.lst [.str (Str.ofString ""),.str (Str.ofString "-")]) hsg
  have hsg5:upd H4 sg (.lst [.str (Str.ofString ""),.str (Str.ofString "-")]) sg=some (.lst [.str (Str.ofString ""),.str (Str.ofString "-")]):=J2
  generalize upd H4 sg (.lst [.str (Str.ofString ""),.str (Str.ofString "-")])=H5 at *
  have hpl5:=s5 _ _ hpl4
  have hql5:=s5 _ _ hql4
  have h05:=s5 _ _ h04
  have h35:=s5 _ _ h34
  have hpo5:=s5 _ _ hpo
  have hqo5:=s5 _ _ hqo
  clear s2 s3 s4 s5 hS hpl hql hpl4 hql4 h04 h34 hpo hqo h0 h1 h2 h3 D w0 w1 v0 v1
  have e40:(10:Int) ^ 31 < 10 ^ 40:=by decide
  have c4:(Str.ofString "-").length=1:=by decide +kernel
  have c5:(Str.ofString "").length=0:=by decide +kernel
  have hbl:(bV ts).length=ts.length:=List.length_map ..
  have glo:=g.lo
  refine ⟨fun σ' H'=>∃ la,σ'=[some (.ref a),some (.int (cellN ns 0)),some (.ref p),some (.int (cellN ns 2)),some (.ref pl),some (.ref po),some (.int ((iV tl).length:Nat)),some (.ref sg),some (.ref la),none,none,none,none,none]∧Same H5 H'∧H' la=some (.lst ((to.map fun z=>wordB z (bitO ts z)).map V.str)),?_,?_⟩
  ·refine ⟨_,rfl,po,_,_,_,rfl,rfl,SqT.of hpo5,Jg (j:=0) rfl,qo,rfl,⟨_,SqL.of hqo5⟩,fun la hla=>lc_lst V.int to (fun _=>true) (fun z=>V.str (wordB z (bitO ts z))) (SqL.of hqo5) (by lia) hla (fun _ _ H _ _ q=>q H (Same.refl _)) (fun z hz H6 Qe _ s6 q=>?_) (fun H6 s6 hla6=>?_)⟩
   ·obtain ⟨z0,z1⟩:=co3 z hz
    have hl:=J1l (i:=z) (by lia)
    have b0:0≤z % ((bV ts).length:Nat):=Int.emod_nonneg _ (by lia)
    have b1:z % ((bV ts).length:Nat) < ((bV ts).length:Nat):=Int.emod_lt_of_pos _ (by lia)
    have ix:atI (bV ts) (z % ((bV ts).length:Nat))=some (V.bl (bitO ts z)):=by
     unfold bitO
     rw [hbl] at b0 b1 ⊢
     have e:z % (ts.length:Nat)=(((z % (ts.length:Nat)).toNat:Nat):Int):=by lia
     conv=>lhs;rw [e]
     exact Jg (bV_get (by lia))
    refine ⟨_,rfl,z,rfl,log_small (by lia),_,rfl,_,rfl,p,_,_,_,rfl,rfl,SqT.of (s6 _ _ h05),Jg (j:=2) rfl,_,rfl,_,rfl,p,_,_,_,rfl,rfl,SqT.of (s6 _ _ h05),Jg (j:=2) rfl,t,_,rfl,.inl (SqL.of (s6 _ _ h35)),_,_,rfl,rfl,(by lia),t,_,_,_,rfl,rfl,SqL.of (s6 _ _ h35),ix,.inr ⟨_,rfl,?_⟩⟩
    have hq:=q H6 (Same.refl _)
    rw [← word_B] at hq
    cases hbz:bitO ts z with
    | true =>
     rw [hbz] at hq
     refine ⟨sg,_,_,_,rfl,rfl,SqL.of (s6 _ _ hsg5),rfl,_,_,rfl,rfl,?_,hq⟩
     show (numS z).length + (Str.ofString "-").length≤sizeLine
     rw [c4,sizeLine_eq];lia
    | false =>
     rw [hbz] at hq
     refine ⟨sg,_,_,_,rfl,rfl,SqL.of (s6 _ _ hsg5),rfl,_,_,rfl,rfl,?_,hq⟩
     show (numS z).length + (Str.ofString "").length≤sizeLine
     rw [c5,sizeLine_eq];lia
   rw [Jp] at hla6
   refine ⟨la,rfl,s6,?_⟩
   rw [hla6,List.map_map];rfl
  rintro σ H6 ⟨la,rfl,s6,hla⟩
  have hpl6:=s6 _ _ hpl5
  have hql6:=s6 _ _ hql5
  have hpo6:=s6 _ _ hpo5
  have hqo6:=s6 _ _ hqo5
  clear hpl5 hql5 hpo5 hqo5 h05 h35 hsg5 s6 hbl
  have csp:(Str.ofString " ").length=1:=by decide +kernel
  have c2:(Str.ofString "pieces").length=6:=by decide +kernel
  have c3':(Str.ofString "laid").length=4:=by decide +kernel
  have c6:(Str.ofString "\n").length=1:=by decide +kernel
  generalize hps:to.map (fun z=>(z,bitO ts z))=ps
  have p1:ps.map (·.1)=to:=by
   rw [← hps,List.map_map]
   exact List.map_id' ..
  have ew:to.map (fun z=>wordB z (bitO ts z))=ps.map fun p=>wordB p.1 p.2:=by rw [← hps,List.map_map];rfl
  rw [ew] at hla
  have NU:Nums tl ps:=⟨cl3,fun p hp=>by rw [← hps] at hp;obtain ⟨z,hz,rfl⟩:=List.mem_map.mp hp;exact co3 z hz,by lia,by rw [← hps,List.length_map];lia⟩
  have mL:∀ y∈tl.map numS,y.length≤41:=fun y hy=>by
   obtain ⟨l,hl,rfl⟩:=List.mem_map.mp hy
   have:=cl3 l hl
   exact J1l (by lia)
  have nL:(tl.map numS).length≤60:=by rw [List.length_map];exact cl4
  have mO:∀ y∈ps.map (fun p=>wordB p.1 p.2),y.length≤42:=fun y hy=>by
   obtain ⟨q,hq,rfl⟩:=List.mem_map.mp hy
   exact wordB_len (NU.p q hq) _
  have nO:(ps.map fun p=>wordB p.1 p.2).length≤25:=by rw [List.length_map,← hps,List.length_map];exact co4
  have z1:1≤sizeLine:=by rw [sizeLine_eq];decide
  refine ⟨fun σ' H'=>∃ ro,σ'=[some (.ref a),some (.int (cellN ns 0)),some (.ref p),some (.int (cellN ns 2)),some (.ref pl),some (.ref po),some (.int ((iV tl).length:Nat)),some (.ref sg),some (.ref la),some (.ref ro),none,none,none,none]∧Same H6 H'∧H' ro=some (.lst [.str (rowN tl),.str (rowB ps)]),?_,?_⟩
  ·refine ⟨rfl,z1,fun b0 hb0=>?_⟩
   have q1:=J4 (o:=.lst [.str (Str.ofString "pieces")]) hb0
   refine ⟨_,rfl,pl,_,_,_,rfl,rfl,SqT.of (q1 _ _ hpl6),Jg (j:=0) rfl,ql,rfl,⟨_,SqL.of (q1 _ _ hql6)⟩,fun d1 hd1=>lc_lst V.int tl (fun _=>true) (fun l=>V.str (numS l)) (SqL.of (q1 _ _ hql6)) (by lia) hd1 (fun _ _ H _ _ q=>q H (Same.refl _)) (fun z hz H7 Qe _ s7 q=>?_) (fun H7 s7 hd7=>?_)⟩
   ·have:=cl3 z hz
    exact ⟨_,rfl,z,rfl,log_small (by lia),q H7 (Same.refl _)⟩
   rw [Jp] at hd7
   have hd7':H7 d1=some (.lst ((tl.map numS).map V.str)):=by rw [hd7,List.map_map];rfl
   refine ⟨b0,d1,_,_,rfl,rfl,s7 _ _ J2,hd7',(by rw [List.length_map,sizeLine_eq];show 1 + _≤_;lia),fun b1 hb1=>?_⟩
   have sL:=J19 mL
   have sO:=J19 mO
   have bL:(tl.map numS).length * 41≤60 * 41:=Nat.mul_le_mul_right _ nL
   have bO:(ps.map fun p=>wordB p.1 p.2).length * 42≤25 * 42:=Nat.mul_le_mul_right _ nO
   refine ⟨Str.ofString " ",b1,Str.ofString "pieces" :: tl.map numS,rfl,rfl,J2,by lia,(by rw [List.map_cons,List.sum_cons,List.length_cons,c2];lia),?_⟩
   have q2:=(q1.trans s7).trans (J4 (o:=.lst ([.str (Str.ofString "pieces")] ++ (tl.map numS).map V.str)) hb1)
   generalize upd H7 b1 (.lst ([.str (Str.ofString "pieces")] ++ (tl.map numS).map V.str))=H8 at *
   refine ⟨rfl,z1,fun b2 hb2=>?_⟩
   have q3:=q2.trans (J4 (o:=.lst [.str (Str.ofString "laid")]) hb2)
   refine ⟨_,rfl,b2,la,_,_,rfl,rfl,J2,q3 _ _ hla,(by rw [List.length_map,sizeLine_eq];show 1 + _≤_;lia),fun b3 hb3=>?_⟩
   refine ⟨Str.ofString " ",b3,Str.ofString "laid" :: ps.map (fun p=>wordB p.1 p.2),rfl,rfl,J2,by lia,(by rw [List.map_cons,List.sum_cons,List.length_cons,c3'];lia),(by show 2≤sizeLine;decide),fun ro hro=>?_⟩
   exact ⟨ro,rfl,(q3.trans (J4 hb3)).trans (J4 hro),J2⟩
  rintro σ H7 ⟨ro,rfl,s7,hro⟩
  have hpl7:=s7 _ _ hpl6
  have hpo7:=s7 _ _ hpo6
  have hqo7:=s7 _ _ hqo6
  clear s7 hpl6 hql6 hpo6 hqo6 hla mL nL mO nO ew
  have n0:=rowN_len NU.l NU.nl
  have n1:=rowB_len NU.p (Nat.le_of_lt (Nat.lt_trans NU.np (by decide)))
  have hnl:nl1.length=1:=c6
  refine ⟨fun σ' H'=>Same H7 H'∧((¬ GoodL tl∧∃ ea,σ'=[some (.ref a),some (.int (cellN ns 0)),some (.ref p),some (.int (cellN ns 2)),some (.ref pl),some (.ref po),some (.int ((iV tl).length:Nat)),some (.ref sg),some (.ref la),some (.ref ro),some (.ref ea),some .non,none,none]∧H' ea=some (excO ea (.ref c0)))∨
   (GoodL tl∧¬ to.Perm (natI (List.range tl.length))∧∃ ea,σ'=[some (.ref a),some (.int (cellN ns 0)),some (.ref p),some (.int (cellN ns 2)),some (.ref pl),some (.ref po),some (.int ((iV tl).length:Nat)),some (.ref sg),some (.ref la),some (.ref ro),some (.ref ea),some .non,none,none]∧H' ea=some (excO ea (.ref c1)))∨
   (GoodL tl∧∃ os' x ts',to=natI os'∧os'.Perm (List.range tl.length)∧σ'=[some (.ref a),some (.int (cellN ns 0)),some (.ref p),some (.int (cellN ns 2)),some (.ref pl),some (.ref po),some (.int ((iV tl).length:Nat)),some (.ref sg),some (.ref la),some (.ref ro),some .non,some (.ref x),none,none]∧LineAt C H' x tl os' ts')),?_,?_⟩
  ·refine ⟨_,rfl,ro,_,_,_,rfl,rfl,SqL.of hro,Jg (j:=0) rfl,_,_,rfl,rfl,(by rw [c6,sizeLine_eq];lia),_,rfl,ro,_,_,_,rfl,rfl,SqL.of hro,Jg (j:=1) rfl,_,_,rfl,rfl,(by rw [strLen_append,c6,sizeLine_eq];lia),_,_,rfl,rfl,(by rw [strLen_append,strLen_append,c6,sizeLine_eq];lia),tl,ps,?_,NU,?_,?_,?_⟩
   ·show [V.str (rowN tl ++ nl1 ++ rowB ps ++ nl1)] ++ []=_
    unfold textN
    rw [Str.append_assoc (rowN tl ++ nl1) (rowB ps) nl1];rfl
   ·intro gl os' e po x H8 ts' s8 L
    rw [p1] at e
    exact ⟨s8,.inr (.inr ⟨gl,os',x,ts',e,po,rfl,L⟩)⟩
   ·intro n H8 s8
    refine ⟨TX.x0,fun ea hea=>⟨_,rfl,fun b u e=>J4 hea _ _ (s8 _ _ e),.inl ⟨n,ea,rfl,J2⟩⟩⟩
   ·intro gl n H8 s8
    rw [p1] at n
    refine ⟨TX.x1,fun ea hea=>⟨_,rfl,fun b u e=>J4 hea _ _ (s8 _ _ e),.inr (.inl ⟨gl,n,ea,rfl,J2⟩)⟩⟩
  have z3:3≤sizeLine:=by decide
  rintro σ H8 ⟨s8,c | c | c⟩
  ·obtain ⟨nG,ea,rfl,hea⟩:=c
   have hfl:fl=true:=cl1.mpr nG
   subst hfl
   refine ⟨_,rfl,.inl ⟨ea,c0,.ref c0,.ref c0,true,rfl,rfl,fun v h=>h,hea,TX.w0,TX.k00,_,rfl,.inl ⟨ea,c0,.ref c1,.ref c1,false,rfl,rfl,fun v h=>h,hea,TX.w0,TX.k01,_,rfl,.inl ⟨ea,c0,.ref c3,.ref c3,false,rfl,rfl,fun v h=>h,hea,TX.w0,TX.k03,z3,fun kl hkl=>?_⟩⟩⟩⟩
   have s9:=J4 (o:=.lst (bV [true,false,false])) hkl
   have hkl9:upd H8 kl (.lst (bV [true,false,false])) kl=some (.lst (bV [true,false,false])):=J2
   have hea9:=s9 _ _ hea
   refine ⟨_,rfl,pl,_,_,_,rfl,rfl,SqT.of (s9 _ _ (s8 _ _ hpl7)),Jg (j:=1) rfl,true,rfl,iteT ?_⟩
   refine ⟨_,rfl,z3,fun k2 hk2=>?_⟩
   have s10:=J4 (o:=.lst (bV [true,false,false])) hk2
   exact ⟨kl,k2,_,_,rfl,rfl,SqL.of (s10 _ _ hkl9),SqL.of J2,Kin.bls [true,false,false] [true,false,false],_,rfl,iteDT rfl ⟨_,rfl,.inl ⟨ea,c0,.ty "ValueError",.type "ValueError",true,rfl,rfl,fun v h=>h,s10 _ _ hea9,TX.w0,TX.k0v,k _⟩⟩⟩
  ·obtain ⟨gl,nP,ea,rfl,hea⟩:=c
   obtain rfl:fl=false:=by
    cases hfl:fl with
    | false=>rfl
    | true=>exact absurd gl (cl1.mp hfl)
   rw [cl2 rfl] at nP
   obtain rfl:fo=true:=co1.mpr nP
   refine ⟨_,rfl,.inl ⟨ea,c1,.ref c0,.ref c0,false,rfl,rfl,fun v h=>h,hea,TX.w1,TX.k10,_,rfl,.inl ⟨ea,c1,.ref c1,.ref c1,true,rfl,rfl,fun v h=>h,hea,TX.w1,TX.k11,_,rfl,.inl ⟨ea,c1,.ref c3,.ref c3,false,rfl,rfl,fun v h=>h,hea,TX.w1,TX.k13,z3,fun kl hkl=>?_⟩⟩⟩⟩
   have s9:=J4 (o:=.lst (bV [false,true,false])) hkl
   have hkl9:upd H8 kl (.lst (bV [false,true,false])) kl=some (.lst (bV [false,true,false])):=J2
   have hea9:=s9 _ _ hea
   refine ⟨_,rfl,pl,_,_,_,rfl,rfl,SqT.of (s9 _ _ (s8 _ _ hpl7)),Jg (j:=1) rfl,false,rfl,iteF ?_⟩
   refine ⟨_,rfl,po,_,_,_,rfl,rfl,SqT.of (s9 _ _ (s8 _ _ hpo7)),Jg (j:=1) rfl,true,rfl,iteT ?_⟩
   refine ⟨_,rfl,z3,fun k2 hk2=>?_⟩
   have s10:=J4 (o:=.lst (bV [false,true,false])) hk2
   exact ⟨kl,k2,_,_,rfl,rfl,SqL.of (s10 _ _ hkl9),SqL.of J2,Kin.bls [false,true,false] [false,true,false],_,rfl,iteDT rfl ⟨_,rfl,.inl ⟨ea,c1,.ty "ValueError",.type "ValueError",true,rfl,rfl,fun v h=>h,s10 _ _ hea9,TX.w1,TX.k1v,k _⟩⟩⟩
  ·obtain ⟨gl,os',x,ts',e,po',rfl,L⟩:=c
   obtain rfl:fl=false:=by
    cases hfl:fl with
    | false=>rfl
    | true=>exact absurd gl (cl1.mp hfl)
   obtain rfl:fo=false:=by
    cases hfo:fo with
    | false=>rfl
    | true =>
     refine absurd ?_ (co1.mp hfo)
     rw [e,← cl2 rfl]
     exact po'.map _
   refine ⟨_,rfl,.inr ⟨.non,.ref c0,.type "NoneType",.ref c0,false,rfl,rfl,fun v h=>h,.non,TX.n0,_,rfl,.inr ⟨.non,.ref c1,.type "NoneType",.ref c1,false,rfl,rfl,fun v h=>h,.non,TX.n1,_,rfl,.inr ⟨.non,.ref c3,.type "NoneType",.ref c3,false,rfl,rfl,fun v h=>h,.non,TX.n3,z3,fun kl hkl=>?_⟩⟩⟩⟩
   have s9:=J4 (o:=.lst (bV [false,false,false])) hkl
   have L9:=L.same s9
   refine ⟨_,rfl,pl,_,_,_,rfl,rfl,SqT.of (s9 _ _ (s8 _ _ hpl7)),Jg (j:=1) rfl,false,rfl,iteF ?_⟩
   refine ⟨_,rfl,po,_,_,_,rfl,rfl,SqT.of (s9 _ _ (s8 _ _ hpo7)),Jg (j:=1) rfl,false,rfl,iteF ?_⟩
   obtain ⟨dx,fs,xl,xo,xt,xs,xd,h0,⟨k1,k2,k3,k4,k5,k6⟩,e1,e2,e3,e4,e5⟩:=L9.ex
   refine ⟨_,rfl,rfl,_,rfl,iteDT rfl ?_⟩
   refine ⟨_,rfl,x,C,dx,fs,_,rfl,h0,TC.cl,TC.nL,k1,xl,_,rfl,.inr (SqT.of e1),_,rfl,rfl,_,rfl,iteDT rfl ?_⟩
   refine ⟨_,rfl,x,C,dx,fs,_,rfl,h0,TC.cl,TC.nO,k2,_,rfl,po,_,_,_,rfl,rfl,SqT.of (s9 _ _ (s8 _ _ hpo7)),Jg (j:=0) rfl,J1w (.inl (s9 _ _ (s8 _ _ hqo7))) fun tq H10 s10 htq=>?_⟩
   refine ⟨xo,tq,_,_,rfl,rfl,SqT.of (s10 _ _ e2),SqT.of htq,Kin.ints _ _,?_⟩
   rw [e,decide_eq_true rfl]
   exact k _
end
end R10
namespace R10
open PySem L2 Rl
theorem dflt_binds {K:PySem.W.Frag} {x qual:Str} {st:Stmt} {f TD:Addr} {fd:FuncData} {cT:Value} {dT:Option Addr} {nT:Nat} {slT:Array (Option Value)} (F:FunD K x qual st f fd TD) (lT:K.lookup TD=some ⟨cT,dT,.seq #[.none] nT,slT⟩) (ps:List Str)
  (h0:∀ (kV doc pm:Value) (an:Option Addr) (cdv ct:Value) (us:List Value),us.length=ps.length→∃ k,bindArgs (PySem.W.fnOf x qual (Jk st) (Jf st) (J6 st) (.ref TD) kV doc pm an cdv ct) ⟨us,[]⟩=seqItems? (.ref TD) >>= k∧k (some #[.none])=pure (ps.zip us))
  (h1:∀ (kV doc pm:Value) (an:Option Addr) (cdv ct:Value) (us:List Value),(us ++ [Value.none]).length=ps.length→∃ k,bindArgs (PySem.W.fnOf x qual (Jk st) (Jf st) (J6 st) (.ref TD) kV doc pm an cdv ct) ⟨us,[]⟩=seqItems? (.ref TD) >>= k∧k (some #[.none])=pure (ps.zip (us ++ [Value.none]))) :
  Binds K fd ps []∧Binds K fd ps [.none]:=by
 obtain ⟨oc,od,kV,doc,pm,an,cdv,ct,osl,rfl,lk,hcd⟩:=F.ex
 refine ⟨fun s us X hl=>?_,fun s us X hl=>?_⟩
 ·rw [List.append_nil] at hl ⊢
  obtain ⟨k,e1,e2⟩:=h0 kV doc pm an cdv ct us hl
  exact BindsTo.of_defaults (T:=TD) rfl (X _ _ lT) rfl e1 e2
 ·obtain ⟨k,e1,e2⟩:=h1 kV doc pm an cdv ct us hl
  exact BindsTo.of_defaults (T:=TD) rfl (X _ _ lT) rfl e1 e2
theorem all_mk {l : PySem.W.OpenLaw} {w : World} {K : PySem.W.Frag} {h : Heap} {mg : Str → Option Value} {fa CL q0 q1 q2 q3 C : Addr} (X : K.In h) (G : h.Ns mainGlobals mg) (hfa : mg "law" = some (.ref fa))
    {f0 f1 f2 f3 f4 f5 f6 f7 f8 f9 f10 f11 f12 f13 f14 f15 f_LI : Addr} {od0 an0 od1 an1 od2 an2 od3 an3 od4 an4 od5 an5 od6 an6 od7 an7 od8 an8 od9 an9 od10 an10 od11 an11 od12 an12 od13 an13 od14 an14 od15 an15 od_LI an_LI : Option Addr} {sl0 sl1 sl2 sl3 sl4 sl5 sl6 sl7 sl8 sl9 sl10 sl11 sl12 sl13 sl14 sl15 sl_LI : Array (Option Value)} {oc0 kV0 dc0 pm0 cd0 ct0 oc1 kV1 dc1 pm1 cd1 ct1 oc2 kV2 dc2 pm2 cd2 ct2 oc3 kV3 dc3 pm3 cd3 ct3 oc4 kV4 dc4 pm4 cd4 ct4 oc5 kV5 dc5 pm5 cd5 ct5 oc6 kV6 dc6 pm6 cd6 ct6 oc7 kV7 dc7 pm7 cd7 ct7 oc8 kV8 dc8 pm8 cd8 ct8 oc9 kV9 dc9 pm9 cd9 ct9 oc10 kV10 dc10 pm10 cd10 ct10 oc11 kV11 dc11 pm11 cd11 ct11 oc12 kV12 dc12 pm12 cd12 ct12 oc13 kV13 dc13 pm13 cd13 ct13 oc14 kV14 dc14 pm14 cd14 ct14 oc15 kV15 dc15 pm15 cd15 ct15 oc_LI kV_LI dc_LI pm_LI cd_LI ct_LI : Value} {TD : Addr} {dT : Option Addr} {slT : Array (Option Value)} {cT : Value} {nT : Nat}
     {t_MOST_PIECES : Tok} {t_MOST_FIGURES : Tok}
    (a_L : PySem.W.nsIn K mainGlobals "Line" = some (some (.ref C)))
    (a0 : PySem.W.nsIn K mainGlobals "refuse_lengths" = some (some (.ref f0))) (l0 : K.lookup f0 = some ⟨oc0, od0, .func (PySem.W.fnOf "refuse_lengths" "refuse_lengths" (Jk sRefL) (Jf sRefL) (J6 sRefL) .none kV0 dc0 pm0 an0 cd0 ct0), sl0⟩) (c0 : PySem.W.codeIn K cd0 "refuse_lengths" = true) (k0 : PySem.W.keepIn K (.ref f0) = true)
    (a1 : PySem.W.nsIn K mainGlobals "refuse_order" = some (some (.ref f1))) (l1 : K.lookup f1 = some ⟨oc1, od1, .func (PySem.W.fnOf "refuse_order" "refuse_order" (Jk sRefO) (Jf sRefO) (J6 sRefO) .none kV1 dc1 pm1 an1 cd1 ct1), sl1⟩) (c1 : PySem.W.codeIn K cd1 "refuse_order" = true) (k1 : PySem.W.keepIn K (.ref f1) = true)
    (a2 : PySem.W.nsIn K mainGlobals "refuse_turned" = some (some (.ref f2))) (l2 : K.lookup f2 = some ⟨oc2, od2, .func (PySem.W.fnOf "refuse_turned" "refuse_turned" (Jk sRefT) (Jf sRefT) (J6 sRefT) .none kV2 dc2 pm2 an2 cd2 ct2), sl2⟩) (c2 : PySem.W.codeIn K cd2 "refuse_turned" = true) (k2 : PySem.W.keepIn K (.ref f2) = true)
    (a3 : PySem.W.nsIn K mainGlobals "turns_told" = some (some (.ref f3))) (l3 : K.lookup f3 = some ⟨oc3, od3, .func (PySem.W.fnOf "turns_told" "turns_told" (Jk sTold) (Jf sTold) (J6 sTold) .none kV3 dc3 pm3 an3 cd3 ct3), sl3⟩) (c3 : PySem.W.codeIn K cd3 "turns_told" = true) (k3 : PySem.W.keepIn K (.ref f3) = true)
    (a4 : PySem.W.nsIn K mainGlobals "first_places" = some (some (.ref f4))) (l4 : K.lookup f4 = some ⟨oc4, od4, .func (PySem.W.fnOf "first_places" "first_places" (Jk sFirst) (Jf sFirst) (J6 sFirst) .none kV4 dc4 pm4 an4 cd4 ct4), sl4⟩) (c4 : PySem.W.codeIn K cd4 "first_places" = true) (k4 : PySem.W.keepIn K (.ref f4) = true)
    (a5 : PySem.W.nsIn K mainGlobals "is_number" = some (some (.ref f5))) (l5 : K.lookup f5 = some ⟨oc5, od5, .func (PySem.W.fnOf "is_number" "is_number" (Jk sIsNum) (Jf sIsNum) (J6 sIsNum) .none kV5 dc5 pm5 an5 cd5 ct5), sl5⟩) (c5 : PySem.W.codeIn K cd5 "is_number" = true) (k5 : PySem.W.keepIn K (.ref f5) = true)
    (a6 : PySem.W.nsIn K mainGlobals "without_turn" = some (some (.ref f6))) (l6 : K.lookup f6 = some ⟨oc6, od6, .func (PySem.W.fnOf "without_turn" "without_turn" (Jk sNoT) (Jf sNoT) (J6 sNoT) .none kV6 dc6 pm6 an6 cd6 ct6), sl6⟩) (c6 : PySem.W.codeIn K cd6 "without_turn" = true) (k6 : PySem.W.keepIn K (.ref f6) = true)
    (a7 : PySem.W.nsIn K mainGlobals "is_length_row" = some (some (.ref f7))) (l7 : K.lookup f7 = some ⟨oc7, od7, .func (PySem.W.fnOf "is_length_row" "is_length_row" (Jk J2b) (Jf J2b) (J6 J2b) .none kV7 dc7 pm7 an7 cd7 ct7), sl7⟩) (c7 : PySem.W.codeIn K cd7 "is_length_row" = true) (k7 : PySem.W.keepIn K (.ref f7) = true)
    (a8 : PySem.W.nsIn K mainGlobals "is_laid_row" = some (some (.ref f8))) (l8 : K.lookup f8 = some ⟨oc8, od8, .func (PySem.W.fnOf "is_laid_row" "is_laid_row" (Jk J1h) (Jf J1h) (J6 J1h) .none kV8 dc8 pm8 an8 cd8 ct8), sl8⟩) (c8 : PySem.W.codeIn K cd8 "is_laid_row" = true) (k8 : PySem.W.keepIn K (.ref f8) = true)
    (a9 : PySem.W.nsIn K mainGlobals "refuse_rows" = some (some (.ref f9))) (l9 : K.lookup f9 = some ⟨oc9, od9, .func (PySem.W.fnOf "refuse_rows" "refuse_rows" (Jk J1g) (Jf J1g) (J6 J1g) .none kV9 dc9 pm9 an9 cd9 ct9), sl9⟩) (c9 : PySem.W.codeIn K cd9 "refuse_rows" = true) (k9 : PySem.W.keepIn K (.ref f9) = true)
    (a10 : PySem.W.nsIn K mainGlobals "read" = some (some (.ref f10))) (l10 : K.lookup f10 = some ⟨oc10, od10, .func (PySem.W.fnOf "read" "read" (Jk sRead) (Jf sRead) (J6 sRead) .none kV10 dc10 pm10 an10 cd10 ct10), sl10⟩) (c10 : PySem.W.codeIn K cd10 "read" = true) (k10 : PySem.W.keepIn K (.ref f10) = true)
    (a11 : PySem.W.nsIn K mainGlobals "_law_cell" = some (some (.ref f11))) (l11 : K.lookup f11 = some ⟨oc11, od11, .func (PySem.W.fnOf "_law_cell" "_law_cell" (Jk sCell) (Jf sCell) (J6 sCell) .none kV11 dc11 pm11 an11 cd11 ct11), sl11⟩) (c11 : PySem.W.codeIn K cd11 "_law_cell" = true) (k11 : PySem.W.keepIn K (.ref f11) = true)
    (a12 : PySem.W.nsIn K mainGlobals "_law_drawn" = some (some (.ref f12))) (l12 : K.lookup f12 = some ⟨oc12, od12, .func (PySem.W.fnOf "_law_drawn" "_law_drawn" (Jk sDrawn) (Jf sDrawn) (J6 sDrawn) .none kV12 dc12 pm12 an12 cd12 ct12), sl12⟩) (c12 : PySem.W.codeIn K cd12 "_law_drawn" = true) (k12 : PySem.W.keepIn K (.ref f12) = true)
    (a13 : PySem.W.nsIn K mainGlobals "_law_lengths" = some (some (.ref f13))) (l13 : K.lookup f13 = some ⟨oc13, od13, .func (PySem.W.fnOf "_law_lengths" "_law_lengths" (Jk J11) (Jf J11) (J6 J11) .none kV13 dc13 pm13 an13 cd13 ct13), sl13⟩) (c13 : PySem.W.codeIn K cd13 "_law_lengths" = true) (k13 : PySem.W.keepIn K (.ref f13) = true)
    (a14 : PySem.W.nsIn K mainGlobals "_law_order" = some (some (.ref f14))) (l14 : K.lookup f14 = some ⟨oc14, od14, .func (PySem.W.fnOf "_law_order" "_law_order" (Jk J2a) (Jf J2a) (J6 J2a) .none kV14 dc14 pm14 an14 cd14 ct14), sl14⟩) (c14 : PySem.W.codeIn K cd14 "_law_order" = true) (k14 : PySem.W.keepIn K (.ref f14) = true)
    (a15 : PySem.W.nsIn K mainGlobals "law" = some (some (.ref f15))) (l15 : K.lookup f15 = some ⟨oc15, od15, .func (PySem.W.fnOf "law" "law" (Jk sLaw) (Jf sLaw) (J6 sLaw) .none kV15 dc15 pm15 an15 cd15 ct15), sl15⟩) (c15 : PySem.W.codeIn K cd15 "law" = true) (k15 : PySem.W.keepIn K (.ref f15) = true)
    (am_LI : PySem.W.findIn K (.ref C) "__init__" = some (some (.ref f_LI))) (im_LI : PySem.W.isFn K (.ref f_LI) = true) (lm_LI : K.lookup f_LI = some ⟨oc_LI, od_LI, .func (PySem.W.fnOf "__init__" "Line.__init__" (Jk sInit) (Jf sInit) (J6 sInit) (.ref TD) kV_LI dc_LI pm_LI an_LI cd_LI ct_LI), sl_LI⟩) (cm_LI : PySem.W.codeIn K cd_LI "Line.__init__" = true) (km_LI : PySem.W.keepIn K (.ref f_LI) = true)
    (lT : K.lookup TD = some ⟨cT, dT, .seq #[.none] nT, slT⟩)
    (pg_L : PySem.W.plainGet K C Str.empty = true) (hd_L : PySem.W.hasDictIn K C = true) (po_L : PySem.W.plainOver K C = true) (sa_L : PySem.W.findIn K (.ref C) "__setattr__" = some (some (.builtin "object.__setattr__")))
    (mk_L : PySem.W.makesIn K C = true) (kc_L : PySem.W.keepIn K (.ref C) = true)
    (n_L_lengths : PySem.W.findIn K (.ref C) "lengths" = some none)
    (n_L_order : PySem.W.findIn K (.ref C) "order" = some none)
    (n_L_turned : PySem.W.findIn K (.ref C) "turned" = some none)
    (n_L_starts : PySem.W.findIn K (.ref C) "starts" = some none)
    (n_L_laid : PySem.W.findIn K (.ref C) "laid" = some none)
    (n_L_size : PySem.W.findIn K (.ref C) "size" = some none)
    (z_len : PySem.W.nsIn K mainGlobals "len" = some none)
    (z_min : PySem.W.nsIn K mainGlobals "min" = some none)
    (z_sum : PySem.W.nsIn K mainGlobals "sum" = some none)
    (z_sorted : PySem.W.nsIn K mainGlobals "sorted" = some none)
    (z_list : PySem.W.nsIn K mainGlobals "list" = some none)
    (z_range : PySem.W.nsIn K mainGlobals "range" = some none)
    (z_tuple : PySem.W.nsIn K mainGlobals "tuple" = some none)
    (z_isinstance : PySem.W.nsIn K mainGlobals "isinstance" = some none)
    (z_int : PySem.W.nsIn K mainGlobals "int" = some none)
    (z_str : PySem.W.nsIn K mainGlobals "str" = some none)
    (z_all : PySem.W.nsIn K mainGlobals "all" = some none)
    (z_ValueError : PySem.W.nsIn K mainGlobals "ValueError" = some none)
    (v_MOST_PIECES : PySem.W.nsIn K mainGlobals "MOST_PIECES" = some (some (.int 24 t_MOST_PIECES)))
    (v_MOST_FIGURES : PySem.W.nsIn K mainGlobals "MOST_FIGURES" = some (some (.int 31 t_MOST_FIGURES)))
    (aLE : PySem.W.nsIn K mainGlobals "LineError" = some (some (.ref CL)))
    (sget : PySem.W.specialIn K (.builtin "object.__class__") "__get__" = some (some (.builtin "getset_descriptor.__get__")))
    (stk : PySem.W.takesIn K (.builtin "object.__class__") = some true)
    (a_q0 : PySem.W.nsIn K mainGlobals "BadLengths" = some (some (.ref q0)))
    (x_q0 : PySem.W.excIn K q0 bmV "ValueError.__new__" = true)
    (a_q1 : PySem.W.nsIn K mainGlobals "BadOrder" = some (some (.ref q1)))
    (x_q1 : PySem.W.excIn K q1 bmV "ValueError.__new__" = true)
    (a_q2 : PySem.W.nsIn K mainGlobals "BadTurned" = some (some (.ref q2)))
    (x_q2 : PySem.W.excIn K q2 bmV "ValueError.__new__" = true)
    (a_q3 : PySem.W.nsIn K mainGlobals "BadText" = some (some (.ref q3)))
    (e0 : PySem.W.exmOne K (.ref q0) (.ref CL) = some true)
    (x0ga : PySem.W.findIn K (.ref q0) "__getattribute__" = some (some (.builtin "BaseException.__getattribute__")))
    (x0no : PySem.W.findIn K (.ref q0) "__getattr__" = some none)
    (x0cl : PySem.W.findIn K (.ref q0) "__class__" = some (some (.builtin "object.__class__")))
    (x0mo : PySem.W.mroIn K q0 (.type "object") = some true)
    (x0mb : PySem.W.mroIn K q0 (.type "BaseException") = some true)
    (x0hd : PySem.W.hasDictIn K q0 = true)
    (kk00 : PySem.W.kitOne K (.ref q0) (.ref q0) = some true)
    (kk01 : PySem.W.kitOne K (.ref q0) (.ref q1) = some false)
    (kk03 : PySem.W.kitOne K (.ref q0) (.ref q3) = some false)
    (kk0v : PySem.W.kitOne K (.ref q0) (.type "ValueError") = some true)
    (e1 : PySem.W.exmOne K (.ref q1) (.ref CL) = some true)
    (x1ga : PySem.W.findIn K (.ref q1) "__getattribute__" = some (some (.builtin "BaseException.__getattribute__")))
    (x1no : PySem.W.findIn K (.ref q1) "__getattr__" = some none)
    (x1cl : PySem.W.findIn K (.ref q1) "__class__" = some (some (.builtin "object.__class__")))
    (x1mo : PySem.W.mroIn K q1 (.type "object") = some true)
    (x1mb : PySem.W.mroIn K q1 (.type "BaseException") = some true)
    (x1hd : PySem.W.hasDictIn K q1 = true)
    (kk10 : PySem.W.kitOne K (.ref q1) (.ref q0) = some false)
    (kk11 : PySem.W.kitOne K (.ref q1) (.ref q1) = some true)
    (kk13 : PySem.W.kitOne K (.ref q1) (.ref q3) = some false)
    (kk1v : PySem.W.kitOne K (.ref q1) (.type "ValueError") = some true)
    (n0 : PySem.W.kitOne K (.type "NoneType") (.ref q0) = some false)
    (n1 : PySem.W.kitOne K (.type "NoneType") (.ref q1) = some false)
    (n3 : PySem.W.kitOne K (.type "NoneType") (.ref q3) = some false)
    : ∃ fd : FuncData, (∀ (s : Shared) (v : Value), BindsTo s fd ⟨[v], []⟩ [("script", v)]) ∧ ∀ base : Heap, K.In base → base.Ns mainGlobals mg → FnOk l.prog w K mg base CX0 7 fa fd ["script"] (spLaw K) := by
  have e := hfa.symm.trans (PySem.W.mg_of X G a15)
  cases e
  have F0 := J14 (st := sRefL) l0 c0 k0
  have m0 := PySem.W.mg_of X G a0
  have b0 := F0.binds (ps := ["lengths"]) fun _ _ _ _ _ _ us hl => match us, hl with | [_], _ => rfl
  have F1 := J14 (st := sRefO) l1 c1 k1
  have m1 := PySem.W.mg_of X G a1
  have b1 := F1.binds (ps := ["order", "pieces"]) fun _ _ _ _ _ _ us hl => match us, hl with | [_, _], _ => rfl
  have F2 := J14 (st := sRefT) l2 c2 k2
  have m2 := PySem.W.mg_of X G a2
  have b2 := F2.binds (ps := ["turned", "pieces"]) fun _ _ _ _ _ _ us hl => match us, hl with | [_, _], _ => rfl
  have F3 := J14 (st := sTold) l3 c3 k3
  have m3 := PySem.W.mg_of X G a3
  have b3 := F3.binds (ps := ["turned", "pieces"]) fun _ _ _ _ _ _ us hl => match us, hl with | [_, _], _ => rfl
  have F4 := J14 (st := sFirst) l4 c4 k4
  have m4 := PySem.W.mg_of X G a4
  have b4 := F4.binds (ps := ["lengths", "order"]) fun _ _ _ _ _ _ us hl => match us, hl with | [_, _], _ => rfl
  have F5 := J14 (st := sIsNum) l5 c5 k5
  have m5 := PySem.W.mg_of X G a5
  have b5 := F5.binds (ps := ["word", "figures"]) fun _ _ _ _ _ _ us hl => match us, hl with | [_, _], _ => rfl
  have F6 := J14 (st := sNoT) l6 c6 k6
  have m6 := PySem.W.mg_of X G a6
  have b6 := F6.binds (ps := ["word"]) fun _ _ _ _ _ _ us hl => match us, hl with | [_], _ => rfl
  have F7 := J14 (st := J2b) l7 c7 k7
  have m7 := PySem.W.mg_of X G a7
  have b7 := F7.binds (ps := ["row"]) fun _ _ _ _ _ _ us hl => match us, hl with | [_], _ => rfl
  have F8 := J14 (st := J1h) l8 c8 k8
  have m8 := PySem.W.mg_of X G a8
  have b8 := F8.binds (ps := ["row"]) fun _ _ _ _ _ _ us hl => match us, hl with | [_], _ => rfl
  have F9 := J14 (st := J1g) l9 c9 k9
  have m9 := PySem.W.mg_of X G a9
  have b9 := F9.binds (ps := ["rows"]) fun _ _ _ _ _ _ us hl => match us, hl with | [_], _ => rfl
  have F10 := J14 (st := sRead) l10 c10 k10
  have m10 := PySem.W.mg_of X G a10
  have b10 := F10.binds (ps := ["text"]) fun _ _ _ _ _ _ us hl => match us, hl with | [_], _ => rfl
  have F11 := J14 (st := sCell) l11 c11 k11
  have m11 := PySem.W.mg_of X G a11
  have b11 := F11.binds (ps := ["script", "k"]) fun _ _ _ _ _ _ us hl => match us, hl with | [_, _], _ => rfl
  have F12 := J14 (st := sDrawn) l12 c12 k12
  have m12 := PySem.W.mg_of X G a12
  have b12 := F12.binds (ps := ["script", "at", "many", "top"]) fun _ _ _ _ _ _ us hl => match us, hl with | [_, _, _, _], _ => rfl
  have F13 := J14 (st := J11) l13 c13 k13
  have m13 := PySem.W.mg_of X G a13
  have b13 := F13.binds (ps := ["lengths", "way", "cell"]) fun _ _ _ _ _ _ us hl => match us, hl with | [_, _, _], _ => rfl
  have F14 := J14 (st := J2a) l14 c14 k14
  have m14 := PySem.W.mg_of X G a14
  have b14 := F14.binds (ps := ["order", "way", "cell"]) fun _ _ _ _ _ _ us hl => match us, hl with | [_, _, _], _ => rfl
  have F15 := J14 (st := sLaw) l15 c15 k15
  have m15 := PySem.W.mg_of X G a15
  have b15 := F15.binds (ps := ["script"]) fun _ _ _ _ _ _ us hl => match us, hl with | [_], _ => rfl
  have mg_L := PySem.W.mg_of X G a_L
  have cl_L : Cls K C := ⟨pg_L, hd_L, po_L, sa_L⟩
  have F_LI : FunD K "__init__" "Line.__init__" sInit f_LI _ TD := ⟨⟨oc_LI, od_LI, kV_LI, dc_LI, pm_LI, an_LI, cd_LI, ct_LI, sl_LI, rfl, lm_LI, cm_LI⟩, km_LI⟩
  obtain ⟨b_LI, b1_LI⟩ := dflt_binds F_LI lT ["self", "lengths", "order", "turned"] (fun _ _ _ _ _ _ us hl => match us, hl with | [_, _, _, _], _ => ⟨_, rfl, rfl⟩) (fun _ _ _ _ _ _ us hl => match us, (show us.length = 3 by simpa using hl) with | [_, _, _], _ => ⟨_, rfl, rfl⟩)
  have T0 : Txt K mg := ⟨PySem.W.mg_none_of X G z_len, PySem.W.mg_none_of X G z_min, PySem.W.mg_none_of X G z_sum, PySem.W.mg_none_of X G z_sorted, PySem.W.mg_none_of X G z_list, PySem.W.mg_none_of X G z_range, PySem.W.mg_none_of X G z_tuple, ⟨_, PySem.W.mg_of X G v_MOST_PIECES⟩⟩
  have T : TxtR mg := ⟨T0.len, T0.sum, T0.tuple, T0.list, T0.range⟩
  have TC : TxtC K mg C := ⟨cl_L, n_L_lengths, n_L_order, n_L_turned, n_L_starts, n_L_laid, n_L_size⟩
  have hstr := PySem.W.mg_none_of X G z_str
  have TX0 : TxtX K mg "BadLengths" q0 := ⟨PySem.W.mg_of X G a_q0, x_q0⟩
  have TX1 : TxtX K mg "BadOrder" q1 := ⟨PySem.W.mg_of X G a_q1, x_q1⟩
  have TX2 : TxtX K mg "BadTurned" q2 := ⟨PySem.W.mg_of X G a_q2, x_q2⟩
  refine ⟨PySem.W.fnOf "law" "law" (Jk sLaw) (Jf sLaw) (J6 sLaw) .none kV15 dc15 pm15 an15 cd15 ct15, fun s v => .of_eq rfl, fun base _ _ => ?_⟩
  have GF := ok_first (P := l.prog) (w := w) (base := base) F4 T
  have GI := ok_initX (P := l.prog) (w := w) (base := base) F_LI T0 TC (ok_refLX F0 T0 TX0) b0 m0 k0 (ok_refOX F1 T0 TX1) b1 m1 k1 (ok_toldX F3 T0 (ok_refTX F2 T0 TX2) b2 m2 k2) b3 m3 k3 GF b4 m4 k4
  have GIN := ok_isNum (P := l.prog) (w := w) (base := base) F5 T (PySem.W.mg_none_of X G z_all)
  have GNT := ok_noT (P := l.prog) (w := w) (mg := mg) (base := base) F6
  have GLR := ok_lenRow F7 T (PySem.W.mg_none_of X G z_all) ⟨_, PySem.W.mg_of X G v_MOST_FIGURES⟩ GIN b5 m5 k5
  have GDR := ok_laidRow F8 T (PySem.W.mg_none_of X G z_all) ⟨_, PySem.W.mg_of X G v_MOST_FIGURES⟩ GIN b5 m5 k5 GNT b6 m6 k6
  have GRR := ok_refRows F9 T GLR b7 m7 k7 GDR b8 m8 k8
  have GRd := ok_readX F10 T (PySem.W.mg_none_of X G z_int) GRR b9 m9 k9 GNT b6 m6 k6 ⟨mk_L, am_LI, im_LI, kc_L⟩ GI b_LI mg_L
  have GC := ok_cell (P := l.prog) (w := w) (base := base) F11 T
  have GD := ok_drawnA F12 T GC b11 m11 k11
  have GLL := ok_lengthsL (P := l.prog) (w := w) (base := base) F13 T
  have GOL := ok_orderL (P := l.prog) (w := w) (base := base) F14 T
  have X0 : XCls K q0 := ⟨x0ga, x0no, x0cl, sget, stk, x0mo, x0mb, x0hd⟩
  have X1 : XCls K q1 := ⟨x1ga, x1no, x1cl, sget, stk, x1mo, x1mb, x1hd⟩
  have TX : Tx10 K mg CL q0 q1 q3 := ⟨(PySem.W.mg_none_of X G z_isinstance), (PySem.W.mg_none_of X G z_ValueError), (PySem.W.mg_of X G aLE), TX0.mg, TX1.mg, (PySem.W.mg_of X G a_q3), e0, e1, X0, X1, kk00, kk01, kk03, kk0v, kk10, kk11, kk13, kk1v, n0, n1, n3⟩
  exact ok_law F15 T TC TX hstr (PySem.W.mg_none_of X G z_int) GC b11 m11 k11 GD b12 m12 k12 GLL b13 m13 k13 GOL b14 m14 k14 GRd b10 m10 k10
theorem walk {l:PySem.W.OpenLaw} {q:Program} {loose:List Str} {XP:(Str→Option Value)→Heap→Prop} {YP:World→Heap→Prop} {d:DefRec} {K:Params→PySem.W.Frag} (hn:l.most=some 63) (hdf:d.params.defaults=[])
  (hY:∀ (w:World) (h:Heap),YP w h→(K w.params).In h)
  (F:∀ (w:World) (mg:Str→Option Value) (fa:Addr) (h:Heap),(K w.params).In h→h.Ns mainGlobals mg→mg d.name=some (.ref fa)→
   ∃ fd:FuncData,(∀ (s:Shared) (u:Value),BindsTo s fd ⟨[u],[]⟩ [("script",u)])∧∀ base:Heap,(K w.params).In base→base.Ns mainGlobals mg→FnOk l.prog w (K w.params) mg base CX0 7 fa fd ["script"] (spLaw (K w.params))) :
  PySem.W.WalkO q loose XP YP l.row.toRowW d [] (fun f vs=>PySem.call f vs) :=
 L2.walk_of (n:=63) (k:=7) (x:="script") (CX:=fun _=>CX0) (sp:=fun w=>spLaw (K w.params)) hn (by decide) hdf ⟨rfl,by decide,by decide⟩ hY F (fun _ _ a ns hl _ hS=>⟨a,ns,rfl,hS,hl,fun _=>rfl⟩) fun _ _ _ _ _ z=>z
end R10
open PySem PySem.W PyProof.Rows
namespace PySem.W.Fast
def tw4477577818197222871:=()
def tw14716112135227371603:=()
def tw9203320568130485728:=()
def tw17967288742079147178:=()
def tw9728102818268478204:=()
def tw16332056355974497573:=()
def tw8865966423780248983:=()
end PySem.W.Fast
namespace PySem.W.Fast
def tw4999412299860427090:=()
def tw7224549191685961257:=()
def tw14427108534065136193:=()
def tw3580490341422804202:=()
def tw11812586953928301658:=()
def tw4508149303764179225:=()
def tw13299762224309555618:=()
def tw2579905483809182658:=()
def tw7691923820229560589:=()
def tw17725500316300382607:=()
def tw1823515296908261356:=()
def tw10672197481696412119:=()
def tw17946132505516905378:=()
def tw14764046129757740520:=()
def tw8390469685580628322:=()
def tw10565676409428043094:=()
def tw12120226216061228951:=()
def tw8991202746529580574:=()
def tw5285633737969026880:=()
def tw13440468936946133392:=()
def tw7779581301475962372:=()
def tw4771594692785840198:=()
def tw16385716168635108928:=()
def tw8027127772550942535:=()
def tw14921248610108147358:=()
def tw11458627766232136791:=()
def tw9385732030629870693:=()
def tw5625512896933933915:=()
def tw6154542973894739639:=()
def tw14062145699556975034:=()
def tw11695065929152755080:=()
def tw15819902672270321957:=()
def tw15676402608041182766:=()
def tw12009056074939477528:=()
def tw3749905570297981700:=()
def tw6147627876462596813:=()
def tw248230916430061933:=()
def tw4392457936577254985:=()
def tw18108437155060593892:=()
def tw15544386135546876088:=()
def tw3838151257972897552:=()
def tw15600408910855290466:=()
def tw8773454818728755624:=()
def tw1465608687106168797:=()
def tw9514249230410706238:=()
def tw1870860010485139475:=()
def tw13502466262446696146:=()
def tw14594098101837196921:=()
def tw17278226318440167662:=()
def tw11331148850709482605:=()
def tw11864788616020548550:=()
def tw5480943599488825270:=()
def tw16880728954627236501:=()
def tw11373352197345885839:=()
def tw1832978191071979134:=()
def tw12912943694858653299:=()
def tw291771884178473365:=()
def tw1736878295046708585:=()
def tw8564446693857859441:=()
def tw7532655738352286565:=()
def tw14590303524779937438:=()
def tw7553787085816873021:=()
def tw1065111825463725180:=()
def tw12116717706879095934:=()
def tw6926824056677968475:=()
def tw3617544638814471518:=()
def tw6447392678746216972:=()
def tw9893159213659904203:=()
def tw1519591227029935316:=()
def tw5442161698980422566:=()
def tw5137889481800258933:=()
def tw11478017206065957611:=()
def tw17741432868746536332:=()
def tw3488069582372940618:=()
def tw11055905838229307832:=()
def tw1919031556605689714:=()
def tw4802294413362877629:=()
def tw5746759000419101577:=()
def tw12610939577518653512:=()
def tw16407285666210393175:=()
def tw9679399817323844143:=()
def tw17545556577539197653:=()
def tw10302051456468026118:=()
def tw2400402974113402954:=()
def tw8453662612701639512:=()
def tw16869781315198281987:=()
def tw7345642305509985559:=()
def tw282758980647337524:=()
def tw2808248109231402195:=()
def tw3356786525455269397:=()
end PySem.W.Fast
set_option maxRecDepth 100000 in
set_option maxHeartbeats 0 in
theorem PySem.Challenge.cw_relaid_k10_lines_refused_as_read_holds : PySem.Challenge.rw_relaid_k10_lines_refused_as_read.Holds := by
  w_on; o_law; k_head; (case hw => w_witness2)
  k_fill
  refine R10.walk (l := PySem.Challenge.rw_relaid_k10_lines_refused_as_read) rfl rfl (fun w h Y => PySem.W.kIn_of Y) ?F
  case F =>
    intro w mg fa h KX G hmg
    refine' R10.all_mk KX G hmg ?a_L ?a0 ?l0 ?c0 ?k0 ?a1 ?l1 ?c1 ?k1 ?a2 ?l2 ?c2 ?k2 ?a3 ?l3 ?c3 ?k3 ?a4 ?l4 ?c4 ?k4 ?a5 ?l5 ?c5 ?k5 ?a6 ?l6 ?c6 ?k6 ?a7 ?l7 ?c7 ?k7 ?a8 ?l8 ?c8 ?k8 ?a9 ?l9 ?c9 ?k9 ?a10 ?l10 ?c10 ?k10 ?a11 ?l11 ?c11 ?k11 ?a12 ?l12 ?c12 ?k12 ?a13 ?l13 ?c13 ?k13 ?a14 ?l14 ?c14 ?k14 ?a15 ?l15 ?c15 ?k15 ?am_LI ?im_LI ?lm_LI ?cm_LI ?km_LI ?lT ?pg_L ?hd_L ?po_L ?sa_L ?mk_L ?kc_L ?n_L_lengths ?n_L_order ?n_L_turned ?n_L_starts ?n_L_laid ?n_L_size ?z_len ?z_min ?z_sum ?z_sorted ?z_list ?z_range ?z_tuple ?z_isinstance ?z_int ?z_str ?z_all ?z_ValueError ?v_MOST_PIECES ?v_MOST_FIGURES ?aLE ?sget ?stk ?a_q0 ?x_q0 ?a_q1 ?x_q1 ?a_q2 ?x_q2 ?a_q3 ?e0 ?x0ga ?x0no ?x0cl ?x0mo ?x0mb ?x0hd ?kk00 ?kk01 ?kk03 ?kk0v ?e1 ?x1ga ?x1no ?x1cl ?x1mo ?x1mb ?x1hd ?kk10 ?kk11 ?kk13 ?kk1v ?n0 ?n1 ?n3
    (case a_L => k_is)
    (case a0 => k_is)
    (case l0 => k_is)
    (case c0 => k_is)
    (case k0 => k_is)
    (case a1 => k_is)
    (case l1 => k_is)
    (case c1 => k_is)
    (case k1 => k_is)
    (case a2 => k_is)
    (case l2 => k_is)
    (case c2 => k_is)
    (case k2 => k_is)
    (case a3 => k_is)
    (case l3 => k_is)
    (case c3 => k_is)
    (case k3 => k_is)
    (case a4 => k_is)
    (case l4 => k_is)
    (case c4 => k_is)
    (case k4 => k_is)
    (case a5 => k_is)
    (case l5 => k_is)
    (case c5 => k_is)
    (case k5 => k_is)
    (case a6 => k_is)
    (case l6 => k_is)
    (case c6 => k_is)
    (case k6 => k_is)
    (case a7 => k_is)
    (case l7 => k_is)
    (case c7 => k_is)
    (case k7 => k_is)
    (case a8 => k_is)
    (case l8 => k_is)
    (case c8 => k_is)
    (case k8 => k_is)
    (case a9 => k_is)
    (case l9 => k_is)
    (case c9 => k_is)
    (case k9 => k_is)
    (case a10 => k_is)
    (case l10 => k_is)
    (case c10 => k_is)
    (case k10 => k_is)
    (case a11 => k_is)
    (case l11 => k_is)
    (case c11 => k_is)
    (case k11 => k_is)
    (case a12 => k_is)
    (case l12 => k_is)
    (case c12 => k_is)
    (case k12 => k_is)
    (case a13 => k_is)
    (case l13 => k_is)
    (case c13 => k_is)
    (case k13 => k_is)
    (case a14 => k_is)
    (case l14 => k_is)
    (case c14 => k_is)
    (case k14 => k_is)
    (case a15 => k_is)
    (case l15 => k_is)
    (case c15 => k_is)
    (case k15 => k_is)
    (case am_LI => k_is)
    (case im_LI => k_is)
    (case lm_LI => k_is)
    (case cm_LI => k_is)
    (case km_LI => k_is)
    (case lT => k_is)
    (case pg_L => k_is)
    (case hd_L => k_is)
    (case po_L => k_is)
    (case sa_L => k_is)
    (case mk_L => k_is)
    (case kc_L => k_is)
    (case n_L_lengths => k_is)
    (case n_L_order => k_is)
    (case n_L_turned => k_is)
    (case n_L_starts => k_is)
    (case n_L_laid => k_is)
    (case n_L_size => k_is)
    (case z_len => k_is)
    (case z_min => k_is)
    (case z_sum => k_is)
    (case z_sorted => k_is)
    (case z_list => k_is)
    (case z_range => k_is)
    (case z_tuple => k_is)
    (case z_isinstance => k_is)
    (case z_int => k_is)
    (case z_str => k_is)
    (case z_all => k_is)
    (case z_ValueError => k_is)
    (case v_MOST_PIECES => k_is)
    (case v_MOST_FIGURES => k_is)
    (case aLE => k_is)
    (case sget => k_is)
    (case stk => k_is)
    (case a_q0 => k_is)
    (case x_q0 => k_exc)
    (case a_q1 => k_is)
    (case x_q1 => k_exc)
    (case a_q2 => k_is)
    (case x_q2 => k_exc)
    (case a_q3 => k_is)
    (case e0 => kts_exm)
    (case x0ga => k_is)
    (case x0no => k_is)
    (case x0cl => k_is)
    (case x0mo => k_is)
    (case x0mb => k_is)
    (case x0hd => k_is)
    (case kk00 => kit_is)
    (case kk01 => kit_is)
    (case kk03 => kit_is)
    (case kk0v => kit_is)
    (case e1 => kts_exm)
    (case x1ga => k_is)
    (case x1no => k_is)
    (case x1cl => k_is)
    (case x1mo => k_is)
    (case x1mb => k_is)
    (case x1hd => k_is)
    (case kk10 => kit_is)
    (case kk11 => kit_is)
    (case kk13 => kit_is)
    (case kk1v => kit_is)
    (case n0 => kit_is)
    (case n1 => kit_is)
    (case n3 => kit_is)
#print axioms PySem.Challenge.cw_relaid_k10_lines_refused_as_read_holds
