import PyProof.Rows.All
import Wide.All
import OpenK.AllK
import Wide.FinOn
import Lean
import PyProof.EqAt
import PyProof.EqKinds
import PyProof.TupleCall
import PySem.Challenge.RW_relaid_k25_whole_any_paper
set_option Elab.async false
set_option linter.all false
set_option maxRecDepth 100000
set_option maxHeartbeats 4000000
namespace L2
open PySem PySem.Spec PyProof.Rows
abbrev Key:=Sum Int Str
def keyIs:Key→Value→Bool
 | .inl k,v=>Value.isInt k v
 | .inr x,v=>Value.isStrOf x v
def keyH (w:World):Key→Int
 | .inl k=>hashInt k
 | .inr x=>hashStr w x
theorem J1a:∀ {k:Key} {v:Value},keyIs k v=true→(∃ i t,k=Sum.inl i∧v=Value.int i t)∨(∃ x t,k=Sum.inr x∧v=Value.str x t)
 | .inl i,v,h=>by
  obtain ⟨t,e⟩:=Value.isInt_shape (k:=i) (v:=v) h
  exact .inl ⟨i,t,rfl,e⟩
 | .inr x,v,h=>by
  obtain ⟨t,e⟩:=Value.isStrOf_shape (x:=x) (v:=v) h
  exact .inr ⟨x,t,rfl,e⟩
theorem key_ll (a b:Int):decide ((Sum.inl a:Key)=Sum.inl b)=(a == b):=by
 by_cases e:a=b
 ·subst e;simp
 ·have h:¬ (Sum.inl a:Key)=Sum.inl b:=fun q=>e (Sum.inl.inj q)
  rw [decide_eq_false h]
  exact (beq_eq_false_iff_ne.mpr e).symm
theorem key_rr (a b:Str):decide ((Sum.inr a:Key)=Sum.inr b)=decide (a=b):=by
 by_cases e:a=b
 ·subst e;simp
 ·have h:¬ (Sum.inr a:Key)=Sum.inr b:=fun q=>e (Sum.inr.inj q)
  rw [decide_eq_false h,decide_eq_false e]
theorem key_lr (a:Int) (b:Str):decide ((Sum.inl a:Key)=Sum.inr b)=false:=decide_eq_false (fun q=>nomatch q)
theorem key_rl (a:Str) (b:Int):decide ((Sum.inr a:Key)=Sum.inl b)=false:=decide_eq_false (fun q=>nomatch q)
def mixKind (prog:Program) (w:World):PySem.KeyKind prog w Key where
 is:=keyIs
 hash:=keyH w
 inj:=fun v a b ha hb=>by
  rcases J1a ha with ⟨i,t,rfl,rfl⟩ | ⟨x,t,rfl,rfl⟩
  ·rcases J1a hb with ⟨j,u,rfl,e⟩ | ⟨y,u,rfl,e⟩
   ·injection e with e1 _;rw [e1]
   ·exact nomatch e
  ·rcases J1a hb with ⟨j,u,rfl,e⟩ | ⟨y,u,rfl,e⟩
   ·exact nomatch e
   ·injection e with e1 _;rw [e1]
 byValue:=fun k v h=>by
  rcases J1a h with ⟨i,t,rfl,rfl⟩ | ⟨x,t,rfl,rfl⟩ <;> rfl
 pyHash:=fun hv h=>by
  rcases J1a hv with ⟨i,t,rfl,rfl⟩ | ⟨x,t,rfl,rfl⟩
  ·exact wpAny_pyHash_int h
  ·exact wpAny_pyHash_str h
 eqBool:=fun hu hv h=>by
  rcases J1a hu with ⟨i,t,rfl,rfl⟩ | ⟨x,t,rfl,rfl⟩
  ·rcases J1a hv with ⟨j,u,rfl,rfl⟩ | ⟨y,u,rfl,rfl⟩
   ·rw [key_ll] at h;exact wpAny_eqBool_int h
   ·rw [key_lr] at h;exact SeqAt.EqAt.int_str i t y u _ _ _ _ h
  ·rcases J1a hv with ⟨j,u,rfl,rfl⟩ | ⟨y,u,rfl,rfl⟩
   ·rw [key_rl] at h;exact SeqAt.EqAt.str_int x t j u _ _ _ _ h
   ·rw [key_rr] at h;exact wpAny_eqBool_str h
 «strs»:=fun k x t v h=>by
  rcases J1a h with ⟨i,u,rfl,e⟩ | ⟨y,u,rfl,e⟩
  ·exact nomatch e
  ·injection e with e1 _
   subst e1
   cases v <;> rfl
end L2
namespace L2
open PySem PySem.Spec PyProof.Rows
inductive V where
 | non | bl (b:Bool) | int (i:Int) | str (x:Str) | byt (b:Array UInt8) | flt (b:UInt64) | ref (a:Addr) | ty (n:String)
 deriving DecidableEq
def RelV:V→Value→Prop
 | .non,u=>u=Value.none
 | .bl b,u=>u=Value.bool b
 | .int i,u=>∃ t,u=Value.int i t
 | .str x,u=>∃ t,u=Value.str x t
 | .byt b,u=>∃ t,u=Value.bytes b t
 | .flt b,u=>∃ t,u=Value.float b t
 | .ref a,u=>u=Value.ref a
 | .ty n,u=>u=Value.type n
abbrev Vals:List V→List Value→Prop:=Paired RelV
theorem Vals.length {xs:List V} {us:List Value} (r:Vals xs us):xs.length=us.length:=Paired.length r
theorem Vals.get:∀ {xs:List V} {us:List Value} {i:Nat} {x:V},Vals xs us→xs[i]?=some x→∃ u,us[i]?=some u∧RelV x u
 | _,_,_,_,.nil,e=>by simp at e
 | _,_,0,_,.cons r _,e=>by simp at e;subst e;exact ⟨_,rfl,r⟩
 | _,_,i + 1,x,.cons _ t,e=>by
  obtain ⟨u,h1,h2⟩:=Vals.get (i:=i) (x:=x) t (by simpa using e)
  exact ⟨u,by simpa using h1,h2⟩
theorem Vals.set {x:V} {u:Value} (r:RelV x u):∀ {xs:List V} {us:List Value} (i:Nat),Vals xs us→Vals (xs.set i x) (us.set i u)
 | _,_,_,.nil=>.nil
 | _,_,0,.cons _ t=>.cons r t
 | _,_,i + 1,.cons q t=>.cons q (Vals.set r i t)
theorem Vals.append:∀ {xs ys:List V} {us ws:List Value},Vals xs us→Vals ys ws→Vals (xs ++ ys) (us ++ ws)
 | _,_,_,_,.nil,s=>s
 | _,_,_,_,.cons r t,s=>.cons r (Vals.append t s)
theorem Vals.take:∀ {xs:List V} {us:List Value} (n:Nat),Vals xs us→Vals (xs.take n) (us.take n)
 | _,_,0,_=>.nil
 | _,_,_ + 1,.nil=>.nil
 | _,_,n + 1,.cons r t=>.cons r (Vals.take n t)
theorem Vals.drop:∀ {xs:List V} {us:List Value} (n:Nat),Vals xs us→Vals (xs.drop n) (us.drop n)
 | _,_,0,r=>r
 | _,_,_ + 1,.nil=>.nil
 | _,_,n + 1,.cons _ t=>Vals.drop n t
def RelO:Option V→Option Value→Prop
 | some v,some u=>RelV v u
 | none,none=>True
 | _,_=>False
def KV {κ:Type}:List (κ × V)→List (κ × Value)→Prop:=Paired fun (p:κ × V) (q:κ × Value)=>p.1=q.1∧RelV p.2 q.2
def kV:Key→V
 | .inl i=>.int i
 | .inr x=>.str x
inductive HO where
  | lst (xs:List V)
  | tup (xs:List V)
  | dK (kvs:List (Key × V)) | dT (kvs:List (List Key × V))
  | set (S:Int→Bool) (n:Nat)
  | ins (C dx:Addr) (fs:List (Str × V))
  | own (x:Addr)
  | xd (fs:List (Str × V))
  | met (f x:Addr)
  | rng (lo hi:Int)
  | frz (o:Obj) (u:HO)
  | tbl (ps:Array Value)
  | ext (φ:Heap→Prop)
abbrev Hp:=Addr→Option HO
def upd (H:Hp) (a:Addr) (o:HO):Hp:=fun b=>if b=a then some o else H b
theorem J4 {H:Hp} {a:Addr} {o:HO}:upd H a o a=some o:=by unfold upd;rw [if_pos rfl]
theorem Jc {H:Hp} {a b:Addr} {o:HO} (h:b≠a):upd H a o b=H b:=by unfold upd;rw [if_neg h]
theorem upd_upd {H:Hp} {a:Addr} {o u:HO}:upd (upd H a o) a u=upd H a u:=by
 funext b;unfold upd;split <;> rfl
theorem ne_of {H:Hp} {a b:Addr} {o u:HO} (h:H a=some o) (h':H b=some u) (d:o≠u):a≠b:=by
 intro e;subst e;rw [h] at h';exact d (Option.some.inj h')
theorem Ja {H:Hp} {a b:Addr} {o:HO} (h:H a=some o) (h':H b=none):a≠b:=by
 intro e;subst e;rw [h] at h';cases h'
section
variable (P:Program) (w:World)
def TupX (h:Heap) (a:Addr) (items:Array Value):Prop:=∃ o,h.get? a=some o∧(o.cls=.type "tuple"∧o.dict=none)∧∃ n,o.data=.seq items n
theorem TupX.tup {h:Heap} {a:Addr} {items:Array Value} (x:TupX h a items):IsTup h a items:=let ⟨o,e,c,r⟩:=x;⟨o,e,c.1,r⟩
theorem TupX.lt {h:Heap} {a:Addr} {items:Array Value} (x:TupX h a items):a < h.objs.size:=let ⟨_,e,_⟩:=x;Heap.lt_size e
theorem TupX.new (h:Heap) (items:Array Value):TupX (h.push { cls:=.type "tuple",data:=.seq items }) h.objs.size items:=⟨_,Heap.get?_push_size _ rfl,⟨rfl,rfl⟩,_,rfl⟩
def ObjOk (H:Hp) (h:Heap) (a:Addr):HO→Prop
 | .lst xs=>xs.length≤sizeLine∧∃ (its:List Value) (n:Nat),Vals xs its∧h.get? a=some { cls:=.type "list",data:=.seq its.toArray n }
 | .tup xs=>xs.length≤sizeLine∧∃ its:List Value,Vals xs its∧TupX h a its.toArray
 | .dK kvs=>kvs.length≤sizeLine∧(a == sysModules)=false∧∃ vs,KV kvs vs∧h.DictOf (mixKind P w) a vs
 | .dT kvs=>kvs.length≤sizeLine∧(a == sysModules)=false∧∃ xs:List (List Key × Addr × Value),
   Paired (fun (p:List Key × V) (q:List Key × Addr × Value)=>p.1=q.1∧H q.2.1=some (.tup (p.1.map kV))∧RelV p.2 q.2.2) kvs xs∧
   ∃ o es ep,h.get? a=some o∧o.ExactDict∧o.data=.dict es ep∧es.toList=xs.map (entryOfKey (tupleKind (mixKind P w)))∧(xs.map (·.1)).Nodup
 | .set S n=>h.SetOf (intKind P w) a S n
 | .ins C dx fs=>H dx=some (.own a)∧fs.length≤1000∧dx≠a∧h.get? a=some (PySem.W.instObj C dx)∧
   ∃ mA,h.Ns1 dx mA∧(∀ f,RelO (fs.lookup f) (mA f))∧PySem.Within mA (fs.map (·.1))
 | .own _=>∃ o,h.get? a=some o
 | .xd fs=>∃ mA,h.Ns1 a mA∧∀ f,RelO (fs.lookup f) (mA f)
 | .rng lo hi=>∃ t u v,h.get? a=some { cls:=.type "range",data:=.fields #[.int lo t,.int hi u,.int 1 v] }
 | .frz o u=>h.get? a=some o∧ObjOk H h a u
 | .tbl ps=>h.get? a=some { cls:=.none,data:=.fields ps }
 | .met f x=>h.get? a=some (PySem.W.methodObj (.ref f) (.ref x))
 | .ext φ=>φ h∧(∃ o,h.get? a=some o)∧∀ h1 h2:Heap,φ h1→(∀ o,h1.get? a=some o→h2.get? a=some o)→φ h2
def HOk (H:Hp) (h:Heap):Prop:=∀ a o,H a=some o→ObjOk P w H h a o
end
section
variable {P:Program} {w:World} {H H':Hp} {h h':Heap} {a:Addr} {o:HO}
theorem ObjOk.lt (x:ObjOk P w H h a o):a < h.objs.size:=by
 cases o with
 | lst xs=>obtain ⟨_,_,_,_,e⟩:=x;exact Heap.lt_size e
 | tup xs=>obtain ⟨_,_,_,p⟩:=x;exact p.lt
 | dK kvs=>obtain ⟨_,_,_,_,o,_,_,e,_⟩:=x;exact Heap.lt_size e
 | dT kvs=>obtain ⟨_,_,_,_,o,_,_,e,_⟩:=x;exact Heap.lt_size e
 | set S n=>obtain ⟨o,_,_,_,e,_⟩:=x;exact Heap.lt_size e
 | ins C dx fs=>obtain ⟨_,_,_,e,_⟩:=x;exact Heap.lt_size e
 | own y=>obtain ⟨_,e⟩:=x;exact Heap.lt_size e
 | xd fs=>obtain ⟨_,⟨_,_,_,e,_⟩,_⟩:=x;exact Heap.lt_size e
 | rng lo hi=>obtain ⟨_,_,_,e⟩:=x;exact Heap.lt_size e
 | frz ob u=>obtain ⟨e,_⟩:=x;exact Heap.lt_size e
 | tbl ps=>exact Heap.lt_size (show h.get? a=some _ from x)
 | met f y=>exact Heap.lt_size (show h.get? a=some _ from x)
 | ext φ=>obtain ⟨_,⟨_,e⟩,_⟩:=x;exact Heap.lt_size e
theorem Paired.mapP {α β:Type} {F G:α→β→Prop}:∀ {l₁:List α} {l₂:List β},Paired F l₁ l₂→(∀ a b,F a b→G a b)→Paired G l₁ l₂
 | _,_,.nil,_=>.nil
 | _,_,.cons r t,f=>.cons (f _ _ r) (Paired.mapP t f)
theorem ObjOk.stay (x:ObjOk P w H h a o) (k:∀ b u,(b=a∨H b=some (.own a))→h.get? b=some u→h'.get? b=some u)
  (ho:∀ b,H b=some (.own a)→H' b=some (.own a)) (ht:∀ b xs,H b=some (.tup xs)→H' b=some (.tup xs)):ObjOk P w H' h' a o:=by
 induction o with
 | lst xs=>obtain ⟨z,its,n,r,e⟩:=x;exact ⟨z,its,n,r,k _ _ (.inl rfl) e⟩
 | tup xs=>obtain ⟨z,its,r,ob,e,c⟩:=x;exact ⟨z,its,r,ob,k _ _ (.inl rfl) e,c⟩
 | dK kvs=>obtain ⟨z,y,vs,r,ob,es,ep,e,c⟩:=x;exact ⟨z,y,vs,r,ob,es,ep,k _ _ (.inl rfl) e,c⟩
 | dT kvs =>
  obtain ⟨z,y,xs,r,ob,es,ep,e,c⟩:=x
  exact ⟨z,y,xs,Paired.mapP r fun p q z=>⟨z.1,ht _ _ z.2.1,z.2.2⟩,ob,es,ep,k _ _ (.inl rfl) e,c⟩
 | set S n=>obtain ⟨ob,es,ep,t,e,c⟩:=x;exact ⟨ob,es,ep,t,k _ _ (.inl rfl) e,c⟩
 | ins C dx fs =>
  obtain ⟨d,z,ne,e,mA,⟨od,es,ep,e2,c⟩,r⟩:=x
  exact ⟨ho _ d,z,ne,k _ _ (.inl rfl) e,mA,⟨od,es,ep,k _ _ (.inr d) e2,c⟩,r⟩
 | own y=>obtain ⟨ob,e⟩:=x;exact ⟨ob,k _ _ (.inl rfl) e⟩
 | xd fs=>obtain ⟨mA,⟨od,es,ep,e,c⟩,r⟩:=x;exact ⟨mA,⟨od,es,ep,k _ _ (.inl rfl) e,c⟩,r⟩
 | rng lo hi=>obtain ⟨t,u,v,e⟩:=x;exact ⟨t,u,v,k _ _ (.inl rfl) e⟩
 | frz ob u ih=>obtain ⟨e,q⟩:=x;exact ⟨k _ _ (.inl rfl) e,ih q⟩
 | tbl ps =>
  have e:h.get? a=some { cls:=.none,data:=.fields ps }:=x
  show h'.get? a=some { cls:=.none,data:=.fields ps }
  exact k a _ (.inl rfl) e
 | met f y =>
  have e:h.get? a=some (PySem.W.methodObj (.ref f) (.ref y)):=x
  show h'.get? a=some (PySem.W.methodObj (.ref f) (.ref y))
  exact k a _ (.inl rfl) e
 | ext φ=>obtain ⟨p,⟨o,e⟩,st⟩:=x;exact ⟨st _ _ p fun o q=>k _ _ (.inl rfl) q,⟨o,k _ _ (.inl rfl) e⟩,st⟩
theorem HOk.lt (x:HOk P w H h) (e:H a=some o):a < h.objs.size:=(x a o e).lt
theorem HOk.fresh (x:HOk P w H h) (e:h.objs.size≤a):H a=none:=by
 cases q:H a with
 | none=>rfl
 | some u=>exact absurd (Nat.lt_of_lt_of_le (x.lt q) e) (Nat.lt_irrefl _)
theorem HOk.kept (x:HOk P w H h) (k:∀ b u,h.get? b=some u→h'.get? b=some u):HOk P w H h':=fun a o e =>
 (x a o e).stay (fun b u _ q=>k b u q) (fun _ q=>q) fun _ _ q=>q
theorem HOk.laid (x:HOk P w H h) (k:∀ b u,h.get? b=some u→h'.get? b=some u) (hp:h.objs.size≤a) (new:ObjOk P w (upd H a o) h' a o):HOk P w (upd H a o) h':=fun b u e=>by
 have hn:=x.fresh hp
 by_cases hb:b=a
 ·subst hb;rw [J4] at e;cases e;exact new
 ·rw [Jc hb] at e
  exact (x b u e).stay (fun c v _ q=>k c v q) (fun c q=>by rw [Jc (Ja q hn)];exact q) fun c xs q=>by rw [Jc (Ja q hn)];exact q
end
def Rd (H:Hp) (a:Addr) (u:HO):Prop:=H a=some u∨∃ o,H a=some (.frz o u)
theorem Rd.of {H:Hp} {a:Addr} {u:HO} (h:H a=some u):Rd H a u:=.inl h
theorem Rd.ok {P:Program} {w:World} {H:Hp} {h:Heap} {a:Addr} {u:HO} (r:Rd H a u) (x:HOk P w H h):ObjOk P w H h a u:=by
 rcases r with r | ⟨o,r⟩
 ·exact x a u r
 ·obtain ⟨_,q⟩:=x a _ r
  exact q
def Mut:Option HO→Prop
 | some (.lst _)=>True
 | some (.dK _)=>True
 | some (.dT _)=>True
 | some (.set _ _)=>True
 | some (.ins _ _ _)=>True
 | some (.ext _)=>True
 | _=>False
section
variable {P:Program} {w:World} {H:Hp} {h h':Heap} {x e:Addr} {o':HO}
theorem HOk.write (ok:HOk P w H h) (mu:Mut (H x)) (he:e=x∨H e=some (.own x)) (k:∀ b u,b≠e→h.get? b=some u→h'.get? b=some u) (heo:∃ u,h'.get? e=some u)
  (new:ObjOk P w (upd H x o') h' x o'):HOk P w (upd H x o') h':=fun b u q=>by
 have nown:∀ c y,H c=some (.own y)→c≠x:=fun c y r z=>by subst z;rw [r] at mu;exact mu
 have ntup:∀ c xs,H c=some (.tup xs)→c≠x:=fun c xs r z=>by subst z;rw [r] at mu;exact mu
 by_cases hb:b=x
 ·subst hb;rw [J4] at q;cases q;exact new
 ·rw [Jc hb] at q
  by_cases hbe:b=e
  ·have q':H b=some (.own x):=by
    rcases he with z | z
    ·exact absurd (hbe.trans z) hb
    ·rw [hbe];exact z
   rw [q] at q';cases q'
   obtain ⟨v,hv⟩:=heo
   exact ⟨v,by rw [hbe];exact hv⟩
  ·refine (ok b u q).stay (fun c v hc r=>k c v ?_ r) (fun c r=>by rw [Jc (nown c b r)];exact r) fun c xs r=>by rw [Jc (ntup c xs r)];exact r
   rcases hc with rfl | hc
   ·exact hbe
   ·rintro rfl
    rcases he with z | z
    ·exact nown c b hc z
    ·rw [hc] at z;cases z;exact hb rfl
end
structure Un (fs ex:List Addr) (H H':Hp) (h h':Heap):Prop where
 keep:∀ b o,h.get? b=some o→H b=none→b ∉ fs→b ∉ ex→h'.get? b=some o
 slot:∀ b o,h.get? b=some o→H b=none→b∈fs→b ∉ ex→∃ sl,h'.get? b=some { o with slots:=sl }
 free:∀ b o,h.get? b=some o→H b=none→b ∉ ex→H' b=none
 there:∀ b o,h.get? b=some o→b ∉ ex→∃ o',h'.get? b=some o'
 tups:∀ b xs,H b=some (.tup xs)→H' b=some (.tup xs)
 frzs:∀ b o u,H b=some (.frz o u)→H' b=some (.frz o u)
 tbls:∀ b ps,H b=some (.tbl ps)→∃ more,H' b=some (.tbl (ps ++ more))
section
variable {fs fs' ex ex':List Addr} {H H1 H2:Hp} {h h1 h2 h':Heap} {a x e:Addr} {o:HO}
theorem Un.any (u:Un fs ex H H1 h h1) {b:Addr} {ob:Obj} (q:h.get? b=some ob) (n:H b=none) (hx:b ∉ ex):∃ sl,h1.get? b=some { ob with slots:=sl }:=by
 by_cases hb:b∈fs
 ·exact u.slot b ob q n hb hx
 ·exact ⟨ob.slots,u.keep b ob q n hb hx⟩
theorem Un.trans (a:Un fs ex H H1 h h1) (b:Un fs ex H1 H2 h1 h2):Un fs ex H H2 h h2 where
 keep:=fun c ob q n hc hx=>b.keep c ob (a.keep c ob q n hc hx) (a.free c ob q n hx) hc hx
 slot:=fun c ob q n hc hx=>by
  obtain ⟨sl,e1⟩:=a.slot c ob q n hc hx
  obtain ⟨sl',e2⟩:=b.slot c _ e1 (a.free c ob q n hx) hc hx
  exact ⟨sl',e2⟩
 free:=fun c ob q n hx=>by
  obtain ⟨o',e1⟩:=a.there c ob q hx
  exact b.free c o' e1 (a.free c ob q n hx) hx
 there:=fun c ob q hx=>by
  obtain ⟨o',e1⟩:=a.there c ob q hx
  exact b.there c o' e1 hx
 tups:=fun c xs q=>b.tups c xs (a.tups c xs q)
 frzs:=fun c ob xs q=>b.frzs c ob xs (a.frzs c ob xs q)
 tbls:=fun c ps q=>by
  obtain ⟨m1,e1⟩:=a.tbls c ps q
  obtain ⟨m2,e2⟩:=b.tbls c _ e1
  exact ⟨m1 ++ m2,by rw [e2,Array.append_assoc]⟩
theorem Un.kept (k:∀ b u,h.get? b=some u→h'.get? b=some u):Un fs ex H H h h' :=
 ⟨fun b ob q _ _ _=>k b ob q,fun b ob q _ _ _=>⟨ob.slots,k b ob q⟩,fun _ _ _ n _=>n,fun b ob q _=>⟨ob,k b ob q⟩,fun _ _ q=>q,fun _ _ _ q=>q,fun _ ps q=>⟨#[],by rw [q];simp⟩⟩
theorem Un.refl:Un fs ex H H h h:=Un.kept fun _ _ q=>q
theorem Un.laid (k:∀ b u,h.get? b=some u→h'.get? b=some u) (hp:h.objs.size≤a) (hn:H a=none):Un fs ex H (upd H a o) h h' where
 keep:=fun b u q _ _ _=>k b u q
 slot:=fun b u q _ _ _=>⟨u.slots,k b u q⟩
 free:=fun b u q n _=>by rw [Jc (Nat.ne_of_lt (Nat.lt_of_lt_of_le (Heap.lt_size q) hp))];exact n
 there:=fun b u q _=>⟨u,k b u q⟩
 tups:=fun b xs q=>by rw [Jc (Ja q hn)];exact q
 frzs:=fun b u xs q=>by rw [Jc (Ja q hn)];exact q
 tbls:=fun b ps q=>⟨#[],by rw [Jc (Ja q hn),q];simp⟩
theorem Un.write (mu:Mut (H x)) (he:e=x∨H e=some (.own x)) (k:∀ b u,b≠e→h.get? b=some u→h'.get? b=some u) (heo:∃ u,h'.get? e=some u):Un fs ex H (upd H x o) h h':=by
 have hx:∀ b,H b=none→b≠x:=fun b n z=>by subst z;rw [n] at mu;exact mu
 have hb:∀ b,H b=none→b≠e:=fun b n z=>by
  subst z
  rcases he with r | r
  ·exact hx b n r
  ·rw [n] at r;cases r
 have hm:∀ b u,H b=some u→¬ Mut (some u)→b≠x:=fun b u q nm z=>by subst z;rw [q] at mu;exact nm mu
 refine ⟨fun b u q n _ _=>k b u (hb b n) q,fun b u q n _ _=>⟨u.slots,k b u (hb b n) q⟩,fun b u q n _=>by rw [Jc (hx b n)];exact n,fun b u q _=>?_,
  fun b xs q=>by rw [Jc (hm b _ q fun z=>z)];exact q,fun b u xs q=>by rw [Jc (hm b _ q fun z=>z)];exact q,fun b ps q=>⟨#[],by rw [Jc (hm b _ q fun z=>z),q];simp⟩⟩
 by_cases hbe:b=e
 ·subst hbe;exact heo
 ·exact ⟨u,k b u hbe q⟩
theorem Un.mono (u:Un fs ex H H1 h h1) (hs:∀ b∈fs,b∈fs') (hx:∀ b∈ex,b∈ex'):Un fs' ex' H H1 h h1 :=
 ⟨fun b ob q n hb he=>u.keep b ob q n (fun z=>hb (hs b z)) fun z=>he (hx b z),fun _ _ q n _ he=>u.any q n fun z=>he (hx _ z),fun b ob q n he=>u.free b ob q n fun z=>he (hx b z),fun b ob q he=>u.there b ob q fun z=>he (hx b z),u.tups,u.frzs,u.tbls⟩
end
def trk (h:Heap) (H:Hp):List Addr:=(List.range h.objs.size).filter fun a=>(H a).isSome
def hidT (h:Heap) (H:Hp):Heap:=PySem.W.hideAll h (trk h H)
theorem hidT_size (h:Heap) (H:Hp):(hidT h H).objs.size=h.objs.size:=PySem.W.hideAll_size _ _
theorem hidT_get {h:Heap} {H:Hp} {b:Addr} {o:Obj} (e:h.get? b=some o) (n:H b=none):(hidT h H).get? b=some o :=
 PySem.W.hideAll_get _ e fun hm=>by
  have q:(H b).isSome=true:=(List.mem_filter.mp hm).2
  rw [n] at q;simp at q
theorem of_hidT {h:Heap} {H:Hp} {b:Addr} {o:Obj} (e:(hidT h H).get? b=some o):h.get? b=some o∧H b=none:=by
 have e':h.get? b=some o:=PySem.W.of_hideAll (trk h H) e
 refine ⟨e',?_⟩
 cases q:H b with
 | none=>rfl
 | some x =>
  have hm:b∈trk h H:=List.mem_filter.mpr ⟨List.mem_range.mpr (Heap.lt_size e'),by simp [q]⟩
  have z:(hidT h H).get? b=none:=PySem.W.hideAll_none (trk h H) hm
  rw [z] at e;cases e
def allNews (g h:Heap) (L:Addr):List (Addr × Obj):=(List.range h.objs.size).filterMap fun a=>if a=L∨(g.get? a).isSome=true then none else (h.get? a).map fun o=>(a,o)
def rest (g h:Heap) (L d:Addr):List (Addr × Obj):=(allNews g h L).filter fun p=>decide (p.1≠d)
end L2
namespace L2
open PySem PySem.Spec PyProof.Rows
structure Mod (K:PySem.W.Frag) (mg:Str→Option Value) (base:Heap):Prop where
 kin:K.In base
 glob:base.Ns mainGlobals mg
 blt:∃ mb,base.Ns builtinsNs mb∧∀ x:Str,x≠"__name__"→mb x=bootBuiltins x
 nolimit:base.NoLimit
structure Cx where
 prog:Program
 w:World
 K:PySem.W.Frag
 mg:Str→Option Value
 base:Heap
 A:Around
 N:List Str
 s₀:Shared
 H₀:Hp
 env:Env
 outer:List Env
 stack:List Env
 ex:List Addr
 fn:Str→Bool
 calm:Bool
 pn:List (Addr × Obj)
 xe:Value→Shared→Prop
def frs (l:List Env):List Addr:=l.filterMap (·.frame)
abbrev Cx.fs (X:Cx):List Addr:=frs X.outer
def Vis (sc:Scope) (x:Str):Prop:=sc.names.lookup x=some .local∨sc.names.lookup x=some .cell∨sc.names.lookup x=some .free
def Loc (sc:Scope) (x:Str):Prop:=sc.names.lookup x=some .local∨sc.names.lookup x=some .cell
def Look (env:Env) (h:Heap) (m:Str→Option Value) (x:Str) (u:Value):Prop :=
 (env.kindOf x=some .local∧m x=some u)∨((env.kindOf x=some .cell∨env.kindOf x=some .free)∧∃ c,env.cells.lookup x=some c∧h.IsCell c (some u))
structure Cx.Ok (X:Cx):Prop where
 mod:Mod X.K X.mg X.base
 kind:X.env.scope.kind=.function
 glob:X.env.globals=mainGlobals
 blt:X.env.builtins=builtinsNs
 above:X.s₀.heap.objs.size≤X.env.locals
 inj:∀ x y c,X.env.cells.lookup x=some c→X.env.cells.lookup y=some c→x=y
 has:∀ x,(X.env.kindOf x=some .cell∨X.env.kindOf x=some .free)→∃ c,X.env.cells.lookup x=some c
 cab:∀ x c,X.fn x=true→X.env.cells.lookup x=some c→X.s₀.heap.objs.size≤c
 hd:X.calm=true→X.A.handled=none
 frames:X.A.frames=some X.stack
 stk:X.stack=X.outer∨(X.stack=X.env :: X.outer∧X.env.frame=some X.env.locals)
 exf:∀ b∈X.ex,b≠X.env.locals∧∀ x c,X.env.cells.lookup x=some c→c≠b
 bs:∀ b o,X.base.get? b=some o→X.s₀.heap.get? b=some o∧X.H₀ b=none
 bsz:X.base.objs.size≤X.s₀.heap.objs.size
 noex:∀ b o,X.base.get? b=some o→b ∉ X.ex
 exfs:∀ b∈X.ex,b ∉ X.fs
 funs:X.s₀.heap.FunFrames X.base X.outer
 frf:∀ b∈X.fs,X.H₀ b=none
structure Inv (X:Cx) (pins:List (Addr × Obj)) (σ:List (Option V)) (H:Hp) (s:Shared):Prop where
 ok:X.Ok
 os:s.os=X.s₀.os
 bare:AllBare s.gens
 base:Un X.fs X.ex X.H₀ H X.s₀.heap s.heap
 loc:∃ m,s.heap.Ns X.env.locals m∧∀ (i:Nat) (x:Str) (v:V),X.N[i]?=some x→σ[i]?=some (some v)→Vis X.env.scope x→∃ u,RelV v u∧Look X.env s.heap m x u
 cell:∀ x c,X.env.cells.lookup x=some c→∃ v,s.heap.IsCell c v
 free:H X.env.locals=none
 freeC:∀ x c,X.env.cells.lookup x=some c→H c=none
 pin:∀ p∈X.pn ++ pins,s.heap.get? p.1=some p.2∧H p.1=none∧p.1≠X.env.locals∧p.1 ∉ X.fs∧∀ v,p.2.data≠.cell v
 hok:HOk X.prog X.w H s.heap
 len:σ.length=X.N.length
section
variable {X:Cx} {pins:List (Addr × Obj)} {σ:List (Option V)} {H H':Hp} {s:Shared} {h':Heap}
theorem Cx.Ok.nofr (ok:X.Ok) {b:Addr} {o:Obj} (e:X.base.get? b=some o):b ∉ X.fs:=fun hb=>by
 have:=(ok.funs.mem hb).1
 rw [e] at this;cases this
theorem Inv.bs (I:Inv X pins σ H s):∀ b o,X.base.get? b=some o→s.heap.get? b=some o∧H b=none:=fun b o e =>
 ⟨I.base.keep b o (I.ok.bs b o e).1 (I.ok.bs b o e).2 (I.ok.nofr e) (I.ok.noex b o e),I.base.free b o (I.ok.bs b o e).1 (I.ok.bs b o e).2 (I.ok.noex b o e)⟩
theorem Inv.bk (I:Inv X pins σ H s):∀ b o,X.base.get? b=some o→s.heap.get? b=some o:=fun b o e=>(I.bs b o e).1
theorem Inv.mod (I:Inv X pins σ H s):Mod X.K X.mg X.base:=I.ok.mod
theorem Inv.kIn (I:Inv X pins σ H s):X.K.In s.heap:=I.ok.mod.kin.keeps I.bk
theorem Inv.lt (I:Inv X pins σ H s):X.env.locals < s.heap.objs.size:=let ⟨_,hn,_⟩:=I.loc;hn.lt
theorem Inv.sz (I:Inv X pins σ H s):X.s₀.heap.objs.size≤s.heap.objs.size:=Nat.le_trans I.ok.above (Nat.le_of_lt I.lt)
theorem Inv.nofs (I:Inv X pins σ H s) {a:Addr} (h:s.heap.objs.size≤a):a ∉ X.fs:=fun hb=>by
 obtain ⟨_,o,ho,_⟩:=I.ok.funs.mem hb
 exact absurd (Nat.lt_of_lt_of_le (Heap.lt_size ho) (Nat.le_trans I.sz h)) (Nat.lt_irrefl _)
theorem Inv.cne (I:Inv X pins σ H s):∀ x c,X.env.cells.lookup x=some c→c≠X.env.locals:=fun x c e z=>by
 obtain ⟨v,o,ho,hd⟩:=I.cell x c e
 obtain ⟨m,⟨o',es,ep,ho',hd',_⟩,_⟩:=I.loc
 rw [z,ho'] at ho;cases ho;rw [hd'] at hd;cases hd
theorem Inv.funs (I:Inv X pins σ H s):s.heap.FunFrames X.base X.outer:=by
 have all:∀ (l:List Env),(∀ b∈frs l,b∈X.fs)→X.s₀.heap.FunFrames X.base l→s.heap.FunFrames X.base l:=by
  intro l
  induction l with
  | nil=>intro _ _;trivial
  | cons env r ih =>
   intro hs hl
   obtain ⟨hk,⟨L,o,hf,hn,ho,hd⟩,hr⟩:=hl
   have hL:L∈X.fs:=hs L (by unfold frs;rw [List.filterMap_cons,hf];exact List.mem_cons_self)
   obtain ⟨sl,e⟩:=I.base.slot L o ho (I.ok.frf L hL) hL fun z=>I.ok.exfs L z hL
   exact ⟨hk,⟨L,_,hf,hn,e,hd⟩,ih (fun b hb=>hs b (by unfold frs;rw [List.filterMap_cons,hf];exact List.mem_cons_of_mem _ hb)) hr⟩
 exact all X.outer (fun _ hb=>hb) I.ok.funs
theorem Inv.stack (I:Inv X pins σ H s):s.heap.FunFrames X.base X.stack:=by
 rcases I.ok.stk with e | ⟨e,hf⟩
 ·rw [e];exact I.funs
 ·rw [e]
  obtain ⟨m,hn,_⟩:=I.loc
  refine .cons (by rw [I.ok.kind];decide) hf hn ?_ I.funs
  exact Heap.get?_none_of_le (Nat.le_trans I.ok.bsz I.ok.above)
theorem Inv.stkSub (I:Inv X pins σ H s):∀ b∈frs X.stack,b∈X.env.locals :: X.fs:=fun b hb=>by
 rcases I.ok.stk with e | ⟨e,hf⟩
 ·rw [e] at hb;exact List.mem_cons_of_mem _ hb
 ·rw [e] at hb
  unfold frs at hb
  rw [List.filterMap_cons,hf] at hb
  exact hb
theorem Inv.stkFree (I:Inv X pins σ H s):∀ b∈frs X.stack,H b=none:=fun b hb=>by
 rcases List.mem_cons.mp (I.stkSub b hb) with e | hb
 ·rw [e];exact I.free
 ·obtain ⟨_,o,ho,_⟩:=I.ok.funs.mem hb
  exact I.base.free b o ho (I.ok.frf b hb) fun z=>I.ok.exfs b z hb
theorem Inv.step {g':Array GenState} {t':Nat} {d':Drawn} {ch:List Addr} (I:Inv X pins σ H s)
  (hch:∀ b∈ch,(b∈X.ex∨X.s₀.heap.objs.size≤b)∧b≠X.env.locals∧(∀ x c,X.env.cells.lookup x=some c→c≠b)∧∀ p∈X.pn ++ pins,p.1≠b)
  (keep:∀ b o,b≠X.env.locals→b ∉ X.fs→b ∉ ch→s.heap.get? b=some o→H b=none→h'.get? b=some o)
  (slot:∀ b o,b≠X.env.locals→b∈X.fs→b ∉ ch→s.heap.get? b=some o→H b=none→∃ sl,h'.get? b=some { o with slots:=sl }) (free:∀ b o,b ∉ ch→s.heap.get? b=some o→H b=none→H' b=none)
  (there:∀ b o,b ∉ ch→s.heap.get? b=some o→∃ o',h'.get? b=some o')
  (tups:∀ b xs,H b=some (.tup xs)→H' b=some (.tup xs)) (frzs:∀ b o u,H b=some (.frz o u)→H' b=some (.frz o u)) (tbls:∀ b ps,H b=some (.tbl ps)→∃ more,H' b=some (.tbl (ps ++ more)))
  (ns:∀ m,s.heap.Ns X.env.locals m→h'.Ns X.env.locals m) (hok:HOk X.prog X.w H' h') (hg:AllBare g') :
  Inv X pins σ H' { s with heap:=h',gens:=g',drawn:=d',toks:=t' }:=by
 have neL:∀ b o,X.s₀.heap.get? b=some o→b≠X.env.locals:=fun b o e=>Nat.ne_of_lt (Nat.lt_of_lt_of_le (Heap.lt_size e) I.ok.above)
 have neC:∀ b o,X.s₀.heap.get? b=some o→b ∉ X.ex→b ∉ ch:=fun b o e hx hb=>by
  rcases (hch b hb).1 with z | z
  ·exact hx z
  ·exact absurd (Nat.lt_of_lt_of_le (Heap.lt_size e) z) (Nat.lt_irrefl _)
 have cellK:∀ x c,X.env.cells.lookup x=some c→∀ v,s.heap.IsCell c v→h'.IsCell c v:=fun x c e v ⟨o,ho,hd⟩=>by
  have nch:c ∉ ch:=fun z=>(hch c z).2.2.1 x c e rfl
  by_cases hc:c∈X.fs
  ·obtain ⟨sl,q⟩:=slot c o (I.cne x c e) hc nch ho (I.freeC x c e)
   exact ⟨_,q,hd⟩
  ·exact ⟨o,keep c o (I.cne x c e) hc nch ho (I.freeC x c e),hd⟩
 refine ⟨I.ok,I.os,hg,⟨fun b o e n hb hx=>?_,fun b o e n hb hx=>?_,fun b o e n hx=>?_,fun b o e hx=>?_,fun b xs e=>tups b xs (I.base.tups b xs e),fun b o xs e=>frzs b o xs (I.base.frzs b o xs e),fun b ps e=>?_⟩,?_,fun x c e=>?_,?_,fun x c e=>?_,fun p hp=>?_,hok,I.len⟩
 ·exact keep b o (neL b o e) hb (neC b o e hx) (I.base.keep b o e n hb hx) (I.base.free b o e n hx)
 ·obtain ⟨sl,e1⟩:=I.base.slot b o e n hb hx
  obtain ⟨sl',e2⟩:=slot b _ (neL b o e) hb (neC b o e hx) e1 (I.base.free b o e n hx)
  exact ⟨sl',e2⟩
 ·obtain ⟨o',e1⟩:=I.base.there b o e hx
  exact free b o' (neC b o e hx) e1 (I.base.free b o e n hx)
 ·obtain ⟨o',e1⟩:=I.base.there b o e hx
  exact there b o' (neC b o e hx) e1
 ·obtain ⟨m1,e1⟩:=I.base.tbls b ps e
  obtain ⟨m2,e2⟩:=tbls b _ e1
  exact ⟨m1 ++ m2,by rw [e2,Array.append_assoc]⟩
 ·obtain ⟨m,hn,hl⟩:=I.loc
  refine ⟨m,ns m hn,fun i x v e1 e2 e3=>?_⟩
  obtain ⟨u,r,l⟩:=hl i x v e1 e2 e3
  refine ⟨u,r,?_⟩
  rcases l with l | ⟨k,c,e,z⟩
  ·exact .inl l
  ·exact .inr ⟨k,c,e,cellK x c e _ z⟩
 ·obtain ⟨v,z⟩:=I.cell x c e
  exact ⟨v,cellK x c e v z⟩
 ·obtain ⟨m,⟨o,_,_,ho,_⟩,_⟩:=I.loc
  exact free _ o (fun z=>(hch _ z).2.1 rfl) ho I.free
 ·obtain ⟨v,o,ho,hd⟩:=I.cell x c e
  exact free c o (fun z=>(hch c z).2.2.1 x c e rfl) ho (I.freeC x c e)
 ·obtain ⟨e,n,ne,nf,d⟩:=I.pin p hp
  have nch:p.1 ∉ ch:=fun z=>(hch p.1 z).2.2.2 p hp rfl
  exact ⟨keep p.1 p.2 ne nf nch e n,free p.1 p.2 nch e n,ne,nf,d⟩
theorem Inv.un {t':Nat} (I:Inv X pins σ H s) (u:Un X.fs [] H H' s.heap h') (hok:HOk X.prog X.w H' h'):Inv X pins σ H' { s with heap:=h',toks:=t' }:=by
 obtain ⟨m,⟨o,es,ep,ho,r⟩,_⟩:=id I.loc
 obtain ⟨sl,hL⟩:=u.any ho I.free (by simp)
 exact I.step (g':=s.gens) (d':=s.drawn) (ch:=[]) (fun _ z=>nomatch z) (fun b o _ hb _ e n=>u.keep b o e n hb (by simp)) (fun b o _ hb _ e n=>u.slot b o e n hb (by simp)) (fun b o _ e n=>u.free b o e n (by simp)) (fun b o _ e=>u.there b o e (by simp)) u.tups u.frzs u.tbls (fun m' hm=>by
  obtain ⟨o',es',ep',ho',r'⟩:=hm
  rw [ho] at ho';cases ho'
  exact ⟨_,es',ep',hL,r'⟩) hok I.bare
theorem Inv.call {g':Array GenState} {t':Nat} {d':Drawn} {ch:List Addr} (I:Inv X pins σ H s) (u:Un (frs X.stack) ch H H' s.heap h') (hok:HOk X.prog X.w H' h') (hg:AllBare g')
  (hch:∀ b∈ch,(b∈X.ex∨X.s₀.heap.objs.size≤b)∧b≠X.env.locals∧(∀ x c,X.env.cells.lookup x=some c→c≠b)∧∀ p∈X.pn ++ pins,p.1≠b) :
  Inv X pins σ H' { s with heap:=h',gens:=g',drawn:=d',toks:=t' }:=by
 obtain ⟨m,⟨o,es,ep,ho,r⟩,_⟩:=id I.loc
 obtain ⟨sl,hL⟩:=u.any ho I.free fun z=>(hch _ z).2.1 rfl
 exact I.step (ch:=ch) hch (fun b o hL hb hc e n=>u.keep b o e n (fun z=>(List.mem_cons.mp (I.stkSub b z)).elim hL hb) hc) (fun b o _ _ hc e n=>u.any e n hc) (fun b o hc e n=>u.free b o e n hc) (fun b o hc e=>u.there b o e hc) u.tups u.frzs u.tbls (fun m' hm=>by
  obtain ⟨o',es',ep',ho',r'⟩:=hm
  rw [ho] at ho';cases ho'
  exact ⟨_,es',ep',hL,r'⟩) hok hg
theorem Inv.turned {t':Nat} {it:Addr} (I:Inv X pins σ H s) (k:∀ b o,b≠it→s.heap.get? b=some o→h'.get? b=some o) (hn:H it=none) (hL:it≠X.env.locals)
  (h1:it∈X.ex∨X.s₀.heap.objs.size≤it) (h2:∀ x c,X.env.cells.lookup x=some c→c≠it) (h3:∀ p∈X.pn ++ pins,p.1≠it):Inv X pins σ H { s with heap:=h',toks:=t' }:=by
 have nit:∀ b u,H b=some u→b≠it:=fun b u e z=>by rw [z,hn] at e;cases e
 refine I.step (g':=s.gens) (d':=s.drawn) (ch:=[it]) (fun b hb=>?_) (fun b o _ _ hc e _=>k b o (fun z=>hc (by simp [z])) e) (fun b o _ _ hc e _=>⟨o.slots,k b o (fun z=>hc (by simp [z])) e⟩) (fun _ _ _ _ n=>n)
  (fun b o hc e=>⟨o,k b o (fun z=>hc (by simp [z])) e⟩) (fun _ _ e=>e) (fun _ _ _ e=>e) (fun b ps e=>⟨#[],by rw [e];simp⟩) (fun m hm=>?_) (fun b u e=>?_) I.bare
 ·have e:b=it:=by simpa using hb
  subst e
  exact ⟨h1,hL,h2,h3⟩
 ·obtain ⟨o,es,ep,ho,r⟩:=hm
  exact ⟨o,es,ep,k _ o (Ne.symm hL) ho,r⟩
 ·refine (I.hok b u e).stay (fun c v hc q=>k c v ?_ q) (fun _ q=>q) fun _ _ q=>q
  rcases hc with z | z
  ·rw [z];exact nit b u e
  ·exact nit c _ z
theorem Inv.tok (I:Inv X pins σ H s) (t:Nat):Inv X pins σ H { s with toks:=t }:=I.un (h':=s.heap) (t':=t) Un.refl I.hok
theorem Inv.kept {t':Nat} (I:Inv X pins σ H s) (k:∀ b u,s.heap.get? b=some u→h'.get? b=some u):Inv X pins σ H { s with heap:=h',toks:=t' }:=I.un (Un.kept k) (I.hok.kept k)
theorem Inv.laid {a:Addr} {o:HO} {t':Nat} (I:Inv X pins σ H s) (k:∀ b u,s.heap.get? b=some u→h'.get? b=some u) (hp:s.heap.objs.size≤a) (new:ObjOk X.prog X.w (upd H a o) h' a o) :
  Inv X pins σ (upd H a o) { s with heap:=h',toks:=t' }:=I.un (Un.laid k hp (I.hok.fresh hp)) (I.hok.laid k hp new)
theorem Inv.write {x e:Addr} {o:HO} {t':Nat} (I:Inv X pins σ H s) (mu:Mut (H x)) (he:e=x∨H e=some (.own x)) (k:∀ b u,b≠e→s.heap.get? b=some u→h'.get? b=some u) (heo:∃ u,h'.get? e=some u)
  (new:ObjOk X.prog X.w (upd H x o) h' x o):Inv X pins σ (upd H x o) { s with heap:=h',toks:=t' }:=I.un (Un.write mu he k heo) (I.hok.write mu he k heo new)
theorem Inv.pins_of {pins':List (Addr × Obj)} (I:Inv X pins σ H s) (h:∀ p∈pins',s.heap.get? p.1=some p.2∧H p.1=none∧p.1≠X.env.locals∧p.1 ∉ X.fs∧∀ v,p.2.data≠.cell v):Inv X pins' σ H s :=
 ⟨I.ok,I.os,I.bare,I.base,I.loc,I.cell,I.free,I.freeC,fun p hp=>(List.mem_append.mp hp).elim (fun z=>I.pin p (List.mem_append_left _ z)) (h p),I.hok,I.len⟩
theorem nodup_ix {N:List Str} (hN:N.Nodup) {i j:Nat} {x:Str} (a:N[i]?=some x) (b:N[j]?=some x):i=j:=by
 obtain ⟨h1,e1⟩:=List.getElem?_eq_some_iff.mp a
 obtain ⟨h2,e2⟩:=List.getElem?_eq_some_iff.mp b
 exact (List.getElem_inj hN).mp (e1.trans e2.symm)
theorem J5y {M:Model} {A:Around} {E:Value→Shared→Prop} {i:Nat} {x:Str} {v:V} {u:Value} {Q:Unit→Shared→Prop} (I:Inv X pins σ H s) (hN:X.N.Nodup) (hi:X.N[i]?=some x) (hx:Loc X.env.scope x) (r:RelV v u)
  (h:∀ s',Inv X pins (σ.set i (some v)) H s'→(∃ a,Heap.SameBut a s.heap s'.heap∧(a=X.env.locals∨X.env.cells.lookup x=some a))→Q () s') (hf:X.fn x=true∨X.env.scope.names.lookup x=some .local:=by first | exact .inl rfl | exact .inr rfl | assumption):wpAny M A (storeName X.env x u) Q E s:=by
 obtain ⟨m,hn,hl⟩:=id I.loc
 have hcls:(X.env.scope.kind == .class || (X.env.scope.kind == .module && X.env.locals != X.env.globals))=false:=by rw [I.ok.kind];rfl
 have hiσ:i < σ.length:=by rw [I.len];exact (List.getElem?_eq_some_iff.mp hi).1
 have cne:=I.cne
 have tracked:∀ {a:Addr} {h':Heap},(∃ o,s.heap.get? a=some o∧H a=none)→Heap.SameBut a s.heap h'→HOk X.prog X.w H h':=fun {a h'} ha hs b ob e=>by
  obtain ⟨_,_,hfree⟩:=ha
  refine (I.hok b ob e).stay (fun c w' hc q=>(hs.2 c ?_).trans q) (fun _ q=>q) fun _ _ q=>q
  rintro rfl
  rcases hc with rfl | hc
  ·rw [hfree] at e;cases e
  ·rw [hfree] at hc;cases hc
 rcases hx with hk | hk
 ·refine wpAny_storeName_local hk hn (fun h' hn' hs=>?_) hcls
  obtain ⟨oL,_,_,hoL,_⟩:=id hn
  refine h _ ⟨I.ok,I.os,I.bare,⟨fun b o e n hb hx=>?_,fun b o e n hb hx=>?_,I.base.free,fun b o e hx=>?_,I.base.tups,I.base.frzs,I.base.tbls⟩,⟨_,hn',fun j y v' e1 e2 e3=>?_⟩,fun y c e=>?_,I.free,I.freeC,fun p hp=>?_,tracked ⟨oL,hoL,I.free⟩ hs,by simpa using I.len⟩ ⟨_,hs,.inl rfl⟩
  ·exact (hs.2 b (Nat.ne_of_lt (Nat.lt_of_lt_of_le (Heap.lt_size e) I.ok.above))).trans (I.base.keep b o e n hb hx)
  ·obtain ⟨sl,e1⟩:=I.base.slot b o e n hb hx
   exact ⟨sl,(hs.2 b (Nat.ne_of_lt (Nat.lt_of_lt_of_le (Heap.lt_size e) I.ok.above))).trans e1⟩
  ·obtain ⟨o',e1⟩:=I.base.there b o e hx
   exact ⟨o',(hs.2 b (Nat.ne_of_lt (Nat.lt_of_lt_of_le (Heap.lt_size e) I.ok.above))).trans e1⟩
  ·by_cases hj:j=i
   ·subst hj
    rw [hi] at e1;cases e1
    rw [List.getElem?_set_self hiσ] at e2
    cases e2
    exact ⟨u,r,.inl ⟨hk,by simp⟩⟩
   ·rw [List.getElem?_set_ne (Ne.symm hj)] at e2
    obtain ⟨u',r',q⟩:=hl j y v' e1 e2 e3
    refine ⟨u',r',?_⟩
    rcases q with ⟨k,e⟩ | ⟨k,c,e,z⟩
    ·refine .inl ⟨k,?_⟩
     have:y≠x:=fun e=>hj (nodup_ix hN e1 (e ▸ hi))
     simp [this,e]
    ·exact .inr ⟨k,c,e,z.sameBut hs (cne y c e)⟩
  ·obtain ⟨w',z⟩:=I.cell y c e
   exact ⟨w',z.sameBut hs (cne y c e)⟩
  ·obtain ⟨e,n,ne,nf,d⟩:=I.pin p hp
   exact ⟨(hs.2 p.1 ne).trans e,n,ne,nf,d⟩
 ·have hfn:X.fn x=true:=by
   rcases hf with z | z
   ·exact z
   ·rw [z] at hk;cases hk
  obtain ⟨c,hc⟩:=I.ok.has x (.inl hk)
  obtain ⟨w',z⟩:=I.cell x c hc
  refine wpAny_storeName_cell I.ok.kind hk hc z (fun h' hc' hs=>?_)
  obtain ⟨oc,hoc,hocd⟩:=id z
  refine h { s with heap:=h' } ⟨I.ok,I.os,I.bare,⟨fun b o e n hb hx=>?_,fun b o e n hb hx=>?_,I.base.free,fun b o e hx=>?_,I.base.tups,I.base.frzs,I.base.tbls⟩,⟨m,hn.sameBut hs (Ne.symm (cne x c hc)),fun j y v' e1 e2 e3=>?_⟩,fun y c' e=>?_,I.free,I.freeC,fun p hp=>?_,tracked ⟨oc,hoc,I.freeC x c hc⟩ hs,by simpa using I.len⟩ ⟨c,hs,.inr hc⟩
  ·exact (hs.2 b (Nat.ne_of_lt (Nat.lt_of_lt_of_le (Heap.lt_size e) (I.ok.cab x c hfn hc)))).trans (I.base.keep b o e n hb hx)
  ·obtain ⟨sl,e1⟩:=I.base.slot b o e n hb hx
   exact ⟨sl,(hs.2 b (Nat.ne_of_lt (Nat.lt_of_lt_of_le (Heap.lt_size e) (I.ok.cab x c hfn hc)))).trans e1⟩
  ·obtain ⟨o',e1⟩:=I.base.there b o e hx
   exact ⟨o',(hs.2 b (Nat.ne_of_lt (Nat.lt_of_lt_of_le (Heap.lt_size e) (I.ok.cab x c hfn hc)))).trans e1⟩
  ·by_cases hj:j=i
   ·subst hj
    rw [hi] at e1;cases e1
    rw [List.getElem?_set_self hiσ] at e2
    cases e2
    exact ⟨u,r,.inr ⟨.inl hk,c,hc,hc'⟩⟩
   ·rw [List.getElem?_set_ne (Ne.symm hj)] at e2
    obtain ⟨u',r',q⟩:=hl j y v' e1 e2 e3
    refine ⟨u',r',?_⟩
    rcases q with q | ⟨k,c',e,z'⟩
    ·exact .inl q
    ·refine .inr ⟨k,c',e,z'.sameBut hs ?_⟩
     rintro rfl
     exact hj (nodup_ix hN e1 (I.ok.inj _ _ _ e hc ▸ hi))
  ·by_cases hcc:c'=c
   ·subst hcc;exact ⟨_,hc'⟩
   ·obtain ⟨w2,z2⟩:=I.cell y c' e
    exact ⟨w2,z2.sameBut hs hcc⟩
  ·obtain ⟨e,n,ne,nf,d⟩:=I.pin p hp
   refine ⟨(hs.2 p.1 ?_).trans e,n,ne,nf,d⟩
   intro q
   rw [q,hoc] at e
   have q':oc=p.2:=Option.some.inj e
   exact d w' (by rw [← q'];exact hocd)
theorem store_ok {M:Model} {A:Around} {E:Value→Shared→Prop} {i:Nat} {x:Str} {v:V} {u:Value} {Q:Unit→Shared→Prop} (I:Inv X pins σ H s) (hN:X.N.Nodup) (hi:X.N[i]?=some x) (hx:Loc X.env.scope x) (r:RelV v u)
  (h:∀ s',Inv X pins (σ.set i (some v)) H s'→Q () s') (hf:X.fn x=true∨X.env.scope.names.lookup x=some .local:=by first | exact .inl rfl | exact .inr rfl | assumption):wpAny M A (storeName X.env x u) Q E s :=
 J5y I hN hi hx r (fun s' I' _=>h s' I') hf
theorem Inv.call' {s':Shared} {ch:List Addr} (I:Inv X pins σ H s) (ho:s'.os=s.os) (u:Un (frs X.stack) ch H H' s.heap s'.heap) (hok:HOk X.prog X.w H' s'.heap) (hg:AllBare s'.gens)
  (hch:∀ b∈ch,(b∈X.ex∨X.s₀.heap.objs.size≤b)∧b≠X.env.locals∧(∀ x c,X.env.cells.lookup x=some c→c≠b)∧∀ p∈X.pn ++ pins,p.1≠b):Inv X pins σ H' s':=by
 obtain ⟨h',g',d',t',o'⟩:=s'
 have e:o'=s.os:=ho
 subst e
 exact I.call (g':=g') (t':=t') (d':=d') u hok hg hch
end
abbrev XK:=Value→Option Addr→Hp→Prop
abbrev St:=List (Option V)
abbrev VK:=V→Hp→Prop
abbrev TE:=St→Hp→VK→Prop
abbrev TT:=St→Hp→(Bool→Hp→Prop)→Prop
abbrev TA:=St→Hp→(List V→Hp→Prop)→Prop
structure Ends where
 nx:St→Hp→Prop
 rt:VK
 bk:St→Hp→Prop:=fun _ _=>False
 ct:St→Hp→Prop:=fun _ _=>False
abbrev TS:=Ends→St→Hp→Prop
def EP (X:Cx) (pins:List (Addr × Obj)) (σ:St) (Q:VK) (u:Value) (s':Shared):Prop:=∃ v H',Inv X pins σ H' s'∧RelV v u∧Q v H'
def TP (X:Cx) (pins:List (Addr × Obj)) (σ:St) (Q:Bool→Hp→Prop) (b:Bool) (s':Shared):Prop:=∃ H',Inv X pins σ H' s'∧Q b H'
def AP (X:Cx) (pins:List (Addr × Obj)) (σ:St) (Q:List V→Hp→Prop) (us:List Value) (s':Shared):Prop:=∃ vs H',Inv X pins σ H' s'∧Vals vs us∧Q vs H'
def SP (X:Cx) (pins:List (Addr × Obj)) (D:Ends) (f:Flow) (s':Shared):Prop :=
 match f with
 | .next=>∃ σ' H',Inv X pins σ' H' s'∧D.nx σ' H'
 | .brk=>∃ σ' H',Inv X pins σ' H' s'∧D.bk σ' H'
 | .cont=>∃ σ' H',Inv X pins σ' H' s'∧D.ct σ' H'
 | .ret u=>∃ v σ' H',Inv X pins σ' H' s'∧RelV v u∧D.rt v H'
def PE (X:Cx) (e:Expr) (t:TE):Prop :=
 ∀ (pins:List (Addr × Obj)) (s:Shared) (σ:St) (H:Hp) (Q:VK),Inv X pins σ H s→t σ H Q→wpAny (model X.prog X.w) X.A (eval e X.env) (EP X pins σ Q) X.xe s
def PT (X:Cx) (e:Expr) (t:TT):Prop :=
 ∀ (pins:List (Addr × Obj)) (s:Shared) (σ:St) (H:Hp) (Q:Bool→Hp→Prop),Inv X pins σ H s→t σ H Q→wpAny (model X.prog X.w) X.A (isTrue e X.env (eval e X.env)) (TP X pins σ Q) X.xe s
def PW (X:Cx) (e:Expr) (t:TT):Prop :=
 ∀ (whole:Sem Value) (pins:List (Addr × Obj)) (s:Shared) (σ:St) (H:Hp) (Q:Bool→Hp→Prop),Inv X pins σ H s→t σ H Q→wpAny (model X.prog X.w) X.A (isTrue e X.env whole) (TP X pins σ Q) X.xe s
theorem PW.pt {X:Cx} {e:Expr} {t:TT} (h:PW X e t):PT X e t:=h _
def PA (X:Cx) (es:List Expr) (t:TA):Prop :=
 ∀ (pos:Pos) (pins:List (Addr × Obj)) (s:Shared) (σ:St) (H:Hp) (Q:List V→Hp→Prop),Inv X pins σ H s→t σ H Q→wpAny (model X.prog X.w) X.A (spliced (backTo pos (starEach es X.env))) (AP X pins σ Q) X.xe s
def PS (X:Cx) (st:Stmt) (t:TS):Prop :=
 ∀ (pins:List (Addr × Obj)) (s:Shared) (σ:St) (H:Hp) (D:Ends),Inv X pins σ H s→t D σ H→wpAny (model X.prog X.w) X.A (exec st X.env) (SP X pins D) X.xe s
def PSs (X:Cx) (st:List Stmt) (t:TS):Prop :=
 ∀ (pins:List (Addr × Obj)) (s:Shared) (σ:St) (H:Hp) (D:Ends),Inv X pins σ H s→t D σ H→wpAny (model X.prog X.w) X.A (execs st X.env) (SP X pins D) X.xe s
theorem thn {α:Type} {t:Sem α} {Q Q':α→Shared→Prop} {M:Model} {A:Around} {E:Value→Shared→Prop} {s:Shared} (h:wpAny M A t Q E s) (hQ:∀ a s,Q a s→Q' a s):wpAny M A t Q' E s:=wpAny_mono h hQ fun _ _ x=>x
end L2
namespace L2
open PySem PySem.Spec PyProof.Rows
section
variable {X:Cx}
def tVar (i:Nat):TE:=fun σ H Q=>∃ v,σ[i]?=some (some v)∧Q v H
def tC (v:V):TE:=fun _ H Q=>Q v H
theorem pe_var {i:Nat} {x:Str} {pos:Pos} (hN:X.N[i]?=some x) (hv:Vis X.env.scope x) (hd:(x == ("__debug__":Str))=false:=by decide) (hcd:(x == ("__classdict__":Str))=false:=by decide):PE X (.Name x pos) (tVar i):=by
 intro pins s σ H Q I h
 obtain ⟨v,e,h⟩:=h
 obtain ⟨m,hn,hl⟩:=I.loc
 obtain ⟨u,r,l⟩:=hl i x v hN e hv
 have fin:EP X pins σ Q u s:=⟨v,H,I,r,h⟩
 rcases l with ⟨hk,hm⟩ | ⟨hk,c,hc,hcell⟩
 ·exact wpAny_Name (wpAny_loadName_local I.ok.kind hk hn hm fin) hd
 ·rcases hk with hk | hk
  ·exact wpAny_Name (wpAny_loadName_cell I.ok.kind hk hc hcell fin) hd
  ·exact wpAny_Name (wpAny_loadName_free I.ok.kind hk hc hcell fin hcd) hd
theorem Jb {i j pos}:PE X (.Constant (.int i) j pos) (tC (.int i)):=fun _ _ _ H _ I h=>wpAny_Constant_int ⟨.int i,H,I.tok _,⟨_,rfl⟩,h⟩
theorem pe_bl {b j pos}:PE X (.Constant (.bool b) j pos) (tC (.bl b)):=fun _ _ _ H _ I h=>Constant_bool ⟨.bl b,H,I,rfl,h⟩
theorem J65 {j pos}:PE X (.Constant .none j pos) (tC .non):=fun _ _ _ H _ I h=>Constant_none ⟨.non,H,I,rfl,h⟩
theorem J1k {x j pos}:PE X (.Constant (.str x) j pos) (tC (.str x)):=fun _ _ _ H _ I h=>Calls.Constant_str ⟨.str x,H,I.tok _,⟨_,rfl⟩,h⟩
def Gl (X:Cx) (x:Str):Prop:=X.env.kindOf x=some .globalImplicit
theorem ld_glob {E:Value→Shared→Prop} {pins:List (Addr × Obj)} {s:Shared} {σ:St} {H:Hp} {x:Str} {u:Value} {pos:Pos} {Q:Value→Shared→Prop} (I:Inv X pins σ H s) (hg:Gl X x) (hm:X.mg x=some u) (h:Q u s)
  (hd:(x == ("__debug__":Str))=false:=by decide):wpAny (model X.prog X.w) X.A (eval (.Name x pos) X.env) Q E s :=
 Calls.Name_function_global I.ok.kind hg (Calls.loadGlobal_global (by rw [I.ok.glob];exact I.mod.glob.keeps I.bk) hm h) hd
theorem ld_blt {E:Value→Shared→Prop} {pins:List (Addr × Obj)} {s:Shared} {σ:St} {H:Hp} {x:Str} {u:Value} {pos:Pos} {Q:Value→Shared→Prop} (I:Inv X pins σ H s) (hg:Gl X x) (hm:X.mg x=none) (hv:bootBuiltins x=some u) (h:Q u s)
  (hn:x≠"__name__":=by decide) (hd:(x == ("__debug__":Str))=false:=by decide):wpAny (model X.prog X.w) X.A (eval (.Name x pos) X.env) Q E s:=by
 obtain ⟨mb,h1,h2⟩:=I.mod.blt
 exact Calls.Name_function_global I.ok.kind hg (Calls.loadGlobal_builtin (by rw [I.ok.glob];exact I.mod.glob.keeps I.bk) hm (by rw [I.ok.blt];exact h1.keeps I.bk) ((h2 x hn).trans hv) h) hd
theorem pe_glob {x:Str} {v:V} {u:Value} {pos:Pos} (hg:Gl X x) (hm:X.mg x=some u) (r:RelV v u) (hd:(x == ("__debug__":Str))=false:=by decide):PE X (.Name x pos) (tC v) :=
 fun _ _ _ H _ I h=>ld_glob I hg hm ⟨v,H,I,r,h⟩ hd
variable {a b:Expr} {ta tb:TE} {pos:Pos}
def PC (X:Cx) (op:CmpOp) (a b:Expr) (t:TE):Prop :=
 ∀ (pins:List (Addr × Obj)) (s:Shared) (σ:St) (H:Hp) (Q:VK),Inv X pins σ H s→t σ H Q→
  wpAny (model X.prog X.w) X.A (eval a X.env) (fun v s₁=>wpAny (model X.prog X.w) X.A (eval b X.env) (fun u s₂=>wpAny (model X.prog X.w) X.A (compareOp op v u) (EP X pins σ Q) X.xe s₂) X.xe s₁) X.xe s
theorem nobehind (b:Expr) {op:CmpOp} (h:op≠.In) (h2:op≠.NotIn):behindInMarks op b=false:=by
 have e1:(op == CmpOp.In)=false:=by cases op <;> first | rfl | exact absurd rfl h
 have e2:(op == CmpOp.NotIn)=false:=by cases op <;> first | rfl | exact absurd rfl h2
 cases b <;> simp [behindInMarks,e1,e2]
def tIsN (ta:TE):TE:=fun σ H Q=>ta σ H fun x H1=>Q (.bl (decide (x=.non))) H1
theorem RelV.none_iff {x:V} {v:Value} (r:RelV x v):(v == Value.none)=decide (x=.non):=by
 cases x with
 | non=>cases r;rfl
 | bl _=>cases r;rfl
 | int _=>obtain ⟨t,rfl⟩:=r;rfl
 | str _=>obtain ⟨t,rfl⟩:=r;rfl
 | byt _=>obtain ⟨t,rfl⟩:=r;rfl
 | flt _=>obtain ⟨t,rfl⟩:=r;rfl
 | ref _=>cases r;rfl
 | ty _=>cases r;rfl
theorem pc_isN {j pos'} (ha:PE X a ta):PC X .Is a (.Constant .none j pos') (tIsN ta):=by
 intro pins s σ H Q I h
 refine thn (ha pins s σ H _ I h) fun v s1 ⟨x,H1,I1,r1,q1⟩=>?_
 exact Constant_none (is_none_gen ⟨.bl _,H1,I1,by rw [r1.none_iff];rfl,q1⟩)
def tB (t:TE):TT:=fun σ H Q=>t σ H fun x H1=>∃ c,x=.bl c∧Q c H1
theorem pt_cmp {op:CmpOp} {t:TE} (h:PC X op a b t) (h1:behindInMarks op b=false:=by first | exact nobehind _ (by decide) (by decide) | rfl):PT X (.Compare a [op] [b] pos) (tB t):=by
 intro pins s σ H Q I hw
 refine wpAny_isTrue_Compare1 (thn (h pins s σ H _ I hw) fun v s1 h1=>thn h1 fun u s2 h2=>thn h2 fun c s3 ⟨x,H1,I1,r1,q1⟩=>?_) h1
 obtain ⟨d,rfl,q⟩:=q1
 cases r1
 exact wpAny_truthy_bool ⟨H1,I1,q⟩
theorem J61 {e:Expr} {t:TE} (h:PE X e t) (he:∀ whole,isTrue e X.env whole=(do let v ← whole;standAt e.pos;holding [v] (truthy v)):=by intro _;rfl):PT X e (tB t):=by
 intro pins s σ H Q I hw
 refine isTrue_plain (thn (h pins s σ H _ I hw) fun v s1 ⟨x,H1,I1,r1,q1⟩=>?_) (he _)
 obtain ⟨d,rfl,q⟩:=q1
 cases r1
 exact wpAny_truthy_bool ⟨H1,I1,q⟩
variable {tA tB':TT} {rest:List Expr}
def tAnd (t u:TT):TT:=fun σ H Q=>t σ H fun c H1=>if c=true then u σ H1 Q else Q false H1
def tOr (t u:TT):TT:=fun σ H Q=>t σ H fun c H1=>if c=true then Q true H1 else u σ H1 Q
def tNot (t:TT):TT:=fun σ H Q=>t σ H fun c H1=>Q (!c) H1
theorem J4a (ha:PT X a tA):PW X (.BoolOp .And [a] pos) tA:=by
 intro wh pins s σ H Q I h
 refine isTrue_and (thn (ha pins s σ H Q I h) fun c s1 e=>?_)
 cases c with
 | true=>exact isTrue_and_nil e
 | false=>exact e
theorem pw_or1 (ha:PT X a tA):PW X (.BoolOp .Or [a] pos) tA:=by
 intro wh pins s σ H Q I h
 refine isTrue_or (thn (ha pins s σ H Q I h) fun c s1 e=>?_)
 cases c with
 | false=>exact isTrue_or_nil e
 | true=>exact e
theorem J7n (ha:PT X a tA) (hb:PW X (.BoolOp .And (b :: rest) pos) tB'):PW X (.BoolOp .And (a :: b :: rest) pos) (tAnd tA tB'):=by
 intro wh pins s σ H Q I h
 refine isTrue_and (thn (ha pins s σ H _ I h) fun c s1 ⟨H1,I1,q1⟩=>?_)
 cases c with
 | true=>exact hb wh pins s1 σ H1 Q I1 q1
 | false=>exact ⟨H1,I1,q1⟩
theorem pw_or (ha:PT X a tA) (hb:PW X (.BoolOp .Or (b :: rest) pos) tB'):PW X (.BoolOp .Or (a :: b :: rest) pos) (tOr tA tB'):=by
 intro wh pins s σ H Q I h
 refine isTrue_or (thn (ha pins s σ H _ I h) fun c s1 ⟨H1,I1,q1⟩=>?_)
 cases c with
 | true=>exact ⟨H1,I1,q1⟩
 | false=>exact hb wh pins s1 σ H1 Q I1 q1
theorem pt_not (ha:PT X a tA):PT X (.UnaryOp .Not a pos) (tNot tA):=by
 intro pins s σ H Q I h
 exact isTrue_not (ha pins s σ H (fun c H1=>Q (!c) H1) I h)
def tAndV (ta tb:TE):TE:=fun σ H Q=>ta σ H fun x H1=>∃ c,x=.bl c∧if c=true then tb σ H1 Q else Q (.bl false) H1
def tNotV (ta:TE):TE:=fun σ H Q=>ta σ H fun x H1=>∃ c,x=.bl c∧Q (.bl (!c)) H1
theorem J64 {op} {t:TE} (h:PE X a t):PE X (.BoolOp op [a] pos) t:=fun pins s σ H Q I hw=>BoolOp_one (h pins s σ H Q I hw)
theorem J3z (ha:PE X a ta) (hb:PE X (.BoolOp .And (b :: rest) pos) tb):PE X (.BoolOp .And (a :: b :: rest) pos) (tAndV ta tb):=by
 intro pins s σ H Q I h
 refine BoolOp_and (thn (ha pins s σ H _ I h) fun v s1 ⟨x,H1,I1,r1,q1⟩=>?_)
 obtain ⟨c,rfl,q1⟩:=q1
 cases r1
 refine wpAny_truthy_bool ?_
 cases c with
 | true=>exact hb pins s1 σ H1 Q I1 q1
 | false=>exact ⟨.bl false,H1,I1,rfl,q1⟩
theorem pe_not (ha:PE X a ta):PE X (.UnaryOp .Not a pos) (tNotV ta):=by
 intro pins s σ H Q I h
 refine UnaryOp_ (thn (ha pins s σ H _ I h) fun v s1 ⟨x,H1,I1,r1,q1⟩=>?_)
 obtain ⟨c,rfl,q1⟩:=q1
 cases r1
 exact not_of (wpAny_truthy_bool ⟨.bl (!c),H1,I1,rfl,q1⟩)
def tIf (t:TT) (ta tb:TE):TE:=fun σ H Q=>t σ H fun c H1=>if c=true then ta σ H1 Q else tb σ H1 Q
theorem J7p {c:Expr} (hc:PT X c tA) (ha:PE X a ta) (hb:PE X b tb):PE X (.IfExp c a b pos) (tIf tA ta tb):=by
 intro pins s σ H Q I h
 refine wpAny_IfExp (thn (hc pins s σ H _ I h) fun d s1 ⟨H1,I1,q1⟩=>?_)
 cases d with
 | true=>exact ha pins s1 σ H1 Q I1 q1
 | false=>exact hb pins s1 σ H1 Q I1 q1
end
end L2
namespace L2
open PySem PySem.Spec PyProof.Rows
def SqL (K:PySem.W.Frag) (H:Hp) (a:Addr) (xs:List V):Prop :=
 Rd H a (.lst xs)∨
  ∃ (o:Obj) (its:Array Value) (n:Nat),K.lookup a=some o∧o.cls=.type "list"∧o.dict=none∧o.data=.seq its n∧its.size≤sizeLine∧Vals xs its.toList
def SqT (K:PySem.W.Frag) (H:Hp) (a:Addr) (xs:List V):Prop :=
 Rd H a (.tup xs)∨
  ∃ (o:Obj) (its:Array Value) (n:Nat),K.lookup a=some o∧o.cls=.type "tuple"∧o.data=.seq its n∧its.size≤sizeLine∧Vals xs its.toList
def absV:Value→Option V
 | .none=>some .non
 | .bool b=>some (.bl b)
 | .int i _=>some (.int i)
 | .str x _=>some (.str x)
 | .bytes b _=>some (.byt b)
 | .float b _=>some (.flt b)
 | .ref a=>some (.ref a)
 | .type n=>some (.ty n)
 | _=>none
theorem RelV.abs {x:V} {u:Value} (r:RelV x u):absV u=some x:=by
 cases x with
 | non=>cases r;rfl
 | bl _=>cases r;rfl
 | int _=>obtain ⟨t,rfl⟩:=r;rfl
 | str _=>obtain ⟨t,rfl⟩:=r;rfl
 | byt _=>obtain ⟨t,rfl⟩:=r;rfl
 | flt _=>obtain ⟨t,rfl⟩:=r;rfl
 | ref _=>cases r;rfl
 | ty _=>cases r;rfl
theorem RelV.inj {x y:V} {u:Value} (r:RelV x u) (q:RelV y u):x=y:=Option.some.inj (r.abs.symm.trans q.abs)
theorem Vals.inj:∀ {xs ys:List V} {us:List Value},Vals xs us→Vals ys us→xs=ys
 | _,_,_,.nil,.nil=>rfl
 | _,_,_,.cons r t,.cons r' t'=>by rw [r.inj r',Vals.inj t t']
section
variable {X:Cx} {pins:List (Addr × Obj)} {σ:St} {H:Hp} {s:Shared} {a:Addr} {xs ys:List V}
theorem SqL.of {K:PySem.W.Frag} (h:H a=some (.lst xs)):SqL K H a xs:=.inl (.inl h)
theorem SqT.of {K:PySem.W.Frag} (h:H a=some (.tup xs)):SqT K H a xs:=.inl (.inl h)
theorem Inv.list (I:Inv X pins σ H s) (h:SqL X.K H a xs):∃ its:List Value,Vals xs its∧PlainL s.heap a its.toArray∧xs.length≤sizeLine:=by
 rcases h with h | ⟨o,its,n,hk,hc,hd,hs,hz,r⟩
 ·obtain ⟨z,its,n,r,e⟩:=h.ok I.hok
  exact ⟨its,r,⟨_,n,e,rfl,rfl,rfl⟩,z⟩
 ·refine ⟨its.toList,r,⟨o,n,I.kIn a o hk,hc,hd,by simpa using hs⟩,?_⟩
  have e:=r.length
  simp only [Array.length_toList] at e
  omega
theorem Inv.tuple (I:Inv X pins σ H s) (h:SqT X.K H a xs):∃ its:List Value,Vals xs its∧IsTup s.heap a its.toArray∧xs.length≤sizeLine:=by
 rcases h with h | ⟨o,its,n,hk,hc,hs,hz,r⟩
 ·obtain ⟨z,its,r,p⟩:=h.ok I.hok
  exact ⟨its,r,p.tup,z⟩
 ·refine ⟨its.toList,r,⟨o,I.kIn a o hk,hc,n,by simpa using hs⟩,?_⟩
  have e:=r.length
  simp only [Array.length_toList] at e
  omega
theorem Inv.list_inj (I:Inv X pins σ H s) (h:SqL X.K H a xs) (h':SqL X.K H a ys):xs=ys:=by
 obtain ⟨its,r,⟨o,n,e,_,_,d⟩,_⟩:=I.list h
 obtain ⟨its',r',⟨o',n',e',_,_,d'⟩,_⟩:=I.list h'
 rw [e] at e';cases e'
 rw [d] at d'
 injection d' with d1 _
 have:its=its':=by simpa using congrArg Array.toList d1
 subst this
 exact r.inj r'
theorem Inv.tuple_inj (I:Inv X pins σ H s) (h:SqT X.K H a xs) (h':SqT X.K H a ys):xs=ys:=by
 obtain ⟨its,r,⟨o,e,_,n,d⟩,_⟩:=I.tuple h
 obtain ⟨its',r',⟨o',e',_,n',d'⟩,_⟩:=I.tuple h'
 rw [e] at e';cases e'
 rw [d] at d'
 injection d' with d1 _
 have:its=its':=by simpa using congrArg Array.toList d1
 subst this
 exact r.inj r'
end
abbrev Cx.wish (X:Cx) (E:Value→Shared→Prop):Cx:={ X with xe:=E }
abbrev Cx.nox (X:Cx):Cx:=X.wish fun _ _=>False
theorem Cx.Ok.wish {X:Cx} (ok:X.Ok) (E:Value→Shared→Prop):(X.wish E).Ok :=
 ⟨ok.mod,ok.kind,ok.glob,ok.blt,ok.above,ok.inj,ok.has,ok.cab,ok.hd,ok.frames,ok.stk,ok.exf,ok.bs,ok.bsz,ok.noex,ok.exfs,ok.funs,ok.frf⟩
theorem Cx.Ok.unwish {X:Cx} {E:Value→Shared→Prop} (ok:(X.wish E).Ok):X.Ok :=
 ⟨ok.mod,ok.kind,ok.glob,ok.blt,ok.above,ok.inj,ok.has,ok.cab,ok.hd,ok.frames,ok.stk,ok.exf,ok.bs,ok.bsz,ok.noex,ok.exfs,ok.funs,ok.frf⟩
section
variable {X:Cx} {pins:List (Addr × Obj)} {σ:St} {H:Hp} {s:Shared} {E:Value→Shared→Prop}
theorem Inv.wish (I:Inv X pins σ H s) (E:Value→Shared→Prop):Inv (X.wish E) pins σ H s:=⟨I.ok.wish E,I.os,I.bare,I.base,I.loc,I.cell,I.free,I.freeC,I.pin,I.hok,I.len⟩
theorem Inv.unwish (I:Inv (X.wish E) pins σ H s):Inv X pins σ H s:=⟨I.ok.unwish,I.os,I.bare,I.base,I.loc,I.cell,I.free,I.freeC,I.pin,I.hok,I.len⟩
theorem SP.unwish {D:Ends} {f:Flow} {s':Shared} (h:SP (X.wish E) pins D f s'):SP X pins D f s':=by
 cases f with
 | next=>obtain ⟨σ',H',I,q⟩:=h;exact ⟨σ',H',I.unwish,q⟩
 | brk=>obtain ⟨σ',H',I,q⟩:=h;exact ⟨σ',H',I.unwish,q⟩
 | cont=>obtain ⟨σ',H',I,q⟩:=h;exact ⟨σ',H',I.unwish,q⟩
 | ret u=>obtain ⟨v,σ',H',I,r,q⟩:=h;exact ⟨v,σ',H',I.unwish,r,q⟩
theorem PSs.nox {st:List Stmt} {t:TS} (h:PSs X.nox st t):PSs X st t:=fun pins s σ H D I hw =>
 wpAny_mono (h pins s σ H D (I.wish _) hw) (fun _ _ q=>q.unwish) fun _ _ z=>False.elim z
end
section
variable {X:Cx} {st:Stmt} {rest:List Stmt} {t u:TS} {e:Expr} {te:TE} {pos:Pos}
def tNext:TS:=fun D σ H=>D.nx σ H
def tSeq (t u:TS):TS:=fun D σ H=>t { D with nx:=u D } σ H
theorem Jv:PSs X [] tNext:=fun _ _ σ H _ I h=>wpAny_execs_nil ⟨σ,H,I,h⟩
theorem J3 (h1:PS X st t) (h2:PSs X rest u):PSs X (st :: rest) (tSeq t u):=by
 intro pins s σ H D I h
 refine wpAny_execs_cons (thn (h1 pins s σ H { D with nx:=u D } I h) fun f s1 q=>?_)
 cases f with
 | next =>
  obtain ⟨σ',H',I',q⟩:=q
  exact h2 pins s1 σ' H' D I' q
 | ret v=>exact q
 | brk=>exact q
 | cont=>exact q
theorem J9 (h1:PS X st t):PSs X [st] t:=by
 intro pins s σ H D I h
 refine wpAny_execs_cons (thn (h1 pins s σ H D I h) fun f s1 q=>?_)
 cases f with
 | next=>exact wpAny_execs_nil q
 | ret v=>exact q
 | brk=>exact q
 | cont=>exact q
theorem Inv.quiet {pins:List (Addr × Obj)} {σ:St} {H:Hp} {s:Shared} (I:Inv X pins σ H s):interactive X.env=false:=by simp [interactive,I.ok.kind]
def tDrop (te:TE):TS:=fun D σ H=>te σ H fun _ H1=>D.nx σ H1
theorem J12 (he:PE X e te) (hs:swapsWith e none pos.line X.env=pure false:=by rfl):PS X (.Expr e pos) (tDrop te):=by
 intro pins s σ H D I h
 exact wpAny_Expr_any (thn (he pins s σ H _ I h) fun v s1 ⟨x,H1,I1,r1,q1⟩=>⟨σ,H1,I1,q1⟩) I.quiet hs
def tRet (te:TE):TS:=fun D σ H=>te σ H D.rt
theorem Jl (he:PE X e te):PS X (.Return (some e) pos) (tRet te):=by
 intro pins s σ H D I h
 exact wpAny_Return_some (thn (he pins s σ H _ I h) fun v s1 ⟨x,H1,I1,r1,q1⟩=>⟨x,σ,H1,I1,r1,q1⟩)
def tIfS (c:TT) (t u:TS):TS:=fun D σ H=>c σ H fun b H1=>if b=true then t D σ H1 else u D σ H1
theorem ps_if {c:Expr} {a b:List Stmt} {tc:TT} (hc:PT X c tc) (ha:PSs X a t) (hb:PSs X b u):PS X (.If c a b pos) (tIfS tc t u):=by
 intro pins s σ H D I h
 refine wpAny_If (thn (hc pins s σ H _ I h) fun d s1 ⟨H1,I1,q1⟩=>?_)
 cases d with
 | true=>exact ha pins s1 σ H1 D I1 q1
 | false=>exact hb pins s1 σ H1 D I1 q1
def tNever:TS:=fun _ _ _=>False
theorem J3y:PS X st tNever:=fun _ _ _ _ _ _ h=>h.elim
end
abbrev TG:=V→St→Hp→(St→Hp→Prop)→Prop
abbrev TGs:=List V→St→Hp→(St→Hp→Prop)→Prop
def PG (X:Cx) (target:Expr) (t:TG):Prop :=
 ∀ (pins:List (Addr × Obj)) (s:Shared) (σ:St) (H:Hp) (v:V) (u:Value) (Q:St→Hp→Prop),Inv X pins σ H s→RelV v u→t v σ H Q→
  wpAny (model X.prog X.w) X.A (assign target X.env u) (fun _ s'=>∃ σ' H',Inv X pins σ' H' s'∧Q σ' H') X.xe s
def PGs (X:Cx) (ts:List Expr) (t:TGs):Prop :=
 ∀ (pins:List (Addr × Obj)) (s:Shared) (σ:St) (H:Hp) (vs:List V) (us:List Value) (Q:St→Hp→Prop),Inv X pins σ H s→Vals vs us→t vs σ H Q→
  wpAny (model X.prog X.w) X.A (assignInOrder ((assignEach ts X.env).map (·.2)) us) (fun _ s'=>∃ σ' H',Inv X pins σ' H' s'∧Q σ' H') X.xe s
abbrev TSet:=V→V→V→Hp→(Hp→Prop)→Prop
def PSet (X:Cx) (t:TSet):Prop :=
 ∀ (pins:List (Addr × Obj)) (s:Shared) (σ:St) (H:Hp) (o i v:V) (ov iv u:Value) (Q:Hp→Prop),Inv X pins σ H s→RelV o ov→RelV i iv→RelV v u→t o i v H Q→
  wpAny (model X.prog X.w) X.A (setItem ov iv u) (fun _ s'=>∃ H',Inv X pins σ H' s'∧Q H') X.xe s
abbrev TIp:=V→V→Hp→VK→Prop
def PIp (X:Cx) (op:Operator) (t:TIp):Prop :=
 ∀ (pins:List (Addr × Obj)) (s:Shared) (σ:St) (H:Hp) (x y:V) (v u:Value) (Q:VK),Inv X pins σ H s→RelV x v→RelV y u→t x y H Q→
  wpAny (model X.prog X.w) X.A (inplaceOp op v u) (EP X pins σ Q) X.xe s
section
variable {X:Cx} {pos:Pos}
def gName (i:Nat):TG:=fun v σ H Q=>Q (σ.set i (some v)) H
theorem J2l {i:Nat} {x:Str} (hN:X.N.Nodup) (hi:X.N[i]?=some x) (hx:Loc X.env.scope x) (hf:X.fn x=true∨X.env.scope.names.lookup x=some .local:=by first | exact .inl rfl | exact .inr rfl | assumption):PG X (.Name x pos) (gName i):=by
 intro pins s σ H v u Q I r h
 exact wpAny_assign_Name (store_ok I hN hi hx r (fun s' I'=>⟨_,H,I',h⟩) hf)
def gNil:TGs:=fun vs σ H Q=>vs=[]∧Q σ H
def gCons (t:TG) (u:TGs):TGs:=fun vs σ H Q=>∃ v r,vs=v :: r∧t v σ H fun σ' H'=>u r σ' H' Q
theorem pgs_nil:PGs X [] gNil:=by
 intro pins s σ H vs us Q I r h
 obtain ⟨e,h⟩:=h
 subst e
 cases r
 exact assignInOrder_nil ⟨σ,H,I,h⟩
theorem J4d {e:Expr} {es:List Expr} {t:TG} {u:TGs} (h1:PG X e t) (h2:PGs X es u)
  (hs:(assignEach (e :: es) X.env).map (·.2)=assign e X.env :: (assignEach es X.env).map (·.2):=by rfl):PGs X (e :: es) (gCons t u):=by
 intro pins s σ H vs us Q I r h
 obtain ⟨v,vr,e1,h⟩:=h
 subst e1
 cases r with
 | cons r rr =>
  rw [hs]
  refine assignInOrder_cons (thn (h1 pins s σ H _ _ _ I r h) fun _ s1 ⟨σ1,H1,I1,q1⟩=>?_)
  exact h2 pins s1 σ1 H1 _ _ Q I1 rr q1
def gTup (K:PySem.W.Frag) (n:Nat) (t:TGs):TG:=fun v σ H Q=>∃ a xs,v=.ref a∧SqT K H a xs∧xs.length=n∧t xs σ H Q
theorem pg_tup {es:List Expr} {k:Nat} {t:TGs} {n:Nat} (hc:X.calm=true) (h:PGs X es t)
  (hn:(assignEach es X.env).length=n:=by rfl) (hst:(assignEach es X.env).findIdx? (·.1)=none:=by rfl):PG X (.Tuple es k pos) (gTup X.K n t):=by
 intro pins s σ H v u Q I r hw
 obtain ⟨a,xs,e1,hq,hl,hw⟩:=hw
 subst e1
 cases r
 obtain ⟨its,rv,ht,hz⟩:=I.tuple hq
 refine assign_Tuple_tuple (I.ok.hd hc) ht (by simp [hn,← hl,rv.length]) hst fun h' hx=>?_
 have I1:Inv X pins σ H { s with heap:=h' }:=I.kept (t':=s.toks) fun b o e=>hx b o (Nat.ne_of_lt (Heap.lt_size e)) e
 exact h pins _ σ H xs _ Q I1 (by simpa using rv) hw
def gSub (to ti:TE) (t:TSet):TG:=fun v σ H Q=>to σ H fun o H1=>ti σ H1 fun i H2=>t o i v H2 fun H3=>Q σ H3
theorem pg_sub {o i:Expr} {to ti:TE} {t:TSet} (ho:PE X o to) (hi:PE X i ti) (hs:PSet X t)
  (ha:∀ v,assign (.Subscript o i pos) X.env v=(do
   let ov ← holding [v] (eval o X.env)
   let iv ← holding [v,ov] (eval i X.env)
   standAt pos
   holding [v,ov,iv] (setItem ov iv v)
   release [v,ov,iv] []):=by intro _;rfl):PG X (.Subscript o i pos) (gSub to ti t):=by
 intro pins s σ H v u Q I r h
 rw [ha]
 refine wpAny_bind (wpAny_holding (thn (ho pins s σ H _ I h) fun ov s1 ⟨x,H1,I1,r1,q1⟩=>?_))
 refine wpAny_bind (wpAny_holding (thn (hi pins s1 σ H1 _ I1 q1) fun iv s2 ⟨y,H2,I2,r2,q2⟩=>?_))
 refine wpAny_bind (wpAny_standAt (wpAny_bind (wpAny_holding (thn (hs pins s2 σ H2 x y v ov iv u _ I2 r1 r2 r q2) fun _ s3 ⟨H3,I3,q3⟩=>?_))))
 exact wpAny_release ⟨σ,H3,I3,q3⟩
def tAsg (te:TE) (g:TG):TS:=fun D σ H=>te σ H fun x H1=>g x σ H1 D.nx
theorem ps_asg {tg e:Expr} {te:TE} {g:TG} (he:PE X e te) (hg:PG X tg g) (hs:swapsWithSole [tg] e pos.line X.env=pure false:=by rfl) (hw:swappedStores [tg] e X.env=pure none:=by rfl)
  (h1:(assignEach [tg] X.env).map (·.2)=[assign tg X.env]:=by rfl):PS X (.Assign [tg] e pos) (tAsg te g):=by
 intro pins s σ H D I h
 refine wpAny_Assign_stores (thn (he pins s σ H _ I h) fun v s1 ⟨x,H1,I1,r1,q1⟩=>?_) hs hw
 rw [h1]
 exact thn (hg pins s1 σ H1 x v _ I1 r1 q1) fun _ s2 q=>q
theorem Jn {i:Nat} {x:Str} {e:Expr} {te:TE} {pos':Pos} (hN:X.N.Nodup) (hi:X.N[i]?=some x) (hx:Loc X.env.scope x) (he:PE X e te) (hs:swapsWith e (some (.Name x pos')) pos.line X.env=pure false:=by rfl) (hf:X.fn x=true∨X.env.scope.names.lookup x=some .local:=by first | exact .inl rfl | exact .inr rfl | assumption) :
  PS X (.Assign [.Name x pos'] e pos) (tAsg te (gName i)):=by
 intro pins s σ H D I h
 refine wpAny_Assign_Name (thn (he pins s σ H _ I h) fun v s1 ⟨y,H1,I1,r1,q1⟩=>?_) hs
 exact store_ok I1 hN hi hx r1 (fun s2 I2=>⟨_,H1,I2,q1⟩) hf
def tAugS (to ti te:TE) (tget:V→V→Hp→VK→Prop) (tip:TIp) (tset:TSet):TS:=fun D σ H=>to σ H fun o H1=>ti σ H1 fun i H2=>tget o i H2 fun x H3=>te σ H3 fun y H4=>tip x y H4 fun z H5=>tset o i z H5 fun H6=>D.nx σ H6
def PGet (X:Cx) (t:V→V→Hp→VK→Prop):Prop :=
 ∀ (pins:List (Addr × Obj)) (s:Shared) (σ:St) (H:Hp) (o i:V) (ov iv:Value) (Q:VK),Inv X pins σ H s→RelV o ov→RelV i iv→t o i H Q→
  wpAny (model X.prog X.w) X.A (getItem ov iv) (EP X pins σ Q) X.xe s
theorem ps_augS {o i e:Expr} {to ti te:TE} {tget:V→V→Hp→VK→Prop} {tip:TIp} {tset:TSet} {op:Operator} {tpos:Pos} (ho:PE X o to) (hi:PE X i ti) (hg:PGet X tget) (he:PE X e te) (hp:PIp X op tip) (hs:PSet X tset)
  (ha:∀ ov iv new,augStore i ov iv new=(do holding [new,ov,iv] (setItem ov iv new);release [new,ov,iv] [];pure .next):=by intros;rfl):PS X (.AugAssign (.Subscript o i tpos) op e pos) (tAugS to ti te tget tip tset):=by
 intro pins s σ H D I h
 refine wpAny_AugAssign_SubscriptAny (thn (ho pins s σ H _ I h) fun ov s1 ⟨x1,H1,I1,r1,q1⟩=>?_) ha
 refine thn (hi pins s1 σ H1 _ I1 q1) fun iv s2 ⟨x2,H2,I2,r2,q2⟩=>?_
 refine thn (hg pins s2 σ H2 x1 x2 ov iv _ I2 r1 r2 q2) fun old s3 ⟨x3,H3,I3,r3,q3⟩=>?_
 refine thn (he pins s3 σ H3 _ I3 q3) fun v s4 ⟨x4,H4,I4,r4,q4⟩=>?_
 refine thn (hp pins s4 σ H4 x3 x4 old v _ I4 r3 r4 q4) fun new s5 ⟨x5,H5,I5,r5,q5⟩=>?_
 exact thn (hs pins s5 σ H5 x1 x2 x5 ov iv new _ I5 r1 r2 r5 q5) fun _ s6 ⟨H6,I6,q6⟩=>⟨σ,H6,I6,q6⟩
def ipI (f:Int→Int→Int):TIp:=fun x y H Q=>∃ i j,x=.int i∧y=.int j∧Q (.int (f i j)) H
theorem ip_add:PIp X .Add (ipI fun i j=>i + j):=by
 intro pins s σ H x y v u Q I r1 r2 h
 obtain ⟨i,j,e1,e2,q⟩:=h
 subst e1;subst e2
 obtain ⟨t,rfl⟩:=r1
 obtain ⟨t',rfl⟩:=r2
 exact iadd_int ⟨.int _,H,I.tok _,⟨_,rfl⟩,q⟩
theorem ip_sub:PIp X .Sub (ipI fun i j=>i - j):=by
 intro pins s σ H x y v u Q I r1 r2 h
 obtain ⟨i,j,e1,e2,q⟩:=h
 subst e1;subst e2
 obtain ⟨t,rfl⟩:=r1
 obtain ⟨t',rfl⟩:=r2
 exact isub_int ⟨.int _,H,I.tok _,⟨_,rfl⟩,q⟩
end
section
variable {X:Cx} {pos:Pos}
def tWhile (c:TT) (tb:TS):TS:=fun D σ H=>∃ W:Nat→St→Hp→Prop,(∃ m,W m σ H)∧∀ m σ H,W m σ H→
 c σ H fun b H1=>if b=true then ∃ N:St→Hp→Prop,(∀ σ' H',N σ' H'→∃ m',m' < m∧W m' σ' H')∧tb { D with nx:=N,ct:=N,bk:=D.nx } σ H1 else D.nx σ H1
theorem ps_while {c:Expr} {body:List Stmt} {tc:TT} {tb:TS} (hp:PassesOwn (model X.prog X.w) X.A X.env X.xe) (hc:PT X c tc) (hb:PSs X body tb):PS X (.While c body [] pos) (tWhile tc tb):=by
 intro pins s σ H D I h
 obtain ⟨W,⟨m0,w0⟩,turn⟩:=h
 refine wpAny_While (codeAny_whileLoop (fun n s'=>∃ σ' H',Inv X pins σ' H' s'∧W n σ' H') ?_ m0 ⟨σ,H,I,w0⟩)
 rintro n s1 ⟨σ1,H1,I1,w1⟩
 refine wpAny_passesOwn hp (thn (hc pins s1 σ1 H1 _ I1 (turn n σ1 H1 w1)) fun b s2 ⟨H2,I2,q2⟩=>?_)
 cases b with
 | true =>
  obtain ⟨N,hN,q2⟩:=q2
  rw [if_pos rfl]
  refine wpAny_passesOwn hp (thn (hb pins s2 σ1 H2 _ I2 q2) fun f s3 q3=>?_)
  cases f with
  | next =>
   obtain ⟨σ3,H3,I3,n3⟩:=q3
   obtain ⟨m',hm,w3⟩:=hN σ3 H3 n3
   exact ⟨m',hm,σ3,H3,I3,w3⟩
  | cont =>
   obtain ⟨σ3,H3,I3,n3⟩:=q3
   obtain ⟨m',hm,w3⟩:=hN σ3 H3 n3
   exact ⟨m',hm,σ3,H3,I3,w3⟩
  | brk=>exact q3
  | ret v=>exact q3
 | false =>
  rw [if_neg Bool.false_ne_true]
  exact wpAny_execs_nil ⟨σ1,H2,I2,q2⟩
end
structure It where
 go:Nat→Hp→Prop
 yld:Nat→Hp→V→Hp→Prop
 stop:Nat→Hp→Prop
def FpOk (X:Cx) (pins:List (Addr × Obj)) (H:Hp) (b:Addr):Prop :=
 H b=none∧b≠X.env.locals∧b ∉ X.fs∧(b∈X.ex∨X.s₀.heap.objs.size≤b)∧(∀ x c,X.env.cells.lookup x=some c→c≠b)∧∀ p∈X.pn ++ pins,p.1≠b
theorem Inv.fpOk {X:Cx} {pins:List (Addr × Obj)} {σ:St} {H H':Hp} {s:Shared} {b:Addr} (I:Inv X pins σ H s) (hb:s.heap.objs.size≤b) (hn:H' b=none):FpOk X pins H' b:=by
 refine ⟨hn,Nat.ne_of_gt (Nat.lt_of_lt_of_le I.lt hb),I.nofs hb,.inr (Nat.le_trans I.sz hb),fun x c e z=>?_,fun p hp z=>?_⟩
 ·obtain ⟨v,q⟩:=I.cell x c e
  exact absurd (Nat.lt_of_lt_of_le q.lt (by rw [z];exact hb)) (Nat.lt_irrefl _)
 ·exact absurd (Nat.lt_of_lt_of_le (Heap.lt_size (I.pin p hp).1) (by rw [z];exact hb)) (Nat.lt_irrefl _)
structure Turn (P:Program) (w:World) (K:PySem.W.Frag) (tg:Expr) (J:It) (fp:List Addr) (it:Addr) (tn:Nat→Heap→Prop):Prop where
 mem:it∈fp
 obj:∀ i h,tn i h→∀ b∈fp,∃ o,h.get? b=some o∧∀ v,o.data≠.cell v
 keep:∀ i h h',tn i h→(∀ b∈fp,∀ o,h.get? b=some o→h'.get? b=some o)→tn i h'
 item:∀ (X:Cx),X.prog=P→X.w=w→X.K=K→X.calm=true→∀ (i:Nat) (pins:List (Addr × Obj)) (s:Shared) (σ:St) (H:Hp) (E:Value→Shared→Prop),Inv X pins σ H s→(∀ b∈fp,FpOk X pins H b)→tn i s.heap→J.go i H→
  wpAny (model P w) X.A (pyNext (.ref it)) (fun r s1=>∃ u,r=some u∧
   wpAny (model P w) X.A (letOwnedTupleGo tg (.ref it) u) (fun _ s2=>∃ x H',Inv X pins σ H' s2∧RelV x u∧J.yld i H x H'∧tn (i + 1) s2.heap∧∀ b∈fp,H' b=none) E s1) E s
 done:∀ (X:Cx),X.prog=P→X.w=w→X.K=K→X.calm=true→∀ (i:Nat) (pins:List (Addr × Obj)) (s:Shared) (σ:St) (H:Hp) (E:Value→Shared→Prop),Inv X pins σ H s→(∀ b∈fp,FpOk X pins H b)→tn i s.heap→J.stop i H→
  wpAny (model P w) X.A (pyNext (.ref it)) (fun r s1=>r=none∧Inv X pins σ H s1) E s
 self:∀ (A:Around) (i:Nat) (s:Shared) (Q:Value→Shared→Prop) (E:Value→Shared→Prop),tn i s.heap→Q (.ref it) s→wpAny (model P w) A (pyIter (.ref it)) Q E s
abbrev TI:=St→Hp→(It→Hp→Prop)→Prop
def PIE (X:Cx) (pins:List (Addr × Obj)) (σ:St) (tg:Expr) (R:It→Hp→Prop) (itv:Value) (s2:Shared):Prop :=
 ∃ (it:Addr) (fp:List Addr) (tn:Nat→Heap→Prop) (J:It) (H':Hp),itv=.ref it∧Inv X pins σ H' s2∧Turn X.prog X.w X.K tg J fp it tn∧tn 0 s2.heap∧(∀ b∈fp,FpOk X pins H' b)∧R J H'
def PI (X:Cx) (tg iter:Expr) (wi:TI):Prop :=
 ∀ (pins:List (Addr × Obj)) (s:Shared) (σ:St) (H:Hp) (R:It→Hp→Prop),Inv X pins σ H s→wi σ H R→
  wpAny (model X.prog X.w) X.A (eval iter X.env) (fun v s1=>wpAny (model X.prog X.w) X.A (pyIter v) (PIE X pins σ tg R) X.xe s1) X.xe s
theorem go_of {M : Model} {A : Around} {E : Value → Shared → Prop} {s : Shared} {tg : Expr} {it : Addr} {u : Value} {o : Obj} {n : String} {vs : Array Value} {Q : Unit → Shared → Prop} (ho : s.heap.get? it = some o) (hc : o.cls = .type n) (hd : o.data = .fields vs)
    (hn : ["enumerate", "zip", "dict_itemiterator", "dict_reverseitemiterator", "odict_iterator", "itertools.zip_longest", "itertools.pairwise"].contains n = false) (hQ : Q () s) : wpAny M A (letOwnedTupleGo tg (.ref it) u) Q E s := by
  unfold letOwnedTupleGo
  cases tg <;> first
    | exact wpAny_pure hQ
    | (cases u <;> first
        | exact wpAny_pure hQ
        | (refine wpAny_bind (wpAny_load ho ?_)
           rw [hc, hd]
           show wpAny M A (if (["enumerate", "zip", "dict_itemiterator", "dict_reverseitemiterator", "odict_iterator", "itertools.zip_longest", "itertools.pairwise"].contains n && vs[0]? == some (rawInt _)) = true then _ else _) Q E s
           rw [if_neg (by intro h; rw [hn, Bool.false_and] at h; cases h)]
           exact wpAny_pure hQ))
def Itl (K:PySem.W.Frag) (a:Addr):It :=
 ⟨fun i H=>∃ xs x,SqL K H a xs∧xs[i]?=some x,fun i H x H'=>H'=H∧∀ xs,SqL K H a xs→xs[i]?=some x,fun i H=>∃ xs,SqL K H a xs∧xs.length≤i⟩
def Itt (K:PySem.W.Frag) (a:Addr):It :=
 ⟨fun i H=>∃ xs x,SqT K H a xs∧xs[i]?=some x,fun i H x H'=>H'=H∧∀ xs,SqT K H a xs→xs[i]?=some x,fun i H=>∃ xs,SqT K H a xs∧xs.length≤i⟩
def Itr (lo:Int) (n:Nat):It:=⟨fun i _=>i < n,fun i H x H'=>H'=H∧x=.int (lo + i),fun i _=>n≤i⟩
theorem turn_list {P:Program} {w:World} {K:PySem.W.Frag} {tg:Expr} (a it:Addr):Turn P w K tg (Itl K a) [it] it (fun i h=>h.IsListIter it a i) where
 mem:=by simp
 obj:=fun i h st b hb=>by
  have e:b=it:=by simpa using hb
  subst e
  obtain ⟨o,e,c,d⟩:=st
  exact ⟨o,e,fun v z=>by rw [d] at z;cases z⟩
 keep:=fun i h h' st k=>st.at fun o e=>k it (by simp) o e
 item:=by
  intro X hP hw hK hc i pins s σ H E I hf st hg
  subst hP hw hK
  obtain ⟨xs,x,hq,hx⟩:=hg
  obtain ⟨its,rv,p,hz⟩:=I.list hq
  obtain ⟨u,hu,ru⟩:=rv.get hx
  obtain ⟨f0,f1,f2,f3,f4,f5⟩:=hf it (by simp)
  refine wpAny_pyNext_list_item st p.isList (x:=u) (by simpa using hu) fun h' st' sb=>?_
  have I1:Inv X pins σ H { s with heap:=h' }:=I.turned (t':=s.toks) (fun b o hb e=>(sb.2 b hb).trans e) f0 f1 f3 f4 f5
  obtain ⟨o,e,c,d⟩:=id st'
  exact ⟨u,rfl,go_of (s:={ s with heap:=h' }) e c d (by decide) ⟨x,H,I1,ru,⟨rfl,fun ys hy=>by rw [I.list_inj hy hq];exact hx⟩,st',fun b hb=>(hf b hb).1⟩⟩
 done:=by
  intro X hP hw hK hc i pins s σ H E I hf st hg
  subst hP hw hK
  obtain ⟨xs,hq,hx⟩:=hg
  obtain ⟨its,rv,p,hz⟩:=I.list hq
  obtain ⟨f0,f1,f2,f3,f4,f5⟩:=hf it (by simp)
  have hl:=rv.length
  exact wpAny_pyNext_list_end (I.ok.hd hc) st p.isList (by simp;omega) fun h' eb=>⟨rfl,I.turned (t':=s.toks) (fun b o hb e=>eb b o hb e) f0 f1 f3 f4 f5⟩
 self:=fun _ _ _ _ _ st h=>wpAny_pyIter_listiter st h
theorem turn_tuple {P:Program} {w:World} {K:PySem.W.Frag} {tg:Expr} (a it:Addr):Turn P w K tg (Itt K a) [it] it (fun i h=>h.IsTupleIter it a i) where
 mem:=by simp
 obj:=fun i h st b hb=>by
  have e:b=it:=by simpa using hb
  subst e
  obtain ⟨o,e,c,d⟩:=st
  exact ⟨o,e,fun v z=>by rw [d] at z;cases z⟩
 keep:=fun i h h' st k=>st.at fun o e=>k it (by simp) o e
 item:=by
  intro X hP hw hK hc i pins s σ H E I hf st hg
  subst hP hw hK
  obtain ⟨xs,x,hq,hx⟩:=hg
  obtain ⟨its,rv,p,hz⟩:=I.tuple hq
  obtain ⟨u,hu,ru⟩:=rv.get hx
  obtain ⟨f0,f1,f2,f3,f4,f5⟩:=hf it (by simp)
  refine wpAny_pyNext_tuple_item st (show s.heap.IsTuple a its.toArray from p) (x:=u) (by simpa using hu) fun h' st' sb=>?_
  have I1:Inv X pins σ H { s with heap:=h' }:=I.turned (t':=s.toks) (fun b o hb e=>(sb.2 b hb).trans e) f0 f1 f3 f4 f5
  obtain ⟨o,e,c,d⟩:=id st'
  exact ⟨u,rfl,go_of (s:={ s with heap:=h' }) e c d (by decide) ⟨x,H,I1,ru,⟨rfl,fun ys hy=>by rw [I.tuple_inj hy hq];exact hx⟩,st',fun b hb=>(hf b hb).1⟩⟩
 done:=by
  intro X hP hw hK hc i pins s σ H E I hf st hg
  subst hP hw hK
  obtain ⟨xs,hq,hx⟩:=hg
  obtain ⟨its,rv,p,hz⟩:=I.tuple hq
  obtain ⟨f0,f1,f2,f3,f4,f5⟩:=hf it (by simp)
  have hl:=rv.length
  exact wpAny_pyNext_tuple_end (I.ok.hd hc) st (show s.heap.IsTuple a its.toArray from p) (by simp;omega) fun h' eb=>⟨rfl,I.turned (t':=s.toks) (fun b o hb e=>eb b o hb e) f0 f1 f3 f4 f5⟩
 self:=fun _ _ _ _ _ st h=>wpAny_pyIter_tupleiter st h
theorem turn_range {P:Program} {w:World} {K:PySem.W.Frag} {tg:Expr} (it:Addr) (lo:Int) (n:Nat):Turn P w K tg (Itr lo n) [it] it (fun i h=>IsRangeIter h it (lo + (i:Nat) * 1) ((n:Int) - (i:Nat)) 1) where
 mem:=by simp
 obj:=fun i h st b hb=>by
  have e:b=it:=by simpa using hb
  subst e
  exact ⟨_,st,fun v z=>by
   have z':Data.fields _=Data.cell v:=z
   cases z'⟩
 keep:=fun i h h' st k=>k it (by simp) _ st
 item:=by
  intro X hP hw hK hc i pins s σ H E I hf st hg
  subst hP hw hK
  obtain ⟨f0,f1,f2,f3,f4,f5⟩:=hf it (by simp)
  have W:=Walks.range (prog:=X.prog) (w:=X.w) (I.ok.hd hc) it lo 1 n
  refine W.item i s _ _ hg st fun v h' tk hv st' kk=>?_
  obtain ⟨t,rfl⟩:=hv
  have I1:Inv X pins σ H { s with heap:=h',toks:=tk }:=I.turned (fun b o hb e=>kk b o (by simpa using hb) e) f0 f1 f3 f4 f5
  refine ⟨_,rfl,go_of (s:={ s with heap:=h',toks:=tk }) (n:="range_iterator") st' rfl rfl (by decide) ⟨.int (lo + i),H,I1,⟨t,?_⟩,⟨rfl,rfl⟩,st',fun b hb=>(hf b hb).1⟩⟩
  rw [Int.mul_one]
 done:=by
  intro X hP hw hK hc i pins s σ H E I hf st hg
  subst hP hw hK
  obtain ⟨f0,f1,f2,f3,f4,f5⟩:=hf it (by simp)
  exact wpAny_pyNext_range_end (I.ok.hd hc) st (by have:n≤i:=hg;omega) fun h' eb=>⟨rfl,I.turned (t':=s.toks) (fun b o hb e=>eb b o hb e) f0 f1 f3 f4 f5⟩
 self:=fun _ _ _ _ _ st h=>wpAny_pyIter_rangeiter st h
end L2
namespace L2
open PySem PySem.Spec PyProof.Rows
section
variable {X:Cx} {tg:Expr}
def iList (K:PySem.W.Frag) (tl:TE):TI:=fun σ H R=>tl σ H fun x H1=>∃ a,x=.ref a∧(∃ xs,SqL K H1 a xs)∧R (Itl K a) H1
def iTup (K:PySem.W.Frag) (tl:TE):TI:=fun σ H R=>tl σ H fun x H1=>∃ a,x=.ref a∧(∃ xs,SqT K H1 a xs)∧R (Itt K a) H1
theorem J5l {l:Expr} {tl:TE} (hl:PE X l tl):PI X tg l (iList X.K tl):=by
 intro pins s σ H R I h
 refine thn (hl pins s σ H _ I h) fun v s1 ⟨x,H1,I1,r1,q1⟩=>?_
 obtain ⟨a,e,⟨xs,hq⟩,q⟩:=q1
 subst e
 cases r1
 obtain ⟨its,rv,p,hz⟩:=I1.list hq
 refine wpAny_pyIter_list p.isList ?_
 refine ⟨s1.heap.objs.size,[s1.heap.objs.size],_,_,H1,rfl,I1.kept (t':=s1.toks) fun b o e=>Heap.get?_push_of_some _ e,turn_list a _,⟨_,Heap.get?_push_size _ rfl,rfl,rfl⟩,fun b hb=>?_,q⟩
 have e:b=s1.heap.objs.size:=by simpa using hb
 subst e
 exact I1.fpOk (Nat.le_refl _) (I1.hok.fresh (Nat.le_refl _))
theorem pi_tup {l:Expr} {tl:TE} (hl:PE X l tl):PI X tg l (iTup X.K tl):=by
 intro pins s σ H R I h
 refine thn (hl pins s σ H _ I h) fun v s1 ⟨x,H1,I1,r1,q1⟩=>?_
 obtain ⟨a,e,⟨xs,hq⟩,q⟩:=q1
 subst e
 cases r1
 obtain ⟨its,rv,p,hz⟩:=I1.tuple hq
 refine wpAny_pyIter_tuple (show s1.heap.IsTuple a its.toArray from p) ?_
 refine ⟨s1.heap.objs.size,[s1.heap.objs.size],_,_,H1,rfl,I1.kept (t':=s1.toks) fun b o e=>Heap.get?_push_of_some _ e,turn_tuple a _,⟨_,Heap.get?_push_size _ rfl,rfl,rfl⟩,fun b hb=>?_,q⟩
 have e:b=s1.heap.objs.size:=by simpa using hb
 subst e
 exact I1.fpOk (Nat.le_refl _) (I1.hok.fresh (Nat.le_refl _))
theorem range_it {pins:List (Addr × Obj)} {σ:St} {H:Hp} {s:Shared} {R:It→Hp→Prop} {E:Value→Shared→Prop} {lo hi:Int} {t u v:Tok} {tk:Nat} (I:Inv X pins σ H s) (h1:-(2 ^ 62)≤lo) (h2:lo < 2 ^ 62) (h3:-(2 ^ 62)≤hi) (h4:hi < 2 ^ 62)
  (q:R (Itr lo (hi - lo).toNat) H):wpAny (model X.prog X.w) X.A (pyIter (.ref s.heap.objs.size)) (PIE X pins σ tg R) E { s with heap:=s.heap.push { cls:=.type "range",data:=.fields #[.int lo t,.int hi u,.int 1 v] },toks:=tk }:=by
 refine wpAny_pyIter_range (IsRange.new ..) (small_one h1 h2 h3 h4) ?_
 have I1:Inv X pins σ H { s with heap:=s.heap.push { cls:=.type "range",data:=.fields #[.int lo t,.int hi u,.int 1 v] },toks:=tk }:=I.kept fun b o e=>Heap.get?_push_of_some _ e
 refine ⟨(s.heap.push { cls:=.type "range",data:=.fields #[.int lo t,.int hi u,.int 1 v] }).objs.size,[(s.heap.push { cls:=.type "range",data:=.fields #[.int lo t,.int hi u,.int 1 v] }).objs.size],_,_,H,rfl,
  I1.kept (t':=tk) fun b o e=>Heap.get?_push_of_some _ e,turn_range _ lo (hi - lo).toNat,?_,fun b hb=>?_,q⟩
 ·have e1:lo + ((0:Nat):Int) * 1=lo:=by simp
  have e2:(((hi - lo).toNat:Nat):Int) - ((0:Nat):Int)=Builtin.Range.rangeSize lo hi 1:=by rw [rangeSize_one];split <;> omega
  show IsRangeIter _ _ (lo + ((0:Nat):Int) * 1) ((((hi - lo).toNat:Nat):Int) - ((0:Nat):Int)) 1
  rw [e1,e2]
  exact Heap.get?_push_size _ rfl
 ·have e:b=(s.heap.push { cls:=.type "range",data:=.fields #[.int lo t,.int hi u,.int 1 v] }).objs.size:=by simpa using hb
  subst e
  exact I1.fpOk (Nat.le_refl _) (I1.hok.fresh (Nat.le_refl _))
def iRng1 (ta:TA):TI:=fun σ H R=>ta σ H fun vs H1=>∃ j:Int,vs=[.int j]∧-(2 ^ 62)≤j∧j < 2 ^ 62∧R (Itr 0 j.toNat) H1
theorem J63 {a:Expr} {ta:TA} {p pos:Pos} (hg:Gl X "range") (hm:X.mg "range"=none) (ha:PA X [a] ta) (hs:starEach [a] X.env=[(false,eval a X.env)]:=by rfl):PI X tg (.Call (.Name "range" p) [a] [] pos) (iRng1 ta):=by
 intro pins s σ H R I h
 refine Call_ (ld_blt I hg hm boot_range (PyProof.Rows.callWith_type1 (thn (ha pos pins s σ H _ I h) fun us s1 ⟨vs,H1,I1,r1,q1⟩=>?_) hs rfl))
 obtain ⟨j,e,q1,q2,q⟩:=q1
 subst e
 cases r1 with
 | cons r rr =>
  cases rr
  obtain ⟨t,rfl⟩:=r
  exact call_range_1 (range_it I1 (by omega) (by omega) q1 q2 (by simpa using q))
def tFor (wi:TI) (g:TG) (tb:TS):TS:=fun D σ H=>wi σ H fun J H1=>∃ W:Nat→Nat→St→Hp→Prop,(∃ m,W 0 m σ H1)∧∀ i m σ H,W i m σ H→
 (J.stop i H∧D.nx σ H)∨(J.go i H∧∃ N:St→Hp→Prop,(∀ σ' H',N σ' H'→∃ m',m' < m∧W (i + 1) m' σ' H')∧∀ x H',J.yld i H x H'→g x σ H' fun σ2 H2=>tb { D with nx:=N,ct:=N,bk:=D.nx } σ2 H2)
def pinsAt (fp:List Addr) (h:Heap):List (Addr × Obj):=fp.filterMap fun b=>(h.get? b).map fun o=>(b,o)
theorem J2p {fp:List Addr} {h:Heap} {b:Addr} {o:Obj} (hb:b∈fp) (e:h.get? b=some o):(b,o)∈pinsAt fp h:=List.mem_filterMap.mpr ⟨b,hb,by rw [e];rfl⟩
theorem of_pinsAt {fp:List Addr} {h:Heap} {p:Addr × Obj} (hp:p∈pinsAt fp h):p.1∈fp∧h.get? p.1=some p.2:=by
 obtain ⟨b,hb,e⟩:=List.mem_filterMap.mp hp
 cases q:h.get? b with
 | none=>rw [q] at e;cases e
 | some o =>
  rw [q] at e
  have e':(b,o)=p:=Option.some.inj e
  subst e'
  exact ⟨hb,q⟩
theorem Inv.pinned {pins:List (Addr × Obj)} {σ:St} {H:Hp} {s:Shared} {fp:List Addr} (I:Inv X pins σ H s) (hf:∀ b∈fp,FpOk X pins H b) (ho:∀ b∈fp,∃ o,s.heap.get? b=some o∧∀ v,o.data≠.cell v):Inv X (pins ++ pinsAt fp s.heap) σ H s :=
 I.pins_of fun p hp=>(List.mem_append.mp hp).elim (fun z=>I.pin p (List.mem_append_right _ z)) fun z=>by
  obtain ⟨hb,e⟩:=of_pinsAt z
  obtain ⟨f0,f1,f2,_⟩:=hf p.1 hb
  obtain ⟨o,e',d⟩:=ho p.1 hb
  rw [e] at e';cases e'
  exact ⟨e,f0,f1,f2,d⟩
theorem Inv.unpinned {pins pl:List (Addr × Obj)} {σ:St} {H:Hp} {s:Shared} (I:Inv X (pins ++ pl) σ H s):Inv X pins σ H s:=I.pins_of fun p hp=>I.pin p (List.mem_append_right _ (List.mem_append_left _ hp))
theorem ps_for {iter:Expr} {body:List Stmt} {wi:TI} {g:TG} {tb:TS} {pos:Pos} (hp:PassesOwn (model X.prog X.w) X.A X.env X.xe) (hc:X.calm=true) (hi:PI X tg iter wi) (hg:PG X tg g) (hb:PSs X body tb)
  (hs:∀ x,foldedSetIterable iter X.env x=pure x:=by intro _;rfl):PS X (.For tg iter body [] pos) (tFor wi g tb):=by
 intro pins s σ H D I h
 refine wpAny_For (thn (hi pins s σ H _ I h) fun v s1 h1=>thn h1 fun itv s2 h2=>?_) hs
 obtain ⟨it,fp,tn,J,H2,e,I2,T,st2,f2,W,⟨m0,w0⟩,turn⟩:=h2
 subst e
 have stat:∀ {H':Hp},(∀ b∈fp,H' b=none)→∀ b∈fp,FpOk X pins H' b:=fun hn b hb=>⟨hn b hb,(f2 b hb).2⟩
 refine codeAny_forLoop_any (fun n s'=>∃ i σ' H',Inv X pins σ' H' s'∧tn i s'.heap∧(∀ b∈fp,H' b=none)∧W i n σ' H') ?_ m0 ⟨0,σ,H2,I2,st2,fun b hb=>(f2 b hb).1,w0⟩
 rintro n s3 ⟨i,σ3,H3,I3,st3,fr3,w3⟩
 rcases turn i n σ3 H3 w3 with ⟨stop,qn⟩ | ⟨go,N,hN,step⟩
 ·refine wpAny_passesOwn hp (thn (T.done X rfl rfl rfl hc i pins s3 σ3 H3 X.xe I3 (stat fr3) st3 stop) fun r s4 ⟨hr,I4⟩=>?_)
  subst hr
  exact wpAny_execs_nil ⟨σ3,H3,I4,qn⟩
 ·refine wpAny_passesOwn hp (thn (T.item X rfl rfl rfl hc i pins s3 σ3 H3 X.xe I3 (stat fr3) st3 go) fun r s4 ⟨u,hr,h4⟩=>?_)
  subst hr
  refine wpAny_passesOwn hp (thn h4 fun _ s5 ⟨x,H5,I5,r5,y5,st5,fr5⟩=>?_)
  have I5':=I5.pinned (stat fr5) (T.obj _ _ st5)
  refine wpAny_passesOwn hp (thn (hg _ s5 σ3 H5 x u _ I5' r5 (step x H5 y5)) fun _ s6 ⟨σ6,H6,I6,q6⟩=>?_)
  refine wpAny_passesOwn hp (thn (hb _ s6 σ6 H6 _ I6 q6) fun f s7 q7=>?_)
  have again:∀ {σ7:St} {H7:Hp},Inv X (pins ++ pinsAt fp s5.heap) σ7 H7 s7→N σ7 H7→∃ m,m < n∧∃ i σ' H',Inv X pins σ' H' s7∧tn i s7.heap∧(∀ b∈fp,H' b=none)∧W i m σ' H':=fun {σ7 H7} I7 n7=>by
   obtain ⟨m',hm,w7⟩:=hN σ7 H7 n7
   refine ⟨m',hm,i + 1,σ7,H7,I7.unpinned,T.keep _ _ _ st5 fun b hb o e=>(I7.pin (b,o) (List.mem_append_right _ (List.mem_append_right _ (J2p hb e)))).1,fun b hb=>?_,w7⟩
   obtain ⟨o,e,d⟩:=T.obj _ _ st5 b hb
   exact (I7.pin (b,o) (List.mem_append_right _ (List.mem_append_right _ (J2p hb e)))).2.1
  cases f with
  | next=>obtain ⟨σ7,H7,I7,n7⟩:=q7;exact again I7 n7
  | cont=>obtain ⟨σ7,H7,I7,n7⟩:=q7;exact again I7 n7
  | brk=>obtain ⟨σ7,H7,I7,q7⟩:=q7;exact ⟨σ7,H7,I7.unpinned,q7⟩
  | ret v=>obtain ⟨x7,σ7,H7,I7,r7,q7⟩:=q7;exact ⟨x7,σ7,H7,I7.unpinned,r7,q7⟩
end
theorem J6g {K:PySem.W.Frag} {a:Addr} {xs:List V} {g:TG} {tb:TS} {D:Ends} {σ:St} {H:Hp} (Pv:Nat→St→Hp→Prop) (h0:Pv 0 σ H) (hl:∀ i σ H,i≤xs.length→Pv i σ H→SqL K H a xs)
  (hs:∀ i x σ H,xs[i]?=some x→Pv i σ H→g x σ H fun σ2 H2=>tb { D with nx:=Pv (i + 1),ct:=Pv (i + 1),bk:=D.nx } σ2 H2) (hd:∀ σ H,Pv xs.length σ H→D.nx σ H) :
  ∃ W:Nat→Nat→St→Hp→Prop,(∃ m,W 0 m σ H)∧∀ i m σ H,W i m σ H→
   ((Itl K a).stop i H∧D.nx σ H)∨((Itl K a).go i H∧∃ N:St→Hp→Prop,(∀ σ' H',N σ' H'→∃ m',m' < m∧W (i + 1) m' σ' H')∧∀ x H',(Itl K a).yld i H x H'→g x σ H' fun σ2 H2=>tb { D with nx:=N,ct:=N,bk:=D.nx } σ2 H2):=by
 refine ⟨fun i m σ H=>m=xs.length - i∧i≤xs.length∧Pv i σ H,⟨xs.length,by simp,Nat.zero_le _,h0⟩,?_⟩
 rintro i m σ H ⟨rfl,hi,p⟩
 have q:=hl i σ H hi p
 by_cases hlt:i < xs.length
 ·refine .inr ⟨⟨xs,xs[i],q,by simp [hlt]⟩,Pv (i + 1),fun σ' H' p'=>⟨xs.length - (i + 1),by omega,rfl,hlt,p'⟩,fun x H' y=>?_⟩
  obtain ⟨e,y⟩:=y
  subst e
  exact hs i x σ _ (y xs q) p
 ·have e:i=xs.length:=by omega
  subst e
  exact .inl ⟨⟨xs,q,Nat.le_refl _⟩,hd σ H p⟩
theorem for_tup {K:PySem.W.Frag} {a:Addr} {xs:List V} {g:TG} {tb:TS} {D:Ends} {σ:St} {H:Hp} (Pv:Nat→St→Hp→Prop) (h0:Pv 0 σ H) (hl:∀ i σ H,i≤xs.length→Pv i σ H→SqT K H a xs)
  (hs:∀ i x σ H,xs[i]?=some x→Pv i σ H→g x σ H fun σ2 H2=>tb { D with nx:=Pv (i + 1),ct:=Pv (i + 1),bk:=D.nx } σ2 H2) (hd:∀ σ H,Pv xs.length σ H→D.nx σ H) :
  ∃ W:Nat→Nat→St→Hp→Prop,(∃ m,W 0 m σ H)∧∀ i m σ H,W i m σ H→
   ((Itt K a).stop i H∧D.nx σ H)∨((Itt K a).go i H∧∃ N:St→Hp→Prop,(∀ σ' H',N σ' H'→∃ m',m' < m∧W (i + 1) m' σ' H')∧∀ x H',(Itt K a).yld i H x H'→g x σ H' fun σ2 H2=>tb { D with nx:=N,ct:=N,bk:=D.nx } σ2 H2):=by
 refine ⟨fun i m σ H=>m=xs.length - i∧i≤xs.length∧Pv i σ H,⟨xs.length,by simp,Nat.zero_le _,h0⟩,?_⟩
 rintro i m σ H ⟨rfl,hi,p⟩
 have q:=hl i σ H hi p
 by_cases hlt:i < xs.length
 ·refine .inr ⟨⟨xs,xs[i],q,by simp [hlt]⟩,Pv (i + 1),fun σ' H' p'=>⟨xs.length - (i + 1),by omega,rfl,hlt,p'⟩,fun x H' y=>?_⟩
  obtain ⟨e,y⟩:=y
  subst e
  exact hs i x σ _ (y xs q) p
 ·have e:i=xs.length:=by omega
  subst e
  exact .inl ⟨⟨xs,q,Nat.le_refl _⟩,hd σ H p⟩
theorem for_range {lo:Int} {n:Nat} {g:TG} {tb:TS} {D:Ends} {σ:St} {H:Hp} (Pv:Nat→St→Hp→Prop) (h0:Pv 0 σ H)
  (hs:∀ i σ H,i < n→Pv i σ H→g (.int (lo + i)) σ H fun σ2 H2=>tb { D with nx:=Pv (i + 1),ct:=Pv (i + 1),bk:=D.nx } σ2 H2) (hd:∀ σ H,Pv n σ H→D.nx σ H) :
  ∃ W:Nat→Nat→St→Hp→Prop,(∃ m,W 0 m σ H)∧∀ i m σ H,W i m σ H→
   ((Itr lo n).stop i H∧D.nx σ H)∨((Itr lo n).go i H∧∃ N:St→Hp→Prop,(∀ σ' H',N σ' H'→∃ m',m' < m∧W (i + 1) m' σ' H')∧∀ x H',(Itr lo n).yld i H x H'→g x σ H' fun σ2 H2=>tb { D with nx:=N,ct:=N,bk:=D.nx } σ2 H2):=by
 refine ⟨fun i m σ H=>m=n - i∧i≤n∧Pv i σ H,⟨n,by simp,Nat.zero_le _,h0⟩,?_⟩
 rintro i m σ H ⟨rfl,hi,p⟩
 by_cases hlt:i < n
 ·refine .inr ⟨hlt,Pv (i + 1),fun σ' H' p'=>⟨n - (i + 1),by omega,rfl,hlt,p'⟩,fun x H' y=>?_⟩
  obtain ⟨e,y⟩:=y
  subst e y
  exact hs i σ _ hlt p
 ·have e:i=n:=by omega
  subst e
  exact .inl ⟨Nat.le_refl _,hd σ H p⟩
end L2
namespace L2
open PySem PySem.Spec PyProof.Rows
abbrev R2:=V→V→Hp→VK→Prop
def OpR (X:Cx) (f:Value→Value→Sem Value) (r:R2):Prop :=
 ∀ (pins:List (Addr × Obj)) (s:Shared) (σ:St) (H:Hp) (x y:V) (v u:Value) (Q:VK),Inv X pins σ H s→RelV x v→RelV y u→r x y H Q→
  wpAny (model X.prog X.w) X.A (f v u) (EP X pins σ Q) X.xe s
def UnR (X:Cx) (f:Value→Sem Value) (r:V→Hp→VK→Prop):Prop :=
 ∀ (pins:List (Addr × Obj)) (s:Shared) (σ:St) (H:Hp) (x:V) (v:Value) (Q:VK),Inv X pins σ H s→RelV x v→r x H Q→
  wpAny (model X.prog X.w) X.A (f v) (EP X pins σ Q) X.xe s
def CallR (X:Cx) (f:Value) (r:List V→Hp→VK→Prop):Prop :=
 ∀ (pins:List (Addr × Obj)) (s:Shared) (σ:St) (H:Hp) (xs:List V) (us:List Value) (Q:VK),Inv X pins σ H s→Vals xs us→r xs H Q→
  wpAny (model X.prog X.w) X.A (call f us) (EP X pins σ Q) X.xe s
def TruR (X:Cx) (r:V→Hp→(Bool→Hp→Prop)→Prop):Prop :=
 ∀ (pins:List (Addr × Obj)) (s:Shared) (σ:St) (H:Hp) (x:V) (v:Value) (Q:Bool→Hp→Prop),Inv X pins σ H s→RelV x v→r x H Q→
  wpAny (model X.prog X.w) X.A (truthy v) (TP X pins σ Q) X.xe s
def tOp (r:R2) (ta tb:TE):TE:=fun σ H Q=>ta σ H fun x H1=>tb σ H1 fun y H2=>r x y H2 Q
def tUn (r:V→Hp→VK→Prop) (ta:TE):TE:=fun σ H Q=>ta σ H fun x H1=>r x H1 Q
def rI (C:Int→Int→Prop) (g:Int→Int→V):R2:=fun x y H Q=>∃ i j,x=.int i∧y=.int j∧C i j∧Q (g i j) H
def rI0 (g:Int→Int→V):R2:=fun x y H Q=>∃ i j,x=.int i∧y=.int j∧Q (g i j) H
def rU (g:Int→V):V→Hp→VK→Prop:=fun x H Q=>∃ i,x=.int i∧Q (g i) H
section
variable {X:Cx} {a b c:Expr} {ta tb tc:TE} {pos:Pos}
theorem binT (ha:PE X a ta) (hb:PE X b tb) {pins:List (Addr × Obj)} {s:Shared} {σ:St} {H:Hp} {R:V→V→Hp→Prop} (I:Inv X pins σ H s)
  (h:ta σ H fun x H1=>tb σ H1 fun y H2=>R x y H2) {Q:Value→Shared→Prop} {f:Value→Value→Sem Value}
  (hf:∀ v u s2 x y H2,Inv X pins σ H2 s2→RelV x v→RelV y u→R x y H2→wpAny (model X.prog X.w) X.A (f v u) Q X.xe s2) :
  wpAny (model X.prog X.w) X.A (eval a X.env) (fun v s₁=>wpAny (model X.prog X.w) X.A (eval b X.env) (fun u s₂=>wpAny (model X.prog X.w) X.A (f v u) Q X.xe s₂) X.xe s₁) X.xe s:=by
 refine thn (ha pins s σ H _ I h) fun v s1 ⟨x,H1,I1,r1,q1⟩=>?_
 refine thn (hb pins s1 σ H1 _ I1 q1) fun u s2 ⟨y,H2,I2,r2,q2⟩=>?_
 exact hf v u s2 x y H2 I2 r1 r2 q2
theorem pe_op {op:Operator} {r:R2} (ho:OpR X (binaryOp op) r) (ha:PE X a ta) (hb:PE X b tb):PE X (.BinOp a op b pos) (tOp r ta tb):=by
 intro pins s σ H Q I h
 exact wpAny_BinOp (binT ha hb I h fun v u s2 x y H2 I2 rx ry q=>ho pins s2 σ H2 x y v u Q I2 rx ry q)
theorem pe_un {op:UnaryOp} {r:V→Hp→VK→Prop} (ho:UnR X (unaryOp op) r) (ha:PE X a ta):PE X (.UnaryOp op a pos) (tUn r ta):=by
 intro pins s σ H Q I h
 exact UnaryOp_ (thn (ha pins s σ H _ I h) fun v s1 ⟨x,H1,I1,r1,q1⟩=>ho pins s1 σ H1 x v Q I1 r1 q1)
theorem opI {f:Value→Value→Sem Value} {C:Int→Int→Prop} {g:Int→Int→Int}
  (rule:∀ (i j:Int) (t u:Tok) (s:Shared) (Q:Value→Shared→Prop) (E:Value→Shared→Prop),C i j→Q (.int (g i j) s.toks) { s with toks:=s.toks + 1 }→wpAny (model X.prog X.w) X.A (f (.int i t) (.int j u)) Q E s) :
  OpR X f (rI C fun i j=>.int (g i j)):=by
 intro pins s σ H x y v u Q I rx ry h
 obtain ⟨i,j,rfl,rfl,hc,q⟩:=h
 obtain ⟨t,rfl⟩:=rx
 obtain ⟨t',rfl⟩:=ry
 exact rule i j t t' s _ _ hc ⟨.int (g i j),H,I.tok _,⟨_,rfl⟩,q⟩
theorem opI0 {f:Value→Value→Sem Value} {g:Int→Int→Int}
  (rule:∀ (i j:Int) (t u:Tok) (s:Shared) (Q:Value→Shared→Prop) (E:Value→Shared→Prop),Q (.int (g i j) s.toks) { s with toks:=s.toks + 1 }→wpAny (model X.prog X.w) X.A (f (.int i t) (.int j u)) Q E s) :
  OpR X f (rI0 fun i j=>.int (g i j)):=by
 intro pins s σ H x y v u Q I rx ry h
 obtain ⟨i,j,rfl,rfl,q⟩:=h
 obtain ⟨t,rfl⟩:=rx
 obtain ⟨t',rfl⟩:=ry
 exact rule i j t t' s _ _ ⟨.int (g i j),H,I.tok _,⟨_,rfl⟩,q⟩
theorem opB0 {f:Value→Value→Sem Value} {g:Int→Int→Bool}
  (rule:∀ (i j:Int) (t u:Tok) (s:Shared) (Q:Value→Shared→Prop) (E:Value→Shared→Prop),Q (.bool (g i j)) s→wpAny (model X.prog X.w) X.A (f (.int i t) (.int j u)) Q E s) :
  OpR X f (rI0 fun i j=>.bl (g i j)):=by
 intro pins s σ H x y v u Q I rx ry h
 obtain ⟨i,j,rfl,rfl,q⟩:=h
 obtain ⟨t,rfl⟩:=rx
 obtain ⟨t',rfl⟩:=ry
 exact rule i j t t' s _ _ ⟨.bl (g i j),H,I,rfl,q⟩
def CDiv (i j:Int):Prop:=0 < j∧j < 1073741824
def CPow (i j:Int):Prop:=0≤j∧j≤1000000∧i.natAbs < 2 ^ 64
def CMul (i j:Int):Prop:=(-(2 ^ 64) < i∧i < 2 ^ 64)∨(-(2 ^ 64) < j∧j < 2 ^ 64)
theorem CMul.ok {i j:Int} (h:CMul i j):IntMulOk i j:=by
 rcases h with ⟨h1,h2⟩ | ⟨h1,h2⟩
 ·exact .of_left (intBits_le_64 h1 h2)
 ·exact .of_right (intBits_le_64 h1 h2)
theorem two_pow_nn (k:Nat):(0:Int)≤2 ^ k:=by
 rw [two_pow_cast]
 exact Int.natCast_nonneg _
theorem J2i:OpR X (binaryOp .Add) (rI0 fun i j=>.int (i + j)):=opI0 fun _ _ _ _ _ _ _ q=>add_int q
theorem op_sub:OpR X (binaryOp .Sub) (rI0 fun i j=>.int (i - j)):=opI0 fun _ _ _ _ _ _ _ q=>sub_int q
theorem op_mul:OpR X (binaryOp .Mult) (rI CMul fun i j=>.int (i * j)):=opI fun _ _ _ _ _ _ _ hc q=>mul_int q hc.ok
theorem op_fdiv:OpR X (binaryOp .FloorDiv) (rI CDiv fun i j=>.int (i / j)):=opI fun i j _ _ _ _ _ hc q=>by
 have h1:(0:Int) < j:=hc.1
 have h2:j < 1073741824:=hc.2
 exact floordiv_int (by omega) (by rw [Int.fdiv_eq_ediv_of_nonneg i (by omega)];exact q) (.inl (PyProof.noPylong_small (by omega)))
theorem J4o:OpR X (binaryOp .Mod) (rI (fun _ j=>0 < j) fun i j=>.int (i % j)):=opI fun i j _ _ _ _ _ hc q=>by
 have h1:(0:Int) < j:=hc
 exact mod_int' (by omega) (by rw [Int.fmod_eq_emod_of_nonneg i (by omega)];exact q)
theorem op_pow:OpR X (binaryOp .Pow) (rI CPow fun i j=>.int (i ^ j.toNat)):=opI fun _ _ _ _ _ _ _ hc q=>pow_int_small hc.1 hc.2.1 hc.2.2 q
theorem op_shl:OpR X (binaryOp .LShift) (rI CPow fun i j=>.int (i * 2 ^ j.toNat)):=opI fun _ _ _ _ _ _ _ hc q=>lshift_int_small hc.1 hc.2.1 hc.2.2 q
theorem op_shr:OpR X (binaryOp .RShift) (rI (fun _ j=>0≤j) fun i j=>.int (i / 2 ^ j.toNat)):=opI fun i j _ _ _ _ _ hc q =>
 rshift_int hc (by rw [Int.fdiv_eq_ediv_of_nonneg i (two_pow_nn _)];exact q)
theorem op_and:OpR X (binaryOp .BitAnd) (rI0 fun i j=>.int (Builtin.bitAnd i j)):=opI0 fun _ _ _ _ _ _ _ q=>and_int q
theorem unI {f:Value→Sem Value} {g:Int→Int}
  (rule:∀ (i:Int) (t:Tok) (s:Shared) (Q:Value→Shared→Prop) (E:Value→Shared→Prop),Q (.int (g i) s.toks) { s with toks:=s.toks + 1 }→wpAny (model X.prog X.w) X.A (f (.int i t)) Q E s) :
  UnR X f (rU fun i=>.int (g i)):=by
 intro pins s σ H x v Q I rx h
 obtain ⟨i,rfl,q⟩:=h
 obtain ⟨t,rfl⟩:=rx
 exact rule i t s _ _ ⟨.int (g i),H,I.tok _,⟨_,rfl⟩,q⟩
theorem J2j:UnR X (unaryOp .USub) (rU fun i=>.int (-i)):=unI fun _ _ _ _ _ q=>neg_int q
end
def scal:V→V→Bool
 | .non,.non=>true | .non,.int _=>true | .int _,.non=>true | .non,.bl _=>true | .bl _,.non=>true | .non,.str _=>true | .str _,.non=>true
 | .int _,.int _=>true | .bl _,.bl _=>true | .str _,.str _=>true | .byt _,.byt _=>true
 | .int _,.str _=>true | .str _,.int _=>true | .bl _,.str _=>true | .str _,.bl _=>true
 | _,_=>false
def rEq:R2:=fun x y H Q=>scal x y=true∧Q (.bl (decide (x=y))) H
def rNe:R2:=fun x y H Q=>scal x y=true∧Q (.bl (!decide (x=y))) H
theorem dec_int {i j:Int}:decide (V.int i=V.int j)=(i == j):=by
 rw [Bool.eq_iff_iff]
 simp
theorem dec_bl {i j:Bool}:decide (V.bl i=V.bl j)=(i == j):=by
 rw [Bool.eq_iff_iff]
 simp
theorem dec_str {i j:Str}:decide (V.str i=V.str j)=(i == j):=by
 rw [Bool.eq_iff_iff]
 simp
theorem dec_byt {i j:Array UInt8}:decide (V.byt i=V.byt j)=(i.toList == j.toList):=by
 rw [Bool.eq_iff_iff]
 cases i
 cases j
 simp
section
variable {X:Cx} {a b c:Expr} {ta tb tc:TE} {pos:Pos}
theorem J1b {pins:List (Addr × Obj)} {σ:St} {H:Hp} {s:Shared} {Q:VK} {k k':Bool} (I:Inv X pins σ H s) (q:Q (.bl k) H) (e:k=k'):EP X pins σ Q (.bool k') s:=by
 subst e
 exact ⟨.bl k,H,I,rfl,q⟩
theorem op_eq:OpR X (compareOp .Eq) rEq:=by
 intro pins s σ H x y v u Q I rx ry h
 obtain ⟨hs,q⟩:=h
 cases x with
 | non =>
  cases rx
  cases y with
  | non=>cases ry;exact PySem.EqNone.eq_none_none (J1b I q (by simp))
  | bl j=>cases ry;exact PySem.EqNone.eq_none_bool (J1b I q (by simp))
  | int j=>obtain ⟨t',rfl⟩:=ry;exact PySem.EqNone.eq_none_int (J1b I q (by simp))
  | str j=>obtain ⟨t',rfl⟩:=ry;exact PySem.EqNone.eq_none_str (J1b I q (by simp))
  | _=>exact absurd (show false=true from hs) Bool.false_ne_true
 | bl i =>
  cases rx
  cases y with
  | non=>cases ry;exact PySem.EqNone.eq_bool_none (J1b I q (by simp))
  | bl j=>cases ry;exact eq_bool (J1b I q dec_bl)
  | str j=>obtain ⟨t',rfl⟩:=ry;exact PySem.EqMixed.eq_bool_str (J1b I q (by simp))
  | _=>exact absurd (show false=true from hs) Bool.false_ne_true
 | int i =>
  obtain ⟨t,rfl⟩:=rx
  cases y with
  | non=>cases ry;exact PySem.EqNone.eq_int_none (J1b I q (by simp))
  | int j=>obtain ⟨t',rfl⟩:=ry;exact eq_int (J1b I q dec_int)
  | str j=>obtain ⟨t',rfl⟩:=ry;exact PySem.EqMixed.eq_int_str (J1b I q (by simp))
  | _=>exact absurd (show false=true from hs) Bool.false_ne_true
 | str i =>
  obtain ⟨t,rfl⟩:=rx
  cases y with
  | non=>cases ry;exact PySem.EqNone.eq_str_none (J1b I q (by simp))
  | bl j=>cases ry;exact PySem.EqMixed.eq_str_bool (J1b I q (by simp))
  | int j=>obtain ⟨t',rfl⟩:=ry;exact PySem.EqMixed.eq_str_int (J1b I q (by simp))
  | str j=>obtain ⟨t',rfl⟩:=ry;exact eq_str (J1b I q dec_str)
  | _=>exact absurd (show false=true from hs) Bool.false_ne_true
 | byt i =>
  obtain ⟨t,rfl⟩:=rx
  cases y with
  | byt j=>obtain ⟨t',rfl⟩:=ry;exact PySem.W.eq_bytes (J1b I q dec_byt)
  | _=>exact absurd (show false=true from hs) Bool.false_ne_true
 | _=>cases y <;> exact absurd (show false=true from hs) Bool.false_ne_true
theorem op_ne:OpR X (compareOp .NotEq) rNe:=by
 intro pins s σ H x y v u Q I rx ry h
 obtain ⟨hs,q⟩:=h
 cases x with
 | non =>
  cases rx
  cases y with
  | non=>cases ry;exact PySem.EqNone.ne_none_none (J1b I q (by simp))
  | bl j=>cases ry;exact PySem.EqNone.ne_none_bool (J1b I q (by simp))
  | int j=>obtain ⟨t',rfl⟩:=ry;exact PySem.EqNone.ne_none_int (J1b I q (by simp))
  | str j=>obtain ⟨t',rfl⟩:=ry;exact PySem.EqNone.ne_none_str (J1b I q (by simp))
  | _=>exact absurd (show false=true from hs) Bool.false_ne_true
 | bl i =>
  cases rx
  cases y with
  | non=>cases ry;exact PySem.EqNone.ne_bool_none (J1b I q (by simp))
  | bl j=>cases ry;exact ne_bool (J1b I q (congrArg not dec_bl))
  | str j=>obtain ⟨t',rfl⟩:=ry;exact PySem.EqMixed.ne_bool_str (J1b I q (by simp))
  | _=>exact absurd (show false=true from hs) Bool.false_ne_true
 | int i =>
  obtain ⟨t,rfl⟩:=rx
  cases y with
  | non=>cases ry;exact PySem.EqNone.ne_int_none (J1b I q (by simp))
  | int j=>obtain ⟨t',rfl⟩:=ry;exact ne_int (J1b I q (congrArg not dec_int))
  | str j=>obtain ⟨t',rfl⟩:=ry;exact PySem.EqMixed.ne_int_str (J1b I q (by simp))
  | _=>exact absurd (show false=true from hs) Bool.false_ne_true
 | str i =>
  obtain ⟨t,rfl⟩:=rx
  cases y with
  | non=>cases ry;exact PySem.EqNone.ne_str_none (J1b I q (by simp))
  | bl j=>cases ry;exact PySem.EqMixed.ne_str_bool (J1b I q (by simp))
  | int j=>obtain ⟨t',rfl⟩:=ry;exact PySem.EqMixed.ne_str_int (J1b I q (by simp))
  | str j=>obtain ⟨t',rfl⟩:=ry;exact ne_str (J1b I q (congrArg not dec_str))
  | _=>exact absurd (show false=true from hs) Bool.false_ne_true
 | byt i =>
  obtain ⟨t,rfl⟩:=rx
  cases y with
  | byt j=>obtain ⟨t',rfl⟩:=ry;exact PySem.W.ne_bytes (J1b I q (congrArg not dec_byt))
  | _=>exact absurd (show false=true from hs) Bool.false_ne_true
 | _=>cases y <;> exact absurd (show false=true from hs) Bool.false_ne_true
theorem op_lt:OpR X (compareOp .Lt) (rI0 fun i j=>.bl (decide (i < j))):=opB0 fun _ _ _ _ _ _ _ q=>lt_int q
theorem op_le:OpR X (compareOp .LtE) (rI0 fun i j=>.bl (decide (i≤j))):=opB0 fun _ _ _ _ _ _ _ q=>le_int q
theorem op_gt:OpR X (compareOp .Gt) (rI0 fun i j=>.bl (decide (j < i))):=opB0 fun _ _ _ _ _ _ _ q=>gt_int q
theorem op_ge:OpR X (compareOp .GtE) (rI0 fun i j=>.bl (decide (j≤i))):=opB0 fun _ _ _ _ _ _ _ q=>ge_int q
theorem op_isN:OpR X (compareOp .Is) (fun x y H Q=>y=.non∧Q (.bl (decide (x=.non))) H):=by
 intro pins s σ H x y v u Q I rx ry h
 obtain ⟨rfl,q⟩:=h
 cases ry
 refine is_none_gen (J1b I q ?_)
 cases x <;> first
  | (cases rx;rfl)
  | (obtain ⟨t,rfl⟩:=rx;rfl)
theorem op_notN:OpR X (compareOp .IsNot) (fun x y H Q=>y=.non∧Q (.bl (!decide (x=.non))) H):=by
 intro pins s σ H x y v u Q I rx ry h
 obtain ⟨rfl,q⟩:=h
 cases ry
 refine isnot_none_gen (J1b I q ?_)
 cases x <;> first
  | (cases rx;rfl)
  | (obtain ⟨t,rfl⟩:=rx;rfl)
theorem Jp (b:Expr) {op:CmpOp} (h:op≠.In:=by decide) (h2:op≠.NotIn:=by decide):behindInMarks op b=false:=by
 have e1:(op == CmpOp.In)=false:=by cases op <;> first | rfl | exact absurd rfl h
 have e2:(op == CmpOp.NotIn)=false:=by cases op <;> first | rfl | exact absurd rfl h2
 cases b <;> simp [behindInMarks,e1,e2]
theorem J1c {op:CmpOp} {r:R2} (ho:OpR X (compareOp op) r) (ha:PE X a ta) (hb:PE X b tb) (hm:behindInMarks op b=false):PE X (.Compare a [op] [b] pos) (tOp r ta tb):=by
 intro pins s σ H Q I h
 exact wpAny_Compare1 (binT ha hb I h fun v u s2 x y H2 I2 rx ry q=>ho pins s2 σ H2 x y v u Q I2 rx ry q) hm
def tTest (t:TE):TT:=fun σ H Q=>t σ H fun x H'=>∃ k,x=.bl k∧Q k H'
theorem Jo {op:CmpOp} {r:R2} (ho:OpR X (compareOp op) r) (ha:PE X a ta) (hb:PE X b tb) (hm:behindInMarks op b=false):PT X (.Compare a [op] [b] pos) (tTest (tOp r ta tb)):=by
 intro pins s σ H Q I h
 refine wpAny_isTrue_Compare1 (thn (ha pins s σ H _ I h) fun v s1 ⟨x,H1,I1,r1,q1⟩=>thn (hb pins s1 σ H1 _ I1 q1) fun u s2 ⟨y,H2,I2,r2,q2⟩ =>
  thn (ho pins s2 σ H2 x y v u _ I2 r1 r2 q2) fun c s3 ⟨z,H3,I3,r3,k,e,q3⟩=>?_) hm
 subst e
 cases r3
 exact wpAny_truthy_bool ⟨H3,I3,q3⟩
def TruV (K:PySem.W.Frag) (x:V) (H:Hp) (k:Bool):Prop :=
 match x with
 | .non=>k=false
 | .bl b=>k=b
 | .int i=>k=(i != 0)
 | .str y=>y.length≤sizeLine∧k=((y.length:Int) != 0)
 | .byt y=>y.size≤sizeLine∧k=((y.size:Int) != 0)
 | .ref p=>(∃ xs,SqL K H p xs∧k=!xs.isEmpty)∨(∃ xs,SqT K H p xs∧k=!xs.isEmpty)∨∃ kvs,H p=some (.dK kvs)∧k=!kvs.isEmpty
 | _=>False
theorem isEmpty_kv {κ:Type} {kvs:List (κ × V)} {vs:List (κ × Value)} (r:KV kvs vs):(!vs.isEmpty)=!kvs.isEmpty:=by
 cases r <;> rfl
theorem J73 {xs:List V} {its:List Value} (r:Vals xs its):(!its.toArray.isEmpty)=!xs.isEmpty:=by
 cases r <;> simp
theorem J71:(sizeLine:Nat) < 2 ^ 63:=by rw [sizeLine_eq];decide
theorem tru_ok:TruR X (fun x H Q=>∃ k,TruV X.K x H k∧Q k H):=by
 intro pins s σ H x v Q I rx h
 obtain ⟨k,e,q⟩:=h
 have hl:=J71
 have hs:sizeLine=16777216:=sizeLine_eq
 cases x with
 | non =>
  cases rx
  have e':k=false:=e
  subst e'
  exact truthy_none ⟨H,I,q⟩
 | bl b =>
  cases rx
  have e':k=b:=e
  subst e'
  exact wpAny_truthy_bool ⟨H,I,q⟩
 | int i =>
  obtain ⟨t,rfl⟩:=rx
  have e':k=(i != 0):=e
  subst e'
  exact PySem.P.truthy_int ⟨H,I,q⟩
 | str y =>
  obtain ⟨t,rfl⟩:=rx
  obtain ⟨hy,e'⟩:y.length≤sizeLine∧k=((y.length:Int) != 0):=e
  subst e'
  exact PySem.P.truthy_str (by omega) ⟨H,I.tok _,q⟩
 | byt y =>
  obtain ⟨t,rfl⟩:=rx
  obtain ⟨hy,e'⟩:y.size≤sizeLine∧k=((y.size:Int) != 0):=e
  subst e'
  exact PySem.W.truthy_bytes (by omega) ⟨H,I.tok _,q⟩
 | ref p =>
  cases rx
  have e':(∃ xs,SqL X.K H p xs∧k=!xs.isEmpty)∨(∃ xs,SqT X.K H p xs∧k=!xs.isEmpty)∨∃ kvs,H p=some (.dK kvs)∧k=!kvs.isEmpty:=e
  rcases e' with ⟨xs,hx,e'⟩ | ⟨xs,hx,e'⟩ | ⟨kvs,hx,e'⟩
  ·subst e'
   obtain ⟨its,r,pl,hz⟩:=I.list hx
   have hlen:=r.length
   exact wpAny_truthy_list pl.isList (by simp only [List.size_toArray];omega) ⟨H,I.tok _,by rw [J73 r];exact q⟩
  ·subst e'
   obtain ⟨its,r,pl,hz⟩:=I.tuple hx
   have hlen:=r.length
   exact truthy_tuple pl (by simp only [List.size_toArray];omega) ⟨H,I.tok _,by rw [J73 r];exact q⟩
  ·subst e'
   obtain ⟨hz,hS,vs,r,m⟩:kvs.length≤sizeLine∧(p == sysModules)=false∧∃ vs,KV kvs vs∧s.heap.DictOf (mixKind X.prog X.w) p vs:=I.hok p _ hx
   have hlen:kvs.length=vs.length:=Paired.length r
   exact wpAny_truthy_dict hS m (by omega) ⟨H,I.tok _,by rw [isEmpty_kv r];exact q⟩
 | _=>exact (show False from e).elim
theorem pt_truth (ha:PE X a ta) (he:∀ whole,isTrue a X.env whole=(do let v ← whole;standAt a.pos;holding [v] (truthy v))) :
  PT X a (fun σ H Q=>ta σ H fun x H'=>∃ k,TruV X.K x H' k∧Q k H'):=by
 intro pins s σ H Q I h
 exact isTrue_plain (thn (ha pins s σ H _ I h) fun v s1 ⟨x,H1,I1,r1,q1⟩=>tru_ok pins s1 σ H1 x v Q I1 r1 q1) (he _)
theorem vals1 {x:V} {us:List Value} (r:Vals [x] us):∃ u,us=[u]∧RelV x u:=by
 cases r with
 | cons r1 r2=>cases r2;exact ⟨_,rfl,r1⟩
theorem J6k:CallR X (.type "int") (fun xs H Q=>(∃ i,xs=[.int i]∧Q (.int i) H)∨∃ k,xs=[.bl k]∧Q (.int (if k then 1 else 0)) H):=by
 intro pins s σ H xs us Q I r h
 rcases h with ⟨i,rfl,q⟩ | ⟨k,rfl,q⟩
 ·obtain ⟨u,rfl,t,rfl⟩:=vals1 r
  exact call_int_int ⟨.int i,H,I,⟨_,rfl⟩,q⟩
 ·obtain ⟨u,rfl,r1⟩:=vals1 r
  cases r1
  exact call_int_bool ⟨.int (if k then 1 else 0),H,I.tok _,⟨_,rfl⟩,q⟩
end
end L2
namespace L2
open PySem PySem.Spec PyProof.Rows
structure ObjM (h:Heap) (x dx C:Addr) (mA:Str→Option Value):Prop where
 obj:h.get? x=some (PySem.W.instObj C dx)
 ns:h.Ns1 dx mA
 ne:dx≠x
theorem lookIn_ns {h:Heap} {dx:Addr} {mA:Str→Option Value} (n:h.Ns1 dx mA):∃ od,h.get? dx=some od∧∀ name,PySem.W.lookIn name od=some (mA name):=by
 obtain ⟨o,es,ep,ho,hd,hk,_,hm⟩:=n
 refine ⟨o,ho,fun name=>?_⟩
 have e:=hm name
 unfold nsFind findBy at e
 rw [← Array.find?_toList] at e
 unfold PySem.W.lookIn
 rw [hd]
 dsimp only
 split
 ·rename_i y q
  rw [q] at e
  exact congrArg some e
 ·rename_i q
  rw [q] at e
  have a:es.toList.any (·.refKey)=false:=by
   rw [List.any_eq_false]
   intro y hy
   obtain ⟨z,t,hkey⟩:=hk y (Array.mem_toList_iff.mp hy)
   simp [DictEntry.refKey,hkey]
  have a':¬ es.toList.any (·.refKey)=true:=by rw [a];exact Bool.false_ne_true
  rw [if_neg a']
  exact congrArg some e
theorem ObjM.look {h:Heap} {x dx C:Addr} {mA:Str→Option Value} (I:ObjM h x dx C mA):∃ od,PySem.W.InstAt h x (PySem.W.instObj C dx) C (some od)∧∀ name,PySem.W.lookIn name od=some (mA name) :=
 let ⟨od,ho,hl⟩:=lookIn_ns I.ns
 ⟨od,⟨I.obj,rfl,rfl,ho⟩,hl⟩
section
variable {prog:Program} {w:World} {A:Around} {E:Value→Shared→Prop} {s:Shared} {K:PySem.W.Frag} {x dx C f:Addr} {mA:Str→Option Value} {name:Str} {v:Value}
theorem get_map {expr:Bool} {Q:Value→Shared→Prop} (X:K.In s.heap) (I:ObjM s.heap x dx C mA) (hg:PySem.W.plainGet K C name=true) (hh:PySem.W.hasDictIn K C=true)
  (ha:PySem.W.findIn K (.ref C) name=some none) (hv:mA name=some v) (hv':PySem.W.handedIn v=true) (h:Q v { s with toks:=s.toks + 1 }) :
  wpAny (model prog w) A (getAttr (.ref x) name expr) Q E s:=by
 obtain ⟨od,J,hl⟩:=I.look
 exact PySem.W.get_value X J (PySem.W.plainGet_of hg).1 (PySem.W.findObj_own hh ha rfl (by rw [hl,hv])) hv' h
theorem get_meth {pl:Sem Bool} {Q:Value × List Value→Shared→Prop} (X:K.In s.heap) (I:ObjM s.heap x dx C mA) (hg:PySem.W.plainGet K C name=true)
  (hf:PySem.W.findIn K (.ref C) name=some (some (.ref f))) (ht:PySem.W.isFn K (.ref f)=true) (hv:mA name=none) (h:Q (.ref f,[.ref x]) s) :
  wpAny (model prog w) A (getMethod (.ref x) name pl) Q E s:=by
 obtain ⟨od,J,hl⟩:=I.look
 exact PySem.W.method_fn X J (PySem.W.plainGet_of hg).1 (PySem.W.plainGet_of hg).2 hf (beq_iff_eq.mp ht) (by show (PySem.W.lookIn name od).map (·.isSome)=some false;rw [hl,hv];rfl) h
theorem set_map {ns:List Str} {Q:Unit→Shared→Prop} (X:K.In s.heap) (I:ObjM s.heap x dx C mA)
  (hs:PySem.W.findIn K (.ref C) "__setattr__"=some (some (.builtin "object.__setattr__"))) (hp:PySem.W.plainOver K C=true) (ht:PySem.W.takerIn K C name=some none) (hh:PySem.W.hasDictIn K C=true)
  (hw:PySem.Within mA ns) (hsz:ns.length≤sizeLine)
  (h:∀ h',ObjM h' x dx C (fun y=>if y=name then some v else mA y)→Heap.SameBut dx s.heap h'→Q () { s with heap:=h',toks:=s.toks + 2 }) :
  wpAny (model prog w) A (setAttr (.ref x) name v) Q E s:=by
 obtain ⟨od,J,hl⟩:=I.look
 refine PySem.W.set_plain X J hs (PySem.W.osa_open (s:={ s with toks:=s.toks + 1 }) (r:=none) X J hp ht fun b=>?_)
 obtain ⟨cd,hc,hd'⟩:=PySem.W.any_some hh
 have hx:s.heap.get? x=some ⟨.ref C,some dx,.plain,#[]⟩:=I.obj
 refine wpAny_bind (wpAny_pure (wpAny_bind (wpAny_bind (wpAny_loadPart hx (wpAny_bind (PySem.W.Looks.here (s:={ s with toks:=s.toks + 1 }) (PySem.W.looks_clsIn X hc) ?_))))))
 rw [hd']
 refine wpAny_pure (a:=some dx) (wpAny_bind (wpAny_pure (wpAny_bind ?_)))
 refine wpAny_nsSet1 (s:={ s with toks:=s.toks + 1 }) I.ns fun h' hn2 hs2=>?_
 obtain ⟨oD,esD,epD,hoD,hdD,hcD⟩:=hn2.count (PySem.Within.cons name v hw)
 refine wpAny_bind (wpAny_lookBehind hoD (by rw [hdD];exact pastItsLine_dict (Nat.le_trans hcD (by rw [List.length_cons];omega))) ?_)
 exact wpAny_pure (h _ ⟨(hs2.2 _ (Ne.symm I.ne)).trans I.obj,hn2,I.ne⟩ hs2)
theorem make_map {R:Result→Shared→Prop} {vs:List Value} {kw:List (Str × Value)} (X:K.In s.heap) (hm:PySem.W.makesIn K C=true)
  (hi:PySem.W.findIn K (.ref C) "__init__"=some (some (.ref f))) (hf:PySem.W.typeIn K (.ref f)=some (.type "function"))
  (h:codeAny (model prog w) (A.under (.builtin "type.__call__" ⟨.ref C :: vs,kw⟩)) (.call (.ref f) ⟨.ref (s.heap.objs.size + 1) :: vs,kw⟩) (PySem.W.InitBack (s.heap.objs.size + 1) R)
   { s with heap:=(s.heap.push PySem.W.emptyDict).push (PySem.W.instObj C s.heap.objs.size) }) :
  codeAny (model prog w) A (.call (.ref C) ⟨vs,kw⟩) R s:=by
 obtain ⟨hh,g,d,t,os⟩:=s
 exact PySem.W.make_core (PySem.W.makes_of X hm) (PySem.W.looks_findIn X hi) (fun self=>PySem.W.bind_fn X self hf) (.inl rfl) h
end
def putF (f:Str) (v:V):List (Str × V)→List (Str × V)
 | []=>[(f,v)]
 | (g,x) :: r=>if g=f then (g,v) :: r else (g,x) :: putF f v r
theorem J36 (f g:Str) (v:V):∀ fs:List (Str × V),(putF f v fs).lookup g=if g=f then some v else fs.lookup g
 | []=>by
  show List.lookup g [(f,v)]=_
  by_cases h:g=f
  ·have hb:(g == f)=true:=beq_iff_eq.mpr h
   simp only [List.lookup,hb,if_pos h]
  ·have hb:(g == f)=false:=beq_eq_false_iff_ne.mpr h
   simp only [List.lookup,hb,if_neg h]
 | (k,x) :: r=>by
  have ih:=J36 f g v r
  rw [show putF f v ((k,x) :: r)=(if k=f then (k,v) :: r else (k,x) :: putF f v r) from rfl]
  by_cases hk:k=f
  ·rw [if_pos hk]
   by_cases h:g=k
   ·have hb:(g == k)=true:=beq_iff_eq.mpr h
    simp only [List.lookup,hb,if_pos (h.trans hk)]
   ·have hb:(g == k)=false:=beq_eq_false_iff_ne.mpr h
    simp only [List.lookup,hb,if_neg (fun e:g=f=>h (e.trans hk.symm))]
  ·rw [if_neg hk]
   by_cases h:g=k
   ·have hb:(g == k)=true:=beq_iff_eq.mpr h
    simp only [List.lookup,hb,if_neg (fun e:g=f=>hk (h.symm.trans e))]
   ·have hb:(g == k)=false:=beq_eq_false_iff_ne.mpr h
    simp only [List.lookup,hb]
    exact ih
theorem J6b (f:Str) (v:V):∀ fs:List (Str × V),f∈(putF f v fs).map (·.1)∧∀ g,g∈fs.map (·.1)→g∈(putF f v fs).map (·.1)
 | []=>⟨by simp [putF],fun g h=>by simp at h⟩
 | (k,x) :: r=>by
  obtain ⟨i1,i2⟩:=J6b f v r
  rw [show putF f v ((k,x) :: r)=(if k=f then (k,v) :: r else (k,x) :: putF f v r) from rfl]
  by_cases hk:k=f
  ·rw [if_pos hk]
   subst hk
   exact ⟨by simp,fun g h=>by simpa using h⟩
  ·rw [if_neg hk]
   refine ⟨?_,fun g h=>?_⟩
   ·rw [List.map_cons]
    exact List.mem_cons_of_mem _ i1
   ·rw [List.map_cons] at h ⊢
    rcases List.mem_cons.mp h with e | e
    ·exact List.mem_cons.mpr (.inl e)
    ·exact List.mem_cons_of_mem _ (i2 g e)
theorem Jr (f:Str) (v:V):∀ fs:List (Str × V),(putF f v fs).length≤fs.length + 1
 | []=>by simp [putF]
 | (k,x) :: r=>by
  have ih:=Jr f v r
  rw [show putF f v ((k,x) :: r)=(if k=f then (k,v) :: r else (k,x) :: putF f v r) from rfl]
  by_cases hk:k=f
  ·rw [if_pos hk,List.length_cons,List.length_cons];omega
  ·rw [if_neg hk,List.length_cons,List.length_cons];omega
theorem RelO.some_of {v:V} {o:Option Value} (r:RelO (some v) o):∃ u,o=some u∧RelV v u:=by
 cases o with
 | none=>exact (show False from r).elim
 | some u=>exact ⟨u,rfl,r⟩
theorem RelO.none_of {o:Option Value} (r:RelO none o):o=none:=by
 cases o with
 | none=>rfl
 | some u=>exact (show False from r).elim
theorem handed_of {v:V} {u:Value} (r:RelV v u):PySem.W.handedIn u=true:=by
 cases v with
 | non=>cases (show u=Value.none from r);rfl
 | bl b=>cases (show u=Value.bool b from r);rfl
 | int i=>obtain ⟨t,e⟩:=(show ∃ t,u=Value.int i t from r);cases e;rfl
 | str x=>obtain ⟨t,e⟩:=(show ∃ t,u=Value.str x t from r);cases e;rfl
 | byt b=>obtain ⟨t,e⟩:=(show ∃ t,u=Value.bytes b t from r);cases e;rfl
 | flt b=>obtain ⟨t,e⟩:=(show ∃ t,u=Value.float b t from r);cases e;rfl
 | ref a=>cases (show u=Value.ref a from r);rfl
 | ty n=>cases (show u=Value.type n from r);rfl
section
variable {P:Program} {w:World} {H H':Hp} {h h':Heap} {a C dx:Addr} {fs fs':List (Str × V)}
theorem ins_get (hok:HOk P w H h) (e:H a=some (.ins C dx fs)):∃ mA,ObjM h a dx C mA∧(∀ f,RelO (fs.lookup f) (mA f))∧PySem.Within mA (fs.map (·.1))∧fs.length≤1000∧H dx=some (.own a):=by
 obtain ⟨d,z,ne,ob,mA,n,r,q⟩:=(show ObjOk P w H h a (.ins C dx fs) from hok a _ e)
 exact ⟨mA,⟨ob,n,ne⟩,r,q,z,d⟩
end
structure Cls (K:PySem.W.Frag) (C:Addr):Prop where
 pg:PySem.W.plainGet K C Str.empty=true
 hd:PySem.W.hasDictIn K C=true
 po:PySem.W.plainOver K C=true
 sa:PySem.W.findIn K (.ref C) "__setattr__"=some (some (.builtin "object.__setattr__"))
theorem Cls.get {K:PySem.W.Frag} {C:Addr} (c:Cls K C) (f:Str):PySem.W.plainGet K C f=true:=c.pg
def NoAttr (K:PySem.W.Frag) (C:Addr) (f:Str):Prop:=PySem.W.findIn K (.ref C) f=some none
theorem NoAttr.taker {K:PySem.W.Frag} {C:Addr} {f:Str} (n:NoAttr K C f):PySem.W.takerIn K C f=some none:=by
 unfold PySem.W.takerIn
 rw [show PySem.W.findIn K (.ref C) f=some none from n]
 rfl
structure Meth (K:PySem.W.Frag) (C:Addr) (m:Str) (f:Addr):Prop where
 at_:PySem.W.findIn K (.ref C) m=some (some (.ref f))
 fn:PySem.W.isFn K (.ref f)=true
 kp:PySem.W.keepIn K (.ref f)=true
section
variable {X:Cx} {pins:List (Addr × Obj)} {σ:St} {H:Hp} {s:Shared} {a C dx:Addr} {fs:List (Str × V)} {f:Str} {v:V} {A:Around} {E:Value→Shared→Prop}
theorem getattr_ok {b:Bool} {Q:Value→Shared→Prop} (I:Inv X pins σ H s) (e:H a=some (.ins C dx fs)) (c:Cls X.K C) (n:NoAttr X.K C f) (l:fs.lookup f=some v)
  (h:∀ u s',Inv X pins σ H s'→RelV v u→Q u s'):wpAny (model X.prog X.w) A (getAttr (.ref a) f b) Q E s:=by
 obtain ⟨mA,O,r,_,_,_⟩:=ins_get I.hok e
 obtain ⟨u,hu,ru⟩:=RelO.some_of (v:=v) (o:=mA f) (by rw [← l];exact r f)
 exact get_map I.kIn O (c.get f) c.hd n hu (handed_of ru) (h u _ (I.tok _) ru)
theorem J75 {m:Str} {g:Addr} {pl:Sem Bool} {Q:Value × List Value→Shared→Prop} (I:Inv X pins σ H s) (e:H a=some (.ins C dx fs)) (c:Cls X.K C) (k:Meth X.K C m g) (l:fs.lookup m=none)
  (h:Q (.ref g,[.ref a]) s):wpAny (model X.prog X.w) A (getMethod (.ref a) m pl) Q E s:=by
 obtain ⟨mA,O,r,_,_,_⟩:=ins_get I.hok e
 have hn:mA m=none:=RelO.none_of (by rw [← l];exact r m)
 exact get_meth I.kIn O (c.get m) k.at_ k.fn hn h
theorem setattr_ok {y:V} {u:Value} {Q:Unit→Shared→Prop} (I:Inv X pins σ H s) (e:H a=some (.ins C dx fs)) (c:Cls X.K C) (n:NoAttr X.K C f) (hl:fs.length < 1000) (ry:RelV y u)
  (h:∀ s',Inv X pins σ (upd H a (.ins C dx (putF f y fs))) s'→Q () s'):wpAny (model X.prog X.w) A (setAttr (.ref a) f u) Q E s:=by
 obtain ⟨mA,O,r,wi,_,ho⟩:=ins_get I.hok e
 have hz:(fs.map (·.1)).length≤sizeLine:=by rw [List.length_map,sizeLine_eq];omega
 refine set_map I.kIn O c.sa c.po n.taker c.hd wi hz fun h' O' sb=>h _ ?_
 have hd:∃ o,h'.get? dx=some o:=let ⟨o,_,_,e',_⟩:=O'.ns;⟨o,e'⟩
 refine I.write (x:=a) (e:=dx) (by rw [e];exact True.intro) (.inr ho) (fun b q hb z=>(sb.2 b hb).trans z) hd ?_
 refine ⟨by rw [Jc O.ne];exact ho,?_,O.ne,O'.obj,_,O'.ns,fun g=>?_,fun g hg=>?_⟩
 ·have:=Jr f y fs;omega
 ·show RelO ((putF f y fs).lookup g) (if g=f then some u else mA g)
  rw [J36]
  by_cases q:g=f
  ·rw [if_pos q,if_pos q];exact ry
  ·rw [if_neg q,if_neg q];exact r g
 ·by_cases q:g=f
  ·rw [q];exact (J6b f y fs).1
  ·refine (J6b f y fs).2 g (wi g fun z=>hg ?_)
   show (if g=f then some u else mA g)=none
   rw [if_neg q];exact z
theorem Inv.made (I:Inv X pins σ H s):Inv X pins σ (upd (upd H s.heap.objs.size (.own (s.heap.objs.size + 1))) (s.heap.objs.size + 1) (.ins C s.heap.objs.size []))
  { s with heap:=(s.heap.push PySem.W.emptyDict).push (PySem.W.instObj C s.heap.objs.size) }:=by
 have e1:(s.heap.push PySem.W.emptyDict).get? s.heap.objs.size=some PySem.W.emptyDict:=Heap.get?_push_size s.heap rfl
 have e2:((s.heap.push PySem.W.emptyDict).push (PySem.W.instObj C s.heap.objs.size)).get? (s.heap.objs.size + 1)=some (PySem.W.instObj C s.heap.objs.size):=by
  have:=Heap.get?_push_size (s.heap.push PySem.W.emptyDict) (o:=PySem.W.instObj C s.heap.objs.size) rfl
  rwa [Heap.size_push] at this
 have e3:(s.heap.push PySem.W.emptyDict).Ns s.heap.objs.size (fun _=>none):=⟨PySem.W.emptyDict,#[],_,e1,rfl,(fun e he=>absurd he (by simp)),fun _=>rfl⟩
 have I1:=I.laid (a:=s.heap.objs.size) (o:=.own (s.heap.objs.size + 1)) (h':=s.heap.push PySem.W.emptyDict) (t':=s.toks) (fun b u q=>Heap.get?_push_of_some _ q) (Nat.le_refl _) ⟨_,e1⟩
 refine I1.laid (a:=s.heap.objs.size + 1) (o:=.ins C s.heap.objs.size []) (t':=s.toks) (fun b u q=>Heap.get?_push_of_some _ q) (Nat.le_of_eq (Heap.size_push _ _)) ?_
 have ne:s.heap.objs.size≠s.heap.objs.size + 1:=Nat.ne_of_lt (Nat.lt_succ_self _)
 refine ⟨by rw [Jc ne,J4],Nat.zero_le _,ne,e2,fun _=>none,(Heap.Ns1.of_empty e3).at fun o q=>Heap.get?_push_of_some _ q,fun _=>True.intro,fun y hy=>absurd rfl hy⟩
theorem attr_of {prog:Program} {w:World} {env:Env} {e:Expr} {f:Str} {pos:Pos} {s:Shared} {Q:Value→Shared→Prop} (hb:attributeBase e f env (eval e env)=eval e env)
  (h:wpAny (model prog w) A (eval e env) (fun o s₁=>wpAny (model prog w) A (getAttr o f true) Q E s₁) E s):wpAny (model prog w) A (eval (.Attribute e f pos) env) Q E s :=
 Attribute_any_ h (by rw [arm_eval_Attribute,hb])
end
def tFld (K:PySem.W.Frag) (ta:TE) (f:Str):TE:=fun σ H Q=>ta σ H fun x H1=>∃ a C dx fs v,x=.ref a∧H1 a=some (.ins C dx fs)∧Cls K C∧NoAttr K C f∧fs.lookup f=some v∧Q v H1
def sFld (K:PySem.W.Frag) (ta tv:TE) (f:Str):TS:=fun D σ H=>tv σ H fun y H1=>ta σ H1 fun x H2=>∃ a C dx fs,x=.ref a∧H2 a=some (.ins C dx fs)∧Cls K C∧NoAttr K C f∧fs.length < 1000∧
 D.nx σ (upd H2 a (.ins C dx (putF f y fs)))
section
variable {X:Cx} {o e value:Expr} {f:Str} {pos pos' tpos:Pos} {ta tv:TE}
theorem Jh (he:PE X e ta) (hb:attributeBase e f X.env (eval e X.env)=eval e X.env):PE X (.Attribute e f pos) (tFld X.K ta f):=by
 intro pins s σ H Q I h
 refine attr_of hb (thn (he pins s σ H _ I h) fun u s1 ⟨x,H1,I1,rx,a,C,dx,fs,v,ex,ea,c,n,l,q⟩=>?_)
 subst ex
 obtain rfl:u=Value.ref a:=rx
 exact getattr_ok I1 ea c n l fun u' s2 I2 ru=>⟨v,H1,I2,ru,q⟩
theorem J2f (ha:PE X o ta) (hv:PE X value tv) (hs:swapsWith value (some (.Attribute o f pos')) pos.line X.env=pure false):PS X (.Assign [.Attribute o f pos'] value pos) (sFld X.K ta tv f):=by
 intro pins s σ H D I h
 refine plainObj_wpAny_Assign_Attribute (thn (hv pins s σ H _ I h) fun u s1 ⟨y,H1,I1,ry,q⟩=>thn (ha pins s1 σ H1 _ I1 q) fun ov s2 ⟨x,H2,I2,rx,a,C,dx,fs,ex,ea,c,n,l,q2⟩=>?_) hs
 subst ex
 obtain rfl:ov=Value.ref a:=rx
 exact setattr_ok I2 ea c n l ry fun s3 I3=>⟨σ,_,I3,q2⟩
end
end L2
namespace L2
open PySem PySem.Spec PyProof.Rows
structure Room (k:Nat) (A:Around):Prop where
 hd:A.handled=none
 dp:A.depth + 3 * k + 5 < recursionLimit
 un:A.units + 16 * k + 200 < cLine
theorem Room.mono {j k:Nat} {A:Around} (r:Room k A) (h:j≤k):Room j A:=⟨r.hd,by have:=r.dp;omega,by have:=r.un;omega⟩
theorem Room.deeper {k:Nat} {A:Around} (r:Room (k + 1) A) (env:Env):Room k (A.deeper env) :=
 ⟨r.hd,by have:=r.dp;show A.depth + 1 + 3 * k + 5 < _;omega,by have:=r.un;show A.units + 3 + 16 * k + 200 < _;omega⟩
theorem Room.in1 {k:Nat} {A:Around} (r:Room (k + 1) A):Room k A.in1 :=
 ⟨r.hd,by have:=r.dp;show A.depth + 3 * k + 5 < _;omega,by have:=r.un;show A.units + 1 + 16 * k + 200 < _;omega⟩
theorem make_depth {A:Around} {C:Addr} {us:List Value} {kw:List (Str × Value)}:(A.under (.builtin "type.__call__" ⟨.ref C :: us,kw⟩)).depth=A.depth + 1:=by
 first | rfl | simp [Around.under,Code.weight,Code.isCreation,Code.isGuard,Code.isCaller,Code.frames,Code.isFrame,guardIds]
theorem make_units {A:Around} {C:Addr} {us:List Value} {kw:List (Str × Value)}:(A.under (.builtin "type.__call__" ⟨.ref C :: us,kw⟩)).units=A.units + 1:=by
 first | rfl | simp [Around.under,Code.cUnits,Code.frames,Code.isFrame]
theorem Room.make {k:Nat} {A:Around} (r:Room (k + 1) A) (C:Addr) (us:List Value) (kw:List (Str × Value)):Room k (A.under (.builtin "type.__call__" ⟨.ref C :: us,kw⟩)) :=
 ⟨r.hd,by have:=r.dp;rw [make_depth];omega,by have:=r.un;rw [make_units];omega⟩
theorem Room.depth {k:Nat} {A:Around} (r:Room k A):A.depth < recursionLimit:=by have:=r.dp;omega
theorem Room.units {k:Nat} {A:Around} (r:Room k A):A.units + 64 < cLine:=by have:=r.un;omega
theorem Room.units0 {k:Nat} {A:Around} (r:Room k A):A.units < cLine:=by have:=r.un;omega
def tNil:TA:=fun _ H Q=>Q [] H
def tCons (ta:TE) (tr:TA):TA:=fun σ H Q=>ta σ H fun x H1=>tr σ H1 fun xs H2=>Q (x :: xs) H2
section
variable {X:Cx} {e:Expr} {es:List Expr} {te:TE} {t:TA} {pos:Pos}
theorem J6:PA X [] tNil:=fun _ _ _ _ H Q I h=>Calls.spliced_nil ⟨[],H,I,.nil,h⟩
theorem J0 (ha:PE X e te) (hr:PA X es t) (hs:starEach (e :: es) X.env=(false,eval e X.env) :: starEach es X.env:=by rfl):PA X (e :: es) (tCons te t):=by
 intro pos pins s σ H Q I h
 rw [hs]
 show wpAny _ _ (spliced ((false,eval e X.env) :: backTo pos (starEach es X.env))) _ _ s
 refine Calls.spliced_cons (thn (ha pins s σ H _ I h) fun u s1 ⟨x,H1,I1,r1,q1⟩=>?_)
 exact thn (hr pos pins s1 σ H1 _ I1 q1) fun us s2 ⟨xs,H2,I2,r2,q2⟩=>⟨x :: xs,H2,I2,.cons r1 r2,q2⟩
def tTup (t:TA):TE:=fun σ H Q=>t σ H fun xs H1=>xs.length≤sizeLine∧∀ p,H1 p=none→Q (.ref p) (upd H1 p (.tup xs))
def tLst (t:TA):TE:=fun σ H Q=>t σ H fun xs H1=>xs.length≤sizeLine∧∀ p,H1 p=none→Q (.ref p) (upd H1 p (.lst xs))
theorem J2m {x1} (h:PA X es t):PE X (.Tuple es x1 pos) (tTup t):=by
 intro pins s σ H Q I hq
 refine wpAny_Tuple_spliced (thn (h pos pins s σ H _ I hq) fun us s1 ⟨xs,H1,I1,r,z,q⟩=>⟨by rw [← r.length];exact z,?_⟩)
 have hf:H1 s1.heap.objs.size=none:=I1.hok.fresh (Nat.le_refl _)
 refine ⟨.ref s1.heap.objs.size,upd H1 s1.heap.objs.size (.tup xs),I1.laid (t':=s1.toks) (fun b u e=>Heap.get?_push_of_some _ e) (Nat.le_refl _) ?_,rfl,q _ hf⟩
 exact ⟨z,us,r,⟨_,Heap.get?_push_size _ rfl,⟨rfl,rfl⟩,_,rfl⟩⟩
theorem J2n (h:PA X es t):PE X (.List es pos) (tLst t):=by
 intro pins s σ H Q I hq
 refine wpAny_List_spliced (thn (h pos pins s σ H _ I hq) fun us s1 ⟨xs,H1,I1,r,z,q⟩=>⟨by rw [← r.length];exact z,?_⟩)
 have hf:H1 s1.heap.objs.size=none:=I1.hok.fresh (Nat.le_refl _)
 refine ⟨.ref s1.heap.objs.size,upd H1 s1.heap.objs.size (.lst xs),I1.laid (t':=s1.toks) (fun b u e=>Heap.get?_push_of_some _ e) (Nat.le_refl _) ?_,rfl,q _ hf⟩
 exact ⟨z,us,0,r,Heap.get?_push_size _ rfl⟩
end
abbrev Sp:=List V→Hp→VK→XK→Prop
abbrev CXT:=List Env→Hp→Shared→XK→Value→Shared→Prop
structure Env0 (P:Program) (w:World) (K:PySem.W.Frag) (mg:Str→Option Value) (base:Heap) (A:Around) (outer:List Env) (s:Shared) (H:Hp):Prop where
 frames:A.frames=some outer
 mod:Mod K mg base
 bs:∀ b o,base.get? b=some o→s.heap.get? b=some o∧H b=none
 bsz:base.objs.size≤s.heap.objs.size
 funs:s.heap.FunFrames base outer
 frf:∀ b∈frs outer,H b=none
 hok:HOk P w H s.heap
 bare:AllBare s.gens
def CE (outer:List Env) (P:Program) (w:World) (H:Hp) (s:Shared) (Q:VK) (u:Value) (s':Shared):Prop :=
 ∃ v H',s'.os=s.os∧AllBare s'.gens∧Un (frs outer) [] H H' s.heap s'.heap∧HOk P w H' s'.heap∧RelV v u∧Q v H'
def CR (CX:CXT) (outer:List Env) (P:Program) (w:World) (H:Hp) (s:Shared) (Q:VK) (E:XK) (r:Result) (s':Shared):Prop :=
 match r with
 | .ok (.ret u)=>CE outer P w H s Q u s'
 | .ok _=>False
 | .error e=>CX outer H s E e s'
structure FnOk (P:Program) (w:World) (K:PySem.W.Frag) (mg:Str→Option Value) (base:Heap) (CX:CXT) (k:Nat) (f:Addr) (fd:FuncData) (ps:List Str) (sp:Sp):Prop where
 len:∀ vs H Q E,sp vs H Q E→vs.length=ps.length
 run:∀ (A:Around) (outer:List Env) (s:Shared) (H:Hp) (args:Args) (us:List Value) (vs:List V) (Q:VK) (E:XK),Room k A→Env0 P w K mg base A outer s H→BindsTo s fd args (ps.zip us)→Vals vs us→sp vs H Q E→
  codeAny (model P w) A (.call (.ref f) args) (CR CX outer P w H s Q E) s
theorem FnOk.mono {P:Program} {w:World} {K:PySem.W.Frag} {mg:Str→Option Value} {base:Heap} {CX:CXT} {j k:Nat} {f:Addr} {fd:FuncData} {ps:List Str} {sp:Sp} (F:FnOk P w K mg base CX j f fd ps sp) (h:j≤k) :
  FnOk P w K mg base CX k f fd ps sp:=⟨F.len,fun A outer s H args us vs Q E hr=>F.run A outer s H args us vs Q E (hr.mono h)⟩
theorem Env0.make {P:Program} {w:World} {K:PySem.W.Frag} {mg:Str→Option Value} {base:Heap} {A:Around} {outer:List Env} {s:Shared} {H:Hp} (e:Env0 P w K mg base A outer s H) (C:Addr) (us:List Value) (kw:List (Str × Value)) :
  Env0 P w K mg base (A.under (.builtin "type.__call__" ⟨.ref C :: us,kw⟩)) outer s H:=⟨by first | exact e.frames | (simpa [Around.under,Code.envs,Code.isFrame,pushEnvs] using e.frames),e.mod,e.bs,e.bsz,e.funs,e.frf,e.hok,e.bare⟩
theorem Env0.in1 {P:Program} {w:World} {K:PySem.W.Frag} {mg:Str→Option Value} {base:Heap} {A:Around} {outer:List Env} {s:Shared} {H:Hp} (e:Env0 P w K mg base A outer s H) :
  Env0 P w K mg base A.in1 outer s H:=⟨e.frames,e.mod,e.bs,e.bsz,e.funs,e.frf,e.hok,e.bare⟩
section
variable {X:Cx} {pins:List (Addr × Obj)} {σ:St} {H:Hp} {s s':Shared}
theorem Inv.env0 (I:Inv X pins σ H s):Env0 X.prog X.w X.K X.mg X.base X.A X.stack s H :=
 ⟨I.ok.frames,I.ok.mod,I.bs,Nat.le_trans I.ok.bsz I.sz,I.stack,I.stkFree,I.hok,I.bare⟩
theorem Inv.after {Q:VK} {u:Value} (I:Inv X pins σ H s) (h:CE X.stack X.prog X.w H s Q u s'):EP X pins σ Q u s':=by
 obtain ⟨v,H',os,bare,un,hok,r,q⟩:=h
 obtain ⟨hh,g,d,t,os'⟩:=s'
 obtain rfl:os'=s.os:=os
 exact ⟨v,H',I.call (h':=hh) (g':=g) (d':=d) (t':=t) (ch:=[]) un hok bare (fun b z=>absurd z (by simp)),r,q⟩
end
def tCall (sp:Sp) (dvs:List V) (E:XK) (t:TA):TE:=fun σ H Q=>t σ H fun vs H1=>sp (vs ++ dvs) H1 Q E
def tMake (C:Addr) (sp:Sp) (dvs:List V) (E:XK) (t:TA):TE:=fun σ H Q=>t σ H fun vs H1=>∀ x dx,H1 x=none→H1 dx=none→dx≠x→
 sp (.ref x :: (vs ++ dvs)) (upd (upd H1 dx (.own x)) x (.ins C dx [])) (fun v H2=>v=.non∧Q (.ref x) H2) E
def Binds (K:PySem.W.Frag) (fd:FuncData) (ps:List Str) (ds:List Value):Prop :=
 ∀ (s:Shared) (us:List Value),K.In s.heap→(us ++ ds).length=ps.length→BindsTo s fd ⟨us,[]⟩ (ps.zip (us ++ ds))
theorem Binds.all {K:PySem.W.Frag} {fd:FuncData} {ps:List Str} (h:∀ us:List Value,us.length=ps.length→bindArgs fd ⟨us,[]⟩=pure (ps.zip us)):Binds K fd ps []:=fun s us _ hl=>by
 rw [List.append_nil] at hl ⊢
 exact .of_eq (h us hl)
def J7d (CX:CXT) (X:Cx) (E:XK):Prop:=∀ (pins:List (Addr × Obj)) (σ:St) (H:Hp) (s:Shared) (e:Value) (s':Shared),Inv X pins σ H s→CX X.stack H s E e s'→X.xe e s'
section
variable {X:Cx} {CX:CXT} {k:Nat} {f C:Addr} {fd:FuncData} {ps:List Str} {sp:Sp} {dvs:List V} {ds:List Value} {E:XK} {x m:Str} {p pos apos:Pos} {e o:Expr} {es:List Expr} {ta:TE} {t:TA}
theorem run_fn {pins:List (Addr × Obj)} {σ:St} {H:Hp} {s:Shared} {Q:VK} {us:List Value} {vs:List V} (F:FnOk X.prog X.w X.K X.mg X.base CX k f fd ps sp) (hr:Room k X.A) (hb:Binds X.K fd ps ds) (hd:Vals dvs ds) (hx:J7d CX X E)
  (I:Inv X pins σ H s) (r:Vals vs us) (h:sp (vs ++ dvs) H Q E):wpAny (model X.prog X.w) X.A (call (.ref f) us) (EP X pins σ Q) X.xe s:=by
 have r2:Vals (vs ++ dvs) (us ++ ds):=r.append hd
 have hl:(us ++ ds).length=ps.length:=by rw [← r2.length];exact F.len _ _ _ _ h
 refine wpAny_call (codeAny_mono (F.run X.A X.stack s H ⟨us,[]⟩ (us ++ ds) (vs ++ dvs) Q E hr I.env0 (hb s us I.kIn hl) r2 h) fun r s' hq=>?_)
 cases r with
 | error e=>exact hx pins σ H s e s' I hq
 | ok fl =>
  cases fl with
  | ret u=>exact I.after hq
  | next=>exact False.elim hq
  | brk=>exact False.elim hq
  | cont=>exact False.elim hq
theorem Jd (F:FnOk X.prog X.w X.K X.mg X.base CX k f fd ps sp) (hr:Room k X.A) (hg:Gl X x) (hm:X.mg x=some (.ref f)) (hk:PySem.W.keepIn X.K (.ref f)=true) (hb:Binds X.K fd ps ds) (hd:Vals dvs ds) (hx:J7d CX X E)
  (ha:PA X (e :: es) t) (hdb:(x == ("__debug__":Str))=false:=by decide) (he:starEach (e :: es) X.env=(false,eval e X.env) :: starEach es X.env:=by rfl) (hpl:(backTo pos (starEach es X.env)).any (·.1)=false:=by rfl) :
  PE X (.Call (.Name x p) (e :: es) [] pos) (tCall sp dvs E t):=by
 intro pins s σ H Q I h
 refine wpAny_Call_Name_kw (ld_glob I hg hm ?_ hdb)
 refine PySem.W.callWith_K (h₀:=X.base) I.ok.mod.kin hk (thn (ha pos pins s σ H _ I h) fun us s1 ⟨vs,H1,I1,r,q⟩=>⟨I1.kIn,?_⟩) he hpl
 exact run_fn F hr hb hd hx I1 r q
structure Mk (K:PySem.W.Frag) (C f:Addr):Prop where
 makes:PySem.W.makesIn K C=true
 init:PySem.W.findIn K (.ref C) "__init__"=some (some (.ref f))
 fn:PySem.W.isFn K (.ref f)=true
 kp:PySem.W.keepIn K (.ref C)=true
theorem run_make {pins:List (Addr × Obj)} {σ:St} {H:Hp} {s:Shared} {Q:VK} {us:List Value} {vs:List V} (M:Mk X.K C f) (F:FnOk X.prog X.w X.K X.mg X.base CX k f fd ps sp) (hr:Room (k + 1) X.A) (hb:Binds X.K fd ps ds) (hd:Vals dvs ds)
  (hx:J7d CX X E) (I:Inv X pins σ H s) (r:Vals vs us)
  (h:∀ x dx,H x=none→H dx=none→dx≠x→sp (.ref x :: (vs ++ dvs)) (upd (upd H dx (.own x)) x (.ins C dx [])) (fun v H2=>v=.non∧Q (.ref x) H2) E) :
  wpAny (model X.prog X.w) X.A (call (.ref C) us) (EP X pins σ Q) X.xe s:=by
 have hq:=h (s.heap.objs.size + 1) s.heap.objs.size (I.hok.fresh (Nat.le_succ _)) (I.hok.fresh (Nat.le_refl _)) (Nat.ne_of_lt (Nat.lt_succ_self _))
 have I2:=Inv.made (C:=C) I
 have r2:Vals (V.ref (s.heap.objs.size + 1) :: (vs ++ dvs)) (Value.ref (s.heap.objs.size + 1) :: (us ++ ds)):=.cons rfl (r.append hd)
 have hl:(Value.ref (s.heap.objs.size + 1) :: us ++ ds).length=ps.length:=by
  have e:=r2.length
  rw [F.len _ _ _ _ hq] at e
  exact e.symm
 refine wpAny_call (make_map (f:=f) I.kIn M.makes M.init (beq_iff_eq.mp M.fn) (codeAny_mono (F.run _ X.stack _ _ ⟨Value.ref (s.heap.objs.size + 1) :: us,[]⟩ (Value.ref (s.heap.objs.size + 1) :: (us ++ ds)) _ _ E (hr.make C us [])
  (I2.env0.make C us []) (hb _ (Value.ref (s.heap.objs.size + 1) :: us) I2.kIn hl) r2 hq) fun r s' hq'=>?_))
 cases r with
 | error e=>exact hx pins σ _ _ e s' I2 hq'
 | ok fl =>
  cases fl with
  | ret u =>
   obtain ⟨v,H',I3,rv,ev,q3⟩:=I2.after hq'
   subst ev
   exact ⟨rv,⟨V.ref (s.heap.objs.size + 1),H',I3,rfl,q3⟩⟩
  | next=>exact False.elim hq'
  | brk=>exact False.elim hq'
  | cont=>exact False.elim hq'
theorem J1f (M:Mk X.K C f) (F:FnOk X.prog X.w X.K X.mg X.base CX k f fd ps sp) (hr:Room (k + 1) X.A) (hg:Gl X x) (hm:X.mg x=some (.ref C)) (hb:Binds X.K fd ps ds) (hd:Vals dvs ds) (hx:J7d CX X E)
  (ha:PA X (e :: es) t) (hdb:(x == ("__debug__":Str))=false:=by decide) (he:starEach (e :: es) X.env=(false,eval e X.env) :: starEach es X.env:=by rfl) (hpl:(backTo pos (starEach es X.env)).any (·.1)=false:=by rfl) :
  PE X (.Call (.Name x p) (e :: es) [] pos) (tMake C sp dvs E t):=by
 intro pins s σ H Q I h
 refine wpAny_Call_Name_kw (ld_glob I hg hm ?_ hdb)
 refine PySem.W.callWith_K (h₀:=X.base) I.ok.mod.kin M.kp (thn (ha pos pins s σ H _ I h) fun us s1 ⟨vs,H1,I1,r,q⟩=>⟨I1.kIn,?_⟩) he hpl
 exact run_make M F hr hb hd hx I1 r q
end
structure FnScope (N P:List Str) (sc:Scope):Prop where
 kind:sc.kind=.function
 co:sc.isCoroutine=false
 gen:sc.isGenerator=false
 nd:N.Nodup
 pre:N.take P.length=P
 par:∀ x∈P,sc.names.lookup x=some .local∨sc.names.lookup x=some .cell
 nofree:∀ y∈sc.names,y.2≠.free
theorem bindL_out {kindOf:Str→Option NameKind} {x:Str}:∀ {binds:List (Str × Value)} {m:Str→Option Value},(∀ v,(x,v) ∉ binds)→bindL kindOf binds m x=m x
 | [],_,_=>rfl
 | (n,v) :: r,m,h=>by
  unfold bindL
  rw [bindL_out fun w hw=>h w (List.mem_cons_of_mem _ hw)]
  split
  ·have:x≠n:=by rintro rfl;exact h v List.mem_cons_self
   simp [this]
  ·rfl
theorem bindC_out {kindOf:Str→Option NameKind} {x:Str}:∀ {binds:List (Str × Value)} {m:Str→Option Value},(∀ v,(x,v) ∉ binds)→bindC kindOf binds m x=m x
 | [],_,_=>rfl
 | (n,v) :: r,m,h=>by
  unfold bindC
  rw [bindC_out fun w hw=>h w (List.mem_cons_of_mem _ hw)]
  split
  ·rfl
  ·have:x≠n:=by rintro rfl;exact h v List.mem_cons_self
   simp [this]
theorem bindL_get {kindOf:Str→Option NameKind} {x:Str} {v:Value}:∀ {P:List Str} {vs:List Value} {i:Nat} {m:Str→Option Value},P.Nodup→P[i]?=some x→vs[i]?=some v→kindOf x=some .local→
  bindL kindOf (P.zip vs) m x=some v
 | [],_,_,_,_,h,_,_=>by simp at h
 | _ :: _,[],_,_,_,_,h,_=>by simp at h
 | p :: P,w :: vs,0,m,nd,h1,h2,hk=>by
  simp at h1 h2;subst h1;subst h2
  show bindL kindOf ((p,w) :: P.zip vs) m p=_
  unfold bindL
  rw [bindL_out fun v hv=>(List.nodup_cons.mp nd).1 (List.of_mem_zip hv).1,if_pos hk]
  simp
 | p :: P,w :: vs,i + 1,m,nd,h1,h2,hk=>by
  show bindL kindOf ((p,w) :: P.zip vs) m x=_
  unfold bindL
  exact bindL_get (i:=i) (List.nodup_cons.mp nd).2 (by simpa using h1) (by simpa using h2) hk
theorem bindC_get {kindOf:Str→Option NameKind} {x:Str} {v:Value}:∀ {P:List Str} {vs:List Value} {i:Nat} {m:Str→Option Value},P.Nodup→P[i]?=some x→vs[i]?=some v→kindOf x≠some .local→
  bindC kindOf (P.zip vs) m x=some v
 | [],_,_,_,_,h,_,_=>by simp at h
 | _ :: _,[],_,_,_,_,h,_=>by simp at h
 | p :: P,w :: vs,0,m,nd,h1,h2,hk=>by
  simp at h1 h2;subst h1;subst h2
  show bindC kindOf ((p,w) :: P.zip vs) m p=_
  unfold bindC
  rw [bindC_out fun v hv=>(List.nodup_cons.mp nd).1 (List.of_mem_zip hv).1,if_neg hk]
  simp
 | p :: P,w :: vs,i + 1,m,nd,h1,h2,hk=>by
  show bindC kindOf ((p,w) :: P.zip vs) m x=_
  unfold bindC
  exact bindC_get (i:=i) (List.nodup_cons.mp nd).2 (by simpa using h1) (by simpa using h2) hk
def start (N:List Str) (vs:List V):St:=vs.map some ++ List.replicate (N.length - vs.length) none
def cxOf (CX:CXT) (P:Program) (w:World) (K:PySem.W.Frag) (mg:Str→Option Value) (base:Heap) (N:List Str) (qual:Str) (scope:Scope) (f:Addr) (cd:Value) (A:Around) (outer:List Env) (s:Shared) (H:Hp) (E:XK):Cx where
 prog:=P
 w:=w
 K:=K
 mg:=mg
 base:=base
 A:=A.deeper (envOfC qual scope s.heap.objs.size f cd)
 N:=N
 s₀:=s
 H₀:=H
 env:=envOfC qual scope s.heap.objs.size f cd
 outer:=outer
 stack:=envOfC qual scope s.heap.objs.size f cd :: outer
 ex:=[]
 calm:=true
 fn:=fun _=>true
 pn:=[]
 xe:=fun e s'=>wpAny (model P w) (A.deeper (envOfC qual scope s.heap.objs.size f cd)) (leaving (envOfC qual scope s.heap.objs.size f cd) e) (fun _ s''=>CX outer H s E e s'') (fun e' s''=>CX outer H s E e' s'') s'
theorem cell_has {sc:Scope} {n:Nat} {x:Str} (h:sc.names.lookup x=some .cell):∃ c,(cellsFrom n sc.names []).lookup x=some c:=by
 have q:=PySem.W.cellsFrom_some sc.names n [] (.inl h)
 exact Option.isSome_iff_exists.mp q
theorem inv_start {CX:CXT} {P:Program} {w:World} {K:PySem.W.Frag} {mg:Str→Option Value} {base:Heap} {N ps:List Str} {qual:Str} {scope:Scope} {f:Addr} {cd:Value} {A:Around} {outer:List Env} {s s1:Shared} {H:Hp} {E:XK} {us:List Value} {vs:List V}
  (S:FnScope N ps scope) (hd:A.handled=none) (e0:Env0 P w K mg base A outer s H) (hl:vs.length=ps.length) (r:Vals vs us)
  (x:InCallC s s.heap.objs.size (bindL (envOfC qual scope s.heap.objs.size f cd).kindOf (ps.zip us) fun _=>none) (cellsFrom (s.heap.objs.size + 1) scope.names []) (bindC (envOfC qual scope s.heap.objs.size f cd).kindOf (ps.zip us) fun _=>none) s1) :
  Inv (cxOf CX P w K mg base N qual scope f cd A outer s H E) [] (start N vs) H s1:=by
 have hpl:ps.length≤N.length:=by have:=congrArg List.length S.pre;rw [List.length_take] at this;omega
 obtain ⟨h1,tk,rfl,hk⟩:=x.done
 have noA:∀ b:Addr,b ∉ (cxOf CX P w K mg base N qual scope f cd A outer s H E).ex:=fun b z=>absurd (show b∈([]:List Addr) from z) (by simp)
 refine ⟨⟨e0.mod,S.kind,rfl,rfl,Nat.le_refl _,fun y z c h1 h2=>?_,fun y hy=>?_,fun y c _ h=>?_,fun _=>hd,Around.frames_deeper e0.frames,.inr ⟨rfl,rfl⟩,fun b z=>absurd z (noA b),e0.bs,e0.bsz,fun b _ _=>noA b,fun b z=>absurd z (noA b),e0.funs,e0.frf⟩,
  rfl,e0.bare,Un.kept hk,⟨_,x.toInCall.ns,fun i y v h1 h2 h3=>?_⟩,fun y c h=>⟨_,x.cell y c h⟩,e0.hok.fresh (Nat.le_refl _),fun y c h=>?_,fun p hp=>absurd (show p∈([]:List (Addr × Obj)) from hp) (by simp),e0.hok.kept hk,?_⟩
 ·exact name_of_addr x.apart (PySem.mem_of_lookup h1) (PySem.mem_of_lookup h2)
 ·have hy:scope.names.lookup y=some .cell∨scope.names.lookup y=some .free:=hy
  rcases hy with hy | hy
  ·exact cell_has hy
  ·exact absurd rfl (S.nofree _ (PySem.mem_of_lookup hy))
 ·exact Nat.le_of_lt (x.above y c (PySem.mem_of_lookup h))
 ·have hi:i < vs.length:=by
   unfold start at h2
   by_cases hi:i < vs.length
   ·exact hi
   ·rw [List.getElem?_append_right (by simpa using hi)] at h2
    rw [List.getElem?_replicate] at h2
    split at h2 <;> cases h2
  have ha:vs[i]?=some v:=by
   unfold start at h2
   rw [List.getElem?_append_left (by simpa using hi),List.getElem?_map] at h2
   cases e:vs[i]? with
   | none=>rw [e] at h2;cases h2
   | some a=>rw [e] at h2;cases h2;rfl
  obtain ⟨u,hu,rv⟩:=r.get ha
  have hp:ps[i]?=some y:=by
   rw [← S.pre,List.getElem?_take_of_lt (by omega)];exact h1
  have ndP:ps.Nodup:=by rw [← S.pre];exact S.nd.sublist (List.take_sublist _ _)
  refine ⟨u,rv,?_⟩
  rcases S.par y (List.mem_of_getElem? hp) with k | k
  ·exact .inl ⟨k,bindL_get ndP hp hu k⟩
  ·obtain ⟨c,e⟩:=cell_has (n:=s.heap.objs.size + 1) k
   refine .inr ⟨.inl k,c,e,?_⟩
   have q:=x.cell y c e
   rw [bindC_get ndP hp hu (by show scope.names.lookup y≠_;rw [k];decide)] at q
   exact q
 ·exact e0.hok.fresh (Nat.le_of_lt (x.above y c (PySem.mem_of_lookup h)))
 ·unfold start
  show _=N.length
  rw [List.length_append,List.length_map,List.length_replicate]
  omega
theorem fn_of {CX:CXT} {P:Program} {w:World} {K:PySem.W.Frag} {mg:Str→Option Value} {base:Heap} {k:Nat} {f:Addr} {name qual:Str} {params:Arguments} {body:List Stmt} {scope:Scope} {dV kV doc pm cdv ct oc:Value} {an od:Option Addr}
  {osl:Array (Option Value)} {N ps:List Str} {sp:Sp} (lk:K.lookup f=some ⟨oc,od,.func (PySem.W.fnOf name qual params body scope dV kV doc pm an cdv ct),osl⟩) (hcd:PySem.W.codeIn K cdv qual=true) (S:FnScope N ps scope)
  (len:∀ vs H Q E,sp vs H Q E→vs.length=ps.length)
  (hbody:∀ (A:Around) (outer:List Env) (s:Shared) (H:Hp) (vs:List V) (Q:VK) (E:XK),Room k (A.deeper (envOfC qual scope s.heap.objs.size f cdv))→sp vs H Q E→
   ∃ t,PSs (cxOf CX P w K mg base N qual scope f cdv A outer s H E) body t∧t { nx:=fun _ H'=>Q .non H',rt:=Q } (start N vs) H) :
  FnOk P w K mg base CX (k + 1) f (PySem.W.fnOf name qual params body scope dV kV doc pm an cdv ct) ps sp:=by
 refine ⟨len,fun A outer s H args us vs Q E hr e0 hb r hsp=>?_⟩
 have hl:=len _ _ _ _ hsp
 have KX:K.In s.heap:=e0.mod.kin.keeps fun b o e=>(e0.bs b o e).1
 have lim:s.heap.NoLimit:=e0.mod.nolimit.keeps fun b o e=>(e0.bs b o e).1
 have hkind:∀ y∈ps.zip us,scope.names.lookup y.1=some .local∨(scope.names.lookup y.1=some .cell∧((cellsFrom (s.heap.objs.size + 1) scope.names []).lookup y.1).isSome=true):=fun ⟨n,v⟩ hy=>by
  rcases S.par n (List.of_mem_zip hy).1 with q | q
  ·exact .inl q
  ·exact .inr ⟨q,PySem.W.cellsFrom_some _ _ _ (.inl q)⟩
 refine codeAny_call_function hr.depth (KX _ _ lk) rfl S.co S.gen rfl (PySem.W.codeRec_of KX hcd) (hb _ _ _ _ ?_)
 refine wpAny_newFunctionEnv_cells S.kind hkind fun env he s1 x=>?_
 subst he
 refine ⟨lim.keeps x.toInCall.keep,codeAny_func ?_⟩
 obtain ⟨t,ht,hq⟩:=hbody A outer s H vs Q E (hr.deeper _) hsp
 have I:Inv (cxOf CX P w K mg base N qual scope f cdv A outer s H E) [] (start N vs) H s1:=inv_start S hr.hd e0 hl r x
 refine wpAny_mono (ht [] s1 (start N vs) H _ I hq) (fun fl s' hs=>?_) fun e s' hs=>hs
 have fin:∀ {σ':St} {H':Hp} {v:V} {u:Value},Inv (cxOf CX P w K mg base N qual scope f cdv A outer s H E) [] σ' H' s'→RelV v u→Q v H'→CE outer P w H s Q u s' :=
  fun {σ' H' v u} J rv q=>⟨v,H',J.os,J.bare,J.base,J.hok,rv,q⟩
 cases fl with
 | ret u =>
  obtain ⟨v,σ',H',J,rv,q⟩:=hs
  exact fin J rv q
 | next =>
  obtain ⟨σ',H',J,q⟩:=hs
  exact fin (v:=V.non) (u:=Value.none) J rfl q
 | brk =>
  obtain ⟨_,_,_,q⟩:=hs
  exact False.elim q
 | cont =>
  obtain ⟨_,_,_,q⟩:=hs
  exact False.elim q
end L2
namespace L2
open PySem PySem.Spec PyProof.Rows
section
variable {X:Cx} {x:Str} {p pos:Pos} {e:Expr} {es:List Expr} {t:TA} {id T:String} {r:List V→Hp→VK→Prop}
def tCB (r:List V→Hp→VK→Prop) (t:TA):TE:=fun σ H Q=>t σ H fun vs H1=>r vs H1 Q
theorem Jy (hc:CallR X (.builtin id) r) (hg:Gl X x) (hm:X.mg x=none) (hv:bootBuiltins x=some (.builtin id)) (ha:PA X (e :: es) t) (hn:x≠"__name__":=by decide) (hdb:(x == ("__debug__":Str))=false:=by decide)
  (he:starEach (e :: es) X.env=(false,eval e X.env) :: starEach es X.env:=by rfl) (hpl:(backTo pos (starEach es X.env)).any (·.1)=false:=by rfl):PE X (.Call (.Name x p) (e :: es) [] pos) (tCB r t):=by
 intro pins s σ H Q I h
 refine wpAny_Call_Name_kw (ld_blt I hg hm hv ?_ hn hdb)
 exact PyProof.Rows.callWith_builtin1 (thn (ha pos pins s σ H _ I h) fun us s1 ⟨vs,H1,I1,r1,q1⟩=>hc pins s1 σ H1 vs us Q I1 r1 q1) he hpl
theorem Jk (hc:CallR X (.type T) r) (hg:Gl X x) (hm:X.mg x=none) (hv:bootBuiltins x=some (.type T)) (ha:PA X (e :: es) t) (hn:x≠"__name__":=by decide) (hdb:(x == ("__debug__":Str))=false:=by decide)
  (he:starEach (e :: es) X.env=(false,eval e X.env) :: starEach es X.env:=by rfl) (hpl:(backTo pos (starEach es X.env)).any (·.1)=false:=by rfl):PE X (.Call (.Name x p) (e :: es) [] pos) (tCB r t):=by
 intro pins s σ H Q I h
 refine wpAny_Call_Name_kw (ld_blt I hg hm hv ?_ hn hdb)
 exact PyProof.Rows.callWith_type1 (thn (ha pos pins s σ H _ I h) fun us s1 ⟨vs,H1,I1,r1,q1⟩=>hc pins s1 σ H1 vs us Q I1 r1 q1) he hpl
end
end L2
namespace HT
open PySem PyProof.Rows
section
variable {prog:Program} {w:World} {A:Around} {E:Value→Shared→Prop} {s:Shared}
def sIx (n d:Nat):Option Int→Nat
 | none=>d
 | some v=>if v < 0 then (v + (n:Int)).toNat else min v.toNat n
theorem sIx_none (n d:Nat):sIx n d none=d:=rfl
theorem sIx_nat (n d k:Nat):sIx n d (some (k:Int))=min k n:=by
 show (if (k:Int) < 0 then ((k:Int) + (n:Int)).toNat else min (k:Int).toNat n)=min k n
 rw [if_neg (by omega),Int.toNat_natCast]
theorem sIx_le (n d:Nat) (hd:d≤n) (o:Option Int):sIx n d o≤n:=by
 cases o with
 | none=>exact hd
 | some v =>
  show (if v < 0 then (v + (n:Int)).toNat else min v.toNat n)≤n
  by_cases hv:v < 0
  ·rw [if_pos hv];omega
  ·rw [if_neg hv];exact Nat.min_le_right _ _
theorem clip_eq (v:Int) (n d:Nat):(if v < 0 then max (v + (n:Int)) 0 else min v (n:Int))=((sIx n d (some v):Nat):Int):=by
 show (if v < 0 then max (v + (n:Int)) 0 else min v (n:Int))=(((if v < 0 then (v + (n:Int)).toNat else min v.toNat n):Nat):Int)
 by_cases hv:v < 0
 ·simp only [if_pos hv];omega
 ·simp only [if_neg hv];omega
theorem adjust_gen (lo hi:Option Int) (n:Nat):Builtin.Slice.sliceAdjust lo hi 1 (n:Int)=(((sIx n 0 lo:Nat):Int),((sIx n n hi:Nat):Int)):=by
 have h1:¬ ((1:Int) < 0):=by omega
 unfold Builtin.Slice.sliceAdjust
 simp only [h1,if_false]
 refine Prod.ext ?_ ?_
 ·cases lo with
  | none=>rfl
  | some v=>exact clip_eq v n 0
 ·cases hi with
  | none=>rfl
  | some v=>exact clip_eq v n n
theorem places_gen (i j:Nat):Builtin.Slice.slicePlaces (i:Int) (j:Int) 1=j - i:=by
 unfold Builtin.Slice.slicePlaces
 have h1:(1:Int) > 0:=by omega
 simp only [h1,if_true,Int.ediv_one]
 split <;> omega
theorem J6w {v:Value} {o:Option Int} {Q:Option Int→Shared→Prop} (p:IsPart v o) (h:Q o s):wpAny (model prog w) A (Builtin.Slice.slicePartIndex v) Q E s:=by
 cases p with
 | none=>exact slicePart_none h
 | int i t=>exact slicePart_int h
theorem J49 {sl:Addr} {vl vu:Value} {lo hi:Option Int} {n:Nat} {Q:Int × Int × Nat→Shared→Prop} (hs:s.heap.IsSliceOf sl vl vu .none) (pl:IsPart vl lo) (pu:IsPart vu hi)
  (h:Q (((sIx n 0 lo:Nat):Int),1,sIx n n hi - sIx n 0 lo) s):wpAny (model prog w) A (Builtin.Slice.sliceApplied (.ref sl) (pure (n:Int))) Q E s:=by
 obtain ⟨os,hos,hcs,hds⟩:=id hs
 unfold Builtin.Slice.sliceApplied Builtin.Slice.sliceFields
 refine wpAny_bind (wpAny_bind (wpAny_field hos hds (x:=vl) rfl (wpAny_bind (wpAny_field hos hds (x:=vu) rfl (wpAny_bind (wpAny_field hos hds (x:=.none) rfl (wpAny_pure ?_)))))))
 refine wpAny_bind (slicePart_none ?_)
 show wpAny _ _ (if ((1:Int) == 0)=true then _ else _) _ _ s
 rw [if_neg (by decide)]
 refine wpAny_bind (J6w pl (wpAny_bind (J6w pu (wpAny_bind (wpAny_pure ?_)))))
 show wpAny _ _ (match Builtin.Slice.sliceAdjust lo hi 1 (n:Int) with | (lo,hi)=>pure (lo,(1:Int),Builtin.Slice.slicePlaces lo hi 1)) _ _ s
 rw [adjust_gen lo hi n]
 show wpAny _ _ (pure (((sIx n 0 lo:Nat):Int),(1:Int),Builtin.Slice.slicePlaces ((sIx n 0 lo:Nat):Int) ((sIx n n hi:Nat):Int) 1)) _ _ s
 rw [places_gen]
 exact wpAny_pure h
theorem pick_gen (xs:Array Value) (i k:Nat):((List.range k).filterMap fun (m:Nat)=>xs[((i:Int) + (m:Int) * 1).toNat]?).toArray=((xs.toList.drop i).take k).toArray:=by
 have e:(fun (m:Nat)=>xs[((i:Int) + (m:Int) * 1).toNat]?)=fun m=>xs[i + m]?:=by
  funext m
  have:((i:Int) + (m:Int) * 1).toNat=i + m:=by omega
  rw [this]
 rw [e]
 have:=pick_run xs i k
 rw [List.filterMap_map] at this
 have e2:((fun x=>xs[x]?) ∘ fun x=>i + x)=fun m=>xs[i + m]?:=rfl
 rw [e2] at this
 rw [this]
theorem getItem_tuple_cut {t sl:Addr} {items:Array Value} {vl vu:Value} {lo hi:Option Int} {Q:Value→Shared→Prop} (ht:IsTup s.heap t items) (hs:s.heap.IsSliceOf sl vl vu .none) (pl:IsPart vl lo) (pu:IsPart vu hi)
  (hw:¬ (sIx items.size 0 lo=0∧sIx items.size items.size hi=items.size))
  (h:Q (.ref s.heap.objs.size) { s with heap:=s.heap.push { cls:=.type "tuple",data:=.seq ((items.toList.drop (sIx items.size 0 lo)).take (sIx items.size items.size hi - sIx items.size 0 lo)).toArray } })
  (hsz:items.size≤sizeLine):wpAny (model prog w) A (getItem (.ref t) (.ref sl)) Q E s:=by
 have htake:sizeOk (.seq ((items.toList.drop (sIx items.size 0 lo)).take (sIx items.size items.size hi - sIx items.size 0 lo)).toArray):=by
  show ((items.toList.drop (sIx items.size 0 lo)).take (sIx items.size items.size hi - sIx items.size 0 lo)).toArray.size≤sizeLine
  rw [List.size_toArray,List.length_take,List.length_drop,Array.length_toList]
  omega
 have hj:sIx items.size items.size hi≤items.size:=sIx_le _ _ (Nat.le_refl _) hi
 obtain ⟨os,hos,hcs,hds⟩:=id hs
 have hTs:s.TypeIs (.ref sl) "slice":=⟨os,hos,hcs⟩
 unfold getItem
 try with_reducible refine wpAny_holding ?_
 first | refine wpAny_bind (wpAny_pure ?_) | skip
 refine wpAny_bind (wpAny_sequenceKey ht.typeIs (by decide) ?_)
 refine wpAny_bind (wpAny_callSpecial?_slot (name:=Str.ofString "__getitem__") ht.typeIs PyProof.Rows.slot_tuple_getitem
  (wpAny_call_entry PyProof.Rows.slot_tuple_getitem ht.typeIs entry_tuple_getitem ?_ (args_tuple_getitem _ _)))
 show wpAny _ _ (Builtin.Tuple.tupleItemsOf (.ref t) >>= _) _ _ s
 refine wpAny_bind (tupleItemsOf_ ht ?_)
 refine wpAny_bind (wpAny_typeOf hTs ?_)
 rw [if_pos (by decide)]
 refine wpAny_bind (J49 hs pl pu ?_)
 have hno:¬ ((((sIx items.size 0 lo:Nat):Int) == 0 && (1:Int) == 1 && (sIx items.size items.size hi - sIx items.size 0 lo) == items.size)=true):=by
  intro q
  rw [Bool.and_eq_true,Bool.and_eq_true] at q
  have q1:((sIx items.size 0 lo:Nat):Int)=0:=eq_of_beq q.1.1
  have q2:sIx items.size items.size hi - sIx items.size 0 lo=items.size:=eq_of_beq q.2
  exact hw ⟨by omega,by omega⟩
 show wpAny _ _ (if (((sIx items.size 0 lo:Nat):Int) == 0 && (1:Int) == 1 && (sIx items.size items.size hi - sIx items.size 0 lo) == items.size)=true then _ else _) _ _ s
 rw [if_neg hno,pick_gen]
 first
  | exact wpAny_bind (m:=Builtin.Tuple.tupleExact _) (wpAny_newObj_type (wpAny_pure ⟨_,rfl,wpAny_pure h⟩) htake)
  | exact wpAny_bind (m:=Builtin.Tuple.tupleExact _) (wpAny_newObj_type (wpAny_bind (wpAny_pure (wpAny_pure ⟨_,rfl,wpAny_pure h⟩))) htake)
  | exact wpAny_bind (wpAny_bind (m:=Builtin.Tuple.tupleExact _) (wpAny_newObj_type (wpAny_pure (wpAny_pure ⟨_,rfl,wpAny_pure h⟩)) htake))
  | exact wpAny_bind (wpAny_bind (m:=Builtin.Tuple.tupleExact _) (wpAny_newObj_type (wpAny_pure ⟨_,rfl,wpAny_pure h⟩) htake))
end
end HT
namespace L2
open PySem PySem.Spec PyProof.Rows
abbrev TO:=St→Hp→(Option Int→Hp→Prop)→Prop
def PO (X:Cx) (e:Option Expr) (t:TO):Prop :=
 ∀ (pins:List (Addr × Obj)) (s:Shared) (σ:St) (H:Hp) (Q:Option Int→Hp→Prop),Inv X pins σ H s→t σ H Q→
  wpAny (model X.prog X.w) X.A (evalPart e X.env) (fun u s'=>∃ o H',Inv X pins σ H' s'∧IsPart u o∧Q o H') X.xe s
def tNoPart:TO:=fun _ H Q=>Q none H
def tPart (t:TE):TO:=fun σ H Q=>t σ H fun x H1=>∃ i,x=.int i∧Q (some i) H1
theorem J1v {ns:List Int}:∀ {us:List Value},Vals (ns.map V.int) us→IntsAre us ns:=by
 induction ns with
 | nil=>intro us r;rw [List.map_nil] at r;cases r;exact .nil
 | cons n ns ih =>
  intro us r
  rw [List.map_cons] at r
  cases r with
  | cons r1 r2 =>
   obtain ⟨t,e⟩:=r1
   subst e
   exact .cons n t (ih r2)
section
variable {X:Cx} {e:Expr} {te:TE} {lo hi:Option Expr} {tl th:TO} {pos p2:Pos}
theorem J4c:PO X none tNoPart:=by
 intro pins s σ H Q I h
 rw [evalPart_none]
 exact wpAny_pure ⟨none,H,I,.none,h⟩
theorem J4b (h:PE X e te):PO X (some e) (tPart te):=by
 intro pins s σ H Q I hw
 rw [evalPart_some]
 refine thn (h pins s σ H _ I hw) fun u s1 ⟨x,H1,I1,r1,q1⟩=>?_
 obtain ⟨i,rfl,q⟩:=q1
 obtain ⟨t,rfl⟩:=r1
 exact ⟨some i,H1,I1,.int i t,q⟩
def SlR (X:Cx) (r:V→Option Int→Option Int→Hp→VK→Prop):Prop :=
 ∀ (pins:List (Addr × Obj)) (s:Shared) (σ:St) (H:Hp) (x:V) (v vl vu:Value) (lo hi:Option Int) (sl:Addr) (Q:VK),Inv X pins σ H s→RelV x v→s.heap.IsSliceOf sl vl vu .none→IsPart vl lo→IsPart vu hi→r x lo hi H Q→
  ∃ T id,typeLookup (.type T) "__getitem__"=pure (some (.builtin id))∧s.TypeIs v T∧wpAny (model X.prog X.w) X.A (getItem v (.ref sl)) (EP X pins σ Q) X.xe s
def tSl (r:V→Option Int→Option Int→Hp→VK→Prop) (te:TE) (tl th:TO):TE:=fun σ H Q=>te σ H fun x H1=>tl σ H1 fun l H2=>th σ H2 fun u H3=>r x l u H3 Q
theorem J3e {r:V→Option Int→Option Int→Hp→VK→Prop} (hr:SlR X r) (he:PE X e te) (hl:PO X lo tl) (hu:PO X hi th):PE X (.Subscript e (.Slice lo hi none p2) pos) (tSl r te tl th):=by
 intro pins s σ H Q I h
 refine Subscript_ (thn (he pins s σ H _ I h) fun v s1 ⟨x,H1,I1,r1,q1⟩=>?_)
 refine wpAny_Slice (thn (hl pins s1 σ H1 _ I1 q1) fun vl s2 ⟨l,H2,I2,pl,q2⟩=>thn (hu pins s2 σ H2 _ I2 q2) fun vu s3 ⟨u,H3,I3,pu,q3⟩=>?_)
 rw [evalPart_none]
 refine wpAny_pure ?_
 have I4:Inv X pins σ H3 { s3 with heap:=s3.heap.push { cls:=.type "slice",data:=.fields #[vl,vu,.none] } }:=I3.kept (t':=s3.toks) fun b ob q=>Heap.get?_push_of_some _ q
 obtain ⟨T,id,hT,ht,hg⟩:=hr pins { s3 with heap:=s3.heap.push { cls:=.type "slice",data:=.fields #[vl,vu,.none] } } σ H3 x v vl vu l u s3.heap.objs.size Q I4 r1 (Heap.IsSliceOf.new ..) pl pu q3
 show wpAny (model X.prog X.w) X.A (subscriptTail e (.Slice lo hi none p2) v (.ref s3.heap.objs.size)) (EP X pins σ Q) X.xe { s3 with heap:=s3.heap.push { cls:=.type "slice",data:=.fields #[vl,vu,.none] } }
 exact tail_any (ops:=[.ref s3.heap.objs.size,v]) ht hT hg (by with_unfolding_all rfl)
def cutV (xs:List V) (lo hi:Option Int):List V:=(xs.drop (HT.sIx xs.length 0 lo)).take (HT.sIx xs.length xs.length hi - HT.sIx xs.length 0 lo)
theorem J5t (xs:List V) (lo hi:Option Int):(cutV xs lo hi).length≤xs.length:=by
 unfold cutV
 rw [List.length_take,List.length_drop]
 omega
def rSlT (K:PySem.W.Frag):V→Option Int→Option Int→Hp→VK→Prop:=fun x lo hi H Q=>∃ a xs,x=.ref a∧SqT K H a xs∧
 ¬ (HT.sIx xs.length 0 lo=0∧HT.sIx xs.length xs.length hi=xs.length)∧∀ p,H p=none→Q (.ref p) (upd H p (.tup (cutV xs lo hi)))
theorem sl_tup:SlR X (rSlT X.K):=by
 intro pins s σ H x v vl vu lo hi sl Q I rx hs pl pu h
 obtain ⟨a,xs,rfl,hx,hw,q⟩:=h
 cases rx
 obtain ⟨its,r,ht,hz⟩:=I.tuple hx
 have hlen:its.toArray.size=xs.length:=by rw [List.size_toArray];exact r.length.symm
 refine ⟨"tuple",_,PyProof.Rows.slot_tuple_getitem.lookup,ht.typeIs,?_⟩
 refine HT.getItem_tuple_cut ht hs pl pu (by rw [hlen];exact hw) ?_ (by rw [hlen];exact hz)
 rw [hlen]
 refine ⟨.ref s.heap.objs.size,_,I.laid (t':=s.toks) (o:=.tup (cutV xs lo hi)) (fun b ob q=>Heap.get?_push_of_some _ q) (Nat.le_refl _) ?_,rfl,q _ (I.hok.fresh (Nat.le_refl _))⟩
 exact ⟨Nat.le_trans (J5t xs lo hi) hz,_,(r.drop (HT.sIx xs.length 0 lo)).take (HT.sIx xs.length xs.length hi - HT.sIx xs.length 0 lo),TupX.new _ _⟩
end
end L2
namespace L2
open PySem PySem.Spec PyProof.Rows
def ixN (n:Nat) (i:Int):Option Nat:=if 0≤i then (if i < n then some i.toNat else none) else if -(n:Int)≤i then some (i + n).toNat else none
def atI {α:Type} (xs:List α) (i:Int):Option α:=(ixN xs.length i).bind fun j=>xs[j]?
theorem ixN_seq {n:Nat} {i:Int} {j:Nat} (h:ixN n i=some j):seqIndex? i n=some j∧j < n∧-(n:Int)≤i∧i < n:=by
 unfold ixN at h
 by_cases h0:0≤i
 ·rw [if_pos h0] at h
  by_cases h1:i < n
  ·rw [if_pos h1] at h
   have e:i.toNat=j:=Option.some.inj h
   exact ⟨by rw [seqIndex_of h0 h1,e],by omega,by omega,h1⟩
  ·rw [if_neg h1] at h;cases h
 ·rw [if_neg h0] at h
  by_cases h1:-(n:Int)≤i
  ·rw [if_pos h1] at h
   have e:(i + n).toNat=j:=Option.some.inj h
   exact ⟨by rw [seqIndex_neg (by omega) h1,e],by omega,h1,by omega⟩
  ·rw [if_neg h1] at h;cases h
theorem atI_get {α:Type} {xs:List α} {i:Int} {v:α} (h:atI xs i=some v):∃ j,seqIndex? i xs.length=some j∧xs[j]?=some v∧j < xs.length∧-(xs.length:Int)≤i∧i < xs.length:=by
 unfold atI at h
 cases e:ixN xs.length i with
 | none=>rw [e] at h;cases h
 | some j =>
  rw [e] at h
  obtain ⟨h1,h2,h3,h4⟩:=ixN_seq e
  exact ⟨j,h1,h,h2,h3,h4⟩
theorem J7 {α:Type} {xs:List α} {j:Nat} {v:α} (h:xs[j]?=some v):atI xs (j:Int)=some v:=by
 have hj:j < xs.length:=(List.getElem?_eq_some_iff.mp h).1
 have e:ixN xs.length (j:Int)=some j:=by
  unfold ixN
  rw [if_pos (by omega),if_pos (by omega)];simp
 unfold atI;rw [e];exact h
theorem atI_last {α:Type} (xs:List α) (v:α):atI (xs ++ [v]) (-1)=some v:=by
 have hl:(xs ++ [v]).length=xs.length + 1:=by simp
 have e:ixN (xs ++ [v]).length (-1)=some xs.length:=by
  unfold ixN
  rw [hl,if_neg (by decide),if_pos (by omega)]
  congr 1
  omega
 unfold atI
 rw [e]
 show (xs ++ [v])[xs.length]?=some v
 simp
def PlainIx (b:Expr):Prop:=∀ o i,subscripted b false o i=operate [o,i] (getItem o i)
def IxR (X:Cx) (r:R2):Prop :=
 ∀ (value slice:Expr) (pins:List (Addr × Obj)) (s:Shared) (σ:St) (H:Hp) (x y:V) (v u:Value) (Q:VK),Inv X pins σ H s→RelV x v→RelV y u→r x y H Q→
  subscripted slice false v u=operate [v,u] (getItem v u)→wpAny (model X.prog X.w) X.A (subscriptTail value slice v u) (EP X pins σ Q) X.xe s
def MtR (X:Cx) (id:String) (r:V→List V→Hp→VK→Prop):Prop :=
 ∀ (pins:List (Addr × Obj)) (s:Shared) (σ:St) (H:Hp) (x:V) (xs:List V) (v:Value) (us:List Value) (Q:VK),Inv X pins σ H s→RelV x v→Vals xs us→r x xs H Q→
  wpAny (model X.prog X.w) X.A (call (.builtin id) (v :: us)) (EP X pins σ Q) X.xe s
section
variable {X:Cx} {a b:Expr} {ta tb:TE} {pos:Pos}
theorem pe_ix {r:R2} (hr:IxR X r) (ha:PE X a ta) (hb:PE X b tb) (hs:PlainIx b):PE X (.Subscript a b pos) (tOp r ta tb):=by
 intro pins s σ H Q I h
 exact Subscript_ (binT ha hb I h fun v u s2 x y H2 I2 rx ry q=>hr a b pins s2 σ H2 x y v u Q I2 rx ry q (hs _ _))
def rIxL (K:PySem.W.Frag):R2:=fun x y H Q=>∃ p xs i v,x=.ref p∧y=.int i∧SqL K H p xs∧atI xs i=some v∧Q v H
def rIxT (K:PySem.W.Frag):R2:=fun x y H Q=>∃ p xs i v,x=.ref p∧y=.int i∧SqT K H p xs∧atI xs i=some v∧Q v H
theorem J19:IxR X (rIxL X.K):=by
 intro value slice pins s σ H x y v u Q I rx ry h hs
 obtain ⟨p,xs,i,z,rfl,rfl,hq,he,q⟩:=h
 cases rx
 obtain ⟨t,rfl⟩:=ry
 obtain ⟨its,r,pl,hz⟩:=I.list hq
 obtain ⟨j,h1,h2,h3,h4,h5⟩:=atI_get he
 obtain ⟨w,ew,rw'⟩:=r.get h2
 have hl:=r.length
 have hn:=J71
 have fin:EP X pins σ Q w s:=⟨z,H,I,rw',q⟩
 by_cases h0:0≤i
 ·have hj:i.toNat=j:=by
   rw [seqIndex_of h0 h5] at h1
   exact Option.some.inj h1
  exact item_listR pl.isList h0 (by omega) (by rw [hj];simpa using ew) fin hs
 ·have hj:(i + (its.toArray.size:Int)).toNat=j:=by
   rw [seqIndex_neg (by omega) h4] at h1
   rw [List.size_toArray,← hl]
   exact Option.some.inj h1
  exact subscriptTail_builtinR (x:=w) pl.isList.typeIs slot_list_getitem.lookup
   (wpAny_getItem_list_neg (Q:=fun r s'=>r=w∧EP X pins σ Q r s') pl.isList (by omega) (by rw [List.size_toArray] <;> omega) (by omega) (by rw [hj];simpa using ew) ⟨rfl,fin⟩) hs
theorem Jj:IxR X (rIxT X.K):=by
 intro value slice pins s σ H x y v u Q I rx ry h hs
 obtain ⟨p,xs,i,z,rfl,rfl,hq,he,q⟩:=h
 cases rx
 obtain ⟨t,rfl⟩:=ry
 obtain ⟨its,r,pl,hz⟩:=I.tuple hq
 obtain ⟨j,h1,h2,h3,h4,h5⟩:=atI_get he
 obtain ⟨w,ew,rw'⟩:=r.get h2
 have hl:=r.length
 have hn:=J71
 have fin:EP X pins σ Q w s:=⟨z,H,I,rw',q⟩
 exact subscriptTail_builtinR (x:=w) pl.typeIs slot_tuple_getitem.lookup
  (getItem_tuple (j:=j) (Q:=fun r s'=>r=w∧EP X pins σ Q r s') pl (by omega) (by omega) (by rw [List.size_toArray,← hl];exact h1) (by simpa using ew) ⟨rfl,fin⟩) hs
theorem mapSeq_set (its:List Value) (n j:Nat) (u:Value):Obj.mapSeq (·.setIfInBounds j u) { cls:=.type "list",data:=.seq its.toArray n }={ cls:=.type "list",data:=.seq (its.set j u).toArray n }:=by
 simp [Obj.mapSeq]
theorem Inv.lst {pins:List (Addr × Obj)} {σ:St} {H:Hp} {s:Shared} {p:Addr} {xs:List V} (I:Inv X pins σ H s) (h:H p=some (.lst xs)) :
  ∃ (its:List Value) (n:Nat),Vals xs its∧s.heap.get? p=some { cls:=.type "list",data:=.seq its.toArray n }∧xs.length≤sizeLine:=by
 obtain ⟨z,its,n,r,e⟩:=I.hok p _ h
 exact ⟨its,n,r,e,z⟩
theorem Inv.lstUpd {pins:List (Addr × Obj)} {σ:St} {H:Hp} {s:Shared} {p:Addr} {xs ys:List V} {its its':List Value} {n n':Nat} {f:Obj→Obj} (I:Inv X pins σ H s) (h:H p=some (.lst xs))
  (ho:s.heap.get? p=some { cls:=.type "list",data:=.seq its.toArray n }) (hf:f { cls:=.type "list",data:=.seq its.toArray n }={ cls:=.type "list",data:=.seq its'.toArray n' }) (r:Vals ys its') (hz:ys.length≤sizeLine) (t:Nat) :
  Inv X pins σ (upd H p (.lst ys)) { s with heap:=s.heap.update p f,toks:=t }:=by
 have e:(s.heap.update p f).get? p=some { cls:=.type "list",data:=.seq its'.toArray n' }:=by
  rw [Heap.get?_update_self f ho (by rw [hf] <;> rfl),hf]
 refine I.write (x:=p) (e:=p) (by rw [h];trivial) (.inl rfl) (fun b u hb q=>(Heap.get?_update_other _ _ (Ne.symm hb)).trans q) ⟨_,e⟩ ?_
 exact ⟨hz,its',n',r,e⟩
def rSetL:V→V→V→Hp→(Hp→Prop)→Prop:=fun o i v H Q=>∃ p xs k j,o=.ref p∧i=.int k∧H p=some (.lst xs)∧ixN xs.length k=some j∧Q (upd H p (.lst (xs.set j v)))
theorem J2e:PSet X rSetL:=by
 intro pins s σ H o i v ov iv u Q I ro ri rv h
 obtain ⟨p,xs,k,j,rfl,rfl,hp,hj,q⟩:=h
 cases ro
 obtain ⟨t,rfl⟩:=ri
 obtain ⟨its,n,r,ho,hz⟩:=I.lst hp
 obtain ⟨h1,h2,h3,h4⟩:=ixN_seq hj
 have hl:=r.length
 have hn:=J71
 have I':Inv X pins σ (upd H p (.lst (xs.set j v))) { s with heap:=s.heap.update p (Obj.mapSeq (·.setIfInBounds j u)) } :=
  I.lstUpd hp ho (mapSeq_set its n j u) (r.set rv j) (by rw [List.length_set];exact hz) s.toks
 by_cases h0:0≤k
 ·have hk:k.toNat=j:=by
   rw [seqIndex_of h0 h4] at h1
   exact Option.some.inj h1
  exact PySem.W.ki_setAt ho h0 (by omega) (by rw [List.size_toArray,← hl];exact h4) (by rw [hk];exact ⟨_,I',q⟩)
 ·have hk:(k + (its.toArray.size:Int)).toNat=j:=by
   rw [seqIndex_neg (by omega) h3] at h1
   rw [List.size_toArray,← hl]
   exact Option.some.inj h1
  exact PySem.W.ki_setBack ho (by omega) (by rw [List.size_toArray,← hl];exact h3) (by omega) (by rw [hk];exact ⟨_,I',q⟩)
theorem J7j (lo hi:Option Int) (n:Nat):(sliceBounds lo hi none n).1=((HT.sIx n 0 lo:Nat):Int)∧(sliceBounds lo hi none n).2.1=((HT.sIx n n hi:Nat):Int)∧(sliceBounds lo hi none n).2.2=1:=by
 refine ⟨?_,?_,rfl⟩
 ·cases lo with
  | none=>simp [sliceBounds,HT.sIx]
  | some i =>
   simp only [sliceBounds,HT.sIx,Option.getD_none,show (1:Int) > 0 by decide,if_true]
   by_cases h:i < 0
   ·simp only [h,if_true] <;> omega
   ·simp only [h,if_false] <;> omega
 ·cases hi with
  | none=>simp [sliceBounds,HT.sIx]
  | some i =>
   simp only [sliceBounds,HT.sIx,Option.getD_none,show (1:Int) > 0 by decide,if_true]
   by_cases h:i < 0
   ·simp only [h,if_true] <;> omega
   ·simp only [h,if_false] <;> omega
theorem J6v (its:List Value) (lo hi:Option Int):slicePick its.toArray lo hi none=((its.drop (HT.sIx its.length 0 lo)).take (HT.sIx its.length its.length hi - HT.sIx its.length 0 lo)).toArray:=by
 obtain ⟨h1,h2,h3⟩:=J7j lo hi its.toArray.size
 unfold slicePick
 rw [h1,h2,h3]
 simp only [sliceRange_one,pick_run,List.size_toArray] <;> rfl
def rSlL (K:PySem.W.Frag):V→Option Int→Option Int→Hp→VK→Prop:=fun x lo hi H Q=>∃ a xs,x=.ref a∧SqL K H a xs∧∀ p,H p=none→Q (.ref p) (upd H p (.lst (cutV xs lo hi)))
theorem J4w:SlR X (rSlL X.K):=by
 intro pins s σ H x v vl vu lo hi sl Q I rx hs pl pu h
 obtain ⟨a,xs,rfl,hx,q⟩:=h
 cases rx
 obtain ⟨its,r,ht,hz⟩:=I.list hx
 have hlen:=r.length
 refine ⟨"list",_,slot_list_getitem.lookup,ht.isList.typeIs,?_⟩
 refine wpAny_getItem_list_slice ht.isList hs pl pu .none (by simp) ?_ (by rw [List.size_toArray] <;> omega)
 rw [J6v,← hlen]
 refine ⟨.ref s.heap.objs.size,_,I.laid (t':=s.toks) (o:=.lst (cutV xs lo hi)) (fun b ob q=>Heap.get?_push_of_some _ q) (Nat.le_refl _) ?_,rfl,q _ (I.hok.fresh (Nat.le_refl _))⟩
 exact ⟨Nat.le_trans (J5t xs lo hi) hz,_,0,(r.drop (HT.sIx xs.length 0 lo)).take (HT.sIx xs.length xs.length hi - HT.sIx xs.length 0 lo),Heap.get?_push_size _ rfl⟩
def flatV:V→Bool
 | .non=>true
 | .bl _=>true
 | .int _=>true
 | .str _=>true
 | _=>false
def eqV:V→V→Bool
 | .non,.non=>true
 | .bl a,.bl b=>a == b
 | .bl a,.int b=>(if a then 1 else 0) == b
 | .int a,.bl b=>a == (if b then 1 else 0)
 | .int a,.int b=>a == b
 | .str a,.str b=>a == b
 | _,_=>false
theorem eqAt_V {A:Around} {s:Shared} {y x:V} {u v:Value} (ry:RelV y u) (rx:RelV x v) (fy:flatV y=true) (fx:flatV x=true):SeqAt.EqAt A s u v (eqV y x):=by
 cases y with
 | non =>
  cases ry
  cases x with
  | non=>cases rx;exact SeqAt.EqAt.same _
  | bl b=>cases rx;exact SeqAt.EqAt.none_bool b
  | int b=>obtain ⟨t,rfl⟩:=rx;exact SeqAt.EqAt.none_int b t
  | str b=>obtain ⟨t,rfl⟩:=rx;exact SeqAt.EqAt.none_str b t
  | _=>exact absurd (show false=true from fx) Bool.false_ne_true
 | bl a =>
  cases ry
  cases x with
  | non=>cases rx;exact SeqAt.EqAt.bool_none a
  | bl b=>cases rx;exact SeqAt.EqAt.bool_bool a b
  | int b=>obtain ⟨t,rfl⟩:=rx;exact SeqAt.EqAt.bool_int a b t
  | str b=>obtain ⟨t,rfl⟩:=rx;exact SeqAt.EqAt.bool_str a b t
  | _=>exact absurd (show false=true from fx) Bool.false_ne_true
 | int a =>
  obtain ⟨t',rfl⟩:=ry
  cases x with
  | non=>cases rx;exact SeqAt.EqAt.int_none a t'
  | bl b=>cases rx;exact SeqAt.EqAt.int_bool a t' b
  | int b=>obtain ⟨t,rfl⟩:=rx;exact SeqAt.EqAt.int_int a t' b t
  | str b=>obtain ⟨t,rfl⟩:=rx;exact SeqAt.EqAt.int_str a t' b t
  | _=>exact absurd (show false=true from fx) Bool.false_ne_true
 | str a =>
  obtain ⟨t',rfl⟩:=ry
  cases x with
  | non=>cases rx;exact SeqAt.EqAt.str_none a t'
  | bl b=>cases rx;exact SeqAt.EqAt.str_bool a t' b
  | int b=>obtain ⟨t,rfl⟩:=rx;exact SeqAt.EqAt.str_int a t' b t
  | str b=>obtain ⟨t,rfl⟩:=rx;exact SeqAt.EqAt.str_str a t' b t
  | _=>exact absurd (show false=true from fx) Bool.false_ne_true
 | _=>exact absurd (show false=true from fy) Bool.false_ne_true
def eqU (x:V) (u:Value):Bool:=match u with
 | .none=>eqV .non x
 | .bool b=>eqV (.bl b) x
 | .int i _=>eqV (.int i) x
 | .str z _=>eqV (.str z) x
 | _=>false
theorem eqU_of {x y:V} {u:Value} (r:RelV y u) (f:flatV y=true):eqU x u=eqV y x:=by
 cases y with
 | non=>cases r;rfl
 | bl b=>cases r;rfl
 | int i=>obtain ⟨t,rfl⟩:=r;rfl
 | str z=>obtain ⟨t,rfl⟩:=r;rfl
 | _=>exact absurd (show false=true from f) Bool.false_ne_true
theorem J7c {x:V}:∀ {xs:List V} {us:List Value},Vals xs us→xs.all flatV=true→us.any (eqU x)=xs.any fun y=>eqV y x
 | _,_,.nil,_=>rfl
 | y :: xs,u :: us,.cons r t,f=>by
  rw [List.all_cons,Bool.and_eq_true] at f
  rw [List.any_cons,List.any_cons,eqU_of r f.1,J7c t f.2]
theorem J4g {A:Around} {s:Shared} {x:V} {v:Value} (rx:RelV x v) (fx:flatV x=true):∀ {xs:List V} {us:List Value},Vals xs us→xs.all flatV=true→∀ u∈us,SeqAt.EqAt A s u v (eqU x u)
 | _,_,.nil,_=>fun u hu=>by cases hu
 | y :: xs,u :: us,.cons r t,f=>fun u' hu=>by
  rw [List.all_cons,Bool.and_eq_true] at f
  rcases List.mem_cons.mp hu with rfl | hu
  ·rw [eqU_of r f.1];exact eqAt_V r rx f.1 fx
  ·exact J4g rx fx t f.2 u' hu
def inV (x:V) (xs:List V):Bool:=xs.any fun y=>eqV y x
def rIn (K:PySem.W.Frag) (neg:Bool):R2:=fun x y H Q=>∃ p xs,y=.ref p∧(SqL K H p xs∨SqT K H p xs)∧flatV x=true∧xs.all flatV=true∧Q (.bl (if neg then !inV x xs else inV x xs)) H
theorem op_in_seq:OpR X (compareOp .In) (rIn X.K false):=by
 intro pins s σ H x y v u Q I rx ry h
 obtain ⟨p,xs,rfl,hq,fx,fs,q⟩:=h
 cases ry
 rcases hq with hq | hq
 ·obtain ⟨its,r,pl,hz⟩:=I.list hq
  refine SeqAt.in_listAt (eqU x) pl.isList (fun w hw=>J4g rx fx r fs w (by simpa using hw)) ⟨.bl _,H,I,rfl,?_⟩
  rw [show its.toArray.any (eqU x)=its.any (eqU x) by simp,J7c r fs]
  exact q
 ·obtain ⟨its,r,pl,hz⟩:=I.tuple hq
  refine SeqAt.in_tupleAt (eqU x) pl (fun w hw=>J4g rx fx r fs w (by simpa using hw)) ⟨.bl _,H,I,rfl,?_⟩
  rw [show its.toArray.any (eqU x)=its.any (eqU x) by simp,J7c r fs]
  exact q
theorem J7q:OpR X (compareOp .NotIn) (rIn X.K true):=by
 intro pins s σ H x y v u Q I rx ry h
 obtain ⟨p,xs,rfl,hq,fx,fs,q⟩:=h
 cases ry
 rcases hq with hq | hq
 ·obtain ⟨its,r,pl,hz⟩:=I.list hq
  refine SeqAt.notIn_listAt (eqU x) pl.isList (fun w hw=>J4g rx fx r fs w (by simpa using hw)) ⟨.bl _,H,I,rfl,?_⟩
  rw [show its.toArray.any (eqU x)=its.any (eqU x) by simp,J7c r fs]
  exact q
 ·obtain ⟨its,r,pl,hz⟩:=I.tuple hq
  refine SeqAt.notIn_tupleAt (eqU x) pl (fun w hw=>J4g rx fx r fs w (by simpa using hw)) ⟨.bl _,H,I,rfl,?_⟩
  rw [show its.toArray.any (eqU x)=its.any (eqU x) by simp,J7c r fs]
  exact q
theorem Ju:CallR X (.builtin "len") (fun xs H Q=>∃ p ys,xs=[.ref p]∧(SqL X.K H p ys∨SqT X.K H p ys)∧Q (.int ys.length) H):=by
 intro pins s σ H xs us Q I r h
 obtain ⟨p,ys,rfl,hq,q⟩:=h
 obtain ⟨u,rfl,rx⟩:=vals1 r
 cases rx
 have hn:=J71
 rcases hq with hq | hq
 ·obtain ⟨its,r',pl,hz⟩:=I.list hq
  have hlen:=r'.length
  exact Calls.call_len_list pl.isList (by simp only [List.size_toArray] <;> omega) ⟨.int ys.length,H,I.tok _,⟨s.toks + 1,by rw [List.size_toArray,hlen]⟩,q⟩
 ·obtain ⟨its,r',pl,hz⟩:=I.tuple hq
  have hlen:=r'.length
  exact len_tuple pl (by simp only [List.size_toArray] <;> omega) ⟨.int ys.length,H,I.tok _,⟨s.toks + 1,by rw [List.size_toArray,hlen]⟩,q⟩
theorem J1s:CallR X (.type "list") (fun xs H Q=>∃ p ys,xs=[.ref p]∧(SqL X.K H p ys∨SqT X.K H p ys)∧∀ l,H l=none→Q (.ref l) (upd H l (.lst ys))):=by
 intro pins s σ H xs us Q I r h
 obtain ⟨p,ys,rfl,hq,q⟩:=h
 obtain ⟨u,rfl,rx⟩:=vals1 r
 cases rx
 have fin:∀ (its:List Value),Vals ys its→ys.length≤sizeLine→∀ (h':Heap) (c':Nat),(∀ b o',s.heap.get? b=some o'→h'.get? b=some o')→
   h'.get? s.heap.objs.size=some { cls:=.type "list",dict:=none,data:=.seq its.toArray c',slots:=#[] }→EP X pins σ Q (.ref s.heap.objs.size) { s with heap:=h' }:=fun its r' hz h' c' kp e =>
  ⟨.ref s.heap.objs.size,_,I.laid (t':=s.toks) kp (Nat.le_refl _) (show ObjOk X.prog X.w _ h' _ (.lst ys) from ⟨hz,its,c',r',e⟩),rfl,q _ (I.hok.fresh (Nat.le_refl _))⟩
 rcases hq with hq | hq
 ·obtain ⟨its,r',pl,hz⟩:=I.list hq
  have hlen:=r'.length
  obtain ⟨o,ho,hc,n,hd⟩:=pl.isList
  exact call_list_seq p (.inl rfl) ho hc hd (fun h' c' kp e=>fin its r' hz h' c' kp e) (by simp only [List.size_toArray] <;> omega)
 ·obtain ⟨its,r',pl,hz⟩:=I.tuple hq
  have hlen:=r'.length
  obtain ⟨o,ho,hc,n,hd⟩:=pl
  exact call_list_seq p (.inr rfl) ho hc hd (fun h' c' kp e=>fin its r' hz h' c' kp e) (by simp only [List.size_toArray] <;> omega)
theorem J7a:CallR X (.type "tuple") (fun xs H Q=>∃ p ys,xs=[.ref p]∧((SqL X.K H p ys∧∀ l,H l=none→Q (.ref l) (upd H l (.tup ys)))∨(SqT X.K H p ys∧Q (.ref p) H))):=by
 intro pins s σ H xs us Q I r h
 obtain ⟨p,ys,rfl,h⟩:=h
 obtain ⟨u,rfl,rx⟩:=vals1 r
 cases rx
 rcases h with ⟨hq,q⟩ | ⟨hq,q⟩
 ·obtain ⟨its,r',pl,hz⟩:=I.list hq
  have hlen:=r'.length
  refine call_tuple_list pl.isList (fun h' kp=>?_) (by simp only [List.size_toArray] <;> omega)
  have I1:Inv X pins σ H { s with heap:=h' }:=I.kept (t':=s.toks) kp
  have I2:Inv X pins σ (upd H h'.objs.size (.tup ys)) { s with heap:=h'.push { cls:=.type "tuple",data:=.seq its.toArray } } :=
   I1.laid (t':=s.toks) (fun b o e=>Heap.get?_push_of_some _ e) (Nat.le_refl _) (show ObjOk X.prog X.w _ _ _ (.tup ys) from ⟨hz,its,r',TupX.new _ _⟩)
  exact ⟨.ref h'.objs.size,_,I2,rfl,q _ (I1.hok.fresh (Nat.le_refl _))⟩
 ·obtain ⟨its,r',pl,hz⟩:=I.tuple hq
  exact call_tuple_same pl ⟨.ref p,H,I,rfl,q⟩
def tyV (K:PySem.W.Frag) (T:String) (x:V) (H:Hp):Prop:=match x with
 | .str _=>T="str"
 | .int _=>T="int"
 | .ref p=>(T="list"∧∃ xs,SqL K H p xs)∨(T="tuple"∧∃ o,K.lookup p=some o∧o.cls=.type "tuple"∧o.dict=none)∨
   (T="dict"∧((∃ kvs,H p=some (.dK kvs))∨∃ kvs,H p=some (.dT kvs)))∨(T="set"∧∃ S n,H p=some (.set S n))
 | _=>False
theorem tyV_is {pins:List (Addr × Obj)} {σ:St} {H:Hp} {s:Shared} {T:String} {x:V} {v:Value} (I:Inv X pins σ H s) (r:RelV x v) (ty:tyV X.K T x H) :
  s.TypeIs v T∧∀ a,v=.ref a→∃ ob,s.heap.get? a=some ob∧ob.dict=none:=by
 cases x with
 | str z =>
  obtain ⟨t,rfl⟩:=r
  cases (show T="str" from ty)
  exact ⟨typeIs_str s z t,fun _ e=>nomatch e⟩
 | int i =>
  obtain ⟨t,rfl⟩:=r
  cases (show T="int" from ty)
  exact ⟨typeIs_int s i t,fun _ e=>nomatch e⟩
 | ref p =>
  cases r
  rcases ty with ⟨rfl,xs,hq⟩ | ⟨rfl,o,hk,hc,hd⟩ | ⟨rfl,hk⟩ | ⟨rfl,S,n,hk⟩
  ·obtain ⟨its,_,pl,_⟩:=I.list hq
   refine ⟨pl.isList.typeIs,fun a e=>?_⟩
   cases e
   obtain ⟨o,n,e,c,hd,_⟩:=pl
   exact ⟨o,e,hd⟩
  ·refine ⟨⟨o,I.kIn p o hk,hc⟩,fun a e=>?_⟩
   cases e
   exact ⟨o,I.kIn _ o hk,hd⟩
  ·have z:∃ o,s.heap.get? p=some o∧o.ExactDict:=by
    rcases hk with ⟨kvs,hk⟩ | ⟨kvs,hk⟩
    ·obtain ⟨_,_,_,_,o,_,_,e,ex,_⟩:=I.hok p _ hk
     exact ⟨o,e,ex⟩
    ·obtain ⟨_,_,_,_,o,_,_,e,ex,_⟩:=I.hok p _ hk
     exact ⟨o,e,ex⟩
   obtain ⟨o,e,ex⟩:=z
   refine ⟨⟨o,e,ex.1⟩,fun a e2=>?_⟩
   cases e2
   exact ⟨o,e,ex.2.1⟩
  ·obtain ⟨o,_,_,_,e,ex,_⟩:=I.hok p _ hk
   refine ⟨⟨o,e,ex.1⟩,fun a e2=>?_⟩
   cases e2
   exact ⟨o,e,ex.2.1⟩
 | _=>exact False.elim ty
def tBM0 (K:PySem.W.Frag) (T:String) (r:V→List V→Hp→VK→Prop) (to:TE):TE:=fun σ H Q=>to σ H fun x H1=>tyV K T x H1∧r x [] H1 Q
def tBM (K:PySem.W.Frag) (T:String) (r:V→List V→Hp→VK→Prop) (to:TE) (t:TA):TE:=fun σ H Q=>to σ H fun x H1=>tyV K T x H1∧t σ H1 fun xs H2=>r x xs H2 Q
variable {o e:Expr} {es:List Expr} {to:TE} {t:TA} {name:Str} {apos cpos:Pos} {T id:String} {r:V→List V→Hp→VK→Prop}
theorem pe_bm0 (pa:PlainAttrs T) (slot:Slot T name id) (hty:typeOf (.builtin id)=pure (.type "method_descriptor")) (hm:MtR X id r) (ho:PE X o to)
  (hbase:attributeBase o name X.env (eval o X.env)=eval o X.env:=by rfl) (hline:(apos.endLine == cpos.line)=true:=by rfl):PE X (.Call (.Attribute o name apos) [] [] cpos) (tBM0 X.K T r to):=by
 intro pins s σ H Q I h
 refine wpAny_Call_method0_late hbase hline (thn (ho pins s σ H _ I h) fun v s1 ⟨x,H1,I1,r1,ty,q1⟩=>?_)
 obtain ⟨h1,h2⟩:=tyV_is I1 r1 ty
 exact ⟨T,id,pa,slot,hty,h1,h2,Calls.callWith_builtin rfl (PySem.evalArgs_none (hm pins s1 σ H1 x [] v [] Q I1 r1 .nil q1))⟩
theorem pe_bm (pa:PlainAttrs T) (slot:Slot T name id) (hty:typeOf (.builtin id)=pure (.type "method_descriptor")) (hm:MtR X id r) (ho:PE X o to) (ha:PA X (e :: es) t)
  (hbase:attributeBase o name X.env (eval o X.env)=eval o X.env:=by rfl)
  (hfew:((backTo cpos (starEach (e :: es) X.env)).all (fun x=>!x.1) && (backToKw cpos (keywordEach [] X.env)).all (fun x=>x.1.isSome)
   && decide ((e :: es).length + ([]:List Keyword).length + (if ([]:List Keyword).isEmpty then 0 else 1) < 30))=true:=by rfl)
  (hline:(apos.endLine == cpos.line)=true:=by rfl) (hs:starEach (e :: es) X.env=(false,eval e X.env) :: starEach es X.env:=by rfl) (hplain:(backTo cpos (starEach es X.env)).any (·.1)=false:=by rfl) :
  PE X (.Call (.Attribute o name apos) (e :: es) [] cpos) (tBM X.K T r to t):=by
 intro pins s σ H Q I h
 refine wpAny_Call_method_late hbase hfew hline rfl (thn (ho pins s σ H _ I h) fun v s1 ⟨x,H1,I1,r1,ty,q1⟩=>?_)
 obtain ⟨h1,h2⟩:=tyV_is I1 r1 ty
 refine ⟨T,id,pa,slot,hty,h1,h2,?_⟩
 have hA:=ha cpos pins s1 σ H1 _ I1 q1
 rw [hs] at hA ⊢
 refine Calls.callWith_builtin (by show (false || (backTo cpos (starEach es X.env)).any (·.1))=false;rw [hplain] <;> rfl) (Calls.evalArgs_plain ?_)
 exact thn hA fun us s2 ⟨vs,H2,I2,r2,q2⟩=>hm pins s2 σ H2 x vs v us Q I2 r1 r2 q2
end
end L2
namespace L2
open PySem PySem.Spec PyProof.Rows
def MtM (X:Cx) (id:String) (r:V→List V→Hp→VK→Prop):Prop :=
 ∀ (pins:List (Addr × Obj)) (s:Shared) (σ:St) (H:Hp) (x:V) (xs:List V) (v:Value) (us:List Value) (Q:VK),Inv X pins σ H s→RelV x v→Vals xs us→r x xs H Q→
  wpAny (model X.prog X.w) X.A (call (.builtin id) (v :: us)) (EP X pins σ Q) X.xe s
theorem Vals.one:∀ {x:V} {us:List Value},Vals [x] us→∃ u,us=[u]∧RelV x u
 | _,_,.cons r .nil=>⟨_,rfl,r⟩
theorem Vals.two:∀ {x y:V} {us:List Value},Vals [x,y] us→∃ u v,us=[u,v]∧RelV x u∧RelV y v
 | _,_,_,.cons r (.cons q .nil)=>⟨_,_,rfl,r,q⟩
theorem Vals.zero:∀ {us:List Value},Vals [] us→us=[]
 | _,.nil=>rfl
theorem Vals.dropLast {xs:List V} {us:List Value} (h:Vals xs us):Vals xs.dropLast us.dropLast:=by
 induction h with
 | nil=>exact .nil
 | cons r t ih =>
  cases t with
  | nil=>exact .nil
  | cons q t'=>exact .cons r ih
theorem Vals.rep {xs:List V} {us:List Value} (h:Vals xs us):∀ k:Nat,Vals (List.replicate k xs).flatten (List.replicate k us).flatten
 | 0=>.nil
 | k + 1=>by
  rw [List.replicate_succ,List.replicate_succ,List.flatten_cons,List.flatten_cons]
  exact Vals.append h (Vals.rep h k)
theorem erase_last {α:Type} (l:List α):l.eraseIdx (l.length - 1)=l.dropLast:=by
 induction l with
 | nil=>rfl
 | cons a r ih =>
  cases r with
  | nil=>rfl
  | cons b r =>
   have e:(a :: b :: r).length - 1=((b :: r).length - 1) + 1:=by
    have h1:(a :: b :: r).length=r.length + 2:=rfl
    have h2:(b :: r).length=r.length + 1:=rfl
    omega
   rw [e,List.eraseIdx_cons_succ,ih]
   all_goals rfl
theorem J6h (its:List Value):∀ (k:Nat) (acc:List Value),
  List.foldl (fun x1 x2=>x1 ++ x2) acc.toArray (List.replicate k its.toArray)=(acc ++ (List.replicate k its).flatten).toArray
 | 0,acc=>by simp
 | k + 1,acc=>by
  have e:acc.toArray ++ its.toArray=(acc ++ its).toArray:=by simp
  have e2:(acc ++ its) ++ (List.replicate k its).flatten=acc ++ (List.replicate (k + 1) its).flatten:=by
   rw [List.replicate_succ,List.flatten_cons,List.append_assoc]
  rw [← e2,← J6h its k (acc ++ its),← e,List.replicate_succ,List.foldl_cons]
section
variable {X:Cx} {pins:List (Addr × Obj)} {σ:St} {H:Hp} {s:Shared} {l b:Addr} {xs ys zs:List V}
theorem Inv.lset {its its':List Value} {n:Nat} {f:Array Value→Array Value} {t':Nat} (I:Inv X pins σ H s) (hH:H l=some (.lst xs))
  (e:s.heap.get? l=some { cls:=.type "list",data:=.seq its.toArray n }) (hf:f its.toArray=its'.toArray) (hv:Vals ys its') (hz:ys.length≤sizeLine) :
  Inv X pins σ (upd H l (.lst ys)) { s with heap:=s.heap.update l (Obj.mapSeq f),toks:=t' }:=by
 have q:=PySem.IsL.update e f
 rw [hf] at q
 refine I.write (x:=l) (e:=l) (by rw [hH];exact trivial) (.inl rfl) (fun b' u hb hu=>(Heap.get?_update_other s.heap (Obj.mapSeq f) (Ne.symm hb)).trans hu) ⟨_,q⟩ ?_
 exact ⟨hz,its',_,hv,q⟩
theorem Inv.lnew {its:List Value} {t':Nat} (I:Inv X pins σ H s) (hv:Vals ys its) (hz:ys.length≤sizeLine) :
  Inv X pins σ (upd H s.heap.objs.size (.lst ys)) { s with heap:=s.heap.push { cls:=.type "list",data:=.seq its.toArray },toks:=t' } :=
 I.laid (fun _ _ q=>Heap.get?_push_of_some _ q) (Nat.le_refl _) ⟨hz,its,0,hv,Heap.get?_push_size _ rfl⟩
theorem Inv.fresh (I:Inv X pins σ H s):H s.heap.objs.size=none:=I.hok.fresh (Nat.le_refl _)
theorem Inv.lstM (I:Inv X pins σ H s) (hH:H l=some (.lst xs)):xs.length≤sizeLine∧∃ (its:List Value) (n:Nat),Vals xs its∧xs.length=its.length∧s.heap.get? l=some { cls:=.type "list",data:=.seq its.toArray n }:=by
 obtain ⟨z,its,n,r,e⟩:=I.hok l _ hH
 exact ⟨z,its,n,r,r.length,e⟩
theorem notLongL {n:Nat} (h:n≤sizeLine):Builtin.List.listTooLong n=false:=by
 unfold Builtin.List.listTooLong
 exact decide_eq_false (by omega)
end
section
variable {X:Cx}
def rAppend:V→List V→Hp→VK→Prop:=fun x vs H Q=>∃ l xs y,x=.ref l∧vs=[y]∧H l=some (.lst xs)∧xs.length < sizeLine∧Q .non (upd H l (.lst (xs ++ [y])))
theorem J1t:MtM X "list.append" rAppend:=by
 intro pins s σ H x vs v us Q I rx rv h
 obtain ⟨l,xs,y,rfl,rfl,hH,hz,q⟩:=h
 cases rx
 obtain ⟨u,rfl,ru⟩:=rv.one
 obtain ⟨z,its,n,r,hl,e⟩:=I.lstM hH
 refine call_meets F.slot_list_append ⟨_,e,rfl⟩ F.entry_list_append (F.args_list_append_2 _ _) (PySem.list_append l its.toArray n u (by rw [List.size_toArray];omega)) ⟨e,?_⟩
 refine ⟨.non,_,I.lset (its':=its ++ [u]) hH e (by simp) (r.append (.cons ru .nil)) ?_,rfl,q⟩
 rw [List.length_append,List.length_singleton]
 omega
def rExtend:V→List V→Hp→VK→Prop:=fun x vs H Q=>∃ l b xs zs,x=.ref l∧vs=[.ref b]∧H l=some (.lst xs)∧H b=some (.lst zs)∧xs.length + zs.length≤sizeLine∧Q .non (upd H l (.lst (xs ++ zs)))
theorem mt_extend:MtM X "list.extend" rExtend:=by
 intro pins s σ H x vs v us Q I rx rv h
 obtain ⟨l,b,xs,zs,rfl,rfl,hH,hB,hz,q⟩:=h
 cases rx
 obtain ⟨u,rfl,ru⟩:=rv.one
 cases ru
 obtain ⟨z,its,n,r,hl,e⟩:=I.lstM hH
 obtain ⟨z2,its2,n2,r2,hl2,e2⟩:=I.lstM hB
 have hsz:its.toArray.size + its2.toArray.size≤sizeLine:=by rw [List.size_toArray,List.size_toArray];omega
 have hlong:¬ (!its.toArray.isEmpty && Builtin.List.listTooLong (its.toArray.size + its2.toArray.size))=true:=by
  rw [notLongL hsz,Bool.and_false]
  exact Bool.false_ne_true
 refine call_meets F.slot_list_extend ⟨_,e,rfl⟩ F.entry_list_extend (F.args_list_extend_2 _ _)
  (AutoSeq1.list_extend_list_list_0 l its.toArray n b its2.toArray n2 hlong (by rw [List.size_toArray];omega) (by omega)) ⟨e,e2,?_⟩
 refine ⟨.non,_,I.lset (its':=its ++ its2) hH e (by simp) (r.append r2) ?_,rfl,q⟩
 rw [List.length_append]
 omega
def rPop:V→List V→Hp→VK→Prop:=fun x vs H Q=>∃ l xs y,x=.ref l∧vs=[]∧H l=some (.lst xs)∧xs[xs.length - 1]?=some y∧Q y (upd H l (.lst xs.dropLast))
theorem mt_pop:MtM X "list.pop" rPop:=by
 intro pins s σ H x vs v us Q I rx rv h
 obtain ⟨l,xs,y,rfl,rfl,hH,hy,q⟩:=h
 cases rx
 have hus:=rv.zero
 subst hus
 obtain ⟨z,its,n,r,hl,e⟩:=I.lstM hH
 obtain ⟨u,hu,ru⟩:=r.get hy
 have hy':its.toArray[its.toArray.size - 1]?=some u:=by
  show its.toArray[its.length - 1]?=some u
  rw [← Array.getElem?_toList,← hl]
  exact hu
 refine call_meets F.slot_list_pop ⟨_,e,rfl⟩ F.entry_list_pop (F.args_list_pop_1 _) (MeetsSeq.list_pop_last l its.toArray n u hy' (by rw [List.size_toArray];omega)) ⟨e,?_⟩
 refine ⟨y,_,I.lset (its':=its.dropLast) hH e ?_ r.dropLast ?_,ru,q⟩
 ·show its.toArray.eraseIdxIfInBounds (its.toArray.size - 1)=its.dropLast.toArray
  rw [List.size_toArray,List.eraseIdxIfInBounds_toArray,erase_last]
 ·rw [List.length_dropLast]
  omega
def rCat:R2:=fun x y H Q=>∃ l b xs zs,x=.ref l∧y=.ref b∧H l=some (.lst xs)∧H b=some (.lst zs)∧xs.length + zs.length≤sizeLine∧∀ p,H p=none→Q (.ref p) (upd H p (.lst (xs ++ zs)))
theorem op_cat:OpR X (binaryOp .Add) rCat:=by
 intro pins s σ H x y v u Q I rx ry h
 obtain ⟨l,b,xs,zs,rfl,rfl,hH,hB,hz,q⟩:=h
 cases rx
 cases ry
 obtain ⟨z,its,n,r,hl,e⟩:=I.lstM hH
 obtain ⟨z2,its2,n2,r2,hl2,e2⟩:=I.lstM hB
 refine PySem.P.add_list e e2 ?_ (by rw [List.size_toArray,List.size_toArray];omega)
 have ea:its.toArray ++ its2.toArray=(its ++ its2).toArray:=by simp
 rw [ea]
 exact ⟨.ref _,_,I.lnew (t':=s.toks) (r.append r2) (by rw [List.length_append];omega),rfl,q _ I.fresh⟩
def rRep:R2:=fun x y H Q=>∃ l k xs,x=.ref l∧y=.int k∧H l=some (.lst xs)∧-(2 ^ 63)≤k∧k < 2 ^ 63∧xs.length * k.toNat≤sizeLine∧
 ∀ p,H p=none→Q (.ref p) (upd H p (.lst (List.replicate k.toNat xs).flatten))
theorem len_rep {α:Type} (xs:List α) (k:Nat):(List.replicate k xs).flatten.length=k * xs.length:=by
 induction k with
 | zero=>simp
 | succ k ih=>rw [List.replicate_succ,List.flatten_cons,List.length_append,ih,Nat.succ_mul,Nat.add_comm]
theorem op_rep:OpR X (binaryOp .Mult) rRep:=by
 intro pins s σ H x y v u Q I rx ry h
 obtain ⟨l,k,xs,rfl,rfl,hH,h1,h2,hz,q⟩:=h
 cases rx
 obtain ⟨t,rfl⟩:=ry
 obtain ⟨z,its,n,r,hl,e⟩:=I.lstM hH
 have hlen:its.toArray.size * k.toNat≤sizeLine:=by rw [List.size_toArray,← hl];exact hz
 have hcap:¬ its.toArray.size * k.toNat > (2 ^ 63 - 1) / 8:=by
  have:(sizeLine:Nat)≤(2 ^ 63 - 1) / 8:=by decide
  omega
 have hfit:¬ (!Builtin.List.listFitsIndex k)=true:=by
  rw [fitsIndex_both h1 h2]
  exact Bool.false_ne_true
 have hlong:¬ Builtin.List.listTooLong (its.toArray.size * k.toNat)=true:=by
  rw [notLongL hlen]
  exact Bool.false_ne_true
 have hnew:List.foldl (fun x1 x2=>x1 ++ x2) #[] (List.replicate (if its.toArray.isEmpty=true then 0 else k.toNat) its.toArray)=(List.replicate k.toNat its).flatten.toArray:=by
  have f0:∀ m:Nat,List.foldl (fun x1 x2=>x1 ++ x2) #[] (List.replicate m its.toArray)=(List.replicate m its).flatten.toArray:=fun m=>by
   have:=J6h its m []
   rw [List.nil_append] at this
   exact this
  rw [f0]
  cases its with
  | nil=>simp
  | cons a r'=>rw [if_neg (by simp)]
 refine wpAny_binaryOp_repeat_ref (T:="list") (U:="int") (by decide) ⟨_,e,rfl⟩ (fun s'=>typeIs_int s' k t) noFill_list_mul F.fills_int_mul F.slot_int_rmul repeat_list F.slot_int_index.lookup
  (call_meets F.slot_int_rmul (typeIs_int s k t) F.entry_int_rmul (F.args_int_rmul_2 _ _) (int___rmul___int_list k t l its.toArray n)
   ⟨e,rfl,⟨_,e,rfl⟩,call_meets F.slot_list_mul ⟨_,e,rfl⟩ F.entry_list_mul (F.args_list_mul_2 _ _) (AutoListH.list___mul___list_int_3 l its.toArray n k t hfit hcap hlong) ⟨e,?_⟩⟩)
 rw [hnew]
 exact ⟨.ref _,_,I.lnew (t':=s.toks) (r.rep k.toNat) (by rw [len_rep,Nat.mul_comm];exact hz),rfl,q _ I.fresh⟩
end
section
variable {prog:Program} {w:World} {A:Around} {E:Value→Shared→Prop} {s:Shared}
set_option maxRecDepth 100000 in
end
end L2
namespace Att
open PySem PySem.W PySem.Calls PyProof.Rows
theorem J4q {P:Params} {h:Heap}:∀ (ns:List Int) (vs:List Value),WellAll P h vs (ns.map WData.int)→IntsAre vs ns:=by
 intro ns
 induction ns with
 | nil =>
  intro vs w
  rw [List.map_nil] at w
  cases w
  exact .nil
 | cons n ns ih =>
  intro vs w
  rw [List.map_cons] at w
  cases w with
  | cons a b =>
   cases a
   exact .cons _ _ (ih _ b)
theorem script_of {l:OpenLaw} {n:Nat} (hn:l.most=some n) {P:Params} {h:Heap} {args:List WData} {vals:List Value}
  (hpre:l.row.toRowW.claim.pre args=true) (hwl:WellAll P h vals args) :
  ∃ a vs ns,vals=[Value.ref a]∧args=[WData.list (ns.map WData.int)]∧h.get? a=some { cls:=.type "list",data:=.seq vs.toArray }∧IntsAre vs ns∧ns.length≤n:=by
 have hsh:WShape.hasAll [] args [.list .int]=true:=(pre_splitW hpre).1
 have hc:l.pre.holds [] { args:=args }=true:=(pre_splitW hpre).2
 obtain ⟨d,r,rfl,h1,h2⟩:=hasAllW_cons hsh
 obtain rfl:=hasAllW_nil h2
 obtain ⟨xs,rfl,h3⟩:=hasW_list h1
 obtain ⟨ns,rfl⟩:=items_int h3
 have hlen:ns.length≤n:=by
  unfold OpenLaw.pre at hc
  have h4:(WTm.not (.lt (.lit (.int (n:Int))) (.len (.arg 0)))).holds [] { args:=[.list (ns.map .int)] }=true:=by
   have h4:=(holds_andW hc).1
   rw [hn] at h4
   exact h4
  have h5:=condW_of h4 (w_not (w_lt w_lit (w_len_list (w_arg rfl))))
  rw [List.length_map] at h5
  refine Nat.le_of_not_lt fun q=>?_
  have q':(n:Int) < ((ns.length:Nat):Int):=by omega
  first
   | (rw [decide_eq_true q'] at h5;exact absurd h5 (by decide))
   | (simp at h5;omega)
 cases hwl with
 | cons w1 w2 =>
  cases w2
  cases w1 with
  | list ho hall=>exact ⟨_,_,ns,rfl,rfl,ho,J4q ns _ hall,hlen⟩
theorem post_true (l:OpenLaw) (args:List WData):l.row.toRowW.claim.post args (.bool true) args=true :=
 postW_of (r:=l.row.toRowW) (X:=(true == true))
  (show WShape.has [] (.bool true) .bool=true by first | rfl | decide | simp [WShape.has,WShape.arms,WShape.armsAll])
  (show (WTm.eq .res (.lit (.bool true))).value [] { args:=args,res:=some (.bool true),after:=args }=some (.bool (true == true)) from w_eq_bool (w_res rfl) w_lit) rfl
theorem attach_call {l:OpenLaw} {n:Nat} {q:Program} {loose:List Str} {XP:(Str→Option Value)→Heap→Prop} {YP:World→Heap→Prop} {d:DefRec}
  (hn:l.most=some n) (hdf:d.params.defaults=[])
  (call:∀ (w:World) (s₀ s₁:Shared) (mg mb:Str→Option Value) (fa:Addr) (o:Obj) (pm cd doc:Value) (a:Addr) (vs:List Value) (ns:List Int),
   Ground q loose [] XP w s₀ mg mb s₁.heap→YP w s₁.heap→
   s₁.heap.get? fa=some o→o.data=.func (docDef d.name d.params d.body d.scope pm cd doc)→s₁.heap.CodeRec cd d.name→mg d.name=some (.ref fa)→
   s₁.heap.get? a=some { cls:=.type "list",data:=.seq vs.toArray }→IntsAre vs ns→ns.length≤n→s₁.gens=#[]→
   codeAny (model l.prog w) callerA (.call (.ref fa) ⟨[.ref a],[]⟩) (fun r s'=>r=.ok (.ret (.bool true))∧OldK s₁.heap s'.heap∧s'.os=s₁.os∧AllBare s'.gens) s₁) :
  WalkO q loose XP YP l.row.toRowW d [] (fun f vs=>PySem.call f vs):=by
 intro w s₀ s₁ mg mb G Y fa o pm cd doc dV kV ho hd hcd hD hmg hg args vals as hpre hlay hrd hwl hlo
 obtain rfl:dV=.none:=Dflts.none hD hdf
 obtain rfl:kV=.none:=Dflts.noKw hD
 obtain ⟨a,vs,ns,rfl,rfl,hobj,hints,hlen⟩:=script_of hn hpre hwl
 refine enter_call (codeAny_mono (call w s₀ s₁ mg mb fa o pm cd doc a vs ns G Y ho (fd_plain hd) hcd hmg hobj hints hlen hg) fun r s' hq=>?_)
 obtain ⟨rfl,h2,h3,h4⟩:=hq
 exact ⟨.inl ⟨.bool true,.bool true,[],rfl,fun _=>rfl,.bool true,post_true l _,fun _=>⟨List.Pairwise.nil,fun _ hm=>(nomatch hm)⟩⟩,h2,h3,h4⟩
end Att
namespace L2
open PySem PySem.Spec PyProof.Rows
theorem J5w:∀ {vs:List Value} {ns:List Int},IntsAre vs ns→Vals (ns.map V.int) vs
 | _,_,.nil=>.nil
 | _,_,.cons n t h=>.cons ⟨t,rfl⟩ (J5w h)
def Only (H:Hp):Prop:=∀ b,H b=none∨∃ o xs,H b=some (.frz o (.lst xs))
theorem law_call {P:Program} {w:World} {K:PySem.W.Frag} {mg mb:Str→Option Value} {CX:CXT} {k:Nat} {fa a:Addr} {fd:FuncData} {x:Str} {sp:Sp} {s₁:Shared} {vs:List Value} {ns:List Int}
  (KX:K.In s₁.heap) (hns:s₁.heap.Ns mainGlobals mg) (hb:s₁.heap.Ns builtinsNs mb) (hbb:∀ x:Str,x≠"__name__"→mb x=bootBuiltins x) (hlim:s₁.heap.NoLimit) (hg:s₁.gens=#[])
  (ha:s₁.heap.get? a=some { cls:=.type "list",data:=.seq vs.toArray }) (hi:IntsAre vs ns) (hl:ns.length≤sizeLine) (hr:Room k callerA)
  (F:∀ base:Heap,K.In base→base.Ns mainGlobals mg→FnOk P w K mg base CX k fa fd [x] sp) (hbind:∀ (s:Shared) (u:Value),BindsTo s fd ⟨[u],[]⟩ [(x,u)])
  (hsp:∀ H:Hp,Only H→SqL K H a (ns.map V.int)→sp [.ref a] H (fun v _=>v=.bl true) fun _ _ _=>False)
  (hCX:∀ H e s',CX [] H s₁ (fun _ _ _=>False) e s'→False) :
  codeAny (model P w) callerA (.call (.ref fa) ⟨[.ref a],[]⟩) (fun r s'=>r=.ok (.ret (.bool true))∧OldK s₁.heap s'.heap∧s'.os=s₁.os∧AllBare s'.gens) s₁:=by
 have rv:=J5w hi
 have lenV:=hi.length
 have core:∀ H:Hp,Only H→SqL K H a (ns.map V.int)→HOk P w H s₁.heap→(∀ b,H b≠none→b=a)→(H a≠none→K.lookup a=none)→
   codeAny (model P w) callerA (.call (.ref fa) ⟨[.ref a],[]⟩) (fun r s'=>r=.ok (.ret (.bool true))∧OldK s₁.heap s'.heap∧s'.os=s₁.os∧AllBare s'.gens) s₁:=by
  intro H hO hS hok hA hK
  have base_of:∀ {b:Addr} {o:Obj},s₁.heap.get? b=some o→H b=none→(hidT s₁.heap H).get? b=some o:=fun e n=>hidT_get e n
  have noA:∀ {b:Addr} {o:Obj} {es:Array DictEntry} {ep:Nat},s₁.heap.get? b=some o→o.data=.dict es ep→H b=none:=fun {b o es ep} e d=>by
   cases q:H b with
   | none=>rfl
   | some u =>
    have e':b=a:=hA b (by rw [q];simp)
    subst e'
    rw [ha] at e;cases e
    have d':Data.seq vs.toArray _=Data.dict es ep:=d
    cases d'
  have nsK:∀ {b:Addr} {m:Str→Option Value},s₁.heap.Ns b m→(hidT s₁.heap H).Ns b m:=fun {b m} ⟨o,es,ep,e,d,r⟩=>⟨o,es,ep,base_of e (noA e d),d,r⟩
  have hKb:K.In (hidT s₁.heap H):=fun b o e=>base_of (KX b o e) (by
   cases q:H b with
   | none=>rfl
   | some u =>
    have e':b=a:=hA b (by rw [q];simp)
    subst e'
    rw [hK (by rw [q];simp)] at e;cases e)
  have hM:Mod K mg (hidT s₁.heap H):=⟨hKb,nsK hns,⟨mb,nsK hb,hbb⟩,let ⟨mc,h1,h2⟩:=hlim;⟨mc,nsK h1,h2⟩⟩
  have e0:Env0 P w K mg (hidT s₁.heap H) callerA [] s₁ H:=⟨rfl,hM,fun b o e=>of_hidT e,Nat.le_of_eq (hidT_size _ _),trivial,fun b hb=>absurd (show b∈([]:List Addr) from hb) (by simp),hok,.of_eq hg⟩
  refine codeAny_mono ((F _ hKb (nsK hns)).run callerA [] s₁ H ⟨[.ref a],[]⟩ [.ref a] [.ref a] _ _ hr e0 (hbind s₁ (.ref a)) (.cons rfl .nil) (hsp H hO hS)) fun r s' h=>?_
  cases r with
  | error e=>exact (hCX H e s' h).elim
  | ok fl =>
   cases fl with
   | next=>exact False.elim h
   | brk=>exact False.elim h
   | cont=>exact False.elim h
   | ret u =>
    obtain ⟨v,H',os,bare,un,hok',r',q⟩:=h
    have q':v=.bl true:=q
    subst q'
    obtain rfl:u=Value.bool true:=r'
    refine ⟨rfl,OldK.of_keep fun b o e=>?_,os,bare⟩
    cases q:H b with
    | none=>exact un.keep b o e q (by intro z;exact absurd (show b∈([]:List Addr) from z) (by simp)) (by simp)
    | some u =>
     rcases hO b with z | ⟨ob,xs,z⟩
     ·rw [q] at z;cases z
     ·have z2:=un.frzs b ob _ z
      obtain ⟨e1,_⟩:=hok b _ z
      obtain ⟨e2,_⟩:=hok' b _ z2
      rw [e] at e1;cases e1
      exact e2
 cases hk:K.lookup a with
 | some o =>
  have e:=KX a o hk
  rw [ha] at e
  cases e
  refine core (fun _=>none) (fun _=>.inl rfl) (.inr ⟨_,vs.toArray,_,hk,rfl,rfl,rfl,by rw [List.size_toArray,lenV];exact hl,by simpa using rv⟩) (fun b u z=>by have z':(none:Option HO)=some u:=z;cases z') (fun b z=>absurd rfl z) fun z=>absurd rfl z
 | none =>
  refine core (fun b=>if b=a then some (.frz { cls:=.type "list",data:=.seq vs.toArray } (.lst (ns.map V.int))) else none) (fun b=>?_) (.inl (.inr ⟨{ cls:=.type "list",data:=.seq vs.toArray },if_pos rfl⟩)) (fun b u z=>?_) (fun b z=>?_) fun _=>hk
  ·by_cases hb:b=a
   ·exact .inr ⟨_,_,if_pos hb⟩
   ·exact .inl (if_neg hb)
  ·by_cases hb:b=a
   ·have z':=(if_pos hb).symm.trans z
    cases z'
    subst hb
    exact ⟨ha,by rw [List.length_map];exact hl,vs,_,rv,ha⟩
   ·have z':=(if_neg hb).symm.trans z
    cases z'
  ·by_cases hb:b=a
   ·exact hb
   ·exact absurd (if_neg hb) z
end L2
namespace L2
open PySem PySem.Spec PyProof.Rows
theorem walk_of {l:PySem.W.OpenLaw} {n k:Nat} {q:Program} {loose:List Str} {XP:(Str→Option Value)→Heap→Prop} {YP:World→Heap→Prop} {d:DefRec} {K:Params→PySem.W.Frag} {CX:World→CXT} {sp:World→Sp} {x:Str}
  (hn:l.most=some n) (hn2:n≤sizeLine) (hdf:d.params.defaults=[]) (hr:Room k callerA)
  (hY:∀ (w:World) (h:Heap),YP w h→(K w.params).In h)
  (F:∀ (w:World) (mg:Str→Option Value) (fa:Addr) (h:Heap),(K w.params).In h→h.Ns mainGlobals mg→mg d.name=some (.ref fa)→
   ∃ fd:FuncData,(∀ (s:Shared) (u:Value),BindsTo s fd ⟨[u],[]⟩ [(x,u)])∧
    ∀ base:Heap,(K w.params).In base→base.Ns mainGlobals mg→FnOk l.prog w (K w.params) mg base (CX w) k fa fd [x] (sp w))
  (hsp:∀ (w:World) (H:Hp) (a:Addr) (ns:List Int),ns.length≤n→Only H→SqL (K w.params) H a (ns.map V.int)→sp w [.ref a] H (fun v _=>v=.bl true) fun _ _ _=>False)
  (hCX:∀ (w:World) (H:Hp) (s:Shared) (e:Value) (s':Shared),CX w [] H s (fun _ _ _=>False) e s'→False) :
  PySem.W.WalkO q loose XP YP l.row.toRowW d [] (fun f vs=>PySem.call f vs):=by
 refine Att.attach_call hn hdf fun w s₀ s₁ mg mb fa o pm cd doc a vs ns G Y ho hd hcd hmg hobj hints hlen hg=>?_
 have KX:=hY w _ Y
 obtain ⟨fd,hb,hF⟩:=F w mg fa _ KX G.T.g hmg
 exact law_call KX G.T.g G.T.b G.T.builtins G.T.nolimit hg hobj hints (Nat.le_trans hlen hn2) hr hF hb (fun H hO hS=>hsp w H a ns hlen hO hS) fun H e s'=>hCX w H s₁ e s'
end L2
namespace L2
open PySem PySem.Spec PyProof.Rows
def J14 (s:Stmt) (j:Nat):Stmt:=match s with
 | .ClassDef _ _ _ body _ _ _ _ _ _ _=>body.getD j (.Pass ⟨0,0,0,0⟩)
 | _=>.Pass ⟨0,0,0,0⟩
def Jf (s:Stmt):Arguments:=match s with
 | .FunctionDef _ a _ _ _ _ _ _ _ _=>a
 | _=>{ posonlyargs:=[],args:=[],vararg:=none,kwonlyargs:=[],kw_defaults:=[],kwarg:=none,defaults:=[] }
def Je (s:Stmt):List Stmt:=match s with
 | .FunctionDef _ _ b _ _ _ _ _ _ _=>b
 | _=>[]
def J2 (s:Stmt):Scope:=match s with
 | .FunctionDef _ _ _ _ _ _ sc _ _ _=>sc
 | _=>{ kind:=.function,names:=[],isGenerator:=false,isCoroutine:=false }
abbrev CX0:CXT:=fun _ _ _ _ _ _=>False
abbrev E0:XK:=fun _ _ _=>False
theorem pass0 {X:Cx}:J7d CX0 X E0:=fun _ _ _ _ _ _ _ h=>h.elim
structure Fun (K:PySem.W.Frag) (x qual:Str) (st:Stmt) (f:Addr) (fd:FuncData):Prop where
 ex:∃ (oc:Value) (od:Option Addr) (kV doc pm:Value) (an:Option Addr) (cdv ct:Value) (osl:Array (Option Value)),
  fd=PySem.W.fnOf x qual (Jf st) (Je st) (J2 st) .none kV doc pm an cdv ct∧K.lookup f=some ⟨oc,od,.func fd,osl⟩∧PySem.W.codeIn K cdv qual=true
 kp:PySem.W.keepIn K (.ref f)=true
section
variable {P:Program} {w:World} {K:PySem.W.Frag} {mg:Str→Option Value} {base:Heap}
theorem Fun.ok {x qual:Str} {st:Stmt} {f:Addr} {fd:FuncData} {N ps:List Str} {k:Nat} {sp:Sp} (F:Fun K x qual st f fd) (S:FnScope N ps (J2 st)) (len:∀ vs H Q E,sp vs H Q E→vs.length=ps.length)
  (hbody:∀ (cdv:Value) (A:Around) (outer:List Env) (s:Shared) (H:Hp) (vs:List V) (Q:VK) (E:XK),Room k (A.deeper (envOfC qual (J2 st) s.heap.objs.size f cdv))→sp vs H Q E→
   ∃ t,PSs (cxOf CX0 P w K mg base N qual (J2 st) f cdv A outer s H E).nox (Je st) t∧t { nx:=fun _ H'=>Q .non H',rt:=Q } (start N vs) H):FnOk P w K mg base CX0 (k + 1) f fd ps sp:=by
 obtain ⟨oc,od,kV,doc,pm,an,cdv,ct,osl,rfl,lk,hcd⟩:=F.ex
 refine fn_of lk hcd S len fun A outer s H vs Q E hr hsp=>?_
 obtain ⟨t,h,q⟩:=hbody cdv A outer s H vs Q E hr hsp
 exact ⟨t,h.nox,q⟩
theorem Fun.binds {x qual:Str} {st:Stmt} {f:Addr} {fd:FuncData} {ps:List Str} (F:Fun K x qual st f fd)
  (h:∀ (kV doc pm:Value) (an:Option Addr) (cdv ct:Value) (us:List Value),us.length=ps.length→bindArgs (PySem.W.fnOf x qual (Jf st) (Je st) (J2 st) .none kV doc pm an cdv ct) ⟨us,[]⟩=pure (ps.zip us)):Binds K fd ps []:=by
 obtain ⟨oc,od,kV,doc,pm,an,cdv,ct,osl,rfl,lk,hcd⟩:=F.ex
 exact .all (h kV doc pm an cdv ct)
theorem Jq {x qual:Str} {st:Stmt} {f:Addr} {oc:Value} {od an:Option Addr} {osl:Array (Option Value)} {kV doc pm cdv ct:Value} (l:K.lookup f=some ⟨oc,od,.func (PySem.W.fnOf x qual (Jf st) (Je st) (J2 st) .none kV doc pm an cdv ct),osl⟩)
  (c:PySem.W.codeIn K cdv qual=true) (k:PySem.W.keepIn K (.ref f)=true):Fun K x qual st f (PySem.W.fnOf x qual (Jf st) (Je st) (J2 st) .none kV doc pm an cdv ct):=⟨⟨oc,od,kV,doc,pm,an,cdv,ct,osl,rfl,l,c⟩,k⟩
end
theorem hu_of {A:Around} {k:Nat} (hr:Room k A):A.units + 1 < cLine:=Nat.lt_of_le_of_lt (Nat.add_le_add_left (by decide:1≤64) _) hr.units
theorem J11 {n:Nat} (h:n≤1000):n < sizeLine:=Nat.lt_of_le_of_lt h (by decide)
section
variable {X:Cx}
theorem pv (i:Nat) {x:Str} {pos:Pos} (hN:X.N[i]?=some x:=by rfl) (hv:Vis X.env.scope x:=by first | exact Or.inl rfl | exact Or.inr (Or.inl rfl) | exact Or.inr (Or.inr rfl)) (hd:(x == ("__debug__":Str))=false:=by decide)
  (hcd:(x == ("__classdict__":Str))=false:=by decide):PE X (.Name x pos) (tVar i):=pe_var hN hv hd hcd
end
theorem iteF {A B:Prop} (h:B):if false=true then A else B:=by
 rw [if_neg Bool.false_ne_true]
 exact h
theorem iteT {A B:Prop} (h:A):if true=true then A else B:=by
 rw [if_pos rfl]
 exact h
theorem iteNS {c A B:Prop} [Decidable c] (hc:c) (h:B):if (!decide c)=true then A else B:=by
 rw [decide_eq_true hc]
 exact iteF h
def Same (H H':Hp):Prop:=∀ b o,H b=some o→H' b=some o
theorem Same.refl (H:Hp):Same H H:=fun _ _ h=>h
theorem Same.trans {H H1 H2:Hp} (a:Same H H1) (b:Same H1 H2):Same H H2:=fun c o h=>b c o (a c o h)
theorem Same.free {H H':Hp} (e:Same H H') {l:Addr} (h:H' l=Option.none):H l=Option.none:=by
 cases q:H l with
 | none=>rfl
 | some o =>
  rw [e l o q] at h
  cases h
theorem Same.seq {K:PySem.W.Frag} {H H':Hp} {a:Addr} {xs:List V} (e:Same H H') (h:SqL K H a xs):SqL K H' a xs:=by
 rcases h with (h | ⟨o,h⟩) | h
 ·exact .inl (.inl (e _ _ h))
 ·exact .inl (.inr ⟨o,e _ _ h⟩)
 ·exact .inr h
end L2
namespace L2
open PySem PySem.Spec PyProof.Rows
theorem J3r {prog:Program} {w:World} {A:Around} {R:Result→Shared→Prop} {s:Shared} {elt target iter:Expr} {scope:Scope} {pos:Pos} {it acc:Value} {env:Env} (J:Nat→Shared→Prop)
  (turn:∀ n s,J n s→wpAny (model prog w) A (pyNext it) (fun r s₁=>match r with
   | none=>R (.ok .next) s₁
   | some v=>wpAny (model prog w) A (letOwnedTupleGo target it v) (fun _ s₁'=>wpAny (model prog w) A (assign target env v) (fun _ s₂=>wpAny (model prog w) A (eval elt env) (fun x s₃ =>
     wpAny (model prog w) A (call (.builtin "list.append") [acc,x]) (fun _ s₄=>∃ m,m < n∧J m s₄) (fun _ _=>False) s₃) (fun _ _=>False) s₂) (fun _ _=>False) s₁') (fun _ _=>False) s₁) (fun _ _=>False) s)
  (n:Nat) (h:J n s):codeAny (model prog w) A (.compLoop (.ListComp elt [⟨target,iter,[],0⟩] scope pos) 0 it acc env) R s:=by
 refine codeAny_loop rfl J (fun n s hI=>?_) n h
 show wpAny _ _ ((compTurn (.ListComp elt [⟨target,iter,[],0⟩] scope pos) 0 it acc env).onRaise (fun x=>do noteFrame x env;theTreesLotGoes x)) _ _ s
 refine wpAny_noted ?_
 rw [compTurn_list1]
 refine wpAny_bind (wpAny_standAt (wpAny_bind (wpAny_mono (turn n s hI) (fun r s₁ h₁=>?_) fun _ _ h'=>False.elim h')))
 cases r with
 | none=>exact wpAny_pure h₁
 | some v =>
  refine wpAny_bind (wpAny_mono h₁ (fun _ s₁' h₁'=>?_) fun _ _ h'=>False.elim h')
  exact wpAny_bind (wpAny_mono h₁' (fun _ s₂ h₂=>wpAny_bind (wpAny_bind (wpAny_mono h₂ (fun x s₃ h₃=>wpAny_bind (wpAny_mono h₃
   (fun _ s₄ h₄=>wpAny_pure (wpAny_pure ⟨rfl,h₄⟩)) fun _ _ h'=>False.elim h')) fun _ _ h'=>False.elim h'))) fun _ _ h'=>False.elim h')
abbrev Cx.block (X:Cx) (N:List Str) (scope:Scope) (cl:List (Str × Addr)) (C:Addr) (fp:List Addr) (s:Shared) (H:Hp):Cx :=
 { X with N:=N,s₀:=s,H₀:=H,env:=compEnvC scope cl C X.env,outer:=X.stack,stack:=X.stack,ex:=fp,fn:=fun _=>false,pn:=[],xe:=fun _ _=>False }
theorem J5k {env:Env}:∀ {names:List (Str × NameKind)} {x:Str} {k:NameKind},(names.map fun (n,k)=>if (k == NameKind.free && env.scope.kind == .function && env.kindOf n == some .cell) then (n,NameKind.cell) else (n,k)).lookup x=some k→
  k=.cell∨k=.free→(∀ p∈names,p.2≠.cell)→∃ p∈names,p.1=x∧p.2=.free
 | [],_,_,h,_,_=>by simp at h
 | (n,q) :: r,x,k,h,hk,hc=>by
  have ih:=@J5k env r x k
  have hq:q≠.cell:=hc (n,q) List.mem_cons_self
  rw [List.map_cons] at h
  by_cases hx:x=n
  ·subst hx
   by_cases e:(q == NameKind.free && env.scope.kind == .function && env.kindOf x == some .cell)=true
   ·simp only [Bool.and_eq_true] at e
    exact ⟨(x,q),List.mem_cons_self,rfl,by simpa using e.1.1⟩
   ·have e2:List.lookup x ((x,q) :: List.map (fun (n,k)=>if (k == NameKind.free && env.scope.kind == .function && env.kindOf n == some .cell) then (n,NameKind.cell) else (n,k)) r)=some k:=by
     simpa only [e,if_false,Bool.false_eq_true] using h
    rw [List.lookup_cons_self] at e2
    cases e2
    rcases hk with hk | hk
    ·exact absurd hk hq
    ·exact ⟨(x,q),List.mem_cons_self,rfl,hk⟩
  ·have hb:(x == n)=false:=by simpa using hx
   have h':(List.map (fun (n,k)=>if (k == NameKind.free && env.scope.kind == .function && env.kindOf n == some .cell) then (n,NameKind.cell) else (n,k)) r).lookup x=some k:=by
    by_cases e:(q == NameKind.free && env.scope.kind == .function && env.kindOf n == some .cell)=true
    ·simp only [e,if_true,List.lookup_cons,hb] at h;exact h
    ·simp only [e,if_false,Bool.false_eq_true,List.lookup_cons,hb] at h;exact h
   obtain ⟨p,hp,e1,e2⟩:=ih h' hk fun p hp=>hc p (List.mem_cons_of_mem _ hp)
   exact ⟨p,List.mem_cons_of_mem _ hp,e1,e2⟩
def capv (σ:St) (js:List Nat):St:=js.map fun j=>(σ[j]?).join
theorem capv_get {σ:St} {js:List Nat} {k:Nat} {v:V} (h:(capv σ js)[k]?=some (some v)):∃ j,js[k]?=some j∧σ[j]?=some (some v):=by
 unfold capv at h
 rw [List.getElem?_map] at h
 cases e:js[k]? with
 | none=>rw [e] at h;cases h
 | some j =>
  rw [e] at h
  refine ⟨j,rfl,?_⟩
  cases e2:σ[j]? with
  | none=>rw [Option.map_some,e2] at h;cases h
  | some o=>rw [Option.map_some,e2] at h;exact congrArg some (Option.some.inj h)
def tComp (wi:TI) (te:TE) (js:List Nat) (i:Nat):TS:=fun D σ H=>wi σ H fun J H1=>∃ (lo:Int) (n:Nat) (f:Nat→V),J=Itr lo n∧n≤1000∧
 (∀ (d:Addr) (H2:Hp) (k:Nat),H1 d=none→k < n→H2=upd H1 d (.lst ((List.range k).map f))→te (some (.int (lo + k)) :: capv σ js) H2 fun v H3=>H3=H2∧v=f k)∧
 ∀ d,H1 d=none→D.nx (σ.set i (some (.ref d))) (upd H1 d (.lst ((List.range n).map f)))
section
variable {X:Cx} {elt iter:Expr} {x y:Str} {px py:Pos} {scope:Scope} {cl:List (Str × Addr)} {pos spos:Pos} {wi:TI} {te:TE} {caps:List Str} {js:List Nat} {i:Nat}
theorem J6l {pins:List (Addr × Obj)} {σ:St} {H:Hp} {s:Shared} {C:Addr} {fp:List Addr} (I:Inv X pins σ H s) (hC:s.heap.objs.size≤C) (f2:∀ b∈fp,FpOk X pins H b) (fl:∀ b∈fp,b < s.heap.objs.size)
  (hkind:scope.kind=.function) (hcell:∀ p∈scope.names,p.2≠.cell) (hsub:∀ p∈cl,X.env.cells.lookup p.1=some p.2) (hhas:∀ p∈scope.names,p.2=.free→∃ c,cl.lookup p.1=some c) :
  (X.block (x :: caps) scope cl C fp s H).Ok where
 mod:=I.ok.mod
 kind:=hkind
 glob:=I.ok.glob
 blt:=I.ok.blt
 above:=hC
 inj:=fun a b c h1 h2=>I.ok.inj a b c (hsub _ (PySem.mem_of_lookup h1)) (hsub _ (PySem.mem_of_lookup h2))
 has:=fun a h=>by
  have h':(∃ k,(relabel scope X.env).names.lookup a=some k∧(k=.cell∨k=.free)):=by
   rcases h with h | h
   ·exact ⟨_,h,.inl rfl⟩
   ·exact ⟨_,h,.inr rfl⟩
  obtain ⟨k,h1,hk⟩:=h'
  obtain ⟨p,hp,e1,e2⟩:=J5k h1 hk hcell
  rw [← e1]
  exact hhas p hp e2
 cab:=fun _ _ h=>nomatch h
 hd:=I.ok.hd
 frames:=I.ok.frames
 stk:=.inl rfl
 exf:=fun b hb=>⟨Nat.ne_of_lt (Nat.lt_of_lt_of_le (fl b hb) hC),fun a c e=>(f2 b hb).2.2.2.2.1 a c (hsub _ (PySem.mem_of_lookup e))⟩
 bs:=I.bs
 bsz:=Nat.le_trans I.ok.bsz I.sz
 noex:=fun b o e hb=>by
  rcases (f2 b hb).2.2.2.1 with z | z
  ·exact I.ok.noex b o e z
  ·exact absurd (Nat.lt_of_lt_of_le (Heap.lt_size e) (Nat.le_trans I.ok.bsz z)) (Nat.lt_irrefl _)
 exfs:=fun b hb z=>by
  rcases List.mem_cons.mp (I.stkSub b z) with e | e
  ·exact (f2 b hb).2.1 e
  ·exact (f2 b hb).2.2.1 e
 funs:=I.stack
 frf:=I.stkFree
theorem ps_comp (hN:X.N.Nodup) (hi:X.N[i]?=some y) (hy:Loc X.env.scope y) (hc:X.calm=true) (hp:PI X (.Name x px) iter wi)
  (he:∀ (C:Addr) (fp:List Addr) (s:Shared) (H:Hp),PE (X.block (x :: caps) scope cl C fp s H) elt te)
  (hcell:∀ p∈scope.names,p.2≠.cell) (hnames:∀ p∈scope.names,p.2=.local→scope.names.lookup p.1=some .local) (hnd:(x :: caps).Nodup)
  (hsub:∀ p∈cl,X.env.cells.lookup p.1=some p.2) (hhas:∀ p∈scope.names,p.2=.free→∃ c,cl.lookup p.1=some c) (hlen:caps.length=js.length)
  (hcaps:∀ (k:Nat) (c:Str),caps[k]?=some c→∃ (j:Nat) (a:Addr),js[k]?=some j∧X.N[j]?=some c∧X.env.scope.names.lookup c=some .cell∧cl.lookup c=some a∧(relabel scope X.env).names.lookup c=some .cell)
  (hf:X.fn y=true∨X.env.scope.names.lookup y=some .local:=by first | exact .inl rfl | exact .inr rfl | assumption)
  (hsw:swapsWith (.ListComp elt [⟨.Name x px,iter,[],0⟩] scope pos) (some (.Name y py)) spos.line X.env=pure true:=by rfl) (hclos:closureFor scope X.env=pure cl:=by rfl)
  (hkind:scope.kind=.function:=by rfl) (hx:scope.names.lookup x=some .local:=by rfl) (hs:∀ v,foldedSetIterable iter X.env v=pure v:=by intro _;rfl) :
  PS X (.Assign [.Name y py] (.ListComp elt [⟨.Name x px,iter,[],0⟩] scope pos) spos) (tComp wi te js i):=by
 intro pins s σ H D I h
 rw [exec_Assign_Name_used _ _ _ _ hsw]
 refine wpAny_bind (wpAny_standAt (wpAny_bind ?_))
 show wpAny _ X.A (do let _ ← comprehension (.ListComp elt [⟨.Name x px,iter,[],0⟩] scope pos) scope X.env _ (newList []) false (eval iter X.env) (some (assign (.Name y py) X.env))) _ _ s
 refine wpAny_bind (wpAny_mono (wpAny_comprehension_free (cl:=cl) (use:=some (assign (.Name y py) X.env)) (Q:=fun _ s'=>SP X pins D .next s') rfl hs hclos hkind hnames
  (thn (hp pins s σ H _ I h) fun v s1 h1=>thn h1 fun itv s2 h2=>?_)) (fun _ s' hq=>wpAny_pure (wpAny_pure hq)) fun _ _ e=>e)
 obtain ⟨it,fp,tn,J,H2,e,I2,T,st2,f2,lo,n,f,rfl,hn,hel,hfin⟩:=h2
 subst e
 refine wpAny_newObj_type (wpAny_newFunctionEnv hcell (by intro y hy;simp at hy) (fun h₁ hns₁ hsb₁=>?_) hkind)
 dsimp only at hns₁ hsb₁ ⊢
 generalize hH2:s2.heap.push { cls:=.type "list",dict:=none,data:=.seq ([]:List Value).toArray }=G at hns₁ hsb₁ ⊢
 have hC:G.objs.size=s2.heap.objs.size + 1:=by rw [← hH2,Heap.size_push]
 have hDC:s2.heap.objs.size≠G.objs.size:=by rw [hC];exact Nat.ne_of_lt (Nat.lt_succ_self _)
 have hCle:s2.heap.objs.size≤G.objs.size:=by rw [hC];exact Nat.le_succ _
 have old:∀ b o,s2.heap.get? b=some o→h₁.get? b=some o:=fun b o e=>hsb₁.extBut b o (by rw [hC];exact Nat.ne_of_lt (Nat.lt_succ_of_lt (Heap.lt_size e))) (Heap.get?_push_of_some _ (hH2 ▸ Heap.get?_push_of_some _ e))
 have hacc:h₁.get? s2.heap.objs.size=some { cls:=.type "list",dict:=none,data:=.seq ([]:List Value).toArray }:=hsb₁.extBut _ _ hDC (Heap.get?_push_of_some _ (hH2 ▸ Heap.get?_push_size _ rfl))
 have hfr:H2 s2.heap.objs.size=none:=I2.hok.fresh (Nat.le_refl _)
 have fl:∀ b∈fp,b < s2.heap.objs.size:=fun b hb=>by
  obtain ⟨o,e,_⟩:=T.obj _ _ st2 b hb
  exact Heap.lt_size e
 have hDf:s2.heap.objs.size ∉ fp:=fun hm=>Nat.lt_irrefl _ (fl _ hm)
 have hok1:HOk X.prog X.w (upd H2 s2.heap.objs.size (.lst [])) h₁:=I2.hok.laid old (Nat.le_refl _) ⟨Nat.zero_le _,[],0,.nil,hacc⟩
 have IY0:∀ tk,Inv (X.block (x :: caps) scope cl G.objs.size fp s2 H2) [] (none :: capv σ js) (upd H2 s2.heap.objs.size (.lst [])) { s2 with heap:=h₁,toks:=tk }:=fun tk=>by
  refine ⟨J6l I2 hCle f2 fl hkind hcell hsub hhas,rfl,I2.bare,Un.laid old (Nat.le_refl _) hfr,⟨_,hns₁,fun k z v e1 e2 e3=>?_⟩,fun z c e=>?_,?_,fun z c e=>?_,fun p hp=>absurd hp (by simp),hok1,?_⟩
  ·cases k with
   | zero=>simp at e2
   | succ k =>
    have e1':caps[k]?=some z:=by simpa using e1
    have e2':(capv σ js)[k]?=some (some v):=by simpa using e2
    obtain ⟨j,a,q1,q2,q3,q4,q5⟩:=hcaps k z e1'
    obtain ⟨j',r1,r2⟩:=capv_get e2'
    rw [q1] at r1;cases r1
    obtain ⟨m,hm,hl⟩:=I2.loc
    obtain ⟨u,ru,lu⟩:=hl j z v q2 r2 (.inr (.inl q3))
    refine ⟨u,ru,.inr ⟨.inl q5,a,q4,?_⟩⟩
    rcases lu with ⟨k1,_⟩ | ⟨_,c,ec,o,ho,hd⟩
    ·have k1':X.env.scope.names.lookup z=some .local:=k1
     rw [q3] at k1';cases k1'
    ·have:=hsub _ (PySem.mem_of_lookup q4)
     rw [ec] at this;cases this
     exact ⟨o,old _ _ ho,hd⟩
  ·obtain ⟨v,o,ho,hd⟩:=I2.cell z c (hsub _ (PySem.mem_of_lookup e))
   exact ⟨v,o,old _ _ ho,hd⟩
  ·show upd H2 s2.heap.objs.size (.lst []) G.objs.size=none
   rw [Jc hDC.symm]
   exact I2.hok.fresh hCle
  ·have ec:=hsub _ (PySem.mem_of_lookup e)
   obtain ⟨v,o,ho,hd⟩:=I2.cell z c ec
   rw [Jc (Nat.ne_of_lt (Heap.lt_size ho))]
   exact I2.freeC z c ec
  ·show (none :: capv σ js).length=(x :: caps).length
   unfold capv
   simp [hlen]
 have stat:∀ {H':Hp},(∀ b∈fp,H' b=none)→∀ b∈fp,FpOk (X.block (x :: caps) scope cl G.objs.size fp s2 H2) [] H' b:=fun hn b hb =>
  ⟨hn b hb,Nat.ne_of_lt (Nat.lt_of_lt_of_le (fl b hb) hCle),(J6l (x:=x) (caps:=caps) I2 hCle f2 fl hkind hcell hsub hhas).exfs b hb,.inl hb,fun z c e=>(f2 b hb).2.2.2.2.1 z c (hsub _ (PySem.mem_of_lookup e)),fun p hp=>absurd hp (by simp)⟩
 have fpn:∀ ys,∀ b∈fp,upd H2 s2.heap.objs.size (.lst ys) b=none:=fun ys b hb=>by
  rw [Jc (show b≠s2.heap.objs.size from fun e=>hDf (by rw [← e];exact hb))]
  exact (f2 b hb).1
 have hxl:(relabel scope X.env).names.lookup x=some .local:=lookup_relabel_local hx
 have fin:∀ (s5:Shared) (σ5:St),Inv (X.block (x :: caps) scope cl G.objs.size fp s2 H2) [] σ5 (upd H2 s2.heap.objs.size (.lst ((List.range n).map f))) s5→
   compPost (model X.prog X.w) X.A X.xe (some (assign (.Name y py) X.env)) (fun _ s'=>SP X pins D .next s') (.ref s2.heap.objs.size) G.objs.size (.ok .next) s5:=fun s5 σ5 I5=>by
  have J5:Inv X pins σ (upd H2 s2.heap.objs.size (.lst ((List.range n).map f))) s5:=I2.call' (ch:=fp) I5.os I5.base I5.hok I5.bare fun b hb=>⟨(f2 b hb).2.2.2.1,(f2 b hb).2.1,(f2 b hb).2.2.2.2.1,(f2 b hb).2.2.2.2.2⟩
  have hnsC:∃ m,s5.heap.Ns G.objs.size m:=let ⟨m,q,_⟩:=I5.loc;⟨m,q⟩
  obtain ⟨mC,nsC⟩:=hnsC
  show wpAny _ X.A (assign (.Name y py) X.env (.ref s2.heap.objs.size)) _ _ s5
  refine wpAny_assign_Name ?_
  refine J5y J5 hN hi hy (v:=.ref s2.heap.objs.size) rfl (fun s6 I6 keep6=>?_) hf
  obtain ⟨a,sa,ha⟩:=keep6
  have hLt:X.env.locals < s2.heap.objs.size:=I2.lt
  have aC:a≠G.objs.size:=by
   rcases ha with e | e
   ·rw [e];exact Nat.ne_of_lt (Nat.lt_of_lt_of_le hLt hCle)
   ·obtain ⟨v,o,ho,_⟩:=I2.cell y a e
    exact Nat.ne_of_lt (Nat.lt_of_lt_of_le (Heap.lt_size ho) hCle)
  refine ⟨mC,nsC.sameBut sa (Ne.symm aC),fun h' hs'=>?_⟩
  have hCn:upd H2 s2.heap.objs.size (.lst ((List.range n).map f)) G.objs.size=none:=by
   rw [Jc hDC.symm]
   exact I2.hok.fresh hCle
  have I7:=I6.turned (h':=h') (t':=s6.toks) (it:=G.objs.size) (fun b o hb e=>(hs'.2 b hb).trans e) hCn (Nat.ne_of_gt (Nat.lt_of_lt_of_le hLt hCle)) (.inr (Nat.le_trans I2.sz hCle))
   (fun z c e=>by
    obtain ⟨v,o,ho,_⟩:=I2.cell z c e
    exact Nat.ne_of_lt (Nat.lt_of_lt_of_le (Heap.lt_size ho) hCle))
   (fun p hp=>Nat.ne_of_lt (Nat.lt_of_lt_of_le (Heap.lt_size (I2.pin p hp).1) hCle))
  exact ⟨_,_,I7,hfin _ hfr⟩
 have loop:∀ tk,codeAny (model X.prog X.w) X.A (.compLoop (.ListComp elt [⟨.Name x px,iter,[],0⟩] scope pos) 0 (.ref it) (.ref s2.heap.objs.size) (compEnvC scope cl G.objs.size X.env))
   (compPost (model X.prog X.w) X.A X.xe (some (assign (.Name y py) X.env)) (fun _ s'=>SP X pins D .next s') (.ref s2.heap.objs.size) G.objs.size) { s2 with heap:=h₁,toks:=tk }:=fun tk=>by
  refine J3r (fun m s'=>∃ (k:Nat) (o:Option V),m=n - k∧k≤n∧Inv (X.block (x :: caps) scope cl G.objs.size fp s2 H2) [] (o :: capv σ js) (upd H2 s2.heap.objs.size (.lst ((List.range k).map f))) s'∧tn k s'.heap) ?_ n
   ⟨0,none,rfl,Nat.zero_le _,IY0 tk,T.keep _ _ _ st2 fun b hb o e=>old b o e⟩
  rintro m s3 ⟨k,o,rfl,hk,I3,st3⟩
  by_cases hlt:k < n
  ·refine thn (T.item (X.block (x :: caps) scope cl G.objs.size fp s2 H2) rfl rfl rfl hc k [] s3 _ _ (fun _ _=>False) I3 (stat (fpn _)) st3 hlt) fun r s4 ⟨u,hr,h4⟩=>?_
   subst hr
   refine thn h4 fun _ s5 ⟨v,H5,I5,r5,y5,st5,fr5⟩=>?_
   obtain ⟨rfl,rfl⟩:=y5
   have I5':=I5.pinned (stat fr5) (T.obj _ _ st5)
   refine thn (J2l (X:=X.block (x :: caps) scope cl G.objs.size fp s2 H2) (i:=0) (pos:=px) hnd rfl (.inl hxl) (.inr hxl) _ s5 _ _ _ u
    (fun σ' H'=>σ'=some (.int (lo + k)) :: capv σ js∧H'=upd H2 s2.heap.objs.size (.lst ((List.range k).map f))) I5' r5 ⟨rfl,rfl⟩) fun _ s6 ⟨σ6,H6,I6,q6⟩=>?_
   obtain ⟨rfl,rfl⟩:=q6
   refine thn (he _ _ _ _ _ s6 _ _ _ I6 (hel s2.heap.objs.size _ k hfr hlt rfl)) fun u7 s7 ⟨v7,H7,I7,r7,q7⟩=>?_
   obtain ⟨rfl,rfl⟩:=q7
   have hz:((List.range k).map f).length < sizeLine:=by
    rw [List.length_map,List.length_range]
    exact J11 (by omega)
   refine thn (J1t (X:=X.block (x :: caps) scope cl G.objs.size fp s2 H2) _ s7 _ _ (.ref s2.heap.objs.size) [f k] (.ref s2.heap.objs.size) [u7]
    (fun _ H'=>H'=upd (upd H2 s2.heap.objs.size (.lst ((List.range k).map f))) s2.heap.objs.size (.lst ((List.range k).map f ++ [f k]))) I7 rfl (.cons r7 .nil) ⟨s2.heap.objs.size,_,f k,rfl,rfl,J4,hz,rfl⟩) fun _ s8 ⟨_,H8,I8,_,q8⟩=>?_
   subst q8
   have eH:upd (upd H2 s2.heap.objs.size (.lst ((List.range k).map f))) s2.heap.objs.size (.lst ((List.range k).map f ++ [f k]))=upd H2 s2.heap.objs.size (.lst ((List.range (k + 1)).map f)):=by
    rw [upd_upd,List.range_succ,List.map_append,List.map_singleton]
   rw [eH] at I8
   refine ⟨n - (k + 1),by omega,k + 1,_,rfl,hlt,I8.unpinned,T.keep _ _ _ st5 fun b hb o e=>(I8.pin (b,o) (List.mem_append_right _ (List.mem_append_right _ (J2p hb e)))).1⟩
  ·have ek:k=n:=by omega
   subst ek
   refine thn (T.done (X.block (x :: caps) scope cl G.objs.size fp s2 H2) rfl rfl rfl hc k [] s3 _ _ (fun _ _=>False) I3 (stat (fpn _)) st3 (Nat.le_refl _)) fun r s4 ⟨hr,I4⟩=>?_
   subst hr
   exact fin s4 _ I4
 have st1:tn 0 h₁:=T.keep _ _ _ st2 fun b hb o e=>old b o e
 exact codeAny_compStart_list (loop _) (T.self X.A 0 _ _ _ st1 (loop _))
end
theorem ps_compB {X:Cx} {elt iter:Expr} {x y:Str} {px py:Pos} {scope:Scope} {cl:List (Str × Addr)} {pos spos:Pos} {wi:TI} {te:TE} {i:Nat} (caps:List Str) (js:List Nat)
  (hN:X.N.Nodup) (hi:X.N[i]?=some y) (hy:Loc X.env.scope y) (hc:X.calm=true) (hp:PI X (.Name x px) iter wi) (hclos:closureFor scope X.env=pure cl)
  (he:∀ (C:Addr) (fp:List Addr) (s:Shared) (H:Hp),PE (X.block (x :: caps) scope cl C fp s H) elt te)
  (hcell:∀ p∈scope.names,p.2≠.cell) (hnames:∀ p∈scope.names,p.2=.local→scope.names.lookup p.1=some .local) (hnd:(x :: caps).Nodup)
  (hsub:∀ p∈cl,X.env.cells.lookup p.1=some p.2)
  (hhas:(scope.names.all fun p=>p.2 != .free || (cl.lookup p.1).isSome)=true:=by rfl) (hlen:caps.length=js.length:=by rfl)
  (hcaps:((caps.zip js).all fun q=>X.N[q.2]? == some q.1 && X.env.scope.names.lookup q.1 == some .cell && (cl.lookup q.1).isSome && (relabel scope X.env).names.lookup q.1 == some .cell)=true:=by rfl)
  (hf:X.fn y=true∨X.env.scope.names.lookup y=some .local:=by first | exact .inl rfl | exact .inr rfl | assumption)
  (hsw:swapsWith (.ListComp elt [⟨.Name x px,iter,[],0⟩] scope pos) (some (.Name y py)) spos.line X.env=pure true:=by rfl)
  (hkind:scope.kind=.function:=by rfl) (hx:scope.names.lookup x=some .local:=by rfl) (hs:∀ v,foldedSetIterable iter X.env v=pure v:=by intro _;rfl) :
  PS X (.Assign [.Name y py] (.ListComp elt [⟨.Name x px,iter,[],0⟩] scope pos) spos) (tComp wi te js i):=by
 refine ps_comp (caps:=caps) (js:=js) hN hi hy hc hp he hcell hnames hnd hsub (fun p hp' e=>?_) hlen (fun k c hk=>?_) hf hsw hclos hkind hx hs
 ·have:=List.all_eq_true.mp hhas p hp'
  rw [e] at this
  exact Option.isSome_iff_exists.mp (by simpa using this)
 ·have hkl:k < caps.length:=(List.getElem?_eq_some_iff.mp hk).1
  have hj:js[k]?=some (js[k]'(hlen ▸ hkl)):=List.getElem?_eq_getElem (hlen ▸ hkl)
  have hm:(c,js[k]'(hlen ▸ hkl))∈caps.zip js:=by
   refine List.mem_iff_getElem?.mpr ⟨k,?_⟩
   rw [List.getElem?_zip_eq_some]
   exact ⟨hk,hj⟩
  have:=List.all_eq_true.mp hcaps _ hm
  simp only [Bool.and_eq_true,beq_iff_eq] at this
  obtain ⟨⟨⟨q1,q2⟩,q3⟩,q4⟩:=this
  obtain ⟨a,ha⟩:=Option.isSome_iff_exists.mp q3
  exact ⟨_,a,hj,q1,q2,ha,q4⟩
section
variable {X:Cx}
def rInsert:V→List V→Hp→VK→Prop:=fun x vs H Q=>∃ (l:Addr) (xs:List V) (k:Nat) (y:V),x=.ref l∧vs=[.int k,y]∧H l=some (.lst xs)∧k≤xs.length∧xs.length < sizeLine∧Q .non (upd H l (.lst (xs.take k ++ y :: xs.drop k)))
theorem mt_insert:MtM X "list.insert" rInsert:=by
 intro pins s σ H x vs v us Q I rx rv h
 obtain ⟨l,xs,k,y,rfl,rfl,hH,hk,hz,q⟩:=h
 cases rx
 obtain ⟨u1,u2,rfl,⟨t,rfl⟩,r2⟩:=rv.two
 obtain ⟨z,its,n,r,hl,e⟩:=I.lstM hH
 have hn:=J71
 obtain ⟨x,hx⟩:∃ x:Int,x=(k:Int):=⟨_,rfl⟩
 rw [← hx]
 have hfit:¬ (!Builtin.List.listFitsIndex x)=true:=by
  rw [fitsIndex_both (by omega) (by omega)]
  exact Bool.false_ne_true
 have hsz:its.toArray.size≤sizeLine:=by rw [List.size_toArray,← hl];exact z
 refine call_meets F.slot_list_insert ⟨_,e,rfl⟩ F.entry_list_insert (F.args_list_insert_3 _ _ _) (PySem.AutoSeq1.list_insert_list_int_val_1 l its.toArray n x t u2 hfit hsz) ⟨e,?_⟩
 refine ⟨.non,_,I.lset (its':=its.take k ++ u2 :: its.drop k) hH e ?_ ((r.take k).append (.cons r2 (r.drop k))) ?_,rfl,q⟩
 ·have e1:(if x < 0 then (x + (its.toArray.size:Int)).toNat else min x.toNat its.toArray.size)=k:=by
   rw [if_neg (by omega),List.size_toArray]
   omega
  dsimp only
  rw [e1]
  apply Array.ext'
  simp
  rw [List.take_of_length_le (by rw [List.length_drop];exact Nat.le_refl _)]
 ·rw [List.length_append,List.length_cons,List.length_take,List.length_drop]
  omega
end
section
variable {X:Cx}
abbrev SqI (K:PySem.W.Frag) (H:Hp) (p:Addr) (xs:List V):Prop:=SqL K H p xs∨SqT K H p xs
theorem J6d {its:List Value} {ns:List Int} (hi:IntsAre its ns):∃ xs:Array (Int × Tok),its.toArray=intItems xs∧preSum (numAt xs) xs.size=ns.sum∧ns=xs.toList.map (·.1):=by
 obtain ⟨xs,hx⟩:=hi.allInts.items
 have e1:ns=xs.toList.map (·.1):=by
  rw [← nums_intItems,← hx]
  exact (show numsOf its.toArray.toList=ns from hi.numsOf).symm
 refine ⟨xs,hx,?_,e1⟩
 rw [preSum_eq,List.take_of_length_le (by simp),e1]
theorem J4k (hc:X.calm=true):CallR X (.builtin "sum") (fun xs H Q=>∃ (p:Addr) (ns:List Int),xs=[.ref p]∧SqI X.K H p (ns.map V.int)∧Q (.int ns.sum) H):=by
 intro pins s σ H xs us Q I r h
 obtain ⟨p,ns,rfl,hq,q⟩:=h
 obtain ⟨u,rfl,rx⟩:=vals1 r
 cases rx
 have hh:=I.ok.hd hc
 rcases hq with hq | hq
 ·obtain ⟨its,r',pl,hz⟩:=I.list hq
  obtain ⟨xs,hx,e2,_⟩:=J6d (J1v r')
  refine sum_intListG hh (hx ▸ pl.isList) fun h' tk t' hk=>?_
  rw [e2]
  exact ⟨.int ns.sum,H,I.kept hk,⟨t',rfl⟩,q⟩
 ·obtain ⟨its,r',pl,hz⟩:=I.tuple hq
  obtain ⟨xs,hx,e2,_⟩:=J6d (J1v r')
  refine PySem.W.ktm_sumG hh (hx ▸ (show s.heap.IsTuple p its.toArray from pl)) fun h' tk t' hk=>?_
  rw [e2]
  exact ⟨.int ns.sum,H,I.kept hk,⟨t',rfl⟩,q⟩
theorem J7r {prog:Program} {w:World} {A:Around} {E:Value→Shared→Prop} {s:Shared} {l:Addr} {xs:Array (Int × Tok)} {Q:Value→Shared→Prop} (hh:A.handled=none) (ht:s.heap.IsTuple l (intItems xs)) (hne:0 < xs.size)
  (h:∀ v h' tk,(intItems xs)[argBest (fun i j=>decide (numAt xs i < numAt xs j)) (xs.size - 1)]?=some v→(∀ b o,s.heap.get? b=some o→h'.get? b=some o)→Q v { s with heap:=h',toks:=tk }) :
  wpAny (model prog w) A (call (.builtin "min") [.ref l]) Q E s:=by
 obtain ⟨o,ho,hc,n,hd⟩:=id ht
 have hne':l≠s.heap.objs.size:=Nat.ne_of_lt (Heap.lt_size ho)
 refine call_min_walk (wpAny_pyIter_tuple ht ?_)
 refine ⟨s.heap.objs.size,_,_,_,_,_,_,rfl,Walks.tuple (A:=A.in1) hh _ l hne' (intItems xs),⟨⟨_,Heap.get?_push_size _ rfl,rfl,rfl⟩,ht.at fun o e=>Heap.get?_push_of_some _ e⟩,fun b hb=>?_,by simpa [intItems] using hne,CmpOf.ints_lt (numAt xs) (fun _ _=>intItems_at),fun v h' tk hP hk=>?_⟩
 ·rcases List.mem_cons.mp hb with rfl | hb
  ·exact Heap.lt_size (Heap.get?_push_size _ rfl)
  ·obtain rfl:=List.mem_singleton.mp hb
   exact Heap.lt_size (Heap.get?_push_of_some _ ho)
 ·refine h v h' tk (by simpa [intItems] using hP) fun b o e=>hk b o (fun hb=>absurd (Heap.lt_size e) ((List.mem_singleton.mp hb) ▸ Nat.lt_irrefl _)) (Heap.get?_push_of_some _ e)
theorem best_min {ns:List Int} {xs:Array (Int × Tok)} (hns:ns=xs.toList.map (·.1)) (hsz:0 < xs.size) :
  numAt xs (argBest (fun i j=>decide (numAt xs i < numAt xs j)) (xs.size - 1))∈ns∧∀ a∈ns,numAt xs (argBest (fun i j=>decide (numAt xs i < numAt xs j)) (xs.size - 1))≤a:=by
 obtain ⟨h1,h2⟩:=argBest_lt (numAt xs) (xs.size - 1)
 refine ⟨?_,fun a ha=>?_⟩
 ·rw [hns,numAt_eq];exact getD_mem (by rw [List.length_map,Array.length_toList];omega)
 ·rw [hns] at ha
  obtain ⟨j,hj,rfl⟩:=mem_getD ha
  rw [List.length_map,Array.length_toList] at hj
  rw [← numAt_eq];exact h2 j (by omega)
theorem call_min (hc:X.calm=true):CallR X (.builtin "min") (fun xs H Q=>∃ (p:Addr) (ns:List Int),xs=[.ref p]∧SqI X.K H p (ns.map V.int)∧0 < ns.length∧∀ M,M∈ns→(∀ a∈ns,M≤a)→Q (.int M) H):=by
 intro pins s σ H xs us Q I r h
 obtain ⟨p,ns,rfl,hq,hne,q⟩:=h
 obtain ⟨u,rfl,rx⟩:=vals1 r
 cases rx
 have hh:=I.ok.hd hc
 rcases hq with hq | hq
 ·obtain ⟨its,r',pl,hz⟩:=I.list hq
  obtain ⟨xs,hx,_,e1⟩:=J6d (J1v r')
  have hsz:0 < xs.size:=by rw [e1,List.length_map,Array.length_toList] at hne;exact hne
  refine min_intList hh (hx ▸ pl.isList) hsz fun v h' tk hv hk=>?_
  obtain ⟨t,rfl⟩:=intItems_at hv
  obtain ⟨b1,b2⟩:=best_min e1 hsz
  exact ⟨.int _,H,I.kept hk,⟨t,rfl⟩,q _ b1 b2⟩
 ·obtain ⟨its,r',pl,hz⟩:=I.tuple hq
  obtain ⟨xs,hx,_,e1⟩:=J6d (J1v r')
  have hsz:0 < xs.size:=by rw [e1,List.length_map,Array.length_toList] at hne;exact hne
  refine J7r hh (hx ▸ (show s.heap.IsTuple p its.toArray from pl)) hsz fun v h' tk hv hk=>?_
  obtain ⟨t,rfl⟩:=intItems_at hv
  obtain ⟨b1,b2⟩:=best_min e1 hsz
  exact ⟨.int _,H,I.kept hk,⟨t,rfl⟩,q _ b1 b2⟩
end
end L2
namespace L2
open PySem PySem.Spec PyProof.Rows
section
variable {prog:Program} {w:World} {A:Around} {E:Value→Shared→Prop} {s:Shared}
theorem J79 {l:Addr} {vs:List Value} {Q:List Value→Shared→Prop} (hl:s.heap.IsTuple l vs.toArray)
  (h:Q vs { s with heap:=(s.heap.push (seqObj "list" #[] 0)).update s.heap.objs.size (Obj.mapSeq (· ++ vs.toArray)) }) (hsz:vs.length≤sizeLine) :
  wpAny (model prog w) A (collect (.ref l)) Q E s:=by
 obtain ⟨o,ho,hc,n,hd⟩:=id hl
 unfold collect
 refine wpAny_bind (wpAny_runValue (codeAny_builtin entry_proto_collect' ?_))
 show wpAny _ _ (do again (.builtin "list.__iadd__" ⟨[← newList [],.ref l],[]⟩)) _ _ s
 refine wpAny_bind (wpAny_newList (wpAny_pure ⟨Code.quiet_builtin _ (by decide +kernel),codeAny_builtin entry_list_iadd' ?_⟩))
 show wpAny _ _ (Builtin.List.listExtendWith (.ref s.heap.objs.size) (.ref l) (.ref s.heap.objs.size)) _ _ { s with heap:=s.heap.push (seqObj "list" #[] 0) }
 unfold Builtin.List.listExtendWith
 have ho':(s.heap.push (seqObj "list" #[] 0)).get? l=some o:=Heap.get?_push_of_some _ ho
 refine wpAny_bind (wpAny_typeOf (T:="tuple") ⟨o,ho',hc⟩ ?_)
 have ht:(Value.type "tuple" == Value.type "tuple")=true:=by rfl
 rw [if_pos (by rw [ht];simp)]
 refine wpAny_bind (listItems_at ho' hd ?_)
 refine wpAny_bind (listItems_at (xs:=#[]) (n:=0) (Heap.get?_push_size _ rfl) rfl ?_)
 rw [if_neg (by simp)]
 refine wpAny_bind (listUpdate_at (xs:=#[]) (n:=0) (Heap.get?_push_size _ rfl) rfl ?_ (Nat.zero_le _) (by show (#[] ++ vs.toArray).size≤sizeLine + 1;simp only [Array.size_append,List.size_toArray,List.length_nil];omega))
 refine wpAny_pure ?_
 show wpAny (model prog w) A (do
   let o ← load s.heap.objs.size
   match o.data with
   | .seq xs _=>pure xs.toList
   | _=>unsupported "internal:collect") Q E { s with heap:=(s.heap.push (seqObj "list" #[] 0)).update s.heap.objs.size (Obj.mapSeq (· ++ vs.toArray)) }
 refine wpAny_bind (wpAny_load (get?_update_seq (Heap.get?_push_size _ rfl) _) ?_)
 show wpAny _ _ (pure ((#[]:Array Value) ++ vs.toArray).toList) Q E _
 rw [show ((#[]:Array Value) ++ vs.toArray).toList=vs by simp]
 exact wpAny_pure h
theorem J7i {l:Addr} {vs:List Value} {ns:List Int} {Q:Value→Shared→Prop} (hl:s.heap.IsTuple l vs.toArray) (hI:IntsAre vs ns) (h64:vs.length < 64)
  (h:∀ (out:Array Value) (ns':List Int),IntsAre out.toList ns'→ns'.Perm ns→ns'.Pairwise (·≤·)→Q (.ref (s.heap.objs.size + 1)) { s with heap:=sortedAll s.heap vs out }) :
  wpAny (model prog w) A (call (.builtin "sorted") [.ref l]) Q E s:=by
 refine Calls.call_function_entry kind_sorted plain_sorted entry_sorted (args_sorted1 _) ?_
 unfold Builtin.«sorted»
 refine wpAny_bind (m:=checkCount "sorted" 1 1 _) (wpAny_pure ?_)
 refine wpAny_bind (J79 hl ?_ (Nat.le_of_lt (Nat.lt_of_lt_of_le h64 (by rw [sizeLine_eq];decide))))
 refine wpAny_bind (wpAny_newList ?_)
 have hsz:((s.heap.push (seqObj "list" #[] 0)).update s.heap.objs.size (Obj.mapSeq (· ++ vs.toArray))).objs.size=s.heap.objs.size + 1:=by
  rw [Heap.size_update,size_push']
 have hoL:(((s.heap.push (seqObj "list" #[] 0)).update s.heap.objs.size (Obj.mapSeq (· ++ vs.toArray))).push (seqObj "list" vs.toArray 0)).get? (s.heap.objs.size + 1)=some (seqObj "list" vs.toArray 0):=by
  rw [← hsz];exact Heap.get?_push_size _ rfl
 show wpAny _ _ _ _ _ { s with heap:=((s.heap.push (seqObj "list" #[] 0)).update s.heap.objs.size (Obj.mapSeq (· ++ vs.toArray))).push (seqObj "list" vs.toArray 0) }
 rw [hsz]
 refine wpAny_bind (wpAny_holding (wpAny_call_entry slot_list_sort ⟨_,hoL,rfl⟩ entry_list_sort (list_sort_tree hoL hI h64 fun out ns' a1 a2 a3=>⟨_,rfl,?_⟩) (args_list_sort _)))
 exact wpAny_pure ⟨_,rfl,h out ns' a1 a2 a3⟩
end
section
variable {X:Cx}
theorem call_sorted:CallR X (.builtin "sorted") (fun xs H Q=>∃ (p:Addr) (ns:List Int),xs=[.ref p]∧SqI X.K H p (ns.map V.int)∧ns.length < 64∧∀ l (ns':List Int),H l=none→ns'.Perm ns→ns'.Pairwise (·≤·)→Q (.ref l) (upd H l (.lst (ns'.map V.int)))):=by
 intro pins s σ H xs us Q I r h
 obtain ⟨p,ns,rfl,hq,h64,q⟩:=h
 obtain ⟨u,rfl,rx⟩:=vals1 r
 cases rx
 have fin:∀ (its:List Value) (out:Array Value) (ns':List Int),IntsAre out.toList ns'→ns'.Perm ns→ns'.Pairwise (·≤·)→EP X pins σ Q (.ref (s.heap.objs.size + 1)) { s with heap:=sortedAll s.heap its out }:=fun its out ns' a1 a2 a3=>by
  obtain ⟨e,he⟩:=sortedAll_at s.heap its out
  have hz:(ns'.map V.int).length≤sizeLine:=by
   rw [List.length_map,a2.length_eq]
   exact Nat.le_of_lt (J11 (by omega))
  refine ⟨.ref _,_,I.laid (t':=s.toks) (a:=s.heap.objs.size + 1) (o:=.lst (ns'.map V.int)) (fun b o e=>sortedAll_old e) (Nat.le_succ _) ⟨hz,out.toList,e,J5w a1,he⟩,rfl,q _ ns' (I.hok.fresh (Nat.le_succ _)) a2 a3⟩
 rcases hq with hq | hq
 ·obtain ⟨its,r',pl,hz⟩:=I.list hq
  have hl:=r'.length
  rw [List.length_map] at hl
  exact sorted_ints pl.isList (J1v r') (by omega) (fin its)
 ·obtain ⟨its,r',pl,hz⟩:=I.tuple hq
  have hl:=r'.length
  rw [List.length_map] at hl
  exact J7i (show s.heap.IsTuple p its.toArray from pl) (J1v r') (by omega) (fin its)
theorem J6j:CallR X (.type "range") (fun xs H Q=>∃ j:Int,xs=[.int j]∧∀ r,H r=none→Q (.ref r) (upd H r (.rng 0 j))):=by
 intro pins s σ H xs us Q I r h
 obtain ⟨j,rfl,q⟩:=h
 obtain ⟨u,rfl,t,rfl⟩:=vals1 r
 refine call_range_1 ?_
 exact ⟨.ref s.heap.objs.size,_,I.laid (o:=.rng 0 j) (fun b o e=>Heap.get?_push_of_some _ e) (Nat.le_refl _) ⟨_,_,_,Heap.get?_push_size _ rfl⟩,rfl,q _ (I.hok.fresh (Nat.le_refl _))⟩
theorem J6m {f:Nat→Int}:∀ {n:Nat} {us:List Value},us.length=n→(∀ (i:Nat) (v:Value),us[i]?=some v→∃ t,v=Value.int (f i) t)→Vals ((List.range n).map fun i=>V.int (f i)) us:=by
 intro n us hl h
 induction n generalizing f us with
 | zero=>cases us with
  | nil=>exact .nil
  | cons a r=>simp at hl
 | succ n ih=>cases us with
  | nil=>simp at hl
  | cons a r =>
   obtain ⟨t,e⟩:=h 0 a rfl
   subst e
   rw [List.range_succ_eq_map,List.map_cons,List.map_map]
   exact .cons ⟨t,rfl⟩ (ih (f:=fun i=>f (i + 1)) (by simpa using hl) fun i v e=>h (i + 1) v (by simpa using e))
theorem J27 (hc:X.calm=true):CallR X (.type "list") (fun xs H Q=>∃ (r:Addr) (n:Nat),xs=[.ref r]∧H r=some (.rng 0 (n:Int))∧n≤1000∧∀ l,H l=none→Q (.ref l) (upd H l (.lst (((List.range n).map fun (i:Nat)=>(i:Int)).map V.int)))):=by
 intro pins s σ H xs us Q I r h
 obtain ⟨p,n,rfl,hq,hn,q⟩:=h
 simp only [List.map_map,Function.comp_def] at q
 obtain ⟨u,rfl,rx⟩:=vals1 r
 cases rx
 obtain ⟨t,u,v,e⟩:=I.hok p _ hq
 refine call_list_range (I.ok.hd hc) (show IsRange s.heap p 0 (n:Int) 1 t u v from e) (small_one (by omega) (by omega) (by omega) (by omega)) (by rw [rangeSize_one];split <;> omega) (n:=n) (by omega) fun h' tk acc' c' hk hS' hacc=>?_
 have hv:Vals ((List.range n).map fun (i:Nat)=>V.int (i:Int)) acc'.toList:=J6m (by rw [Array.length_toList];exact hacc.1) fun i v e=>by
  obtain ⟨t,rfl⟩:=hacc.2 i v (by simpa using e)
  exact ⟨t,by simp⟩
 refine ⟨.ref s.heap.objs.size,_,I.laid (o:=.lst ((List.range n).map fun (i:Nat)=>V.int (i:Int))) hk (Nat.le_refl _) ⟨?_,acc'.toList,c',hv,by simpa using hS'⟩,rfl,q _ (I.hok.fresh (Nat.le_refl _))⟩
 rw [List.length_map,List.length_range]
 exact Nat.le_of_lt (J11 hn)
def Kin (xs ys:List V):Prop:=∀ a∈xs,∀ b∈ys,flatV a=true∧flatV b=true∧eqV a b=decide (a=b)
theorem Kin.ints (ns ms:List Int):Kin (ns.map V.int) (ms.map V.int):=fun a ha b hb=>by
 obtain ⟨i,_,rfl⟩:=List.mem_map.mp ha
 obtain ⟨j,_,rfl⟩:=List.mem_map.mp hb
 refine ⟨rfl,rfl,?_⟩
 show (i == j)=decide (V.int i=V.int j)
 by_cases e:i=j
 ·subst e;simp
 ·rw [decide_eq_false (fun h=>e (V.int.inj h))];simpa using e
def eAt (xs ys:List V) (j:Nat):Bool:=match xs[j]?,ys[j]? with
 | some a,some b=>eqV a b
 | _,_=>true
theorem all_eAt {xs ys:List V} (hl:xs.length=ys.length) (hk:Kin xs ys):((List.range xs.length).all (eAt xs ys))=decide (xs=ys):=by
 rw [Bool.eq_iff_iff,List.all_eq_true,decide_eq_true_iff]
 constructor
 ·intro h
  apply List.ext_getElem?
  intro j
  by_cases hj:j < xs.length
  ·have h1:xs[j]?=some xs[j]:=List.getElem?_eq_getElem hj
   have h2:ys[j]?=some (ys[j]'(hl ▸ hj)):=List.getElem?_eq_getElem (hl ▸ hj)
   have:=h j (List.mem_range.mpr hj)
   unfold eAt at this
   rw [h1,h2] at this
   have k:=(hk _ (List.getElem_mem hj) _ (List.getElem_mem (hl ▸ hj))).2.2
   have this:eqV xs[j] (ys[j]'(hl ▸ hj))=true:=this
   rw [k,decide_eq_true_iff] at this
   rw [h1,h2,this]
  ·rw [List.getElem?_eq_none (by omega),List.getElem?_eq_none (by omega)]
 ·rintro rfl j hj
  have hj':=List.mem_range.mp hj
  unfold eAt
  rw [List.getElem?_eq_getElem hj']
  have k:=(hk _ (List.getElem_mem hj') _ (List.getElem_mem hj')).2.2
  show eqV _ _=true
  rw [k];simp
theorem eAt_at {A:Around} {s:Shared} {xs ys:List V} {its its2:List Value} (r:Vals xs its) (r2:Vals ys its2) (hk:Kin xs ys) (j:Nat) (h1:j < its.toArray.size) (h2:j < its2.toArray.size):SeqAt.EqAt A s its.toArray[j] its2.toArray[j] (eAt xs ys j):=by
 have l1:=r.length
 have l2:=r2.length
 rw [List.size_toArray] at h1 h2
 have g1:xs[j]?=some (xs[j]'(by omega)):=List.getElem?_eq_getElem (by omega)
 have g2:ys[j]?=some (ys[j]'(by omega)):=List.getElem?_eq_getElem (by omega)
 obtain ⟨u,e1,ru⟩:=r.get g1
 obtain ⟨v,e2,rv⟩:=r2.get g2
 have e1':its.toArray[j]=u:=by
  have:=List.getElem?_eq_getElem h1
  rw [e1] at this
  simpa using (Option.some.inj this).symm
 have e2':its2.toArray[j]=v:=by
  have:=List.getElem?_eq_getElem h2
  rw [e2] at this
  simpa using (Option.some.inj this).symm
 obtain ⟨f1,f2,_⟩:=hk _ (List.getElem_mem (by omega:j < xs.length)) _ (List.getElem_mem (by omega:j < ys.length))
 unfold eAt
 rw [g1,g2,e1',e2']
 exact eqAt_V ru rv f1 f2
def rNeL (K:PySem.W.Frag):R2:=fun x y H Q=>∃ p q xs ys,x=.ref p∧y=.ref q∧SqL K H p xs∧SqL K H q ys∧Kin xs ys∧Q (.bl (!decide (xs=ys))) H
theorem op_neL (hu:X.A.units < cLine):OpR X (compareOp .NotEq) (rNeL X.K):=by
 intro pins s σ H x y v u Q I rx ry h
 obtain ⟨p,q,xs,ys,rfl,rfl,hp,hq,hk,hQ⟩:=h
 cases rx
 cases ry
 obtain ⟨its,r,pl,_⟩:=I.list hp
 obtain ⟨its2,r2,pl2,_⟩:=I.list hq
 have l1:=r.length
 have l2:=r2.length
 by_cases hl:xs.length=ys.length
 ·refine SeqAt.RcNeAt.lists pl.isList pl2.isList (by rw [List.size_toArray,List.size_toArray];omega) hu (fun j h1 h2=>eAt_at r r2 hk j h1 h2) _ _ _ _ ?_
  rw [List.size_toArray,← l1,all_eAt hl hk]
  exact ⟨.bl _,H,I,rfl,hQ⟩
 ·refine SeqAt.RcNeAt.lists_lengths pl.isList pl2.isList (by rw [List.size_toArray,List.size_toArray];simp;omega) hu _ _ _ _ ?_
  rw [decide_eq_false (fun e=>hl (congrArg List.length e))] at hQ
  exact ⟨.bl true,H,I,rfl,hQ⟩
end
end L2
namespace L2
open PySem PySem.Spec PyProof.Rows
theorem J4f:fillsNumberSlot (.type "tuple") "mul"=pure false :=
 PySem.fillsNumberSlot_seq (id:="tuple.__mul__") (r:=some (.builtin "tuple.__rmul__")) F.slot_tuple_mul.lookup (by decide +kernel) F.slot_tuple_rmul.lookup (by decide +kernel)
theorem J7l:seqRepeat? (.type "tuple")=pure (some (.builtin "tuple.__mul__")):=by
 unfold seqRepeat?
 rw [PySem.seqSlot_of (T:="tuple") (name:="__mul__") (id:="tuple.__mul__") F.slot_tuple_mul.lookup (by decide +kernel),PySem.seqSlot_of (T:="tuple") (name:="__rmul__") (id:="tuple.__rmul__") F.slot_tuple_rmul.lookup (by decide +kernel)]
 rfl
theorem J6e (a:Int) (t:Tok) (l:Addr) (items:Array Value) (n:Nat) (dd:Option Addr) (sl:Array (Option Value)) :
  Meets (Builtin.«int.__rmul__» ⟨[.int a t,.ref l],[]⟩) (fun _ R s=>s.heap.get? l=some { cls:=.type "tuple",dict:=dd,data:=.seq items n,slots:=sl }∧R (.ok (.ret Value.notImplemented)) s) :=
 .of_wp fun prog w A R s h=>by obtain ⟨hp,g,d,tk,os⟩:=s;obtain ⟨hl,h⟩:=h;wp_walk;exact ⟨_,rfl,h⟩
theorem tuple_mulW1 (l:Addr) (items:Array Value) (n:Nat) (dd:Option Addr) (sl:Array (Option Value)) (t:Tok) :
  Meets (Builtin.«tuple.__mul__» ⟨[.ref l,.int 1 t],[]⟩) (fun _ R s=>s.heap.get? l=some { cls:=.type "tuple",dict:=dd,data:=.seq items n,slots:=sl }∧R (.ok (.ret (.ref l))) { s with heap:=s.heap,toks:=s.toks }) :=
 .of_wp fun prog w A R s h=>by
  obtain ⟨hp,g,d,tk,os⟩:=s;obtain ⟨hl,h⟩:=h
  have f1:=AutoSeq1.idx_int;have f2:=AutoSeq1.sub_tuple_tuple
  wp_walk using AutoSeq1.wpAny_loadPart' hl;exact ⟨_,rfl,h⟩
theorem tuple_mulWn (l:Addr) (items:Array Value) (n:Nat) (dd:Option Addr) (sl:Array (Option Value)) (k:Int) (t:Tok) (h1:1 < k) (h2:k < 2 ^ 63) (hne:items.isEmpty=false) (hsz:items.size * k.toNat≤sizeLine) :
  Meets (Builtin.«tuple.__mul__» ⟨[.ref l,.int k t],[]⟩) (fun _ R s=>s.heap.get? l=some { cls:=.type "tuple",dict:=dd,data:=.seq items n,slots:=sl }∧
   R (.ok (.ret (.ref s.heap.objs.size))) { s with heap:=s.heap.push { cls:=.type "tuple",data:=.seq ((List.replicate k.toNat items).foldl (· ++ ·) #[]) },toks:=s.toks }) :=
 .of_wp fun prog w A R s h=>by
  obtain ⟨hp,g,d,tk,os⟩:=s;obtain ⟨hl,h⟩:=h
  have f1:=AutoSeq1.idx_int;have f2:=AutoSeq1.sub_tuple_tuple
  have c1:¬ (decide (k < -(2 ^ 63)) || decide (k≥2 ^ 63))=true:=by simp;omega
  have c2:¬ (items.isEmpty || k == 1)=true:=by rw [hne];simp;omega
  have c3:¬ (decide (k≤0) || items.isEmpty)=true:=by rw [hne];simp;omega
  have ek:(items.size:Int) * k=((items.size * k.toNat:Nat):Int):=by
   rw [Int.natCast_mul,Int.toNat_of_nonneg (by omega)]
  have hs0:(sizeLine:Nat)≤(2 ^ 63 - 1) / 8:=by decide
  have c4:¬ ((items.size:Int) * k > (2 ^ 63 - 1) / 8):=by rw [ek];omega
  have c5:¬ Builtin.Tuple.tupleTooMany ((items.size:Int) * k)=true:=by
   unfold Builtin.Tuple.tupleTooMany
   rw [ek,decide_eq_true_iff];omega
  have hsz2:((List.replicate k.toNat items).foldl (· ++ ·) #[]).size≤sizeLine:=by
   rw [AutoSeq1.size_joined];simp;rw [Nat.mul_comm];exact hsz
  wp_walk using AutoSeq1.wpAny_loadPart' hl
  refine wpAny_ite_false (decide_eq_false c1) ?_
  wp_walk using AutoSeq1.wpAny_loadPart' hl
  refine wpAny_ite_false (decide_eq_false c2) ?_
  refine wpAny_ite_false (decide_eq_false c3) ?_
  refine wpAny_ite_false (decide_eq_false c4) ?_
  refine wpAny_ite_false (decide_eq_false c5) ?_
  wp_walk using AutoSeq1.wpAny_loadPart' hl
  exact ⟨_,rfl,h⟩
section
variable {X:Cx}
def rRepT:R2:=fun x y H Q=>∃ (l:Addr) (k:Int) (xs:List V),x=.ref l∧y=.int k∧H l=some (.tup xs)∧xs≠[]∧1≤k∧k < 2 ^ 63∧xs.length * k.toNat≤sizeLine∧(k=1→Q (.ref l) H)∧(1 < k→∀ p,H p=none→Q (.ref p) (upd H p (.tup (List.replicate k.toNat xs).flatten)))
theorem op_repT:OpR X (binaryOp .Mult) rRepT:=by
 intro pins s σ H x y v u Q I rx ry h
 obtain ⟨l,k,xs,rfl,rfl,hH,hne,h1,h2,hz,q1,q2⟩:=h
 cases rx
 obtain ⟨t,rfl⟩:=ry
 obtain ⟨its,r,pl,hz'⟩:=I.tuple (SqT.of hH)
 obtain ⟨⟨cls,dd,data,sl⟩,ho,hc,n,hd⟩:=id pl
 simp only at hc hd
 subst hc hd
 have hl:=r.length
 refine wpAny_binaryOp_repeat_ref (T:="tuple") (U:="int") (by decide) ⟨_,ho,rfl⟩ (fun s'=>typeIs_int s' k t) J4f F.fills_int_mul F.slot_int_rmul J7l F.slot_int_index.lookup
  (call_meets F.slot_int_rmul (typeIs_int s k t) F.entry_int_rmul (F.args_int_rmul_2 _ _) (J6e k t l its.toArray n dd sl) ⟨ho,rfl,⟨_,ho,rfl⟩,?_⟩)
 by_cases e:k=1
 ·subst e
  exact call_meets F.slot_tuple_mul ⟨_,ho,rfl⟩ F.entry_tuple_mul (F.args_tuple_mul_2 _ _) (tuple_mulW1 l its.toArray n dd sl t) ⟨ho,⟨.ref l,H,I,rfl,q1 rfl⟩⟩
 ·have hni:its.toArray.isEmpty=false:=by
   cases its with
   | nil=>exact absurd (List.length_eq_zero_iff.mp (by simpa using hl)) hne
   | cons a r'=>rfl
  refine call_meets F.slot_tuple_mul ⟨_,ho,rfl⟩ F.entry_tuple_mul (F.args_tuple_mul_2 _ _) (tuple_mulWn l its.toArray n dd sl k t (by omega) h2 hni (by rw [List.size_toArray,← hl];exact hz)) ⟨ho,?_⟩
  have hnew:List.foldl (fun x1 x2=>x1 ++ x2) #[] (List.replicate k.toNat its.toArray)=(List.replicate k.toNat its).flatten.toArray:=by
   have:=J6h its k.toNat []
   rw [List.nil_append] at this
   exact this
  rw [hnew]
  refine ⟨.ref _,_,I.laid (t':=s.toks) (o:=.tup (List.replicate k.toNat xs).flatten) (fun b ob q=>Heap.get?_push_of_some _ q) (Nat.le_refl _) ⟨?_,_,r.rep k.toNat,⟨_,Heap.get?_push_size _ rfl,⟨rfl,rfl⟩,_,rfl⟩⟩,rfl,q2 (by omega) _ (I.hok.fresh (Nat.le_refl _))⟩
  rw [len_rep,Nat.mul_comm]
  exact hz
end
section
variable {X:Cx}
@[irreducible] def rTup (K:PySem.W.Frag):List V→Hp→VK→Prop:=fun xs H Q=>∃ p ys,xs=[.ref p]∧((SqL K H p ys∧∀ l,H l=none→Q (.ref l) (upd H l (.tup ys)))∨(SqT K H p ys∧Q (.ref p) H))
theorem J1i:CallR X (.type "tuple") (rTup X.K):=by
 unfold rTup
 exact J7a
end
end L2
namespace L2
open PySem PySem.Spec PyProof.Rows
section
variable {prog:Program} {w:World} {A:Around} {E:Value→Shared→Prop} {z:Shared}
theorem J4p {nu tu:Addr} {j:Nat} {xs:Array Value} {y:Value} {Q:Value→Shared→Prop} (hn:z.heap.IsTupleIter nu tu j) (ht:z.heap.IsTuple tu xs) (hy:xs[j]?=some y)
  (hQ:∀ g,g.IsTupleIter nu tu (j + 1)→Heap.SameBut nu z.heap g→Q y { z with heap:=g }):wpAny (model prog w) A (Builtin.SmallTypes.nextOf (.ref nu)) Q E z:=by
 obtain ⟨on,hon,cn,dn⟩:=id hn
 obtain ⟨ot,hot,_,nt,dt⟩:=ht
 unfold Builtin.SmallTypes.nextOf
 refine wpAny_bind (wpAny_callSpecial?_slot (name:=Str.ofString "__next__") hn.typeIs F.slot_tuple_iterator_next (wpAny_call_entry F.slot_tuple_iterator_next hn.typeIs F.entry_tuple_iterator_next ?_ (F.args_tuple_iterator_next_1 _)))
 show wpAny _ _ (field (.ref nu) 0 >>= _) _ _ z
 refine wpAny_bind (wpAny_field hon dn (x:=.ref tu) rfl ?_)
 show wpAny _ _ (if (Value.ref tu == Value.none)=true then _ else _) _ _ z
 rw [if_neg (show ¬ ((Value.ref tu == Value.none)=true) from Bool.false_ne_true)]
 show wpAny _ _ (field (.ref nu) 1 >>= _) _ _ z
 refine wpAny_bind (wpAny_field hon dn (x:=.int j 0) rfl ?_)
 show wpAny _ _ (seqItems? (.ref tu) >>= _) _ _ z
 refine wpAny_bind (wpAny_seqItems hot dt ?_)
 simp only [Int.toNat_natCast,hy]
 refine wpAny_bind (wpAny_setField hon dn (by simp) (wpAny_pure ⟨y,rfl,wpAny_pure (hQ _ ?_ (Heap.SameBut.update ..))⟩))
 exact ⟨_,Heap.get?_update_self _ hon (Obj.isFreed_of_fields (Obj.data_mapFields dn _)),(Obj.cls_mapFields ..).trans cn,by rw [Obj.data_mapFields dn];simp [rawInt]⟩
theorem J69 {nu tu:Addr} {j:Nat} {xs:Array Value} {Q:Value→Shared→Prop} (hh:A.handled=none) (hn:z.heap.IsTupleIter nu tu j) (ht:z.heap.IsTuple tu xs) (hy:xs[j]?=none)
  (hE:∀ g e,Heap.ExtBut nu z.heap g→(∃ o,g.get? e=some o∧o.cls=.type "StopIteration")→E (.ref e) { z with heap:=g }):wpAny (model prog w) A (Builtin.SmallTypes.nextOf (.ref nu)) Q E z:=by
 obtain ⟨on,hon,cn,dn⟩:=id hn
 obtain ⟨ot,hot,_,nt,dt⟩:=ht
 unfold Builtin.SmallTypes.nextOf
 refine wpAny_bind (wpAny_callSpecial?_slot (name:=Str.ofString "__next__") hn.typeIs F.slot_tuple_iterator_next (wpAny_call_entry F.slot_tuple_iterator_next hn.typeIs F.entry_tuple_iterator_next ?_ (F.args_tuple_iterator_next_1 _)))
 show wpAny _ _ (field (.ref nu) 0 >>= _) _ _ z
 refine wpAny_bind (wpAny_field hon dn (x:=.ref tu) rfl ?_)
 show wpAny _ _ (if (Value.ref tu == Value.none)=true then _ else _) _ _ z
 rw [if_neg (show ¬ ((Value.ref tu == Value.none)=true) from Bool.false_ne_true)]
 show wpAny _ _ (field (.ref nu) 1 >>= _) _ _ z
 refine wpAny_bind (wpAny_field hon dn (x:=.int j 0) rfl ?_)
 show wpAny _ _ (seqItems? (.ref tu) >>= _) _ _ z
 refine wpAny_bind (wpAny_seqItems hot dt ?_)
 simp only [Int.toNat_natCast,hy]
 refine wpAny_bind (wpAny_rule (wpAny_bind (wpAny_setField hon dn (by simp) ?_)))
 show wpAny _ _ (newExc (.type "StopIteration") [] >>= _) _ _ _
 refine wpAny_bind ?_
 simp only [newExc,newTuple]
 refine wpAny_bind (wpAny_newObj_type ?_ (by size_fits))
 refine wpAny_bind (m:=firstArgMember _ _) (wpAny_of_eq (a:=Value.none) (by first | rfl | (simp only [firstArgMember];rfl)) ?_)
 refine wpAny_newObj_type ?_ (by size_fits)
 simp only [raiseNew]
 refine wpAny_bind (wpAny_handled ?_)
 first | rw [show A.in1.handled=none from hh] | rw [hh]
 refine wpAny_bind (wpAny_pure (wpAny_throw ?_))
 exact hE _ _ (((Heap.SameBut.update ..).extBut.push _).push _) ⟨_,Heap.get?_push_size _ rfl,rfl⟩
theorem enum_turn {en nu:Addr} {j:Nat} {y old:Value} {St:Heap→Prop} {Q:Value→Shared→Prop} (he:IsEnum z.heap en nu j old) (hne:en≠nu) (keepSt:∀ g g':Heap,St g→(∀ o,g.get? nu=some o→g'.get? nu=some o)→St g')
  (NX:∀ (A':Around) (E':Value→Shared→Prop) (Q':Value→Shared→Prop),(∀ g,St g→Heap.SameBut nu z.heap g→Q' y { z with heap:=g })→wpAny (model prog w) A' (Builtin.SmallTypes.nextOf (.ref nu)) Q' E' z)
  (hQ:∀ g,IsEnumOut g en nu ((j:Int) + 1) y z.heap.objs.size→St g→g.get? z.heap.objs.size=some { cls:=.type "tuple",data:=.seq #[.int j z.toks,y] }→g.objs.size=z.heap.objs.size + 1→
   (∀ b o,b≠en→b≠nu→z.heap.get? b=some o→g.get? b=some o)→Q (.ref z.heap.objs.size) { z with heap:=g,toks:=z.toks + 1 }) :
  wpAny (model prog w) A (Builtin.«enumerate.__next__» ⟨[.ref en],[]⟩) (fun fin s'=>∃ v,fin=.done (.ret v)∧Q v s') E z:=by
 obtain ⟨hp,gg,d,tk,os⟩:=z
 show wpAny _ _ (field (.ref en) 2 >>= _) _ _ _
 refine wpAny_bind (wpAny_field he rfl (x:=.ref nu) rfl (wpAny_bind (NX _ _ _ fun g₁ st₁ sb₁=>?_)))
 have sb₁:Heap.SameBut nu hp g₁:=sb₁
 have e₁:IsEnum g₁ en nu j old:=(sb₁.2 en hne).trans he
 show wpAny _ _ (field (.ref en) 3 >>= _) _ _ ⟨g₁,gg,d,tk,os⟩
 refine wpAny_bind (wpAny_field e₁ rfl (x:=rawInt j) rfl ?_)
 show wpAny _ _ (field (.ref en) 4 >>= _) _ _ ⟨g₁,gg,d,tk,os⟩
 refine wpAny_bind (wpAny_field e₁ rfl (x:=.none) rfl ?_)
 show wpAny _ _ (mkInt j >>= _) _ _ ⟨g₁,gg,d,tk,os⟩
 refine wpAny_bind (wpAny_mkInt ?_)
 show wpAny _ _ (setField (.ref en) 3 (rawInt ((j:Int) + 1)) >>= _) _ _ ⟨g₁,gg,d,tk + 1,os⟩
 refine wpAny_bind (wpAny_setField_rec e₁ (by simp) fun g₂ e₂ sb₂=>?_)
 have sb₂:Heap.SameBut en g₁ g₂:=sb₂
 have e₂:IsEnum g₂ en nu ((j:Int) + 1) old:=e₂
 show wpAny _ _ (setField (.ref en) 4 .none >>= _) _ _ ⟨g₂,gg,d,tk + 1,os⟩
 refine wpAny_bind (wpAny_setField_rec e₂ (by simp) fun g₃ e₃ sb₃=>?_)
 have sb₃:Heap.SameBut en g₂ g₃:=sb₃
 have e₃:IsEnum g₃ en nu ((j:Int) + 1) old:=e₃
 show wpAny _ _ (newTuple [.int j tk,y] >>= _) _ _ ⟨g₃,gg,d,tk + 1,os⟩
 refine wpAny_bind (wpAny_newTuple ?_)
 have st₃:St g₃:=keepSt _ _ st₁ fun o e=>sb₃.extBut _ _ (Ne.symm hne) (sb₂.extBut _ _ (Ne.symm hne) e)
 have e₄:IsEnum (g₃.push { cls:=.type "tuple",data:=.seq #[.int j tk,y] }) en nu ((j:Int) + 1) old:=Heap.get?_push_of_some _ e₃
 have st₄:St (g₃.push { cls:=.type "tuple",data:=.seq #[.int j tk,y] }):=keepSt _ _ st₃ fun o e=>Heap.get?_push_of_some _ e
 have hz:g₃.objs.size=hp.objs.size:=by rw [sb₃.1,sb₂.1,sb₁.1]
 have hel:en < hp.objs.size:=Heap.lt_size he
 have t₄:(g₃.push { cls:=.type "tuple",data:=.seq #[.int j tk,y] }).get? hp.objs.size=some { cls:=.type "tuple",data:=.seq #[.int j tk,y] }:=by rw [← hz];exact Heap.get?_push_size _ rfl
 have z₄:(g₃.push { cls:=.type "tuple",data:=.seq #[.int j tk,y] }).objs.size=hp.objs.size + 1:=by rw [Heap.size_push,hz]
 have k₄:∀ b o,b≠en→b≠nu→hp.get? b=some o→(g₃.push { cls:=.type "tuple",data:=.seq #[.int j tk,y] }).get? b=some o:=fun b o h1 h2 e =>
  Heap.get?_push_of_some _ (sb₃.extBut b o h1 (sb₂.extBut b o h1 (sb₁.extBut b o h2 e)))
 generalize g₃.push { cls:=.type "tuple",data:=.seq #[.int j tk,y] }=g₄ at e₄ st₄ t₄ z₄ k₄
 show wpAny _ _ (Builtin.SmallTypes.ownedTupleIsFree (.ref en) >>= _) _ _ ⟨g₄,gg,d,tk + 1,os⟩
 rw [hz]
 refine wpAny_bind ?_
 ·unfold Builtin.SmallTypes.ownedTupleIsFree
  refine wpAny_bind (wpAny_field e₄ rfl (x:=.none) rfl (wpAny_pure ?_))
  simp only [if_true]
  refine wpAny_bind (wpAny_rule (wpAny_bind (wpAny_field e₄ rfl (x:=old) rfl (wpAny_bind (wpAny_setField_rec e₄ (by simp) fun g₅ e₅ sb₅=>?_)))))
  have sb₅:Heap.SameBut en g₄ g₅:=sb₅
  have e₅:IsEnum g₅ en nu ((j:Int) + 1) y:=e₅
  show wpAny _ _ (Builtin.SmallTypes.ownedTupleHandOut (.ref en) (.ref hp.objs.size) >>= _) _ _ ⟨g₅,gg,d,tk + 1,os⟩
  refine wpAny_bind ?_
  ·unfold Builtin.SmallTypes.ownedTupleHandOut
   refine wpAny_bind (wpAny_setField_rec e₅ (by simp) fun g₆ e₆ sb₆=>?_)
   have sb₆:Heap.SameBut en g₅ g₆:=sb₆
   have e₆:IsEnumOut g₆ en nu ((j:Int) + 1) y hp.objs.size:=e₆
   refine wpAny_setField_rec e₆ (by simp) fun g₇ e₇ sb₇=>?_
   have sb₇:Heap.SameBut en g₆ g₇:=sb₇
   have e₇:IsEnumOut g₇ en nu ((j:Int) + 1) y hp.objs.size:=e₇
   have up:∀ b o,b≠en→g₄.get? b=some o→g₇.get? b=some o:=fun b o h1 e=>sb₇.extBut b o h1 (sb₆.extBut b o h1 (sb₅.extBut b o h1 e))
   exact wpAny_bind (wpAny_letGo (wpAny_pure ⟨_,rfl,hQ g₇ e₇ (keepSt _ _ st₄ fun o e=>up _ _ (Ne.symm hne) e) (up _ _ (Nat.ne_of_gt hel) t₄) (by rw [sb₇.1,sb₆.1,sb₅.1,z₄]) fun b o h1 h2 e=>up b o h1 (k₄ b o h1 h2 e)⟩))
theorem enumT_item {en nu tu:Addr} {j:Nat} {xs:Array Value} {y old:Value} {Q:Option Value→Shared→Prop} (he:IsEnum z.heap en nu j old) (hn:z.heap.IsTupleIter nu tu j) (ht:z.heap.IsTuple tu xs) (hy:xs[j]?=some y) (hne:en≠nu)
  (hQ:∀ g,IsEnumOut g en nu ((j:Int) + 1) y z.heap.objs.size→g.IsTupleIter nu tu (j + 1)→g.get? z.heap.objs.size=some { cls:=.type "tuple",data:=.seq #[.int j z.toks,y] }→g.objs.size=z.heap.objs.size + 1→
   (∀ b o,b≠en→b≠nu→z.heap.get? b=some o→g.get? b=some o)→Q (some (.ref z.heap.objs.size)) { z with heap:=g,toks:=z.toks + 1 }) :
  wpAny (model prog w) A (pyNext (.ref en)) Q E z:=by
 have hT:z.TypeIs (.ref en) "enumerate":=⟨_,he,rfl⟩
 unfold pyNext
 exact wpAny_bind (wpAny_attempt (wpAny_callSpecial?_slot (name:=Str.ofString "__next__") hT F.slot_enumerate_next (wpAny_call_entry F.slot_enumerate_next hT F.entry_enumerate_next
   (enum_turn (St:=fun g=>g.IsTupleIter nu tu (j + 1)) he hne (fun g g' st k=>let ⟨o,ho,r⟩:=st;⟨o,k o ho,r⟩) (fun A' E' Q' h=>J4p hn ht hy h) fun g a b c d k=>wpAny_pure (hQ g a b c d k)) (F.args_enumerate_next_1 _))))
theorem enumT_end {en nu tu:Addr} {j:Nat} {xs:Array Value} {old:Value} {Q:Option Value→Shared→Prop} (hh:A.handled=none) (he:IsEnum z.heap en nu j old) (hn:z.heap.IsTupleIter nu tu j) (ht:z.heap.IsTuple tu xs) (hy:xs[j]?=none)
  (hQ:∀ g,Heap.ExtBut nu z.heap g→Q none { z with heap:=g }):wpAny (model prog w) A (pyNext (.ref en)) Q E z:=by
 have hT:z.TypeIs (.ref en) "enumerate":=⟨_,he,rfl⟩
 unfold pyNext
 refine wpAny_bind (wpAny_attempt (wpAny_callSpecial?_slot (name:=Str.ofString "__next__") hT F.slot_enumerate_next (wpAny_call_entry F.slot_enumerate_next hT F.entry_enumerate_next ?_ (F.args_enumerate_next_1 _))))
 show wpAny _ _ (field (.ref en) 2 >>= _) _ _ _
 refine wpAny_bind (wpAny_field he rfl (x:=.ref nu) rfl (wpAny_bind (J69 hh hn ht hy fun g x he' hx'=>?_)))
 obtain ⟨o,ho,hc⟩:=hx'
 exact wpAny_bind (wpAny_isInstance (T:="StopIteration") (b:=true) ⟨o,ho,hc⟩ isSubtype_stop (wpAny_pure (hQ _ he')))
theorem enum_newT (l:Addr) (xs:Array Value) (n:Nat) (dct:Option Addr) (sl:Array (Option Value)) :
  Meets (Builtin.«enumerate.__new__» ⟨[.type "enumerate",.ref l],[]⟩) (fun _ R s=>s.heap.get? l=some { cls:=.type "tuple",dict:=dct,data:=.seq xs n,slots:=sl }∧
   R (.ok (.ret (.ref (s.heap.push { cls:=.type "tuple_iterator",data:=.fields #[.ref l,.int 0 0] }).objs.size)))
    { s with heap:=(s.heap.push { cls:=.type "tuple_iterator",data:=.fields #[.ref l,.int 0 0] }).push { cls:=.type "enumerate",data:=.fields #[.none,.bool false,.ref s.heap.objs.size,rawInt 0,.none,.none] } }) :=
 .of_wp fun prog w A R s h=>by
  obtain ⟨hp,g,d,tk,os⟩:=s;obtain ⟨hl,h⟩:=h
  have hsub:=sub_enumerate
  have hTT:Heap.IsTuple (Shared.heap ⟨hp,g,d,tk,os⟩) l xs:=⟨_,hl,rfl,n,rfl⟩
  wp_walk using AutoSeq1.wpAny_loadPart' hl
  refine wpAny_stack_any fun st=>wpAny_pure ?_
  split
  ·rename_i c _ _ _ _ _
   cases (c == Value.type "enumerate") <;> (wp_walk using AutoSeq1.wpAny_loadPart' hl,wpAny_pyIter_tuple hTT;exact ⟨_,rfl,h⟩)
  ·(wp_walk using AutoSeq1.wpAny_loadPart' hl,wpAny_pyIter_tuple hTT;exact ⟨_,rfl,h⟩)
theorem call_enumT {l:Addr} {xs:Array Value} {Q:Value→Shared→Prop} (hL:z.heap.IsTuple l xs)
  (h:∀ g,IsEnum g (z.heap.objs.size + 1) z.heap.objs.size 0 .none→g.IsTupleIter z.heap.objs.size l 0→g.objs.size=z.heap.objs.size + 2→(∀ b o,z.heap.get? b=some o→g.get? b=some o)→Q (.ref (z.heap.objs.size + 1)) { z with heap:=g }) :
  wpAny (model prog w) A (call (.type "enumerate") [.ref l]) Q E z:=by
 obtain ⟨⟨c,dct,dt,sl⟩,hl,hc,n,hd⟩:=hL
 have hc:c=.type "tuple":=hc
 have hd:dt=.seq xs n:=hd
 subst hc hd
 refine callType_new F.called_enumerate (by decide) (F.typeCall_enumerate_1 _) (F.newCall_enumerate_1 _) (fun obj=>F.args_object_init_2 obj _) F.entry_enumerate_new (enum_newT l xs n dct sl) ⟨hl,?_⟩
 have hz:(z.heap.push { cls:=.type "tuple_iterator",data:=.fields #[.ref l,.int 0 0] }).objs.size=z.heap.objs.size + 1:=Heap.size_push ..
 show _∧_
 rw [hz]
 have he:IsEnum ((z.heap.push { cls:=.type "tuple_iterator",data:=.fields #[.ref l,.int 0 0] }).push { cls:=.type "enumerate",data:=.fields #[.none,.bool false,.ref z.heap.objs.size,rawInt 0,.none,.none] }) (z.heap.objs.size + 1) z.heap.objs.size 0 .none:=by
  have q:=Heap.get?_push_size (z.heap.push { cls:=.type "tuple_iterator",data:=.fields #[.ref l,.int 0 0] }) (o:={ cls:=.type "enumerate",data:=.fields #[.none,.bool false,.ref z.heap.objs.size,rawInt 0,.none,.none] }) rfl
  rw [hz] at q;exact q
 exact ⟨⟨_,he,rfl⟩,h _ he ⟨_,Heap.get?_push_of_some _ (Heap.get?_push_size _ rfl),rfl,rfl⟩ (by rw [Heap.size_push,hz]) fun b o q=>Heap.get?_push_of_some _ (Heap.get?_push_of_some _ q)⟩
end
section
variable {X:Cx} {pins:List (Addr × Obj)} {σ:St} {H:Hp} {s:Shared} {h':Heap}
theorem Inv.turned2 {t':Nat} {en nu p:Addr} {o:HO} (I:Inv X pins σ H s) (k:∀ b u,b≠en→b≠nu→s.heap.get? b=some u→h'.get? b=some u) (f1:FpOk X pins H en) (f2:FpOk X pins H nu) (hp:s.heap.objs.size≤p)
  (he:∃ u,h'.get? en=some u) (hu:∃ u,h'.get? nu=some u) (new:ObjOk X.prog X.w (upd H p o) h' p o):Inv X pins σ (upd H p o) { s with heap:=h',toks:=t' }:=by
 have hn:H p=none:=I.hok.fresh hp
 have lt:∀ b u,s.heap.get? b=some u→b≠p:=fun b u e=>Nat.ne_of_lt (Nat.lt_of_lt_of_le (Heap.lt_size e) hp)
 have ne1:∀ b u,H b=some u→b≠en:=fun b u e z=>by rw [z,f1.1] at e;cases e
 have ne2:∀ b u,H b=some u→b≠nu:=fun b u e z=>by rw [z,f2.1] at e;cases e
 have nc:∀ b,b ∉ [en,nu]→b≠en∧b≠nu:=fun b hb=>⟨fun z=>hb (by simp [z]),fun z=>hb (by simp [z])⟩
 refine I.step (g':=s.gens) (d':=s.drawn) (ch:=[en,nu]) (fun b hb=>?_) (fun b u _ _ hc e _=>k b u (nc b hc).1 (nc b hc).2 e) (fun b u _ _ hc e _=>⟨u.slots,k b u (nc b hc).1 (nc b hc).2 e⟩) (fun b u hc e n=>by rw [Jc (lt b u e)];exact n)
  (fun b u hc e=>⟨u,k b u (nc b hc).1 (nc b hc).2 e⟩) (fun b xs e=>by rw [Jc (Ja e hn)];exact e) (fun b u v e=>by rw [Jc (Ja e hn)];exact e) (fun b ps e=>⟨#[],by rw [Jc (Ja e hn),e];simp⟩) (fun m hm=>?_) (fun b u e=>?_) I.bare
 ·have hb:b=en∨b=nu:=by simpa using hb
  rcases hb with rfl | rfl
  ·exact ⟨f1.2.2.2.1,f1.2.1,f1.2.2.2.2.1,f1.2.2.2.2.2⟩
  ·exact ⟨f2.2.2.2.1,f2.2.1,f2.2.2.2.2.1,f2.2.2.2.2.2⟩
 ·obtain ⟨ob,es,ep,ho,r⟩:=hm
  exact ⟨ob,es,ep,k _ ob (Ne.symm f1.2.1) (Ne.symm f2.2.1) ho,r⟩
 ·by_cases hb:b=p
  ·subst hb;rw [J4] at e;cases e;exact new
  ·rw [Jc hb] at e
   refine (I.hok b u e).stay (fun c v hc q=>k c v ?_ ?_ q) (fun c q=>by rw [Jc (Ja q hn)];exact q) fun c xs q=>by rw [Jc (Ja q hn)];exact q
   ·rcases hc with q | q
    ·rw [q];exact ne1 b u e
    ·exact ne1 c _ q
   ·rcases hc with q | q
    ·rw [q];exact ne2 b u e
    ·exact ne2 c _ q
end
def Ite (K:PySem.W.Frag) (a:Addr):It :=
 ⟨fun i H=>∃ xs x,SqT K H a xs∧xs[i]?=some x,fun i H v H'=>∃ p x,v=.ref p∧H p=none∧H'=upd H p (.tup [.int (i:Int),x])∧∀ xs,SqT K H a xs→xs[i]?=some x,fun i H=>∃ xs,SqT K H a xs∧xs.length≤i⟩
theorem turn_enum {P:Program} {w:World} {K:PySem.W.Frag} {elts:List Expr} {kk:Nat} {tp:Pos} (a en nu:Addr) (hne:en≠nu):Turn P w K (.Tuple elts kk tp) (Ite K a) [en,nu] en (fun i h=>(∃ old,IsEnum h en nu (i:Int) old)∧h.IsTupleIter nu a i) where
 mem:=by simp
 obj:=fun i h st b hb=>by
  obtain ⟨⟨old,e1⟩,o,e2,_,d2⟩:=st
  have hb:b=en∨b=nu:=by simpa using hb
  rcases hb with rfl | rfl
  ·exact ⟨_,e1,fun v z=>by
    have z':Data.fields _=Data.cell v:=z
    cases z'⟩
  ·exact ⟨_,e2,fun v z=>by rw [d2] at z;cases z⟩
 keep:=fun i h h' st k=>by
  obtain ⟨⟨old,e1⟩,o,e2,r⟩:=st
  exact ⟨⟨old,k en (by simp) _ e1⟩,o,k nu (by simp) _ e2,r⟩
 item:=by
  intro X hP hw hK hc i pins s σ H E I hf st hg
  subst hP hw hK
  obtain ⟨⟨old,e1⟩,e2⟩:=st
  obtain ⟨xs,x,hq,hx⟩:=hg
  obtain ⟨its,r,pl,hz⟩:=I.tuple hq
  obtain ⟨u,hu,ru⟩:=r.get hx
  have f1:=hf en (by simp)
  have f2:=hf nu (by simp)
  refine enumT_item e1 e2 (show s.heap.IsTuple a its.toArray from pl) (y:=u) (by simpa using hu) hne fun g o1 n1 t1 z1 k1=>?_
  refine ⟨_,rfl,?_⟩
  have he:en < s.heap.objs.size:=Heap.lt_size e1
  refine wpAny_letOwnedTupleGo_enum o1 fun g2 e3 sb=>?_
  have sb:Heap.SameBut en g g2:=sb
  have n2:g2.IsTupleIter nu a (i + 1):=n1.extBut sb.extBut (Ne.symm hne)
  have kk2:∀ b o,b≠en→b≠nu→s.heap.get? b=some o→g2.get? b=some o:=fun b o h1 h2 e=>(sb.2 b h1).trans (k1 b o h1 h2 e)
  have t2:g2.get? s.heap.objs.size=some { cls:=.type "tuple",data:=.seq #[.int i s.toks,u] }:=(sb.2 _ (Nat.ne_of_gt he)).trans t1
  obtain ⟨on,hon,_⟩:=id n2
  have J:=I.turned2 (t':=s.toks + 1) (o:=.tup [.int (i:Int),x]) (p:=s.heap.objs.size) kk2 f1 f2 (Nat.le_refl _) ⟨_,e3⟩ ⟨_,hon⟩
   ⟨(by show 2≤sizeLine;decide),[.int i s.toks,u],.cons ⟨_,rfl⟩ (.cons ru .nil),⟨_,t2,⟨rfl,rfl⟩,_,rfl⟩⟩
  have hfr:H s.heap.objs.size=none:=I.hok.fresh (Nat.le_refl _)
  have cast:((i + 1:Nat):Int)=(i:Int) + 1:=by omega
  refine ⟨.ref s.heap.objs.size,_,J,rfl,⟨_,x,rfl,hfr,rfl,fun ys hy=>?_⟩,⟨⟨u,by rw [cast];exact e3⟩,n2⟩,fun b hb=>?_⟩
  ·rw [← I.tuple_inj hq hy];exact hx
  ·have hbl:b < s.heap.objs.size:=by
    have hb:b=en∨b=nu:=by simpa using hb
    rcases hb with rfl | rfl
    ·exact he
    ·obtain ⟨o,ho,_⟩:=e2;exact Heap.lt_size ho
   rw [Jc (Nat.ne_of_lt hbl)]
   exact (hf b hb).1
 done:=by
  intro X hP hw hK hc i pins s σ H E I hf st hg
  subst hP hw hK
  obtain ⟨⟨old,e1⟩,e2⟩:=st
  obtain ⟨xs,hq,hl⟩:=hg
  obtain ⟨its,r,pl,hz⟩:=I.tuple hq
  obtain ⟨f0,f1,f2,f3,f4,f5⟩:=hf nu (by simp)
  refine enumT_end (I.ok.hd hc) e1 e2 (show s.heap.IsTuple a its.toArray from pl) (by have:=r.length;simp;omega) fun g eb=>⟨rfl,I.turned (t':=s.toks) (fun b o hb e=>eb b o hb e) f0 f1 f3 f4 f5⟩
 self:=fun A i s Q E st h=>by
  obtain ⟨⟨old,e1⟩,_⟩:=st
  exact wpAny_pyIter_enum e1 h
section
variable {X:Cx}
def iEnum (K:PySem.W.Frag) (ta:TA):TI:=fun σ H R=>ta σ H fun vs H1=>∃ a,vs=[.ref a]∧(∃ xs,SqT K H1 a xs)∧R (Ite K a) H1
theorem pi_enum {elts:List Expr} {kk:Nat} {tp:Pos} {a:Expr} {ta:TA} {p pos:Pos} (hg:Gl X "enumerate") (hm:X.mg "enumerate"=none) (ha:PA X [a] ta) (hs:starEach [a] X.env=[(false,eval a X.env)]:=by rfl):PI X (.Tuple elts kk tp) (.Call (.Name "enumerate" p) [a] [] pos) (iEnum X.K ta):=by
 intro pins s σ H R I h
 refine Call_ (ld_blt I hg hm boot_enumerate (PyProof.Rows.callWith_type1 (thn (ha pos pins s σ H _ I h) fun us s1 ⟨vs,H1,I1,r1,q1⟩=>?_) hs rfl))
 obtain ⟨a,e,⟨xs,hq⟩,q⟩:=q1
 subst e
 obtain ⟨u,rfl,ru⟩:=vals1 r1
 cases ru
 obtain ⟨its,r,pl,hz⟩:=I1.tuple hq
 refine call_enumT (show s1.heap.IsTuple a its.toArray from pl) fun g e1 e2 z1 k1=>?_
 have I2:Inv X pins σ H1 { s1 with heap:=g }:=I1.kept (t':=s1.toks) k1
 refine wpAny_pyIter_enum e1 ?_
 refine ⟨_,_,_,_,H1,rfl,I2,turn_enum a _ _ (Nat.succ_ne_self _),⟨⟨.none,e1⟩,e2⟩,fun b hb=>?_,q⟩
 have hb:b=s1.heap.objs.size + 1∨b=s1.heap.objs.size:=by simpa using hb
 have hbs:s1.heap.objs.size≤b:=by
  rcases hb with e | e
  ·rw [e];exact Nat.le_succ _
  ·rw [e];exact Nat.le_refl _
 exact I1.fpOk hbs (I1.hok.fresh hbs)
theorem for_enum {K:PySem.W.Frag} {a:Addr} {xs:List V} {g:TG} {tb:TS} {D:Ends} {σ:St} {H:Hp} (Pv:Nat→St→Hp→Prop) (h0:Pv 0 σ H) (hl:∀ i σ H,i≤xs.length→Pv i σ H→SqT K H a xs)
  (hs:∀ i x σ H p,xs[i]?=some x→Pv i σ H→H p=none→g (.ref p) σ (upd H p (.tup [.int (i:Int),x])) fun σ2 H2=>tb { D with nx:=Pv (i + 1),ct:=Pv (i + 1),bk:=D.nx } σ2 H2) (hd:∀ σ H,Pv xs.length σ H→D.nx σ H) :
  ∃ W:Nat→Nat→St→Hp→Prop,(∃ m,W 0 m σ H)∧∀ i m σ H,W i m σ H→
   ((Ite K a).stop i H∧D.nx σ H)∨((Ite K a).go i H∧∃ N:St→Hp→Prop,(∀ σ' H',N σ' H'→∃ m',m' < m∧W (i + 1) m' σ' H')∧∀ x H',(Ite K a).yld i H x H'→g x σ H' fun σ2 H2=>tb { D with nx:=N,ct:=N,bk:=D.nx } σ2 H2):=by
 refine ⟨fun i m σ H=>m=xs.length - i∧i≤xs.length∧Pv i σ H,⟨xs.length,by simp,Nat.zero_le _,h0⟩,?_⟩
 rintro i m σ H ⟨rfl,hi,p⟩
 have q:=hl i σ H hi p
 by_cases hlt:i < xs.length
 ·refine .inr ⟨⟨xs,xs[i],q,by simp [hlt]⟩,Pv (i + 1),fun σ' H' p'=>⟨xs.length - (i + 1),by omega,rfl,hlt,p'⟩,fun v H' y=>?_⟩
  obtain ⟨pp,x,rfl,hn,rfl,y⟩:=y
  exact hs i x σ H pp (y xs q) p hn
 ·have e:i=xs.length:=by omega
  subst e
  exact .inl ⟨⟨xs,q,Nat.le_refl _⟩,hd σ H p⟩
end
end L2
namespace L2
open PySem PySem.Spec PyProof.Rows
end L2
namespace L2
open PySem PySem.Spec PyProof.Rows
theorem ObjOk.has {P:Program} {w:World} {H:Hp} {h:Heap} {a:Addr} {o:HO} (x:ObjOk P w H h a o):∃ u,h.get? a=some u:=by
 cases o with
 | lst xs=>obtain ⟨_,_,_,_,e⟩:=x;exact ⟨_,e⟩
 | tup xs=>obtain ⟨_,_,_,ob,e,_⟩:=x;exact ⟨_,e⟩
 | dK kvs=>obtain ⟨_,_,_,_,o,_,_,e,_⟩:=x;exact ⟨_,e⟩
 | dT kvs=>obtain ⟨_,_,_,_,o,_,_,e,_⟩:=x;exact ⟨_,e⟩
 | set S n=>obtain ⟨o,_,_,_,e,_⟩:=x;exact ⟨_,e⟩
 | ins C dx fs=>obtain ⟨_,_,_,e,_⟩:=x;exact ⟨_,e⟩
 | own y=>exact x
 | xd fs=>obtain ⟨_,⟨_,_,_,e,_⟩,_⟩:=x;exact ⟨_,e⟩
 | rng lo hi=>obtain ⟨_,_,_,e⟩:=x;exact ⟨_,e⟩
 | frz ob u=>obtain ⟨e,_⟩:=x;exact ⟨_,e⟩
 | tbl ps=>exact ⟨_,(show h.get? a=some _ from x)⟩
 | met f y=>exact ⟨_,(show h.get? a=some _ from x)⟩
 | ext φ=>obtain ⟨_,e,_⟩:=x;exact e
theorem HOk.over {P:Program} {w:World} {H:Hp} {h h' B:Heap} (ok:HOk P w H h) (t:∀ b o,H b=some o→∃ u,B.get? b=some u) (k:B.StaysIn h) (k':B.StaysIn h'):HOk P w H h':=fun b u e=>by
 refine (ok b u e).stay (fun c v hc q=>?_) (fun _ q=>q) fun _ _ q=>q
 have hc':∃ x,B.get? c=some x:=by
  rcases hc with z | z
  ·rw [z];exact t b u e
  ·exact t c _ z
 obtain ⟨x,hx⟩:=hc'
 have:=k c x hx
 rw [q] at this
 cases this
 exact k' c _ hx
end L2
namespace L2
open PySem PySem.Spec PyProof.Rows
end L2
namespace L2
open PySem PySem.Spec PyProof.Rows
structure RoomC (k:Nat) (A:Around):Prop where
 dp:A.depth + 3 * k + 5 < recursionLimit
 un:A.units + 16 * k + 200 < cLine
theorem RoomC.mono {j k:Nat} {A:Around} (r:RoomC k A) (h:j≤k):RoomC j A:=⟨by have:=r.dp;omega,by have:=r.un;omega⟩
end L2
namespace L2
open PySem PySem.Spec PyProof.Rows
end L2
namespace L2
open PySem PySem.Spec PyProof.Rows
def PTs (X:Cx) (ifs:List Expr) (t:TT):Prop :=
 ∀ (pins:List (Addr × Obj)) (s:Shared) (σ:St) (H:Hp) (Q:Bool→Hp→Prop),Inv X pins σ H s→t σ H Q→
  wpAny (model X.prog X.w) X.A (forIn ifs true fun c r=>if r=true then do let ok ← isTrue c X.env (eval c X.env);pure (ForInStep.yield ok) else pure (ForInStep.yield r)) (TP X pins σ Q) X.xe s
def tYes:TT:=fun _ H Q=>Q true H
theorem pts_nil {X:Cx}:PTs X [] tYes:=fun _ s σ H Q I h=>wpAny_tests_nil ⟨H,I,h⟩
theorem pts_one {X:Cx} {c:Expr} {t:TT} (h:PT X c t):PTs X [c] t:=fun pins s σ H Q I q=>wpAny_tests_one (h pins s σ H Q I q)
theorem J3g {prog:Program} {w:World} {A:Around} {R:Result→Shared→Prop} {s:Shared} {elt target iter:Expr} {ifs:List Expr} {scope:Scope} {pos:Pos} {it acc:Value} {env:Env} (J:Nat→Shared→Prop)
  (turn:∀ n s,J n s→wpAny (model prog w) A (pyNext it) (fun r s₁=>match r with
   | none=>R (.ok .next) s₁
   | some v=>wpAny (model prog w) A (letOwnedTupleGo target it v) (fun _ s₁'=>wpAny (model prog w) A (assign target env v) (fun _ s₂ =>
     wpAny (model prog w) A (forIn ifs true fun c r=>if r=true then do let ok ← isTrue c env (eval c env);pure (ForInStep.yield ok) else pure (ForInStep.yield r)) (fun ok s₃ =>
      if ok=true then wpAny (model prog w) A (eval elt env) (fun x s₄ =>
       wpAny (model prog w) A (call (.builtin "list.append") [acc,x]) (fun _ s₅=>∃ m,m < n∧J m s₅) (fun _ _=>False) s₄) (fun _ _=>False) s₃
      else ∃ m,m < n∧J m s₃) (fun _ _=>False) s₂) (fun _ _=>False) s₁') (fun _ _=>False) s₁) (fun _ _=>False) s)
  (n:Nat) (h:J n s):codeAny (model prog w) A (.compLoop (.ListComp elt [⟨target,iter,ifs,0⟩] scope pos) 0 it acc env) R s:=by
 refine codeAny_loop rfl J (fun n s hI=>?_) n h
 show wpAny _ _ ((compTurn (.ListComp elt [⟨target,iter,ifs,0⟩] scope pos) 0 it acc env).onRaise (fun x=>do noteFrame x env;theTreesLotGoes x)) _ _ s
 refine wpAny_noted ?_
 rw [compTurn_list]
 refine wpAny_bind (wpAny_standAt (wpAny_bind (wpAny_mono (turn n s hI) (fun r s₁ h₁=>?_) fun _ _ h'=>False.elim h')))
 cases r with
 | none=>exact wpAny_pure h₁
 | some v =>
  refine wpAny_bind (wpAny_mono h₁ (fun _ s₁' h₁'=>?_) fun _ _ h'=>False.elim h')
  refine wpAny_bind (wpAny_mono h₁' (fun _ s₂ h₂=>wpAny_bind (wpAny_mono h₂ (fun ok s₃ h₃=>?_) fun _ _ h'=>False.elim h')) fun _ _ h'=>False.elim h')
  cases ok with
  | false=>exact wpAny_pure ⟨rfl,h₃⟩
  | true =>
   exact wpAny_bind (wpAny_bind (wpAny_mono h₃ (fun x s₄ h₄=>wpAny_bind (wpAny_mono h₄ (fun _ s₅ h₅=>wpAny_pure (wpAny_pure ⟨rfl,h₅⟩)) fun _ _ h'=>False.elim h')) fun _ _ h'=>False.elim h'))
def LCW (J:It) (tc:TT) (te:TE) (σ:St) (js:List Nat) (Q:VK) (H1:Hp) (d:Addr):Prop:=∃ W:Nat→Nat→List V→Hp→Prop,(∃ m,W 0 m [] (upd H1 d (.lst [])))∧
 ∀ i m ys H2,W i m ys H2→H2 d=some (.lst ys)∧((J.stop i H2∧Q (.ref d) H2)∨(J.go i H2∧ys.length < sizeLine∧∀ v H3,J.yld i H2 v H3→
  tc (some v :: capv σ js) H3 fun b H4=>if b=true then te (some v :: capv σ js) H4 fun y H5=>H5 d=some (.lst ys)∧∃ m',m' < m∧W (i + 1) m' (ys ++ [y]) (upd H5 d (.lst (ys ++ [y])))
   else ∃ m',m' < m∧W (i + 1) m' ys H4))
def tLC (wi:TI) (tc:TT) (te:TE) (js:List Nat):TE:=fun σ H Q=>wi σ H fun J H1=>∀ d,H1 d=none→LCW J tc te σ js Q H1 d
section
variable {X:Cx} {elt iter:Expr} {ifs:List Expr} {x y:Str} {px py:Pos} {scope:Scope} {cl:List (Str × Addr)} {pos spos:Pos} {wi:TI} {tc:TT} {te:TE} {caps:List Str} {js:List Nat} {i:Nat}
theorem comp_core {p0:Pos} {use:Option (Value→Sem Unit)} {QV:Value→Shared→Prop} {Q:VK} {pins:List (Addr × Obj)} {s:Shared} {σ:St} {H:Hp} (hc:X.calm=true) (hp:PI X (.Name x px) iter wi)
  (he:∀ (C:Addr) (fp:List Addr) (s:Shared) (H:Hp),PE (X.block (x :: caps) scope cl C fp s H) elt te)
  (ht:∀ (C:Addr) (fp:List Addr) (s:Shared) (H:Hp),PTs (X.block (x :: caps) scope cl C fp s H) ifs tc)
  (hcell:∀ p∈scope.names,p.2≠.cell) (hnames:∀ p∈scope.names,p.2=.local→scope.names.lookup p.1=some .local) (hnd:(x :: caps).Nodup)
  (hsub:∀ p∈cl,X.env.cells.lookup p.1=some p.2) (hhas:∀ p∈scope.names,p.2=.free→∃ c,cl.lookup p.1=some c) (hlen:caps.length=js.length)
  (hcaps:∀ (k:Nat) (c:Str),caps[k]?=some c→∃ (j:Nat) (a:Addr),js[k]?=some j∧X.N[j]?=some c∧X.env.scope.names.lookup c=some .cell∧cl.lookup c=some a∧(relabel scope X.env).names.lookup c=some .cell)
  (hclos:closureFor scope X.env=pure cl) (hkind:scope.kind=.function) (hx:scope.names.lookup x=some .local) (hs:∀ v,foldedSetIterable iter X.env v=pure v)
  (I:Inv X pins σ H s) (h:tLC wi tc te js σ H Q)
  (fin:∀ (d:Addr) (H':Hp) (s5:Shared) (C:Addr),Inv X pins σ H' s5→Q (.ref d) H'→(∃ m,s5.heap.Ns C m)→FpOk X pins H' C→compPost (model X.prog X.w) X.A X.xe use QV (.ref d) C (.ok .next) s5) :
  wpAny (model X.prog X.w) X.A (comprehension (.ListComp elt [⟨.Name x px,iter,ifs,0⟩] scope pos) scope X.env p0 (newList []) false (eval iter X.env) use) QV X.xe s:=by
 refine wpAny_comprehension_free (cl:=cl) (use:=use) (Q:=QV) rfl hs hclos hkind hnames (thn (hp pins s σ H _ I h) fun v s1 h1=>thn h1 fun itv s2 h2=>?_)
 obtain ⟨it,fp,tn,J,H2,e,I2,T,st2,f2,h3⟩:=h2
 subst e
 have hfr:H2 s2.heap.objs.size=none:=I2.hok.fresh (Nat.le_refl _)
 obtain ⟨W,⟨m0,w0⟩,hW⟩:=h3 s2.heap.objs.size hfr
 refine wpAny_newObj_type (wpAny_newFunctionEnv hcell (by intro y hy;simp at hy) (fun h₁ hns₁ hsb₁=>?_) hkind)
 dsimp only at hns₁ hsb₁ ⊢
 generalize hH2:s2.heap.push { cls:=.type "list",dict:=none,data:=.seq ([]:List Value).toArray }=G at hns₁ hsb₁ ⊢
 have hC:G.objs.size=s2.heap.objs.size + 1:=by rw [← hH2,Heap.size_push]
 have hDC:s2.heap.objs.size≠G.objs.size:=by rw [hC];exact Nat.ne_of_lt (Nat.lt_succ_self _)
 have hCle:s2.heap.objs.size≤G.objs.size:=by rw [hC];exact Nat.le_succ _
 have old:∀ b o,s2.heap.get? b=some o→h₁.get? b=some o:=fun b o e=>hsb₁.extBut b o (by rw [hC];exact Nat.ne_of_lt (Nat.lt_succ_of_lt (Heap.lt_size e))) (Heap.get?_push_of_some _ (hH2 ▸ Heap.get?_push_of_some _ e))
 have hacc:h₁.get? s2.heap.objs.size=some { cls:=.type "list",dict:=none,data:=.seq ([]:List Value).toArray }:=hsb₁.extBut _ _ hDC (Heap.get?_push_of_some _ (hH2 ▸ Heap.get?_push_size _ rfl))
 have fl:∀ b∈fp,b < s2.heap.objs.size:=fun b hb=>by
  obtain ⟨o,e,_⟩:=T.obj _ _ st2 b hb
  exact Heap.lt_size e
 have hDf:s2.heap.objs.size ∉ fp:=fun hm=>Nat.lt_irrefl _ (fl _ hm)
 have hok1:HOk X.prog X.w (upd H2 s2.heap.objs.size (.lst [])) h₁:=I2.hok.laid old (Nat.le_refl _) ⟨Nat.zero_le _,[],0,.nil,hacc⟩
 have IY0:∀ tk,Inv (X.block (x :: caps) scope cl G.objs.size fp s2 H2) [] (none :: capv σ js) (upd H2 s2.heap.objs.size (.lst [])) { s2 with heap:=h₁,toks:=tk }:=fun tk=>by
  refine ⟨J6l I2 hCle f2 fl hkind hcell hsub hhas,rfl,I2.bare,Un.laid old (Nat.le_refl _) hfr,⟨_,hns₁,fun k z v e1 e2 e3=>?_⟩,fun z c e=>?_,?_,fun z c e=>?_,fun p hp=>absurd hp (by simp),hok1,?_⟩
  ·cases k with
   | zero=>simp at e2
   | succ k =>
    have e1':caps[k]?=some z:=by simpa using e1
    have e2':(capv σ js)[k]?=some (some v):=by simpa using e2
    obtain ⟨j,a,q1,q2,q3,q4,q5⟩:=hcaps k z e1'
    obtain ⟨j',r1,r2⟩:=capv_get e2'
    rw [q1] at r1;cases r1
    obtain ⟨m,hm,hl⟩:=I2.loc
    obtain ⟨u,ru,lu⟩:=hl j z v q2 r2 (.inr (.inl q3))
    refine ⟨u,ru,.inr ⟨.inl q5,a,q4,?_⟩⟩
    rcases lu with ⟨k1,_⟩ | ⟨_,c,ec,o,ho,hd⟩
    ·have k1':X.env.scope.names.lookup z=some .local:=k1
     rw [q3] at k1';cases k1'
    ·have:=hsub _ (PySem.mem_of_lookup q4)
     rw [ec] at this;cases this
     exact ⟨o,old _ _ ho,hd⟩
  ·obtain ⟨v,o,ho,hd⟩:=I2.cell z c (hsub _ (PySem.mem_of_lookup e))
   exact ⟨v,o,old _ _ ho,hd⟩
  ·show upd H2 s2.heap.objs.size (.lst []) G.objs.size=none
   rw [Jc hDC.symm]
   exact I2.hok.fresh hCle
  ·have ec:=hsub _ (PySem.mem_of_lookup e)
   obtain ⟨v,o,ho,hd⟩:=I2.cell z c ec
   rw [Jc (Nat.ne_of_lt (Heap.lt_size ho))]
   exact I2.freeC z c ec
  ·show (none :: capv σ js).length=(x :: caps).length
   unfold capv
   simp [hlen]
 have stat:∀ {H':Hp},(∀ b∈fp,H' b=none)→∀ b∈fp,FpOk (X.block (x :: caps) scope cl G.objs.size fp s2 H2) [] H' b:=fun hn b hb =>
  ⟨hn b hb,Nat.ne_of_lt (Nat.lt_of_lt_of_le (fl b hb) hCle),(J6l (x:=x) (caps:=caps) I2 hCle f2 fl hkind hcell hsub hhas).exfs b hb,.inl hb,fun z c e=>(f2 b hb).2.2.2.2.1 z c (hsub _ (PySem.mem_of_lookup e)),fun p hp=>absurd hp (by simp)⟩
 have hxl:(relabel scope X.env).names.lookup x=some .local:=lookup_relabel_local hx
 have loop:∀ tk,codeAny (model X.prog X.w) X.A (.compLoop (.ListComp elt [⟨.Name x px,iter,ifs,0⟩] scope pos) 0 (.ref it) (.ref s2.heap.objs.size) (compEnvC scope cl G.objs.size X.env))
   (compPost (model X.prog X.w) X.A X.xe use QV (.ref s2.heap.objs.size) G.objs.size) { s2 with heap:=h₁,toks:=tk }:=fun tk=>by
  refine J3g (fun m s'=>∃ (k:Nat) (o:Option V) (ys:List V) (H':Hp),Inv (X.block (x :: caps) scope cl G.objs.size fp s2 H2) [] (o :: capv σ js) H' s'∧tn k s'.heap∧(∀ b∈fp,H' b=none)∧W k m ys H') ?_ m0
   ⟨0,none,[],_,IY0 tk,T.keep _ _ _ st2 fun b hb o e=>old b o e,fun b hb=>by
    rw [Jc (show b≠s2.heap.objs.size from fun e=>hDf (by rw [← e];exact hb))]
    exact (f2 b hb).1,w0⟩
  rintro m s3 ⟨k,o,ys,H',I3,st3,fr3,w3⟩
  obtain ⟨hd,hW3⟩:=hW k m ys H' w3
  rcases hW3 with ⟨stop,q⟩ | ⟨go,hz,step⟩
  ·refine thn (T.done (X.block (x :: caps) scope cl G.objs.size fp s2 H2) rfl rfl rfl hc k [] s3 _ _ (fun _ _=>False) I3 (stat fr3) st3 stop) fun r s4 ⟨hr,I4⟩=>?_
   subst hr
   have J5:Inv X pins σ H' s4:=I2.call' (ch:=fp) I4.os I4.base I4.hok I4.bare fun b hb=>⟨(f2 b hb).2.2.2.1,(f2 b hb).2.1,(f2 b hb).2.2.2.2.1,(f2 b hb).2.2.2.2.2⟩
   exact fin _ H' s4 _ J5 q (let ⟨m,q,_⟩:=I4.loc;⟨m,q⟩) (I2.fpOk hCle I4.free)
  ·refine thn (T.item (X.block (x :: caps) scope cl G.objs.size fp s2 H2) rfl rfl rfl hc k [] s3 _ _ (fun _ _=>False) I3 (stat fr3) st3 go) fun r s4 ⟨u,hr,h4⟩=>?_
   subst hr
   refine thn h4 fun _ s5 ⟨v,H5,I5,r5,y5,st5,fr5⟩=>?_
   have I5':=I5.pinned (stat fr5) (T.obj _ _ st5)
   have stp:=step v H5 y5
   refine thn (J2l (X:=X.block (x :: caps) scope cl G.objs.size fp s2 H2) (i:=0) (pos:=px) hnd rfl (.inl hxl) (.inr hxl) _ s5 _ _ _ u
    (fun σ' H'=>σ'=some v :: capv σ js∧H'=H5) I5' r5 ⟨rfl,rfl⟩) fun _ s6 ⟨σ6,H6,I6,q6⟩=>?_
   obtain ⟨rfl,rfl⟩:=q6
   refine thn (ht _ _ _ _ _ s6 _ _ _ I6 stp) fun ok s7 ⟨H7,I7,q7⟩=>?_
   have back:∀ {s8:Shared} {H8:Hp} {o8:Option V} {ys8:List V} {m':Nat},Inv (X.block (x :: caps) scope cl G.objs.size fp s2 H2) ([] ++ pinsAt fp s5.heap) (o8 :: capv σ js) H8 s8→m' < m→W (k + 1) m' ys8 H8→
     ∃ m',m' < m∧∃ (k:Nat) (o:Option V) (ys:List V) (H':Hp),Inv (X.block (x :: caps) scope cl G.objs.size fp s2 H2) [] (o :: capv σ js) H' s8∧tn k s8.heap∧(∀ b∈fp,H' b=none)∧W k m' ys H':=fun {s8 H8 o8 ys8 m'} I8 hm w8=>by
    refine ⟨m',hm,k + 1,o8,ys8,H8,I8.unpinned,T.keep _ _ _ st5 fun b hb o e=>(I8.pin (b,o) (List.mem_append_right _ (List.mem_append_right _ (J2p hb e)))).1,fun b hb=>?_,w8⟩
    obtain ⟨o,e,d⟩:=T.obj _ _ st5 b hb
    exact (I8.pin (b,o) (List.mem_append_right _ (List.mem_append_right _ (J2p hb e)))).2.1
   cases ok with
   | false =>
    have q7':∃ m',m' < m∧W (k + 1) m' ys H7:=by
     have:=q7
     rwa [if_neg (by decide)] at this
    obtain ⟨m',hm,w8⟩:=q7'
    exact back I7 hm w8
   | true =>
    have q7':te (some v :: capv σ js) H7 fun y H5=>H5 s2.heap.objs.size=some (.lst ys)∧∃ m',m' < m∧W (k + 1) m' (ys ++ [y]) (upd H5 s2.heap.objs.size (.lst (ys ++ [y]))):=by
     have:=q7
     rwa [if_pos rfl] at this
    refine (show wpAny _ _ _ _ _ _ from thn (he _ _ _ _ _ s7 _ _ _ I7 q7') fun u8 s8 ⟨v8,H8,I8,r8,hd8,m',hm,w8⟩=>?_)
    refine thn (J1t (X:=X.block (x :: caps) scope cl G.objs.size fp s2 H2) _ s8 _ _ (.ref s2.heap.objs.size) [v8] (.ref s2.heap.objs.size) [u8]
     (fun _ H'=>H'=upd H8 s2.heap.objs.size (.lst (ys ++ [v8]))) I8 rfl (.cons r8 .nil) ⟨s2.heap.objs.size,_,v8,rfl,rfl,hd8,hz,rfl⟩) fun _ s9 ⟨_,H9,I9,_,q9⟩=>?_
    subst q9
    exact back I9 hm w8
 have st1:tn 0 h₁:=T.keep _ _ _ st2 fun b hb o e=>old b o e
 exact codeAny_compStart_list (loop _) (T.self X.A 0 _ _ _ st1 (loop _))
def capsOk (X:Cx) (scope:Scope) (cl:List (Str × Addr)) (caps:List Str) (js:List Nat):Bool :=
 (caps.zip js).all fun q=>X.N[q.2]? == some q.1 && X.env.scope.names.lookup q.1 == some .cell && (cl.lookup q.1).isSome && (relabel scope X.env).names.lookup q.1 == some .cell
theorem capsOk.get (hlen:caps.length=js.length) (h:capsOk X scope cl caps js=true):∀ (k:Nat) (c:Str),caps[k]?=some c→∃ (j:Nat) (a:Addr),js[k]?=some j∧X.N[j]?=some c∧X.env.scope.names.lookup c=some .cell∧cl.lookup c=some a∧(relabel scope X.env).names.lookup c=some .cell:=fun k c hk=>by
 have hkl:k < caps.length:=(List.getElem?_eq_some_iff.mp hk).1
 have hj:js[k]?=some (js[k]'(hlen ▸ hkl)):=List.getElem?_eq_getElem (hlen ▸ hkl)
 have hm:(c,js[k]'(hlen ▸ hkl))∈caps.zip js:=by
  refine List.mem_iff_getElem?.mpr ⟨k,?_⟩
  rw [List.getElem?_zip_eq_some]
  exact ⟨hk,hj⟩
 have:=List.all_eq_true.mp h _ hm
 simp only [Bool.and_eq_true,beq_iff_eq] at this
 obtain ⟨⟨⟨q1,q2⟩,q3⟩,q4⟩:=this
 obtain ⟨a,ha⟩:=Option.isSome_iff_exists.mp q3
 exact ⟨_,a,hj,q1,q2,ha,q4⟩
def freeOk (scope:Scope) (cl:List (Str × Addr)):Bool:=scope.names.all fun p=>p.2 != .free || (cl.lookup p.1).isSome
theorem freeOk.get (h:freeOk scope cl=true):∀ p∈scope.names,p.2=.free→∃ c,cl.lookup p.1=some c:=fun p hp' e=>by
 have:=List.all_eq_true.mp h p hp'
 rw [e] at this
 exact Option.isSome_iff_exists.mp (by simpa using this)
theorem pe_lc (hc:X.calm=true) (hp:PI X (.Name x px) iter wi) (hclos:closureFor scope X.env=pure cl)
  (ht:∀ (C:Addr) (fp:List Addr) (s:Shared) (H:Hp),PTs (X.block (x :: caps) scope cl C fp s H) ifs tc)
  (he:∀ (C:Addr) (fp:List Addr) (s:Shared) (H:Hp),PE (X.block (x :: caps) scope cl C fp s H) elt te)
  (hcell:∀ p∈scope.names,p.2≠.cell) (hnames:∀ p∈scope.names,p.2=.local→scope.names.lookup p.1=some .local) (hnd:(x :: caps).Nodup)
  (hsub:∀ p∈cl,X.env.cells.lookup p.1=some p.2)
  (hhas:freeOk scope cl=true:=by rfl) (hlen:caps.length=js.length:=by rfl) (hcaps:capsOk X scope cl caps js=true:=by rfl)
  (hkind:scope.kind=.function:=by rfl) (hx:scope.names.lookup x=some .local:=by rfl) (hs:∀ v,foldedSetIterable iter X.env v=pure v:=by intro _;rfl) :
  PE X (.ListComp elt [⟨.Name x px,iter,ifs,0⟩] scope pos) (tLC wi tc te js):=by
 intro pins s σ H Q I h
 rw [eval_ListComp]
 refine comp_core (use:=none) hc hp he ht hcell hnames hnd hsub (freeOk.get hhas) hlen (capsOk.get hlen hcaps) hclos hkind hx hs I h fun d H' s5 C J5 q hC fp=>?_
 obtain ⟨m,nsC⟩:=hC
 exact ⟨m,nsC,fun h' hs'=>⟨.ref d,H',J5.turned (h':=h') (t':=s5.toks) (it:=C) (fun b o hb e=>(hs'.2 b hb).trans e) fp.1 fp.2.1 fp.2.2.2.1 fp.2.2.2.2.1 fp.2.2.2.2.2,rfl,q⟩⟩
def tSetLC (t:TE) (i:Nat):TS:=fun D σ H=>t σ H fun v H'=>D.nx (σ.set i (some v)) H'
theorem ps_lc (hN:X.N.Nodup) (hi:X.N[i]?=some y) (hy:Loc X.env.scope y) (hc:X.calm=true) (hp:PI X (.Name x px) iter wi) (hclos:closureFor scope X.env=pure cl)
  (ht:∀ (C:Addr) (fp:List Addr) (s:Shared) (H:Hp),PTs (X.block (x :: caps) scope cl C fp s H) ifs tc)
  (he:∀ (C:Addr) (fp:List Addr) (s:Shared) (H:Hp),PE (X.block (x :: caps) scope cl C fp s H) elt te)
  (hcell:∀ p∈scope.names,p.2≠.cell) (hnames:∀ p∈scope.names,p.2=.local→scope.names.lookup p.1=some .local) (hnd:(x :: caps).Nodup)
  (hsub:∀ p∈cl,X.env.cells.lookup p.1=some p.2)
  (hhas:freeOk scope cl=true:=by rfl) (hlen:caps.length=js.length:=by rfl) (hcaps:capsOk X scope cl caps js=true:=by rfl)
  (hf:X.fn y=true∨X.env.scope.names.lookup y=some .local:=by first | exact .inl rfl | exact .inr rfl | assumption)
  (hsw:swapsWith (.ListComp elt [⟨.Name x px,iter,ifs,0⟩] scope pos) (some (.Name y py)) spos.line X.env=pure true:=by rfl)
  (hkind:scope.kind=.function:=by rfl) (hx:scope.names.lookup x=some .local:=by rfl) (hs:∀ v,foldedSetIterable iter X.env v=pure v:=by intro _;rfl) :
  PS X (.Assign [.Name y py] (.ListComp elt [⟨.Name x px,iter,ifs,0⟩] scope pos) spos) (tSetLC (tLC wi tc te js) i):=by
 intro pins s σ H D I h
 rw [exec_Assign_Name_used _ _ _ _ hsw]
 refine wpAny_bind (wpAny_standAt (wpAny_bind ?_))
 show wpAny _ X.A (do let _ ← comprehension (.ListComp elt [⟨.Name x px,iter,ifs,0⟩] scope pos) scope X.env _ (newList []) false (eval iter X.env) (some (assign (.Name y py) X.env))) _ _ s
 refine wpAny_bind (wpAny_mono (comp_core (use:=some (assign (.Name y py) X.env)) (QV:=fun _ s'=>SP X pins D .next s') hc hp he ht hcell hnames hnd hsub (freeOk.get hhas) hlen (capsOk.get hlen hcaps) hclos hkind hx hs I h fun d H' s5 C J5 q hC fp=>?_)
  (fun _ s' hq=>wpAny_pure (wpAny_pure hq)) fun _ _ e=>e)
 obtain ⟨mC,nsC⟩:=hC
 show wpAny _ X.A (assign (.Name y py) X.env (.ref d)) _ _ s5
 refine wpAny_assign_Name ?_
 refine J5y J5 hN hi hy (v:=.ref d) rfl (fun s6 I6 keep6=>?_) hf
 obtain ⟨a,sa,ha⟩:=keep6
 have aC:a≠C:=by
  rcases ha with e | e
  ·rw [e];exact Ne.symm fp.2.1
  ·exact fp.2.2.2.2.1 y a e
 exact ⟨mC,nsC.sameBut sa (Ne.symm aC),fun h' hs'=>⟨_,H',I6.turned (h':=h') (t':=s6.toks) (it:=C) (fun b o hb e=>(hs'.2 b hb).trans e) fp.1 fp.2.1 fp.2.2.2.1 fp.2.2.2.2.1 fp.2.2.2.2.2,q⟩⟩
end
theorem lc_over {J:It} {H1:Hp} {tc:TT} {te:TE} {σ:St} {js:List Nat} {Q:VK} {d:Addr} (n:Nat) (g:Nat→Bool) (f:Nat→V) (hd:H1 d=none) (hn:n≤1000)
  (hgo:∀ i H,i < n→Same H1 H→J.go i H) (hst:∀ H,Same H1 H→J.stop n H) (vv:Nat→V) (hy:∀ i H v H',i < n→Same H1 H→J.yld i H v H'→H'=H∧v=vv i)
  (hs:∀ i H Qt,i < n→Same H1 H→(∀ H',Same H H'→Qt (g i) H')→tc (some (vv i) :: capv σ js) H Qt)
  (he:∀ i H Qe,i < n→g i=true→Same H1 H→(∀ H',Same H H'→Qe (f i) H')→te (some (vv i) :: capv σ js) H Qe)
  (hq:∀ H',Same H1 H'→H' d=some (.lst (((List.range n).filter g).map f))→Q (.ref d) H') :
  ∃ W:Nat→Nat→List V→Hp→Prop,(∃ m,W 0 m [] (upd H1 d (.lst [])))∧
   ∀ i m ys H2,W i m ys H2→H2 d=some (.lst ys)∧((J.stop i H2∧Q (.ref d) H2)∨(J.go i H2∧ys.length < sizeLine∧∀ v H3,J.yld i H2 v H3→
    tc (some v :: capv σ js) H3 fun b H4=>if b=true then te (some v :: capv σ js) H4 fun y H5=>H5 d=some (.lst ys)∧∃ m',m' < m∧W (i + 1) m' (ys ++ [y]) (upd H5 d (.lst (ys ++ [y])))
     else ∃ m',m' < m∧W (i + 1) m' ys H4)):=by
 have s0:∀ o,Same H1 (upd H1 d o):=fun o b u e=>by rw [Jc (Ja e hd)];exact e
 refine ⟨fun i m ys H=>m=n - i∧i≤n∧ys=((List.range i).filter g).map f∧Same H1 H∧H d=some (.lst ys),⟨n,rfl,Nat.zero_le _,rfl,s0 _,J4⟩,?_⟩
 rintro i m ys H2 ⟨rfl,hi,rfl,sm,h2⟩
 refine ⟨h2,?_⟩
 by_cases hlt:i < n
 ·refine .inr ⟨hgo i H2 hlt sm,?_,fun v H3 y3=>?_⟩
  ·have h1:(((List.range i).filter g).map f).length≤i:=by
    rw [List.length_map]
    exact Nat.le_trans (List.length_filter_le _ _) (by rw [List.length_range];exact Nat.le_refl _)
   exact J11 (by omega)
  ·obtain ⟨rfl,rfl⟩:=hy i H2 v H3 hlt sm y3
   refine hs i H3 _ hlt sm fun H4 s4=>?_
   cases hg:g i with
   | false =>
    rw [if_neg (by decide)]
    refine ⟨n - (i + 1),by omega,rfl,hlt,?_,sm.trans s4,s4 _ _ h2⟩
    rw [List.range_succ,List.filter_append,List.map_append]
    simp [hg]
   | true =>
    rw [if_pos rfl]
    refine he i H4 _ hlt hg (sm.trans s4) fun H5 s5=>⟨s5 _ _ (s4 _ _ h2),n - (i + 1),by omega,rfl,hlt,?_,?_,J4⟩
    ·rw [List.range_succ,List.filter_append,List.map_append]
     simp [hg]
    ·intro b u e
     rw [Jc (Ja e hd)]
     exact s5 _ _ (s4 _ _ (sm _ _ e))
 ·have e:i=n:=by omega
  subst e
  exact .inl ⟨hst H2 sm,hq H2 sm h2⟩
theorem Same.tup {K:PySem.W.Frag} {H H':Hp} {a:Addr} {xs:List V} (e:Same H H') (h:SqT K H a xs):SqT K H' a xs:=by
 rcases h with (h | ⟨o,h⟩) | h
 ·exact .inl (.inl (e _ _ h))
 ·exact .inl (.inr ⟨o,e _ _ h⟩)
 ·exact .inr h
theorem pick_all {α:Type} (G:α→Bool) (F:α→V):∀ xs:List α,
  ((List.range xs.length).filter fun i=>match xs[i]? with | some v=>G v | none=>false).map (fun i=>match xs[i]? with | some v=>F v | none=>V.non)=(xs.filter G).map F
 | []=>rfl
 | a :: r=>by
  have ih:=pick_all G F r
  rw [List.length_cons,List.range_succ_eq_map,List.filter_cons,List.filter_map,List.filter_cons]
  have e:(fun i=>match (a :: r)[i]? with | some v=>G v | none=>false) ∘ Nat.succ=fun i=>match r[i]? with | some v=>G v | none=>false:=by
   funext i;simp
  have e2:(fun i=>match (a :: r)[i]? with | some v=>F v | none=>V.non) ∘ Nat.succ=fun i=>match r[i]? with | some v=>F v | none=>V.non:=by
   funext i;simp
  rw [e]
  cases hg:G a with
  | true =>
   simp only [List.getElem?_cons_zero,hg,if_true,List.map_cons,List.map_map]
   rw [e2,ih]
  | false =>
   simp only [List.getElem?_cons_zero,hg,Bool.false_eq_true,if_false,List.map_map]
   rw [e2,ih]
section
variable {α:Type} {K:PySem.W.Frag} {a:Addr} {H1:Hp} {tc:TT} {te:TE} {σ:St} {js:List Nat} {Q:VK} {d:Addr}
theorem lc_seq {J:It} (e:α→V) (xs:List α) (G:α→Bool) (F:α→V) (hn:xs.length≤1000) (hd:H1 d=none)
  (hgo:∀ i H,i < xs.length→Same H1 H→J.go i H) (hst:∀ H,Same H1 H→J.stop xs.length H) (hy:∀ i H v H',i < xs.length→Same H1 H→J.yld i H v H'→H'=H∧(xs.map e)[i]?=some v)
  (hs:∀ v∈xs,∀ H Qt,Same H1 H→(∀ H',Same H H'→Qt (G v) H')→tc (some (e v) :: capv σ js) H Qt)
  (he:∀ v∈xs,∀ H Qe,G v=true→Same H1 H→(∀ H',Same H H'→Qe (F v) H')→te (some (e v) :: capv σ js) H Qe)
  (hq:∀ H',Same H1 H'→H' d=some (.lst ((xs.filter G).map F))→Q (.ref d) H'):LCW J tc te σ js Q H1 d:=by
 have at_:∀ i,i < xs.length→∃ v,xs[i]?=some v∧v∈xs:=fun i hi=>⟨_,List.getElem?_eq_getElem hi,List.getElem_mem hi⟩
 refine lc_over xs.length (fun i=>match xs[i]? with | some v=>G v | none=>false) (fun i=>match xs[i]? with | some v=>F v | none=>V.non) hd hn hgo hst (fun i=>((xs.map e)[i]?).getD .non)
  (fun i H v H' hi s y=>?_) (fun i H Qt hi s k=>?_) (fun i H Qe hi hg s k=>?_) (fun H' s h=>?_)
 ·obtain ⟨e1,e2⟩:=hy i H v H' hi s y
  exact ⟨e1,by rw [e2];rfl⟩
 ·obtain ⟨v,e1,hv⟩:=at_ i hi
  rw [List.getElem?_map,e1]
  refine hs v hv H Qt s fun H' s'=>?_
  have:=k H' s'
  rw [e1] at this
  exact this
 ·obtain ⟨v,e1,hv⟩:=at_ i hi
  rw [e1] at hg
  rw [List.getElem?_map,e1]
  refine he v hv H Qe hg s fun H' s'=>?_
  have:=k H' s'
  rw [e1] at this
  exact this
 ·rw [pick_all] at h
  exact hq H' s h
theorem lc_tup (e:α→V) (xs:List α) (G:α→Bool) (F:α→V) (hx:SqT K H1 a (xs.map e)) (hn:xs.length≤1000) (hd:H1 d=none)
  (hs:∀ v∈xs,∀ H Qt,Same H1 H→(∀ H',Same H H'→Qt (G v) H')→tc (some (e v) :: capv σ js) H Qt)
  (he:∀ v∈xs,∀ H Qe,G v=true→Same H1 H→(∀ H',Same H H'→Qe (F v) H')→te (some (e v) :: capv σ js) H Qe)
  (hq:∀ H',Same H1 H'→H' d=some (.lst ((xs.filter G).map F))→Q (.ref d) H'):LCW (Itt K a) tc te σ js Q H1 d :=
 lc_seq e xs G F hn hd (fun i H hi s=>⟨_,_,s.tup hx,by rw [List.getElem?_map,List.getElem?_eq_getElem hi];rfl⟩) (fun H s=>⟨_,s.tup hx,by rw [List.length_map];exact Nat.le_refl _⟩)
  (fun i H v H' hi s y=>⟨y.1,y.2 _ (s.tup hx)⟩) hs he hq
theorem lc_lst (e:α→V) (xs:List α) (G:α→Bool) (F:α→V) (hx:SqL K H1 a (xs.map e)) (hn:xs.length≤1000) (hd:H1 d=none)
  (hs:∀ v∈xs,∀ H Qt,Same H1 H→(∀ H',Same H H'→Qt (G v) H')→tc (some (e v) :: capv σ js) H Qt)
  (he:∀ v∈xs,∀ H Qe,G v=true→Same H1 H→(∀ H',Same H H'→Qe (F v) H')→te (some (e v) :: capv σ js) H Qe)
  (hq:∀ H',Same H1 H'→H' d=some (.lst ((xs.filter G).map F))→Q (.ref d) H'):LCW (Itl K a) tc te σ js Q H1 d :=
 lc_seq e xs G F hn hd (fun i H hi s=>⟨_,_,s.seq hx,by rw [List.getElem?_map,List.getElem?_eq_getElem hi];rfl⟩) (fun H s=>⟨_,s.seq hx,by rw [List.length_map];exact Nat.le_refl _⟩)
  (fun i H v H' hi s y=>⟨y.1,y.2 _ (s.seq hx)⟩) hs he hq
theorem lc_rng (lo:Int) (n:Nat) (G:Nat→Bool) (F:Nat→V) (hn:n≤1000) (hd:H1 d=none)
  (hs:∀ i,i < n→∀ H Qt,Same H1 H→(∀ H',Same H H'→Qt (G i) H')→tc (some (.int (lo + i)) :: capv σ js) H Qt)
  (he:∀ i,i < n→∀ H Qe,G i=true→Same H1 H→(∀ H',Same H H'→Qe (F i) H')→te (some (.int (lo + i)) :: capv σ js) H Qe)
  (hq:∀ H',Same H1 H'→H' d=some (.lst (((List.range n).filter G).map F))→Q (.ref d) H'):LCW (Itr lo n) tc te σ js Q H1 d :=
 lc_over n G F hd hn (fun i H hi _=>hi) (fun H _=>Nat.le_refl _) (fun i=>.int (lo + i)) (fun i H v H' hi _ y=>y) (fun i H Qt hi s k=>hs i hi H Qt s k) (fun i H Qe hi hg s k=>he i hi H Qe hg s k) hq
end
theorem J3q {α:Type} (xs:List α):xs.filter (fun _=>true)=xs:=List.filter_eq_self.mpr fun _ _=>rfl
theorem pe_ixr {X:Cx} {a b:Expr} {pos:Pos} {ta tb:TE} {r:R2} (hr:IxR X r) (ha:PE X a ta) (hb:PE X b tb) (hs:PlainIx b:=by intro _ _;rfl):PE X (.Subscript a b pos) (tOp r ta tb):=pe_ix hr ha hb hs
end L2
namespace L2
open PySem PySem.Spec PyProof.Rows
section
variable {X:Cx}
def CBig (i j:Int):Prop:=i.natAbs < 2 ^ 4000∧j.natAbs < 2 ^ 4000
theorem bits_big {k:Int} (h:k.natAbs < 2 ^ 4000):Builtin.Int.intBits k≤2 ^ 20:=by
 unfold Builtin.Int.intBits
 split
 ·exact Nat.zero_le _
 ·have:k.natAbs.log2 < 4000:=by
   rcases Nat.eq_zero_or_pos k.natAbs with h0 | hp
   ·rw [h0];decide
   ·exact (Nat.log2_lt (Nat.ne_of_gt hp)).mpr h
  have h2:(4001:Nat)≤2 ^ 20:=by decide
  omega
theorem J6y:OpR X (binaryOp .Mult) (rI CBig fun i j=>.int (i * j)):=opI fun _ _ _ _ _ _ _ hc q=>mul_int q (.of_bits (bits_big hc.1) (bits_big hc.2))
def CDivB (i j:Int):Prop:=0 < j∧j.natAbs < 2 ^ 4000
theorem op_fdivB:OpR X (binaryOp .FloorDiv) (rI CDivB fun i j=>.int (i / j)):=opI fun i j _ _ _ _ _ hc q=>by
 have h1:(0:Int) < j:=hc.1
 have h2:=hc.2
 refine floordiv_int (by omega) (by rw [Int.fdiv_eq_ediv_of_nonneg i (by omega)];exact q) (.inl (PyProof.noPylong_of_log2 ?_))
 have h0:j.natAbs≠0:=by omega
 have:=(Nat.log2_lt h0).mpr h2
 omega
def rIndexL (K:PySem.W.Frag):V→List V→Hp→VK→Prop:=fun x vs H Q=>∃ (l:Addr) (ns:List Int) (k:Int),x=.ref l∧vs=[.int k]∧SqL K H l (ns.map V.int)∧k∈ns∧Q (.int (ns.idxOf k:Nat)) H
theorem J35:MtM X "list.index" (rIndexL X.K):=by
 intro pins s σ H x vs v us Q I rx rv h
 obtain ⟨l,ns,k,rfl,rfl,hH,hk,q⟩:=h
 cases rx
 obtain ⟨u1,rfl,⟨t,rfl⟩⟩:=rv.one
 obtain ⟨its,r',pl,hz⟩:=I.list hH
 have hi:=J1v r'
 have hlen:=hi.length
 obtain ⟨⟨cls,dd,data,sl⟩,ho,hc,n,hd⟩:=id pl.isList
 simp only at hc hd
 subst hc hd
 have hj:ns.idxOf k < ns.length:=List.idxOf_lt_length_iff.mpr hk
 have h63:=J71
 rw [List.length_map] at hz
 refine call_meets PySem.F.slot_list_index ⟨_,ho,rfl⟩ PySem.F.entry_list_index (PySem.F.args_list_index_2 _ _)
  (SeqAt.list_indexAt l its.toArray n dd sl (.int k t) (isInt k) (ns.idxOf k) (by simpa [hlen] using hj) (by omega) ?_ ?_) ⟨ho,fun y hy=>(eq_isInt k t hi y (by simpa using hy)).at _ _,⟨.int _,H,I.tok _,⟨_,rfl⟩,q⟩⟩
 ·show isInt k its[ns.idxOf k]=true
  rw [isInt_at k hi _ (by omega) hj]
  simpa using List.getElem_idxOf hj
 ·intro j hjs hlt
  show isInt k its[j]=false
  rw [isInt_at k hi j (by simpa using hjs) (by omega)]
  exact ne_of_lt_idxOf hlt _
end
def HasM (P:Program) (w:World) (K:PySem.W.Frag) (mg:Str→Option Value) (base:Heap) (CX:CXT) (k:Nat) (m:Str) (ps:List Str) (sp:Sp) (C:Addr):Prop :=
 ∃ f fd,Cls K C∧Meth K C m f∧FnOk P w K mg base CX k f fd ps sp∧Binds K fd ps []
def tMethD {ι:Type} (m:Str) (cls:ι→Addr) (sp:ι→Sp) (E:XK) (ta:TE) (t:TA):TE:=fun σ H Q=>ta σ H fun x H1=>∃ a k dx fs,x=.ref a∧H1 a=some (.ins (cls k) dx fs)∧fs.lookup m=none∧
 t σ H1 fun vs H2=>sp k (x :: vs) H2 Q E
section
variable {X:Cx} {CX:CXT} {k:Nat} {f:Addr} {fd:FuncData} {ps:List Str} {ι:Type} {cls:ι→Addr} {sp:ι→Sp} {spB:Sp} {dvs:List V} {ds:List Value} {E:XK} {x m b:Str} {p pos apos:Pos} {e o:Expr} {es:List Expr} {ta:TE} {t:TA} {B:Addr} {mc:Value}
theorem J4e {pl:Sem Bool} (he:PE X o ta) (hM:∀ i,HasM X.prog X.w X.K X.mg X.base CX k m ps (sp i) (cls i)) (hr:Room k X.A) (hx:J7d CX X E) (ha:PA X (e :: es) t)
  (hst:starEach (e :: es) X.env=(false,eval e X.env) :: starEach es X.env:=by rfl) (hpl:(backTo pos (starEach es X.env)).any (·.1)=false:=by rfl)
  (ht:eval (.Call (.Attribute o m apos) (e :: es) [] pos) X.env=(do
   let ov ← eval o X.env
   standAt apos.atName
   let (f,first) ← holding [ov] (getMethod ov m pl)
   callWith pos f first (backTo pos (starEach (e :: es) X.env)) (backToKw pos (keywordEach [] X.env))):=by rfl) :
  PE X (.Call (.Attribute o m apos) (e :: es) [] pos) (tMethD m cls sp E ta t):=by
 intro pins s σ H Q I h
 refine PySem.W.methodCall_KW (pl:=pl) (thn (he pins s σ H _ I h) fun u s1 ⟨x,H1,I1,rx,a,i,dx,fs,ex,ea,l,q⟩=>?_) ht
 subst ex
 obtain rfl:u=Value.ref a:=rx
 obtain ⟨f,fd,c,hm,F,hb⟩:=hM i
 refine J75 I1 ea c hm l ?_
 refine PySem.W.callWith_K (first:=[.ref a]) (h₀:=X.base) I.ok.mod.kin hm.kp (thn (ha pos pins s1 σ H1 _ I1 q) fun us s2 ⟨vs,H2,I2,r,q2⟩=>⟨I2.kIn,?_⟩) hst hpl
 exact run_fn (us:=.ref a :: us) (vs:=.ref a :: vs) (dvs:=[]) F hr hb .nil hx I2 (.cons rfl r) (by rw [List.append_nil];exact q2)
theorem pe_methD0 {pl:Sem Bool} (he:PE X o ta) (hM:∀ i,HasM X.prog X.w X.K X.mg X.base CX k m ps (sp i) (cls i)) (hr:Room k X.A) (hx:J7d CX X E)
  (ht:eval (.Call (.Attribute o m apos) [] [] pos) X.env=(do
   let ov ← eval o X.env
   standAt apos.atName
   let (f,first) ← holding [ov] (getMethod ov m pl)
   callWith pos f first (backTo pos (starEach [] X.env)) (backToKw pos (keywordEach [] X.env))):=by rfl) :
  PE X (.Call (.Attribute o m apos) [] [] pos) (tMethD m cls sp E ta tNil):=by
 intro pins s σ H Q I h
 refine PySem.W.methodCall_KW (pl:=pl) (thn (he pins s σ H _ I h) fun u s1 ⟨x,H1,I1,rx,a,i,dx,fs,ex,ea,l,q⟩=>?_) ht
 subst ex
 obtain rfl:u=Value.ref a:=rx
 obtain ⟨f,fd,c,hm,F,hb⟩:=hM i
 refine J75 I1 ea c hm l ?_
 exact PySem.W.callWith_K0 (first:=[.ref a]) I1.kIn hm.kp (run_fn (us:=[.ref a]) (vs:=[.ref a]) (dvs:=[]) F hr hb .nil hx I1 (.cons rfl .nil) q)
structure BaseM (K:PySem.W.Frag) (B:Addr) (m:Str) (f:Addr):Prop where
 sp:PySem.W.specialIn K (.ref B) "__getattribute__"=some (some (.builtin "type.__getattribute__"))
 rd:PySem.W.readsIn K B (.type "type")=true
 fd:PySem.W.findCls K (.ref B) (.type "type") m=some (.val (.ref f))
 kp:PySem.W.keepIn K (.ref f)=true
theorem J5m {pl:Sem Bool} (M:BaseM X.K B m f) (hgB:Gl X b) (hmB:X.mg b=some (.ref B)) (F:FnOk X.prog X.w X.K X.mg X.base CX k f fd ps spB) (hr:Room k X.A) (hb:Binds X.K fd ps ds) (hd:Vals dvs ds) (hx:J7d CX X E) (ha:PA X (e :: es) t)
  (hdb:(b == ("__debug__":Str))=false:=by decide)
  (hst:starEach (e :: es) X.env=(false,eval e X.env) :: starEach es X.env:=by rfl) (hpl:(backTo pos (starEach es X.env)).any (·.1)=false:=by rfl)
  (ht:eval (.Call (.Attribute (.Name b p) m apos) (e :: es) [] pos) X.env=(do
   let ov ← eval (.Name b p) X.env
   standAt apos.atName
   let (f,first) ← holding [ov] (getMethod ov m pl)
   callWith pos f first (backTo pos (starEach (e :: es) X.env)) (backToKw pos (keywordEach [] X.env))):=by rfl) :
  PE X (.Call (.Attribute (.Name b p) m apos) (e :: es) [] pos) (tCall spB dvs E t):=by
 intro pins s σ H Q I h
 refine PySem.W.methodCall_KW (pl:=pl) (ld_glob I hgB hmB ?_ hdb) ht
 refine PySem.W.method_cls I.kIn M.sp (PySem.W.cls_value I.kIn M.rd M.fd rfl ?_)
 have I1:=I.tok (s.toks + 1)
 refine PySem.W.callWith_K (first:=[]) (h₀:=X.base) I.ok.mod.kin M.kp (thn (ha pos pins _ σ H _ I1 h) fun us s2 ⟨vs,H2,I2,r,q2⟩=>⟨I2.kIn,?_⟩) hst hpl
 exact run_fn (us:=us) (vs:=vs) F hr hb hd hx I2 r q2
end
end L2
namespace L2
open PySem PySem.Spec PyProof.Rows
theorem J4n {M:Model} {A:Around} {E:Value→Shared→Prop} {s:Shared} {β:Type} (k:Nat) (f:Nat→β→Sem (ForInStep β)) (I:Nat→β→Shared→Prop) (Q:β→Shared→Prop)
  (turn:∀ i b s,i < k→I i b s→wpAny M A (f i b) (fun r s'=>match r with | .yield b'=>I (i + 1) b' s' | .done b'=>Q b' s') E s)
  (fin:∀ b s,I k b s→Q b s) (b:β) (h:I 0 b s):wpAny M A (forIn ([0:k]:Std.Legacy.Range) b f) Q E s:=by
 rw [Std.Legacy.Range.forIn_eq_forIn_range']
 simp only [Std.Legacy.Range.size,Nat.sub_zero,Nat.add_sub_cancel,Nat.div_one]
 refine wpAny_forIn_list _ (fun rest b s'=>∃ i,rest=List.range' i (k - i)∧i≤k∧I i b s') _ ?_ ?_ _ _ ⟨0,by simp,Nat.zero_le _,h⟩
 ·rintro x rest b s' ⟨i,hr,hi,hI⟩
  have hlt:i < k:=by
   rcases Nat.lt_or_ge i k with q | q
   ·exact q
   ·rw [Nat.sub_eq_zero_of_le q] at hr;simp at hr
  obtain ⟨rfl,hrest⟩:x=i∧rest=List.range' (i + 1) (k - (i + 1)):=by
   have e:k - i=(k - (i + 1)) + 1:=by omega
   rw [e,List.range'_succ] at hr
   injection hr with h1 h2
   exact ⟨h1,h2⟩
  refine wpAny_mono (turn x b s' hlt hI) (fun r s2 hr2=>?_) fun _ _ z=>z
  cases r with
  | done b'=>exact hr2
  | yield b'=>exact ⟨x + 1,hrest,hlt,hr2⟩
 ·rintro b s' ⟨i,hr,hi,hI⟩
  have:i=k:=by
   have:=congrArg List.length hr
   simp at this
   omega
  subst this
  exact fin b s' hI
theorem J6o (l:Addr) (items:Array Value) (n:Nat) (dd:Option Addr) (sl:Array (Option Value)) (x:Value) (e:Value→Bool) (j:Nat) (hj:j < items.size)
  (hit:e items[j]=true) (hno:∀ m (hm:m < items.size),m < j→e items[m]=false) :
  Meets (Builtin.«tuple.index» ⟨[.ref l,x],[]⟩)
   (fun A R s=>s.heap.get? l=some { cls:=.type "tuple",dict:=dd,data:=.seq items n,slots:=sl }∧(∀ y,y∈items→SeqAt.EqAt A.in1 s y x (e y))∧R (.ok (.ret (.int j s.toks))) { s with toks:=s.toks + 1 }) :=
 .of_wp fun prog w A R s h=>by
  obtain ⟨hp,g,d,tk,os⟩:=s;obtain ⟨hl,he,h⟩:=h
  wp_walk using AutoSeq1.wpAny_loadPart' hl,J4n _ _ (fun i b s'=>b=(none,())∧s'=⟨hp,g,d,tk,os⟩∧i≤j) _
  case turn =>
   rintro i b s' hi ⟨rfl,rfl,hij⟩
   have hi':i < items.size:=by simpa using hi
   dsimp only
   rw [Array.getElem?_eq_getElem hi']
   refine wpAny_bind (he _ (Array.getElem_mem hi') prog w _ _ ?_)
   rcases Nat.lt_or_ge i j with q | q
   ·rw [hno i hi' q]
    wp_walk
    exact ⟨rfl,rfl,q⟩
   ·have:i=j:=by omega
    subst this
    rw [hit]
    wp_walk
    exact ⟨_,rfl,h⟩
  case fin =>
   rintro b s' ⟨rfl,rfl,hij⟩
   exfalso
   simp at hij
   omega
  case h=>exact ⟨rfl,rfl,Nat.zero_le _⟩
def rIndexT:V→List V→Hp→VK→Prop:=fun x vs H Q=>∃ (l:Addr) (ns:List Int) (k:Int),x=.ref l∧vs=[.int k]∧H l=some (.tup (ns.map V.int))∧k∈ns∧Q (.int (ns.idxOf k:Nat)) H
theorem mt_indexT {X:Cx}:MtM X "tuple.index" rIndexT:=by
 intro pins s σ H x vs v us Q I rx rv h
 obtain ⟨l,ns,k,rfl,rfl,hH,hk,q⟩:=h
 cases rx
 obtain ⟨u1,rfl,⟨t,rfl⟩⟩:=rv.one
 obtain ⟨its,r',pl,hz⟩:=I.tuple (SqT.of hH)
 have hi:=J1v r'
 have hlen:=hi.length
 obtain ⟨⟨cls,dd,data,sl⟩,ho,hc,n,hd⟩:=id pl
 simp only at hc hd
 subst hc hd
 have hj:ns.idxOf k < ns.length:=List.idxOf_lt_length_iff.mpr hk
 refine call_meets PySem.F.slot_tuple_index ⟨_,ho,rfl⟩ PySem.F.entry_tuple_index (PySem.F.args_tuple_index_2 _ _)
  (J6o l its.toArray n dd sl (.int k t) (isInt k) (ns.idxOf k) (by simpa [hlen] using hj) ?_ ?_) ⟨ho,fun y hy=>(eq_isInt k t hi y (by simpa using hy)).at _ _,⟨.int _,H,I.tok _,⟨_,rfl⟩,q⟩⟩
 ·show isInt k its[ns.idxOf k]=true
  rw [isInt_at k hi _ (by omega) hj]
  simpa using List.getElem_idxOf hj
 ·intro j hjs hlt
  show isInt k its[j]=false
  rw [isInt_at k hi j (by simpa using hjs) (by omega)]
  exact ne_of_lt_idxOf hlt _
def tBMT (r:V→List V→Hp→VK→Prop) (to:TE) (t:TA):TE:=fun σ H Q=>to σ H fun x H1=>(∃ p xs,x=.ref p∧H1 p=some (.tup xs))∧t σ H1 fun xs H2=>r x xs H2 Q
theorem pe_bmT {X:Cx} {o e:Expr} {es:List Expr} {to:TE} {t:TA} {name:Str} {apos cpos:Pos} {id:String} {r:V→List V→Hp→VK→Prop} (slot:Slot "tuple" name id) (hty:typeOf (.builtin id)=pure (.type "method_descriptor")) (hm:MtR X id r) (ho:PE X o to) (ha:PA X (e :: es) t)
  (hbase:attributeBase o name X.env (eval o X.env)=eval o X.env:=by rfl)
  (hfew:((backTo cpos (starEach (e :: es) X.env)).all (fun x=>!x.1) && (backToKw cpos (keywordEach [] X.env)).all (fun x=>x.1.isSome)
   && decide ((e :: es).length + ([]:List Keyword).length + (if ([]:List Keyword).isEmpty then 0 else 1) < 30))=true:=by rfl)
  (hline:(apos.endLine == cpos.line)=true:=by rfl) (hs:starEach (e :: es) X.env=(false,eval e X.env) :: starEach es X.env:=by rfl) (hplain:(backTo cpos (starEach es X.env)).any (·.1)=false:=by rfl) :
  PE X (.Call (.Attribute o name apos) (e :: es) [] cpos) (tBMT r to t):=by
 intro pins s σ H Q I h
 refine wpAny_Call_method_late hbase hfew hline rfl (thn (ho pins s σ H _ I h) fun v s1 ⟨x,H1,I1,r1,ty,q1⟩=>?_)
 obtain ⟨p,xs,rfl,hp⟩:=ty
 obtain rfl:v=Value.ref p:=r1
 obtain ⟨_,its,_,o,e1,⟨c1,c2⟩,_⟩:=(show ObjOk X.prog X.w H1 s1.heap p (.tup xs) from I1.hok p _ hp)
 refine ⟨"tuple",id,PySem.F.plainAttrs_tuple,slot,hty,⟨o,e1,c1⟩,fun a e2=>by cases e2;exact ⟨o,e1,c2⟩,?_⟩
 have hA:=ha cpos pins s1 σ H1 _ I1 q1
 rw [hs] at hA ⊢
 refine Calls.callWith_builtin (by show (false || (backTo cpos (starEach es X.env)).any (·.1))=false;rw [hplain] <;> rfl) (Calls.evalArgs_plain ?_)
 exact thn hA fun us s2 ⟨vs,H2,I2,r2,q2⟩=>hm pins s2 σ H2 (.ref p) vs (.ref p) us Q I2 rfl r2 q2
section
variable {X:Cx}
theorem ix_listK (K:PySem.W.Frag) (h:X.K=K:=by rfl):IxR X (rIxL K):=by subst h;exact J19
theorem ix_tupK (K:PySem.W.Frag) (h:X.K=K:=by rfl):IxR X (rIxT K):=by subst h;exact Jj
theorem pe_flK {e:Expr} {f:Str} {pos:Pos} {ta:TE} (K:PySem.W.Frag) (he:PE X e ta) (h:X.K=K:=by rfl) (hb:attributeBase e f X.env (eval e X.env)=eval e X.env:=by rfl):PE X (.Attribute e f pos) (tFld K ta f):=by subst h;exact Jh he hb
end
end L2
namespace L2
open PySem PySem.Spec PyProof.Rows
end L2
namespace L2
open PySem PySem.Spec PyProof.Rows
def Alk1 (K:PySem.W.Frag) (H:Hp) (x y:V):Prop:=(x=y∧flatV x=true)∨∃ (a b:Addr) (zs:List V),x=.ref a∧y=.ref b∧SqT K H a zs∧SqT K H b zs∧zs.all flatV=true
structure AlkL (K:PySem.W.Frag) (H:Hp) (xs ys:List V):Prop where
 len:xs.length=ys.length
 at_:∀ (j:Nat) (a b:V),xs[j]?=some a→ys[j]?=some b→Alk1 K H a b
theorem eqV_self {x:V} (h:flatV x=true):eqV x x=true:=by
 cases x with
 | non=>rfl
 | bl a=>cases a <;> rfl
 | int a=>show (a == a)=true;exact beq_self_eq_true _
 | str a=>show (a == a)=true;exact beq_self_eq_true _
 | _=>cases h
theorem J6c {xs:List V} {its:List Value} (r:Vals xs its) {j:Nat} (h:j < its.toArray.size):∃ a,xs[j]?=some a∧RelV a its.toArray[j]:=by
 have l1:=r.length
 have h':j < its.length:=by rw [List.size_toArray] at h;exact h
 have g1:xs[j]?=some (xs[j]'(by omega)):=List.getElem?_eq_getElem (by omega)
 obtain ⟨u,e1,ru⟩:=r.get g1
 have e1':its.toArray[j]=u:=by
  have:=List.getElem?_eq_getElem h'
  rw [e1] at this
  simpa using (Option.some.inj this).symm
 exact ⟨_,g1,by rw [e1'];exact ru⟩
theorem eqAt_flat {A:Around} {s:Shared} {zs:List V} {i1 i2:List Value} (t1:Vals zs i1) (t2:Vals zs i2) (hf:zs.all flatV=true) (j:Nat) (h1:j < i1.toArray.size) (h2:j < i2.toArray.size):SeqAt.EqAt A s i1.toArray[j] i2.toArray[j] true:=by
 obtain ⟨a,e1,r1⟩:=J6c t1 h1
 obtain ⟨b,e2,r2⟩:=J6c t2 h2
 rw [e1] at e2
 cases e2
 have f:=List.all_eq_true.mp hf _ (List.mem_of_getElem? e1)
 have:=eqAt_V (A:=A) (s:=s) r1 r2 f f
 rw [eqV_self f] at this
 exact this
theorem alk1_at {X:Cx} {pins:List (Addr × Obj)} {σ:St} {H:Hp} {s:Shared} (I:Inv X pins σ H s) {A:Around} (hu:A.units < cLine) {a b:V} {u v:Value} (ra:RelV a u) (rb:RelV b v) (h:Alk1 X.K H a b):SeqAt.EqAt A s u v true:=by
 rcases h with ⟨rfl,f⟩ | ⟨p,q,zs,rfl,rfl,z1,z2,hf⟩
 ·have:=eqAt_V (A:=A) (s:=s) ra rb f f
  rw [eqV_self f] at this
  exact this
 ·cases (show u=Value.ref p from ra)
  cases (show v=Value.ref q from rb)
  by_cases hne:p=q
  ·rw [hne];exact SeqAt.EqAt.same _
  ·obtain ⟨i1,t1,l1,_⟩:=I.tuple z1
   obtain ⟨i2,t2,l2,_⟩:=I.tuple z2
   have n1:=t1.length
   have n2:=t2.length
   refine SeqAt.EqAt.of_refs hne ?_
   have:=SeqAt.RcAt.tuples (A:=A) (s:=s) (e:=fun _=>true) (show s.heap.IsTuple p i1.toArray from l1) (show s.heap.IsTuple q i2.toArray from l2) hu (fun j h1 h2=>eqAt_flat t1 t2 hf j h1 h2)
   have e:((List.range (min i1.toArray.size i2.toArray.size)).all (fun _=>true) && i1.toArray.size == i2.toArray.size)=true:=by
    rw [List.size_toArray,List.size_toArray,← n1,← n2];simp
   rw [e] at this
   exact this
theorem alkL_at {X:Cx} {pins:List (Addr × Obj)} {σ:St} {H:Hp} {s:Shared} (I:Inv X pins σ H s) {A:Around} (hu:A.units < cLine) {xs ys:List V} {i1 i2:List Value} (t1:Vals xs i1) (t2:Vals ys i2) (h:AlkL X.K H xs ys)
  (j:Nat) (h1:j < i1.toArray.size) (h2:j < i2.toArray.size):SeqAt.EqAt A s i1.toArray[j] i2.toArray[j] true:=by
 obtain ⟨a,e1,r1⟩:=J6c t1 h1
 obtain ⟨b,e2,r2⟩:=J6c t2 h2
 exact alk1_at I hu r1 r2 (h.at_ j a b e1 e2)
def rAlk (K:PySem.W.Frag) (r:Bool):R2:=fun x y H Q=>∃ p q xs ys,x=.ref p∧y=.ref q∧((SqL K H p xs∧SqL K H q ys)∨(SqT K H p xs∧SqT K H q ys))∧AlkL K H xs ys∧Q (.bl r) H
theorem op_neAL {X:Cx} (hu:X.A.units + 1 < cLine):OpR X (compareOp .NotEq) (rAlk X.K false):=by
 intro pins s σ H x y v u Q I rx ry h
 obtain ⟨p,q,xs,ys,rfl,rfl,hpq,al,hQ⟩:=h
 cases rx
 cases ry
 have len:=al.len
 rcases hpq with ⟨hp,hq⟩ | ⟨hp,hq⟩
 ·obtain ⟨its,r,pl,_⟩:=I.list hp
  obtain ⟨its2,r2,pl2,_⟩:=I.list hq
  have l1:=r.length
  have l2:=r2.length
  refine SeqAt.RcNeAt.lists (e:=fun _=>true) pl.isList pl2.isList (by rw [List.size_toArray,List.size_toArray];omega) (by omega) (fun j h1 h2=>alkL_at I hu r r2 al j h1 h2) _ _ _ _ ?_
  have e:((List.range its.toArray.size).all fun _=>true)=true:=by simp
  rw [e]
  exact ⟨.bl false,H,I,rfl,hQ⟩
 ·obtain ⟨its,r,pl,_⟩:=I.tuple hp
  obtain ⟨its2,r2,pl2,_⟩:=I.tuple hq
  have l1:=r.length
  have l2:=r2.length
  refine SeqAt.RcNeAt.tuples (e:=fun _=>true) (show s.heap.IsTuple p its.toArray from pl) (show s.heap.IsTuple q its2.toArray from pl2) (by omega) (fun j h1 h2=>alkL_at I hu r r2 al j h1 h2) _ _ _ _ ?_
  have e:((List.range (min its.toArray.size its2.toArray.size)).all (fun _=>true) && its.toArray.size == its2.toArray.size)=true:=by
   rw [List.size_toArray,List.size_toArray,← l1,← l2,len];simp
  rw [e]
  exact ⟨.bl false,H,I,rfl,hQ⟩
structure Refs (Pr:Addr→Nat→Prop) (xs:List V) (n:Nat):Prop where
 len:xs.length=n
 at_:∀ i,i < n→∃ q,xs[i]?=some (.ref q)∧Pr q i
theorem Refs.nil {Pr:Addr→Nat→Prop}:Refs Pr [] 0:=⟨rfl,fun i h=>absurd h (Nat.not_lt_zero _)⟩
theorem Refs.snoc {Pr:Addr→Nat→Prop} {xs:List V} {n:Nat} {q:Addr} (h:Refs Pr xs n) (hq:Pr q n):Refs Pr (xs ++ [.ref q]) (n + 1):=by
 refine ⟨by rw [List.length_append,h.len];rfl,fun i hi=>?_⟩
 by_cases c:i < n
 ·obtain ⟨p,e,hp⟩:=h.at_ i c
  exact ⟨p,by rw [List.getElem?_append_left (by rw [h.len];exact c)];exact e,hp⟩
 ·have e:i=n:=by omega
  subst e
  refine ⟨q,?_,hq⟩
  rw [List.getElem?_append_right (by rw [h.len];exact Nat.le_refl _),h.len,Nat.sub_self];rfl
theorem Refs.mono {Pr Pr':Addr→Nat→Prop} {xs:List V} {n:Nat} (h:Refs Pr xs n) (m:∀ q i,i < n→Pr q i→Pr' q i):Refs Pr' xs n :=
 ⟨h.len,fun i hi=>let ⟨q,e,p⟩:=h.at_ i hi;⟨q,e,m q i hi p⟩⟩
end L2
namespace PySem
namespace F
end F
end PySem
namespace L2
open PySem PyProof.Rows
end L2
namespace Rl
def cellN (ns:List Int) (k:Nat):Int:=ns.getD k 0
def drawL (ns:List Int) (many:Nat) (top:Int):List Int:=(List.range many).map fun k=>1 + cellN ns (2 + k) % top
def insAt (xs:List Nat) (i y:Nat):List Nat:=xs.take i ++ y :: xs.drop i
def spotO (ns:List Int) (many k:Nat):Nat:=(cellN ns (2 + many + k) % ((k:Int) + 1)).toNat
def drawO (ns:List Int) (many:Nat):Nat→List Nat
 | 0=>[]
 | k + 1=>insAt (drawO ns many k) (spotO ns many k) k
theorem spotO_le (ns:List Int) (many k:Nat):spotO ns many k≤k∧((spotO ns many k:Nat):Int)=cellN ns (2 + many + k) % ((k:Int) + 1):=by
 unfold spotO
 have h1:0≤cellN ns (2 + many + k) % ((k:Int) + 1):=Int.emod_nonneg _ (by omega)
 have h2:cellN ns (2 + many + k) % ((k:Int) + 1) < (k:Int) + 1:=Int.emod_lt_of_pos _ (by omega)
 omega
theorem insAt_perm (xs:List Nat) (i y:Nat):(insAt xs i y).Perm (y :: xs):=by
 unfold insAt
 have h:(xs.take i ++ y :: xs.drop i).Perm (y :: (xs.take i ++ xs.drop i)):=List.perm_middle
 rwa [List.take_append_drop] at h
theorem J4j (ns:List Int) (many:Nat):∀ k,(drawO ns many k).Perm (List.range k)
 | 0=>List.Perm.refl _
 | k + 1=>by
  have h1:=insAt_perm (drawO ns many k) (spotO ns many k) k
  have h2:(k :: drawO ns many k).Perm (k :: List.range k):=(J4j ns many k).cons k
  have h3:(k :: List.range k).Perm (List.range (k + 1)):=by
   rw [List.range_succ]
   exact (List.perm_append_singleton k (List.range k)).symm
  exact h1.trans (h2.trans h3)
theorem drawO_len (ns:List Int) (many k:Nat):(drawO ns many k).length=k:=by
 rw [(J4j ns many k).length_eq,List.length_range]
theorem drawL_len (ns:List Int) (many:Nat) (top:Int):(drawL ns many top).length=many:=by simp [drawL]
theorem drawL_mem {ns:List Int} {many:Nat} {top:Int} (ht:0 < top):∀ a∈drawL ns many top,1≤a∧a≤top:=fun a h=>by
 obtain ⟨k,_,rfl⟩:=List.mem_map.mp h
 have h1:=Int.emod_nonneg (cellN ns (2 + k)) (Int.ne_of_gt ht)
 have h2:=Int.emod_lt_of_pos (cellN ns (2 + k)) ht
 omega
theorem sum_le {b:Int}:∀ (xs:List Int),(∀ a∈xs,a≤b)→xs.sum≤(xs.length:Int) * b
 | [],_=>by simp
 | x :: xs,h=>by
  have h1:=h x List.mem_cons_self
  have h2:=sum_le xs fun a ha=>h a (List.mem_cons_of_mem _ ha)
  rw [List.sum_cons,List.length_cons]
  have e:(((xs.length + 1:Nat):Int)) * b=(xs.length:Int) * b + b:=by
   rw [Int.natCast_add,Int.add_mul];simp
  omega
theorem mul_top {n:Nat} {b:Int} (hn:n≤24) (hb:0≤b):(n:Int) * b≤24 * b:=Int.mul_le_mul_of_nonneg_right (by omega) hb
def sumsF (ls:List Int) (os:List Nat):Nat→List Int × Int
 | 0=>(List.replicate ls.length 0,0)
 | i + 1=>((sumsF ls os i).1.set (os.getD i 0) (sumsF ls os i).2,(sumsF ls os i).2 + ls.getD (os.getD i 0) 0)
theorem J43 (ls:List Int) (os:List Nat):∀ i,(sumsF ls os i).1.length=ls.length
 | 0=>by simp [sumsF]
 | i + 1=>by
  show ((sumsF ls os i).1.set _ _).length=_
  rw [List.length_set]
  exact J43 ls os i
def firsts (ls:List Int) (os:List Nat):List Int:=(sumsF ls os os.length).1
theorem J4v:∀ {xs ys:List Int},xs.Perm ys→xs.Pairwise (·≤·)→ys.Pairwise (·≤·)→xs=ys
 | [],ys,h,_,_=>(List.Perm.nil_eq h)
 | x :: xs,[],h,_,_=>absurd h.length_eq (by simp)
 | x :: xs,y :: ys,h,hx,hy=>by
  have hx':=List.pairwise_cons.mp hx
  have hy':=List.pairwise_cons.mp hy
  have m1:x∈y :: ys:=h.mem_iff.mp List.mem_cons_self
  have m2:y∈x :: xs:=h.mem_iff.mpr List.mem_cons_self
  have e:x=y:=by
   rcases List.mem_cons.mp m1 with e | m1
   ·exact e
   ·rcases List.mem_cons.mp m2 with e | m2
    ·exact e.symm
    ·have a:=hx'.1 y m2
     have b:=hy'.1 x m1
     omega
  subst e
  rw [J4v h.cons_inv hx'.2 hy'.2]
def natI (os:List Nat):List Int:=os.map fun (n:Nat)=>(n:Int)
theorem J7m (n:Nat):(natI (List.range n)).Pairwise (·≤·):=by
 unfold natI
 rw [List.pairwise_map]
 exact List.pairwise_lt_range.imp fun h=>by omega
theorem J7h {os:List Nat} {n:Nat} {ns':List Int} (hp:os.Perm (List.range n)) (h1:ns'.Perm (natI os)) (h2:ns'.Pairwise (·≤·)):ns'=natI (List.range n) :=
 J4v (h1.trans (hp.map _)) h2 (J7m n)
end Rl
namespace Rl
def J1e (ls:List Int) (os:List Nat) (i:Nat):Int:=(sumsF ls os i).2
theorem J2b (ls:List Int) (os:List Nat):J1e ls os 0=0:=rfl
theorem J18 (ls:List Int) (os:List Nat) (i:Nat):J1e ls os (i + 1)=J1e ls os i + ls.getD (os.getD i 0) 0:=rfl
structure Ord (ls:List Int) (os:List Nat):Prop where
 pos:∀ a∈ls,1≤a
 perm:os.Perm (List.range ls.length)
theorem Ord.range {ls:List Int} {os:List Nat} (h:Ord ls os):Ord ls (List.range ls.length):=⟨h.pos,List.Perm.refl _⟩
theorem Ord.len {ls:List Int} {os:List Nat} (h:Ord ls os):os.length=ls.length:=by rw [h.perm.length_eq,List.length_range]
theorem Ord.nodup {ls:List Int} {os:List Nat} (h:Ord ls os):os.Nodup:=h.perm.nodup_iff.mpr List.nodup_range
theorem J1u {os:List Nat} {i:Nat} (h:i < os.length):os.getD i 0∈os:=by
 rw [List.getD_eq_getElem?_getD,List.getElem?_eq_getElem h];exact List.getElem_mem h
theorem getD_memI {ls:List Int} {i:Nat} (h:i < ls.length):ls.getD i 0∈ls:=by
 rw [List.getD_eq_getElem?_getD,List.getElem?_eq_getElem h];exact List.getElem_mem h
theorem Ord.lt {ls:List Int} {os:List Nat} (h:Ord ls os) {i:Nat} (hi:i < ls.length):os.getD i 0 < ls.length :=
 List.mem_range.mp (h.perm.mem_iff.mp (J1u (by rw [h.len];exact hi)))
theorem Ord.one {ls:List Int} {os:List Nat} (h:Ord ls os) {j:Nat} (hj:j < ls.length):1≤ls.getD j 0:=h.pos _ (getD_memI hj)
theorem Ord.inj {ls:List Int} {os:List Nat} (h:Ord ls os) {i j:Nat} (hi:i < ls.length) (hj:j < ls.length) (e:os.getD i 0=os.getD j 0):i=j:=by
 rw [List.getD_eq_getElem?_getD,List.getD_eq_getElem?_getD,List.getElem?_eq_getElem (by rw [h.len];exact hi),List.getElem?_eq_getElem (by rw [h.len];exact hj)] at e
 exact (List.getElem_inj h.nodup).mp e
theorem Ord.onto {ls:List Int} {os:List Nat} (h:Ord ls os) {j:Nat} (hj:j < ls.length):∃ i,i < ls.length∧os.getD i 0=j:=by
 obtain ⟨i,hi,e⟩:=List.getElem_of_mem (h.perm.mem_iff.mpr (List.mem_range.mpr hj))
 refine ⟨i,by rw [← h.len];exact hi,?_⟩
 rw [List.getD_eq_getElem?_getD,List.getElem?_eq_getElem hi];exact e
theorem Ord.step {ls:List Int} {os:List Nat} (h:Ord ls os) {i:Nat} (hi:i < ls.length):J1e ls os i < J1e ls os (i + 1):=by
 have:=h.one (h.lt hi)
 rw [J18];lia
theorem Ord.mono {ls:List Int} {os:List Nat} (h:Ord ls os) {i:Nat}:∀ {k:Nat},i≤k→k≤ls.length→J1e ls os i≤J1e ls os k
 | 0,h1,_=>by rw [Nat.le_zero.mp h1];exact Int.le_refl _
 | k + 1,h1,h2=>by
  by_cases e:i=k + 1
  ·rw [e];exact Int.le_refl _
  ·have a:=h.mono (i:=i) (k:=k) (by lia) (by lia)
   have b:=h.step (i:=k) (by lia)
   lia
theorem set_get (f:List Int) (p q:Nat) (v:Int) (hp:p < f.length):(f.set p v).getD q 0=if q=p then v else f.getD q 0:=by
 rw [List.getD_eq_getElem?_getD,List.getD_eq_getElem?_getD]
 by_cases e:q=p
 ·subst e;rw [List.getElem?_set_self hp,if_pos rfl];rfl
 ·rw [List.getElem?_set_ne (Ne.symm e),if_neg e]
theorem Ord.at {ls:List Int} {os:List Nat} (h:Ord ls os) {i:Nat}:∀ {k:Nat},i < k→k≤ls.length→(sumsF ls os k).1.getD (os.getD i 0) 0=J1e ls os i
 | 0,h1,_=>absurd h1 (Nat.not_lt_zero _)
 | k + 1,h1,h2=>by
  show ((sumsF ls os k).1.set (os.getD k 0) (sumsF ls os k).2).getD (os.getD i 0) 0=_
  rw [set_get _ _ _ _ (by rw [J43];exact h.lt (by lia))]
  by_cases e:i=k
  ·subst e;rw [if_pos rfl];rfl
  ·rw [if_neg (fun q=>e (h.inj (by lia) (by lia) q))]
   exact h.at (by lia) (by lia)
theorem Ord.first {ls:List Int} {os:List Nat} (h:Ord ls os) {i:Nat} (hi:i < ls.length):(firsts ls os).getD (os.getD i 0) 0=J1e ls os i:=by
 unfold firsts
 rw [h.len]
 exact h.at hi (Nat.le_refl _)
theorem J3o (ls:List Int):(List.range ls.length).map (fun j=>ls.getD j 0)=ls:=by
 apply List.ext_getElem?
 intro k
 rw [List.getElem?_map]
 by_cases hk:k < ls.length
 ·rw [List.getElem?_range hk,List.getElem?_eq_getElem hk]
  show some (ls.getD k 0)=_
  rw [List.getD_eq_getElem?_getD,List.getElem?_eq_getElem hk];rfl
 ·rw [List.getElem?_eq_none (by simpa using hk),List.getElem?_eq_none (by lia)];rfl
theorem J3a (ls:List Int) (os:List Nat):∀ i,i≤os.length→J1e ls os i=((os.take i).map fun j=>ls.getD j 0).sum
 | 0,_=>by simp [J2b]
 | i + 1,h=>by
  rw [J18,J3a ls os i (by lia),List.take_succ,List.getElem?_eq_getElem (by lia)]
  simp only [Option.toList_some,List.map_append,List.map_cons,List.map_nil,List.sum_append,List.sum_cons,List.sum_nil]
  rw [List.getD_eq_getElem?_getD (l:=os),List.getElem?_eq_getElem (by lia)]
  simp
theorem J7o {xs ys:List Int} (h:xs.Perm ys):xs.sum=ys.sum:=by
 induction h with
 | nil=>rfl
 | cons x _ ih=>rw [List.sum_cons,List.sum_cons,ih]
 | swap x y l=>rw [List.sum_cons,List.sum_cons,List.sum_cons,List.sum_cons];lia
 | trans _ _ a b=>exact a.trans b
theorem Ord.whole {ls:List Int} {os:List Nat} (h:Ord ls os):J1e ls os ls.length=ls.sum:=by
 rw [J3a ls os _ (by rw [h.len];exact Nat.le_refl _),List.take_of_length_le (by rw [h.len];exact Nat.le_refl _)]
 have p:(os.map fun j=>ls.getD j 0).Perm ((List.range ls.length).map fun j=>ls.getD j 0):=h.perm.map _
 rw [J7o p,J3o]
def Lies (fs ls:List Int) (x:Int) (j:Nat):Prop:=j < ls.length∧fs.getD j 0≤x∧x < fs.getD j 0 + ls.getD j 0
theorem J3f {S:Nat→Int} {x:Int}:∀ (k:Nat),S 0≤x→x < S k→∃ i,i < k∧S i≤x∧x < S (i + 1)
 | 0,h0,h1=>by lia
 | k + 1,h0,h1=>by
  by_cases e:x < S k
  ·obtain ⟨i,hi,q⟩:=J3f k h0 e
   exact ⟨i,by lia,q⟩
  ·exact ⟨k,by lia,by lia,h1⟩
theorem Ord.lies {ls:List Int} {os:List Nat} (h:Ord ls os) {i:Nat} {x:Int} (hi:i < ls.length) (h1:J1e ls os i≤x) (h2:x < J1e ls os (i + 1)):Lies (firsts ls os) ls x (os.getD i 0):=by
 refine ⟨h.lt hi,?_,?_⟩
 ·rw [h.first hi];exact h1
 ·rw [h.first hi];rw [J18] at h2;exact h2
theorem Ord.lies_of {ls:List Int} {os:List Nat} (h:Ord ls os) {j:Nat} {x:Int} (q:Lies (firsts ls os) ls x j):∃ i,i < ls.length∧os.getD i 0=j∧J1e ls os i≤x∧x < J1e ls os (i + 1):=by
 obtain ⟨hj,q1,q2⟩:=q
 obtain ⟨i,hi,e⟩:=h.onto hj
 subst e
 rw [h.first hi] at q1 q2
 exact ⟨i,hi,rfl,q1,by rw [J18];exact q2⟩
theorem Ord.exists {ls:List Int} {os:List Nat} (h:Ord ls os) {x:Int} (h0:0≤x) (h1:x < ls.sum):∃ j,Lies (firsts ls os) ls x j:=by
 obtain ⟨i,hi,a,b⟩:=J3f (S:=J1e ls os) ls.length (by rw [J2b];exact h0) (by rw [h.whole];exact h1)
 exact ⟨_,h.lies hi a b⟩
theorem Ord.unique {ls:List Int} {os:List Nat} (h:Ord ls os) {x:Int} {j k:Nat} (a:Lies (firsts ls os) ls x j) (b:Lies (firsts ls os) ls x k):j=k:=by
 obtain ⟨i,hi,rfl,a1,a2⟩:=h.lies_of a
 obtain ⟨i',hi',rfl,b1,b2⟩:=h.lies_of b
 have:i=i':=by
  by_cases e:i < i'
  ·have:=h.mono (i:=i + 1) (k:=i') e (by lia);lia
  ·by_cases e':i' < i
   ·have:=h.mono (i:=i' + 1) (k:=i) e' (by lia);lia
   ·lia
 rw [this]
theorem Ord.inside {ls:List Int} {os:List Nat} (h:Ord ls os) {x:Int} {j:Nat} (a:Lies (firsts ls os) ls x j):0≤x∧x < ls.sum:=by
 obtain ⟨i,hi,rfl,a1,a2⟩:=h.lies_of a
 have b1:=h.mono (i:=0) (k:=i) (Nat.zero_le _) (by lia)
 have b2:=h.mono (i:=i + 1) (k:=ls.length) (by lia) (Nat.le_refl _)
 rw [h.whole] at b2
 rw [J2b] at b1
 lia
def moveN (ls:List Int) (ts:List Bool) (j:Nat) (off:Int) (fs:List Int):Int:=if ts.getD j false=true then fs.getD j 0 + ls.getD j 0 - 1 - off else fs.getD j 0 + off
end Rl
namespace Rl
def lenOf (ls:List Int) (row:List Nat):Int:=(row.map fun j=>ls.getD j 0).sum
theorem J5p (ls:List Int) (os:List Nat):J1e ls os os.length=lenOf ls os:=by
 rw [J3a ls os _ (Nat.le_refl _),List.take_length];rfl
theorem Jt (ls:List Int):lenOf ls []=0:=rfl
theorem Ji (ls:List Int) (j:Nat) (os:List Nat):lenOf ls (j :: os)=ls.getD j 0 + lenOf ls os:=by
 unfold lenOf;rw [List.map_cons,List.sum_cons]
theorem Jx (ls:List Int) (xs ys:List Nat):lenOf ls (xs ++ ys)=lenOf ls xs + lenOf ls ys:=by
 unfold lenOf;rw [List.map_append,List.sum_append]
theorem J1n {ls:List Int} {xs ys:List Nat} (h:xs.Perm ys):lenOf ls xs=lenOf ls ys:=J7o (h.map _)
theorem Jw {ls:List Int} {os:List Nat} (h:∀ j∈os,0≤ls.getD j 0):0≤lenOf ls os:=by
 induction os with
 | nil=>exact Int.le_refl _
 | cons a r ih =>
  rw [Ji]
  have:=h a List.mem_cons_self
  have:=ih fun j hj=>h j (List.mem_cons_of_mem _ hj)
  lia
theorem J20 {ls:List Int} {os:List Nat} (h:∀ j∈os,1≤ls.getD j 0) (hn:os≠[]):1≤lenOf ls os:=by
 cases os with
 | nil=>exact absurd rfl hn
 | cons a r =>
  rw [Ji]
  have:=h a List.mem_cons_self
  have:=Jw (ls:=ls) (os:=r) fun j hj=>by have:=h j (List.mem_cons_of_mem _ hj);lia
  lia
theorem lenOf_mem {ls:List Int} {os:List Nat} (h:∀ j∈os,0≤ls.getD j 0) {j:Nat} (hj:j∈os):ls.getD j 0≤lenOf ls os:=by
 induction os with
 | nil=>cases hj
 | cons a r ih =>
  rw [Ji]
  have h1:=h a List.mem_cons_self
  have h2:=Jw (ls:=ls) (os:=r) fun j hj=>h j (List.mem_cons_of_mem _ hj)
  rcases List.mem_cons.mp hj with rfl | hj
  ·lia
  ·have:=ih (fun j hj=>h j (List.mem_cons_of_mem _ hj)) hj
   lia
structure Row (ls:List Int) (os:List Nat):Prop where
 nd:os.Nodup
 lt:∀ j∈os,j < ls.length
 pos:∀ j∈os,1≤ls.getD j 0
theorem Row.inj {ls:List Int} {os:List Nat} (h:Row ls os) {i j:Nat} (hi:i < os.length) (hj:j < os.length) (e:os.getD i 0=os.getD j 0):i=j:=by
 rw [List.getD_eq_getElem?_getD,List.getD_eq_getElem?_getD,List.getElem?_eq_getElem hi,List.getElem?_eq_getElem hj] at e
 exact (List.getElem_inj h.nd).mp e
theorem Row.at {ls:List Int} {os:List Nat} (h:Row ls os) {i:Nat}:∀ {k:Nat},i < k→k≤os.length→(sumsF ls os k).1.getD (os.getD i 0) 0=J1e ls os i
 | 0,h1,_=>absurd h1 (Nat.not_lt_zero _)
 | k + 1,h1,h2=>by
  show ((sumsF ls os k).1.set (os.getD k 0) (sumsF ls os k).2).getD (os.getD i 0) 0=_
  rw [set_get _ _ _ _ (by rw [J43];exact h.lt _ (J1u (by lia)))]
  by_cases e:i=k
  ·subst e;rw [if_pos rfl];rfl
  ·rw [if_neg (fun q=>e (h.inj (by lia) (by lia) q))]
   exact h.at (by lia) (by lia)
theorem Row.first {ls:List Int} {os:List Nat} (h:Row ls os) {i:Nat} (hi:i < os.length):(firsts ls os).getD (os.getD i 0) 0=J1e ls os i:=h.at hi (Nat.le_refl _)
theorem Row.step {ls:List Int} {os:List Nat} (h:Row ls os) {i:Nat} (hi:i < os.length):J1e ls os i < J1e ls os (i + 1):=by
 rw [J18]
 have:=h.pos _ (J1u hi)
 lia
theorem Row.mono {ls:List Int} {os:List Nat} (h:Row ls os) {i:Nat}:∀ {k:Nat},i≤k→k≤os.length→J1e ls os i≤J1e ls os k
 | 0,h1,_=>by
  have e:i=0:=Nat.le_zero.mp h1
  rw [e]
  exact Int.le_refl _
 | k + 1,h1,h2=>by
  by_cases e:i=k + 1
  ·subst e;exact Int.le_refl _
  ·have a:=Row.mono h (i:=i) (k:=k) (by lia) (by lia)
   have b:=h.step (i:=k) (by lia)
   lia
def AtR (ls:List Int) (os:List Nat) (y:Int) (i:Nat):Prop:=i < os.length∧J1e ls os i≤y∧y < J1e ls os (i + 1)
theorem Row.exists {ls:List Int} {os:List Nat} (h:Row ls os) {y:Int} (h0:0≤y) (h1:y < lenOf ls os):∃ i,AtR ls os y i:=by
 rw [← J5p] at h1
 obtain ⟨i,hi,a,b⟩:=J3f (S:=J1e ls os) os.length (by rw [J2b];exact h0) h1
 exact ⟨i,hi,a,b⟩
theorem Row.unique {ls:List Int} {os:List Nat} (h:Row ls os) {y:Int} {i k:Nat} (a:AtR ls os y i) (b:AtR ls os y k):i=k:=by
 obtain ⟨a1,a2,a3⟩:=a
 obtain ⟨b1,b2,b3⟩:=b
 rcases Nat.lt_trichotomy i k with q | q | q
 ·have:=h.mono (i:=i + 1) (k:=k) (by lia) (by lia)
  lia
 ·exact q
 ·have:=h.mono (i:=k + 1) (k:=i) (by lia) (by lia)
  lia
theorem Row.inside {ls:List Int} {os:List Nat} (h:Row ls os) {y:Int} {i:Nat} (a:AtR ls os y i):0≤y∧y < lenOf ls os:=by
 obtain ⟨a1,a2,a3⟩:=a
 have h1:=h.mono (i:=0) (k:=i) (by lia) (by lia)
 have h2:=h.mono (i:=i + 1) (k:=os.length) (by lia) (Nat.le_refl _)
 rw [J2b] at h1
 rw [J5p] at h2
 lia
structure Rst where
 top:List Nat
 bot:List Nat
 ls:List Int
 ts:List Bool
structure Rst.Ok (r:Rst):Prop where
 row:Row r.ls r.top
 perm:r.bot.Perm r.top
 zl:∀ j,j ∉ r.top→r.ls.getD j 0=0
 zt:∀ j,j ∉ r.top→r.ts.getD j false=false
 len:r.ts.length=r.ls.length
 few:r.ls.length≤24
def Rst.size (r:Rst):Int:=lenOf r.ls r.top
theorem Rst.Ok.rowB {r:Rst} (h:r.Ok):Row r.ls r.bot:=⟨h.perm.nodup_iff.mpr h.row.nd,fun j hj=>h.row.lt j (h.perm.mem_iff.mp hj),fun j hj=>h.row.pos j (h.perm.mem_iff.mp hj)⟩
theorem Rst.Ok.sizeB {r:Rst} (h:r.Ok):lenOf r.ls r.bot=r.size:=J1n h.perm
def J4r (r:Rst) (y z:Int):Prop:=∃ i,AtR r.ls r.top y i∧z=moveN r.ls r.ts (r.top.getD i 0) (y - J1e r.ls r.top i) (firsts r.ls r.bot)
theorem mem_at {os:List Nat} {j:Nat} (h:j∈os):∃ k,k < os.length∧os.getD k 0=j:=by
 obtain ⟨k,hk,e⟩:=List.getElem_of_mem h
 exact ⟨k,hk,by rw [List.getD_eq_getElem?_getD,List.getElem?_eq_getElem hk];exact e⟩
theorem Rst.Ok.goes {r:Rst} (h:r.Ok) {y z:Int} (g:J4r r y z):∃ i k,AtR r.ls r.top y i∧AtR r.ls r.bot z k∧r.bot.getD k 0=r.top.getD i 0∧
  z - J1e r.ls r.bot k=(if r.ts.getD (r.top.getD i 0) false=true then r.ls.getD (r.top.getD i 0) 0 - 1 - (y - J1e r.ls r.top i) else y - J1e r.ls r.top i):=by
 obtain ⟨i,⟨i1,i2,i3⟩,rfl⟩:=g
 obtain ⟨k,hk,ek⟩:=mem_at (h.perm.mem_iff.mpr (J1u i1))
 have f:=h.rowB.first hk
 rw [ek] at f
 rw [J18] at i3
 refine ⟨i,k,⟨i1,i2,by rw [J18];exact i3⟩,?_,ek,?_⟩
 ·unfold moveN
  refine ⟨hk,?_,?_⟩
  ·rw [f];split <;> lia
  ·rw [J18,ek,f];split <;> lia
 ·unfold moveN
  rw [f];split <;> lia
theorem Rst.Ok.fun_ {r:Rst} (h:r.Ok) {y z z':Int} (a:J4r r y z) (b:J4r r y z'):z=z':=by
 obtain ⟨i,hi,rfl⟩:=a
 obtain ⟨k,hk,rfl⟩:=b
 obtain rfl:=h.row.unique hi hk
 rfl
theorem Rst.Ok.inj {r:Rst} (h:r.Ok) {y y' z:Int} (a:J4r r y z) (b:J4r r y' z):y=y':=by
 obtain ⟨i,k,hi,hk,e1,o1⟩:=h.goes a
 obtain ⟨i',k',hi',hk',e2,o2⟩:=h.goes b
 obtain rfl:=h.rowB.unique hk hk'
 rw [e1] at e2
 obtain rfl:=h.row.inj hi.1 hi'.1 e2
 rw [o1] at o2
 split at o2 <;> lia
theorem Rst.Ok.there {r:Rst} (h:r.Ok) {y:Int} (h0:0≤y) (h1:y < r.size):∃ z,J4r r y z:=by
 obtain ⟨i,hi⟩:=h.row.exists h0 h1
 exact ⟨_,i,hi,rfl⟩
theorem Rst.Ok.stays {r:Rst} (h:r.Ok) {y z:Int} (a:J4r r y z):0≤z∧z < r.size:=by
 obtain ⟨i,k,_,hk,_,_⟩:=h.goes a
 have:=h.rowB.inside hk
 rw [h.sizeB] at this
 exact this
theorem whole_ok {ls:List Int} {os:List Nat} {ts:List Bool} (hp:os.Perm (List.range ls.length)) (pos:∀ a∈ls,1≤a) (hts:ts.length=ls.length) (few:ls.length≤24):(Rst.mk (List.range ls.length) os ls ts).Ok where
 row:=⟨List.nodup_range,fun j hj=>List.mem_range.mp hj,fun j hj=>pos _ (getD_memI (List.mem_range.mp hj))⟩
 perm:=hp
 zl:=fun j hj=>by
  have hj:¬ j < ls.length:=fun q=>hj (List.mem_range.mpr q)
  show ls.getD j 0=0
  rw [List.getD_eq_getElem?_getD,List.getElem?_eq_none (by lia)];rfl
 zt:=fun j hj=>by
  have hj:¬ j < ls.length:=fun q=>hj (List.mem_range.mpr q)
  show ts.getD j false=false
  rw [List.getD_eq_getElem?_getD,List.getElem?_eq_none (by lia)];rfl
 len:=hts
 few:=few
end Rl
namespace Rl
end Rl
namespace Rl
def J1 (row:List Nat) (a:Nat):List Nat:=row.drop (row.idxOf a + 1)
def withoutR (row:List Nat) (x:Nat):List Nat:=row.filter fun j=>decide (j≠x)
def putR (row:List Nat) (w l:Nat) (ahead:Bool):List Nat :=
 (withoutR row l).take (if ahead=true then (withoutR row l).idxOf w else (withoutR row l).idxOf w + 1) ++ [l] ++ (withoutR row l).drop (if ahead=true then (withoutR row l).idxOf w else (withoutR row l).idxOf w + 1)
theorem mem_without {row:List Nat} {x j:Nat}:j∈withoutR row x↔j∈row∧j≠x:=by
 unfold withoutR
 rw [List.mem_filter,decide_eq_true_iff]
theorem J2o {row:List Nat} (h:row.Nodup) (x:Nat):(withoutR row x).Nodup:=h.filter _
theorem J29 {row:List Nat} (h:row.Nodup) {x:Nat} (hx:x∈row):(withoutR row x).length + 1=row.length:=by
 induction row with
 | nil=>cases hx
 | cons a r ih =>
  obtain ⟨h1,h2⟩:=List.nodup_cons.mp h
  unfold withoutR
  rw [List.filter_cons]
  by_cases e:a=x
  ·subst e
   have:r.filter (fun j=>decide (j≠a))=r:=List.filter_eq_self.mpr fun j hj=>decide_eq_true (fun q=>h1 (q ▸ hj))
   rw [if_neg (by simp),this];rfl
  ·rw [if_pos (by simpa using e)]
   have hx':x∈r:=(List.mem_cons.mp hx).resolve_left (fun q=>e q.symm)
   have:=ih h2 hx'
   unfold withoutR at this
   simp only [List.length_cons]
   omega
theorem J2c {row:List Nat} (h:row.Nodup) {x:Nat} (hx:x∈row):(x :: withoutR row x).Perm row:=by
 refine (List.perm_ext_iff_of_nodup (List.nodup_cons.mpr ⟨fun q=>(mem_without.mp q).2 rfl,J2o h x⟩) h).mpr fun j=>?_
 rw [List.mem_cons,mem_without]
 constructor
 ·rintro (rfl | q)
  ·exact hx
  ·exact q.1
 ·intro q
  by_cases e:j=x
  ·exact .inl e
  ·exact .inr ⟨q,e⟩
theorem J1q {row:List Nat} (h:row.Nodup) {w l:Nat} (hl:l∈row) (ahead:Bool):(putR row w l ahead).Perm row:=by
 unfold putR
 generalize (if ahead=true then (withoutR row l).idxOf w else (withoutR row l).idxOf w + 1)=n
 refine List.Perm.trans ?_ (J2c h hl)
 have e:l :: withoutR row l=[l] ++ ((withoutR row l).take n ++ (withoutR row l).drop n):=by rw [List.take_append_drop];rfl
 rw [e,← List.append_assoc]
 exact List.Perm.append_right _ List.perm_append_comm
theorem J1r {xs ys:List Nat} (h:xs.Perm ys) (x:Nat):(withoutR xs x).Perm (withoutR ys x):=h.filter _
theorem J15 (f:List Int) (p q:Nat) (v:Int) (hp:p < f.length):(f.set p v).getD q 0=if q=p then v else f.getD q 0:=set_get f p q v hp
theorem J1w (f:List Bool) (p q:Nat) (v:Bool) (hp:p < f.length):(f.set p v).getD q false=if q=p then v else f.getD q false:=by
 rw [List.getD_eq_getElem?_getD,List.getD_eq_getElem?_getD]
 by_cases e:q=p
 ·subst e;rw [List.getElem?_set_self hp,if_pos rfl];rfl
 ·rw [List.getElem?_set_ne (Ne.symm e),if_neg e]
inductive Stp where
 | home (a:Nat) | even (a b:Nat) | over (a b:Nat) | under (a b:Nat) | overs (a:Nat) (t:Int) | unders (a:Nat) (t:Int)
def Stp.winner:Stp→Nat
 | .home a=>a | .even a _=>a | .over a _=>a | .under a _=>a | .overs a _=>a | .unders a _=>a
def Stp.times:Stp→Int
 | .overs _ t=>t | .unders _ t=>t | _=>1
def Stp.losers (r:Rst):Stp→List Nat
 | .home _=>[] | .even _ b=>[b] | .over _ b=>[b] | .under _ b=>[b] | .overs a _=>J1 r.bot a | .unders a _=>J1 r.top a
def Stp.own:Stp→Bool
 | .even _ _=>true | .over _ _=>true | .overs _ _=>true | _=>false
def J22 (r:Rst) (w l:Nat):List Bool:=r.ts.set l (r.ts.getD w false != r.ts.getD l false)
def Stp.behind (r:Rst):Stp→Rst
 | .home a=>⟨withoutR r.top a,withoutR r.bot a,r.ls.set a 0,r.ts.set a false⟩
 | .even a b=>⟨withoutR r.top a,withoutR (putR r.bot a b false) a,r.ls.set a 0,(J22 r a b).set a false⟩
 | .over a b=>⟨r.top,putR r.bot a b (r.ts.getD a false),r.ls.set a (r.ls.getD a 0 - r.ls.getD b 0),J22 r a b⟩
 | .under a b=>⟨putR r.top a b (r.ts.getD a false),r.bot,r.ls.set a (r.ls.getD a 0 - r.ls.getD b 0),J22 r a b⟩
 | .overs a t=>⟨r.top,r.bot,r.ls.set a (r.ls.getD a 0 - t * lenOf r.ls (J1 r.bot a)),r.ts⟩
 | .unders a t=>⟨r.top,r.bot,r.ls.set a (r.ls.getD a 0 - t * lenOf r.ls (J1 r.top a)),r.ts⟩
def J10 (r:Rst) (a:Nat) (row:List Nat):Int:=if r.ts.getD a false=true then 0 else (r.ls.getD a 0 - 1) / lenOf r.ls (J1 row a)
abbrev lastT (r:Rst):Nat:=r.top.getD (r.top.length - 1) 0
abbrev lastB (r:Rst):Nat:=r.bot.getD (r.bot.length - 1) 0
def nextN (r:Rst):Stp :=
 if lastT r=lastB r then .home (lastT r)
 else if r.ls.getD (lastT r) 0=r.ls.getD (lastB r) 0 then .even (lastT r) (lastB r)
 else if r.ls.getD (lastB r) 0 < r.ls.getD (lastT r) 0 then
  (if 0 < J10 r (lastT r) r.bot then .overs (lastT r) (J10 r (lastT r) r.bot) else .over (lastT r) (lastB r))
 else (if 0 < J10 r (lastB r) r.top then .unders (lastB r) (J10 r (lastB r) r.top) else .under (lastB r) (lastT r))
theorem Rst.Ok.lens {r:Rst} (h:r.Ok):r.bot.length=r.top.length:=h.perm.length_eq
theorem Rst.Ok.mT {r:Rst} (h:r.Ok) (ne:r.top≠[]):lastT r∈r.top:=J1u (by have:=List.length_pos_iff.mpr ne;omega)
theorem Rst.Ok.mB {r:Rst} (h:r.Ok) (ne:r.top≠[]):lastB r∈r.top:=h.perm.mem_iff.mp (J1u (by have:=List.length_pos_iff.mpr ne;have:=h.lens;omega))
theorem Jg {row:List Nat} {n j:Nat} (h:j∈row.drop n):j∈row:=List.mem_of_mem_drop h
theorem J28 {row:List Nat} {a:Nat} (ha:a∈row) (h:row.getD (row.length - 1) 0≠a):J1 row a≠[]:=by
 unfold J1
 have h1:row.idxOf a < row.length:=List.idxOf_lt_length_iff.mpr ha
 intro e
 have h2:=List.drop_eq_nil_iff.mp e
 have h3:row.idxOf a=row.length - 1:=by omega
 apply h
 rw [← h3,List.getD_eq_getElem?_getD,List.getElem?_eq_getElem h1]
 exact List.getElem_idxOf h1
theorem Rst.Ok.of_rows {r:Rst} (h:r.Ok) {top bot:List Nat} {ls:List Int} {ts:List Bool} (ht:top.Perm r.top) (hb:bot.Perm r.top) (hl:ls.length=r.ls.length) (htl:ts.length=r.ts.length)
  (pos:∀ j∈r.top,1≤ls.getD j 0) (zl:∀ j,j ∉ r.top→ls.getD j 0=0) (zt:∀ j,j ∉ r.top→ts.getD j false=false):(Rst.mk top bot ls ts).Ok where
 row:=⟨ht.nodup_iff.mpr h.row.nd,fun j hj=>by rw [hl];exact h.row.lt j (ht.mem_iff.mp hj),fun j hj=>pos j (ht.mem_iff.mp hj)⟩
 perm:=hb.trans ht.symm
 zl:=fun j hj=>zl j fun q=>hj (ht.mem_iff.mpr q)
 zt:=fun j hj=>zt j fun q=>hj (ht.mem_iff.mpr q)
 len:=by show ts.length=ls.length;rw [hl,htl];exact h.len
 few:=by show ls.length≤24;rw [hl];exact h.few
theorem J2a {r:Rst} (h:r.Ok) {w l:Nat} (hl:l∈r.top):∀ j,j ∉ r.top→(J22 r w l).getD j false=false:=fun j hj=>by
 unfold J22
 rw [J1w _ _ _ _ (by rw [h.len];exact h.row.lt l hl),if_neg (show ¬ j=l from fun e=>hj (by rw [e];exact hl))]
 exact h.zt j hj
theorem J42 {r:Rst} (h:r.Ok) {a:Nat} {v:Int} (ha:a∈r.top):∀ j,j ∉ r.top→(r.ls.set a v).getD j 0=0:=fun j hj=>by
 rw [J15 _ _ _ _ (h.row.lt a ha),if_neg (show ¬ j=a from fun e=>hj (by rw [e];exact ha))]
 exact h.zl j hj
theorem J41 {r:Rst} (h:r.Ok) {a:Nat} {v:Int} (ha:a∈r.top) (hv:1≤v):∀ j∈r.top,1≤(r.ls.set a v).getD j 0:=fun j hj=>by
 rw [J15 _ _ _ _ (h.row.lt a ha)]
 split
 ·exact hv
 ·exact h.row.pos j hj
theorem J17 (r:Rst) (w l:Nat):(J22 r w l).length=r.ts.length:=by unfold J22;rw [List.length_set]
theorem Rst.Ok.less {r:Rst} (h:r.Ok) {a:Nat} (ha:a∈r.top) {bot:List Nat} {ts:List Bool} (hb:bot.Perm (withoutR r.top a)) (htl:ts.length=r.ts.length) (zt:∀ j,j ∉ r.top→ts.getD j false=false) (za:ts.getD a false=false):(Rst.mk (withoutR r.top a) bot (r.ls.set a 0) ts).Ok where
 row:=⟨J2o h.row.nd a,fun j hj=>by rw [List.length_set];exact h.row.lt j (mem_without.mp hj).1,fun j hj=>by
  rw [J15 _ _ _ _ (h.row.lt a ha),if_neg (mem_without.mp hj).2]
  exact h.row.pos j (mem_without.mp hj).1⟩
 perm:=hb
 zl:=fun j hj=>by
  show (r.ls.set a 0).getD j 0=0
  rw [J15 _ _ _ _ (h.row.lt a ha)]
  split
  ·rfl
  ·rename_i e
   exact h.zl j fun q=>hj (mem_without.mpr ⟨q,e⟩)
 zt:=fun j hj=>by
  by_cases e:j=a
  ·subst e;exact za
  ·exact zt j fun q=>hj (mem_without.mpr ⟨q,e⟩)
 len:=by show ts.length=(r.ls.set a 0).length;rw [List.length_set,htl];exact h.len
 few:=by show (r.ls.set a 0).length≤24;rw [List.length_set];exact h.few
theorem times_fit {la s:Int} (hs:1≤s):(la - 1) / s * s≤la - 1:=Int.ediv_mul_le _ (by omega)
theorem J1g {r:Rst} (h:r.Ok) (ne:r.top≠[]) {p:Stp→Prop}
  (hh:lastT r=lastB r→p (.home (lastT r)))
  (he:lastT r≠lastB r→r.ls.getD (lastT r) 0=r.ls.getD (lastB r) 0→p (.even (lastT r) (lastB r)))
  (hov:lastT r≠lastB r→r.ls.getD (lastB r) 0 < r.ls.getD (lastT r) 0→(r.ts.getD (lastT r) false=true∨r.ls.getD (lastT r) 0≤lenOf r.ls (J1 r.bot (lastT r)))→p (.over (lastT r) (lastB r)))
  (hun:lastT r≠lastB r→r.ls.getD (lastT r) 0 < r.ls.getD (lastB r) 0→(r.ts.getD (lastB r) false=true∨r.ls.getD (lastB r) 0≤lenOf r.ls (J1 r.top (lastB r)))→p (.under (lastB r) (lastT r)))
  (hos:∀ t,lastT r≠lastB r→r.ls.getD (lastB r) 0 < r.ls.getD (lastT r) 0→r.ts.getD (lastT r) false=false→1≤t→1≤lenOf r.ls (J1 r.bot (lastT r))→lenOf r.ls (J1 r.bot (lastT r)) < r.ls.getD (lastT r) 0→t=(r.ls.getD (lastT r) 0 - 1) / lenOf r.ls (J1 r.bot (lastT r))→t * lenOf r.ls (J1 r.bot (lastT r)) < r.ls.getD (lastT r) 0→p (.overs (lastT r) t))
  (hus:∀ t,lastT r≠lastB r→r.ls.getD (lastT r) 0 < r.ls.getD (lastB r) 0→r.ts.getD (lastB r) false=false→1≤t→1≤lenOf r.ls (J1 r.top (lastB r))→lenOf r.ls (J1 r.top (lastB r)) < r.ls.getD (lastB r) 0→t=(r.ls.getD (lastB r) 0 - 1) / lenOf r.ls (J1 r.top (lastB r))→t * lenOf r.ls (J1 r.top (lastB r)) < r.ls.getD (lastB r) 0→p (.unders (lastB r) t)):p (nextN r):=by
 unfold nextN
 have mT:=h.mT ne
 have mB:=h.mB ne
 by_cases c1:lastT r=lastB r
 ·rw [if_pos c1];exact hh c1
 rw [if_neg c1]
 by_cases c2:r.ls.getD (lastT r) 0=r.ls.getD (lastB r) 0
 ·rw [if_pos c2];exact he c1 c2
 rw [if_neg c2]
 have key:∀ (row:List Nat) (a:Nat),a∈row→(∀ j∈row,1≤r.ls.getD j 0)→row.getD (row.length - 1) 0≠a→
   1≤lenOf r.ls (J1 row a)∧(0 < J10 r a row→r.ts.getD a false=false∧1≤J10 r a row∧lenOf r.ls (J1 row a) < r.ls.getD a 0∧J10 r a row=(r.ls.getD a 0 - 1) / lenOf r.ls (J1 row a)∧J10 r a row * lenOf r.ls (J1 row a) < r.ls.getD a 0)∧
   (¬ 0 < J10 r a row→r.ts.getD a false=true∨r.ls.getD a 0≤lenOf r.ls (J1 row a)):=fun row a ha hp hl=>by
  have hs:1≤lenOf r.ls (J1 row a):=J20 (fun j hj=>hp j (Jg hj)) (J28 ha hl)
  refine ⟨hs,fun hw=>?_,fun hw=>?_⟩
  ·by_cases ct:r.ts.getD a false=true
   ·unfold J10 at hw;rw [if_pos ct] at hw;omega
   ·have e:J10 r a row=(r.ls.getD a 0 - 1) / lenOf r.ls (J1 row a):=by unfold J10;rw [if_neg ct]
    have h1:=times_fit (la:=r.ls.getD a 0) hs
    rw [e] at hw ⊢
    refine ⟨by simpa using ct,by omega,?_,rfl,by omega⟩
    have h2:lenOf r.ls (J1 row a) * 1≤lenOf r.ls (J1 row a) * ((r.ls.getD a 0 - 1) / lenOf r.ls (J1 row a)):=Int.mul_le_mul_of_nonneg_left (by omega) (by omega)
    rw [Int.mul_comm (lenOf r.ls (J1 row a)) ((r.ls.getD a 0 - 1) / lenOf r.ls (J1 row a))] at h2
    omega
  ·by_cases ct:r.ts.getD a false=true
   ·exact .inl ct
   ·right
    have e:J10 r a row=(r.ls.getD a 0 - 1) / lenOf r.ls (J1 row a):=by unfold J10;rw [if_neg ct]
    rw [e] at hw
    by_cases q:r.ls.getD a 0≤lenOf r.ls (J1 row a)
    ·exact q
    ·have:=(Int.le_ediv_iff_mul_le (a:=1) (b:=r.ls.getD a 0 - 1) (c:=lenOf r.ls (J1 row a)) (by omega)).mpr (by omega)
     omega
 by_cases c3:r.ls.getD (lastB r) 0 < r.ls.getD (lastT r) 0
 ·rw [if_pos c3]
  obtain ⟨hs,k1,k2⟩:=key r.bot (lastT r) (h.perm.mem_iff.mpr mT) (fun j hj=>h.rowB.pos j hj) (fun e=>c1 e.symm)
  by_cases c4:0 < J10 r (lastT r) r.bot
  ·rw [if_pos c4]
   obtain ⟨q1,q2,q3,q4,q5⟩:=k1 c4
   exact hos _ c1 c3 q1 q2 hs q3 q4 q5
  ·rw [if_neg c4];exact hov c1 c3 (k2 c4)
 ·rw [if_neg c3]
  have c3':r.ls.getD (lastT r) 0 < r.ls.getD (lastB r) 0:=by omega
  obtain ⟨hs,k1,k2⟩:=key r.top (lastB r) mB (fun j hj=>h.row.pos j hj) c1
  by_cases c4:0 < J10 r (lastB r) r.top
  ·rw [if_pos c4]
   obtain ⟨q1,q2,q3,q4,q5⟩:=k1 c4
   exact hus _ c1 c3' q1 q2 hs q3 q4 q5
  ·rw [if_neg c4];exact hun c1 c3' (k2 c4)
theorem Rst.Ok.next {r:Rst} (h:r.Ok) (ne:r.top≠[]):((nextN r).behind r).Ok:=by
 have mT:=h.mT ne
 have mB:=h.mB ne
 have mTb:=h.perm.mem_iff.mpr mT
 have mBb:=h.perm.mem_iff.mpr mB
 have ndB:=h.rowB.nd
 refine J1g h ne (p:=fun s=>(s.behind r).Ok) (fun _=>?_) (fun c1 c2=>?_) (fun c1 c2 _=>?_) (fun c1 c2 _=>?_) (fun t c1 c2 c3 c4 c5 _ c6 c7=>?_) (fun t c1 c2 c3 c4 c5 _ c6 c7=>?_)
 ·refine h.less mT (J1r h.perm _) (by rw [List.length_set]) (fun j hj=>?_) ?_
  ·rw [J1w _ _ _ _ (by rw [h.len];exact h.row.lt _ mT)]
   split
   ·rfl
   ·exact h.zt j hj
  ·rw [J1w _ _ _ _ (by rw [h.len];exact h.row.lt _ mT),if_pos rfl]
 ·refine h.less mT ((J1r (J1q ndB mBb false) _).trans (J1r h.perm _)) (by rw [List.length_set,J17]) (fun j hj=>?_) ?_
  ·rw [J1w _ _ _ _ (by rw [J17,h.len];exact h.row.lt _ mT)]
   split
   ·rfl
   ·exact J2a h mB j hj
  ·rw [J1w _ _ _ _ (by rw [J17,h.len];exact h.row.lt _ mT),if_pos rfl]
 ·exact h.of_rows (List.Perm.refl _) ((J1q ndB mBb _).trans h.perm) (by rw [List.length_set]) (J17 _ _ _) (J41 h mT (by omega)) (J42 h mT) (J2a h mB)
 ·exact h.of_rows (J1q h.row.nd mT _) h.perm (by rw [List.length_set]) (J17 _ _ _) (J41 h mB (by omega)) (J42 h mB) (J2a h mT)
 ·exact h.of_rows (List.Perm.refl _) h.perm (by rw [List.length_set]) rfl (J41 h mT (by omega)) (J42 h mT) h.zt
 ·exact h.of_rows (List.Perm.refl _) h.perm (by rw [List.length_set]) rfl (J41 h mB (by omega)) (J42 h mB) h.zt
theorem J67:∀ (n:Nat) (row:List Nat),row.Nodup→(∀ j∈row,j < n)→row.length≤n
 | 0,row,_,h=>by
  cases row with
  | nil=>exact Nat.le_refl _
  | cons a r=>exact absurd (h a List.mem_cons_self) (Nat.not_lt_zero _)
 | n + 1,row,nd,h=>by
  by_cases c:n∈row
  ·have h1:=J29 nd c
   have h2:=J67 n (withoutR row n) (J2o nd n) fun j hj=>by
    have:=h j (mem_without.mp hj).1
    have:=(mem_without.mp hj).2
    omega
   omega
  ·have:=J67 n row nd fun j hj=>by
    have h1:=h j hj
    have h2:j≠n:=fun e=>c (e ▸ hj)
    omega
   omega
theorem Row.len_le {ls:List Int} {row:List Nat} (h:Row ls row):row.length≤ls.length:=J67 _ _ h.nd h.lt
end Rl
namespace Rl
theorem J3k {row:List Nat} (h:row≠[]):row=row.dropLast ++ [row.getD (row.length - 1) 0]:=by
 have hl:=List.length_pos_iff.mpr h
 have e:row.getD (row.length - 1) 0=row.getLast h:=by
  rw [List.getD_eq_getElem?_getD,List.getElem?_eq_getElem (by omega),List.getLast_eq_getElem];rfl
 rw [e]
 exact (List.dropLast_concat_getLast h).symm
theorem J1p (xs ys:List Nat) (x:Nat):withoutR (xs ++ ys) x=withoutR xs x ++ withoutR ys x:=by unfold withoutR;rw [List.filter_append]
theorem J1o {xs:List Nat} {x:Nat} (h:x ∉ xs):withoutR xs x=xs:=List.filter_eq_self.mpr fun j hj=>decide_eq_true (fun e=>h (e ▸ hj))
theorem J21 (x:Nat):withoutR [x] x=[]:=by unfold withoutR;simp
theorem J2d {row:List Nat} (nd:row.Nodup) (h:row≠[]):withoutR row (row.getD (row.length - 1) 0)=row.dropLast:=by
 have e:=J3k h
 generalize row.getD (row.length - 1) 0=z at *
 generalize row.dropLast=d at *
 subst e
 have hn:z ∉ d:=fun q=>(List.nodup_append.mp nd).2.2 z q z (by simp) rfl
 rw [J1p,J1o hn,J21,List.append_nil]
theorem J74 {s:List Nat} {a:Nat} (t:List Nat) (h:a ∉ s):(s ++ a :: t).idxOf a=s.length:=by
 induction s with
 | nil=>simp
 | cons x s ih =>
  have hx:(x == a)=false:=by
   have:x≠a:=fun e=>h (by rw [e];exact List.mem_cons_self)
   simpa using this
  rw [List.cons_append,List.idxOf_cons,hx,ih fun q=>h (List.mem_cons_of_mem _ q)]
  rfl
theorem even_row {row:List Nat} (nd:row.Nodup) {a b:Nat} (ha:a∈row) (hb:row.getD (row.length - 1) 0=b) (hab:a≠b):(row.set (row.idxOf a) b).dropLast=withoutR (putR row a b false) a:=by
 have hne:row≠[]:=fun e=>by rw [e] at ha;cases ha
 have e:=J3k hne
 rw [hb] at e
 generalize row.dropLast=d at e
 subst e
 have had:a∈d:=(List.mem_append.mp ha).resolve_right fun q=>hab (List.mem_singleton.mp q)
 obtain ⟨s,t,rfl⟩:=List.append_of_mem had
 have n1:=List.nodup_append.mp nd
 have n2:=List.nodup_append.mp n1.1
 have n3:=List.nodup_cons.mp n2.2.1
 have as:a ∉ s:=fun q=>n2.2.2 a q a List.mem_cons_self rfl
 have bd:b ∉ s ++ a :: t:=fun q=>n1.2.2 b q b (by simp) rfl
 have bs:b ∉ s:=fun q=>bd (List.mem_append_left _ q)
 have bt:b ∉ t:=fun q=>bd (List.mem_append_right _ (List.mem_cons_of_mem _ q))
 have at_:a ∉ t:=n3.1
 have e1:s ++ a :: t ++ [b]=s ++ a :: (t ++ [b]):=by simp
 have w1:withoutR (s ++ a :: t ++ [b]) b=s ++ a :: t:=by
  rw [J1p,J21,List.append_nil]
  exact J1o bd
 unfold putR
 rw [w1,J74 t as,if_neg (by decide),e1,J74 (t ++ [b]) as]
 have t1:(s ++ a :: t).take (s.length + 1)=s ++ [a]:=by
  rw [show s ++ a :: t=(s ++ [a]) ++ t by simp,show s.length + 1=(s ++ [a]).length by simp,List.take_left]
 have t2:(s ++ a :: t).drop (s.length + 1)=t:=by
  rw [show s ++ a :: t=(s ++ [a]) ++ t by simp,show s.length + 1=(s ++ [a]).length by simp,List.drop_left]
 rw [t1,t2,J1p,J1p,J1p,J1o as,J21,List.append_nil,J1o at_,J1o (xs:=[b]) (by simpa using hab)]
 rw [List.set_append_right _ _ (Nat.le_refl _)]
 simp only [Nat.sub_self,List.set_cons_zero]
 rw [show s ++ b :: (t ++ [b])=(s ++ b :: t) ++ [b] by simp,List.dropLast_concat]
 simp
theorem J4h (ls:List Int) (p:Nat→Bool):∀ os:List Nat,(∀ j∈os,p j=false→ls.getD j 0=0)→lenOf ls (os.filter p)=lenOf ls os
 | [],_=>rfl
 | a :: r,h=>by
  have ih:=J4h ls p r fun j hj=>h j (List.mem_cons_of_mem _ hj)
  rw [List.filter_cons,Ji]
  cases c:p a with
  | true=>rw [if_pos rfl,Ji,ih]
  | false=>rw [if_neg (by decide),ih,h a List.mem_cons_self c,Int.zero_add]
theorem Rst.Ok.size_sum {r:Rst} (h:r.Ok):r.size=r.ls.sum:=by
 have h1:lenOf r.ls (List.range r.ls.length)=r.ls.sum:=by unfold lenOf;rw [J3o]
 rw [← h1,← J4h r.ls (fun j=>decide (j∈r.top)) (List.range r.ls.length) fun j _ hj=>h.zl j (of_decide_eq_false hj)]
 refine J1n ?_
 refine (List.perm_ext_iff_of_nodup h.row.nd (List.nodup_range.filter _)).mpr fun j=>?_
 rw [List.mem_filter,List.mem_range,decide_eq_true_iff]
 exact ⟨fun q=>⟨h.row.lt j q,q⟩,fun q=>q.2⟩
def NextP (r:Rst):Stp→Prop
 | .home a=>a=lastT r∧a=lastB r
 | .even a b=>a=lastT r∧b=lastB r∧a≠b∧r.ls.getD a 0=r.ls.getD b 0
 | .over a b=>a=lastT r∧b=lastB r∧a≠b∧r.ls.getD b 0 < r.ls.getD a 0
 | .under a b=>a=lastB r∧b=lastT r∧a≠b∧r.ls.getD b 0 < r.ls.getD a 0
 | .overs a t=>a=lastT r∧a≠lastB r∧r.ts.getD a false=false∧1≤t∧1≤lenOf r.ls (J1 r.bot a)∧t * lenOf r.ls (J1 r.bot a) < r.ls.getD a 0
 | .unders a t=>a=lastB r∧a≠lastT r∧r.ts.getD a false=false∧1≤t∧1≤lenOf r.ls (J1 r.top a)∧t * lenOf r.ls (J1 r.top a) < r.ls.getD a 0
theorem nextP {r:Rst} (h:r.Ok) (ne:r.top≠[]):NextP r (nextN r) :=
 J1g h ne (p:=NextP r) (fun c=>⟨rfl,c⟩) (fun c1 c2=>⟨rfl,rfl,c1,c2⟩) (fun c1 c2 _=>⟨rfl,rfl,c1,c2⟩) (fun c1 c2 _=>⟨rfl,rfl,fun e=>c1 e.symm,c2⟩)
  (fun t c1 c2 c3 c4 c5 _ _ c6=>⟨rfl,c1,c3,c4,c5,c6⟩) (fun t c1 c2 c3 c4 c5 _ _ c6=>⟨rfl,fun e=>c1 e.symm,c3,c4,c5,c6⟩)
theorem NextP.win {r:Rst} (h:r.Ok) (ne:r.top≠[]) {s:Stp} (n:NextP r s):s.winner∈r.top:=by
 have mT:=h.mT ne
 have mB:=h.mB ne
 cases s with
 | home a=>rw [show (Stp.home a).winner=a from rfl,n.1];exact mT
 | even a b=>rw [show (Stp.even a b).winner=a from rfl,n.1];exact mT
 | over a b=>rw [show (Stp.over a b).winner=a from rfl,n.1];exact mT
 | under a b=>rw [show (Stp.under a b).winner=a from rfl,n.1];exact mB
 | overs a t=>rw [show (Stp.overs a t).winner=a from rfl,n.1];exact mT
 | unders a t=>rw [show (Stp.unders a t).winner=a from rfl,n.1];exact mB
theorem Rst.Ok.le_size {r:Rst} (h:r.Ok) {j:Nat} (hj:j∈r.top):r.ls.getD j 0≤r.size:=lenOf_mem (fun j hj=>by have:=h.row.pos j hj;omega) hj
theorem NextP.times {r:Rst} (h:r.Ok) (ne:r.top≠[]) {s:Stp} (n:NextP r s) (hz:r.size≤10 ^ 30):s.times.natAbs≤10 ^ 30:=by
 have hw:=h.le_size (n.win h ne)
 have key:∀ {t l s:Int},1≤t→1≤s→t * s < l→t≤l:=fun {t l s} h1 h2 h3=>by
  have:t * 1≤t * s:=Int.mul_le_mul_of_nonneg_left h2 (by omega)
  omega
 cases s with
 | overs a t =>
  obtain ⟨_,_,_,h4,h5,h6⟩:=n
  have:=key h4 h5 h6
  show t.natAbs≤10 ^ 30
  have hw:r.ls.getD a 0≤r.size:=hw
  omega
 | unders a t =>
  obtain ⟨_,_,_,h4,h5,h6⟩:=n
  have:=key h4 h5 h6
  show t.natAbs≤10 ^ 30
  have hw:r.ls.getD a 0≤r.size:=hw
  omega
 | home a=>show (1:Int).natAbs≤10 ^ 30;decide
 | even a b=>show (1:Int).natAbs≤10 ^ 30;decide
 | over a b=>show (1:Int).natAbs≤10 ^ 30;decide
 | under a b=>show (1:Int).natAbs≤10 ^ 30;decide
theorem NextP.losers_lt {r:Rst} (h:r.Ok) (ne:r.top≠[]) {s:Stp} (n:NextP r s):(∀ j∈s.losers r,j∈r.top)∧(s.losers r).length≤24:=by
 have mT:=h.mT ne
 have mB:=h.mB ne
 have l1:=Nat.le_trans h.row.len_le h.few
 have l2:=Nat.le_trans h.rowB.len_le h.few
 cases s with
 | home a=>exact ⟨fun j hj=>absurd hj (by simp [Stp.losers]),Nat.zero_le _⟩
 | even a b=>exact ⟨fun j hj=>by rw [List.mem_singleton.mp hj,n.2.1];exact mB,by show 1≤24;decide⟩
 | over a b=>exact ⟨fun j hj=>by rw [List.mem_singleton.mp hj,n.2.1];exact mB,by show 1≤24;decide⟩
 | under a b=>exact ⟨fun j hj=>by rw [List.mem_singleton.mp hj,n.2.1];exact mT,by show 1≤24;decide⟩
 | overs a t=>exact ⟨fun j hj=>h.perm.mem_iff.mp (Jg hj),by show (J1 r.bot a).length≤24;unfold J1;rw [List.length_drop];omega⟩
 | unders a t=>exact ⟨fun j hj=>Jg hj,by show (J1 r.top a).length≤24;unfold J1;rw [List.length_drop];omega⟩
theorem NextP.losers_nd {r:Rst} (h:r.Ok) {s:Stp}:(s.losers r).Nodup:=by
 cases s with
 | home a=>exact List.nodup_nil
 | even a b=>exact (by simp:[b].Nodup)
 | over a b=>exact (by simp:[b].Nodup)
 | under a b=>exact (by simp:[b].Nodup)
 | overs a t=>exact List.Sublist.nodup (List.drop_sublist _ _) h.rowB.nd
 | unders a t=>exact List.Sublist.nodup (List.drop_sublist _ _) h.row.nd
end Rl
namespace Rl
theorem Jm (ls:List Int) {a:Nat} (v:Int):∀ {row:List Nat},a ∉ row→lenOf (ls.set a v) row=lenOf ls row
 | [],_=>rfl
 | b :: row,h=>by
  have h1:a≠b:=fun e=>h (e ▸ List.mem_cons_self ..)
  rw [Ji,Ji,Jm ls v (row:=row) fun q=>h (List.mem_cons_of_mem _ q)]
  rw [List.getD_eq_getElem?_getD,List.getD_eq_getElem?_getD,List.getElem?_set_ne h1]
theorem J1z (ls:List Int) {a:Nat} (v:Int) (ha:a < ls.length):∀ {row:List Nat},row.Nodup→a∈row→lenOf (ls.set a v) row=lenOf ls row - ls.getD a 0 + v
 | b :: row,nd,h=>by
  rw [List.nodup_cons] at nd
  rw [Ji,Ji]
  by_cases e:a=b
  ·subst e
   rw [Jm ls v nd.1,J15 _ _ _ _ ha,if_pos rfl]
   lia
  ·have h2:a∈row:=(List.mem_cons.mp h).resolve_left e
   rw [J1z ls v ha nd.2 h2,J15 _ _ _ _ ha,if_neg (fun q=>e q.symm)]
   lia
theorem J26 {ls:List Int} {row:List Nat} (nd:row.Nodup) {a:Nat} (ha:a∈row):lenOf ls (withoutR row a) + ls.getD a 0=lenOf ls row:=by
 rw [← J1n (J2c nd ha),Ji]
 lia
theorem J34 (row:List Nat) (a:Nat):a ∉ withoutR row a:=fun h=>(mem_without.mp h).2 rfl
def madeS (ls:List Int) (los:List Nat) (t:Int) (row:List Nat):Int:=(row.map fun j=>if j∈los then ls.getD j 0 * (1 + t) else ls.getD j 0).sum
theorem madeS_cons (ls:List Int) (los:List Nat) (t:Int) (j:Nat) (row:List Nat):madeS ls los t (j :: row)=(if j∈los then ls.getD j 0 * (1 + t) else ls.getD j 0) + madeS ls los t row:=by
 unfold madeS;rw [List.map_cons,List.sum_cons]
theorem madeS_eq (ls:List Int) (los:List Nat) (t:Int):∀ row:List Nat,madeS ls los t row=lenOf ls row + t * lenOf ls (row.filter fun j=>decide (j∈los))
 | []=>by unfold madeS;simp [Jt]
 | j :: row=>by
  rw [madeS_cons,Ji,madeS_eq ls los t row,List.filter_cons]
  by_cases c:j∈los
  ·rw [if_pos c,if_pos (decide_eq_true c),Ji,Int.mul_add,Int.mul_add,Int.mul_one,Int.mul_comm (ls.getD j 0) t]
   lia
  ·rw [if_neg c,if_neg (by simpa using c)]
   lia
theorem J5s {row los:List Nat} (nd:row.Nodup) (nl:los.Nodup) (hs:∀ j∈los,j∈row):(row.filter fun j=>decide (j∈los)).Perm los:=by
 refine (List.perm_ext_iff_of_nodup (nd.filter _) nl).mpr fun j=>?_
 rw [List.mem_filter,decide_eq_true_iff]
 exact ⟨fun q=>q.2,fun q=>⟨hs j q,q⟩⟩
def Stp.isHome:Stp→Bool
 | .home _=>true | _=>false
def Stp.drops:Stp→Bool
 | .home _=>true | .even _ _=>true | _=>false
theorem Js {row:List Nat} (nd:row.Nodup) {a:Nat} (ha:a∈row):a ∉ J1 row a:=fun h=>by
 unfold J1 at h
 obtain ⟨i,hi,e⟩:=List.getElem_of_mem h
 rw [List.getElem_drop] at e
 have h1:row.idxOf a < row.length:=List.idxOf_lt_length_iff.mpr ha
 have h2:row[row.idxOf a]=a:=List.getElem_idxOf h1
 have h3:=(List.getElem_inj nd).mp (e.trans h2.symm)
 lia
structure Down (r:Rst) (s:Stp):Prop where
 size:(s.behind r).size + s.times * lenOf r.ls (s.losers r) + (if s.isHome=true then r.ls.getD s.winner 0 else 0)=r.size
 less:(s.behind r).size < r.size
 made:madeS (s.behind r).ls (s.losers r) s.times (s.behind r).top=(s.behind r).size + s.times * lenOf r.ls (s.losers r)
 sub:∀ j∈(s.behind r).top,j∈r.top
 len:(s.behind r).top.length + (if s.drops=true then 1 else 0)=r.top.length
theorem J1h {r l:Rst} {los:List Nat} {t:Int} {a:Nat} {v:Int} (nd:l.top.Nodup) (nl:los.Nodup) (hs:∀ j∈los,j∈l.top) (hl:l.ls=r.ls.set a v) (ha:a ∉ los) :
  madeS l.ls los t l.top=l.size + t * lenOf r.ls los:=by
 rw [madeS_eq,J1n (J5s nd nl hs)]
 rw [hl,Jm _ _ ha,← hl]
 rfl
theorem Rst.Ok.down {r:Rst} (h:r.Ok) (ne:r.top≠[]):Down r (nextN r):=by
 have n:=nextP h ne
 have ok:=h.next ne
 have w:=n.win h ne
 have mT:=h.mT ne
 have mB:=h.mB ne
 have nd:=h.row.nd
 have ndB:=h.rowB.nd
 have nl:=NextP.losers_nd h (s:=nextN r)
 have hlt:=h.row.lt
 have pos:=h.row.pos
 generalize nextN r=s at *
 cases s with
 | home a =>
  have wa:a∈r.top:=w
  have sz:((Stp.home a).behind r).size=lenOf r.ls (withoutR r.top a):=Jm _ _ (J34 _ _)
  have e:=J26 (ls:=r.ls) nd wa
  have p:=pos a wa
  have e2:r.size=lenOf r.ls r.top:=rfl
  refine ⟨?_,by lia,?_,fun j hj=>(mem_without.mp hj).1,J29 nd wa⟩
  ·show ((Stp.home a).behind r).size + 1 * lenOf r.ls [] + (if true=true then r.ls.getD a 0 else 0)=r.size
   rw [if_pos rfl,Jt];lia
  ·exact J1h (a:=a) (v:=0) ok.row.nd nl (fun j hj=>nomatch hj) rfl (fun q=>nomatch q)
 | even a b =>
  obtain ⟨n1,n2,n3,n4⟩:=n
  have wa:a∈r.top:=w
  have wb:b∈r.top:=by rw [n2];exact mB
  have sz:((Stp.even a b).behind r).size=lenOf r.ls (withoutR r.top a):=Jm _ _ (J34 _ _)
  have e:=J26 (ls:=r.ls) nd wa
  have p:=pos a wa
  have e2:r.size=lenOf r.ls r.top:=rfl
  have eb:lenOf r.ls [b]=r.ls.getD b 0:=by rw [Ji,Jt,Int.add_zero]
  refine ⟨?_,by lia,?_,fun j hj=>(mem_without.mp hj).1,J29 nd wa⟩
  ·show ((Stp.even a b).behind r).size + 1 * lenOf r.ls [b] + (if false=true then r.ls.getD a 0 else 0)=r.size
   rw [if_neg (by decide),eb];lia
  ·refine J1h (a:=a) (v:=0) ok.row.nd nl (fun j hj=>?_) rfl (fun q=>?_)
   ·cases List.mem_singleton.mp hj
    exact mem_without.mpr ⟨wb,fun e=>n3 e.symm⟩
   ·exact n3 (List.mem_singleton.mp q)
 | over a b =>
  obtain ⟨n1,n2,n3,n4⟩:=n
  have wa:a∈r.top:=w
  have wb:b∈r.top:=by rw [n2];exact mB
  have sz:((Stp.over a b).behind r).size=lenOf r.ls r.top - r.ls.getD a 0 + (r.ls.getD a 0 - r.ls.getD b 0):=J1z _ _ (hlt a wa) nd wa
  have p:=pos b wb
  have e2:r.size=lenOf r.ls r.top:=rfl
  have eb:lenOf r.ls [b]=r.ls.getD b 0:=by rw [Ji,Jt,Int.add_zero]
  refine ⟨?_,by lia,?_,fun j hj=>hj,rfl⟩
  ·show ((Stp.over a b).behind r).size + 1 * lenOf r.ls [b] + (if false=true then r.ls.getD a 0 else 0)=r.size
   rw [if_neg (by decide),eb];lia
  ·refine J1h (a:=a) (v:=r.ls.getD a 0 - r.ls.getD b 0) ok.row.nd nl (fun j hj=>?_) rfl (fun q=>?_)
   ·cases List.mem_singleton.mp hj
    exact wb
   ·exact n3 (List.mem_singleton.mp q)
 | under a b =>
  obtain ⟨n1,n2,n3,n4⟩:=n
  have wa:a∈r.top:=w
  have wb:b∈r.top:=by rw [n2];exact mT
  have pp:=J1q nd (w:=a) wb (r.ts.getD a false)
  have sz:((Stp.under a b).behind r).size=lenOf r.ls r.top - r.ls.getD a 0 + (r.ls.getD a 0 - r.ls.getD b 0):=(J1n pp).trans (J1z _ _ (hlt a wa) nd wa)
  have p:=pos b wb
  have e2:r.size=lenOf r.ls r.top:=rfl
  have eb:lenOf r.ls [b]=r.ls.getD b 0:=by rw [Ji,Jt,Int.add_zero]
  refine ⟨?_,by lia,?_,fun j hj=>pp.mem_iff.mp hj,pp.length_eq⟩
  ·show ((Stp.under a b).behind r).size + 1 * lenOf r.ls [b] + (if false=true then r.ls.getD a 0 else 0)=r.size
   rw [if_neg (by decide),eb];lia
  ·refine J1h (a:=a) (v:=r.ls.getD a 0 - r.ls.getD b 0) ok.row.nd nl (fun j hj=>?_) rfl (fun q=>?_)
   ·cases List.mem_singleton.mp hj
    exact pp.mem_iff.mpr wb
   ·exact n3 (List.mem_singleton.mp q)
 | overs a t =>
  obtain ⟨n1,n2,n3,n4,n5,n6⟩:=n
  have wa:a∈r.top:=w
  have wab:a∈r.bot:=h.perm.mem_iff.mpr wa
  have sz:((Stp.overs a t).behind r).size=lenOf r.ls r.top - r.ls.getD a 0 + (r.ls.getD a 0 - t * lenOf r.ls (J1 r.bot a)):=J1z _ _ (hlt a wa) nd wa
  have e2:r.size=lenOf r.ls r.top:=rfl
  have p:1≤t * lenOf r.ls (J1 r.bot a):=by
   have:=Int.mul_le_mul n4 n5 (by decide) (by lia)
   lia
  refine ⟨?_,by lia,?_,fun j hj=>hj,rfl⟩
  ·show ((Stp.overs a t).behind r).size + t * lenOf r.ls (J1 r.bot a) + (if false=true then r.ls.getD a 0 else 0)=r.size
   rw [if_neg (by decide)];lia
  ·exact J1h (a:=a) ok.row.nd nl (fun j hj=>h.perm.mem_iff.mp (Jg hj)) rfl (Js ndB wab)
 | unders a t =>
  obtain ⟨n1,n2,n3,n4,n5,n6⟩:=n
  have wa:a∈r.top:=w
  have sz:((Stp.unders a t).behind r).size=lenOf r.ls r.top - r.ls.getD a 0 + (r.ls.getD a 0 - t * lenOf r.ls (J1 r.top a)):=J1z _ _ (hlt a wa) nd wa
  have e2:r.size=lenOf r.ls r.top:=rfl
  have p:1≤t * lenOf r.ls (J1 r.top a):=by
   have:=Int.mul_le_mul n4 n5 (by decide) (by lia)
   lia
  refine ⟨?_,by lia,?_,fun j hj=>hj,rfl⟩
  ·show ((Stp.unders a t).behind r).size + t * lenOf r.ls (J1 r.top a) + (if false=true then r.ls.getD a 0 else 0)=r.size
   rw [if_neg (by decide)];lia
  ·exact J1h (a:=a) ok.row.nd nl (fun j hj=>Jg hj) rfl (Js nd wa)
end Rl
namespace Rl
def fS (f:Nat→Int) (row:List Nat):Int:=(row.map f).sum
theorem fS_nil (f:Nat→Int):fS f []=0:=rfl
theorem J2r (f:Nat→Int) (j:Nat) (row:List Nat):fS f (j :: row)=f j + fS f row:=by unfold fS;rw [List.map_cons,List.sum_cons]
theorem fS_perm {f:Nat→Int} {xs ys:List Nat} (h:xs.Perm ys):fS f xs=fS f ys:=J7o (h.map _)
theorem J6i {f g:Nat→Int}:∀ {row:List Nat},(∀ j∈row,f j=g j)→fS f row=fS g row
 | [],_=>rfl
 | j :: row,h=>by
  rw [J2r,J2r,h j List.mem_cons_self,J6i fun i hi=>h i (List.mem_cons_of_mem _ hi)]
theorem fS_add (f g:Nat→Int):∀ row:List Nat,fS (fun j=>f j + g j) row=fS f row + fS g row
 | []=>rfl
 | j :: row=>by
  rw [J2r,J2r,J2r,fS_add f g row]
  lia
theorem J77 {f:Nat→Int} {row:List Nat} (nd:row.Nodup) {a:Nat} (ha:a∈row):fS f (withoutR row a) + f a=fS f row:=by
 rw [← fS_perm (J2c nd ha),J2r]
 lia
theorem fS_if (c:Int) (f:Nat→Int) (los:List Nat):∀ row:List Nat,fS (fun j=>if j∈los then c * f j else 0) row=c * fS f (row.filter fun j=>decide (j∈los))
 | []=>by simp [fS_nil]
 | j :: row=>by
  rw [J2r,fS_if c f los row,List.filter_cons]
  by_cases q:j∈los
  ·rw [if_pos q,if_pos (decide_eq_true q),J2r,Int.mul_add]
  ·rw [if_neg q,if_neg (by simpa using q)]
   lia
theorem fS_nonneg {f:Nat→Int}:∀ {row:List Nat},(∀ j∈row,0≤f j)→0≤fS f row
 | [],_=>Int.le_refl _
 | j :: row,h=>by
  rw [J2r]
  have:=h j List.mem_cons_self
  have:=fS_nonneg fun i hi=>h i (List.mem_cons_of_mem _ hi)
  lia
theorem fS_mem {f:Nat→Int}:∀ {row:List Nat},(∀ j∈row,0≤f j)→∀ {j:Nat},j∈row→f j≤fS f row
 | a :: row,h,j,hj=>by
  rw [J2r]
  have h1:=h a List.mem_cons_self
  have h2:=fS_nonneg fun i hi=>h i (List.mem_cons_of_mem _ hi)
  rcases List.mem_cons.mp hj with rfl | hj
  ·lia
  ·have:=fS_mem (fun i hi=>h i (List.mem_cons_of_mem _ hi)) hj
   lia
def towB (s:Stp) (r:Rst) (T:List Int):List Int:=(List.range T.length).map fun j=>if j∈(s.behind r).top then (if j∈s.losers r then T.getD j 0 + T.getD s.winner 0 * s.times else T.getD j 0) else 0
theorem J3s (s:Stp) (r:Rst) (T:List Int):(towB s r T).length=T.length:=by unfold towB;rw [List.length_map,List.length_range]
theorem J2k (s:Stp) (r:Rst) (T:List Int) {j:Nat} (h:j < T.length):(towB s r T).getD j 0=if j∈(s.behind r).top then (if j∈s.losers r then T.getD j 0 + T.getD s.winner 0 * s.times else T.getD j 0) else 0:=by
 unfold towB
 rw [List.getD_eq_getElem?_getD,List.getElem?_map,List.getElem?_range h];rfl
theorem towB_out (s:Stp) (r:Rst) (T:List Int) {j:Nat} (h:¬ j < T.length):(towB s r T).getD j 0=0:=by
 rw [List.getD_eq_getElem?_getD,List.getElem?_eq_none (by rw [J3s];lia)];rfl
def wS (ls T:List Int) (row:List Nat):Int:=fS (fun j=>ls.getD j 0 * T.getD j 0) row
theorem stays_aux {r l:Rst} {los:List Nat} {t v:Int} {a:Nat} {T T':List Int} (nd:r.top.Nodup) (wa:a∈r.top) (ha:a < r.ls.length) (nl:los.Nodup) (hs:∀ j∈los,j∈l.top) (al:a ∉ los) (hl:l.ls=r.ls.set a v) (ndl:l.top.Nodup)
  (hT:∀ j∈l.top,T'.getD j 0=T.getD j 0 + (if j∈los then T.getD a 0 * t else 0)) (htop:l.top.Perm r.top∨(l.top.Perm (withoutR r.top a)∧v=0)) :
  wS l.ls T' l.top=wS r.ls T r.top - r.ls.getD a 0 * T.getD a 0 + v * T.getD a 0 + T.getD a 0 * t * lenOf r.ls los:=by
 have e1:wS l.ls T' l.top=wS l.ls T l.top + T.getD a 0 * t * lenOf r.ls los:=by
  have c:wS l.ls T' l.top=fS (fun j=>l.ls.getD j 0 * T.getD j 0 + (if j∈los then (T.getD a 0 * t) * l.ls.getD j 0 else 0)) l.top:=J6i fun j hj=>by
   rw [hT j hj,Int.mul_add]
   by_cases q:j∈los
   ·rw [if_pos q,if_pos q,Int.mul_comm (l.ls.getD j 0) (T.getD a 0 * t)]
   ·rw [if_neg q,if_neg q,Int.mul_zero]
  rw [c,fS_add,fS_if]
  have e:fS (fun j=>l.ls.getD j 0) (l.top.filter fun j=>decide (j∈los))=lenOf r.ls los:=by
   rw [fS_perm (J5s ndl nl hs)]
   show lenOf l.ls los=_
   rw [hl,Jm _ _ al]
  rw [e];rfl
 have ca:l.ls.getD a 0=v:=by rw [hl,J15 _ _ _ _ ha,if_pos rfl]
 have cw:fS (fun j=>l.ls.getD j 0 * T.getD j 0) (withoutR r.top a)=fS (fun j=>r.ls.getD j 0 * T.getD j 0) (withoutR r.top a):=J6i fun j hj=>by
  have q:=(mem_without.mp hj).2
  show l.ls.getD j 0 * _=_
  rw [hl,J15 _ _ _ _ ha,if_neg q]
 have full:=J77 (f:=fun j=>r.ls.getD j 0 * T.getD j 0) nd wa
 have e2:wS l.ls T l.top=wS r.ls T r.top - r.ls.getD a 0 * T.getD a 0 + v * T.getD a 0:=by
  rcases htop with p | ⟨p,rfl⟩
  ·have e:=J77 (f:=fun j=>l.ls.getD j 0 * T.getD j 0) nd wa
   unfold wS
   rw [fS_perm p,← e,cw]
   simp only [ca] at *
   lia
  ·unfold wS
   rw [fS_perm p,cw]
   simp only [Int.zero_mul] at *
   lia
 rw [e1,e2]
theorem J68 {r:Rst} (h:r.Ok) (ne:r.top≠[]):if (nextN r).drops=true then ((nextN r).behind r).top=withoutR r.top (nextN r).winner else ((nextN r).behind r).top.Perm r.top:=by
 refine J1g h ne (p:=fun s=>if s.drops=true then (s.behind r).top=withoutR r.top s.winner else (s.behind r).top.Perm r.top) (fun _=>?_) (fun _ _=>?_) (fun _ _ _=>?_) (fun _ _ _=>?_) (fun t _ _ _ _ _ _ _ _=>?_) (fun t _ _ _ _ _ _ _ _=>?_)
 ·show withoutR r.top (lastT r)=withoutR r.top (lastT r);rfl
 ·show withoutR r.top (lastT r)=withoutR r.top (lastT r);rfl
 ·show List.Perm r.top r.top;exact List.Perm.refl _
 ·show List.Perm (putR r.top (lastB r) (lastT r) (r.ts.getD (lastB r) false)) r.top;exact J1q h.row.nd (h.mT ne) _
 ·show List.Perm r.top r.top;exact List.Perm.refl _
 ·show List.Perm r.top r.top;exact List.Perm.refl _
structure LosP (r:Rst) (s:Stp):Prop where
 sub:∀ j∈s.losers r,j∈(s.behind r).top
 no:s.winner ∉ s.losers r
 one:1≤s.times
 tl:s.isHome=false→r.ls.getD s.winner 0 - s.times * lenOf r.ls (s.losers r)=(s.behind r).ls.getD s.winner 0
 ls:(s.behind r).ls=r.ls.set s.winner ((s.behind r).ls.getD s.winner 0)
 zero:s.drops=true→(s.behind r).ls.getD s.winner 0=0
theorem nextL {r:Rst} (h:r.Ok) (ne:r.top≠[]):LosP r (nextN r):=by
 have n:=nextP h ne
 have w:=n.win h ne
 have mT:=h.mT ne
 have mB:=h.mB ne
 have nd:=h.row.nd
 have ndB:=h.rowB.nd
 have hlt:=h.row.lt
 generalize nextN r=s at *
 have sg:∀ (v:Int),(r.ls.set s.winner v).getD s.winner 0=v:=fun v=>by rw [J15 _ _ _ _ (hlt _ w),if_pos rfl]
 have one1:∀ b,lenOf r.ls [b]=r.ls.getD b 0:=fun b=>by rw [Ji,Jt,Int.add_zero]
 cases s with
 | home a =>
  have sg:∀ (v:Int),(r.ls.set a v).getD a 0=v:=sg
  refine ⟨fun j hj=>(nomatch hj),fun q=>(nomatch q),Int.le_refl _,fun q=>(nomatch q),?_,fun _=>sg 0⟩
  show r.ls.set a 0=r.ls.set a ((r.ls.set a 0).getD a 0)
  rw [sg]
 | even a b =>
  obtain ⟨n1,n2,n3,n4⟩:=n
  have sg:∀ (v:Int),(r.ls.set a v).getD a 0=v:=sg
  have wb:b∈r.top:=by rw [n2];exact mB
  refine ⟨fun j hj=>?_,fun q=>n3 (List.mem_singleton.mp q),Int.le_refl _,fun _=>?_,?_,fun _=>sg 0⟩
  ·cases List.mem_singleton.mp hj
   exact mem_without.mpr ⟨wb,fun e=>n3 e.symm⟩
  ·show r.ls.getD a 0 - 1 * lenOf r.ls [b]=(r.ls.set a 0).getD a 0
   rw [sg,one1];lia
  ·show r.ls.set a 0=r.ls.set a ((r.ls.set a 0).getD a 0)
   rw [sg]
 | over a b =>
  obtain ⟨n1,n2,n3,n4⟩:=n
  have sg:∀ (v:Int),(r.ls.set a v).getD a 0=v:=sg
  have wb:b∈r.top:=by rw [n2];exact mB
  refine ⟨fun j hj=>?_,fun q=>n3 (List.mem_singleton.mp q),Int.le_refl _,fun _=>?_,?_,fun q=>nomatch q⟩
  ·cases List.mem_singleton.mp hj
   exact wb
  ·show r.ls.getD a 0 - 1 * lenOf r.ls [b]=(r.ls.set a (r.ls.getD a 0 - r.ls.getD b 0)).getD a 0
   rw [sg,one1];lia
  ·show r.ls.set a _=r.ls.set a ((r.ls.set a (r.ls.getD a 0 - r.ls.getD b 0)).getD a 0)
   rw [sg]
 | under a b =>
  obtain ⟨n1,n2,n3,n4⟩:=n
  have sg:∀ (v:Int),(r.ls.set a v).getD a 0=v:=sg
  have wb:b∈r.top:=by rw [n2];exact mT
  have pp:=J1q nd (w:=a) wb (r.ts.getD a false)
  refine ⟨fun j hj=>?_,fun q=>n3 (List.mem_singleton.mp q),Int.le_refl _,fun _=>?_,?_,fun q=>nomatch q⟩
  ·cases List.mem_singleton.mp hj
   exact pp.mem_iff.mpr wb
  ·show r.ls.getD a 0 - 1 * lenOf r.ls [b]=(r.ls.set a (r.ls.getD a 0 - r.ls.getD b 0)).getD a 0
   rw [sg,one1];lia
  ·show r.ls.set a _=r.ls.set a ((r.ls.set a (r.ls.getD a 0 - r.ls.getD b 0)).getD a 0)
   rw [sg]
 | overs a t =>
  obtain ⟨n1,n2,n3,n4,n5,n6⟩:=n
  have sg:∀ (v:Int),(r.ls.set a v).getD a 0=v:=sg
  have wab:a∈r.bot:=h.perm.mem_iff.mpr w
  refine ⟨fun j hj=>h.perm.mem_iff.mp (Jg hj),Js ndB wab,n4,fun _=>?_,?_,fun q=>nomatch q⟩
  ·show r.ls.getD a 0 - t * lenOf r.ls (J1 r.bot a)=(r.ls.set a (r.ls.getD a 0 - t * lenOf r.ls (J1 r.bot a))).getD a 0
   rw [sg]
  ·show r.ls.set a _=r.ls.set a ((r.ls.set a (r.ls.getD a 0 - t * lenOf r.ls (J1 r.bot a))).getD a 0)
   rw [sg]
 | unders a t =>
  obtain ⟨n1,n2,n3,n4,n5,n6⟩:=n
  have sg:∀ (v:Int),(r.ls.set a v).getD a 0=v:=sg
  refine ⟨fun j hj=>Jg hj,Js nd w,n4,fun _=>?_,?_,fun q=>nomatch q⟩
  ·show r.ls.getD a 0 - t * lenOf r.ls (J1 r.top a)=(r.ls.set a (r.ls.getD a 0 - t * lenOf r.ls (J1 r.top a))).getD a 0
   rw [sg]
  ·show r.ls.set a _=r.ls.set a ((r.ls.set a (r.ls.getD a 0 - t * lenOf r.ls (J1 r.top a))).getD a 0)
   rw [sg]
structure Tow (r:Rst) (T:List Int):Prop where
 len:T.length=r.ls.length
 pos:∀ j∈r.top,1≤T.getD j 0
 sum:wS r.ls T r.top≤10 ^ 30
theorem Tow.le {r:Rst} {T:List Int} (h:r.Ok) (t:Tow r T) {j:Nat} (hj:j∈r.top):T.getD j 0≤10 ^ 30:=by
 have h1:r.ls.getD j 0 * T.getD j 0≤wS r.ls T r.top:=fS_mem (f:=fun j=>r.ls.getD j 0 * T.getD j 0) (fun i hi=>Int.mul_nonneg (by have:=h.row.pos i hi;lia) (by have:=t.pos i hi;lia)) hj
 have h2:1 * T.getD j 0≤r.ls.getD j 0 * T.getD j 0:=Int.mul_le_mul_of_nonneg_right (h.row.pos j hj) (by have:=t.pos j hj;lia)
 have:=t.sum
 lia
theorem tow_in {r:Rst} (h:r.Ok) (ne:r.top≠[]) {T:List Int} (hT:T.length=r.ls.length) {j:Nat} (hj:j∈((nextN r).behind r).top) :
  (towB (nextN r) r T).getD j 0=T.getD j 0 + (if j∈(nextN r).losers r then T.getD (nextN r).winner 0 * (nextN r).times else 0):=by
 rw [J2k _ _ _ (by rw [hT];exact h.row.lt j ((h.down ne).sub j hj)),if_pos hj]
 split <;> lia
theorem Rst.Ok.stay {r:Rst} (h:r.Ok) (ne:r.top≠[]) {T:List Int} (hT:T.length=r.ls.length) :
  wS ((nextN r).behind r).ls (towB (nextN r) r T) ((nextN r).behind r).top + (if (nextN r).isHome=true then r.ls.getD (nextN r).winner 0 * T.getD (nextN r).winner 0 else 0)=wS r.ls T r.top:=by
 have n:=nextP h ne
 have w:=n.win h ne
 have L:=nextL h ne
 have okl:=h.next ne
 have nl:=NextP.losers_nd h (s:=nextN r)
 have tp:=J68 h ne
 have tin:=fun j=>@tow_in r h ne T hT j
 have e:=stays_aux (T:=T) (T':=towB (nextN r) r T) (t:=(nextN r).times) h.row.nd w (h.row.lt _ w) nl L.sub L.no L.ls okl.row.nd (fun j hj=>tin j hj) (by
  by_cases c:(nextN r).drops=true
  ·rw [if_pos c] at tp
   exact .inr ⟨by rw [tp],L.zero c⟩
  ·rw [if_neg c] at tp
   exact .inl tp)
 rw [e]
 by_cases c:(nextN r).isHome=true
 ·have d:(nextN r).drops=true:=by
   generalize nextN r=s at *
   cases s <;> first | rfl | exact absurd c Bool.false_ne_true
  have l0:lenOf r.ls ((nextN r).losers r)=0:=by
   generalize nextN r=s at *
   cases s <;> first | rfl | exact absurd c Bool.false_ne_true
  rw [if_pos c,L.zero d,l0]
  lia
 ·rw [if_neg c]
  have t:=L.tl (by simpa using c)
  rw [← t,Int.sub_mul,Int.mul_comm (T.getD (nextN r).winner 0) (nextN r).times,Int.mul_assoc,Int.mul_assoc,Int.mul_comm (T.getD (nextN r).winner 0) (lenOf r.ls ((nextN r).losers r))]
  lia
theorem Tow.next {r:Rst} {T:List Int} (h:r.Ok) (ne:r.top≠[]) (t:Tow r T):Tow ((nextN r).behind r) (towB (nextN r) r T):=by
 have L:=nextL h ne
 have w:=(nextP h ne).win h ne
 have pw:=t.pos _ w
 have st:=h.stay ne t.len
 refine ⟨?_,fun j hj=>?_,?_⟩
 ·rw [J3s,t.len,L.ls,List.length_set]
 ·rw [tow_in h ne t.len hj]
  have:=t.pos j ((h.down ne).sub j hj)
  have m:1 * 1≤T.getD (nextN r).winner 0 * (nextN r).times:=Int.mul_le_mul pw L.one (by decide) (by lia)
  split <;> lia
 ·have:=t.sum
  have z:0≤r.ls.getD (nextN r).winner 0 * T.getD (nextN r).winner 0:=Int.mul_nonneg (by have:=h.row.pos _ w;lia) (by lia)
  by_cases c:(nextN r).isHome=true
  ·rw [if_pos c] at st;lia
  ·rw [if_neg c] at st;lia
def lg (x:Int):Nat:=Nat.log2 x.toNat
theorem lg_le {x y:Int} (h1:1≤x) (h:x≤y):lg x≤lg y:=by
 unfold lg
 have hx:x.toNat≠0:=by lia
 have hy:y.toNat≠0:=by lia
 have a:=(Nat.le_log2 hx (k:=x.toNat.log2)).mp (Nat.le_refl _)
 exact (Nat.le_log2 hy).mpr (by lia)
theorem lg_dbl {x y z:Int} (h1:1≤x) (h2:1≤y) (h:lg x≤lg y) (hz:x + y≤z):lg x + 1≤lg z:=by
 unfold lg at *
 have hx:x.toNat≠0:=by lia
 have hy:y.toNat≠0:=by lia
 have hz':z.toNat≠0:=by lia
 have a:=(Nat.le_log2 hx (k:=x.toNat.log2)).mp (Nat.le_refl _)
 have b:=(Nat.le_log2 hy (k:=x.toNat.log2)).mp h
 refine (Nat.le_log2 hz').mpr ?_
 rw [Nat.pow_succ]
 lia
theorem lg_small {x:Int} (h1:1≤x) (h:x≤10 ^ 30):lg x≤99:=by
 unfold lg
 have hx:x.toNat≠0:=by lia
 have:=(Nat.log2_lt hx (k:=100)).mpr (by lia)
 lia
def nS (f:Nat→Nat) (row:List Nat):Nat:=(row.map f).sum
theorem J5o (f:Nat→Nat) (j:Nat) (row:List Nat):nS f (j :: row)=f j + nS f row:=by unfold nS;rw [List.map_cons,List.sum_cons]
theorem nS_perm {f:Nat→Nat} {xs ys:List Nat} (h:xs.Perm ys):nS f xs=nS f ys:=by
 unfold nS
 induction h with
 | nil=>rfl
 | cons x _ ih=>rw [List.map_cons,List.map_cons,List.sum_cons,List.sum_cons,ih]
 | swap x y l=>simp only [List.map_cons,List.sum_cons];lia
 | trans _ _ ih1 ih2=>exact ih1.trans ih2
theorem nS_le {f g:Nat→Nat}:∀ {row:List Nat},(∀ j∈row,f j≤g j)→nS f row≤nS g row
 | [],_=>Nat.le_refl _
 | j :: row,h=>by
  rw [J5o,J5o]
  have:=h j List.mem_cons_self
  have:=nS_le fun i hi=>h i (List.mem_cons_of_mem _ hi)
  lia
theorem nS_lt {f g:Nat→Nat}:∀ {row:List Nat},(∀ j∈row,f j≤g j)→∀ {b:Nat},b∈row→f b < g b→nS f row < nS g row
 | j :: row,h,b,hb,hlt=>by
  rw [J5o,J5o]
  have h1:=h j List.mem_cons_self
  have h2:=nS_le fun i hi=>h i (List.mem_cons_of_mem _ hi)
  rcases List.mem_cons.mp hb with rfl | hb
  ·lia
  ·have:=nS_lt (fun i hi=>h i (List.mem_cons_of_mem _ hi)) hb hlt
   lia
theorem J70 {f:Nat→Nat} {row:List Nat} (nd:row.Nodup) {a:Nat} (ha:a∈row):nS f (withoutR row a) + f a=nS f row:=by
 rw [← nS_perm (J2c nd ha),J5o]
 lia
theorem nS_max {f:Nat→Nat} {c:Nat}:∀ {row:List Nat},(∀ j∈row,f j≤c)→nS f row≤row.length * c
 | [],_=>Nat.zero_le _
 | j :: row,h=>by
  rw [J5o,List.length_cons,Nat.succ_mul]
  have:=h j List.mem_cons_self
  have:=nS_max fun i hi=>h i (List.mem_cons_of_mem _ hi)
  lia
abbrev fE (T:List Int) (row:List Nat):Nat:=nS (fun j=>100 - lg (T.getD j 0)) row
def need (ls:List Int):Int→List Nat→Nat
 | _,[]=>0
 | x,b :: bs=>if x≤ls.getD b 0 then 1 else 1 + need ls (x - ls.getD b 0) bs
theorem need_len (ls:List Int):∀ (x:Int) (bs:List Nat),need ls x bs≤bs.length
 | _,[]=>Nat.le_refl _
 | x,b :: bs=>by
  unfold need
  have:=need_len ls (x - ls.getD b 0) bs
  rw [List.length_cons]
  split <;> lia
theorem need_app (ls:List Int) (ys:List Nat):∀ (x:Int) (bs:List Nat),1≤x→x≤lenOf ls bs→need ls x (bs ++ ys)=need ls x bs
 | x,[],h1,h2=>by rw [Jt] at h2;lia
 | x,b :: bs,h1,h2=>by
  rw [Ji] at h2
  rw [List.cons_append]
  unfold need
  by_cases c:x≤ls.getD b 0
  ·rw [if_pos c,if_pos c]
  ·rw [if_neg c,if_neg c,need_app ls ys (x - ls.getD b 0) bs (by lia) (by lia)]
theorem J6z {ls ls':List Int}:∀ (x:Int) {bs:List Nat},(∀ j∈bs,ls.getD j 0=ls'.getD j 0)→need ls x bs=need ls' x bs
 | _,[],_=>rfl
 | x,b :: bs,h=>by
  unfold need
  rw [h b List.mem_cons_self,J6z (x - ls'.getD b 0) fun j hj=>h j (List.mem_cons_of_mem _ hj)]
def mu (r:Rst):Stp→Nat
 | .over a _=>if r.ts.getD a false=true then (J1 r.bot a).length else need r.ls (r.ls.getD a 0) (J1 r.bot a).reverse
 | .under a _=>if r.ts.getD a false=true then (J1 r.top a).length else need r.ls (r.ls.getD a 0) (J1 r.top a).reverse
 | .overs _ _=>25
 | .unders _ _=>25
 | _=>0
theorem J7b (row:List Nat) (a:Nat):(J1 row a).length≤row.length:=by unfold J1;rw [List.length_drop];lia
theorem J47 {ls:List Int} {ts:List Bool} {row:List Nat} {a:Nat} (h:row.length≤24):(if ts.getD a false=true then (J1 row a).length else need ls (ls.getD a 0) (J1 row a).reverse)≤24:=by
 have h1:=J7b row a
 have h2:=need_len ls (ls.getD a 0) (J1 row a).reverse
 rw [List.length_reverse] at h2
 split <;> lia
theorem Rst.Ok.len24 {r:Rst} (h:r.Ok):r.top.length≤24∧r.bot.length≤24:=⟨Nat.le_trans h.row.len_le h.few,Nat.le_trans h.rowB.len_le h.few⟩
theorem mu_le {r:Rst} (h:r.Ok) (s:Stp):mu r s≤25:=by
 obtain ⟨h1,h2⟩:=h.len24
 cases s with
 | over a b=>exact Nat.le_succ_of_le (J47 h2)
 | under a b=>exact Nat.le_succ_of_le (J47 h1)
 | _=>first | exact Nat.le_refl _ | exact Nat.zero_le _
theorem J4m {s:List Nat} {a:Nat} (t:List Nat) (h:a ∉ s):J1 (s ++ a :: t) a=t:=by
 unfold J1
 rw [J74 t h,show s ++ a :: t=(s ++ [a]) ++ t by simp,show s.length + 1=(s ++ [a]).length by simp,List.drop_left]
theorem behind_put {row:List Nat} (nd:row.Nodup) {a b:Nat} (ha:a∈row) (hb:row.getD (row.length - 1) 0=b) (hab:a≠b) :
  ∃ q,J1 row a=q ++ [b]∧J1 (putR row a b false) a=b :: q∧J1 (putR row a b true) a=q∧a ∉ q:=by
 have hne:row≠[]:=fun e=>by rw [e] at ha;cases ha
 have e:=J3k hne
 rw [hb] at e
 generalize row.dropLast=d at e
 subst e
 have had:a∈d:=(List.mem_append.mp ha).resolve_right fun q=>hab (List.mem_singleton.mp q)
 obtain ⟨s,t,rfl⟩:=List.append_of_mem had
 have n1:=List.nodup_append.mp nd
 have n2:=List.nodup_append.mp n1.1
 have n3:=List.nodup_cons.mp n2.2.1
 have as:a ∉ s:=fun q=>n2.2.2 a q a List.mem_cons_self rfl
 have bd:b ∉ s ++ a :: t:=fun q=>n1.2.2 b q b (by simp) rfl
 have at_:a ∉ t:=n3.1
 have w1:withoutR (s ++ a :: t ++ [b]) b=s ++ a :: t:=by
  rw [J1p,J21,List.append_nil]
  exact J1o bd
 have t1:(s ++ a :: t).take (s.length + 1)=s ++ [a]:=by
  rw [show s ++ a :: t=(s ++ [a]) ++ t by simp,show s.length + 1=(s ++ [a]).length by simp,List.take_left]
 have t2:(s ++ a :: t).drop (s.length + 1)=t:=by
  rw [show s ++ a :: t=(s ++ [a]) ++ t by simp,show s.length + 1=(s ++ [a]).length by simp,List.drop_left]
 refine ⟨t,?_,?_,?_,at_⟩
 ·rw [show s ++ a :: t ++ [b]=s ++ a :: (t ++ [b]) by simp]
  exact J4m _ as
 ·unfold putR
  rw [w1,J74 t as,if_neg (by decide),t1,t2]
  rw [show s ++ [a] ++ [b] ++ t=s ++ a :: (b :: t) by simp]
  exact J4m _ as
 ·unfold putR
  rw [w1,J74 t as,if_pos rfl,List.take_left,List.drop_left]
  rw [show s ++ [b] ++ a :: t=(s ++ [b]) ++ a :: t by simp]
  refine J4m _ fun q=>?_
  rcases List.mem_append.mp q with q | q
  ·exact as q
  ·exact hab (List.mem_singleton.mp q)
theorem J39 {row:List Nat} {a:Nat} (ha:a∈row) (h:row.getD (row.length - 1) 0≠a):row.getD (row.length - 1) 0∈J1 row a:=by
 have hne:row≠[]:=fun e=>by rw [e] at ha;cases ha
 have h1:row.idxOf a < row.length:=List.idxOf_lt_length_iff.mpr ha
 have h2:row[row.idxOf a]=a:=List.getElem_idxOf h1
 have hl:row.length - 1 < row.length:=by lia
 have e:row.getD (row.length - 1) 0=row[row.length - 1]:=by rw [List.getD_eq_getElem?_getD,List.getElem?_eq_getElem hl];rfl
 rw [e] at h ⊢
 have h3:row.idxOf a≠row.length - 1:=fun q=>h (by simp only [← q];exact h2)
 unfold J1
 refine List.mem_iff_getElem.mpr ⟨row.length - 1 - (row.idxOf a + 1),by rw [List.length_drop];lia,?_⟩
 rw [List.getElem_drop]
 congr 1
 lia
end Rl
namespace Rl
theorem J72 (ls:List Int) (row:List Nat):lenOf ls row.reverse=lenOf ls row:=J1n (List.reverse_perm row)
theorem mu_down {ls:List Int} {ts ts':List Bool} {row:List Nat} {a b:Nat} (nd:row.Nodup) (ha:a∈row) (hb:row.getD (row.length - 1) 0=b) (hab:a≠b) (hal:a < ls.length) (hb0:1≤ls.getD b 0)
  (hgt:ls.getD b 0 < ls.getD a 0) (hc:ts.getD a false=true∨ls.getD a 0≤lenOf ls (J1 row a)) (ht:ts'.getD a false=ts.getD a false) :
  ((if ts'.getD a false=true then (J1 (putR row a b (ts.getD a false)) a).length else need (ls.set a (ls.getD a 0 - ls.getD b 0)) ((ls.set a (ls.getD a 0 - ls.getD b 0)).getD a 0) (J1 (putR row a b (ts.getD a false)) a).reverse) <
  (if ts.getD a false=true then (J1 row a).length else need ls (ls.getD a 0) (J1 row a).reverse))∧
  (ts'.getD a false=false→¬ lenOf (ls.set a (ls.getD a 0 - ls.getD b 0)) (J1 (putR row a b (ts.getD a false)) a) < (ls.set a (ls.getD a 0 - ls.getD b 0)).getD a 0):=by
 obtain ⟨q,q1,q2,q3,q4⟩:=behind_put nd ha hb hab
 have sg:(ls.set a (ls.getD a 0 - ls.getD b 0)).getD a 0=ls.getD a 0 - ls.getD b 0:=by rw [J15 _ _ _ _ hal,if_pos rfl]
 rw [ht,sg]
 by_cases c:ts.getD a false=true
 ·rw [c,if_pos rfl,if_pos rfl,q3,q1]
  exact ⟨by simp,fun e=>nomatch e⟩
 ·have c':ts.getD a false=false:=by simpa using c
  have hS:=hc.resolve_left c
  rw [c',if_neg (by decide),if_neg (by decide),q2,q1]
  rw [q1,Jx,Ji,Jt] at hS
  constructor
  ·rw [List.reverse_cons,List.reverse_append,List.reverse_cons,List.reverse_nil,List.nil_append,List.cons_append,List.nil_append]
   have e1:need ls (ls.getD a 0) (b :: q.reverse)=1 + need ls (ls.getD a 0 - ls.getD b 0) q.reverse:=by
    rw [need,if_neg (by lia)]
   have e2:need (ls.set a (ls.getD a 0 - ls.getD b 0)) (ls.getD a 0 - ls.getD b 0) (q.reverse ++ [b])=need ls (ls.getD a 0 - ls.getD b 0) (q.reverse ++ [b]):=J6z _ fun j hj=>by
    have:j≠a:=fun e=>by
     subst e
     rcases List.mem_append.mp hj with x | x
     ·exact q4 (List.mem_reverse.mp x)
     ·exact hab (List.mem_singleton.mp x)
    rw [J15 _ _ _ _ hal,if_neg this]
   rw [e1,e2,need_app _ _ _ _ (by lia) (by rw [J72];lia)]
   lia
  ·intro _
   rw [Jm _ _ (fun x=>by
    rcases List.mem_cons.mp x with x | x
    ·exact hab x
    ·exact q4 x),Ji]
   lia
theorem J6p {x S t:Int} (hS:1≤S) (ht:t=(x - 1) / S):x - t * S≤S:=by
 subst ht
 have h1:=Int.emod_lt_of_pos (x - 1) (show 0 < S by lia)
 have h2:=Int.mul_ediv_add_emod (x - 1) S
 rw [Int.mul_comm] at h2
 lia
theorem run_down {r:Rst} (h:r.Ok) (ne:r.top≠[]):(nextN r).drops=false→(nextN ((nextN r).behind r)).drops=false→
  ((nextN ((nextN r).behind r)).winner=(nextN r).winner∧mu ((nextN r).behind r) (nextN ((nextN r).behind r)) < mu r (nextN r))∨(nextN r).winner∈(nextN ((nextN r).behind r)).losers ((nextN r).behind r):=by
 have okl:=h.next ne
 have tp:=J68 h ne
 have mT:=h.mT ne
 have mB:=h.mB ne
 have mTb:=h.perm.mem_iff.mpr mT
 have mBb:=h.perm.mem_iff.mpr mB
 have nd:=h.row.nd
 have ndB:=h.rowB.nd
 have hlt:=h.row.lt
 revert okl tp
 refine J1g h ne (p:=fun s=>(s.behind r).Ok→(if s.drops=true then (s.behind r).top=withoutR r.top s.winner else (s.behind r).top.Perm r.top)→s.drops=false→(nextN (s.behind r)).drops=false→
  ((nextN (s.behind r)).winner=s.winner∧mu (s.behind r) (nextN (s.behind r)) < mu r s)∨s.winner∈(nextN (s.behind r)).losers (s.behind r))
  (fun _ _ _ e=>nomatch e) (fun _ _ _ _ e=>nomatch e) ?_ ?_ ?_ ?_
 ·intro c1 c2 c3 okl tp _
  have tp:List.Perm ((Stp.over (lastT r) (lastB r)).behind r).top r.top:=tp
  have nel:((Stp.over (lastT r) (lastB r)).behind r).top≠[]:=fun e=>ne (by rw [e] at tp;exact tp.symm.eq_nil)
  have et:(J22 r (lastT r) (lastB r)).getD (lastT r) false=r.ts.getD (lastT r) false:=by
   unfold J22;rw [J1w _ _ _ _ (by rw [h.len];exact hlt _ mB),if_neg c1]
  have md:=mu_down (ts':=J22 r (lastT r) (lastB r)) ndB mTb rfl c1 (hlt _ mT) (h.row.pos _ mB) c2 c3 et
  refine J1g okl nel (p:=fun s'=>s'.drops=false→(s'.winner=lastT r∧mu ((Stp.over (lastT r) (lastB r)).behind r) s' < mu r (.over (lastT r) (lastB r)))∨lastT r∈s'.losers ((Stp.over (lastT r) (lastB r)).behind r))
   (fun _ e=>nomatch e) (fun _ _ e=>nomatch e) ?_ ?_ ?_ ?_
  ·intro d1 d2 d3 _
   exact .inl ⟨rfl,md.1⟩
  ·intro d1 d2 d3 _
   exact .inr (List.mem_singleton.mpr rfl)
  ·intro t d1 d2 d3 d4 d5 d6 _ _ _
   exact absurd d6 (md.2 d3)
  ·intro t d1 d2 d3 d4 d5 d6 _ _ _
   exact .inr (J39 (okl.mB nel) d1)
 ·intro c1 c2 c3 okl tp _
  have tp:List.Perm ((Stp.under (lastB r) (lastT r)).behind r).top r.top:=tp
  have nel:((Stp.under (lastB r) (lastT r)).behind r).top≠[]:=fun e=>ne (by rw [e] at tp;exact tp.symm.eq_nil)
  have et:(J22 r (lastB r) (lastT r)).getD (lastB r) false=r.ts.getD (lastB r) false:=by
   unfold J22;rw [J1w _ _ _ _ (by rw [h.len];exact hlt _ mT),if_neg (fun e=>c1 e.symm)]
  have md:=mu_down (ts':=J22 r (lastB r) (lastT r)) nd mB rfl (fun e=>c1 e.symm) (hlt _ mB) (h.row.pos _ mT) c2 c3 et
  refine J1g okl nel (p:=fun s'=>s'.drops=false→(s'.winner=lastB r∧mu ((Stp.under (lastB r) (lastT r)).behind r) s' < mu r (.under (lastB r) (lastT r)))∨lastB r∈s'.losers ((Stp.under (lastB r) (lastT r)).behind r))
   (fun _ e=>nomatch e) (fun _ _ e=>nomatch e) ?_ ?_ ?_ ?_
  ·intro d1 d2 d3 _
   exact .inr (List.mem_singleton.mpr rfl)
  ·intro d1 d2 d3 _
   exact .inl ⟨rfl,md.1⟩
  ·intro t d1 d2 d3 d4 d5 d6 _ _ _
   exact .inr (J39 (okl.perm.mem_iff.mpr (okl.mT nel)) (fun e=>d1 e.symm))
  ·intro t d1 d2 d3 d4 d5 d6 _ _ _
   exact absurd d6 (md.2 d3)
 ·intro t c1 c2 c3 c4 c5 c6 c7 c8 okl tp _
  have tp:List.Perm ((Stp.overs (lastT r) t).behind r).top r.top:=tp
  have nel:((Stp.overs (lastT r) t).behind r).top≠[]:=fun e=>ne (by rw [e] at tp;exact tp.symm.eq_nil)
  have hx:=J6p c5 c7
  have sg:((Stp.overs (lastT r) t).behind r).ls.getD (lastT r) 0=r.ls.getD (lastT r) 0 - t * lenOf r.ls (J1 r.bot (lastT r)):=by
   show (r.ls.set (lastT r) _).getD (lastT r) 0=_
   rw [J15 _ _ _ _ (hlt _ mT),if_pos rfl]
  have so:lenOf ((Stp.overs (lastT r) t).behind r).ls (J1 r.bot (lastT r))=lenOf r.ls (J1 r.bot (lastT r)):=Jm _ _ (Js ndB mTb)
  refine J1g okl nel (p:=fun s'=>s'.drops=false→(s'.winner=lastT r∧mu ((Stp.overs (lastT r) t).behind r) s' < mu r (.overs (lastT r) t))∨lastT r∈s'.losers ((Stp.overs (lastT r) t).behind r))
   (fun _ e=>nomatch e) (fun _ _ e=>nomatch e) ?_ ?_ ?_ ?_
  ·intro d1 d2 d3 _
   refine .inl ⟨rfl,Nat.lt_succ_of_le ?_⟩
   exact J47 (ls:=((Stp.overs (lastT r) t).behind r).ls) (ts:=r.ts) (a:=lastT r) h.len24.2
  ·intro d1 d2 d3 _
   exact .inr (List.mem_singleton.mpr rfl)
  ·intro t' d1 d2 d3 d4 d5 d6 _ _ _
   have d6:lenOf ((Stp.overs (lastT r) t).behind r).ls (J1 r.bot (lastT r)) < ((Stp.overs (lastT r) t).behind r).ls.getD (lastT r) 0:=d6
   rw [so,sg] at d6
   lia
  ·intro t' d1 d2 d3 d4 d5 d6 _ _ _
   exact .inr (J39 (okl.mB nel) d1)
 ·intro t c1 c2 c3 c4 c5 c6 c7 c8 okl tp _
  have tp:List.Perm ((Stp.unders (lastB r) t).behind r).top r.top:=tp
  have nel:((Stp.unders (lastB r) t).behind r).top≠[]:=fun e=>ne (by rw [e] at tp;exact tp.symm.eq_nil)
  have hx:=J6p c5 c7
  have sg:((Stp.unders (lastB r) t).behind r).ls.getD (lastB r) 0=r.ls.getD (lastB r) 0 - t * lenOf r.ls (J1 r.top (lastB r)):=by
   show (r.ls.set (lastB r) _).getD (lastB r) 0=_
   rw [J15 _ _ _ _ (hlt _ mB),if_pos rfl]
  have so:lenOf ((Stp.unders (lastB r) t).behind r).ls (J1 r.top (lastB r))=lenOf r.ls (J1 r.top (lastB r)):=Jm _ _ (Js nd mB)
  refine J1g okl nel (p:=fun s'=>s'.drops=false→(s'.winner=lastB r∧mu ((Stp.unders (lastB r) t).behind r) s' < mu r (.unders (lastB r) t))∨lastB r∈s'.losers ((Stp.unders (lastB r) t).behind r))
   (fun _ e=>nomatch e) (fun _ _ e=>nomatch e) ?_ ?_ ?_ ?_
  ·intro d1 d2 d3 _
   exact .inr (List.mem_singleton.mpr rfl)
  ·intro d1 d2 d3 _
   refine .inl ⟨rfl,Nat.lt_succ_of_le ?_⟩
   exact J47 (ls:=((Stp.unders (lastB r) t).behind r).ls) (ts:=r.ts) (a:=lastB r) h.len24.1
  ·intro t' d1 d2 d3 d4 d5 d6 _ _ _
   exact .inr (J39 (okl.perm.mem_iff.mpr (okl.mT nel)) (fun e=>d1 e.symm))
  ·intro t' d1 d2 d3 d4 d5 d6 _ _ _
   have d6:lenOf ((Stp.unders (lastB r) t).behind r).ls (J1 r.top (lastB r)) < ((Stp.unders (lastB r) t).behind r).ls.getD (lastB r) 0:=d6
   rw [so,sg] at d6
   lia
def Up (r:Rst) (T:List Int) (s:Stp):Prop:=s.drops=true∨∃ b∈s.losers r,lg (T.getD b 0)≤lg (T.getD s.winner 0)
open Classical in
noncomputable def pot (r:Rst) (T:List Int):Nat :=
 if r.top=[] then 0 else (fE T r.top * 102 + (if Up r T (nextN r) then 0 else lg (T.getD (nextN r).winner 0) + 1)) * 26 + (if Up r T (nextN r) then 0 else mu r (nextN r))
theorem Tow.lg99 {r:Rst} {T:List Int} (h:r.Ok) (t:Tow r T) {j:Nat} (hj:j∈r.top):lg (T.getD j 0)≤99:=lg_small (t.pos j hj) (t.le h hj)
theorem pot_le {r:Rst} {T:List Int} (h:r.Ok) (t:Tow r T):pot r T≤6367451:=by
 unfold pot
 by_cases c:r.top=[]
 ·rw [if_pos c];lia
 rw [if_neg c]
 have h1:fE T r.top≤r.top.length * 100:=nS_max fun j _=>by lia
 have h2:=h.len24.1
 have h3:=t.lg99 h ((nextP h c).win h c)
 have h4:=mu_le h (nextN r)
 split <;> lia
theorem up_lt {r:Rst} {T:List Int} (h:r.Ok) (ne:r.top≠[]) (t:Tow r T):fE (towB (nextN r) r T) ((nextN r).behind r).top≤fE T r.top∧(Up r T (nextN r)→fE (towB (nextN r) r T) ((nextN r).behind r).top < fE T r.top):=by
 have L:=nextL h ne
 have w:=(nextP h ne).win h ne
 have pw:=t.pos _ w
 have tp:=J68 h ne
 have okl:=h.next ne
 have tl:=t.next h ne
 have sub:=(h.down ne).sub
 have one:T.getD (nextN r).winner 0≤T.getD (nextN r).winner 0 * (nextN r).times:=by
  have:T.getD (nextN r).winner 0 * 1≤T.getD (nextN r).winner 0 * (nextN r).times:=Int.mul_le_mul_of_nonneg_left L.one (by lia)
  lia
 have le:∀ j∈((nextN r).behind r).top,T.getD j 0≤(towB (nextN r) r T).getD j 0:=fun j hj=>by
  rw [tow_in h ne t.len hj];split <;> lia
 have mono:∀ j∈((nextN r).behind r).top,100 - lg ((towB (nextN r) r T).getD j 0)≤100 - lg (T.getD j 0):=fun j hj=>by
  have:=lg_le (t.pos j (sub j hj)) (le j hj)
  lia
 have m:=nS_le (f:=fun j=>100 - lg ((towB (nextN r) r T).getD j 0)) (g:=fun j=>100 - lg (T.getD j 0)) mono
 by_cases c:(nextN r).drops=true
 ·rw [if_pos c] at tp
  have e:=J70 (f:=fun j=>100 - lg (T.getD j 0)) h.row.nd w
  have g:=t.lg99 h w
  rw [← tp] at e
  have:fE (towB (nextN r) r T) ((nextN r).behind r).top < fE T r.top:=by
   show nS _ _ < nS _ _
   rw [← e]
   lia
  exact ⟨Nat.le_of_lt this,fun _=>this⟩
 ·rw [if_neg c] at tp
  have e:fE T ((nextN r).behind r).top=fE T r.top:=nS_perm tp
  refine ⟨by rw [← e];exact m,fun u=>?_⟩
  rcases u with u | ⟨b,hb,hg⟩
  ·exact absurd u c
  rw [← e]
  have bl:=L.sub b hb
  refine nS_lt mono bl ?_
  have e2:=tow_in h ne t.len bl
  rw [if_pos hb] at e2
  have d:=lg_dbl (z:=(towB (nextN r) r T).getD b 0) (t.pos b (sub b bl)) pw hg (by lia)
  have g:=tl.lg99 okl bl
  lia
theorem pot_lt {r:Rst} {T:List Int} (h:r.Ok) (ne:r.top≠[]) (t:Tow r T):pot ((nextN r).behind r) (towB (nextN r) r T) < pot r T:=by
 obtain ⟨f1,f2⟩:=up_lt h ne t
 have okl:=h.next ne
 have tl:=t.next h ne
 have L:=nextL h ne
 have w:=(nextP h ne).win h ne
 unfold pot
 rw [if_neg ne]
 have fpos:1≤fE T r.top:=by
  have e:=J70 (f:=fun j=>100 - lg (T.getD j 0)) h.row.nd w
  have g:=t.lg99 h w
  show 1≤nS _ _
  rw [← e]
  lia
 by_cases c:((nextN r).behind r).top=[]
 ·rw [if_pos c];lia
 rw [if_neg c]
 have w':=(nextP okl c).win okl c
 have g':=tl.lg99 okl w'
 have m':=mu_le okl (nextN ((nextN r).behind r))
 by_cases u:Up r T (nextN r)
 ·rw [if_pos u,if_pos u]
  have:=f2 u
  split <;> lia
 rw [if_neg u,if_neg u]
 by_cases u':Up ((nextN r).behind r) (towB (nextN r) r T) (nextN ((nextN r).behind r))
 ·rw [if_pos u',if_pos u']
  lia
 rw [if_neg u',if_neg u']
 have d1:(nextN r).drops=false:=by
  cases q:(nextN r).drops
  ·rfl
  ·exact absurd (.inl q) u
 have d2:(nextN ((nextN r).behind r)).drops=false:=by
  cases q:(nextN ((nextN r).behind r)).drops
  ·rfl
  ·exact absurd (.inl q) u'
 have tp:=J68 h ne
 rw [if_neg (by rw [d1];decide)] at tp
 have wl:(nextN r).winner∈((nextN r).behind r).top:=tp.mem_iff.mpr w
 have ew:(towB (nextN r) r T).getD (nextN r).winner 0=T.getD (nextN r).winner 0:=by
  rw [tow_in h ne t.len wl,if_neg L.no];lia
 rcases run_down h ne d1 d2 with ⟨e,m⟩ | q
 ·rw [e,ew]
  lia
 ·have hg:¬ lg ((towB (nextN r) r T).getD (nextN r).winner 0)≤lg ((towB (nextN r) r T).getD (nextN ((nextN r).behind r)).winner 0):=fun x=>u' (.inr ⟨_,q,x⟩)
  rw [ew] at hg
  lia
abbrev Cst:=Rst × List Int
def chS (p:Cst):Cst:=((nextN p.1).behind p.1,towB (nextN p.1) p.1 p.2)
def chN (p:Cst):Nat→Cst
 | 0=>p
 | k + 1=>chS (chN p k)
abbrev Band:=Int × Int × Int × Bool
def bndB (p:Cst):List Band:=if (nextN p.1).isHome=true then [((chS p).1.size,p.1.ls.getD (nextN p.1).winner 0,p.2.getD (nextN p.1).winner 0,p.1.ts.getD (nextN p.1).winner false)] else []
def bndN (p:Cst):Nat→List Band
 | 0=>[]
 | k + 1=>bndN p k ++ bndB (chN p k)
theorem bndB_len (p:Cst):(bndB p).length≤1:=by unfold bndB;split <;> simp
theorem bndN_len (p:Cst):∀ k,(bndN p k).length≤k
 | 0=>Nat.le_refl _
 | k + 1=>by
  have h1:=bndN_len p k
  have h2:=bndB_len (chN p k)
  show (bndN p k ++ bndB (chN p k)).length≤k + 1
  rw [List.length_append];lia
def Long (p:Cst) (k:Nat):Prop:=∀ i < k,(chN p i).1.top≠[]
structure Cok (p:Cst):Prop where
 ok:p.1.Ok
 tow:Tow p.1 p.2
theorem Cok.next {p:Cst} (h:Cok p) (ne:p.1.top≠[]):Cok (chS p):=⟨h.ok.next ne,h.tow.next h.ok ne⟩
theorem Cok.at_ {p:Cst} (h:Cok p):∀ {k:Nat},Long p k→Cok (chN p k)
 | 0,_=>h
 | k + 1,l=>(h.at_ fun i hi=>l i (by lia)).next (l k (by lia))
theorem Cok.short {p:Cst} (h:Cok p):∀ {k:Nat},Long p k→k + pot (chN p k).1 (chN p k).2≤pot p.1 p.2
 | 0,_=>by rw [Nat.zero_add];exact Nat.le_refl _
 | k + 1,l=>by
  have h1:=h.short (k:=k) fun i hi=>l i (by lia)
  have c:=h.at_ (k:=k) fun i hi=>l i (by lia)
  have h2:pot (chS (chN p k)).1 (chS (chN p k)).2 < _:=pot_lt c.ok (l k (by lia)) c.tow
  show k + 1 + pot (chS (chN p k)).1 (chS (chN p k)).2≤_
  lia
theorem Cok.few {p:Cst} (h:Cok p) {k:Nat} (l:Long p k):k≤6367451:=by
 have h1:=h.short l
 have h2:=pot_le h.ok h.tow
 lia
theorem fS_ones {ls:List Int}:∀ {row:List Nat} {n:Nat},(∀ j∈row,j < n)→wS ls (List.replicate n 1) row=lenOf ls row
 | row,n,h=>J6i fun j hj=>by
  have:(List.replicate n (1:Int)).getD j 0=1:=by
   rw [List.getD_eq_getElem?_getD,List.getElem?_replicate,if_pos (h j hj)];rfl
  rw [this,Int.mul_one]
theorem J5v {r:Rst} (h:r.Ok) (hs:r.size≤10 ^ 30):Cok (r,List.replicate r.ls.length 1):=⟨h,by
 refine ⟨List.length_replicate,fun j hj=>?_,?_⟩
 ·show 1≤(List.replicate r.ls.length (1:Int)).getD j 0
  rw [List.getD_eq_getElem?_getD,List.getElem?_replicate,if_pos (h.row.lt j hj)];exact Int.le_refl _
 ·show wS r.ls (List.replicate r.ls.length 1) r.top≤_
  rw [fS_ones h.row.lt];exact hs⟩
theorem Cok.size30 {p:Cst} (h:Cok p):p.1.size≤10 ^ 30:=by
 have h1:p.1.size≤wS p.1.ls p.2 p.1.top:=by
  show lenOf _ _≤_
  have:∀ row:List Nat,(∀ j∈row,j∈p.1.top)→lenOf p.1.ls row≤wS p.1.ls p.2 row:=fun row=>by
   induction row with
   | nil=>intro _;exact Int.le_refl _
   | cons a row ih =>
    intro hs
    have ha:=hs a List.mem_cons_self
    have h1:=h.ok.row.pos a ha
    have h2:=h.tow.pos a ha
    have h3:p.1.ls.getD a 0 * 1≤p.1.ls.getD a 0 * p.2.getD a 0:=Int.mul_le_mul_of_nonneg_left h2 (by lia)
    have h4:=ih fun j hj=>hs j (List.mem_cons_of_mem _ hj)
    rw [Ji]
    unfold wS at *
    rw [J2r]
    lia
  exact this _ fun j hj=>hj
 have:=h.tow.sum
 lia
end Rl
namespace Rl
def posR (ls:List Int) (row:List Nat) (j:Nat):Int:=lenOf ls (row.take (row.idxOf j))
theorem posR_self (ls:List Int) (j:Nat) (ys:List Nat):posR ls (j :: ys) j=0:=by
 unfold posR;rw [List.idxOf_cons_self];rfl
theorem posR_cons (ls:List Int) {i j:Nat} (h:i≠j) (ys:List Nat):posR ls (i :: ys) j=ls.getD i 0 + posR ls ys j:=by
 unfold posR
 have hx:(i == j)=false:=by simpa using h
 rw [List.idxOf_cons,hx]
 show lenOf ls ((i :: ys).take (ys.idxOf j + 1))=_
 rw [List.take_succ_cons,Ji]
theorem posR_right (ls:List Int) {xs:List Nat} {j:Nat} (ys:List Nat) (h:j ∉ xs):posR ls (xs ++ ys) j=lenOf ls xs + posR ls ys j:=by
 induction xs with
 | nil=>rw [List.nil_append,Jt,Int.zero_add]
 | cons a r ih =>
  rw [List.cons_append,posR_cons _ (fun e=>h (by rw [e];exact List.mem_cons_self)),ih fun q=>h (List.mem_cons_of_mem _ q),Ji]
  omega
theorem posR_mid (ls:List Int) {xs:List Nat} {j:Nat} (ys:List Nat) (h:j ∉ xs):posR ls (xs ++ j :: ys) j=lenOf ls xs:=by
 rw [posR_right _ _ h,posR_self,Int.add_zero]
theorem J62 (ls:List Int) {row:List Nat} (nd:row.Nodup) {i:Nat} (hi:i < row.length):posR ls row (row.getD i 0)=J1e ls row i:=by
 have e:row.idxOf (row.getD i 0)=i:=by
  have h1:row.getD i 0=row[i]:=by rw [List.getD_eq_getElem?_getD,List.getElem?_eq_getElem hi];rfl
  have h2:row.idxOf (row.getD i 0) < row.length:=List.idxOf_lt_length_iff.mpr (J1u hi)
  have h3:row[row.idxOf (row.getD i 0)]=row.getD i 0:=List.getElem_idxOf h2
  exact (List.getElem_inj nd).mp (h3.trans h1)
 unfold posR
 rw [e,J3a ls row i (by omega)];rfl
def LetAt (r:Rst) (y:Int) (j:Nat) (o:Int):Prop:=j∈r.top∧0≤o∧o < r.ls.getD j 0∧y=posR r.ls r.top j + o
def offT (r:Rst) (j:Nat) (o:Int):Int:=if r.ts.getD j false=true then r.ls.getD j 0 - 1 - o else o
theorem LetAt.of_at {r:Rst} (h:r.Ok) {y:Int} {i:Nat} (a:AtR r.ls r.top y i):LetAt r y (r.top.getD i 0) (y - J1e r.ls r.top i):=by
 obtain ⟨a1,a2,a3⟩:=a
 rw [J18] at a3
 exact ⟨J1u a1,by omega,by omega,by rw [J62 _ h.row.nd a1];omega⟩
theorem LetAt.at_ {r:Rst} (h:r.Ok) {y o:Int} {j:Nat} (a:LetAt r y j o):∃ i,AtR r.ls r.top y i∧r.top.getD i 0=j∧y - J1e r.ls r.top i=o:=by
 obtain ⟨hj,h1,h2,rfl⟩:=a
 obtain ⟨i,hi,rfl⟩:=mem_at hj
 rw [J62 _ h.row.nd hi]
 refine ⟨i,⟨hi,by omega,by rw [J18];omega⟩,rfl,by omega⟩
theorem LetAt.same {r:Rst} (h:r.Ok) {y o o':Int} {j j':Nat} (a:LetAt r y j o) (b:LetAt r y j' o'):j=j'∧o=o':=by
 obtain ⟨i,a1,rfl,rfl⟩:=a.at_ h
 obtain ⟨i',b1,rfl,rfl⟩:=b.at_ h
 obtain rfl:=h.row.unique a1 b1
 exact ⟨rfl,rfl⟩
theorem LetAt.inside {r:Rst} (h:r.Ok) {y o:Int} {j:Nat} (a:LetAt r y j o):0≤y∧y < r.size:=by
 obtain ⟨i,a1,_⟩:=a.at_ h
 exact h.row.inside a1
theorem goes_iff {r:Rst} (h:r.Ok) {y z:Int}:J4r r y z↔∃ j o,LetAt r y j o∧z=posR r.ls r.bot j + offT r j o:=by
 have key:∀ j,j∈r.top→(firsts r.ls r.bot).getD j 0=posR r.ls r.bot j:=fun j hj=>by
  obtain ⟨k,hk,rfl⟩:=mem_at (h.perm.mem_iff.mpr hj)
  rw [h.rowB.first hk,J62 _ h.rowB.nd hk]
 constructor
 ·rintro ⟨i,hi,rfl⟩
  refine ⟨_,_,LetAt.of_at h hi,?_⟩
  unfold moveN offT
  rw [key _ (J1u hi.1)]
  split <;> omega
 ·rintro ⟨j,o,a,rfl⟩
  obtain ⟨i,a1,rfl,rfl⟩:=a.at_ h
  refine ⟨i,a1,?_⟩
  unfold moveN offT
  rw [key _ (J1u a1.1)]
  split <;> omega
open Classical in
noncomputable def go (r:Rst) (y:Int):Int:=if h:∃ z,J4r r y z then Classical.choose h else y
theorem go_of {r:Rst} (h:r.Ok) {y z:Int} (g:J4r r y z):go r y=z:=by
 unfold go
 rw [dif_pos ⟨z,g⟩]
 exact h.fun_ (Classical.choose_spec ⟨z,g⟩) g
theorem go_at {r:Rst} (h:r.Ok) {y o:Int} {j:Nat} (a:LetAt r y j o):go r y=posR r.ls r.bot j + offT r j o:=go_of h ((goes_iff h).mpr ⟨j,o,a,rfl⟩)
def Walk (r:Rst) (lo y:Int):List Nat→Int→Prop
 | [],z=>False
 | [j],z=>(∃ o,LetAt r y j o)∧go r y=z
 | j :: j' :: js,z=>(∃ o,LetAt r y j o)∧lo≤go r y∧Walk r lo (go r y) (j' :: js) z
theorem Walk.one {r:Rst} {lo y z o:Int} {j:Nat} (a:LetAt r y j o) (e:go r y=z):Walk r lo y [j] z:=⟨⟨o,a⟩,e⟩
theorem last_form {row:List Nat} (ne:row≠[]):∃ D,row=D ++ [row.getD (row.length - 1) 0]:=⟨_,J3k ne⟩
end Rl
namespace Rl
def LoseP (r l:Rst) (y:Int) (j:Nat):Stp→Prop
 | .home _=>False
 | .even w _=>(∃ o',LetAt r y j o')∧l.size≤go r y∧(∃ o',LetAt r (go r y) w o')∧go r (go r y)=go l y
 | .over w _=>(∃ o',LetAt r y j o')∧l.size≤go r y∧(∃ o',LetAt r (go r y) w o')∧go r (go r y)=go l y
 | .under w _=>(∃ o',LetAt r y w o')∧l.size≤go r y∧(∃ o',LetAt r (go r y) j o')∧go r (go r y)=go l y
 | .overs w t=>(∃ o',LetAt r y j o')∧(∀ k:Int,0≤k→k < t→l.size≤go r y - k * lenOf r.ls (J1 r.bot w)∧(∃ o',LetAt r (go r y - k * lenOf r.ls (J1 r.bot w)) w o')∧
   go r (go r y - k * lenOf r.ls (J1 r.bot w))=go r y - k * lenOf r.ls (J1 r.bot w) - lenOf r.ls (J1 r.bot w))∧go r y - t * lenOf r.ls (J1 r.bot w)=go l y
 | .unders w t=>(∀ k:Int,0≤k→k < t→(∃ o',LetAt r (y + k * lenOf r.ls (J1 r.top w)) w o')∧go r (y + k * lenOf r.ls (J1 r.top w))=y + k * lenOf r.ls (J1 r.top w) + lenOf r.ls (J1 r.top w)∧
   l.size≤y + k * lenOf r.ls (J1 r.top w) + lenOf r.ls (J1 r.top w))∧(∃ o',LetAt r (y + t * lenOf r.ls (J1 r.top w)) j o')∧go r (y + t * lenOf r.ls (J1 r.top w))=go l y
structure RetOf (r:Rst) (s:Stp):Prop where
 plain:∀ y j o,LetAt (s.behind r) y j o→j ∉ s.losers r→(∃ o',LetAt r y j o')∧go r y=go (s.behind r) y
 lose:∀ y j o,LetAt (s.behind r) y j o→j∈s.losers r→LoseP r (s.behind r) y j s
theorem nd_last {T:List Nat} {a:Nat} (h:(T ++ [a]).Nodup):a ∉ T:=fun q=>(List.nodup_append.mp h).2.2 a q a (by simp) rfl
theorem lenOf_one (ls:List Int) (a:Nat):lenOf ls [a]=ls.getD a 0:=by rw [Ji,Jt,Int.add_zero]
end Rl
namespace Rl
def itN (f:Int→Int):Nat→Int→Int
 | 0,y=>y
 | n + 1,y=>f (itN f n y)
theorem J1d (f:Int→Int) (n:Nat):∀ (m:Nat) (y:Int),itN f (n + m) y=itN f m (itN f n y)
 | 0,_=>rfl
 | m + 1,y=>by show f (itN f (n + m) y)=f (itN f m (itN f n y));rw [J1d f n m y]
structure First (f:Int→Int) (lo:Int) (n:Nat) (y z:Int):Prop where
 pos:0 < n
 last:itN f n y=z
 mid:∀ i,0 < i→i < n→lo≤itN f i y
theorem First.one {f:Int→Int} {lo y z:Int} (e:f y=z):First f lo 1 y z:=⟨by decide,e,fun i h0 h1=>by lia⟩
theorem First.trans {f:Int→Int} {lo y z z':Int} {n m:Nat} (a:First f lo n y z) (hz:lo≤z) (b:First f lo m z z'):First f lo (n + m) y z':=by
 refine ⟨by have:=a.pos;lia,?_,fun i h0 h1=>?_⟩
 ·rw [J1d,a.last,b.last]
 ·rcases Nat.lt_trichotomy i n with q | q | q
  ·exact a.mid i h0 q
  ·rw [q,a.last];exact hz
  ·obtain ⟨k,rfl⟩:∃ k,i=n + k:=⟨i - n,by lia⟩
   rw [J1d,a.last]
   exact b.mid k (by lia) (by lia)
def retN (r:Rst) (s:Stp) (j:Nat):Nat:=if j∈s.losers r then 1 + s.times.toNat else 1
theorem times_one {r:Rst} {s:Stp} (n:NextP r s):1≤s.times:=by
 cases s with
 | overs a t=>exact n.2.2.2.1
 | unders a t=>exact n.2.2.2.1
 | home a=>exact Int.le_refl _
 | even a b=>exact Int.le_refl _
 | over a b=>exact Int.le_refl _
 | under a b=>exact Int.le_refl _
theorem J78 {f:Int→Int} {lo m S:Int} {t:Int} (h:∀ k:Int,0≤k→k < t→lo≤m - k * S∧f (m - k * S)=m - k * S - S):∀ n:Nat,(n:Int) < t→First f lo (n + 1) m (m - ((n:Int) + 1) * S)
 | 0,h0=>by
  have:=(h 0 (by lia) (by lia)).2
  refine First.one ?_
  rw [Int.zero_mul,Int.sub_zero] at this
  rw [this]
  show m - S=m - (0 + 1) * S
  rw [Int.zero_add,Int.one_mul]
 | n + 1,h0=>by
  have a:=J78 h n (by lia)
  have q:=h ((n:Int) + 1) (by lia) (by lia)
  refine a.trans q.1 (First.one ?_)
  rw [q.2]
  rw [show (((n + 1:Nat):Int) + 1)=((n:Int) + 1) + 1 by lia,Int.add_mul ((n:Int) + 1) 1 S,Int.one_mul]
  lia
theorem up_steps {f:Int→Int} {lo y S:Int} {t:Int} (h:∀ k:Int,0≤k→k < t→f (y + k * S)=y + k * S + S∧lo≤y + k * S + S):∀ n:Nat,(n:Int) < t→First f lo (n + 1) y (y + ((n:Int) + 1) * S)
 | 0,h0=>by
  have:=(h 0 (by lia) (by lia)).1
  refine First.one ?_
  rw [Int.zero_mul,Int.add_zero] at this
  rw [this]
  show y + S=y + (0 + 1) * S
  rw [Int.zero_add,Int.one_mul]
 | n + 1,h0=>by
  have a:=up_steps h n (by lia)
  have p:=h (n:Int) (by lia) (by lia)
  have q:=h ((n:Int) + 1) (by lia) (by lia)
  have e:y + ((n:Int) + 1) * S=y + (n:Int) * S + S:=by rw [Int.add_mul,Int.one_mul];lia
  refine a.trans (by rw [e];exact p.2) (First.one ?_)
  rw [q.1]
  rw [show (((n + 1:Nat):Int) + 1)=((n:Int) + 1) + 1 by lia,Int.add_mul ((n:Int) + 1) 1 S,Int.one_mul]
  lia
theorem RetOf.first {r:Rst} {s:Stp} (n:NextP r s) (R:RetOf r s) {y o:Int} {j:Nat} (A:LetAt (s.behind r) y j o):First (go r) (s.behind r).size (retN r s j) y (go (s.behind r) y):=by
 unfold retN
 have t1:=times_one n
 by_cases c:j∈s.losers r
 ·rw [if_pos c]
  have L:=R.lose y j o A c
  cases s with
  | home a=>exact L.elim
  | even a b=>exact (First.one rfl).trans L.2.1 (First.one L.2.2.2)
  | over a b=>exact (First.one rfl).trans L.2.1 (First.one L.2.2.2)
  | under a b=>exact (First.one rfl).trans L.2.1 (First.one L.2.2.2)
  | overs a t =>
   obtain ⟨_,L2,L3⟩:=L
   have t1:1≤t:=t1
   have q:=L2 0 (by lia) (by lia)
   rw [Int.zero_mul,Int.sub_zero] at q
   obtain ⟨m,hm⟩:∃ m:Nat,t=(m:Int) + 1:=⟨(t - 1).toNat,by lia⟩
   have d:=J78 (f:=go r) (lo:=((Stp.overs a t).behind r).size) (m:=go r y) (S:=lenOf r.ls (J1 r.bot a)) (t:=t) (fun k k0 k1=>⟨(L2 k k0 k1).1,(L2 k k0 k1).2.2⟩) m (by lia)
   rw [← hm,L3] at d
   have e:1 + (Stp.overs a t).times.toNat=1 + (m + 1):=by show 1 + t.toNat=_;lia
   rw [e]
   exact (First.one rfl).trans q.1 d
  | unders a t =>
   obtain ⟨L1,_,L3⟩:=L
   have t1:1≤t:=t1
   obtain ⟨m,hm⟩:∃ m:Nat,t=(m:Int) + 1:=⟨(t - 1).toNat,by lia⟩
   have d:=up_steps (f:=go r) (lo:=((Stp.unders a t).behind r).size) (y:=y) (S:=lenOf r.ls (J1 r.top a)) (t:=t) (fun k k0 k1=>(L1 k k0 k1).2) m (by lia)
   have p:=(L1 (m:Int) (by lia) (by lia)).2.2
   have e:1 + (Stp.unders a t).times.toNat=(m + 1) + 1:=by show 1 + t.toNat=_;lia
   rw [e]
   rw [← hm] at d
   refine d.trans ?_ (First.one L3)
   have e3:t * lenOf r.ls (J1 r.top a)=(m:Int) * lenOf r.ls (J1 r.top a) + lenOf r.ls (J1 r.top a):=by rw [hm,Int.add_mul,Int.one_mul]
   rw [e3]
   lia
 ·rw [if_neg c]
  exact First.one (R.plain y j o A c).2
theorem home_go {r:Rst} (h:r.Ok) (ne:r.top≠[]) {a:Nat} (n:NextP r (.home a)):((Stp.home a).behind r).size + r.ls.getD a 0=r.size∧∀ y,((Stp.home a).behind r).size≤y→y < r.size→
  LetAt r y a (y - ((Stp.home a).behind r).size)∧go r y=if r.ts.getD a false=true then ((Stp.home a).behind r).size + r.size - 1 - y else y:=by
 obtain ⟨n1,n2⟩:=n
 have neb:r.bot≠[]:=fun e=>ne (by have:=h.perm;rw [e] at this;exact this.symm.eq_nil)
 obtain ⟨T,eT⟩:=last_form ne
 obtain ⟨B,eB⟩:=last_form neb
 have eT:r.top=T ++ [a]:=by rw [n1];exact eT
 have eB:r.bot=B ++ [a]:=by rw [n2];exact eB
 have aT:=nd_last (eT ▸ h.row.nd)
 have aB:=nd_last (eB ▸ h.rowB.nd)
 have aIn:a∈r.top:=by rw [eT];simp
 have lt:((Stp.home a).behind r).top=T:=by show withoutR r.top a=T;rw [eT,J1p,J21,List.append_nil,J1o aT]
 have sz:r.size=lenOf r.ls T + r.ls.getD a 0:=by show lenOf r.ls r.top=_;rw [eT,Jx,lenOf_one]
 have szB:r.size=lenOf r.ls B + r.ls.getD a 0:=by rw [← h.sizeB,eB,Jx,lenOf_one]
 have szl:((Stp.home a).behind r).size=lenOf r.ls T:=by show lenOf (r.ls.set a 0) ((Stp.home a).behind r).top=_;rw [lt,Jm _ _ aT]
 refine ⟨by lia,fun y h0 h1=>?_⟩
 have A:LetAt r y a (y - ((Stp.home a).behind r).size):=⟨aIn,by lia,by lia,by rw [eT,posR_mid _ _ aT];lia⟩
 refine ⟨A,?_⟩
 rw [go_at h A,eB,posR_mid _ _ aB]
 unfold offT
 split <;> lia
end Rl
namespace Rl
end Rl
namespace Rl
abbrev bz0:Band:=(0,0,0,false)
def flipB (b:Band) (o:Int):Int:=if b.2.2.2=true then b.2.1 - 1 - o else o
def Bnd (f:Int→Int) (b:Band):Prop:=1≤b.2.1∧1≤b.2.2.1∧∀ o,0≤o→o < b.2.1→First f (b.1 + b.2.1) b.2.2.1.toNat (b.1 + o) (b.1 + flipB b o)
theorem J7u {b:Band} {o:Int} (h0:0≤o) (h1:o < b.2.1):0≤flipB b o∧flipB b o < b.2.1:=by unfold flipB;split <;> lia
theorem flipB_two (b:Band) (o:Int):flipB b (flipB b o)=o:=by unfold flipB;split <;> lia
structure Sys (f:Int→Int) (N:Int) (bs:List Band):Prop where
 inn:∀ y,0≤y→y < N→0≤f y∧f y < N
 inj:∀ y z,0≤y→y < N→0≤z→z < N→f y=f z→y=z
 bnd:∀ b∈bs,Bnd f b
 lo:∀ b∈bs,0≤b.1∧b.1 + b.2.1≤N
 ord:bs.Pairwise fun b c=>c.1 + c.2.1≤b.1
 sum:(bs.map fun b=>b.2.1 * b.2.2.1).sum=N
theorem Sys.itin {f:Int→Int} {N:Int} {bs:List Band} (S:Sys f N bs) {y:Int} (h0:0≤y) (h1:y < N):∀ n,0≤itN f n y∧itN f n y < N
 | 0=>⟨h0,h1⟩
 | n + 1=>by have:=S.itin h0 h1 n;exact S.inn _ this.1 this.2
theorem Sys.itinj {f:Int→Int} {N:Int} {bs:List Band} (S:Sys f N bs) {y z:Int} (h0:0≤y) (h1:y < N) (k0:0≤z) (k1:z < N):∀ n,itN f n y=itN f n z→y=z
 | 0,e=>e
 | n + 1,e=>by
  have a:=S.itin h0 h1 n
  have b:=S.itin k0 k1 n
  exact S.itinj h0 h1 k0 k1 n (S.inj _ _ a.1 a.2 b.1 b.2 e)
theorem Bnd.stays {f:Int→Int} {b:Band} (B:Bnd f b):∀ (n:Nat) (o:Int),0≤o→o < b.2.1→b.1≤itN f n (b.1 + o):=by
 obtain ⟨w1,h1,F⟩:=B
 intro n
 induction n using Nat.strongRecOn with
 | _ n ih =>
  intro o o0 o1
  have Fo:=F o o0 o1
  by_cases c0:n=0
  ·subst c0;show b.1≤b.1 + o;lia
  by_cases c:n < b.2.2.1.toNat
  ·have:=Fo.mid n (by lia) c;lia
  ·obtain ⟨k,rfl⟩:∃ k,n=b.2.2.1.toNat + k:=⟨n - b.2.2.1.toNat,by lia⟩
   rw [J1d,Fo.last]
   have fi:=J7u o0 o1
   exact ih k (by lia) _ fi.1 fi.2
theorem Bnd.back {f:Int→Int} {b:Band} (B:Bnd f b) {o:Int} (h0:0≤o) (h1:o < b.2.1):itN f b.2.2.1.toNat (b.1 + o)=b.1 + flipB b o:=(B.2.2 o h0 h1).last
theorem Bnd.high {f:Int→Int} {b:Band} (B:Bnd f b) {o:Int} (h0:0≤o) (h1:o < b.2.1) {l:Nat} (l0:0 < l) (l1:(l:Int) < b.2.2.1):b.1 + b.2.1≤itN f l (b.1 + o):=(B.2.2 o h0 h1).mid l l0 (by lia)
theorem Sys.meet {f:Int→Int} {N:Int} {bs:List Band} (S:Sys f N bs) {b c:Band} (hb:b∈bs) (hc:c∈bs) (bc:b=c∨c.1 + c.2.1≤b.1∨b.1 + b.2.1≤c.1) {o o':Int} (o0:0≤o) (o1:o < b.2.1) (p0:0≤o') (p1:o' < c.2.1)
  {l l':Nat} (hl:(l:Int) < b.2.2.1) (hl':(l':Int) < c.2.2.1) (le:l≤l') (e:itN f l (b.1 + o)=itN f l' (c.1 + o')):b=c∧o=o'∧l=l':=by
 have Bb:=S.bnd b hb
 have Bc:=S.bnd c hc
 have lb:=S.lo b hb
 have lc:=S.lo c hc
 obtain ⟨d,rfl⟩:∃ d,l'=d + l:=⟨l' - l,by lia⟩
 rw [J1d] at e
 have in2:=S.itin (y:=c.1 + o') (by lia) (by lia) d
 have e1:=S.itinj (by lia) (by lia) in2.1 in2.2 l e
 by_cases d0:d=0
 ·subst d0
  have e1:b.1 + o=c.1 + o':=e1
  rcases bc with rfl | q | q
  ·exact ⟨rfl,by lia,by lia⟩
  ·lia
  ·lia
 ·have hi:=Bc.high p0 p1 (l:=d) (by lia) (by lia)
  rw [← e1] at hi
  rcases bc with rfl | q | q
  ·lia
  ·exfalso
   have hc2:=Bc.back p0 p1
   have fi:=J7u p0 p1
   obtain ⟨k,hk⟩:∃ k,c.2.2.1.toNat=d + k:=⟨c.2.2.1.toNat - d,by lia⟩
   rw [hk,J1d,← e1] at hc2
   have:=Bb.stays k o o0 o1
   lia
  ·lia
theorem J4l {bs:List Band} {b:Nat} (h:b < bs.length):bs.getD b bz0∈bs:=by
 rw [List.getD_eq_getElem?_getD,List.getElem?_eq_getElem h];exact List.getElem_mem h
structure Adr (bs:List Band) (b:Nat) (o lv:Int):Prop where
 hb:b < bs.length
 o0:0≤o
 o1:o < (bs.getD b bz0).2.1
 l0:0≤lv
 l1:lv < (bs.getD b bz0).2.2.1
def plOf (f:Int→Int) (bs:List Band) (b:Nat) (o lv:Int):Int:=itN f lv.toNat ((bs.getD b bz0).1 + o)
theorem Sys.apart {f:Int→Int} {N:Int} {bs:List Band} (S:Sys f N bs) {b c:Nat} (hb:b < bs.length) (hc:c < bs.length) (h:b < c):(bs.getD c bz0).1 + (bs.getD c bz0).2.1≤(bs.getD b bz0).1:=by
 have:=(List.pairwise_iff_getElem.mp S.ord) b c hb hc h
 have eb:bs.getD b bz0=bs[b]:=by rw [List.getD_eq_getElem?_getD,List.getElem?_eq_getElem hb];rfl
 have ec:bs.getD c bz0=bs[c]:=by rw [List.getD_eq_getElem?_getD,List.getElem?_eq_getElem hc];rfl
 rw [eb,ec]
 exact this
theorem Sys.uniq {f:Int→Int} {N:Int} {bs:List Band} (S:Sys f N bs) {b b':Nat} {o o' lv lv':Int} (A:Adr bs b o lv) (A':Adr bs b' o' lv') (e:plOf f bs b o lv=plOf f bs b' o' lv'):b=b'∧o=o'∧lv=lv':=by
 have rel:bs.getD b bz0=bs.getD b' bz0∨(bs.getD b' bz0).1 + (bs.getD b' bz0).2.1≤(bs.getD b bz0).1∨(bs.getD b bz0).1 + (bs.getD b bz0).2.1≤(bs.getD b' bz0).1:=by
  rcases Nat.lt_trichotomy b b' with q | q | q
  ·exact .inr (.inl (S.apart A.hb A'.hb q))
  ·exact .inl (by rw [q])
  ·exact .inr (.inr (S.apart A'.hb A.hb q))
 have same:bs.getD b bz0=bs.getD b' bz0→b=b':=fun e=>by
  have w:=(S.bnd _ (J4l A'.hb)).1
  rcases Nat.lt_trichotomy b b' with q | q | q
  ·have:=S.apart A.hb A'.hb q;rw [e] at this;lia
  ·exact q
  ·have:=S.apart A'.hb A.hb q;rw [e] at this;lia
 have a0:=A.l0;have a1:=A.l1;have b0:=A'.l0;have b1:=A'.l1
 unfold plOf at e
 by_cases le:lv.toNat≤lv'.toNat
 ·obtain ⟨q1,q2,q3⟩:=S.meet (J4l A.hb) (J4l A'.hb) rel A.o0 A.o1 A'.o0 A'.o1 (by lia) (by lia) le e
  exact ⟨same q1,q2,by lia⟩
 ·obtain ⟨q1,q2,q3⟩:=S.meet (J4l A'.hb) (J4l A.hb) (rel.elim (fun q=>.inl q.symm) fun q=>.inr q.symm) A'.o0 A'.o1 A.o0 A.o1 (by lia) (by lia) (by lia) e.symm
  exact ⟨same q1.symm,q2.symm,by lia⟩
theorem Sys.pl_in {f:Int→Int} {N:Int} {bs:List Band} (S:Sys f N bs) {b:Nat} {o lv:Int} (A:Adr bs b o lv):0≤plOf f bs b o lv∧plOf f bs b o lv < N:=by
 have l:=S.lo _ (J4l A.hb)
 have:=A.o0
 have:=A.o1
 exact S.itin (by lia) (by lia) _
def rowPl (f:Int→Int) (b:Band) (o:Nat):List Int:=(List.range b.2.2.1.toNat).map fun l=>itN f l (b.1 + (o:Int))
def bandPl (f:Int→Int) (b:Band):List Int:=(List.range b.2.1.toNat).flatMap (rowPl f b)
def allPl (f:Int→Int) (bs:List Band):List Int:=bs.flatMap (bandPl f)
theorem mem_rowPl {f:Int→Int} {b:Band} {o:Nat} {x:Int}:x∈rowPl f b o↔∃ l:Nat,(l:Int) < b.2.2.1∧x=itN f l (b.1 + (o:Int)):=by
 unfold rowPl
 rw [List.mem_map]
 constructor
 ·rintro ⟨l,hl,rfl⟩;exact ⟨l,by have:=List.mem_range.mp hl;lia,rfl⟩
 ·rintro ⟨l,hl,rfl⟩;exact ⟨l,List.mem_range.mpr (by lia),rfl⟩
theorem mem_bandPl {f:Int→Int} {b:Band} {x:Int}:x∈bandPl f b↔∃ o l:Nat,(o:Int) < b.2.1∧(l:Int) < b.2.2.1∧x=itN f l (b.1 + (o:Int)):=by
 unfold bandPl
 rw [List.mem_flatMap]
 constructor
 ·rintro ⟨o,ho,hx⟩
  obtain ⟨l,hl,rfl⟩:=mem_rowPl.mp hx
  exact ⟨o,l,by have:=List.mem_range.mp ho;lia,hl,rfl⟩
 ·rintro ⟨o,l,ho,hl,rfl⟩
  exact ⟨o,List.mem_range.mpr (by lia),mem_rowPl.mpr ⟨l,hl,rfl⟩⟩
theorem Sys.eq_of {f:Int→Int} {N:Int} {bs:List Band} (S:Sys f N bs) {b c:Band} (hb:b∈bs) (hc:c∈bs) (bc:b=c∨c.1 + c.2.1≤b.1∨b.1 + b.2.1≤c.1) {o o' l l':Nat} (o1:(o:Int) < b.2.1) (p1:(o':Int) < c.2.1)
  (hl:(l:Int) < b.2.2.1) (hl':(l':Int) < c.2.2.1) (e:itN f l (b.1 + (o:Int))=itN f l' (c.1 + (o':Int))):b=c∧o=o'∧l=l':=by
 by_cases le:l≤l'
 ·obtain ⟨q1,q2,q3⟩:=S.meet hb hc bc (by lia) o1 (by lia) p1 hl hl' le e
  exact ⟨q1,by lia,q3⟩
 ·obtain ⟨q1,q2,q3⟩:=S.meet hc hb (bc.elim (fun q=>.inl q.symm) fun q=>.inr q.symm) (by lia) p1 (by lia) o1 hl' hl (by lia) e.symm
  exact ⟨q1.symm,by lia,q3.symm⟩
theorem Sys.nodup {f:Int→Int} {N:Int} {bs:List Band} (S:Sys f N bs):(allPl f bs).Nodup:=by
 unfold allPl
 refine List.pairwise_flatMap.mpr ⟨fun b hb=>?_,S.ord.imp_of_mem fun {b c} hb hc q x hx y hy e=>?_⟩
 ·unfold bandPl
  refine List.pairwise_flatMap.mpr ⟨fun o ho=>?_,List.pairwise_lt_range.imp_of_mem fun {o o'} ho ho' q x hx y hy e=>?_⟩
  ·unfold rowPl
   rw [List.pairwise_map]
   have o1:=List.mem_range.mp ho
   refine List.pairwise_lt_range.imp_of_mem fun {l l'} hl hl' q e=>?_
   have:=(S.eq_of hb hb (.inl rfl) (by lia) (by lia) (by have:=List.mem_range.mp hl;lia) (by have:=List.mem_range.mp hl';lia) e).2.2
   lia
  ·obtain ⟨l,hl,rfl⟩:=mem_rowPl.mp hx
   obtain ⟨l',hl',rfl⟩:=mem_rowPl.mp hy
   have:=(S.eq_of hb hb (.inl rfl) (by have:=List.mem_range.mp ho;lia) (by have:=List.mem_range.mp ho';lia) hl hl' e).2.1
   lia
 ·obtain ⟨o,l,ho,hl,rfl⟩:=mem_bandPl.mp hx
  obtain ⟨o',l',ho',hl',rfl⟩:=mem_bandPl.mp hy
  have w:=(S.bnd c hc).1
  obtain ⟨rfl,_,_⟩:=S.eq_of hb hc (.inr (.inl q)) ho ho' hl hl' e
  lia
theorem len_bandPl {f:Int→Int} {b:Band} (h1:0≤b.2.1) (h2:0≤b.2.2.1):((bandPl f b).length:Int)=b.2.1 * b.2.2.1:=by
 have:∀ n:Nat,((List.range n).flatMap (rowPl f b)).length=n * b.2.2.1.toNat:=fun n=>by
  induction n with
  | zero=>simp
  | succ n ih =>
   rw [List.range_succ,List.flatMap_append,List.length_append,ih]
   have:([n].flatMap (rowPl f b)).length=b.2.2.1.toNat:=by
    rw [List.flatMap_singleton];unfold rowPl;rw [List.length_map,List.length_range]
   rw [this,Nat.succ_mul]
 unfold bandPl
 rw [this,Int.natCast_mul]
 rw [show ((b.2.1.toNat:Nat):Int)=b.2.1 by lia,show ((b.2.2.1.toNat:Nat):Int)=b.2.2.1 by lia]
theorem len_allPl {f:Int→Int}:∀ {bs:List Band},(∀ b∈bs,Bnd f b)→((allPl f bs).length:Int)=(bs.map fun b=>b.2.1 * b.2.2.1).sum
 | [],_=>rfl
 | b :: bs,h=>by
  have ih:=len_allPl (bs:=bs) fun c hc=>h c (List.mem_cons_of_mem _ hc)
  have B:=h b List.mem_cons_self
  have w:=B.1
  have hh:=B.2.1
  rw [List.map_cons,List.sum_cons,← ih,← len_bandPl (f:=f) (b:=b) (by lia) (by lia)]
  unfold allPl
  rw [List.flatMap_cons,List.length_append]
  lia
theorem Sys.len {f:Int→Int} {N:Int} {bs:List Band} (S:Sys f N bs):((allPl f bs).length:Int)=N:=by rw [len_allPl S.bnd,S.sum]
theorem mem_allPl {f:Int→Int} {bs:List Band} {x:Int}:x∈allPl f bs↔∃ b o lv,Adr bs b o lv∧plOf f bs b o lv=x:=by
 unfold allPl
 rw [List.mem_flatMap]
 constructor
 ·rintro ⟨c,hc,hx⟩
  obtain ⟨o,l,ho,hl,rfl⟩:=mem_bandPl.mp hx
  obtain ⟨b,hb,rfl⟩:=List.getElem_of_mem hc
  have e:bs.getD b bz0=bs[b]:=by rw [List.getD_eq_getElem?_getD,List.getElem?_eq_getElem hb];rfl
  refine ⟨b,o,l,⟨hb,by lia,by rw [e];exact ho,by lia,by rw [e];exact hl⟩,?_⟩
  unfold plOf
  rw [e];rfl
 ·rintro ⟨b,o,lv,A,rfl⟩
  refine ⟨_,J4l A.hb,mem_bandPl.mpr ⟨o.toNat,lv.toNat,?_,?_,?_⟩⟩
  ·have:=A.o0;have:=A.o1;lia
  ·have:=A.l0;have:=A.l1;lia
  ·have:=A.o0
   unfold plOf
   rw [show ((o.toNat:Nat):Int)=o by lia]
theorem Sys.all_in {f:Int→Int} {N:Int} {bs:List Band} (S:Sys f N bs) {x:Int} (h:x∈allPl f bs):0≤x∧x < N:=by
 obtain ⟨b,o,lv,A,rfl⟩:=mem_allPl.mp h
 exact S.pl_in A
theorem Sys.exists {f:Int→Int} {N:Int} {bs:List Band} (S:Sys f N bs) {x:Int} (h0:0≤x) (h1:x < N):∃ b o lv,Adr bs b o lv∧plOf f bs b o lv=x:=by
 refine mem_allPl.mp ?_
 apply Classical.byContradiction
 intro c
 have nd:((x :: allPl f bs).map Int.toNat).Nodup:=by
  refine List.pairwise_map.mpr ((List.nodup_cons.mpr ⟨c,S.nodup⟩).imp_of_mem fun {a b} ha hb ne e=>?_)
  have hin:∀ {z},z∈x :: allPl f bs→0≤z∧z < N:=fun {z} hz=>by
   rcases List.mem_cons.mp hz with rfl | hz
   ·exact ⟨h0,h1⟩
   ·exact S.all_in hz
  have:=hin ha
  have:=hin hb
  exact ne (by lia)
 have lt:∀ j∈(x :: allPl f bs).map Int.toNat,j < N.toNat:=fun j hj=>by
  obtain ⟨z,hz,rfl⟩:=List.mem_map.mp hj
  rcases List.mem_cons.mp hz with rfl | hz
  ·lia
  ·have:=S.all_in hz;lia
 have le:=J67 N.toNat _ nd lt
 have ln:=S.len
 rw [List.length_map,List.length_cons] at le
 lia
end Rl
namespace Rl
structure Reach (f:Int→Int) (lo:Int) (n:Nat) (y z:Int):Prop where
 last:itN f n y=z
 mid:∀ i,0 < i→i≤n→lo≤itN f i y
theorem Reach.zero {f:Int→Int} {lo y:Int}:Reach f lo 0 y y:=⟨rfl,fun i h0 h1=>by lia⟩
theorem Reach.trans {f:Int→Int} {lo y z w:Int} {n m:Nat} (a:Reach f lo n y z) (b:Reach f lo m z w):Reach f lo (n + m) y w:=by
 refine ⟨by rw [J1d,a.last,b.last],fun i h0 h1=>?_⟩
 by_cases c:i≤n
 ·exact a.mid i h0 c
 ·obtain ⟨k,rfl⟩:∃ k,i=n + k:=⟨i - n,by lia⟩
  rw [J1d,a.last]
  exact b.mid k (by lia) (by lia)
theorem Reach.lt {f:Int→Int} {lo y z w:Int} {n m:Nat} (a:Reach f lo n y z) (F:First f lo m y w) (hw:w < lo):n < m:=by
 apply Classical.byContradiction
 intro c
 have:=a.mid m F.pos (by lia)
 rw [F.last] at this
 lia
end Rl
namespace Rl
end Rl
namespace Rl
end Rl
namespace Rl
section
variable {f:Int→Int} {N:Int} {bs:List Band}
structure RndOf (f:Int→Int) (x:Int) (n:Nat):Prop where
 pos:0 < n
 back:itN f n x=x
 least:∀ i,0 < i→i < n→itN f i x≠x
def lenR (b:Band) (o:Int):Int:=if b.2.2.2=true∧o≠b.2.1 - 1 - o then 2 * b.2.2.1 else b.2.2.1
theorem Sys.rnd (S:Sys f N bs) {b:Nat} {o lv:Int} (A:Adr bs b o lv):RndOf f (plOf f bs b o lv) (lenR (bs.getD b bz0) o).toNat∧1≤lenR (bs.getD b bz0) o:=by
 have B:=S.bnd _ (J4l A.hb)
 have h1:=B.2.1
 have a0:=A.o0;have a1:=A.o1;have a2:=A.l0;have a3:=A.l1
 have lo:=S.lo _ (J4l A.hb)
 have inn:=S.itin (y:=(bs.getD b bz0).1 + o) (by lia) (by lia)
 unfold plOf
 generalize bs.getD b bz0=c at *
 have p1:1≤lenR c o:=by unfold lenR;split <;> lia
 have fb:=B.back a0 a1
 have fi:=J7u a0 a1
 have fb2:=B.back fi.1 fi.2
 rw [flipB_two] at fb2
 refine ⟨⟨by lia,?_,fun i i0 i1 e=>?_⟩,p1⟩
 ·rw [← J1d,Nat.add_comm,J1d]
  congr 1
  unfold lenR
  split
  ·rw [show (2 * c.2.2.1).toNat=c.2.2.1.toNat + c.2.2.1.toNat by lia,J1d,fb,fb2]
  ·rename_i k
   rw [fb]
   congr 1
   unfold flipB
   split
   ·rename_i t
    by_cases e:o=c.2.1 - 1 - o
    ·lia
    ·exact absurd ⟨t,e⟩ k
   ·rfl
 ·rw [← J1d,Nat.add_comm,J1d] at e
  have ii:=inn i
  have e1:itN f i (c.1 + o)=c.1 + o:=S.itinj ii.1 ii.2 (by lia) (by lia) lv.toNat e
  by_cases k:(i:Int) < c.2.2.1
  ·have:=B.high a0 a1 i0 k
   lia
  ·unfold lenR at i1
   split at i1
   ·rename_i t
    obtain ⟨j,rfl⟩:∃ j,i=c.2.2.1.toNat + j:=⟨i - c.2.2.1.toNat,by lia⟩
    rw [J1d,fb] at e1
    by_cases j0:j=0
    ·subst j0
     have e1:c.1 + flipB c o=c.1 + o:=e1
     unfold flipB at e1
     rw [if_pos t.1] at e1
     exact t.2 (by lia)
    ·have:=B.high fi.1 fi.2 (l:=j) (by lia) (by lia)
     lia
   ·lia
theorem RndOf.mul {x:Int} {n:Nat} (R:RndOf f x n):∀ k,itN f (k * n) x=x
 | 0=>by rw [Nat.zero_mul];rfl
 | k + 1=>by rw [Nat.succ_mul,J1d,R.mul k,R.back]
theorem RndOf.mod {x:Int} {n:Nat} (R:RndOf f x n) (m:Nat):itN f m x=itN f (m % n) x:=by
 have e:m=(m / n) * n + m % n:=by rw [Nat.mul_comm];exact (Nat.div_add_mod m n).symm
 conv=>lhs;rw [e]
 rw [J1d,R.mul]
theorem RndOf.uniq {x:Int} {n m:Nat} (R:RndOf f x n) (R':RndOf f x m):n=m:=by
 rcases Nat.lt_trichotomy n m with h | h | h
 ·exact absurd R.back (R'.least n R.pos h)
 ·exact h
 ·exact absurd R'.back (R.least m R'.pos h)
theorem Sys.rnd_inj (S:Sys f N bs) {x:Int} (h0:0≤x) (h1:x < N) {n:Nat} (R:RndOf f x n) {i j:Nat} (hi:i < n) (hj:j < n) (e:itN f i x=itN f j x):i=j:=by
 have key:∀ {i j:Nat},i≤j→j < n→itN f i x=itN f j x→i=j:=fun {i j} le hj e=>by
  obtain ⟨d,rfl⟩:∃ d,j=d + i:=⟨j - i,by lia⟩
  rw [J1d] at e
  have ii:=S.itin h0 h1 d
  have e1:=S.itinj h0 h1 ii.1 ii.2 i e
  by_cases d0:d=0
  ·lia
  ·exact absurd e1.symm (R.least d (by lia) (by lia))
 rcases Nat.le_total i j with h | h
 ·exact key h hj e
 ·exact (key h hi e.symm).symm
theorem Sys.rnd_iff (S:Sys f N bs) {x:Int} (h0:0≤x) (h1:x < N) {n:Nat} (R:RndOf f x n) {d:Nat} (hd:d < n) (m:Nat):itN f m x=itN f d x↔m % n=d:=by
 rw [R.mod m]
 constructor
 ·exact fun e=>S.rnd_inj h0 h1 R (Nat.mod_lt _ R.pos) hd e
 ·exact fun e=>by rw [e]
end
end Rl
namespace Rl
theorem high_sum {f:Int→Int}:∀ {bs:List Band},(∀ b∈bs,Bnd f b)→∀ b∈bs,b.2.1 * b.2.2.1≤(bs.map fun b=>b.2.1 * b.2.2.1).sum
 | c :: bs,h,b,hb=>by
  have nn:∀ d∈c :: bs,0≤d.2.1 * d.2.2.1:=fun d hd=>Int.mul_nonneg (by have:=(h d hd).1;omega) (by have:=(h d hd).2.1;omega)
  have ns:0≤(bs.map fun b=>b.2.1 * b.2.2.1).sum:=by
   clear hb
   have h2:∀ d∈bs,0≤d.2.1 * d.2.2.1:=fun d hd=>nn d (List.mem_cons_of_mem _ hd)
   clear nn h
   induction bs with
   | nil=>exact Int.le_refl _
   | cons d bs ih =>
    rw [List.map_cons,List.sum_cons]
    have:=h2 d List.mem_cons_self
    have:=ih fun e he=>h2 e (List.mem_cons_of_mem _ he)
    omega
  rw [List.map_cons,List.sum_cons]
  rcases List.mem_cons.mp hb with rfl | hb
  ·omega
  ·have:=high_sum (bs:=bs) (fun d hd=>h d (List.mem_cons_of_mem _ hd)) b hb
   have:=nn c List.mem_cons_self
   omega
theorem Sys.high {f:Int→Int} {N:Int} {bs:List Band} (S:Sys f N bs) {b:Nat} (hb:b < bs.length):1≤(bs.getD b bz0).2.2.1∧(bs.getD b bz0).2.2.1≤N:=by
 have B:=S.bnd _ (J4l hb)
 have h:=high_sum S.bnd _ (J4l hb)
 rw [S.sum] at h
 have w:=B.1
 have h1:=B.2.1
 have:1 * (bs.getD b bz0).2.2.1≤(bs.getD b bz0).2.1 * (bs.getD b bz0).2.2.1:=Int.mul_le_mul_of_nonneg_right w (by omega)
 exact ⟨h1,by omega⟩
end Rl
namespace Rl
theorem Sys.hasRnd {f:Int→Int} {N:Int} {bs:List Band} (S:Sys f N bs) {x:Int} (h0:0≤x) (h1:x < N):∃ n,RndOf f x n:=by
 obtain ⟨b,o,lv,A,e⟩:=S.exists h0 h1
 have:=(S.rnd A).1
 rw [e] at this
 exact ⟨_,this⟩
theorem Sys.rnd_move {f:Int→Int} {N:Int} {bs:List Band} (S:Sys f N bs) {x:Int} (h0:0≤x) (h1:x < N) {n:Nat} (R:RndOf f x n) (d:Nat):RndOf f (itN f d x) n:=by
 refine ⟨R.pos,?_,fun i i0 i1 e=>?_⟩
 ·rw [← J1d,Nat.add_comm,J1d,R.back]
 ·rw [← J1d,R.mod d] at e
  have h:=(S.rnd_iff h0 h1 R (Nat.mod_lt d R.pos) (d + i)).mp e
  have e1:(d + i) % n=(d % n + i) % n:=by rw [Nat.add_mod,Nat.mod_eq_of_lt i1]
  rw [e1] at h
  have l:=Nat.mod_lt d R.pos
  generalize d % n=q at *
  by_cases c:q + i < n
  ·rw [Nat.mod_eq_of_lt c] at h
   omega
  ·rw [Nat.mod_eq_sub_mod (by omega),Nat.mod_eq_of_lt (by omega)] at h
   omega
def Rch (f:Int→Int) (x y:Int):Prop:=∃ n,itN f n x=y
theorem Rch.trans {f:Int→Int} {x y z:Int} (h:Rch f x y) (k:Rch f y z):Rch f x z:=by
 obtain ⟨n,rfl⟩:=h
 obtain ⟨m,rfl⟩:=k
 exact ⟨n + m,J1d ..⟩
end Rl
namespace L2
open PySem PyProof.Rows
end L2
namespace L2
open PySem PyProof.Rows
end L2
namespace Rl
theorem Sys.aft {f:Int→Int} {N:Int} {bs:List Band} (S:Sys f N bs) {x z g:Int} (z0:0≤z) (z1:z < N) {n:Nat} (R:RndOf f x n) (p:0≤g→itN f g.toNat x=z) (q:g≤0→itN f (-g).toNat z=x):z=itN f (g % (n:Int)).toNat x:=by
 have np:=R.pos
 by_cases c:0≤g
 ·rw [← p c,R.mod]
  congr 1
  have:((g.toNat % n:Nat):Int)=g % (n:Int):=by rw [Int.natCast_emod,Int.toNat_of_nonneg c]
  omega
 ·have q:=q (by omega)
  obtain ⟨n',R'⟩:=S.hasRnd z0 z1
  have M:=S.rnd_move z0 z1 R' (-g).toNat
  rw [q] at M
  obtain rfl:=M.uniq R
  have e0:=Int.emod_nonneg g (show ((n':Nat):Int)≠0 by omega)
  have e1:=Int.emod_add_mul_ediv g (n':Int)
  have e2:g / (n':Int)≤0:=by
   have:=Int.ediv_le_ediv (show (0:Int) < (n':Nat) by omega) (show g≤0 by omega)
   rwa [Int.zero_ediv] at this
  have e3:(-g).toNat + (g % (n':Int)).toNat=(-(g / (n':Int))).toNat * n':=by
   apply Int.ofNat.inj
   show (((-g).toNat + (g % (n':Int)).toNat:Nat):Int)=(((-(g / (n':Int))).toNat * n':Nat):Int)
   rw [Int.natCast_add,Int.natCast_mul,Int.toNat_of_nonneg (by omega),Int.toNat_of_nonneg e0,Int.toNat_of_nonneg (by omega),Int.neg_mul,Int.mul_comm (g / (n':Int))]
   omega
  rw [← q,← J1d,e3,R'.mul]
end Rl
namespace Rl
end Rl
namespace Rl
def upO (b:Band) (o lv:Int):Int:=if lv + 1 < b.2.2.1 then o else if b.2.2.2=true then b.2.1 - 1 - o else o
end Rl
namespace L2
open PySem PySem.Spec PyProof.Rows
section
variable {κ:Type} [DecidableEq κ]
def valV (kvs:List (κ × V)) (k:κ):Option V:=(kvs.find? fun kv=>decide (kv.1=k)).map (·.2)
def putK (kvs:List (κ × V)) (k:κ) (v:V):List (κ × V) :=
 if (kvs.any fun kv=>decide (kv.1=k))=true then kvs.map (fun kv=>if kv.1=k then (kv.1,v) else kv) else kvs ++ [(k,v)]
theorem RelO.getD {o:Option V} {u:Option Value} {d:V} {d':Value} (r:RelO o u) (rd:RelV d d'):RelV (o.getD d) (u.getD d'):=by
 cases o with
 | none=>cases u with
  | none=>exact rd
  | some _=>exact (show False from r).elim
 | some _=>cases u with
  | none=>exact (show False from r).elim
  | some _=>exact r
theorem KV.any {kvs:List (κ × V)} {vs:List (κ × Value)} (r:KV kvs vs) (k:κ):(kvs.any fun kv=>decide (kv.1=k))=vs.any fun kv=>decide (kv.1=k):=by
 unfold KV at r
 induction r with
 | nil=>rfl
 | cons h t ih=>rw [List.any_cons,List.any_cons,ih,h.1]
theorem KV.length {kvs:List (κ × V)} {vs:List (κ × Value)} (r:KV kvs vs):kvs.length=vs.length:=Paired.length r
end
def DGet (H:Hp) (a:Addr) (y:V) (r:Option V):Prop :=
 (∃ kvs k,Rd H a (.dK kvs)∧y=kV k∧r=valV kvs k)∨∃ kvs k b,Rd H a (.dT kvs)∧y=.ref b∧H b=some (.tup (k.map kV))∧r=valV kvs k
def DPut (H:Hp) (a:Addr) (y v:V) (H':Hp):Prop :=
 (∃ kvs k,H a=some (.dK kvs)∧y=kV k∧kvs.length < sizeLine∧H'=upd H a (.dK (putK kvs k v)))∨
 ∃ kvs k b,H a=some (.dT kvs)∧y=.ref b∧H b=some (.tup (k.map kV))∧kvs.length < sizeLine∧H'=upd H a (.dT (putK kvs k v))
theorem DGet.k {H:Hp} {a:Addr} {kvs:List (Key × V)} {k:Key} (e:H a=some (.dK kvs)):DGet H a (kV k) (valV kvs k):=.inl ⟨kvs,k,.inl e,rfl,rfl⟩
theorem DGet.t {H:Hp} {a b:Addr} {kvs:List (List Key × V)} {k:List Key} (e:H a=some (.dT kvs)) (eb:H b=some (.tup (k.map kV))):DGet H a (.ref b) (valV kvs k):=.inr ⟨kvs,k,b,.inl e,rfl,eb,rfl⟩
theorem DPut.k {H:Hp} {a:Addr} {kvs:List (Key × V)} {k:Key} {v:V} (e:H a=some (.dK kvs)) (hl:kvs.length < sizeLine):DPut H a (kV k) v (upd H a (.dK (putK kvs k v))):=.inl ⟨kvs,k,e,rfl,hl,rfl⟩
theorem DPut.t {H:Hp} {a b:Addr} {kvs:List (List Key × V)} {k:List Key} {v:V} (e:H a=some (.dT kvs)) (eb:H b=some (.tup (k.map kV))) (hl:kvs.length < sizeLine) :
  DPut H a (.ref b) v (upd H a (.dT (putK kvs k v))):=.inr ⟨kvs,k,b,e,rfl,eb,hl,rfl⟩
end L2
namespace L2
open PySem PySem.Spec PyProof.Rows
end L2
namespace Rl
end Rl
namespace Rl
end Rl
namespace Rl
theorem NextP.ok {r:Rst} (h:r.Ok) (ne:r.top≠[]) {s:Stp} (n:NextP r s):(s.behind r).Ok:=by
 have mT:=h.mT ne
 have mB:=h.mB ne
 have mTb:=h.perm.mem_iff.mpr mT
 have mBb:=h.perm.mem_iff.mpr mB
 have ndB:=h.rowB.nd
 cases s with
 | home a =>
  obtain ⟨rfl,c1⟩:=n
  refine h.less mT (J1r h.perm _) (by rw [List.length_set]) (fun j hj=>?_) ?_
  ·rw [J1w _ _ _ _ (by rw [h.len];exact h.row.lt _ mT)]
   split
   ·rfl
   ·exact h.zt j hj
  ·rw [J1w _ _ _ _ (by rw [h.len];exact h.row.lt _ mT),if_pos rfl]
 | even a b =>
  obtain ⟨rfl,rfl,c1,c2⟩:=n
  refine h.less mT ((J1r (J1q ndB mBb false) _).trans (J1r h.perm _)) (by rw [List.length_set,J17]) (fun j hj=>?_) ?_
  ·rw [J1w _ _ _ _ (by rw [J17,h.len];exact h.row.lt _ mT)]
   split
   ·rfl
   ·exact J2a h mB j hj
  ·rw [J1w _ _ _ _ (by rw [J17,h.len];exact h.row.lt _ mT),if_pos rfl]
 | over a b =>
  obtain ⟨rfl,rfl,c1,c2⟩:=n
  exact h.of_rows (List.Perm.refl _) ((J1q ndB mBb _).trans h.perm) (by rw [List.length_set]) (J17 _ _ _) (J41 h mT (by omega)) (J42 h mT) (J2a h mB)
 | under a b =>
  obtain ⟨rfl,rfl,c1,c2⟩:=n
  exact h.of_rows (J1q h.row.nd mT _) h.perm (by rw [List.length_set]) (J17 _ _ _) (J41 h mB (by omega)) (J42 h mB) (J2a h mT)
 | overs a t =>
  obtain ⟨rfl,c1,c3,c4,c5,c7⟩:=n
  exact h.of_rows (List.Perm.refl _) h.perm (by rw [List.length_set]) rfl (J41 h mT (by omega)) (J42 h mT) h.zt
 | unders a t =>
  obtain ⟨rfl,c1,c3,c4,c5,c7⟩:=n
  exact h.of_rows (List.Perm.refl _) h.perm (by rw [List.length_set]) rfl (J41 h mB (by omega)) (J42 h mB) h.zt
theorem NextP.down {r:Rst} (h:r.Ok) (ne:r.top≠[]) {s:Stp} (n:NextP r s):Down r s:=by
 have ok:=n.ok h ne
 have w:=n.win h ne
 have mT:=h.mT ne
 have mB:=h.mB ne
 have nd:=h.row.nd
 have ndB:=h.rowB.nd
 have nl:=NextP.losers_nd h (s:=s)
 have hlt:=h.row.lt
 have pos:=h.row.pos
 cases s with
 | home a =>
  have wa:a∈r.top:=w
  have sz:((Stp.home a).behind r).size=lenOf r.ls (withoutR r.top a):=Jm _ _ (J34 _ _)
  have e:=J26 (ls:=r.ls) nd wa
  have p:=pos a wa
  have e2:r.size=lenOf r.ls r.top:=rfl
  refine ⟨?_,by omega,?_,fun j hj=>(mem_without.mp hj).1,J29 nd wa⟩
  ·show ((Stp.home a).behind r).size + 1 * lenOf r.ls [] + (if true=true then r.ls.getD a 0 else 0)=r.size
   rw [if_pos rfl,Jt];omega
  ·exact J1h (a:=a) (v:=0) ok.row.nd nl (fun j hj=>nomatch hj) rfl (fun q=>nomatch q)
 | even a b =>
  obtain ⟨n1,n2,n3,n4⟩:=n
  have wa:a∈r.top:=w
  have wb:b∈r.top:=by rw [n2];exact mB
  have sz:((Stp.even a b).behind r).size=lenOf r.ls (withoutR r.top a):=Jm _ _ (J34 _ _)
  have e:=J26 (ls:=r.ls) nd wa
  have p:=pos a wa
  have e2:r.size=lenOf r.ls r.top:=rfl
  have eb:lenOf r.ls [b]=r.ls.getD b 0:=by rw [Ji,Jt,Int.add_zero]
  refine ⟨?_,by omega,?_,fun j hj=>(mem_without.mp hj).1,J29 nd wa⟩
  ·show ((Stp.even a b).behind r).size + 1 * lenOf r.ls [b] + (if false=true then r.ls.getD a 0 else 0)=r.size
   rw [if_neg (by decide),eb];omega
  ·refine J1h (a:=a) (v:=0) ok.row.nd nl (fun j hj=>?_) rfl (fun q=>?_)
   ·cases List.mem_singleton.mp hj
    exact mem_without.mpr ⟨wb,fun e=>n3 e.symm⟩
   ·exact n3 (List.mem_singleton.mp q)
 | over a b =>
  obtain ⟨n1,n2,n3,n4⟩:=n
  have wa:a∈r.top:=w
  have wb:b∈r.top:=by rw [n2];exact mB
  have sz:((Stp.over a b).behind r).size=lenOf r.ls r.top - r.ls.getD a 0 + (r.ls.getD a 0 - r.ls.getD b 0):=J1z _ _ (hlt a wa) nd wa
  have p:=pos b wb
  have e2:r.size=lenOf r.ls r.top:=rfl
  have eb:lenOf r.ls [b]=r.ls.getD b 0:=by rw [Ji,Jt,Int.add_zero]
  refine ⟨?_,by omega,?_,fun j hj=>hj,rfl⟩
  ·show ((Stp.over a b).behind r).size + 1 * lenOf r.ls [b] + (if false=true then r.ls.getD a 0 else 0)=r.size
   rw [if_neg (by decide),eb];omega
  ·refine J1h (a:=a) (v:=r.ls.getD a 0 - r.ls.getD b 0) ok.row.nd nl (fun j hj=>?_) rfl (fun q=>?_)
   ·cases List.mem_singleton.mp hj
    exact wb
   ·exact n3 (List.mem_singleton.mp q)
 | under a b =>
  obtain ⟨n1,n2,n3,n4⟩:=n
  have wa:a∈r.top:=w
  have wb:b∈r.top:=by rw [n2];exact mT
  have pp:=J1q nd (w:=a) wb (r.ts.getD a false)
  have sz:((Stp.under a b).behind r).size=lenOf r.ls r.top - r.ls.getD a 0 + (r.ls.getD a 0 - r.ls.getD b 0):=(J1n pp).trans (J1z _ _ (hlt a wa) nd wa)
  have p:=pos b wb
  have e2:r.size=lenOf r.ls r.top:=rfl
  have eb:lenOf r.ls [b]=r.ls.getD b 0:=by rw [Ji,Jt,Int.add_zero]
  refine ⟨?_,by omega,?_,fun j hj=>pp.mem_iff.mp hj,pp.length_eq⟩
  ·show ((Stp.under a b).behind r).size + 1 * lenOf r.ls [b] + (if false=true then r.ls.getD a 0 else 0)=r.size
   rw [if_neg (by decide),eb];omega
  ·refine J1h (a:=a) (v:=r.ls.getD a 0 - r.ls.getD b 0) ok.row.nd nl (fun j hj=>?_) rfl (fun q=>?_)
   ·cases List.mem_singleton.mp hj
    exact pp.mem_iff.mpr wb
   ·exact n3 (List.mem_singleton.mp q)
 | overs a t =>
  obtain ⟨n1,n2,n3,n4,n5,n6⟩:=n
  have wa:a∈r.top:=w
  have wab:a∈r.bot:=h.perm.mem_iff.mpr wa
  have sz:((Stp.overs a t).behind r).size=lenOf r.ls r.top - r.ls.getD a 0 + (r.ls.getD a 0 - t * lenOf r.ls (J1 r.bot a)):=J1z _ _ (hlt a wa) nd wa
  have e2:r.size=lenOf r.ls r.top:=rfl
  have p:1≤t * lenOf r.ls (J1 r.bot a):=by
   have:=Int.mul_le_mul n4 n5 (by decide) (by omega)
   omega
  refine ⟨?_,by omega,?_,fun j hj=>hj,rfl⟩
  ·show ((Stp.overs a t).behind r).size + t * lenOf r.ls (J1 r.bot a) + (if false=true then r.ls.getD a 0 else 0)=r.size
   rw [if_neg (by decide)];omega
  ·exact J1h (a:=a) ok.row.nd nl (fun j hj=>h.perm.mem_iff.mp (Jg hj)) rfl (Js ndB wab)
 | unders a t =>
  obtain ⟨n1,n2,n3,n4,n5,n6⟩:=n
  have wa:a∈r.top:=w
  have sz:((Stp.unders a t).behind r).size=lenOf r.ls r.top - r.ls.getD a 0 + (r.ls.getD a 0 - t * lenOf r.ls (J1 r.top a)):=J1z _ _ (hlt a wa) nd wa
  have e2:r.size=lenOf r.ls r.top:=rfl
  have p:1≤t * lenOf r.ls (J1 r.top a):=by
   have:=Int.mul_le_mul n4 n5 (by decide) (by omega)
   omega
  refine ⟨?_,by omega,?_,fun j hj=>hj,rfl⟩
  ·show ((Stp.unders a t).behind r).size + t * lenOf r.ls (J1 r.top a) + (if false=true then r.ls.getD a 0 else 0)=r.size
   rw [if_neg (by decide)];omega
  ·exact J1h (a:=a) ok.row.nd nl (fun j hj=>Jg hj) rfl (Js nd wa)
theorem NextP.tp {r:Rst} (h:r.Ok) (ne:r.top≠[]) {s:Stp} (n:NextP r s):if s.drops=true then (s.behind r).top=withoutR r.top s.winner else (s.behind r).top.Perm r.top:=by
 cases s with
 | home a=>show withoutR r.top a=withoutR r.top a;rfl
 | even a b=>show withoutR r.top a=withoutR r.top a;rfl
 | over a b=>show List.Perm r.top r.top;exact List.Perm.refl _
 | under a b=>show List.Perm (putR r.top a b (r.ts.getD a false)) r.top;rw [n.2.1];exact J1q h.row.nd (h.mT ne) _
 | overs a t=>show List.Perm r.top r.top;exact List.Perm.refl _
 | unders a t=>show List.Perm r.top r.top;exact List.Perm.refl _
theorem NextP.los {r:Rst} (h:r.Ok) (ne:r.top≠[]) {s:Stp} (n:NextP r s):LosP r s:=by
 have w:=n.win h ne
 have mT:=h.mT ne
 have mB:=h.mB ne
 have nd:=h.row.nd
 have ndB:=h.rowB.nd
 have hlt:=h.row.lt
 have sg:∀ (v:Int),(r.ls.set s.winner v).getD s.winner 0=v:=fun v=>by rw [J15 _ _ _ _ (hlt _ w),if_pos rfl]
 have one1:∀ b,lenOf r.ls [b]=r.ls.getD b 0:=fun b=>by rw [Ji,Jt,Int.add_zero]
 cases s with
 | home a =>
  have sg:∀ (v:Int),(r.ls.set a v).getD a 0=v:=sg
  refine ⟨fun j hj=>(nomatch hj),fun q=>(nomatch q),Int.le_refl _,fun q=>(nomatch q),?_,fun _=>sg 0⟩
  show r.ls.set a 0=r.ls.set a ((r.ls.set a 0).getD a 0)
  rw [sg]
 | even a b =>
  obtain ⟨n1,n2,n3,n4⟩:=n
  have sg:∀ (v:Int),(r.ls.set a v).getD a 0=v:=sg
  have wb:b∈r.top:=by rw [n2];exact mB
  refine ⟨fun j hj=>?_,fun q=>n3 (List.mem_singleton.mp q),Int.le_refl _,fun _=>?_,?_,fun _=>sg 0⟩
  ·cases List.mem_singleton.mp hj
   exact mem_without.mpr ⟨wb,fun e=>n3 e.symm⟩
  ·show r.ls.getD a 0 - 1 * lenOf r.ls [b]=(r.ls.set a 0).getD a 0
   rw [sg,one1];omega
  ·show r.ls.set a 0=r.ls.set a ((r.ls.set a 0).getD a 0)
   rw [sg]
 | over a b =>
  obtain ⟨n1,n2,n3,n4⟩:=n
  have sg:∀ (v:Int),(r.ls.set a v).getD a 0=v:=sg
  have wb:b∈r.top:=by rw [n2];exact mB
  refine ⟨fun j hj=>?_,fun q=>n3 (List.mem_singleton.mp q),Int.le_refl _,fun _=>?_,?_,fun q=>nomatch q⟩
  ·cases List.mem_singleton.mp hj
   exact wb
  ·show r.ls.getD a 0 - 1 * lenOf r.ls [b]=(r.ls.set a (r.ls.getD a 0 - r.ls.getD b 0)).getD a 0
   rw [sg,one1];omega
  ·show r.ls.set a _=r.ls.set a ((r.ls.set a (r.ls.getD a 0 - r.ls.getD b 0)).getD a 0)
   rw [sg]
 | under a b =>
  obtain ⟨n1,n2,n3,n4⟩:=n
  have sg:∀ (v:Int),(r.ls.set a v).getD a 0=v:=sg
  have wb:b∈r.top:=by rw [n2];exact mT
  have pp:=J1q nd (w:=a) wb (r.ts.getD a false)
  refine ⟨fun j hj=>?_,fun q=>n3 (List.mem_singleton.mp q),Int.le_refl _,fun _=>?_,?_,fun q=>nomatch q⟩
  ·cases List.mem_singleton.mp hj
   exact pp.mem_iff.mpr wb
  ·show r.ls.getD a 0 - 1 * lenOf r.ls [b]=(r.ls.set a (r.ls.getD a 0 - r.ls.getD b 0)).getD a 0
   rw [sg,one1];omega
  ·show r.ls.set a _=r.ls.set a ((r.ls.set a (r.ls.getD a 0 - r.ls.getD b 0)).getD a 0)
   rw [sg]
 | overs a t =>
  obtain ⟨n1,n2,n3,n4,n5,n6⟩:=n
  have sg:∀ (v:Int),(r.ls.set a v).getD a 0=v:=sg
  have wab:a∈r.bot:=h.perm.mem_iff.mpr w
  refine ⟨fun j hj=>h.perm.mem_iff.mp (Jg hj),Js ndB wab,n4,fun _=>?_,?_,fun q=>nomatch q⟩
  ·show r.ls.getD a 0 - t * lenOf r.ls (J1 r.bot a)=(r.ls.set a (r.ls.getD a 0 - t * lenOf r.ls (J1 r.bot a))).getD a 0
   rw [sg]
  ·show r.ls.set a _=r.ls.set a ((r.ls.set a (r.ls.getD a 0 - t * lenOf r.ls (J1 r.bot a))).getD a 0)
   rw [sg]
 | unders a t =>
  obtain ⟨n1,n2,n3,n4,n5,n6⟩:=n
  have sg:∀ (v:Int),(r.ls.set a v).getD a 0=v:=sg
  refine ⟨fun j hj=>Jg hj,Js nd w,n4,fun _=>?_,?_,fun q=>nomatch q⟩
  ·show r.ls.getD a 0 - t * lenOf r.ls (J1 r.top a)=(r.ls.set a (r.ls.getD a 0 - t * lenOf r.ls (J1 r.top a))).getD a 0
   rw [sg]
  ·show r.ls.set a _=r.ls.set a ((r.ls.set a (r.ls.getD a 0 - t * lenOf r.ls (J1 r.top a))).getD a 0)
   rw [sg]
theorem NextP.twin {r:Rst} (h:r.Ok) (ne:r.top≠[]) {s:Stp} (n:NextP r s) {T:List Int} (hT:T.length=r.ls.length) {j:Nat} (hj:j∈(s.behind r).top) :
  (towB s r T).getD j 0=T.getD j 0 + (if j∈s.losers r then T.getD s.winner 0 * s.times else 0):=by
 rw [J2k _ _ _ (by rw [hT];exact h.row.lt j ((n.down h ne).sub j hj)),if_pos hj]
 split <;> omega
theorem NextP.stay {r:Rst} (h:r.Ok) (ne:r.top≠[]) {s:Stp} (n:NextP r s) {T:List Int} (hT:T.length=r.ls.length) :
  wS (s.behind r).ls (towB s r T) (s.behind r).top + (if s.isHome=true then r.ls.getD s.winner 0 * T.getD s.winner 0 else 0)=wS r.ls T r.top:=by
 have w:=n.win h ne
 have L:=n.los h ne
 have okl:=n.ok h ne
 have nl:=NextP.losers_nd h (s:=s)
 have tp:=n.tp h ne
 have tin:=fun j=>@NextP.twin r h ne s n T hT j
 have e:=stays_aux (T:=T) (T':=towB s r T) (t:=s.times) h.row.nd w (h.row.lt _ w) nl L.sub L.no L.ls okl.row.nd (fun j hj=>tin j hj) (by
  by_cases c:s.drops=true
  ·rw [if_pos c] at tp
   exact .inr ⟨by rw [tp],L.zero c⟩
  ·rw [if_neg c] at tp
   exact .inl tp)
 rw [e]
 by_cases c:s.isHome=true
 ·have d:s.drops=true:=by
     cases s <;> first | rfl | exact absurd c Bool.false_ne_true
  have l0:lenOf r.ls (s.losers r)=0:=by
     cases s <;> first | rfl | exact absurd c Bool.false_ne_true
  rw [if_pos c,L.zero d,l0]
  omega
 ·rw [if_neg c]
  have t:=L.tl (by simpa using c)
  rw [← t,Int.sub_mul,Int.mul_comm (T.getD s.winner 0) s.times,Int.mul_assoc,Int.mul_assoc,Int.mul_comm (T.getD s.winner 0) (lenOf r.ls (s.losers r))]
  omega
theorem NextP.tow {r:Rst} {T:List Int} (h:r.Ok) (ne:r.top≠[]) {s:Stp} (n:NextP r s) (t:Tow r T):Tow (s.behind r) (towB s r T):=by
 have L:=n.los h ne
 have w:=n.win h ne
 have pw:=t.pos _ w
 have st:=n.stay h ne t.len
 refine ⟨?_,fun j hj=>?_,?_⟩
 ·rw [J3s,t.len,L.ls,List.length_set]
 ·rw [n.twin h ne t.len hj]
  have:=t.pos j ((n.down h ne).sub j hj)
  have m:1 * 1≤T.getD s.winner 0 * s.times:=Int.mul_le_mul pw L.one (by decide) (by omega)
  split <;> omega
 ·have:=t.sum
  have z:0≤r.ls.getD s.winner 0 * T.getD s.winner 0:=Int.mul_nonneg (by have:=h.row.pos _ w;omega) (by omega)
  by_cases c:s.isHome=true
  ·rw [if_pos c] at st;omega
  ·rw [if_neg c] at st;omega
theorem Cok.step {p:Cst} (h:Cok p) (ne:p.1.top≠[]) {s:Stp} (n:NextP p.1 s):Cok (s.behind p.1,towB s p.1 p.2):=⟨n.ok h.ok ne,n.tow h.ok ne h.tow⟩
end Rl
namespace Rl
def atomN (r:Rst):Stp :=
 if lastT r=lastB r then .home (lastT r)
 else if r.ls.getD (lastT r) 0=r.ls.getD (lastB r) 0 then .even (lastT r) (lastB r)
 else if r.ls.getD (lastB r) 0 < r.ls.getD (lastT r) 0 then .over (lastT r) (lastB r)
 else .under (lastB r) (lastT r)
def aft (s:Stp) (p:Cst):Cst:=(s.behind p.1,towB s p.1 p.2)
def bndS (s:Stp) (p:Cst):List Band:=if s.isHome=true then [((s.behind p.1).size,p.1.ls.getD s.winner 0,p.2.getD s.winner 0,p.1.ts.getD s.winner false)] else []
def aS (p:Cst):Cst:=aft (atomN p.1) p
def aN:Cst→Nat→Cst
 | p,0=>p
 | p,n + 1=>aN (aS p) n
def aB:Cst→Nat→List Band
 | _,0=>[]
 | p,n + 1=>bndS (atomN p.1) p ++ aB (aS p) n
def LongA (p:Cst) (n:Nat):Prop:=∀ i < n,(aN p i).1.top≠[]
theorem aN_add:∀ (m n:Nat) (p:Cst),aN p (m + n)=aN (aN p m) n
 | 0,n,p=>by rw [Nat.zero_add];rfl
 | m + 1,n,p=>by
  rw [show m + 1 + n=(m + n) + 1 by omega]
  exact aN_add m n (aS p)
theorem aB_add:∀ (m n:Nat) (p:Cst),aB p (m + n)=aB p m ++ aB (aN p m) n
 | 0,n,p=>by rw [Nat.zero_add];rfl
 | m + 1,n,p=>by
  rw [show m + 1 + n=(m + n) + 1 by omega]
  show bndS _ p ++ aB (aS p) (m + n)=(bndS _ p ++ aB (aS p) m) ++ _
  rw [aB_add m n (aS p),List.append_assoc];rfl
theorem LongA.add {p:Cst} {m n:Nat} (h:LongA p m) (k:LongA (aN p m) n):LongA p (m + n):=fun i hi=>by
 by_cases c:i < m
 ·exact h i c
 ·rw [show i=m + (i - m) by omega,aN_add]
  exact k _ (by omega)
theorem LongA.end_ {p:Cst} {i m:Nat} (li:LongA p i) (lm:LongA p m) (ei:(aN p i).1.top=[]) (em:(aN p m).1.top=[]):i=m:=by
 rcases Nat.lt_trichotomy i m with h | h | h
 ·exact absurd ei (lm i h)
 ·exact h
 ·exact absurd em (li m h)
def Zr (p:Cst):Prop:=∀ j,j ∉ p.1.top→p.2.getD j 0=0
theorem Zr.aft (s:Stp) (p:Cst):Zr (aft s p):=fun j hj=>by
 show (towB s p.1 p.2).getD j 0=0
 by_cases c:j < p.2.length
 ·rw [J2k _ _ _ c];exact if_neg hj
 ·exact towB_out _ _ _ c
theorem J76 {xs ys:List Int} (hl:xs.length=ys.length) (h:∀ j,j < xs.length→xs.getD j 0=ys.getD j 0):xs=ys:=by
 apply List.ext_getElem hl
 intro j h1 h2
 have:=h j h1
 rw [List.getD_eq_getElem?_getD,List.getD_eq_getElem?_getD,List.getElem?_eq_getElem h1,List.getElem?_eq_getElem h2] at this
 exact this
def addT (T:List Int) (c:Int) (N:List Nat):List Int:=(List.range T.length).map fun j=>if j∈N then T.getD j 0 + c else T.getD j 0
theorem Jz (T:List Int) (c:Int) (N:List Nat):(addT T c N).length=T.length:=by unfold addT;rw [List.length_map,List.length_range]
theorem J1j (T:List Int) (c:Int) (N:List Nat) {j:Nat} (h:j < T.length):(addT T c N).getD j 0=if j∈N then T.getD j 0 + c else T.getD j 0:=by
 unfold addT
 rw [List.getD_eq_getElem?_getD,List.getElem?_map,List.getElem?_range h];rfl
theorem addT_nil (T:List Int) (c:Int):addT T c []=T:=J76 (Jz ..) fun j hj=>by
 rw [Jz] at hj
 rw [J1j _ _ _ hj,if_neg (by simp)]
theorem J5x {p:Cst} (z:Zr p) {s:Stp} (h:∀ j,j∈(s.behind p.1).top↔j∈p.1.top) (hl:∀ j∈s.losers p.1,j∈p.1.top):towB s p.1 p.2=addT p.2 (p.2.getD s.winner 0 * s.times) (s.losers p.1):=J76 (by rw [J3s,Jz]) fun j hj=>by
 rw [J3s] at hj
 rw [J2k _ _ _ hj,J1j _ _ _ hj]
 by_cases c:j∈p.1.top
 ·rw [if_pos ((h j).mpr c)]
 ·rw [if_neg (fun q=>c ((h j).mp q)),if_neg (fun q=>c (hl j q)),z j c]
theorem setSelf (ts:List Bool) (b:Nat):ts.set b (false != ts.getD b false)=ts:=by
 apply List.ext_getElem (by rw [List.length_set])
 intro j h1 h2
 rw [List.getElem_set]
 split
 ·rename_i e
  subst e
  rw [List.getD_eq_getElem?_getD,List.getElem?_eq_getElem h2]
  simp
 ·rfl
theorem splitA {row:List Nat} (nd:row.Nodup) {a:Nat} (ha:a∈row):∃ X,row=X ++ a :: J1 row a∧a ∉ X∧a ∉ J1 row a:=by
 have hi:=List.idxOf_lt_length_iff.mpr ha
 have e:row[row.idxOf a]=a:=List.getElem_idxOf hi
 have e2:row.drop (row.idxOf a)=a :: J1 row a:=by rw [List.drop_eq_getElem_cons hi,e];rfl
 have e3:row=row.take (row.idxOf a) ++ a :: J1 row a:=by rw [← e2,List.take_append_drop]
 refine ⟨row.take (row.idxOf a),e3,fun q=>?_,fun q=>?_⟩
 ·rw [e3] at nd
  exact (List.nodup_append.mp nd).2.2 a q a List.mem_cons_self rfl
 ·rw [e3] at nd
  exact (List.nodup_cons.mp (List.nodup_append.mp nd).2.1).1 q
theorem putA {X Y:List Nat} {a b:Nat} (nd:(X ++ a :: (Y ++ [b])).Nodup):putR (X ++ a :: (Y ++ [b])) a b false=X ++ a :: b :: Y:=by
 have e:X ++ a :: (Y ++ [b])=(X ++ a :: Y) ++ [b]:=by simp
 rw [e] at nd ⊢
 obtain ⟨n1,_,n3⟩:=List.nodup_append.mp nd
 have hb:∀ j∈X ++ a :: Y,j≠b:=fun j hj=>n3 j hj b List.mem_cons_self
 have hw:withoutR ((X ++ a :: Y) ++ [b]) b=X ++ a :: Y:=by
  unfold withoutR
  rw [List.filter_append,List.filter_eq_self.mpr (fun j hj=>decide_eq_true (hb j hj)),List.filter_cons_of_neg (by simp),List.filter_nil,List.append_nil]
 have aX:a ∉ X:=fun q=>(List.nodup_append.mp n1).2.2 a q a List.mem_cons_self rfl
 unfold putR
 rw [hw,if_neg (by decide),List.idxOf_append,if_neg aX,List.idxOf_cons_self,Nat.add_zero]
 rw [show 0 + X.length + 1=(X ++ [a]).length by simp,show X ++ a :: Y=(X ++ [a]) ++ Y by simp,List.take_left,List.drop_left]
 simp
theorem setId (ls:List Int) (a:Nat):ls.set a (ls.getD a 0)=ls:=by
 apply List.ext_getElem (by rw [List.length_set])
 intro j h1 h2
 rw [List.getElem_set]
 split
 ·rename_i e
  subst e
  rw [List.getD_eq_getElem?_getD,List.getElem?_eq_getElem h2];rfl
 ·rfl
theorem turn_over {a:Nat} {X:List Nat}:∀ (N M:List Nat) (p:Cst),Cok p→Zr p→p.1.bot=X ++ a :: (M ++ N)→lastT p.1=a→p.1.ts.getD a false=false→lenOf p.1.ls N < p.1.ls.getD a 0→
  LongA p N.length∧aB p N.length=[]∧aN p N.length=(⟨p.1.top,X ++ a :: (N ++ M),p.1.ls.set a (p.1.ls.getD a 0 - lenOf p.1.ls N),p.1.ts⟩,addT p.2 (p.2.getD a 0) N):=by
 intro N
 induction hn:N.length generalizing N with
 | zero =>
  intro M p cok z hb ha ht hl
  cases List.length_eq_zero_iff.mp hn
  refine ⟨fun i hi=>absurd hi (Nat.not_lt_zero _),rfl,?_⟩
  rw [addT_nil,Jt,Int.sub_zero,setId]
  rw [List.append_nil] at hb
  rw [List.nil_append,← hb];rfl
 | succ n ih =>
  intro M p cok z hb ha ht hl
  obtain ⟨N',b,rfl⟩:∃ N' b,N=N' ++ [b]:=⟨N.dropLast,N.getLast (fun e=>by rw [e] at hn;cases hn),(List.dropLast_concat_getLast _).symm⟩
  have hn':N'.length=n:=by rw [List.length_append] at hn;simpa using hn
  have ok:=cok.ok
  have nd:(X ++ a :: (M ++ (N' ++ [b]))).Nodup:=by rw [← hb];exact ok.rowB.nd
  have hbb:p.1.bot=X ++ a :: ((M ++ N') ++ [b]):=by rw [hb,List.append_assoc]
  have nd2:(X ++ a :: ((M ++ N') ++ [b])).Nodup:=by rw [← hbb,hb];exact nd
  have nda:=(List.nodup_append.mp nd2).2.1
  have aL:a ∉ (M ++ N') ++ [b]:=(List.nodup_cons.mp nda).1
  have ndL:((M ++ N') ++ [b]).Nodup:=(List.nodup_cons.mp nda).2
  have aX:a ∉ X:=fun q=>(List.nodup_append.mp nd2).2.2 a q a List.mem_cons_self rfl
  have ab:a≠b:=fun e=>aL (by rw [e];simp)
  have bN:b ∉ N':=fun q=>(List.nodup_append.mp ndL).2.2 b (List.mem_append_right _ q) b List.mem_cons_self rfl
  have lastb:lastB p.1=b:=by
   show p.1.bot.getD (p.1.bot.length - 1) 0=b
   rw [hbb,show X ++ a :: ((M ++ N') ++ [b])=(X ++ a :: (M ++ N')) ++ [b] by simp,List.length_append,List.getD_eq_getElem?_getD]
   simp
  have inT:∀ j∈X ++ a :: ((M ++ N') ++ [b]),j∈p.1.top:=fun j hj=>by rw [← hbb] at hj;exact ok.perm.mem_iff.mp hj
  have mb:b∈p.1.top:=inT b (by simp)
  have ma:a∈p.1.top:=inT a (by simp)
  have ne:p.1.top≠[]:=fun e=>by rw [e] at ma;cases ma
  have e1:lenOf p.1.ls (N' ++ [b])=lenOf p.1.ls N' + p.1.ls.getD b 0:=by rw [Jx,Ji,Jt,Int.add_zero]
  have nn:0≤lenOf p.1.ls N':=Jw fun j hj=>Int.le_trans (by decide) (ok.row.pos j (inT j (by simp [hj])))
  have lt:p.1.ls.getD b 0 < p.1.ls.getD a 0:=by omega
  have at_:atomN p.1=.over a b:=by
   unfold atomN
   rw [ha,lastb,if_neg ab,if_neg (by omega),if_pos lt]
  have np:NextP p.1 (.over a b):=⟨ha.symm,lastb.symm,ab,lt⟩
  have bd:bndS (.over a b) p=[]:=rfl
  have beh:(Stp.over a b).behind p.1=⟨p.1.top,X ++ a :: b :: (M ++ N'),p.1.ls.set a (p.1.ls.getD a 0 - p.1.ls.getD b 0),p.1.ts⟩:=by
   show (⟨_,_,_,_⟩:Rst)=_
   rw [ht,hbb,putA nd2]
   unfold J22
   rw [ht,setSelf]
  have tw:towB (.over a b) p.1 p.2=addT p.2 (p.2.getD a 0) [b]:=by
   have h:=J5x (p:=p) z (s:=.over a b) (fun j=>by
    exact Iff.rfl) (fun j hj=>by rw [List.mem_singleton.mp hj];exact mb)
   rw [h]
   show addT p.2 (p.2.getD a 0 * 1) [b]=_
   rw [Int.mul_one]
  have eS:aS p=(⟨p.1.top,X ++ a :: b :: (M ++ N'),p.1.ls.set a (p.1.ls.getD a 0 - p.1.ls.getD b 0),p.1.ts⟩,addT p.2 (p.2.getD a 0) [b]):=by
   unfold aS aft
   rw [at_,beh,tw]
  have cok':Cok (aS p):=by unfold aS;rw [at_];exact cok.step ne np
  have z':Zr (aS p):=Zr.aft _ _
  have al:=ok.row.lt _ ma
  have tl:=cok.tow.len
  have gA:(p.1.ls.set a (p.1.ls.getD a 0 - p.1.ls.getD b 0)).getD a 0=p.1.ls.getD a 0 - p.1.ls.getD b 0:=by rw [J15 _ _ _ _ al,if_pos rfl]
  have lN:lenOf (p.1.ls.set a (p.1.ls.getD a 0 - p.1.ls.getD b 0)) N'=lenOf p.1.ls N':=Jm _ _ fun q=>aL (by simp [q])
  rw [eS] at cok' z'
  have IH:=ih N' hn' (b :: M) _ cok' z' (by show X ++ a :: b :: (M ++ N')=_;simp) ha ht (by show lenOf (p.1.ls.set a _) N' < (p.1.ls.set a _).getD a 0;rw [gA,lN];omega)
  obtain ⟨i1,i2,i3⟩:=IH
  refine ⟨fun i hi=>?_,?_,?_⟩
  ·cases i with
   | zero=>exact ne
   | succ i=>show (aN (aS p) i).1.top≠[];rw [eS];exact i1 i (by omega)
  ·show bndS (atomN p.1) p ++ aB (aS p) n=[]
   rw [at_,bd,eS,i2];rfl
  ·show aN (aS p) n=_
   rw [eS,i3]
   show ((⟨_,_,(p.1.ls.set a _).set a ((p.1.ls.set a _).getD a 0 - lenOf (p.1.ls.set a _) N'),_⟩:Rst),addT (addT p.2 (p.2.getD a 0) [b]) ((addT p.2 (p.2.getD a 0) [b]).getD a 0) N')=_
   rw [gA,lN,List.set_set,J1j _ _ _ (by rw [tl];exact al),if_neg (fun q=>ab (List.mem_singleton.mp q)),e1]
   have eT:addT (addT p.2 (p.2.getD a 0) [b]) (p.2.getD a 0) N'=addT p.2 (p.2.getD a 0) (N' ++ [b]):=J76 (by rw [Jz,Jz,Jz]) fun j hj=>by
    rw [Jz,Jz] at hj
    rw [J1j _ _ _ (by rw [Jz];exact hj),J1j _ _ _ hj,J1j _ _ _ hj]
    by_cases c1:j=b
    ·subst c1
     rw [if_neg bN,if_pos (by simp),if_pos (by simp)]
    ·by_cases c2:j∈N'
     ·rw [if_pos c2,if_neg (by simpa using c1),if_pos (by simp [c2])]
     ·rw [if_neg c2,if_neg (by simpa using c1),if_neg (by simp [c1,c2])]
   rw [eT,show p.1.ls.getD a 0 - p.1.ls.getD b 0 - lenOf p.1.ls N'=p.1.ls.getD a 0 - (lenOf p.1.ls N' + p.1.ls.getD b 0) by omega]
   simp
theorem turn_under {a:Nat} {X:List Nat}:∀ (N M:List Nat) (p:Cst),Cok p→Zr p→p.1.top=X ++ a :: (M ++ N)→lastB p.1=a→p.1.ts.getD a false=false→lenOf p.1.ls N < p.1.ls.getD a 0→
  LongA p N.length∧aB p N.length=[]∧aN p N.length=(⟨X ++ a :: (N ++ M),p.1.bot,p.1.ls.set a (p.1.ls.getD a 0 - lenOf p.1.ls N),p.1.ts⟩,addT p.2 (p.2.getD a 0) N):=by
 intro N
 induction hn:N.length generalizing N with
 | zero =>
  intro M p cok z hb ha ht hl
  cases List.length_eq_zero_iff.mp hn
  refine ⟨fun i hi=>absurd hi (Nat.not_lt_zero _),rfl,?_⟩
  rw [addT_nil,Jt,Int.sub_zero,setId]
  rw [List.append_nil] at hb
  rw [List.nil_append,← hb];rfl
 | succ n ih =>
  intro M p cok z hb ha ht hl
  obtain ⟨N',b,rfl⟩:∃ N' b,N=N' ++ [b]:=⟨N.dropLast,N.getLast (fun e=>by rw [e] at hn;cases hn),(List.dropLast_concat_getLast _).symm⟩
  have hn':N'.length=n:=by rw [List.length_append] at hn;simpa using hn
  have ok:=cok.ok
  have nd:(X ++ a :: (M ++ (N' ++ [b]))).Nodup:=by rw [← hb];exact ok.row.nd
  have hbb:p.1.top=X ++ a :: ((M ++ N') ++ [b]):=by rw [hb,List.append_assoc]
  have nd2:(X ++ a :: ((M ++ N') ++ [b])).Nodup:=by rw [← hbb,hb];exact nd
  have nda:=(List.nodup_append.mp nd2).2.1
  have aL:a ∉ (M ++ N') ++ [b]:=(List.nodup_cons.mp nda).1
  have ndL:((M ++ N') ++ [b]).Nodup:=(List.nodup_cons.mp nda).2
  have aX:a ∉ X:=fun q=>(List.nodup_append.mp nd2).2.2 a q a List.mem_cons_self rfl
  have ab:a≠b:=fun e=>aL (by rw [e];simp)
  have bN:b ∉ N':=fun q=>(List.nodup_append.mp ndL).2.2 b (List.mem_append_right _ q) b List.mem_cons_self rfl
  have lastb:lastT p.1=b:=by
   show p.1.top.getD (p.1.top.length - 1) 0=b
   rw [hbb,show X ++ a :: ((M ++ N') ++ [b])=(X ++ a :: (M ++ N')) ++ [b] by simp,List.length_append,List.getD_eq_getElem?_getD]
   simp
  have inT:∀ j∈X ++ a :: ((M ++ N') ++ [b]),j∈p.1.top:=fun j hj=>by rw [← hbb] at hj;exact hj
  have mb:b∈p.1.top:=inT b (by simp)
  have ma:a∈p.1.top:=inT a (by simp)
  have ne:p.1.top≠[]:=fun e=>by rw [e] at ma;cases ma
  have e1:lenOf p.1.ls (N' ++ [b])=lenOf p.1.ls N' + p.1.ls.getD b 0:=by rw [Jx,Ji,Jt,Int.add_zero]
  have nn:0≤lenOf p.1.ls N':=Jw fun j hj=>Int.le_trans (by decide) (ok.row.pos j (inT j (by simp [hj])))
  have lt:p.1.ls.getD b 0 < p.1.ls.getD a 0:=by omega
  have at_:atomN p.1=.under a b:=by
   unfold atomN
   rw [ha,lastb,if_neg (Ne.symm ab),if_neg (by omega),if_neg (by omega)]
  have np:NextP p.1 (.under a b):=⟨ha.symm,lastb.symm,ab,lt⟩
  have bd:bndS (.under a b) p=[]:=rfl
  have beh:(Stp.under a b).behind p.1=⟨X ++ a :: b :: (M ++ N'),p.1.bot,p.1.ls.set a (p.1.ls.getD a 0 - p.1.ls.getD b 0),p.1.ts⟩:=by
   show (⟨_,_,_,_⟩:Rst)=_
   rw [ht,hbb,putA nd2]
   unfold J22
   rw [ht,setSelf]
  have tw:towB (.under a b) p.1 p.2=addT p.2 (p.2.getD a 0) [b]:=by
   have h:=J5x (p:=p) z (s:=.under a b) (fun j=>by
    rw [beh,hbb];simp only [List.mem_append,List.mem_cons,List.not_mem_nil,or_false];constructor <;> (rintro h;rcases h with h | h | h | h | h) <;> simp_all) (fun j hj=>by rw [List.mem_singleton.mp hj];exact mb)
   rw [h]
   show addT p.2 (p.2.getD a 0 * 1) [b]=_
   rw [Int.mul_one]
  have eS:aS p=(⟨X ++ a :: b :: (M ++ N'),p.1.bot,p.1.ls.set a (p.1.ls.getD a 0 - p.1.ls.getD b 0),p.1.ts⟩,addT p.2 (p.2.getD a 0) [b]):=by
   unfold aS aft
   rw [at_,beh,tw]
  have cok':Cok (aS p):=by unfold aS;rw [at_];exact cok.step ne np
  have z':Zr (aS p):=Zr.aft _ _
  have al:=ok.row.lt _ ma
  have tl:=cok.tow.len
  have gA:(p.1.ls.set a (p.1.ls.getD a 0 - p.1.ls.getD b 0)).getD a 0=p.1.ls.getD a 0 - p.1.ls.getD b 0:=by rw [J15 _ _ _ _ al,if_pos rfl]
  have lN:lenOf (p.1.ls.set a (p.1.ls.getD a 0 - p.1.ls.getD b 0)) N'=lenOf p.1.ls N':=Jm _ _ fun q=>aL (by simp [q])
  rw [eS] at cok' z'
  have IH:=ih N' hn' (b :: M) _ cok' z' (by show X ++ a :: b :: (M ++ N')=_;simp) ha ht (by show lenOf (p.1.ls.set a _) N' < (p.1.ls.set a _).getD a 0;rw [gA,lN];omega)
  obtain ⟨i1,i2,i3⟩:=IH
  refine ⟨fun i hi=>?_,?_,?_⟩
  ·cases i with
   | zero=>exact ne
   | succ i=>show (aN (aS p) i).1.top≠[];rw [eS];exact i1 i (by omega)
  ·show bndS (atomN p.1) p ++ aB (aS p) n=[]
   rw [at_,bd,eS,i2];rfl
  ·show aN (aS p) n=_
   rw [eS,i3]
   show ((⟨_,_,(p.1.ls.set a _).set a ((p.1.ls.set a _).getD a 0 - lenOf (p.1.ls.set a _) N'),_⟩:Rst),addT (addT p.2 (p.2.getD a 0) [b]) ((addT p.2 (p.2.getD a 0) [b]).getD a 0) N')=_
   rw [gA,lN,List.set_set,J1j _ _ _ (by rw [tl];exact al),if_neg (fun q=>ab (List.mem_singleton.mp q)),e1]
   have eT:addT (addT p.2 (p.2.getD a 0) [b]) (p.2.getD a 0) N'=addT p.2 (p.2.getD a 0) (N' ++ [b]):=J76 (by rw [Jz,Jz,Jz]) fun j hj=>by
    rw [Jz,Jz] at hj
    rw [J1j _ _ _ (by rw [Jz];exact hj),J1j _ _ _ hj,J1j _ _ _ hj]
    by_cases c1:j=b
    ·subst c1
     rw [if_neg bN,if_pos (by simp),if_pos (by simp)]
    ·by_cases c2:j∈N'
     ·rw [if_pos c2,if_neg (by simpa using c1),if_pos (by simp [c2])]
     ·rw [if_neg c2,if_neg (by simpa using c1),if_neg (by simp [c1,c2])]
   rw [eT,show p.1.ls.getD a 0 - p.1.ls.getD b 0 - lenOf p.1.ls N'=p.1.ls.getD a 0 - (lenOf p.1.ls N' + p.1.ls.getD b 0) by omega]
   simp
theorem addT_add {T:List Int} {c d:Int} {L:List Nat}:addT (addT T c L) d L=addT T (c + d) L:=J76 (by rw [Jz,Jz,Jz]) fun j hj=>by
 rw [Jz,Jz] at hj
 rw [J1j _ _ _ (by rw [Jz];exact hj),J1j _ _ _ hj,J1j _ _ _ hj]
 by_cases c:j∈L
 ·rw [if_pos c,if_pos c,if_pos c,Int.add_assoc]
 ·rw [if_neg c,if_neg c,if_neg c]
theorem J46 {p:Cst} (z:Zr p) {a:Nat} (t:Int) (hl:∀ j∈J1 p.1.bot a,j∈p.1.top):aft (.overs a t) p=(⟨p.1.top,p.1.bot,p.1.ls.set a (p.1.ls.getD a 0 - t * lenOf p.1.ls (J1 p.1.bot a)),p.1.ts⟩,addT p.2 (p.2.getD a 0 * t) (J1 p.1.bot a)):=by
 unfold aft
 rw [J5x z (s:=.overs a t) (fun j=>Iff.rfl) hl];rfl
theorem overs_one {p:Cst} (cok:Cok p) (z:Zr p) {a:Nat} (ha:a=lastT p.1) (ht:p.1.ts.getD a false=false) (ma:a∈p.1.bot) (hl:lenOf p.1.ls (J1 p.1.bot a) < p.1.ls.getD a 0) :
  LongA p (J1 p.1.bot a).length∧aB p (J1 p.1.bot a).length=[]∧aN p (J1 p.1.bot a).length=aft (.overs a 1) p:=by
 have nd:=cok.ok.rowB.nd
 obtain ⟨X,e,x1,x2⟩:=splitA nd ma
 have inT:∀ j∈J1 p.1.bot a,j∈p.1.top:=fun j hj=>cok.ok.perm.mem_iff.mp (Jg hj)
 obtain ⟨i1,i2,i3⟩:=turn_over (a:=a) (X:=X) (J1 p.1.bot a) [] p cok z e ha.symm ht hl
 refine ⟨i1,i2,?_⟩
 rw [i3,J46 z 1 inT,List.append_nil,← e,Int.one_mul,Int.mul_one]
theorem J6x {a:Nat}:∀ (t:Nat) (p:Cst),Cok p→Zr p→a=lastT p.1→p.1.ts.getD a false=false→a∈p.1.bot→1≤lenOf p.1.ls (J1 p.1.bot a)→((t + 1:Nat):Int) * lenOf p.1.ls (J1 p.1.bot a) < p.1.ls.getD a 0→
  ∃ n,1≤n∧LongA p n∧aB p n=[]∧aN p n=aft (.overs a ((t + 1:Nat):Int)) p
 | 0,p,cok,z,ha,ht,ma,h1,hl=>by
  have hl:lenOf p.1.ls (J1 p.1.bot a) < p.1.ls.getD a 0:=by simpa using hl
  obtain ⟨i1,i2,i3⟩:=overs_one cok z ha ht ma hl
  refine ⟨_,?_,i1,i2,i3⟩
  rcases Nat.eq_zero_or_pos (J1 p.1.bot a).length with c | c
  ·rw [List.length_eq_zero_iff.mp c,Jt] at h1;omega
  ·exact c
 | t + 1,p,cok,z,ha,ht,ma,h1,hl=>by
  have hS:((t + 1 + 1:Nat):Int) * lenOf p.1.ls (J1 p.1.bot a)=((t + 1:Nat):Int) * lenOf p.1.ls (J1 p.1.bot a) + lenOf p.1.ls (J1 p.1.bot a):=by
   rw [show ((t + 1 + 1:Nat):Int)=((t + 1:Nat):Int) + 1 from rfl,Int.add_mul,Int.one_mul]
  have pos:0≤((t + 1:Nat):Int) * lenOf p.1.ls (J1 p.1.bot a):=Int.mul_nonneg (by omega) (by omega)
  have hl1:lenOf p.1.ls (J1 p.1.bot a) < p.1.ls.getD a 0:=by omega
  have nd:=cok.ok.rowB.nd
  obtain ⟨X,e,x1,x2⟩:=splitA nd ma
  have inT:∀ j∈J1 p.1.bot a,j∈p.1.top:=fun j hj=>cok.ok.perm.mem_iff.mp (Jg hj)
  have mT:a∈p.1.top:=cok.ok.perm.mem_iff.mp ma
  have ne:p.1.top≠[]:=fun q=>by rw [q] at mT;cases mT
  obtain ⟨i1,i2,i3⟩:=overs_one cok z ha ht ma hl1
  have nb:a≠lastB p.1:=fun q=>by
   have hb:J1 p.1.bot a=[]:=by
    apply Classical.byContradiction
    intro c
    have:(J1 p.1.bot a).getLast c∈J1 p.1.bot a:=List.getLast_mem c
    have e2:(J1 p.1.bot a).getLast c=lastB p.1:=by
     show _=p.1.bot.getD (p.1.bot.length - 1) 0
     have hx:p.1.bot≠[]:=fun q=>by rw [q] at ma;cases ma
     rw [List.getD_eq_getElem?_getD,← List.getLast?_eq_getElem?,List.getLast?_eq_some_getLast hx]
     show _=p.1.bot.getLast hx
     have:∀ (W:List Nat) (hw:W≠[]),W=X ++ a :: J1 p.1.bot a→W.getLast hw=(J1 p.1.bot a).getLast c:=fun W hw q=>by
      subst q
      rw [List.getLast_append_of_ne_nil _ (by simp),List.getLast_cons c]
     exact (this _ hx e).symm
    rw [e2,← q] at this
    exact x2 this
   rw [hb,Jt] at h1;omega
  have np:NextP p.1 (.overs a 1):=⟨ha,nb,ht,Int.le_refl _,h1,by rw [Int.one_mul];exact hl1⟩
  have q:=J46 z (a:=a) 1 inT
  have cokq:Cok (aft (.overs a 1) p):=cok.step ne np
  have zq:Zr (aft (.overs a 1) p):=Zr.aft _ _
  have al:=cok.ok.row.lt _ mT
  have gA:(p.1.ls.set a (p.1.ls.getD a 0 - 1 * lenOf p.1.ls (J1 p.1.bot a))).getD a 0=p.1.ls.getD a 0 - 1 * lenOf p.1.ls (J1 p.1.bot a):=by rw [J15 _ _ _ _ al,if_pos rfl]
  have lN:lenOf (p.1.ls.set a (p.1.ls.getD a 0 - 1 * lenOf p.1.ls (J1 p.1.bot a))) (J1 p.1.bot a)=lenOf p.1.ls (J1 p.1.bot a):=Jm _ _ x2
  rw [q] at cokq zq i3
  obtain ⟨n,n1,n2,n3,n4⟩:=J6x t _ cokq zq ha ht ma (by show 1≤lenOf (p.1.ls.set a _) _;rw [lN];exact h1) (by show _ * lenOf (p.1.ls.set a _) _ < (p.1.ls.set a _).getD a 0;rw [lN,gA];omega)
  refine ⟨(J1 p.1.bot a).length + n,by omega,i1.add (by rw [i3];exact n2),by rw [aB_add,i2,i3,n3];rfl,?_⟩
  rw [aN_add,i3,n4,J46 zq _ inT,J46 z _ inT]
  show ((⟨p.1.top,p.1.bot,(p.1.ls.set a _).set a ((p.1.ls.set a _).getD a 0 - _ * lenOf (p.1.ls.set a _) _),p.1.ts⟩:Rst),addT (addT p.2 _ _) ((addT p.2 _ _).getD a 0 * _) _)=_
  rw [gA,lN,List.set_set,J1j _ _ _ (by rw [cok.tow.len];exact al),if_neg x2,addT_add,hS,Int.one_mul,Int.mul_one]
  rw [show p.1.ls.getD a 0 - lenOf p.1.ls (J1 p.1.bot a) - ((t + 1:Nat):Int) * lenOf p.1.ls (J1 p.1.bot a)=p.1.ls.getD a 0 - (((t + 1:Nat):Int) * lenOf p.1.ls (J1 p.1.bot a) + lenOf p.1.ls (J1 p.1.bot a)) by omega]
  rw [show ((t + 1 + 1:Nat):Int)=1 + ((t + 1:Nat):Int) by omega,Int.mul_add,Int.mul_one]
theorem J3i {p:Cst} (z:Zr p) {a:Nat} (t:Int) (hl:∀ j∈J1 p.1.top a,j∈p.1.top):aft (.unders a t) p=(⟨p.1.top,p.1.bot,p.1.ls.set a (p.1.ls.getD a 0 - t * lenOf p.1.ls (J1 p.1.top a)),p.1.ts⟩,addT p.2 (p.2.getD a 0 * t) (J1 p.1.top a)):=by
 unfold aft
 rw [J5x z (s:=.unders a t) (fun j=>Iff.rfl) hl];rfl
theorem J6n {p:Cst} (cok:Cok p) (z:Zr p) {a:Nat} (ha:a=lastB p.1) (ht:p.1.ts.getD a false=false) (ma:a∈p.1.top) (hl:lenOf p.1.ls (J1 p.1.top a) < p.1.ls.getD a 0) :
  LongA p (J1 p.1.top a).length∧aB p (J1 p.1.top a).length=[]∧aN p (J1 p.1.top a).length=aft (.unders a 1) p:=by
 have nd:=cok.ok.row.nd
 obtain ⟨X,e,x1,x2⟩:=splitA nd ma
 have inT:∀ j∈J1 p.1.top a,j∈p.1.top:=fun j hj=>Jg hj
 obtain ⟨i1,i2,i3⟩:=turn_under (a:=a) (X:=X) (J1 p.1.top a) [] p cok z e ha.symm ht hl
 refine ⟨i1,i2,?_⟩
 rw [i3,J3i z 1 inT,List.append_nil,← e,Int.one_mul,Int.mul_one]
theorem J4s {a:Nat}:∀ (t:Nat) (p:Cst),Cok p→Zr p→a=lastB p.1→p.1.ts.getD a false=false→a∈p.1.top→1≤lenOf p.1.ls (J1 p.1.top a)→((t + 1:Nat):Int) * lenOf p.1.ls (J1 p.1.top a) < p.1.ls.getD a 0→
  ∃ n,1≤n∧LongA p n∧aB p n=[]∧aN p n=aft (.unders a ((t + 1:Nat):Int)) p
 | 0,p,cok,z,ha,ht,ma,h1,hl=>by
  have hl:lenOf p.1.ls (J1 p.1.top a) < p.1.ls.getD a 0:=by simpa using hl
  obtain ⟨i1,i2,i3⟩:=J6n cok z ha ht ma hl
  refine ⟨_,?_,i1,i2,i3⟩
  rcases Nat.eq_zero_or_pos (J1 p.1.top a).length with c | c
  ·rw [List.length_eq_zero_iff.mp c,Jt] at h1;omega
  ·exact c
 | t + 1,p,cok,z,ha,ht,ma,h1,hl=>by
  have hS:((t + 1 + 1:Nat):Int) * lenOf p.1.ls (J1 p.1.top a)=((t + 1:Nat):Int) * lenOf p.1.ls (J1 p.1.top a) + lenOf p.1.ls (J1 p.1.top a):=by
   rw [show ((t + 1 + 1:Nat):Int)=((t + 1:Nat):Int) + 1 from rfl,Int.add_mul,Int.one_mul]
  have pos:0≤((t + 1:Nat):Int) * lenOf p.1.ls (J1 p.1.top a):=Int.mul_nonneg (by omega) (by omega)
  have hl1:lenOf p.1.ls (J1 p.1.top a) < p.1.ls.getD a 0:=by omega
  have nd:=cok.ok.row.nd
  obtain ⟨X,e,x1,x2⟩:=splitA nd ma
  have inT:∀ j∈J1 p.1.top a,j∈p.1.top:=fun j hj=>Jg hj
  have mT:a∈p.1.top:=ma
  have ne:p.1.top≠[]:=fun q=>by rw [q] at mT;cases mT
  obtain ⟨i1,i2,i3⟩:=J6n cok z ha ht ma hl1
  have nb:a≠lastT p.1:=fun q=>by
   have hb:J1 p.1.top a=[]:=by
    apply Classical.byContradiction
    intro c
    have:(J1 p.1.top a).getLast c∈J1 p.1.top a:=List.getLast_mem c
    have e2:(J1 p.1.top a).getLast c=lastT p.1:=by
     show _=p.1.top.getD (p.1.top.length - 1) 0
     have hx:p.1.top≠[]:=fun q=>by rw [q] at ma;cases ma
     rw [List.getD_eq_getElem?_getD,← List.getLast?_eq_getElem?,List.getLast?_eq_some_getLast hx]
     show _=p.1.top.getLast hx
     have:∀ (W:List Nat) (hw:W≠[]),W=X ++ a :: J1 p.1.top a→W.getLast hw=(J1 p.1.top a).getLast c:=fun W hw q=>by
      subst q
      rw [List.getLast_append_of_ne_nil _ (by simp),List.getLast_cons c]
     exact (this _ hx e).symm
    rw [e2,← q] at this
    exact x2 this
   rw [hb,Jt] at h1;omega
  have np:NextP p.1 (.unders a 1):=⟨ha,nb,ht,Int.le_refl _,h1,by rw [Int.one_mul];exact hl1⟩
  have q:=J3i z (a:=a) 1 inT
  have cokq:Cok (aft (.unders a 1) p):=cok.step ne np
  have zq:Zr (aft (.unders a 1) p):=Zr.aft _ _
  have al:=cok.ok.row.lt _ mT
  have gA:(p.1.ls.set a (p.1.ls.getD a 0 - 1 * lenOf p.1.ls (J1 p.1.top a))).getD a 0=p.1.ls.getD a 0 - 1 * lenOf p.1.ls (J1 p.1.top a):=by rw [J15 _ _ _ _ al,if_pos rfl]
  have lN:lenOf (p.1.ls.set a (p.1.ls.getD a 0 - 1 * lenOf p.1.ls (J1 p.1.top a))) (J1 p.1.top a)=lenOf p.1.ls (J1 p.1.top a):=Jm _ _ x2
  rw [q] at cokq zq i3
  obtain ⟨n,n1,n2,n3,n4⟩:=J4s t _ cokq zq ha ht ma (by show 1≤lenOf (p.1.ls.set a _) _;rw [lN];exact h1) (by show _ * lenOf (p.1.ls.set a _) _ < (p.1.ls.set a _).getD a 0;rw [lN,gA];omega)
  refine ⟨(J1 p.1.top a).length + n,by omega,i1.add (by rw [i3];exact n2),by rw [aB_add,i2,i3,n3];rfl,?_⟩
  rw [aN_add,i3,n4,J3i zq _ inT,J3i z _ inT]
  show ((⟨p.1.top,p.1.bot,(p.1.ls.set a _).set a ((p.1.ls.set a _).getD a 0 - _ * lenOf (p.1.ls.set a _) _),p.1.ts⟩:Rst),addT (addT p.2 _ _) ((addT p.2 _ _).getD a 0 * _) _)=_
  rw [gA,lN,List.set_set,J1j _ _ _ (by rw [cok.tow.len];exact al),if_neg x2,addT_add,hS,Int.one_mul,Int.mul_one]
  rw [show p.1.ls.getD a 0 - lenOf p.1.ls (J1 p.1.top a) - ((t + 1:Nat):Int) * lenOf p.1.ls (J1 p.1.top a)=p.1.ls.getD a 0 - (((t + 1:Nat):Int) * lenOf p.1.ls (J1 p.1.top a) + lenOf p.1.ls (J1 p.1.top a)) by omega]
  rw [show ((t + 1 + 1:Nat):Int)=1 + ((t + 1:Nat):Int) by omega,Int.mul_add,Int.mul_one]
theorem J66 {p:Cst} (ne:p.1.top≠[]) {s:Stp} (e:atomN p.1=s):∃ n,1≤n∧LongA p n∧aB p n=bndS s p∧aN p n=aft s p:=by
 subst e
 refine ⟨1,Nat.le_refl _,fun i hi=>?_,List.append_nil _,rfl⟩
 obtain rfl:i=0:=by omega
 exact ne
theorem J6q {p:Cst} (cok:Cok p) (z:Zr p) (ne:p.1.top≠[]) {s:Stp} (np:NextP p.1 s):∃ n,1≤n∧LongA p n∧aB p n=bndS s p∧aN p n=aft s p:=by
 have mT:=cok.ok.mT ne
 have mB:=cok.ok.mB ne
 cases s with
 | home a =>
  obtain ⟨rfl,h2⟩:=np
  exact J66 ne (by unfold atomN;rw [if_pos h2])
 | even a b =>
  obtain ⟨rfl,rfl,h3,h4⟩:=np
  exact J66 ne (by unfold atomN;rw [if_neg h3,if_pos h4])
 | over a b =>
  obtain ⟨rfl,rfl,h3,h4⟩:=np
  exact J66 ne (by unfold atomN;rw [if_neg h3,if_neg (by omega),if_pos h4])
 | under a b =>
  obtain ⟨rfl,rfl,h3,h4⟩:=np
  exact J66 ne (by unfold atomN;rw [if_neg (Ne.symm h3),if_neg (by omega),if_neg (by omega)])
 | overs a t =>
  obtain ⟨h1,h2,h3,h4,h5,h6⟩:=np
  obtain ⟨k,rfl⟩:∃ k:Nat,t=((k + 1:Nat):Int):=⟨(t - 1).toNat,by omega⟩
  obtain ⟨n,n1,n2,n3,n4⟩:=J6x k p cok z h1 h3 (cok.ok.perm.mem_iff.mpr (by rw [h1];exact mT)) h5 h6
  exact ⟨n,n1,n2,n3,n4⟩
 | unders a t =>
  obtain ⟨h1,h2,h3,h4,h5,h6⟩:=np
  obtain ⟨k,rfl⟩:∃ k:Nat,t=((k + 1:Nat):Int):=⟨(t - 1).toNat,by omega⟩
  obtain ⟨n,n1,n2,n3,n4⟩:=J4s k p cok z h1 h3 (by rw [h1];exact mB) h5 h6
  exact ⟨n,n1,n2,n3,n4⟩
theorem J5u {p:Cst} (cok:Cok p) (z:Zr p):∀ {m:Nat},Long p m→∃ n,LongA p n∧aB p n=bndN p m∧aN p n=chN p m∧Zr (chN p m)
 | 0,_=>⟨0,fun i hi=>absurd hi (Nat.not_lt_zero _),rfl,rfl,z⟩
 | m + 1,l=>by
  obtain ⟨n,n1,n2,n3,n4⟩:=J5u cok z (m:=m) fun i hi=>l i (by omega)
  have c:=cok.at_ (k:=m) fun i hi=>l i (by omega)
  have ne:=l m (by omega)
  obtain ⟨k,k1,k2,k3,k4⟩:=J6q c n4 ne (nextP c.ok ne)
  refine ⟨n + k,n1.add (by rw [n3];exact k2),?_,?_,Zr.aft _ _⟩
  ·rw [aB_add,n2,n3,k3];rfl
  ·rw [aN_add,n3,k4];rfl
end Rl
namespace L2
open PySem PySem.Spec PyProof.Rows
def rGetL (K:PySem.W.Frag):V→V→Hp→VK→Prop:=fun o i H Q=>∃ (p:Addr) (xs:List V) (j:Nat) (z:V),o=.ref p∧i=.int (j:Nat)∧SqL K H p xs∧xs[j]?=some z∧Q z H
theorem J6f {X:Cx}:PGet X (rGetL X.K):=by
 intro pins s σ H o i ov iv Q I ro ri h
 obtain ⟨p,xs,j,z,rfl,rfl,hq,hj,q⟩:=h
 cases ro
 obtain ⟨t,rfl⟩:=ri
 obtain ⟨its,r,pl,hz⟩:=I.list hq
 obtain ⟨w,ew,rw'⟩:=r.get hj
 have hl:=r.length
 have hjl:j < xs.length:=(List.getElem?_eq_some_iff.mp hj).1
 have hn:=J71
 exact wpAny_getItem_list (x:=w) pl.isList (by omega) (by omega) (by rw [Int.toNat_natCast];simpa using ew) ⟨z,H,I,rw',q⟩
end L2
namespace L2
open PySem PySem.Spec PyProof.Rows
theorem op_notB {X:Cx}:OpR X (compareOp .IsNot) (fun x y H Q=>∃ a b:Bool,x=.bl a∧y=.bl b∧Q (.bl (a != b)) H):=by
 intro pins s σ H x y v u Q I rx ry h
 obtain ⟨a,b,rfl,rfl,q⟩:=h
 cases rx
 cases ry
 exact isnot_bool (J1b I q rfl)
theorem op_isB {X:Cx}:OpR X (compareOp .Is) (fun x y H Q=>∃ a b:Bool,x=.bl a∧y=.bl b∧Q (.bl (a == b)) H):=by
 intro pins s σ H x y v u Q I rx ry h
 obtain ⟨a,b,rfl,rfl,q⟩:=h
 cases rx
 cases ry
 exact is_bool (J1b I q rfl)
end L2
namespace R25
open PySem L2 Rl
def top (i:Nat):Stmt:=PySem.Challenge.pw_relaid_k25_whole_any_paper.main.body.getD i (.Pass ⟨0,0,0,0⟩)
abbrev sRefL:Stmt:=top 8
abbrev sRefO:Stmt:=top 9
abbrev sRefT:Stmt:=top 10
abbrev sTold:Stmt:=top 11
abbrev sFirst:Stmt:=top 12
abbrev sLenOf:Stmt:=top 16
abbrev J54:Stmt:=top 17
abbrev J3t:Stmt:=top 19
abbrev J3x:Stmt:=top 20
abbrev sPut:Stmt:=top 21
abbrev J3w:Stmt:=top 22
abbrev sShort:Stmt:=top 23
abbrev J52:Stmt:=top 24
abbrev sTimes:Stmt:=top 32
abbrev sOverS:Stmt:=top 33
abbrev J4z:Stmt:=top 34
abbrev sNext:Stmt:=top 35
abbrev J5e:Stmt:=top 37
abbrev sTowB:Stmt:=top 38
abbrev J5j:Stmt:=top 39
abbrev sMayHo:Stmt:=top 42
abbrev sEnds:Stmt:=top 43
abbrev sMayEv:Stmt:=top 44
abbrev sMayOv:Stmt:=top 45
abbrev sMayUn:Stmt:=top 46
abbrev sMayOs:Stmt:=top 47
abbrev sMayUs:Stmt:=top 48
abbrev J3u:Stmt:=top 49
abbrev J32:Stmt:=top 50
abbrev sExam:Stmt:=top 51
abbrev sCell:Stmt:=top 53
abbrev J5h:Stmt:=top 54
abbrev sBegun:Stmt:=top 55
abbrev J3v:Stmt:=top 56
abbrev J5b:Stmt:=top 57
abbrev J55:Stmt:=top 58
abbrev sLStep:Stmt:=top 59
abbrev sLNext:Stmt:=top 60
abbrev J58:Stmt:=top 61
abbrev sLaw:Stmt:=top 62
abbrev sInit:Stmt:=J14 (top 13) 0
abbrev sRInit:Stmt:=J14 (top 15) 0
abbrev J53:Stmt:=J14 (top 25) 0
abbrev J2v:Stmt:=J14 (top 25) 2
abbrev J5d:Stmt:=J14 (top 26) 0
abbrev J5c:Stmt:=J14 (top 26) 1
abbrev J2z:Stmt:=J14 (top 26) 2
abbrev J30:Stmt:=J14 (top 26) 3
abbrev J5g:Stmt:=J14 (top 27) 0
abbrev J5f:Stmt:=J14 (top 27) 1
abbrev J31:Stmt:=J14 (top 27) 3
abbrev J57:Stmt:=J14 (top 28) 0
abbrev J56:Stmt:=J14 (top 28) 1
abbrev J2w:Stmt:=J14 (top 28) 3
abbrev J51:Stmt:=J14 (top 29) 0
abbrev J50:Stmt:=J14 (top 29) 1
abbrev J2u:Stmt:=J14 (top 29) 2
abbrev J5a:Stmt:=J14 (top 30) 0
abbrev J59:Stmt:=J14 (top 30) 1
abbrev J2x:Stmt:=J14 (top 30) 2
abbrev J2y:Stmt:=J14 (top 30) 4
abbrev J4y:Stmt:=J14 (top 31) 0
abbrev J4x:Stmt:=J14 (top 31) 1
abbrev J2s:Stmt:=J14 (top 31) 2
abbrev J2t:Stmt:=J14 (top 31) 3
abbrev J5i:Stmt:=J14 (top 40) 0
abbrev iV (ns:List Int):List V:=ns.map V.int
abbrev nV (os:List Nat):List V:=(natI os).map V.int
abbrev bV (bs:List Bool):List V:=bs.map V.bl
def SqH (H:Hp) (p:Addr) (xs:List V):Prop:=H p=some (.lst xs)∨H p=some (.tup xs)
theorem SqH.sq {K:PySem.W.Frag} {H:Hp} {p:Addr} {xs:List V} (h:SqH H p xs):SqL K H p xs∨SqT K H p xs:=h.elim (fun h=>.inl (SqL.of h)) fun h=>.inr (SqT.of h)
theorem SqH.same {H H':Hp} {p:Addr} {xs:List V} (h:SqH H p xs) (s:Same H H'):SqH H' p xs:=h.elim (fun h=>.inl (s _ _ h)) fun h=>.inr (s _ _ h)
theorem J8 {H:Hp} {l:Addr} {o:HO} (h:H l=none):Same H (upd H l o):=fun b u e=>by rw [Jc (Ja e h)];exact e
theorem iteD {c A B:Prop} [Decidable c] (hc:¬ c) (h:B):if decide c=true then A else B:=by
 rw [decide_eq_false hc];exact iteF h
theorem iteDT {c A B:Prop} [Decidable c] (hc:c) (h:A):if decide c=true then A else B:=by
 rw [decide_eq_true hc];exact iteT h
theorem iteBT {c:Bool} {A B:Prop} (h:c=true) (q:A):if c=true then A else B:=by rw [if_pos h];exact q
theorem iteBF {c:Bool} {A B:Prop} (h:¬ c=true) (q:B):if c=true then A else B:=by rw [if_neg h];exact q
theorem iteND {c A B:Prop} [Decidable c] (hc:¬ c) (h:A):if (!decide c)=true then A else B:=by
 rw [decide_eq_false hc];exact iteT h
theorem J1l {K:PySem.W.Frag} {H:Hp} {p:Addr} {xs:List V} {Q:VK} (h:SqH H p xs) (k:∀ l H',Same H H'→H' l=some (.tup xs)→Q (.ref l) H'):rTup K [V.ref p] H Q:=by
 unfold rTup
 rcases h with h | h
 ·exact ⟨p,xs,rfl,.inl ⟨SqL.of h,fun l hl=>k l _ (J8 hl) J4⟩⟩
 ·exact ⟨p,xs,rfl,.inr ⟨SqT.of h,k p H (Same.refl _) h⟩⟩
theorem J3d {i j:Int} (h:i≠j):¬ V.int i=V.int j:=fun e=>h (V.int.inj e)
theorem J2h {n o:Nat} (h:o < n):ixN n (o:Int)=some o:=by
 unfold ixN
 rw [if_pos (by omega),if_pos (by omega)]
 simp
theorem J13 {ns:List Int} {j:Nat} (h:j < ns.length):(iV ns)[j]?=some (V.int (ns.getD j 0)):=by
 rw [List.getElem?_map,List.getElem?_eq_getElem h,List.getD_eq_getElem?_getD,List.getElem?_eq_getElem h];rfl
theorem iV_set (ns:List Int) (j:Nat) (z:Int):(iV ns).set j (V.int z)=iV (ns.set j z):=by
 show (ns.map V.int).set j (V.int z)=(ns.set j z).map V.int
 rw [List.map_set]
theorem nV_get {os:List Nat} {j:Nat} {y:V} (h:(nV os)[j]?=some y):j < os.length∧y=V.int (os.getD j 0:Nat)∧os.getD j 0∈os:=by
 have hj:j < os.length:=by
  have:=(List.getElem?_eq_some_iff.mp h).1
  simpa [natI] using this
 refine ⟨hj,?_,?_⟩
 ·rw [List.getElem?_map] at h
  unfold natI at h
  rw [List.getElem?_map,List.getElem?_eq_getElem hj] at h
  rw [List.getD_eq_getElem?_getD,List.getElem?_eq_getElem hj]
  exact (Option.some.inj h).symm
 ·rw [List.getD_eq_getElem?_getD,List.getElem?_eq_getElem hj]
  exact List.getElem_mem hj
theorem flat_zero (n:Nat):(List.replicate n [V.int 0]).flatten=iV (List.replicate n 0):=by
 induction n with
 | zero=>rfl
 | succ n ih=>rw [List.replicate_succ,List.flatten_cons,ih,List.replicate_succ];rfl
theorem flat_false (n:Nat):(List.replicate n [V.bl false]).flatten=bV (List.replicate n false):=by
 induction n with
 | zero=>rfl
 | succ n ih=>rw [List.replicate_succ,List.flatten_cons,ih,List.replicate_succ];rfl
theorem J1m {f:Str} {v:V} {fs:List (Str × V)}:(putF f v fs).lookup f=some v:=by rw [J36,if_pos rfl]
theorem lk_ne {f g:Str} {v:V} {fs:List (Str × V)} (h:¬ g=f):(putF f v fs).lookup g=fs.lookup g:=by rw [J36,if_neg h]
theorem J25 (ls:List Int):(iV ls).length=ls.length:=List.length_map ..
def KeepX (x:Addr) (H H':Hp):Prop:=∀ b o,H b=some o→b≠x→H' b=some o
theorem KeepX.of {x:Addr} {H H':Hp} (s:Same H H'):KeepX x H H':=fun b o e _=>s b o e
theorem KeepX.trans {x:Addr} {H H1 H2:Hp} (a:KeepX x H H1) (b:KeepX x H1 H2):KeepX x H H2:=fun c o e n=>b c o (a c o e n) n
theorem KeepX.upd {x:Addr} {H:Hp} {o:HO}:KeepX x H (upd H x o):=fun b u e n=>by rw [Jc n];exact e
theorem KeepX.sqH {x p:Addr} {H H':Hp} {xs:List V} (k:KeepX x H H') (h:SqH H p xs) (n:p≠x):SqH H' p xs:=h.elim (fun h=>.inl (k _ _ h n)) fun h=>.inr (k _ _ h n)
theorem SqH.ne {H:Hp} {p x C dx:Addr} {xs:List V} {fs:List (Str × V)} (h:SqH H p xs) (hx:H x=some (.ins C dx fs)):p≠x:=h.elim (fun h=>ne_of h hx (by intro z;cases z)) fun h=>ne_of h hx (by intro z;cases z)
theorem J3c {ts:List Bool} {j:Nat} (h:j < ts.length):(bV ts)[j]?=some (V.bl (ts.getD j false)):=by
 rw [List.getElem?_map,List.getElem?_eq_getElem h,List.getD_eq_getElem?_getD,List.getElem?_eq_getElem h];rfl
structure TxtR (mg:Str→Option Value):Prop where
 len:mg "len"=none
 sum:mg "sum"=none
 tuple:mg "tuple"=none
 list:mg "list"=none
 range:mg "range"=none
theorem nV_eq (row:List Nat):nV row=row.map fun (j:Nat)=>V.int (j:Int):=by
 show (row.map fun (n:Nat)=>(n:Int)).map V.int=_
 rw [List.map_map];rfl
theorem J3b (row:List Nat):(nV row).length=row.length:=by rw [nV_eq,List.length_map]
theorem nV_at {row:List Nat} {i:Nat} (h:i < row.length):(nV row)[i]?=some (V.int (row.getD i 0:Nat)):=by
 rw [nV_eq,List.getElem?_map,List.getD_eq_getElem?_getD,List.getElem?_eq_getElem h];rfl
theorem KeepX.ins {x p:Addr} {H H':Hp} {xs:List V} (k:KeepX x H H') (h:H p=some (.tup xs)) {C dx:Addr} {fs:List (Str × V)} (hx:H x=some (.ins C dx fs)):H' p=some (.tup xs):=k _ _ h (ne_of h hx (by intro z;cases z))
section
variable {P:Program} {w:World} {K:PySem.W.Frag} {mg:Str→Option Value} {base:Heap}
def spFirst:Sp:=fun vs H Q _=>∃ (p q:Addr) (ls:List Int) (os:List Nat),vs=[.ref p,.ref q]∧H p=some (.tup (iV ls))∧SqH H q (nV os)∧(∀ o∈os,o < ls.length)∧ls.length≤24∧
 ∀ l H',Same H H'→H' l=some (.tup (iV (firsts ls os)))→Q (.ref l) H'
theorem scFirst:FnScope ["lengths","order","firsts","place","piece"] ["lengths","order"] (J2 sFirst):=⟨rfl,rfl,rfl,by decide +kernel,rfl,by decide +kernel,by decide +kernel⟩
def PvF (p q fl:Addr) (ls:List Int) (os:List Nat) (H:Hp) (i:Nat) (σ:St) (H2:Hp):Prop :=
 ∃ v,σ=[some (.ref p),some (.ref q),some (.ref fl),some (.int (sumsF ls os i).2),v]∧H2 fl=some (.lst (iV (sumsF ls os i).1))∧H fl=none∧Same H H2
theorem ok_first {f:Addr} {fd:FuncData} (F:Fun K "first_places" "first_places" sFirst f fd) (T:TxtR mg):FnOk P w K mg base CX0 1 f fd ["lengths","order"] spFirst:=by
 refine F.ok scFirst (fun vs H Q E h=>?_) (fun cdv A outer s H vs Q E hr h=>?_)
 ·obtain ⟨p,q,ls,os,rfl,_⟩:=h
  rfl
 ·obtain ⟨p,q,ls,os,rfl,hp,hq,hlt,hn,k⟩:=h
  have hl:(iV ls).length=ls.length:=List.length_map ..
  have turn:∀ (fl:Addr) (i:Nat) (y:V) (σ:St) (H2:Hp) (D:Ends),(nV os)[i]?=some y→PvF p q fl ls os H i σ H2→D.nx=PvF p q fl ls os H (i + 1)→
    gName 4 y σ H2 fun σ2 H2=>tSeq (tAsg (tVar 3) (gSub (tVar 2) (tVar 4) rSetL)) (tAsg (tOp (rI0 fun i j=>.int (i + j)) (tVar 3) (tOp (rIxT K) (tVar 0) (tVar 4))) (gName 3)) D σ2 H2:=by
   rintro fl i y σ H2 D hy ⟨v,rfl,h1,h2,h3⟩ hD
   obtain ⟨hi,rfl,hm⟩:=nV_get hy
   have ho:=hlt _ hm
   refine ⟨_,rfl,_,rfl,_,rfl,fl,_,_,os.getD i 0,rfl,rfl,h1,J2h (by rw [List.length_map,J43];exact ho),?_⟩
   refine ⟨_,rfl,_,rfl,_,rfl,p,_,_,_,rfl,rfl,SqT.of (xs:=iV ls) ?_,J7 (J13 ho),_,_,rfl,rfl,?_⟩
   ·rw [Jc (ne_of (h3 _ _ hp) h1 (by intro z;cases z))]
    exact h3 _ _ hp
   ·show D.nx _ _
    rw [hD]
    refine ⟨_,rfl,?_,h2,fun b o e=>?_⟩
    ·rw [J4,iV_set];rfl
    ·rw [Jc (Ja e h2)];exact h3 _ _ e
  have start0:∀ fl,H fl=none→∀ H1,Same H H1→H1 fl=some (.lst (iV (List.replicate ls.length 0)))→PvF p q fl ls os H 0 [some (.ref p),some (.ref q),some (.ref fl),some (.int 0),none] H1:=fun fl h1 H1 h2 h3=>⟨none,rfl,h3,h1,h2⟩
  have done:∀ fl (σ:St) (H2:Hp),PvF p q fl ls os H (nV os).length σ H2→tRet (tCB (rTup K) (tCons (tVar 2) tNil)) { nx:=fun _ H'=>Q .non H',rt:=Q } σ H2:=by
   rintro fl σ H2 ⟨v,rfl,h1,h2,h3⟩
   have e:(nV os).length=os.length:=by simp [natI]
   rw [e] at h1
   exact ⟨_,rfl,J1l (.inl h1) fun l H' s hl=>k l _ (h3.trans s) hl⟩
  have rep:∀ fl,H fl=none→∀ l2,(upd H fl (.lst [V.int 0])) l2=none→PvF p q l2 ls os H 0 [some (.ref p),some (.ref q),some (.ref l2),some (.int 0),none] (upd (upd H fl (.lst [V.int 0])) l2 (.lst (List.replicate ((iV ls).length:Int).toNat [V.int 0]).flatten)):=fun fl hf l2 h2 =>
   start0 l2 ((J8 hf).free h2) _ ((J8 hf).trans (J8 h2)) (by rw [J4,flat_zero,hl];rfl)
  rcases hq with hq | hq
  ·refine ⟨_,J3 (Jn (i:=2) scFirst.nd rfl (Or.inl rfl) (pe_op op_rep (J2n (J0 Jb J6)) (Jy Ju (by rfl) T.len PySem.boot_len (J0 (pv 0) J6))))
    (J3 (Jn (i:=3) scFirst.nd rfl (Or.inl rfl) Jb)
    (J3 (ps_for PassesOwn.never rfl (J5l (pv 1)) (J2l (i:=4) scFirst.nd rfl (Or.inl rfl)) (J3 (ps_asg (pv 3) (pg_sub (pv 2) (pv 4) J2e)) (J9 (Jn (i:=3) scFirst.nd rfl (Or.inl rfl) (pe_op J2i (pv 3) (pe_ix Jj (pv 0) (pv 4) (fun _ _=>rfl)))))))
    (J9 (Jl (Jk J1i (by rfl) T.tuple PyProof.Rows.boot_tuple (J0 (pv 2) J6)))))),?_⟩
   refine ⟨by show 1≤sizeLine;decide,fun fl hf=>⟨_,rfl,p,_,rfl,.inr (SqT.of (J8 hf _ _ hp)),fl,_,[V.int 0],rfl,rfl,J4,by omega,by omega,?_,fun l2 h2=>?_⟩⟩
   ·show 1 * ((iV ls).length:Int).toNat≤sizeLine
    have:=J11 (n:=ls.length) (by omega)
    omega
   ·have p0:=rep fl hf l2 h2
    exact ⟨_,rfl,q,rfl,⟨_,SqL.of (((J8 hf).trans (J8 h2)) _ _ hq)⟩,J6g (K:=K) (a:=q) (xs:=nV os) (PvF p q l2 ls os H) p0 (fun i σ H2 _ ⟨_,_,_,_,s⟩=>SqL.of (s _ _ hq)) (fun i y σ H2 hi pv=>turn l2 i y σ H2 _ hi pv rfl) (fun σ H2 pv=>done l2 σ H2 pv)⟩
  ·refine ⟨_,J3 (Jn (i:=2) scFirst.nd rfl (Or.inl rfl) (pe_op op_rep (J2n (J0 Jb J6)) (Jy Ju (by rfl) T.len PySem.boot_len (J0 (pv 0) J6))))
    (J3 (Jn (i:=3) scFirst.nd rfl (Or.inl rfl) Jb)
    (J3 (ps_for PassesOwn.never rfl (pi_tup (pv 1)) (J2l (i:=4) scFirst.nd rfl (Or.inl rfl)) (J3 (ps_asg (pv 3) (pg_sub (pv 2) (pv 4) J2e)) (J9 (Jn (i:=3) scFirst.nd rfl (Or.inl rfl) (pe_op J2i (pv 3) (pe_ix Jj (pv 0) (pv 4) (fun _ _=>rfl)))))))
    (J9 (Jl (Jk J1i (by rfl) T.tuple PyProof.Rows.boot_tuple (J0 (pv 2) J6)))))),?_⟩
   refine ⟨by show 1≤sizeLine;decide,fun fl hf=>⟨_,rfl,p,_,rfl,.inr (SqT.of (J8 hf _ _ hp)),fl,_,[V.int 0],rfl,rfl,J4,by omega,by omega,?_,fun l2 h2=>?_⟩⟩
   ·show 1 * ((iV ls).length:Int).toNat≤sizeLine
    have:=J11 (n:=ls.length) (by omega)
    omega
   ·have p0:=rep fl hf l2 h2
    exact ⟨_,rfl,q,rfl,⟨_,SqT.of (((J8 hf).trans (J8 h2)) _ _ hq)⟩,for_tup (K:=K) (a:=q) (xs:=nV os) (PvF p q l2 ls os H) p0 (fun i σ H2 _ ⟨_,_,_,_,s⟩=>SqT.of (s _ _ hq)) (fun i y σ H2 hi pv=>turn l2 i y σ H2 _ hi pv rfl) (fun σ H2 pv=>done l2 σ H2 pv)⟩
end
end R25
namespace R25
open PySem L2 Rl
structure Good (ls:List Int) (os:List Nat):Prop where
 lo:1≤ls.length
 hi:ls.length≤24
 pos:∀ a∈ls,1≤a
 sum:ls.sum≤10 ^ 30
 perm:os.Perm (List.range ls.length)
theorem Good.olt {ls:List Int} {os:List Nat} (g:Good ls os):∀ o∈os,o < ls.length:=fun o h=>List.mem_range.mp (g.perm.mem_iff.mp h)
structure Txt (K:PySem.W.Frag) (mg:Str→Option Value):Prop where
 len:mg "len"=none
 min:mg "min"=none
 sum:mg "sum"=none
 sorted:mg "sorted"=none
 list:mg "list"=none
 range:mg "range"=none
 tuple:mg "tuple"=none
 most:∃ t,mg "MOST_PIECES"=some (.int 24 t)
section
variable {P:Program} {w:World} {K:PySem.W.Frag} {mg:Str→Option Value} {base:Heap}
def spRefL:Sp:=fun vs H Q _=>∃ (p:Addr) (ls:List Int) (os:List Nat),vs=[.ref p]∧SqH H p (iV ls)∧Good ls os∧Q .non H
theorem scRefL:FnScope ["lengths"] ["lengths"] (J2 sRefL):=⟨rfl,rfl,rfl,by decide +kernel,rfl,by decide +kernel,by decide +kernel⟩
theorem ok_refL {f:Addr} {fd:FuncData} (F:Fun K "refuse_lengths" "refuse_lengths" sRefL f fd) (T:Txt K mg):FnOk P w K mg base CX0 1 f fd ["lengths"] spRefL:=by
 refine F.ok scRefL (fun vs H Q E h=>?_) (fun cdv A outer s H vs Q E hr h=>?_)
 ·obtain ⟨p,ls,os,rfl,_⟩:=h
  rfl
 ·obtain ⟨p,ls,os,rfl,hp,g,k⟩:=h
  obtain ⟨t24,h24⟩:=T.most
  have g1:=g.lo
  have g2:=g.hi
  refine ⟨_,J3 (ps_if (Jo op_eq (Jy Ju (by rfl) T.len PySem.boot_len (J0 (pv 0) J6)) Jb (Jp _)) (J9 J3y) Jv)
   (J3 (ps_if (Jo op_gt (Jy Ju (by rfl) T.len PySem.boot_len (J0 (pv 0) J6)) (pe_glob (v:=.int 24) rfl h24 ⟨_,rfl⟩) (Jp _)) (J9 J3y) Jv)
   (J3 (ps_if (Jo op_lt (Jy (call_min rfl) (by rfl) T.min PyProof.Rows.boot_min (J0 (pv 0) J6)) Jb (Jp _)) (J9 J3y) Jv)
   (J9 (ps_if (Jo op_gt (Jy (J4k rfl) (by rfl) T.sum PyProof.Rows.boot_sum (J0 (pv 0) J6)) (pe_op op_pow Jb Jb) (Jp _)) (J9 J3y) Jv)))),?_⟩
  have hl:(iV ls).length=ls.length:=List.length_map ..
  refine ⟨_,rfl,p,_,rfl,hp.sq,rfl,_,rfl,iteD (J3d (by rw [hl];omega)) ?_⟩
  refine ⟨_,rfl,p,_,rfl,hp.sq,_,_,rfl,rfl,_,rfl,iteD (by rw [hl];omega) ?_⟩
  refine ⟨_,rfl,p,ls,rfl,hp.sq,by omega,fun M hM hall=>⟨_,_,rfl,rfl,_,rfl,iteD (by have:=g.pos M hM;omega) ?_⟩⟩
  refine ⟨_,rfl,p,ls,rfl,hp.sq,_,_,rfl,rfl,⟨by decide,by decide,by decide⟩,_,_,rfl,rfl,_,rfl,iteD ?_ ?_⟩
  ·have:=g.sum
   show ¬ (10:Int) ^ 30 < ls.sum
   omega
  ·exact k
def spRefO:Sp:=fun vs H Q _=>∃ (q:Addr) (os:List Nat) (n:Nat),vs=[.ref q,.int n]∧SqH H q (nV os)∧os.Perm (List.range n)∧n≤24∧∀ H',Same H H'→Q .non H'
theorem scRefO:FnScope ["order","pieces"] ["order","pieces"] (J2 sRefO):=⟨rfl,rfl,rfl,by decide +kernel,rfl,by decide +kernel,by decide +kernel⟩
theorem ok_refO {f:Addr} {fd:FuncData} (F:Fun K "refuse_order" "refuse_order" sRefO f fd) (T:Txt K mg):FnOk P w K mg base CX0 1 f fd ["order","pieces"] spRefO:=by
 refine F.ok scRefO (fun vs H Q E h=>?_) (fun cdv A outer s H vs Q E hr h=>?_)
 ·obtain ⟨q,os,n,rfl,_⟩:=h
  rfl
 ·obtain ⟨q,os,n,rfl,hq,hp,hn,k⟩:=h
  have hu:=hr.units0
  refine ⟨_,J9 (ps_if (Jo (op_neL hu) (Jy call_sorted (by rfl) T.sorted PyProof.Rows.boot_sorted (J0 (pv 0) J6))
   (Jk (J27 rfl) (by rfl) T.list PyProof.Rows.boot_list (J0 (Jk J6j (by rfl) T.range PyProof.Rows.boot_range (J0 (pv 1) J6)) J6)) (Jp _)) (J9 J3y) Jv),?_⟩
  have ho:(natI os).length < 64:=by
   unfold natI
   rw [List.length_map,hp.length_eq,List.length_range];omega
  refine ⟨_,rfl,q,natI os,rfl,hq.sq,ho,fun l ns' hl h1 h2=>?_⟩
  refine ⟨_,rfl,(n:Int),rfl,fun r hr'=>⟨r,n,rfl,J4,by omega,fun l2 hl2=>?_⟩⟩
  have e:=J7h hp h1 h2
  have n1:l≠r:=Ja (H:=upd H l (.lst (ns'.map V.int))) J4 hr'
  have s1:Same (upd H l (.lst (ns'.map V.int))) (upd (upd (upd H l (.lst (ns'.map V.int))) r (.rng 0 n)) l2 (.lst (((List.range n).map fun (i:Nat)=>(i:Int)).map V.int))):=(J8 hr').trans (J8 hl2)
  refine ⟨l,l2,_,_,rfl,rfl,SqL.of (s1 _ _ J4),SqL.of J4,Kin.ints _ _,_,rfl,iteNS (by rw [e];rfl) ?_⟩
  exact k _ ((J8 hl).trans s1)
def spRefT:Sp:=fun vs H Q _=>∃ (q:Addr) (xs:List V) (n:Nat),vs=[.ref q,.int n]∧SqH H q xs∧xs.length=n∧Q .non H
theorem scRefT:FnScope ["turned","pieces"] ["turned","pieces"] (J2 sRefT):=⟨rfl,rfl,rfl,by decide +kernel,rfl,by decide +kernel,by decide +kernel⟩
theorem ok_refT {f:Addr} {fd:FuncData} (F:Fun K "refuse_turned" "refuse_turned" sRefT f fd) (T:Txt K mg):FnOk P w K mg base CX0 1 f fd ["turned","pieces"] spRefT:=by
 refine F.ok scRefT (fun vs H Q E h=>?_) (fun cdv A outer s H vs Q E hr h=>?_)
 ·obtain ⟨q,xs,n,rfl,_⟩:=h
  rfl
 ·obtain ⟨q,xs,n,rfl,hq,hn,k⟩:=h
  refine ⟨_,J9 (ps_if (Jo op_ne (Jy Ju (by rfl) T.len PySem.boot_len (J0 (pv 0) J6)) (pv 1) (Jp _)) (J9 J3y) Jv),?_⟩
  refine ⟨_,rfl,q,_,rfl,hq.sq,_,rfl,rfl,_,rfl,iteNS (by rw [hn]) ?_⟩
  exact k
def TurnsOf (H:Hp) (tv:V) (n:Nat) (ts:List Bool):Prop:=ts.length=n∧((tv=.non∧ts=List.replicate n false)∨∃ t,tv=.ref t∧SqH H t (bV ts))
theorem TurnsOf.same {H H':Hp} {tv:V} {n:Nat} {ts:List Bool} (h:TurnsOf H tv n ts) (s:Same H H'):TurnsOf H' tv n ts:=⟨h.1,h.2.elim .inl fun ⟨t,e,q⟩=>.inr ⟨t,e,q.same s⟩⟩
def spTold:Sp:=fun vs H Q _=>∃ (tv:V) (n:Nat) (ts:List Bool),vs=[tv,.int n]∧1≤n∧n≤24∧TurnsOf H tv n ts∧∀ p H',Same H H'→H' p=some (.tup (bV ts))→Q (.ref p) H'
theorem scTold:FnScope ["turned","pieces"] ["turned","pieces"] (J2 sTold):=⟨rfl,rfl,rfl,by decide +kernel,rfl,by decide +kernel,by decide +kernel⟩
theorem ok_told {f fT:Addr} {fd fdT:FuncData} (F:Fun K "turns_told" "turns_told" sTold f fd) (T:Txt K mg) (FT:Fun K "refuse_turned" "refuse_turned" sRefT fT fdT) (bT:Binds K fdT ["turned","pieces"] []) (mT:mg "refuse_turned"=some (.ref fT)):FnOk P w K mg base CX0 2 f fd ["turned","pieces"] spTold:=by
 have GT:FnOk P w K mg base CX0 1 fT fdT ["turned","pieces"] spRefT:=ok_refT FT T
 refine F.ok scTold (fun vs H Q E h=>?_) (fun cdv A outer s H vs Q E hr h=>?_)
 ·obtain ⟨tv,n,ts,rfl,_⟩:=h
  rfl
 ·obtain ⟨tv,n,ts,rfl,h1,h2,⟨ht,h3⟩,k⟩:=h
  refine ⟨_,J3 (ps_if (pt_cmp (pc_isN (pv 0))) (J9 (Jl (pe_op op_repT (J2m (J0 pe_bl J6)) (pv 1)))) Jv)
   (J3 (J12 (Jd GT hr rfl mT FT.kp bT .nil pass0 (J0 (pv 0) (J0 (pv 1) J6))))
   (J9 (Jl (Jk J1i (by rfl) T.tuple PyProof.Rows.boot_tuple (J0 (pv 0) J6))))),?_⟩
  rcases h3 with ⟨rfl,rfl⟩ | ⟨t,rfl,hq⟩
  ·refine ⟨_,rfl,_,rfl,iteDT rfl ?_⟩
   refine ⟨by show 1≤sizeLine;decide,fun p hp=>⟨_,rfl,p,(n:Int),[V.bl false],rfl,rfl,J4,by simp,by omega,by omega,?_,fun e=>?_,fun hk p2 hp2=>?_⟩⟩
   ·show 1 * (n:Int).toNat≤sizeLine
    have:=J11 (n:=n) (by omega)
    omega
   ·have en:n=1:=by omega
    subst en
    exact k p _ (J8 hp) J4
   ·refine k p2 _ ((J8 hp).trans (J8 hp2)) ?_
    rw [J4,← flat_false]
    rfl
  ·refine ⟨_,rfl,_,rfl,iteD (by intro e;cases e) ?_⟩
   refine ⟨_,rfl,_,rfl,t,bV ts,n,rfl,hq,by rw [List.length_map];exact ht,?_⟩
   exact ⟨_,rfl,J1l hq k⟩
end
section
variable {P:Program} {w:World} {K:PySem.W.Frag} {mg:Str→Option Value} {base:Heap}
def tCut (t:TS):TS:=fun D σ H=>∃ post:St→Hp→Prop,t { D with nx:=post } σ H∧∀ σ' H',post σ' H'→D.nx σ' H'
theorem ps_cut {X:Cx} {st:Stmt} {t:TS} (h:PS X st t):PS X st (tCut t):=by
 intro pins s σ H D I ⟨post,q,m⟩
 refine thn (h pins s σ H _ I q) fun f s' z=>?_
 cases f with
 | next=>obtain ⟨σ',H',I',z⟩:=z;exact ⟨σ',H',I',m σ' H' z⟩
 | brk=>exact z
 | cont=>exact z
 | ret u=>exact z
structure LineAt (C:Addr) (H:Hp) (x:Addr) (ls:List Int) (os:List Nat) (ts:List Bool):Prop where
 ex:∃ (dx:Addr) (fs:List (Str × V)) (pl po pt ps pd:Addr),H x=some (.ins C dx fs)∧(fs.lookup ("lengths":Str)=some (.ref pl)∧fs.lookup ("order":Str)=some (.ref po)∧fs.lookup ("turned":Str)=some (.ref pt)∧
  fs.lookup ("starts":Str)=some (.ref ps)∧fs.lookup ("laid":Str)=some (.ref pd)∧fs.lookup ("size":Str)=some (.int ls.sum))∧
  H pl=some (.tup (iV ls))∧H po=some (.tup (nV os))∧H pt=some (.tup (bV ts))∧H ps=some (.tup (iV (firsts ls (List.range ls.length))))∧H pd=some (.tup (iV (firsts ls os)))
theorem LineAt.same {C:Addr} {H H':Hp} {x:Addr} {ls:List Int} {os:List Nat} {ts:List Bool} (h:LineAt C H x ls os ts) (s:Same H H'):LineAt C H' x ls os ts:=by
 obtain ⟨dx,fs,pl,po,pt,ps,pd,h0,hl,h1,h2,h3,h4,h5⟩:=h.ex
 exact ⟨dx,fs,pl,po,pt,ps,pd,s _ _ h0,hl,s _ _ h1,s _ _ h2,s _ _ h3,s _ _ h4,s _ _ h5⟩
structure TxtC (K:PySem.W.Frag) (mg:Str→Option Value) (C:Addr):Prop where
 cl:Cls K C
 nL:NoAttr K C "lengths"
 nO:NoAttr K C "order"
 nT:NoAttr K C "turned"
 nS:NoAttr K C "starts"
 nD:NoAttr K C "laid"
 nZ:NoAttr K C "size"
structure FunD (K:PySem.W.Frag) (x qual:Str) (st:Stmt) (f:Addr) (fd:FuncData) (TD:Addr):Prop where
 ex:∃ (oc:Value) (od:Option Addr) (kV doc pm:Value) (an:Option Addr) (cdv ct:Value) (osl:Array (Option Value)),
  fd=PySem.W.fnOf x qual (Jf st) (Je st) (J2 st) (.ref TD) kV doc pm an cdv ct∧K.lookup f=some ⟨oc,od,.func fd,osl⟩∧PySem.W.codeIn K cdv qual=true
 kp:PySem.W.keepIn K (.ref f)=true
theorem FunD.ok {x qual:Str} {st:Stmt} {f TD:Addr} {fd:FuncData} {N ps:List Str} {k:Nat} {sp:Sp} (F:FunD K x qual st f fd TD) (S:FnScope N ps (J2 st)) (len:∀ vs H Q E,sp vs H Q E→vs.length=ps.length)
  (hbody:∀ (cdv:Value) (A:Around) (outer:List Env) (s:Shared) (H:Hp) (vs:List V) (Q:VK) (E:XK),Room k (A.deeper (PyProof.Rows.envOfC qual (J2 st) s.heap.objs.size f cdv))→sp vs H Q E→
   ∃ t,PSs (cxOf CX0 P w K mg base N qual (J2 st) f cdv A outer s H E).nox (Je st) t∧t { nx:=fun _ H'=>Q .non H',rt:=Q } (start N vs) H):FnOk P w K mg base CX0 (k + 1) f fd ps sp:=by
 obtain ⟨oc,od,kV,doc,pm,an,cdv,ct,osl,rfl,lk,hcd⟩:=F.ex
 refine fn_of lk hcd S len fun A outer s H vs Q E hr hsp=>?_
 obtain ⟨t,h,q⟩:=hbody cdv A outer s H vs Q E hr hsp
 exact ⟨t,h.nox,q⟩
def spInit (C:Addr):Sp:=fun vs H Q _=>∃ (x dx p q:Addr) (tv:V) (ls:List Int) (os:List Nat) (ts:List Bool),vs=[.ref x,.ref p,.ref q,tv]∧H x=some (.ins C dx [])∧SqH H p (iV ls)∧SqH H q (nV os)∧Good ls os∧TurnsOf H tv ls.length ts∧
 ∀ H',LineAt C H' x ls os ts→(∀ b o,H b=some o→b≠x→H' b=some o)→Q .non H'
theorem scInit:FnScope ["self","lengths","order","turned"] ["self","lengths","order","turned"] (J2 sInit):=⟨rfl,rfl,rfl,by decide +kernel,rfl,by decide +kernel,by decide +kernel⟩
theorem ok_init {f fL fO fT fF TD C:Addr} {fd fdL fdO fdT fdF:FuncData} (F:FunD K "__init__" "Line.__init__" sInit f fd TD) (T:Txt K mg) (TC:TxtC K mg C)
  (GL:FnOk P w K mg base CX0 1 fL fdL ["lengths"] spRefL) (bL:Binds K fdL ["lengths"] []) (mL:mg "refuse_lengths"=some (.ref fL)) (kL:PySem.W.keepIn K (.ref fL)=true)
  (GO:FnOk P w K mg base CX0 1 fO fdO ["order","pieces"] spRefO) (bO:Binds K fdO ["order","pieces"] []) (mO:mg "refuse_order"=some (.ref fO)) (kO:PySem.W.keepIn K (.ref fO)=true)
  (GT:FnOk P w K mg base CX0 2 fT fdT ["turned","pieces"] spTold) (bT:Binds K fdT ["turned","pieces"] []) (mT:mg "turns_told"=some (.ref fT)) (kT:PySem.W.keepIn K (.ref fT)=true)
  (GF:FnOk P w K mg base CX0 1 fF fdF ["lengths","order"] spFirst) (bF:Binds K fdF ["lengths","order"] []) (mF:mg "first_places"=some (.ref fF)) (kF:PySem.W.keepIn K (.ref fF)=true) :
  FnOk P w K mg base CX0 3 f fd ["self","lengths","order","turned"] (spInit C):=by
 refine F.ok scInit (fun vs H Q E h=>?_) (fun cdv A outer s H vs Q E hr h=>?_)
 ·obtain ⟨x,dx,p,q,tv,ls,os,ts,rfl,_⟩:=h
  rfl
 ·obtain ⟨x,dx,p,q,tv,ls,os,ts,rfl,hx,hp,hq,g,ht,k⟩:=h
  have hr1:Room 1 _:=hr.mono (by decide)
  have g1:=g.lo
  have g2:=g.hi
  have npx:=hp.ne hx
  have nqx:=hq.ne hx
  refine ⟨_,J3 (J12 (Jd GL hr1 rfl mL kL bL .nil pass0 (J0 (pv 1) J6)))
   (J3 (J12 (Jd GO hr1 rfl mO kO bO .nil pass0 (J0 (pv 2) (J0 (Jy Ju (by rfl) T.len PySem.boot_len (J0 (pv 1) J6)) J6))))
   (J3 (J2f (pv 0) (Jd GT hr rfl mT kT bT .nil pass0 (J0 (pv 3) (J0 (Jy Ju (by rfl) T.len PySem.boot_len (J0 (pv 1) J6)) J6))) rfl)
   (J3 (J2f (pv 0) (Jk J1i (by rfl) T.tuple PyProof.Rows.boot_tuple (J0 (pv 1) J6)) rfl)
   (J3 (J2f (pv 0) (Jk J1i (by rfl) T.tuple PyProof.Rows.boot_tuple (J0 (pv 2) J6)) rfl)
   (J3 (J2f (pv 0) (Jd GF hr1 rfl mF kF bF .nil pass0 (J0 (Jh (pv 0) rfl) (J0 (Jk (J27 rfl) (by rfl) T.list PyProof.Rows.boot_list (J0 (Jk J6j (by rfl) T.range PyProof.Rows.boot_range (J0 (Jy Ju (by rfl) T.len PySem.boot_len (J0 (pv 1) J6)) J6)) J6)) J6))) rfl)
   (J3 (J2f (pv 0) (Jd GF hr1 rfl mF kF bF .nil pass0 (J0 (Jh (pv 0) rfl) (J0 (Jh (pv 0) rfl) J6))) rfl)
   (J9 (J2f (pv 0) (Jy (J4k rfl) (by rfl) T.sum PyProof.Rows.boot_sum (J0 (Jh (pv 0) rfl) J6)) rfl)))))))),?_⟩
  refine ⟨_,rfl,p,ls,os,rfl,hp,g,?_⟩
  refine ⟨_,rfl,_,rfl,p,_,rfl,hp.sq,q,os,ls.length,(by rw [J25];rfl),hq,g.perm,g2,fun H1 s1=>?_⟩
  refine ⟨_,rfl,_,rfl,p,_,rfl,(hp.same s1).sq,tv,ls.length,ts,(by rw [J25];rfl),g1,g2,ht.same s1,fun pt H2 s2 hpt=>?_⟩
  have s12:=s1.trans s2
  refine ⟨_,rfl,x,C,dx,[],rfl,s12 _ _ hx,TC.cl,TC.nT,(by show 0 < 1000;decide),?_⟩
  generalize hfs1:putF ("turned":Str) (.ref pt) []=fs1
  generalize hH3:upd H2 x (.ins C dx fs1)=H3
  have l1:fs1.length≤1:=by rw [← hfs1];exact Jr ..
  have k3:KeepX x H H3:=by rw [← hH3];exact (KeepX.of s12).trans KeepX.upd
  have hx3:H3 x=some (.ins C dx fs1):=by rw [← hH3];exact J4
  have ptx:pt≠x:=ne_of hpt (s12 _ _ hx) (by intro z;cases z)
  have hpt3:H3 pt=some (.tup (bV ts)):=by rw [← hH3,Jc ptx];exact hpt
  refine ⟨_,rfl,J1l (k3.sqH hp npx) fun pl H4 s4 hpl=>⟨_,rfl,x,C,dx,fs1,rfl,s4 _ _ hx3,TC.cl,TC.nL,(by omega),?_⟩⟩
  generalize hfs2:putF ("lengths":Str) (.ref pl) fs1=fs2
  generalize hH5:upd H4 x (.ins C dx fs2)=H5
  have l2:fs2.length≤2:=by rw [← hfs2];have:=Jr ("lengths":Str) (.ref pl) fs1;omega
  have k35:KeepX x H3 H5:=by rw [← hH5];exact (KeepX.of s4).trans KeepX.upd
  have k5:KeepX x H H5:=k3.trans k35
  have hx5:H5 x=some (.ins C dx fs2):=by rw [← hH5];exact J4
  have plx:pl≠x:=ne_of hpl (s4 _ _ hx3) (by intro z;cases z)
  have hpl5:H5 pl=some (.tup (iV ls)):=by rw [← hH5,Jc plx];exact hpl
  refine ⟨_,rfl,J1l (k5.sqH hq nqx) fun po H6 s6 hpo=>⟨_,rfl,x,C,dx,fs2,rfl,s6 _ _ hx5,TC.cl,TC.nO,(by omega),?_⟩⟩
  generalize hfs3:putF ("order":Str) (.ref po) fs2=fs3
  generalize hH7:upd H6 x (.ins C dx fs3)=H7
  have l3:fs3.length≤3:=by rw [← hfs3];have:=Jr ("order":Str) (.ref po) fs2;omega
  have k57:KeepX x H5 H7:=by rw [← hH7];exact (KeepX.of s6).trans KeepX.upd
  have k7:KeepX x H H7:=k5.trans k57
  have hx7:H7 x=some (.ins C dx fs3):=by rw [← hH7];exact J4
  have pox:po≠x:=ne_of hpo (s6 _ _ hx5) (by intro z;cases z)
  have hpo7:H7 po=some (.tup (nV os)):=by rw [← hH7,Jc pox];exact hpo
  have hpl7:H7 pl=some (.tup (iV ls)):=k57 _ _ hpl5 plx
  have lkL:fs3.lookup ("lengths":Str)=some (.ref pl):=by rw [← hfs3,lk_ne (by decide +kernel),← hfs2,J1m]
  have lkO:fs3.lookup ("order":Str)=some (.ref po):=by rw [← hfs3,J1m]
  have lkT:fs3.lookup ("turned":Str)=some (.ref pt):=by rw [← hfs3,lk_ne (by decide +kernel),← hfs2,lk_ne (by decide +kernel),← hfs1,J1m]
  refine ⟨_,rfl,x,C,dx,fs3,_,rfl,hx7,TC.cl,TC.nL,lkL,_,rfl,p,_,rfl,(k7.sqH hp npx).sq,_,rfl,fun r hr'=>⟨r,_,rfl,J4,(by rw [J25];omega),fun l hl=>?_⟩⟩
  have s8:Same H7 (upd (upd H7 r (.rng 0 ((iV ls).length:Nat))) l (.lst (((List.range (iV ls).length).map fun (i:Nat)=>(i:Int)).map V.int))):=(J8 hr').trans (J8 hl)
  refine ⟨pl,l,ls,List.range ls.length,rfl,s8 _ _ hpl7,.inl (by rw [J4,J25];rfl),fun o ho=>List.mem_range.mp ho,g2,fun ps H9 s9 hps=>?_⟩
  have s79:=s8.trans s9
  refine ⟨_,rfl,x,C,dx,fs3,rfl,s79 _ _ hx7,TC.cl,TC.nS,(by omega),?_⟩
  generalize hfs4:putF ("starts":Str) (.ref ps) fs3=fs4
  generalize hHa:upd H9 x (.ins C dx fs4)=Ha
  have l4:fs4.length≤4:=by rw [← hfs4];have:=Jr ("starts":Str) (.ref ps) fs3;omega
  have k7a:KeepX x H7 Ha:=by rw [← hHa];exact (KeepX.of s79).trans KeepX.upd
  have hxa:Ha x=some (.ins C dx fs4):=by rw [← hHa];exact J4
  have psx:ps≠x:=ne_of hps (s79 _ _ hx7) (by intro z;cases z)
  have hpsa:Ha ps=some (.tup (iV (firsts ls (List.range ls.length)))):=by rw [← hHa,Jc psx];exact hps
  have hpla:=k7a _ _ hpl7 plx
  have hpoa:=k7a _ _ hpo7 pox
  have lkL4:fs4.lookup ("lengths":Str)=some (.ref pl):=by rw [← hfs4,lk_ne (by decide +kernel),lkL]
  have lkO4:fs4.lookup ("order":Str)=some (.ref po):=by rw [← hfs4,lk_ne (by decide +kernel),lkO]
  have lkT4:fs4.lookup ("turned":Str)=some (.ref pt):=by rw [← hfs4,lk_ne (by decide +kernel),lkT]
  have lkS4:fs4.lookup ("starts":Str)=some (.ref ps):=by rw [← hfs4,J1m]
  refine ⟨_,rfl,x,C,dx,fs4,_,rfl,hxa,TC.cl,TC.nL,lkL4,_,rfl,x,C,dx,fs4,_,rfl,hxa,TC.cl,TC.nO,lkO4,pl,po,ls,os,rfl,hpla,.inr hpoa,g.olt,g2,fun pd Hb sb hpd=>?_⟩
  refine ⟨_,rfl,x,C,dx,fs4,rfl,sb _ _ hxa,TC.cl,TC.nD,(by omega),?_⟩
  generalize hfs5:putF ("laid":Str) (.ref pd) fs4=fs5
  generalize hHc:upd Hb x (.ins C dx fs5)=Hc
  have l5:fs5.length≤5:=by rw [← hfs5];have:=Jr ("laid":Str) (.ref pd) fs4;omega
  have kac:KeepX x Ha Hc:=by rw [← hHc];exact (KeepX.of sb).trans KeepX.upd
  have hxc:Hc x=some (.ins C dx fs5):=by rw [← hHc];exact J4
  have pdx:pd≠x:=ne_of hpd (sb _ _ hxa) (by intro z;cases z)
  have hpdc:Hc pd=some (.tup (iV (firsts ls os))):=by rw [← hHc,Jc pdx];exact hpd
  have lkL5:fs5.lookup ("lengths":Str)=some (.ref pl):=by rw [← hfs5,lk_ne (by decide +kernel),lkL4]
  refine ⟨_,rfl,x,C,dx,fs5,_,rfl,hxc,TC.cl,TC.nL,lkL5,pl,ls,rfl,.inr (SqT.of (kac _ _ hpla plx)),_,rfl,x,C,dx,fs5,rfl,hxc,TC.cl,TC.nZ,(by omega),?_⟩
  have kz:KeepX x Hc (upd Hc x (.ins C dx (putF ("size":Str) (.int ls.sum) fs5))):=KeepX.upd
  refine k _ ⟨dx,_,pl,po,pt,ps,pd,J4,⟨?_,?_,?_,?_,?_,J1m⟩,kz _ _ (kac _ _ hpla plx) plx,kz _ _ (kac _ _ hpoa pox) pox,kz _ _ (kac _ _ (k7a _ _ (k57 _ _ (k35 _ _ hpt3 ptx) ptx) ptx) ptx) ptx,kz _ _ (kac _ _ hpsa psx) psx,kz _ _ hpdc pdx⟩ (k7.trans (k7a.trans (kac.trans kz)))
  ·rw [lk_ne (by decide +kernel),lkL5]
  ·rw [lk_ne (by decide +kernel),← hfs5,lk_ne (by decide +kernel),lkO4]
  ·rw [lk_ne (by decide +kernel),← hfs5,lk_ne (by decide +kernel),lkT4]
  ·rw [lk_ne (by decide +kernel),← hfs5,lk_ne (by decide +kernel),lkS4]
  ·rw [lk_ne (by decide +kernel),← hfs5,J1m]
end
theorem Good.ord {ls:List Int} {os:List Nat} (g:Good ls os):Ord ls os:=⟨g.pos,g.perm⟩
end R25
namespace R25
open PySem L2 Rl
section
variable {P:Program} {w:World} {K:PySem.W.Frag} {mg:Str→Option Value} {base:Heap}
def J6u (K:PySem.W.Frag):Sp:=fun vs H Q _=>∃ (C x q dx pl:Addr) (fs:List (Str × V)) (ls:List Int) (row:List Nat),vs=[.ref x,.ref q]∧H x=some (.ins C dx fs)∧Cls K C∧NoAttr K C "lengths"∧fs.lookup ("lengths":Str)=some (.ref pl)∧
 H pl=some (.tup (iV ls))∧H q=some (.tup (nV row))∧(∀ j∈row,j < ls.length)∧row.length≤24∧∀ H',Same H H'→Q (.int (lenOf ls row)) H'
theorem scLenOf:FnScope ["rest","letters"] ["rest","letters"] (J2 sLenOf):=⟨rfl,rfl,rfl,by decide +kernel,rfl,by decide +kernel,by decide +kernel⟩
theorem ok_lenOf {f:Addr} {fd:FuncData} (F:Fun K "length_of" "length_of" sLenOf f fd) (T:TxtR mg):FnOk P w K mg base CX0 1 f fd ["rest","letters"] (J6u K):=by
 refine F.ok scLenOf (fun vs H Q E h=>?_) (fun cdv A outer s H vs Q E hr h=>?_)
 ·obtain ⟨C,x,q,dx,pl,fs,ls,row,rfl,_⟩:=h
  rfl
 ·obtain ⟨C,x,q,dx,pl,fs,ls,row,rfl,hx,hC,hN,lk,hpl,hq,hlt,hn,k⟩:=h
  refine ⟨_,J9 (Jl (Jy (J4k rfl) (by rfl) T.sum PyProof.Rows.boot_sum (J0 (pe_lc (caps:=["rest"]) (js:=[0]) rfl (pi_tup (pv 1)) rfl (fun _ _ _ _=>pts_nil)
   (fun C fp s H=>pe_ixr (ix_tupK K) (pe_flK K (pv 1)) (pv 0))
   (by decide +kernel) (by decide +kernel) (by decide +kernel) (by intro p hp;simp only [List.mem_cons,List.not_mem_nil,or_false] at hp;rcases hp with rfl;rfl)) J6))),?_⟩
  refine ⟨_,rfl,q,rfl,⟨_,SqT.of hq⟩,fun d hd=>lc_tup (fun (j:Nat)=>V.int (j:Int)) row (fun _=>true) (fun j=>V.int (ls.getD j 0)) (by rw [← nV_eq];exact SqT.of hq) (by omega) hd
   (fun _ _ H _ _ k=>k H (Same.refl _)) (fun j hj H2 Qe _ s2 k=>?_) (fun H' s' hd'=>?_)⟩
  ·exact ⟨_,rfl,x,C,dx,fs,_,rfl,s2 _ _ hx,hC,hN,lk,_,rfl,pl,_,_,_,rfl,rfl,SqT.of (s2 _ _ hpl),J7 (J13 (hlt j hj)),k _ (Same.refl _)⟩
  ·rw [J3q] at hd'
   refine ⟨d,row.map fun j=>ls.getD j 0,rfl,.inl (SqL.of ?_),k H' s'⟩
   rw [hd',List.map_map];rfl
structure RestAt (CR:Addr) (H:Hp) (x:Addr) (r:Rst):Prop where
 ex:∃ (dx:Addr) (fs:List (Str × V)) (pt pb pl pu:Addr),H x=some (.ins CR dx fs)∧(fs.lookup ("top":Str)=some (.ref pt)∧fs.lookup ("bottom":Str)=some (.ref pb)∧fs.lookup ("lengths":Str)=some (.ref pl)∧
  fs.lookup ("turned":Str)=some (.ref pu)∧fs.lookup ("size":Str)=some (.int r.size))∧H pt=some (.tup (nV r.top))∧H pb=some (.tup (nV r.bot))∧H pl=some (.tup (iV r.ls))∧H pu=some (.tup (bV r.ts))
theorem RestAt.same {CR:Addr} {H H':Hp} {x:Addr} {r:Rst} (h:RestAt CR H x r) (s:Same H H'):RestAt CR H' x r:=by
 obtain ⟨dx,fs,pt,pb,pl,pu,h0,hl,h1,h2,h3,h4⟩:=h.ex
 exact ⟨dx,fs,pt,pb,pl,pu,s _ _ h0,hl,s _ _ h1,s _ _ h2,s _ _ h3,s _ _ h4⟩
structure TxtRest (K:PySem.W.Frag) (CR:Addr):Prop where
 cl:Cls K CR
 nT:NoAttr K CR "top"
 nB:NoAttr K CR "bottom"
 nL:NoAttr K CR "lengths"
 nU:NoAttr K CR "turned"
 nZ:NoAttr K CR "size"
def J3l (CR:Addr):Sp:=fun vs H Q _=>∃ (x dx p1 p2 p3 p4:Addr) (r:Rst),vs=[.ref x,.ref p1,.ref p2,.ref p3,.ref p4]∧H x=some (.ins CR dx [])∧SqH H p1 (nV r.top)∧SqH H p2 (nV r.bot)∧SqH H p3 (iV r.ls)∧SqH H p4 (bV r.ts)∧
 (∀ j∈r.top,j < r.ls.length)∧r.top.length≤24∧∀ H',RestAt CR H' x r→KeepX x H H'→Q .non H'
theorem scRInit:FnScope ["self","top","bottom","lengths","turned"] ["self","top","bottom","lengths","turned"] (J2 sRInit):=⟨rfl,rfl,rfl,by decide +kernel,rfl,by decide +kernel,by decide +kernel⟩
theorem ok_rinit {f fL CR:Addr} {fd fdL:FuncData} (F:Fun K "__init__" "Rest.__init__" sRInit f fd) (T:TxtR mg) (TR:TxtRest K CR)
  (GL:FnOk P w K mg base CX0 1 fL fdL ["rest","letters"] (J6u K)) (bL:Binds K fdL ["rest","letters"] []) (mL:mg "length_of"=some (.ref fL)) (kL:PySem.W.keepIn K (.ref fL)=true) :
  FnOk P w K mg base CX0 2 f fd ["self","top","bottom","lengths","turned"] (J3l CR):=by
 refine F.ok scRInit (fun vs H Q E h=>?_) (fun cdv A outer s H vs Q E hr h=>?_)
 ·obtain ⟨x,dx,p1,p2,p3,p4,r,rfl,_⟩:=h
  rfl
 ·obtain ⟨x,dx,p1,p2,p3,p4,r,rfl,hx,q1,q2,q3,q4,hlt,hn,k⟩:=h
  have n1:=q1.ne hx
  have n2:=q2.ne hx
  have n3:=q3.ne hx
  have n4:=q4.ne hx
  refine ⟨_,J3 (J2f (pv 0) (Jk J1i (by rfl) T.tuple PyProof.Rows.boot_tuple (J0 (pv 1) J6)) rfl)
   (J3 (J2f (pv 0) (Jk J1i (by rfl) T.tuple PyProof.Rows.boot_tuple (J0 (pv 2) J6)) rfl)
   (J3 (J2f (pv 0) (Jk J1i (by rfl) T.tuple PyProof.Rows.boot_tuple (J0 (pv 3) J6)) rfl)
   (J3 (J2f (pv 0) (Jk J1i (by rfl) T.tuple PyProof.Rows.boot_tuple (J0 (pv 4) J6)) rfl)
   (J9 (J2f (pv 0) (Jd GL hr rfl mL kL bL .nil pass0 (J0 (pv 0) (J0 (Jh (pv 0) rfl) J6))) rfl))))),?_⟩
  refine ⟨_,rfl,J1l q1 fun pt H1 s1 hpt=>⟨_,rfl,x,CR,dx,[],rfl,s1 _ _ hx,TR.cl,TR.nT,(by show 0 < 1000;decide),?_⟩⟩
  generalize hfs1:putF ("top":Str) (.ref pt) []=fs1
  generalize hH2:upd H1 x (.ins CR dx fs1)=H2
  have l1:fs1.length≤1:=by rw [← hfs1];exact Jr ..
  have k2:KeepX x H H2:=by rw [← hH2];exact (KeepX.of s1).trans KeepX.upd
  have hx2:H2 x=some (.ins CR dx fs1):=by rw [← hH2];exact J4
  have ptx:pt≠x:=ne_of hpt (s1 _ _ hx) (by intro z;cases z)
  have hpt2:H2 pt=some (.tup (nV r.top)):=by rw [← hH2,Jc ptx];exact hpt
  refine ⟨_,rfl,J1l (k2.sqH q2 n2) fun pb H3 s3 hpb=>⟨_,rfl,x,CR,dx,fs1,rfl,s3 _ _ hx2,TR.cl,TR.nB,(by omega),?_⟩⟩
  generalize hfs2:putF ("bottom":Str) (.ref pb) fs1=fs2
  generalize hH4:upd H3 x (.ins CR dx fs2)=H4
  have l2:fs2.length≤2:=by rw [← hfs2];have:=Jr ("bottom":Str) (.ref pb) fs1;omega
  have k24:KeepX x H2 H4:=by rw [← hH4];exact (KeepX.of s3).trans KeepX.upd
  have k4:KeepX x H H4:=k2.trans k24
  have hx4:H4 x=some (.ins CR dx fs2):=by rw [← hH4];exact J4
  have pbx:pb≠x:=ne_of hpb (s3 _ _ hx2) (by intro z;cases z)
  have hpb4:H4 pb=some (.tup (nV r.bot)):=by rw [← hH4,Jc pbx];exact hpb
  refine ⟨_,rfl,J1l (k4.sqH q3 n3) fun pl H5 s5 hpl=>⟨_,rfl,x,CR,dx,fs2,rfl,s5 _ _ hx4,TR.cl,TR.nL,(by omega),?_⟩⟩
  generalize hfs3:putF ("lengths":Str) (.ref pl) fs2=fs3
  generalize hH6:upd H5 x (.ins CR dx fs3)=H6
  have l3:fs3.length≤3:=by rw [← hfs3];have:=Jr ("lengths":Str) (.ref pl) fs2;omega
  have k46:KeepX x H4 H6:=by rw [← hH6];exact (KeepX.of s5).trans KeepX.upd
  have k6:KeepX x H H6:=k4.trans k46
  have hx6:H6 x=some (.ins CR dx fs3):=by rw [← hH6];exact J4
  have plx:pl≠x:=ne_of hpl (s5 _ _ hx4) (by intro z;cases z)
  have hpl6:H6 pl=some (.tup (iV r.ls)):=by rw [← hH6,Jc plx];exact hpl
  refine ⟨_,rfl,J1l (k6.sqH q4 n4) fun pu H7 s7 hpu=>⟨_,rfl,x,CR,dx,fs3,rfl,s7 _ _ hx6,TR.cl,TR.nU,(by omega),?_⟩⟩
  generalize hfs4:putF ("turned":Str) (.ref pu) fs3=fs4
  generalize hH8:upd H7 x (.ins CR dx fs4)=H8
  have l4:fs4.length≤4:=by rw [← hfs4];have:=Jr ("turned":Str) (.ref pu) fs3;omega
  have k68:KeepX x H6 H8:=by rw [← hH8];exact (KeepX.of s7).trans KeepX.upd
  have k8:KeepX x H H8:=k6.trans k68
  have hx8:H8 x=some (.ins CR dx fs4):=by rw [← hH8];exact J4
  have pux:pu≠x:=ne_of hpu (s7 _ _ hx6) (by intro z;cases z)
  have hpu8:H8 pu=some (.tup (bV r.ts)):=by rw [← hH8,Jc pux];exact hpu
  have hpl8:H8 pl=some (.tup (iV r.ls)):=k68 _ _ hpl6 plx
  have hpb8:H8 pb=some (.tup (nV r.bot)):=k68 _ _ (k46 _ _ hpb4 pbx) pbx
  have hpt8:H8 pt=some (.tup (nV r.top)):=k68 _ _ (k46 _ _ (k24 _ _ hpt2 ptx) ptx) ptx
  have lkT:fs4.lookup ("top":Str)=some (.ref pt):=by rw [← hfs4,lk_ne (by decide +kernel),← hfs3,lk_ne (by decide +kernel),← hfs2,lk_ne (by decide +kernel),← hfs1,J1m]
  have lkB:fs4.lookup ("bottom":Str)=some (.ref pb):=by rw [← hfs4,lk_ne (by decide +kernel),← hfs3,lk_ne (by decide +kernel),← hfs2,J1m]
  have lkL:fs4.lookup ("lengths":Str)=some (.ref pl):=by rw [← hfs4,lk_ne (by decide +kernel),← hfs3,J1m]
  have lkU:fs4.lookup ("turned":Str)=some (.ref pu):=by rw [← hfs4,J1m]
  refine ⟨_,rfl,_,rfl,x,CR,dx,fs4,_,rfl,hx8,TR.cl,TR.nT,lkT,CR,x,pt,dx,pl,fs4,r.ls,r.top,rfl,hx8,TR.cl,TR.nL,lkL,hpl8,hpt8,hlt,hn,fun H9 s9=>?_⟩
  refine ⟨_,rfl,x,CR,dx,fs4,rfl,s9 _ _ hx8,TR.cl,TR.nZ,(by omega),?_⟩
  have kz:KeepX x H8 (upd H9 x (.ins CR dx (putF ("size":Str) (.int (lenOf r.ls r.top)) fs4))):=(KeepX.of s9).trans KeepX.upd
  refine k _ ⟨dx,_,pt,pb,pl,pu,J4,⟨?_,?_,?_,?_,J1m⟩,kz _ _ hpt8 ptx,kz _ _ hpb8 pbx,kz _ _ hpl8 plx,kz _ _ hpu8 pux⟩ (k8.trans kz)
  ·rw [lk_ne (by decide +kernel),lkT]
  ·rw [lk_ne (by decide +kernel),lkB]
  ·rw [lk_ne (by decide +kernel),lkL]
  ·rw [lk_ne (by decide +kernel),lkU]
end
section
variable {P:Program} {w:World} {K:PySem.W.Frag} {mg:Str→Option Value} {base:Heap}
abbrev J3h (ls:List Int) (os:List Nat) (ts:List Bool):Rst:=⟨List.range ls.length,os,ls,ts⟩
def J7e (C CR:Addr):Sp:=fun vs H Q _=>∃ (x:Addr) (ls:List Int) (os:List Nat) (ts:List Bool),vs=[.ref x]∧LineAt C H x ls os ts∧ls.length≤24∧∀ p H',Same H H'→RestAt CR H' p (J3h ls os ts)→Q (.ref p) H'
theorem scRestOf:FnScope ["line"] ["line"] (J2 J54):=⟨rfl,rfl,rfl,by decide +kernel,rfl,by decide +kernel,by decide +kernel⟩
theorem ok_restof {f fI C CR:Addr} {fd fdI:FuncData} (F:Fun K "rest_of" "rest_of" J54 f fd) (T:TxtR mg) (TC:TxtC K mg C)
  (M:Mk K CR fI) (GI:FnOk P w K mg base CX0 2 fI fdI ["self","top","bottom","lengths","turned"] (J3l CR)) (bI:Binds K fdI ["self","top","bottom","lengths","turned"] []) (mgR:mg "Rest"=some (.ref CR)) :
  FnOk P w K mg base CX0 4 f fd ["line"] (J7e C CR):=by
 refine F.ok scRestOf (fun vs H Q E h=>?_) (fun cdv A outer s H vs Q E hr h=>?_)
 ·obtain ⟨x,ls,os,ts,rfl,_⟩:=h
  rfl
 ·obtain ⟨x,ls,os,ts,rfl,L,hn,k⟩:=h
  obtain ⟨dx,fl,pl,po,pt,ps,pd,h0,⟨k1,k2,k3,k4,k5,k6⟩,e1,e2,e3,e4,e5⟩:=L.ex
  refine ⟨_,J9 (Jl (J1f M GI hr rfl mgR bI .nil pass0 (J0 (Jk (J27 rfl) (by rfl) T.list PyProof.Rows.boot_list (J0 (Jk J6j (by rfl) T.range PyProof.Rows.boot_range (J0 (Jy Ju (by rfl) T.len PySem.boot_len (J0 (Jh (pv 0) rfl) J6)) J6)) J6))
   (J0 (Jh (pv 0) rfl) (J0 (Jh (pv 0) rfl) (J0 (Jh (pv 0) rfl) J6)))))),?_⟩
  refine ⟨_,rfl,x,C,dx,fl,_,rfl,h0,TC.cl,TC.nL,k1,pl,_,rfl,.inr (SqT.of e1),_,rfl,fun r hr'=>⟨r,_,rfl,J4,(by rw [J25];omega),fun l hl=>?_⟩⟩
  have s8:Same H (upd (upd H r (.rng 0 ((iV ls).length:Nat))) l (.lst (((List.range (iV ls).length).map fun (i:Nat)=>(i:Int)).map V.int))):=(J8 hr').trans (J8 hl)
  have hl8:(upd (upd H r (.rng 0 ((iV ls).length:Nat))) l (.lst (((List.range (iV ls).length).map fun (i:Nat)=>(i:Int)).map V.int))) l=some (.lst (nV (List.range ls.length))):=by rw [J4,J25];rfl
  generalize (upd (upd H r (.rng 0 ((iV ls).length:Nat))) l (.lst (((List.range (iV ls).length).map fun (i:Nat)=>(i:Int)).map V.int)))=H8 at *
  refine ⟨_,rfl,x,C,dx,fl,_,rfl,s8 _ _ h0,TC.cl,TC.nO,k2,_,rfl,x,C,dx,fl,_,rfl,s8 _ _ h0,TC.cl,TC.nL,k1,_,rfl,x,C,dx,fl,_,rfl,s8 _ _ h0,TC.cl,TC.nT,k3,fun y dy hy hdy hne=>?_⟩
  have s9:Same H8 (upd (upd H8 dy (.own y)) y (.ins CR dy [])):=(J8 hdy).trans (J8 (by rw [Jc (Ne.symm hne)];exact hy))
  refine ⟨y,dy,l,po,pl,pt,J3h ls os ts,rfl,J4,.inl (s9 _ _ hl8),.inr (s9 _ _ (s8 _ _ e2)),.inr (s9 _ _ (s8 _ _ e1)),.inr (s9 _ _ (s8 _ _ e3)),fun j hj=>List.mem_range.mp hj,by rw [List.length_range];exact hn,fun H' R kp=>⟨rfl,k y H' (fun b u e=>?_) R⟩⟩
  exact kp b u (s9 _ _ (s8 _ _ e)) (Ja (s8 _ _ e) hy)
end
end R25
namespace R25
open PySem L2 Rl
section
variable {P:Program} {w:World} {K:PySem.W.Frag} {mg:Str→Option Value} {base:Heap}
inductive Kd where
 | ho | ev | ov | un | os | us
 deriving DecidableEq
def kd:Stp→Kd
 | .home _=>.ho | .even _ _=>.ev | .over _ _=>.ov | .under _ _=>.un | .overs _ _=>.os | .unders _ _=>.us
def loseV:Stp→V
 | .even _ b=>.int (b:Nat) | .over _ b=>.int (b:Nat) | .under _ b=>.int (b:Nat) | _=>.non
def stF (s:Stp):List (Str × V):=putF ("times":Str) (.int s.times) (putF ("loser":Str) (loseV s) (putF ("winner":Str) (.int (s.winner:Nat)) []))
theorem stF_w (s:Stp):(stF s).lookup ("winner":Str)=some (.int (s.winner:Nat)):=by unfold stF;rw [lk_ne (by decide +kernel),lk_ne (by decide +kernel),J1m]
theorem stF_l (s:Stp):(stF s).lookup ("loser":Str)=some (loseV s):=by unfold stF;rw [lk_ne (by decide +kernel),J1m]
theorem stF_t (s:Stp):(stF s).lookup ("times":Str)=some (.int s.times):=by unfold stF;rw [J1m]
theorem stF_no (s:Stp) {m:Str} (h1:¬ m=("times":Str)) (h2:¬ m=("loser":Str)) (h3:¬ m=("winner":Str)):(stF s).lookup m=none:=by
 unfold stF
 rw [lk_ne h1,lk_ne h2,lk_ne h3];rfl
def StepAt (cs:Kd→Addr) (H:Hp) (p:Addr) (s:Stp):Prop:=∃ dx,H p=some (.ins (cs (kd s)) dx (stF s))
theorem StepAt.same {cs:Kd→Addr} {H H':Hp} {p:Addr} {s:Stp} (h:StepAt cs H p s) (e:Same H H'):StepAt cs H' p s:=let ⟨dx,q⟩:=h;⟨dx,e _ _ q⟩
structure TxtS (K:PySem.W.Frag) (cs:Kd→Addr):Prop where
 cl:∀ k,Cls K (cs k)
 nW:∀ k,NoAttr K (cs k) "winner"
 nL:∀ k,NoAttr K (cs k) "loser"
 nT:∀ k,NoAttr K (cs k) "times"
def J48 (cs:Kd→Addr):Sp:=fun vs H Q _=>∃ (x dx:Addr) (k:Kd) (a b c:V),vs=[.ref x,a,b,c]∧H x=some (.ins (cs k) dx [])∧Q .non (upd H x (.ins (cs k) dx (putF ("times":Str) c (putF ("loser":Str) b (putF ("winner":Str) a [])))))
theorem scSInit:FnScope ["self","winner","loser","times"] ["self","winner","loser","times"] (J2 J53):=⟨rfl,rfl,rfl,by decide +kernel,rfl,by decide +kernel,by decide +kernel⟩
theorem ok_sinit {f:Addr} {fd:FuncData} {cs:Kd→Addr} (F:Fun K "__init__" "Step.__init__" J53 f fd) (TS:TxtS K cs):FnOk P w K mg base CX0 1 f fd ["self","winner","loser","times"] (J48 cs):=by
 refine F.ok scSInit (fun vs H Q E h=>?_) (fun cdv A outer s H vs Q E hr h=>?_)
 ·obtain ⟨x,dx,k,a,b,c,rfl,_⟩:=h
  rfl
 ·obtain ⟨x,dx,k,a,b,c,rfl,hx,q⟩:=h
  refine ⟨_,J3 (J2f (pv 0) (pv 1) rfl) (J3 (J2f (pv 0) (pv 2) rfl) (J9 (J2f (pv 0) (pv 3) rfl))),?_⟩
  have l1:(putF ("winner":Str) a []).length≤1:=Jr ..
  have l2:(putF ("loser":Str) b (putF ("winner":Str) a [])).length≤2:=by have:=Jr ("loser":Str) b (putF ("winner":Str) a []);omega
  refine ⟨_,rfl,_,rfl,x,cs k,dx,[],rfl,hx,TS.cl k,TS.nW k,(by show 0 < 1000;decide),?_⟩
  refine ⟨_,rfl,_,rfl,x,cs k,dx,_,rfl,J4,TS.cl k,TS.nL k,(by omega),?_⟩
  rw [upd_upd]
  refine ⟨_,rfl,_,rfl,x,cs k,dx,_,rfl,J4,TS.cl k,TS.nT k,(by omega),?_⟩
  rw [upd_upd]
  exact q
def spMk (cs:Kd→Addr) (args:List V→Stp→Prop):Sp:=fun vs H Q _=>∃ (x dx:Addr) (us:List V) (s:Stp),vs=.ref x :: us∧args us s∧H x=some (.ins (cs (kd s)) dx [])∧Q .non (upd H x (.ins (cs (kd s)) dx (stF s)))
def aHo (us:List V) (s:Stp):Prop:=∃ a:Nat,us=[.int (a:Nat)]∧s=.home a
def aEv (us:List V) (s:Stp):Prop:=∃ a b:Nat,us=[.int (a:Nat),.int (b:Nat)]∧s=.even a b
def aOv (us:List V) (s:Stp):Prop:=∃ a b:Nat,us=[.int (a:Nat),.int (b:Nat)]∧s=.over a b
def aUn (us:List V) (s:Stp):Prop:=∃ a b:Nat,us=[.int (a:Nat),.int (b:Nat)]∧s=.under a b
def aOs (us:List V) (s:Stp):Prop:=∃ (a:Nat) (t:Int),us=[.int (a:Nat),.int t]∧s=.overs a t
def aUs (us:List V) (s:Stp):Prop:=∃ (a:Nat) (t:Int),us=[.int (a:Nat),.int t]∧s=.unders a t
theorem scHoInit:FnScope ["self","winner"] ["self","winner"] (J2 J5d):=⟨rfl,rfl,rfl,by decide +kernel,rfl,by decide +kernel,by decide +kernel⟩
theorem ok_hoinit {f fS CS:Addr} {fd fdS:FuncData} {cs:Kd→Addr} (F:Fun K "__init__" "Home.__init__" J5d f fd) (B:BaseM K CS "__init__" fS) (mS:mg "Step"=some (.ref CS)) (GS:FnOk P w K mg base CX0 1 fS fdS ["self","winner","loser","times"] (J48 cs)) (bS:Binds K fdS ["self","winner","loser","times"] []) :
  FnOk P w K mg base CX0 2 f fd ["self","winner"] (spMk cs aHo):=by
 refine F.ok scHoInit (fun vs H Q E h=>?_) (fun cdv A outer s H vs Q E hr h=>?_)
 ·obtain ⟨x,dx,us,s,rfl,⟨a,rfl,rfl⟩,_⟩:=h
  rfl
 ·obtain ⟨x,dx,us,s,rfl,⟨a,rfl,rfl⟩,hx,q⟩:=h
  refine ⟨_,J9 (J12 (J5m B rfl mS GS hr bS .nil pass0 (J0 (pv 0) (J0 (pv 1) (J0 J65 (J0 Jb J6)))))),?_⟩
  exact ⟨_,rfl,_,rfl,x,dx,.ho,_,_,_,rfl,hx,q⟩
theorem scEvInit:FnScope ["self","winner","loser"] ["self","winner","loser"] (J2 J5g):=⟨rfl,rfl,rfl,by decide +kernel,rfl,by decide +kernel,by decide +kernel⟩
theorem ok_evinit {f fS CS:Addr} {fd fdS:FuncData} {cs:Kd→Addr} (F:Fun K "__init__" "Even.__init__" J5g f fd) (B:BaseM K CS "__init__" fS) (mS:mg "Step"=some (.ref CS)) (GS:FnOk P w K mg base CX0 1 fS fdS ["self","winner","loser","times"] (J48 cs)) (bS:Binds K fdS ["self","winner","loser","times"] []) :
  FnOk P w K mg base CX0 2 f fd ["self","winner","loser"] (spMk cs aEv):=by
 refine F.ok scEvInit (fun vs H Q E h=>?_) (fun cdv A outer s H vs Q E hr h=>?_)
 ·obtain ⟨x,dx,us,s,rfl,⟨a,b,rfl,rfl⟩,_⟩:=h
  rfl
 ·obtain ⟨x,dx,us,s,rfl,⟨a,b,rfl,rfl⟩,hx,q⟩:=h
  refine ⟨_,J9 (J12 (J5m B rfl mS GS hr bS .nil pass0 (J0 (pv 0) (J0 (pv 1) (J0 (pv 2) (J0 Jb J6)))))),?_⟩
  exact ⟨_,rfl,_,rfl,_,rfl,x,dx,.ev,_,_,_,rfl,hx,q⟩
theorem scOvInit:FnScope ["self","winner","loser"] ["self","winner","loser"] (J2 J57):=⟨rfl,rfl,rfl,by decide +kernel,rfl,by decide +kernel,by decide +kernel⟩
theorem ok_ovinit {f fS CS:Addr} {fd fdS:FuncData} {cs:Kd→Addr} (F:Fun K "__init__" "Over.__init__" J57 f fd) (B:BaseM K CS "__init__" fS) (mS:mg "Step"=some (.ref CS)) (GS:FnOk P w K mg base CX0 1 fS fdS ["self","winner","loser","times"] (J48 cs)) (bS:Binds K fdS ["self","winner","loser","times"] []) :
  FnOk P w K mg base CX0 2 f fd ["self","winner","loser"] (spMk cs aOv):=by
 refine F.ok scOvInit (fun vs H Q E h=>?_) (fun cdv A outer s H vs Q E hr h=>?_)
 ·obtain ⟨x,dx,us,s,rfl,⟨a,b,rfl,rfl⟩,_⟩:=h
  rfl
 ·obtain ⟨x,dx,us,s,rfl,⟨a,b,rfl,rfl⟩,hx,q⟩:=h
  refine ⟨_,J9 (J12 (J5m B rfl mS GS hr bS .nil pass0 (J0 (pv 0) (J0 (pv 1) (J0 (pv 2) (J0 Jb J6)))))),?_⟩
  exact ⟨_,rfl,_,rfl,_,rfl,x,dx,.ov,_,_,_,rfl,hx,q⟩
theorem scUnInit:FnScope ["self","winner","loser"] ["self","winner","loser"] (J2 J51):=⟨rfl,rfl,rfl,by decide +kernel,rfl,by decide +kernel,by decide +kernel⟩
theorem ok_uninit {f fS CS:Addr} {fd fdS:FuncData} {cs:Kd→Addr} (F:Fun K "__init__" "Under.__init__" J51 f fd) (B:BaseM K CS "__init__" fS) (mS:mg "Step"=some (.ref CS)) (GS:FnOk P w K mg base CX0 1 fS fdS ["self","winner","loser","times"] (J48 cs)) (bS:Binds K fdS ["self","winner","loser","times"] []) :
  FnOk P w K mg base CX0 2 f fd ["self","winner","loser"] (spMk cs aUn):=by
 refine F.ok scUnInit (fun vs H Q E h=>?_) (fun cdv A outer s H vs Q E hr h=>?_)
 ·obtain ⟨x,dx,us,s,rfl,⟨a,b,rfl,rfl⟩,_⟩:=h
  rfl
 ·obtain ⟨x,dx,us,s,rfl,⟨a,b,rfl,rfl⟩,hx,q⟩:=h
  refine ⟨_,J9 (J12 (J5m B rfl mS GS hr bS .nil pass0 (J0 (pv 0) (J0 (pv 1) (J0 (pv 2) (J0 Jb J6)))))),?_⟩
  exact ⟨_,rfl,_,rfl,_,rfl,x,dx,.un,_,_,_,rfl,hx,q⟩
theorem scOsInit:FnScope ["self","winner","times"] ["self","winner","times"] (J2 J5a):=⟨rfl,rfl,rfl,by decide +kernel,rfl,by decide +kernel,by decide +kernel⟩
theorem ok_osinit {f fS CS:Addr} {fd fdS:FuncData} {cs:Kd→Addr} (F:Fun K "__init__" "Overs.__init__" J5a f fd) (B:BaseM K CS "__init__" fS) (mS:mg "Step"=some (.ref CS)) (GS:FnOk P w K mg base CX0 1 fS fdS ["self","winner","loser","times"] (J48 cs)) (bS:Binds K fdS ["self","winner","loser","times"] []) :
  FnOk P w K mg base CX0 2 f fd ["self","winner","times"] (spMk cs aOs):=by
 refine F.ok scOsInit (fun vs H Q E h=>?_) (fun cdv A outer s H vs Q E hr h=>?_)
 ·obtain ⟨x,dx,us,s,rfl,⟨a,b,rfl,rfl⟩,_⟩:=h
  rfl
 ·obtain ⟨x,dx,us,s,rfl,⟨a,b,rfl,rfl⟩,hx,q⟩:=h
  refine ⟨_,J9 (J12 (J5m B rfl mS GS hr bS .nil pass0 (J0 (pv 0) (J0 (pv 1) (J0 J65 (J0 (pv 2) J6)))))),?_⟩
  exact ⟨_,rfl,_,rfl,_,rfl,x,dx,.os,_,_,_,rfl,hx,q⟩
theorem scUsInit:FnScope ["self","winner","times"] ["self","winner","times"] (J2 J4y):=⟨rfl,rfl,rfl,by decide +kernel,rfl,by decide +kernel,by decide +kernel⟩
theorem ok_usinit {f fS CS:Addr} {fd fdS:FuncData} {cs:Kd→Addr} (F:Fun K "__init__" "Unders.__init__" J4y f fd) (B:BaseM K CS "__init__" fS) (mS:mg "Step"=some (.ref CS)) (GS:FnOk P w K mg base CX0 1 fS fdS ["self","winner","loser","times"] (J48 cs)) (bS:Binds K fdS ["self","winner","loser","times"] []) :
  FnOk P w K mg base CX0 2 f fd ["self","winner","times"] (spMk cs aUs):=by
 refine F.ok scUsInit (fun vs H Q E h=>?_) (fun cdv A outer s H vs Q E hr h=>?_)
 ·obtain ⟨x,dx,us,s,rfl,⟨a,b,rfl,rfl⟩,_⟩:=h
  rfl
 ·obtain ⟨x,dx,us,s,rfl,⟨a,b,rfl,rfl⟩,hx,q⟩:=h
  refine ⟨_,J9 (J12 (J5m B rfl mS GS hr bS .nil pass0 (J0 (pv 0) (J0 (pv 1) (J0 J65 (J0 (pv 2) J6)))))),?_⟩
  exact ⟨_,rfl,_,rfl,_,rfl,x,dx,.us,_,_,_,rfl,hx,q⟩
def wordS:Kd→Str
 | .ho=>"home" | .ev=>"even" | .ov=>"over" | .un=>"under" | .os=>"overs" | .us=>"unders"
def J5z (k:Kd):Sp:=fun vs H Q _=>∃ x:Addr,vs=[.ref x]∧Q (.str (wordS k)) H
theorem scHoWord:FnScope ["self"] ["self"] (J2 J5c):=⟨rfl,rfl,rfl,by decide +kernel,rfl,by decide +kernel,by decide +kernel⟩
theorem ok_howord {f:Addr} {fd:FuncData} (F:Fun K "word" "Home.word" J5c f fd):FnOk P w K mg base CX0 1 f fd ["self"] (J5z .ho):=by
 refine F.ok scHoWord (fun vs H Q E h=>?_) (fun cdv A outer s H vs Q E hr h=>?_)
 ·obtain ⟨x,rfl,_⟩:=h
  rfl
 ·obtain ⟨x,rfl,q⟩:=h
  exact ⟨_,J9 (Jl J1k),q⟩
theorem scEvWord:FnScope ["self"] ["self"] (J2 J5f):=⟨rfl,rfl,rfl,by decide +kernel,rfl,by decide +kernel,by decide +kernel⟩
theorem ok_evword {f:Addr} {fd:FuncData} (F:Fun K "word" "Even.word" J5f f fd):FnOk P w K mg base CX0 1 f fd ["self"] (J5z .ev):=by
 refine F.ok scEvWord (fun vs H Q E h=>?_) (fun cdv A outer s H vs Q E hr h=>?_)
 ·obtain ⟨x,rfl,_⟩:=h
  rfl
 ·obtain ⟨x,rfl,q⟩:=h
  exact ⟨_,J9 (Jl J1k),q⟩
theorem scOvWord:FnScope ["self"] ["self"] (J2 J56):=⟨rfl,rfl,rfl,by decide +kernel,rfl,by decide +kernel,by decide +kernel⟩
theorem ok_ovword {f:Addr} {fd:FuncData} (F:Fun K "word" "Over.word" J56 f fd):FnOk P w K mg base CX0 1 f fd ["self"] (J5z .ov):=by
 refine F.ok scOvWord (fun vs H Q E h=>?_) (fun cdv A outer s H vs Q E hr h=>?_)
 ·obtain ⟨x,rfl,_⟩:=h
  rfl
 ·obtain ⟨x,rfl,q⟩:=h
  exact ⟨_,J9 (Jl J1k),q⟩
theorem scUnWord:FnScope ["self"] ["self"] (J2 J50):=⟨rfl,rfl,rfl,by decide +kernel,rfl,by decide +kernel,by decide +kernel⟩
theorem ok_unword {f:Addr} {fd:FuncData} (F:Fun K "word" "Under.word" J50 f fd):FnOk P w K mg base CX0 1 f fd ["self"] (J5z .un):=by
 refine F.ok scUnWord (fun vs H Q E h=>?_) (fun cdv A outer s H vs Q E hr h=>?_)
 ·obtain ⟨x,rfl,_⟩:=h
  rfl
 ·obtain ⟨x,rfl,q⟩:=h
  exact ⟨_,J9 (Jl J1k),q⟩
theorem scOsWord:FnScope ["self"] ["self"] (J2 J59):=⟨rfl,rfl,rfl,by decide +kernel,rfl,by decide +kernel,by decide +kernel⟩
theorem ok_osword {f:Addr} {fd:FuncData} (F:Fun K "word" "Overs.word" J59 f fd):FnOk P w K mg base CX0 1 f fd ["self"] (J5z .os):=by
 refine F.ok scOsWord (fun vs H Q E h=>?_) (fun cdv A outer s H vs Q E hr h=>?_)
 ·obtain ⟨x,rfl,_⟩:=h
  rfl
 ·obtain ⟨x,rfl,q⟩:=h
  exact ⟨_,J9 (Jl J1k),q⟩
theorem scUsWord:FnScope ["self"] ["self"] (J2 J4x):=⟨rfl,rfl,rfl,by decide +kernel,rfl,by decide +kernel,by decide +kernel⟩
theorem ok_usword {f:Addr} {fd:FuncData} (F:Fun K "word" "Unders.word" J4x f fd):FnOk P w K mg base CX0 1 f fd ["self"] (J5z .us):=by
 refine F.ok scUsWord (fun vs H Q E h=>?_) (fun cdv A outer s H vs Q E hr h=>?_)
 ·obtain ⟨x,rfl,_⟩:=h
  rfl
 ·obtain ⟨x,rfl,q⟩:=h
  exact ⟨_,J9 (Jl J1k),q⟩
theorem J4i (row:List Nat) (a:Nat):(natI row).idxOf (a:Int)=row.idxOf a:=by
 unfold natI
 induction row with
 | nil=>rfl
 | cons x r ih =>
  rw [List.map_cons,List.idxOf_cons,List.idxOf_cons,ih]
  have e:((x:Int) == (a:Int))=(x == a):=by
   rw [Bool.eq_iff_iff,beq_iff_eq,beq_iff_eq]
   exact Int.ofNat_inj
  rw [e]
theorem J3n {row:List Nat} {a:Nat} (h:a∈row):(a:Int)∈natI row:=List.mem_map.mpr ⟨a,h,rfl⟩
theorem cut_nat (row:List Nat) (n:Nat) (h:n≤row.length):cutV (nV row) (some (n:Int)) none=nV (row.drop n):=by
 unfold cutV
 rw [J3b,HT.sIx_nat,HT.sIx_none,Nat.min_eq_left h,nV_eq,nV_eq,List.map_drop,List.take_of_length_le (by simp)]
def J45:Sp:=fun vs H Q _=>∃ (q:Addr) (row:List Nat) (a:Nat),vs=[.ref q,.int (a:Nat)]∧H q=some (.tup (nV row))∧a∈row∧∀ p H',Same H H'→H' p=some (.tup (nV (J1 row a)))→Q (.ref p) H'
theorem scBehindL:FnScope ["row","letter"] ["row","letter"] (J2 J3x):=⟨rfl,rfl,rfl,by decide +kernel,rfl,by decide +kernel,by decide +kernel⟩
theorem ok_behindL {f:Addr} {fd:FuncData} (F:Fun K "letters_behind" "letters_behind" J3x f fd):FnOk P w K mg base CX0 1 f fd ["row","letter"] J45:=by
 refine F.ok scBehindL (fun vs H Q E h=>?_) (fun cdv A outer s H vs Q E hr h=>?_)
 ·obtain ⟨q,row,a,rfl,_⟩:=h
  rfl
 ·obtain ⟨q,row,a,rfl,hq,ha,k⟩:=h
  refine ⟨_,J9 (Jl (J3e sl_tup (pv 0) (J4b (pe_op J2i (pe_bmT PySem.F.slot_tuple_index PySem.F.type_tuple_index mt_indexT (pv 0) (J0 (pv 1) J6)) Jb)) J4c)),?_⟩
  have h1:row.idxOf a < row.length:=List.idxOf_lt_length_iff.mpr ha
  have e:(((natI row).idxOf (a:Int):Nat):Int) + 1=((row.idxOf a + 1:Nat):Int):=by rw [J4i];omega
  refine ⟨_,rfl,_,rfl,⟨q,_,rfl,hq⟩,_,rfl,q,natI row,(a:Int),rfl,rfl,hq,J3n ha,_,_,rfl,rfl,_,rfl,q,nV row,rfl,SqT.of hq,?_,fun p hp=>k p _ (J8 hp) ?_⟩
  ·rintro ⟨z,_⟩
   have z:HT.sIx (nV row).length 0 (some ((((natI row).idxOf (a:Int):Nat):Int) + 1))=0:=z
   rw [e,HT.sIx_nat,J3b] at z
   omega
  ·rw [J4]
   show some (HO.tup (cutV (nV row) (some ((((natI row).idxOf (a:Int):Nat):Int) + 1)) none))=_
   rw [e,cut_nat row _ h1];rfl
def J23 (cs:Kd→Addr) (CR:Addr) (k:Kd):Sp:=fun vs H Q _=>∃ (x y:Addr) (s:Stp) (r:Rst),vs=[.ref x,.ref y]∧kd s=k∧StepAt cs H x s∧RestAt CR H y r∧s.winner∈r.top∧s.winner∈r.bot∧∀ p H',Same H H'→H' p=some (.tup (nV (s.losers r)))→Q (.ref p) H'
theorem scStLosers:FnScope ["self","rest"] ["self","rest"] (J2 J2v):=⟨rfl,rfl,rfl,by decide +kernel,rfl,by decide +kernel,by decide +kernel⟩
theorem J40 {f CR:Addr} {fd:FuncData} {cs:Kd→Addr} (F:Fun K "losers" "Step.losers" J2v f fd) (TS:TxtS K cs) {k:Kd} (hk:k=.ev∨k=.ov∨k=.un):FnOk P w K mg base CX0 2 f fd ["self","rest"] (J23 cs CR k):=by
 refine F.ok scStLosers (fun vs H Q E h=>?_) (fun cdv A outer s H vs Q E hr h=>?_)
 ·obtain ⟨x,y,s,r,rfl,_⟩:=h
  rfl
 ·obtain ⟨x,y,s,r,rfl,hs,⟨dx,hx⟩,R,_,_,q⟩:=h
  obtain ⟨b,hb,hl⟩:∃ b:Nat,loseV s=.int (b:Nat)∧s.losers r=[b]:=by
   cases s with
   | even a b=>exact ⟨b,rfl,rfl⟩
   | over a b=>exact ⟨b,rfl,rfl⟩
   | under a b=>exact ⟨b,rfl,rfl⟩
   | home a=>subst hs;rcases hk with q | q | q <;> cases q
   | overs a t=>subst hs;rcases hk with q | q | q <;> cases q
   | unders a t=>subst hs;rcases hk with q | q | q <;> cases q
  refine ⟨_,J9 (Jl (J2m (J0 (Jh (pv 0) rfl) J6))),?_⟩
  refine ⟨_,rfl,x,cs (kd s),dx,stF s,_,rfl,hx,TS.cl _,TS.nL _,stF_l s,(by show 1≤sizeLine;decide),fun p hp=>q p _ (J8 hp) ?_⟩
  rw [J4,hb,hl];rfl
theorem scHoLosers:FnScope ["self","rest"] ["self","rest"] (J2 J2z):=⟨rfl,rfl,rfl,by decide +kernel,rfl,by decide +kernel,by decide +kernel⟩
theorem ok_holosers {f CR:Addr} {fd:FuncData} {cs:Kd→Addr} (F:Fun K "losers" "Home.losers" J2z f fd):FnOk P w K mg base CX0 2 f fd ["self","rest"] (J23 cs CR .ho):=by
 refine F.ok scHoLosers (fun vs H Q E h=>?_) (fun cdv A outer s H vs Q E hr h=>?_)
 ·obtain ⟨x,y,s,r,rfl,_⟩:=h
  rfl
 ·obtain ⟨x,y,s,r,rfl,hs,_,R,_,_,q⟩:=h
  cases s with
  | home a=>exact ⟨_,J9 (Jl (J2m J6)),Nat.zero_le _,fun p hp=>q p _ (J8 hp) J4⟩
  | even a b=>cases hs
  | over a b=>cases hs
  | under a b=>cases hs
  | overs a t=>cases hs
  | unders a t=>cases hs
theorem scOsLosers:FnScope ["self","rest"] ["self","rest"] (J2 J2x):=⟨rfl,rfl,rfl,by decide +kernel,rfl,by decide +kernel,by decide +kernel⟩
theorem ok_oslosers {f fB CR:Addr} {fd fdB:FuncData} {cs:Kd→Addr} (F:Fun K "losers" "Overs.losers" J2x f fd) (TS:TxtS K cs) (TR:TxtRest K CR)
  (GB:FnOk P w K mg base CX0 1 fB fdB ["row","letter"] J45) (bB:Binds K fdB ["row","letter"] []) (mB:mg "letters_behind"=some (.ref fB)) (kB:PySem.W.keepIn K (.ref fB)=true):FnOk P w K mg base CX0 2 f fd ["self","rest"] (J23 cs CR .os):=by
 refine F.ok scOsLosers (fun vs H Q E h=>?_) (fun cdv A outer s H vs Q E hr h=>?_)
 ·obtain ⟨x,y,s,r,rfl,_⟩:=h
  rfl
 ·obtain ⟨x,y,s,r,rfl,hs,⟨dx,hx⟩,R,hT,hB,q⟩:=h
  obtain ⟨dr,fr,pt,pb,pl,pu,h0,⟨k1,k2,k3,k4,k5⟩,e1,e2,e3,e4⟩:=R.ex
  have hl:s.losers r=J1 r.bot s.winner:=by
   cases s with
   | overs a t=>rfl
   | _=>cases hs
  refine ⟨_,J9 (Jl (Jd GB hr rfl mB kB bB .nil pass0 (J0 (Jh (pv 1) rfl) (J0 (Jh (pv 0) rfl) J6)))),?_⟩
  refine ⟨_,rfl,y,CR,dr,fr,_,rfl,h0,TR.cl,TR.nB,k2,_,rfl,x,cs (kd s),dx,stF s,_,rfl,hx,TS.cl _,TS.nW _,stF_w s,pb,r.bot,s.winner,rfl,e2,hB,fun p H' s' hp=>q p H' s' ?_⟩
  rw [hl];exact hp
theorem scUsLosers:FnScope ["self","rest"] ["self","rest"] (J2 J2s):=⟨rfl,rfl,rfl,by decide +kernel,rfl,by decide +kernel,by decide +kernel⟩
theorem ok_uslosers {f fB CR:Addr} {fd fdB:FuncData} {cs:Kd→Addr} (F:Fun K "losers" "Unders.losers" J2s f fd) (TS:TxtS K cs) (TR:TxtRest K CR)
  (GB:FnOk P w K mg base CX0 1 fB fdB ["row","letter"] J45) (bB:Binds K fdB ["row","letter"] []) (mB:mg "letters_behind"=some (.ref fB)) (kB:PySem.W.keepIn K (.ref fB)=true):FnOk P w K mg base CX0 2 f fd ["self","rest"] (J23 cs CR .us):=by
 refine F.ok scUsLosers (fun vs H Q E h=>?_) (fun cdv A outer s H vs Q E hr h=>?_)
 ·obtain ⟨x,y,s,r,rfl,_⟩:=h
  rfl
 ·obtain ⟨x,y,s,r,rfl,hs,⟨dx,hx⟩,R,hT,hB,q⟩:=h
  obtain ⟨dr,fr,pt,pb,pl,pu,h0,⟨k1,k2,k3,k4,k5⟩,e1,e2,e3,e4⟩:=R.ex
  have hl:s.losers r=J1 r.top s.winner:=by
   cases s with
   | unders a t=>rfl
   | _=>cases hs
  refine ⟨_,J9 (Jl (Jd GB hr rfl mB kB bB .nil pass0 (J0 (Jh (pv 1) rfl) (J0 (Jh (pv 0) rfl) J6)))),?_⟩
  refine ⟨_,rfl,y,CR,dr,fr,_,rfl,h0,TR.cl,TR.nT,k1,_,rfl,x,cs (kd s),dx,stF s,_,rfl,hx,TS.cl _,TS.nW _,stF_w s,pt,r.top,s.winner,rfl,e1,hT,fun p H' s' hp=>q p H' s' ?_⟩
  rw [hl];exact hp
end
section
variable {P:Program} {w:World} {K:PySem.W.Frag} {mg:Str→Option Value} {base:Heap}
theorem J1x {cs:Kd→Addr} {H1:Hp} {x dx:Addr} {s:Stp} (hx:H1 x=none) (hdx:H1 dx=none):StepAt cs (upd (upd (upd H1 dx (.own x)) x (.ins (cs (kd s)) dx [])) x (.ins (cs (kd s)) dx (stF s))) x s∧
  Same H1 (upd (upd (upd H1 dx (.own x)) x (.ins (cs (kd s)) dx [])) x (.ins (cs (kd s)) dx (stF s))):=by
 refine ⟨⟨dx,J4⟩,fun b u e=>?_⟩
 rw [Jc (Ja e hx),Jc (Ja e hx),Jc (Ja e hdx)]
 exact e
theorem rowFew {ls:List Int} {row:List Nat} (h:Row ls row) (hl:ls.length≤24):row.length≤24:=Nat.le_trans h.len_le hl
def J6s (CR:Addr):Sp:=fun vs H Q _=>∃ (y q:Addr) (r:Rst) (a:Nat) (row:List Nat),vs=[.ref y,.int (a:Nat),.ref q]∧RestAt CR H y r∧r.Ok∧H q=some (.tup (nV row))∧a∈row∧a < r.ls.length∧(∀ j∈row,j < r.ls.length)∧row.length≤24∧1≤lenOf r.ls (J1 row a)∧lenOf r.ls (J1 row a)≤10 ^ 30∧
 ∀ H',Same H H'→Q (.int (J10 r a row)) H'
theorem scTimes:FnScope ["rest","winner","row"] ["rest","winner","row"] (J2 sTimes):=⟨rfl,rfl,rfl,by decide +kernel,rfl,by decide +kernel,by decide +kernel⟩
theorem small_div {s:Int} (h1:1≤s) (h2:s≤10 ^ 30):CDivB 0 s:=by
 refine ⟨by omega,?_⟩
 have h3:s.natAbs≤10 ^ 30:=by omega
 exact Nat.lt_of_le_of_lt h3 (by decide)
theorem ok_times {f fL fB CR:Addr} {fd fdL fdB:FuncData} (F:Fun K "whole_times" "whole_times" sTimes f fd) (TR:TxtRest K CR)
  (GL:FnOk P w K mg base CX0 1 fL fdL ["rest","letters"] (J6u K)) (bL:Binds K fdL ["rest","letters"] []) (mL:mg "length_of"=some (.ref fL)) (kL:PySem.W.keepIn K (.ref fL)=true)
  (GB:FnOk P w K mg base CX0 1 fB fdB ["row","letter"] J45) (bB:Binds K fdB ["row","letter"] []) (mB:mg "letters_behind"=some (.ref fB)) (kB:PySem.W.keepIn K (.ref fB)=true) :
  FnOk P w K mg base CX0 2 f fd ["rest","winner","row"] (J6s CR):=by
 refine F.ok scTimes (fun vs H Q E h=>?_) (fun cdv A outer s H vs Q E hr h=>?_)
 ·obtain ⟨y,q,r,a,row,rfl,_⟩:=h
  rfl
 ·obtain ⟨y,q,r,a,row,rfl,R,ok,hq,ha,hal,hlt,hn,h1,h2,k⟩:=h
  obtain ⟨dr,fr,pt,pb,pl,pu,h0,⟨k1,k2,k3,k4,k5⟩,e1,e2,e3,e4⟩:=R.ex
  refine ⟨_,J3 (ps_if (J61 (pe_ix Jj (Jh (pv 0) rfl) (pv 1) (fun _ _=>rfl))) (J9 (Jl Jb)) Jv)
   (J9 (Jl (pe_op op_fdivB (pe_op op_sub (pe_ix Jj (Jh (pv 0) rfl) (pv 1) (fun _ _=>rfl)) Jb) (Jd GL hr rfl mL kL bL .nil pass0 (J0 (pv 0) (J0 (Jd GB hr rfl mB kB bB .nil pass0 (J0 (pv 2) (J0 (pv 1) J6))) J6)))))),?_⟩
  refine ⟨_,rfl,y,CR,dr,fr,_,rfl,h0,TR.cl,TR.nU,k4,_,rfl,pu,_,_,_,rfl,rfl,SqT.of e4,J7 (J3c (by rw [ok.len];exact hal)),_,rfl,?_⟩
  unfold J10 at k
  by_cases c:r.ts.getD a false=true
  ·refine iteBT c ?_
   have:=k H (Same.refl _)
   rw [if_pos c] at this
   exact this
  ·refine iteBF c ?_
   refine ⟨_,rfl,y,CR,dr,fr,_,rfl,h0,TR.cl,TR.nL,k3,_,rfl,pl,_,_,_,rfl,rfl,SqT.of e3,J7 (J13 hal),_,_,rfl,rfl,_,rfl,_,rfl,_,rfl,q,row,a,rfl,hq,ha,fun p H1 s1 hp=>?_⟩
   refine ⟨CR,y,p,dr,pl,fr,r.ls,J1 row a,rfl,s1 _ _ h0,TR.cl,TR.nL,k3,s1 _ _ e3,hp,fun j hj=>hlt j (Jg hj),?_,fun H2 s2=>⟨_,_,rfl,rfl,small_div h1 h2,?_⟩⟩
   ·unfold J1
    rw [List.length_drop];omega
   ·have:=k H2 (s1.trans s2)
    rw [if_neg c] at this
    exact this
def spOverS (cs:Kd→Addr) (CR:Addr):Sp:=fun vs H Q _=>∃ (y:Addr) (r:Rst) (a b:Nat),vs=[.ref y,.int (a:Nat),.int (b:Nat)]∧RestAt CR H y r∧r.Ok∧a∈r.bot∧1≤lenOf r.ls (J1 r.bot a)∧lenOf r.ls (J1 r.bot a)≤10 ^ 30∧
 ∀ p H',Same H H'→StepAt cs H' p (if 0 < J10 r a r.bot then .overs a (J10 r a r.bot) else .over a b)→Q (.ref p) H'
theorem scOverS:FnScope ["rest","winner","loser","times"] ["rest","winner","loser"] (J2 sOverS):=⟨rfl,rfl,rfl,by decide +kernel,rfl,by decide +kernel,by decide +kernel⟩
theorem ok_overs {f fT fM fO CR:Addr} {fd fdT fdM fdO:FuncData} {cs:Kd→Addr} (F:Fun K "over_step" "over_step" sOverS f fd) (TR:TxtRest K CR)
  (GT:FnOk P w K mg base CX0 2 fT fdT ["rest","winner","row"] (J6s CR)) (bT:Binds K fdT ["rest","winner","row"] []) (mT:mg "whole_times"=some (.ref fT)) (kT:PySem.W.keepIn K (.ref fT)=true)
  (MM:Mk K (cs .os) fM) (GM:FnOk P w K mg base CX0 2 fM fdM ["self","winner","times"] (spMk cs aOs)) (bM:Binds K fdM ["self","winner","times"] []) (mM:mg "Overs"=some (.ref (cs .os)))
  (MO:Mk K (cs .ov) fO) (GO:FnOk P w K mg base CX0 2 fO fdO ["self","winner","loser"] (spMk cs aOv)) (bO:Binds K fdO ["self","winner","loser"] []) (mO:mg "Over"=some (.ref (cs .ov))) :
  FnOk P w K mg base CX0 4 f fd ["rest","winner","loser"] (spOverS cs CR):=by
 refine F.ok scOverS (fun vs H Q E h=>?_) (fun cdv A outer s H vs Q E hr h=>?_)
 ·obtain ⟨y,r,a,b,rfl,_⟩:=h
  rfl
 ·obtain ⟨y,r,a,b,rfl,R,ok,ha,h1,h2,k⟩:=h
  have hr2:Room 2 _:=hr.mono (by decide)
  obtain ⟨dr,fr,pt,pb,pl,pu,h0,⟨k1,k2,k3,k4,k5⟩,e1,e2,e3,e4⟩:=R.ex
  have hrow:Row r.ls r.bot:=ok.rowB
  have few:r.bot.length≤24:=rowFew hrow ok.few
  refine ⟨_,J3 (Jn (i:=3) scOverS.nd rfl (Or.inl rfl) (Jd GT hr2 rfl mT kT bT .nil pass0 (J0 (pv 0) (J0 (pv 1) (J0 (Jh (pv 0) rfl) J6)))))
   (J9 (Jl (J7p (Jo op_gt (pv 3) Jb (Jp _)) (J1f MM GM hr rfl mM bM .nil pass0 (J0 (pv 1) (J0 (pv 3) J6))) (J1f MO GO hr rfl mO bO .nil pass0 (J0 (pv 1) (J0 (pv 2) J6)))))),?_⟩
  refine ⟨_,rfl,_,rfl,_,rfl,y,CR,dr,fr,_,rfl,h0,TR.cl,TR.nB,k2,y,pb,r,a,r.bot,rfl,R,ok,e2,ha,hrow.lt a ha,hrow.lt,few,h1,h2,fun H1 s1=>?_⟩
  refine ⟨_,rfl,_,_,rfl,rfl,_,rfl,?_⟩
  by_cases c:0 < J10 r a r.bot
  ·refine iteDT c ⟨_,rfl,_,rfl,fun x dx hx hdx hne=>?_⟩
   obtain ⟨st,sm⟩:=J1x (cs:=cs) (s:=.overs a (J10 r a r.bot)) hx hdx
   refine ⟨x,dx,_,.overs a (J10 r a r.bot),rfl,⟨a,_,rfl,rfl⟩,J4,rfl,k x _ (s1.trans sm) ?_⟩
   rw [if_pos c];exact st
  ·refine iteD c ⟨_,rfl,_,rfl,fun x dx hx hdx hne=>?_⟩
   obtain ⟨st,sm⟩:=J1x (cs:=cs) (s:=.over a b) hx hdx
   refine ⟨x,dx,_,.over a b,rfl,⟨a,b,rfl,rfl⟩,J4,rfl,k x _ (s1.trans sm) ?_⟩
   rw [if_neg c];exact st
def spUnderS (cs:Kd→Addr) (CR:Addr):Sp:=fun vs H Q _=>∃ (y:Addr) (r:Rst) (a b:Nat),vs=[.ref y,.int (a:Nat),.int (b:Nat)]∧RestAt CR H y r∧r.Ok∧a∈r.top∧1≤lenOf r.ls (J1 r.top a)∧lenOf r.ls (J1 r.top a)≤10 ^ 30∧
 ∀ p H',Same H H'→StepAt cs H' p (if 0 < J10 r a r.top then .unders a (J10 r a r.top) else .under a b)→Q (.ref p) H'
theorem scUnderS:FnScope ["rest","winner","loser","times"] ["rest","winner","loser"] (J2 J4z):=⟨rfl,rfl,rfl,by decide +kernel,rfl,by decide +kernel,by decide +kernel⟩
theorem ok_unders {f fT fM fO CR:Addr} {fd fdT fdM fdO:FuncData} {cs:Kd→Addr} (F:Fun K "under_step" "under_step" J4z f fd) (TR:TxtRest K CR)
  (GT:FnOk P w K mg base CX0 2 fT fdT ["rest","winner","row"] (J6s CR)) (bT:Binds K fdT ["rest","winner","row"] []) (mT:mg "whole_times"=some (.ref fT)) (kT:PySem.W.keepIn K (.ref fT)=true)
  (MM:Mk K (cs .us) fM) (GM:FnOk P w K mg base CX0 2 fM fdM ["self","winner","times"] (spMk cs aUs)) (bM:Binds K fdM ["self","winner","times"] []) (mM:mg "Unders"=some (.ref (cs .us)))
  (MO:Mk K (cs .un) fO) (GO:FnOk P w K mg base CX0 2 fO fdO ["self","winner","loser"] (spMk cs aUn)) (bO:Binds K fdO ["self","winner","loser"] []) (mO:mg "Under"=some (.ref (cs .un))) :
  FnOk P w K mg base CX0 4 f fd ["rest","winner","loser"] (spUnderS cs CR):=by
 refine F.ok scUnderS (fun vs H Q E h=>?_) (fun cdv A outer s H vs Q E hr h=>?_)
 ·obtain ⟨y,r,a,b,rfl,_⟩:=h
  rfl
 ·obtain ⟨y,r,a,b,rfl,R,ok,ha,h1,h2,k⟩:=h
  have hr2:Room 2 _:=hr.mono (by decide)
  obtain ⟨dr,fr,pt,pb,pl,pu,h0,⟨k1,k2,k3,k4,k5⟩,e1,e2,e3,e4⟩:=R.ex
  have hrow:Row r.ls r.top:=ok.row
  have few:r.top.length≤24:=rowFew hrow ok.few
  refine ⟨_,J3 (Jn (i:=3) scUnderS.nd rfl (Or.inl rfl) (Jd GT hr2 rfl mT kT bT .nil pass0 (J0 (pv 0) (J0 (pv 1) (J0 (Jh (pv 0) rfl) J6)))))
   (J9 (Jl (J7p (Jo op_gt (pv 3) Jb (Jp _)) (J1f MM GM hr rfl mM bM .nil pass0 (J0 (pv 1) (J0 (pv 3) J6))) (J1f MO GO hr rfl mO bO .nil pass0 (J0 (pv 1) (J0 (pv 2) J6)))))),?_⟩
  refine ⟨_,rfl,_,rfl,_,rfl,y,CR,dr,fr,_,rfl,h0,TR.cl,TR.nT,k1,y,pt,r,a,r.top,rfl,R,ok,e1,ha,hrow.lt a ha,hrow.lt,few,h1,h2,fun H1 s1=>?_⟩
  refine ⟨_,rfl,_,_,rfl,rfl,_,rfl,?_⟩
  by_cases c:0 < J10 r a r.top
  ·refine iteDT c ⟨_,rfl,_,rfl,fun x dx hx hdx hne=>?_⟩
   obtain ⟨st,sm⟩:=J1x (cs:=cs) (s:=.unders a (J10 r a r.top)) hx hdx
   refine ⟨x,dx,_,.unders a (J10 r a r.top),rfl,⟨a,_,rfl,rfl⟩,J4,rfl,k x _ (s1.trans sm) ?_⟩
   rw [if_pos c];exact st
  ·refine iteD c ⟨_,rfl,_,rfl,fun x dx hx hdx hne=>?_⟩
   obtain ⟨st,sm⟩:=J1x (cs:=cs) (s:=.under a b) hx hdx
   refine ⟨x,dx,_,.under a b,rfl,⟨a,b,rfl,rfl⟩,J4,rfl,k x _ (s1.trans sm) ?_⟩
   rw [if_neg c];exact st
theorem J16 {row:List Nat} (h:row≠[]):atI (nV row) (-1)=some (V.int (row.getD (row.length - 1) 0:Nat)):=by
 have hl:=List.length_pos_iff.mpr h
 unfold atI
 have e:ixN (nV row).length (-1)=some (row.length - 1):=by
  unfold ixN
  rw [J3b,if_neg (by omega),if_pos (by omega)]
  congr 1
  omega
 rw [e]
 show (nV row)[row.length - 1]?=_
 rw [nV_at (by omega)]
def spNext (cs:Kd→Addr) (CR:Addr):Sp:=fun vs H Q _=>∃ (y:Addr) (r:Rst),vs=[.ref y]∧RestAt CR H y r∧r.Ok∧r.top≠[]∧r.size≤10 ^ 30∧∀ p H',Same H H'→StepAt cs H' p (nextN r)→Q (.ref p) H'
theorem scNext:FnScope ["rest","last_top","last_bottom"] ["rest"] (J2 sNext):=⟨rfl,rfl,rfl,by decide +kernel,rfl,by decide +kernel,by decide +kernel⟩
theorem ok_next {f fH fE fO fU CR:Addr} {fd fdH fdE fdO fdU:FuncData} {cs:Kd→Addr} (F:Fun K "next_step" "next_step" sNext f fd) (TR:TxtRest K CR)
  (MH:Mk K (cs .ho) fH) (GH:FnOk P w K mg base CX0 2 fH fdH ["self","winner"] (spMk cs aHo)) (bH:Binds K fdH ["self","winner"] []) (mH:mg "Home"=some (.ref (cs .ho)))
  (ME:Mk K (cs .ev) fE) (GE:FnOk P w K mg base CX0 2 fE fdE ["self","winner","loser"] (spMk cs aEv)) (bE:Binds K fdE ["self","winner","loser"] []) (mE:mg "Even"=some (.ref (cs .ev)))
  (GO:FnOk P w K mg base CX0 4 fO fdO ["rest","winner","loser"] (spOverS cs CR)) (bO:Binds K fdO ["rest","winner","loser"] []) (mO:mg "over_step"=some (.ref fO)) (kO:PySem.W.keepIn K (.ref fO)=true)
  (GU:FnOk P w K mg base CX0 4 fU fdU ["rest","winner","loser"] (spUnderS cs CR)) (bU:Binds K fdU ["rest","winner","loser"] []) (mU:mg "under_step"=some (.ref fU)) (kU:PySem.W.keepIn K (.ref fU)=true) :
  FnOk P w K mg base CX0 5 f fd ["rest"] (spNext cs CR):=by
 refine F.ok scNext (fun vs H Q E h=>?_) (fun cdv A outer s H vs Q E hr h=>?_)
 ·obtain ⟨y,r,rfl,_⟩:=h
  rfl
 ·obtain ⟨y,r,rfl,R,ok,ne,hz,k⟩:=h
  have hr3:Room 3 _:=hr.mono (by decide)
  obtain ⟨dr,fr,pt,pb,pl,pu,h0,⟨k1,k2,k3,k4,k5⟩,e1,e2,e3,e4⟩:=R.ex
  have mT:=ok.mT ne
  have mB:=ok.mB ne
  have neB:r.bot≠[]:=fun e=>by
   have:=ok.lens
   rw [e] at this
   exact ne (List.length_eq_zero_iff.mp this.symm)
  have lT:=ok.row.lt _ mT
  have lB:=ok.row.lt _ mB
  refine ⟨_,J3 (Jn (i:=1) scNext.nd rfl (Or.inl rfl) (pe_ix Jj (Jh (pv 0) rfl) (pe_un J2j Jb) (fun _ _=>rfl)))
   (J3 (Jn (i:=2) scNext.nd rfl (Or.inl rfl) (pe_ix Jj (Jh (pv 0) rfl) (pe_un J2j Jb) (fun _ _=>rfl)))
   (J3 (ps_if (Jo op_eq (pv 1) (pv 2) (Jp _)) (J9 (Jl (J1f MH GH hr3 rfl mH bH .nil pass0 (J0 (pv 1) J6)))) Jv)
   (J3 (ps_if (Jo op_eq (pe_ix Jj (Jh (pv 0) rfl) (pv 1) (fun _ _=>rfl)) (pe_ix Jj (Jh (pv 0) rfl) (pv 2) (fun _ _=>rfl)) (Jp _)) (J9 (Jl (J1f ME GE hr3 rfl mE bE .nil pass0 (J0 (pv 1) (J0 (pv 2) J6))))) Jv)
   (J3 (ps_if (Jo op_gt (pe_ix Jj (Jh (pv 0) rfl) (pv 1) (fun _ _=>rfl)) (pe_ix Jj (Jh (pv 0) rfl) (pv 2) (fun _ _=>rfl)) (Jp _)) (J9 (Jl (Jd GO hr rfl mO kO bO .nil pass0 (J0 (pv 0) (J0 (pv 1) (J0 (pv 2) J6)))))) Jv)
   (J9 (Jl (Jd GU hr rfl mU kU bU .nil pass0 (J0 (pv 0) (J0 (pv 2) (J0 (pv 1) J6)))))))))),?_⟩
  refine ⟨_,rfl,y,CR,dr,fr,_,rfl,h0,TR.cl,TR.nT,k1,_,rfl,pt,_,_,_,rfl,rfl,SqT.of e1,J16 ne,?_⟩
  refine ⟨_,rfl,y,CR,dr,fr,_,rfl,h0,TR.cl,TR.nB,k2,_,rfl,pb,_,_,_,rfl,rfl,SqT.of e2,J16 neB,?_⟩
  refine ⟨_,rfl,_,rfl,rfl,_,rfl,?_⟩
  unfold nextN at k
  have inj:∀ {i j:Nat},V.int (i:Nat)=V.int (j:Nat)→i=j:=fun q=>by have:=V.int.inj q;omega
  by_cases c1:lastT r=lastB r
  ·refine iteDT (congrArg (fun n:Nat=>V.int (n:Int)) c1) ⟨_,rfl,fun x dx hx hdx hne=>?_⟩
   obtain ⟨st,sm⟩:=J1x (cs:=cs) (s:=.home (lastT r)) hx hdx
   refine ⟨x,dx,_,.home (lastT r),rfl,⟨_,rfl,rfl⟩,J4,rfl,k x _ sm ?_⟩
   rw [if_pos c1];exact st
  refine iteD (fun q=>c1 (inj q)) ?_
  rw [if_neg c1] at k
  refine ⟨_,rfl,y,CR,dr,fr,_,rfl,h0,TR.cl,TR.nL,k3,_,rfl,pl,_,_,_,rfl,rfl,SqT.of e3,J7 (J13 lT),_,rfl,y,CR,dr,fr,_,rfl,h0,TR.cl,TR.nL,k3,_,rfl,pl,_,_,_,rfl,rfl,SqT.of e3,J7 (J13 lB),rfl,_,rfl,?_⟩
  by_cases c2:r.ls.getD (lastT r) 0=r.ls.getD (lastB r) 0
  ·refine iteDT (congrArg V.int c2) ⟨_,rfl,_,rfl,fun x dx hx hdx hne=>?_⟩
   obtain ⟨st,sm⟩:=J1x (cs:=cs) (s:=.even (lastT r) (lastB r)) hx hdx
   refine ⟨x,dx,_,.even (lastT r) (lastB r),rfl,⟨_,_,rfl,rfl⟩,J4,rfl,k x _ sm ?_⟩
   rw [if_pos c2];exact st
  refine iteD (J3d c2) ?_
  rw [if_neg c2] at k
  refine ⟨_,rfl,y,CR,dr,fr,_,rfl,h0,TR.cl,TR.nL,k3,_,rfl,pl,_,_,_,rfl,rfl,SqT.of e3,J7 (J13 lT),_,rfl,y,CR,dr,fr,_,rfl,h0,TR.cl,TR.nL,k3,_,rfl,pl,_,_,_,rfl,rfl,SqT.of e3,J7 (J13 lB),_,_,rfl,rfl,_,rfl,?_⟩
  have len1:∀ (row:List Nat) (a:Nat),a∈row→row.Perm r.top→row.getD (row.length - 1) 0≠a→1≤lenOf r.ls (J1 row a)∧lenOf r.ls (J1 row a)≤10 ^ 30:=fun row a ha hp hl=>by
   have hpos:∀ j∈row,1≤r.ls.getD j 0:=fun j hj=>ok.row.pos j (hp.mem_iff.mp hj)
   refine ⟨J20 (fun j hj=>hpos j (Jg hj)) (J28 ha hl),?_⟩
   have h1:lenOf r.ls row=r.size:=J1n hp
   have h2:lenOf r.ls row=lenOf r.ls (row.take (row.idxOf a + 1)) + lenOf r.ls (J1 row a):=by
    rw [← Jx]
    show _=lenOf r.ls (row.take (row.idxOf a + 1) ++ row.drop (row.idxOf a + 1))
    rw [List.take_append_drop]
   have h3:=Jw (ls:=r.ls) (os:=row.take (row.idxOf a + 1)) fun j hj=>by have:=hpos j (List.mem_of_mem_take hj);omega
   omega
  by_cases c3:r.ls.getD (lastB r) 0 < r.ls.getD (lastT r) 0
  ·rw [if_pos c3] at k
   obtain ⟨q1,q2⟩:=len1 r.bot (lastT r) (ok.perm.mem_iff.mpr mT) ok.perm (fun e=>c1 e.symm)
   exact iteDT c3 ⟨_,rfl,_,rfl,_,rfl,y,r,lastT r,lastB r,rfl,R,ok,ok.perm.mem_iff.mpr mT,q1,q2,k⟩
  ·rw [if_neg c3] at k
   obtain ⟨q1,q2⟩:=len1 r.top (lastB r) mB (List.Perm.refl _) c1
   exact iteD c3 ⟨_,rfl,_,rfl,_,rfl,y,r,lastB r,lastT r,rfl,R,ok,mB,q1,q2,k⟩
end
end R25
namespace R25
open PySem L2 Rl
section
variable {P:Program} {w:World} {K:PySem.W.Frag} {mg:Str→Option Value} {base:Heap}
def J44:Sp:=fun vs H Q _=>∃ (q:Addr) (row:List Nat) (x:Nat),vs=[.ref q,.int (x:Nat)]∧SqH H q (nV row)∧row.length≤24∧∀ p H',Same H H'→H' p=some (.lst (nV (withoutR row x)))→Q (.ref p) H'
theorem scWithout:FnScope ["row","letter"] ["row","letter"] (J2 J3t):=⟨rfl,rfl,rfl,by decide +kernel,rfl,by decide +kernel,by decide +kernel⟩
theorem notv {j x:Nat}:(!decide (V.int (j:Int)=V.int (x:Int)))=decide (j≠x):=by
 by_cases e:j=x
 ·rw [e];simp
 ·rw [decide_eq_false (J3d (by omega)),decide_eq_true e];rfl
theorem ok_without {f:Addr} {fd:FuncData} (F:Fun K "without" "without" J3t f fd):FnOk P w K mg base CX0 1 f fd ["row","letter"] J44:=by
 refine F.ok scWithout (fun vs H Q E h=>?_) (fun cdv A outer s H vs Q E hr h=>?_)
 ·obtain ⟨q,row,x,rfl,_⟩:=h
  rfl
 ·obtain ⟨q,row,x,rfl,hq,hn,k⟩:=h
  rcases hq with hq | hq
  ·refine ⟨_,J9 (Jl (pe_lc (caps:=["letter"]) (js:=[1]) rfl (J5l (pv 0)) rfl (fun C fp s H=>pts_one (Jo op_ne (pv 0) (pv 1) (Jp _))) (fun C fp s H=>pv 0)
    (by decide +kernel) (by decide +kernel) (by decide +kernel) (by intro p hp;simp only [List.mem_cons,List.not_mem_nil,or_false] at hp;rcases hp with rfl;rfl))),?_⟩
   refine ⟨_,rfl,q,rfl,⟨_,SqL.of hq⟩,fun d hd=>lc_lst (fun (j:Nat)=>V.int (j:Int)) row (fun j=>decide (j≠x)) (fun (j:Nat)=>V.int (j:Int)) (by rw [← nV_eq];exact SqL.of hq) (by omega) hd
    (fun j _ H2 Qt _ k=>⟨_,rfl,_,rfl,rfl,_,rfl,by rw [notv];exact k H2 (Same.refl _)⟩) (fun j hj H2 Qe _ s2 k=>⟨_,rfl,k _ (Same.refl _)⟩) (fun H' s' hd'=>k d H' s' (by rw [hd',nV_eq];rfl))⟩
  ·refine ⟨_,J9 (Jl (pe_lc (caps:=["letter"]) (js:=[1]) rfl (pi_tup (pv 0)) rfl (fun C fp s H=>pts_one (Jo op_ne (pv 0) (pv 1) (Jp _))) (fun C fp s H=>pv 0)
    (by decide +kernel) (by decide +kernel) (by decide +kernel) (by intro p hp;simp only [List.mem_cons,List.not_mem_nil,or_false] at hp;rcases hp with rfl;rfl))),?_⟩
   refine ⟨_,rfl,q,rfl,⟨_,SqT.of hq⟩,fun d hd=>lc_tup (fun (j:Nat)=>V.int (j:Int)) row (fun j=>decide (j≠x)) (fun (j:Nat)=>V.int (j:Int)) (by rw [← nV_eq];exact SqT.of hq) (by omega) hd
    (fun j _ H2 Qt _ k=>⟨_,rfl,_,rfl,rfl,_,rfl,by rw [notv];exact k H2 (Same.refl _)⟩) (fun j hj H2 Qe _ s2 k=>⟨_,rfl,k _ (Same.refl _)⟩) (fun H' s' hd'=>k d H' s' (by rw [hd',nV_eq];rfl))⟩
theorem J7w (row:List Nat) (n:Nat) (h:n≤row.length):cutV (nV row) none (some (n:Int))=nV (row.take n):=by
 unfold cutV
 rw [J3b,HT.sIx_nat,HT.sIx_none,Nat.min_eq_left h,nV_eq,nV_eq,List.map_take,List.drop_zero,Nat.sub_zero]
def spPut:Sp:=fun vs H Q _=>∃ (q:Addr) (row:List Nat) (w l:Nat) (ah:Bool),vs=[.ref q,.int (w:Nat),.int (l:Nat),.bl ah]∧SqH H q (nV row)∧row.length≤24∧w∈row∧w≠l∧∀ p H',Same H H'→H' p=some (.lst (nV (putR row w l ah)))→Q (.ref p) H'
theorem scPut:FnScope ["row","winner","loser","ahead","others","at"] ["row","winner","loser","ahead"] (J2 sPut):=⟨rfl,rfl,rfl,by decide +kernel,rfl,by decide +kernel,by decide +kernel⟩
theorem nV_app (xs ys:List Nat):nV (xs ++ ys)=nV xs ++ nV ys:=by rw [nV_eq,nV_eq,nV_eq,List.map_append]
theorem ok_put {f fW:Addr} {fd fdW:FuncData} (F:Fun K "put_beside" "put_beside" sPut f fd) (GW:FnOk P w K mg base CX0 1 fW fdW ["row","letter"] J44) (bW:Binds K fdW ["row","letter"] []) (mW:mg "without"=some (.ref fW)) (kW:PySem.W.keepIn K (.ref fW)=true) :
  FnOk P w K mg base CX0 2 f fd ["row","winner","loser","ahead"] spPut:=by
 refine F.ok scPut (fun vs H Q E h=>?_) (fun cdv A outer s H vs Q E hr h=>?_)
 ·obtain ⟨q,row,wi,lo,ah,rfl,_⟩:=h
  rfl
 ·obtain ⟨q,row,wi,lo,ah,rfl,hq,hn,hw,hwl,k⟩:=h
  refine ⟨_,J3 (Jn (i:=4) scPut.nd rfl (Or.inl rfl) (Jd GW hr rfl mW kW bW .nil pass0 (J0 (pv 0) (J0 (pv 2) J6))))
   (J3 (ps_cut (Jn (i:=5) scPut.nd rfl (Or.inl rfl) (J7p (J61 (pv 3)) (pe_bm PySem.F.plainAttrs_list PySem.F.slot_list_index PySem.F.type_list_index J35 (pv 4) (J0 (pv 1) J6)) (pe_op J2i (pe_bm PySem.F.plainAttrs_list PySem.F.slot_list_index PySem.F.type_list_index J35 (pv 4) (J0 (pv 1) J6)) Jb))))
   (J9 (Jl (pe_op op_cat (pe_op op_cat (J3e J4w (pv 4) J4c (J4b (pv 5))) (J2n (J0 (pv 2) J6))) (J3e J4w (pv 4) (J4b (pv 5)) J4c))))),?_⟩
  refine ⟨_,rfl,_,rfl,q,row,lo,rfl,hq,hn,fun o H1 s1 ho=>?_⟩
  have hm:wi∈withoutR row lo:=mem_without.mpr ⟨hw,hwl⟩
  have hl1:(withoutR row lo).length≤24:=Nat.le_trans (List.length_filter_le _ _) hn
  have k':∀ p H',Same H H'→H' p=some (.lst (nV ((withoutR row lo).take (if ah=true then (withoutR row lo).idxOf wi else (withoutR row lo).idxOf wi + 1) ++ [lo] ++ (withoutR row lo).drop (if ah=true then (withoutR row lo).idxOf wi else (withoutR row lo).idxOf wi + 1))))→Q (.ref p) H':=k
  generalize withoutR row lo=os at *
  have hi:os.idxOf wi < os.length:=List.idxOf_lt_length_iff.mpr hm
  have hb:∃ n:Nat,n≤os.length∧n=(if ah=true then os.idxOf wi else os.idxOf wi + 1):=by
   refine ⟨_,?_,rfl⟩
   split <;> omega
  obtain ⟨n,hn1,hn2⟩:=hb
  rw [← hn2] at k'
  refine ⟨fun σ' H'=>σ'=[some (.ref q),some (.int (wi:Nat)),some (.int (lo:Nat)),some (.bl ah),some (.ref o),some (.int (n:Nat))]∧H1=H',⟨_,rfl,_,rfl,?_⟩,?_⟩
  ·by_cases c:ah=true
   ·rw [if_pos c] at hn2
    refine iteBT c ⟨_,rfl,.inl ⟨rfl,_,SqL.of ho⟩,_,rfl,o,natI os,(wi:Int),rfl,rfl,SqL.of ho,J3n hm,?_,rfl⟩
    rw [hn2,← J4i];rfl
   ·rw [if_neg c] at hn2
    refine iteBF c ⟨_,rfl,.inl ⟨rfl,_,SqL.of ho⟩,_,rfl,o,natI os,(wi:Int),rfl,rfl,SqL.of ho,J3n hm,_,_,rfl,rfl,?_,rfl⟩
    rw [hn2,← J4i,Int.natCast_add];rfl
  rintro σ _ ⟨rfl,rfl⟩
  refine ⟨_,rfl,_,rfl,_,rfl,o,_,rfl,SqL.of ho,fun a ha=>?_⟩
  refine ⟨_,rfl,(by show 1≤sizeLine;decide),fun b hb=>?_⟩
  have sa:=J8 (o:=.lst (cutV (nV os) none (some (n:Int)))) ha
  have sb:=J8 (o:=.lst [V.int (lo:Nat)]) hb
  refine ⟨a,b,_,_,rfl,rfl,sb _ _ J4,J4,?_,fun c hc=>?_⟩
  ·rw [J7w _ _ hn1,J3b,List.length_take]
   have:=J11 (n:=min n os.length + 1) (by omega)
   show min n os.length + 1≤sizeLine
   omega
  have sc:=J8 (o:=.lst (cutV (nV os) none (some (n:Int)) ++ [V.int (lo:Nat)])) hc
  refine ⟨_,rfl,_,rfl,_,rfl,o,_,rfl,SqL.of (sc _ _ (sb _ _ (sa _ _ ho))),fun d hd=>?_⟩
  have sd:=J8 (o:=.lst (cutV (nV os) (some (n:Int)) none)) hd
  refine ⟨c,d,_,_,rfl,rfl,sd _ _ J4,J4,?_,fun e he=>k' e _ (s1.trans (sa.trans (sb.trans (sc.trans (sd.trans (J8 he)))))) ?_⟩
  ·rw [J7w _ _ hn1,cut_nat _ _ hn1,List.length_append,J3b,J3b,List.length_take,List.length_drop]
   have:=J11 (n:=min n os.length + 1 + (os.length - n)) (by omega)
   show min n os.length + 1 + (os.length - n)≤sizeLine
   omega
  ·rw [J4,J7w _ _ hn1,cut_nat _ _ hn1,nV_app,nV_app];rfl
def J3m:Sp:=fun vs H Q _=>∃ (q:Addr) (xs:List V) (j:Nat) (v:V),vs=[.ref q,.int (j:Nat),v]∧SqH H q xs∧j < xs.length∧∀ p H',Same H H'→H' p=some (.lst (xs.set j v))→Q (.ref p) H'
theorem scChanged:FnScope ["row","letter","entry","copied"] ["row","letter","entry"] (J2 J3w):=⟨rfl,rfl,rfl,by decide +kernel,rfl,by decide +kernel,by decide +kernel⟩
theorem ok_changed {f:Addr} {fd:FuncData} (F:Fun K "changed" "changed" J3w f fd) (T:TxtR mg):FnOk P w K mg base CX0 1 f fd ["row","letter","entry"] J3m:=by
 refine F.ok scChanged (fun vs H Q E h=>?_) (fun cdv A outer s H vs Q E hr h=>?_)
 ·obtain ⟨q,xs,j,v,rfl,_⟩:=h
  rfl
 ·obtain ⟨q,xs,j,v,rfl,hq,hj,k⟩:=h
  refine ⟨_,J3 (Jn (i:=3) scChanged.nd rfl (Or.inl rfl) (Jk J1s (by rfl) T.list PyProof.Rows.boot_list (J0 (pv 0) J6)))
   (J3 (ps_asg (pv 2) (pg_sub (pv 3) (pv 1) J2e)) (J9 (Jl (pv 3)))),?_⟩
  refine ⟨_,rfl,q,xs,rfl,hq.sq,fun c hc=>?_⟩
  refine ⟨_,rfl,_,rfl,_,rfl,c,xs,_,j,rfl,rfl,J4,J2h hj,?_⟩
  rw [upd_upd]
  exact ⟨_,rfl,k c _ (J8 hc) J4⟩
theorem bV_set (ts:List Bool) (j:Nat) (b:Bool):(bV ts).set j (V.bl b)=bV (ts.set j b):=by
 show (ts.map V.bl).set j (V.bl b)=(ts.set j b).map V.bl
 rw [List.map_set]
def J6t (CR:Addr):Sp:=fun vs H Q _=>∃ (y:Addr) (r:Rst) (a:Nat) (less:Int),vs=[.ref y,.int (a:Nat),.int less]∧RestAt CR H y r∧a < r.ls.length∧∀ p H',Same H H'→H' p=some (.lst (iV (r.ls.set a (r.ls.getD a 0 - less))))→Q (.ref p) H'
theorem scShort:FnScope ["rest","winner","less"] ["rest","winner","less"] (J2 sShort):=⟨rfl,rfl,rfl,by decide +kernel,rfl,by decide +kernel,by decide +kernel⟩
theorem ok_short {f fC CR:Addr} {fd fdC:FuncData} (F:Fun K "shortened" "shortened" sShort f fd) (TR:TxtRest K CR) (GC:FnOk P w K mg base CX0 1 fC fdC ["row","letter","entry"] J3m) (bC:Binds K fdC ["row","letter","entry"] []) (mC:mg "changed"=some (.ref fC)) (kC:PySem.W.keepIn K (.ref fC)=true) :
  FnOk P w K mg base CX0 2 f fd ["rest","winner","less"] (J6t CR):=by
 refine F.ok scShort (fun vs H Q E h=>?_) (fun cdv A outer s H vs Q E hr h=>?_)
 ·obtain ⟨y,r,a,less,rfl,_⟩:=h
  rfl
 ·obtain ⟨y,r,a,less,rfl,R,ha,k⟩:=h
  obtain ⟨dr,fr,pt,pb,pl,pu,h0,⟨k1,k2,k3,k4,k5⟩,e1,e2,e3,e4⟩:=R.ex
  refine ⟨_,J9 (Jl (Jd GC hr rfl mC kC bC .nil pass0 (J0 (Jh (pv 0) rfl) (J0 (pv 1) (J0 (pe_op op_sub (pe_ix Jj (Jh (pv 0) rfl) (pv 1) (fun _ _=>rfl)) (pv 2)) J6))))),?_⟩
  refine ⟨_,rfl,y,CR,dr,fr,_,rfl,h0,TR.cl,TR.nL,k3,_,rfl,_,rfl,y,CR,dr,fr,_,rfl,h0,TR.cl,TR.nL,k3,_,rfl,pl,_,_,_,rfl,rfl,SqT.of e3,J7 (J13 ha),_,rfl,_,_,rfl,rfl,pl,iV r.ls,a,_,rfl,.inr e3,by rw [J25];exact ha,fun p H' s' hp=>k p H' s' ?_⟩
  rw [hp,iV_set]
def J60 (CR:Addr):Sp:=fun vs H Q _=>∃ (y:Addr) (r:Rst) (a b:Nat),vs=[.ref y,.int (a:Nat),.int (b:Nat)]∧RestAt CR H y r∧a < r.ts.length∧b < r.ts.length∧∀ p H',Same H H'→H' p=some (.lst (bV (J22 r a b)))→Q (.ref p) H'
theorem scTurnsB:FnScope ["rest","winner","loser"] ["rest","winner","loser"] (J2 J52):=⟨rfl,rfl,rfl,by decide +kernel,rfl,by decide +kernel,by decide +kernel⟩
theorem ok_turnsB {f fC CR:Addr} {fd fdC:FuncData} (F:Fun K "turns_behind" "turns_behind" J52 f fd) (TR:TxtRest K CR) (GC:FnOk P w K mg base CX0 1 fC fdC ["row","letter","entry"] J3m) (bC:Binds K fdC ["row","letter","entry"] []) (mC:mg "changed"=some (.ref fC)) (kC:PySem.W.keepIn K (.ref fC)=true) :
  FnOk P w K mg base CX0 2 f fd ["rest","winner","loser"] (J60 CR):=by
 refine F.ok scTurnsB (fun vs H Q E h=>?_) (fun cdv A outer s H vs Q E hr h=>?_)
 ·obtain ⟨y,r,a,b,rfl,_⟩:=h
  rfl
 ·obtain ⟨y,r,a,b,rfl,R,ha,hb,k⟩:=h
  obtain ⟨dr,fr,pt,pb,pl,pu,h0,⟨k1,k2,k3,k4,k5⟩,e1,e2,e3,e4⟩:=R.ex
  refine ⟨_,J9 (Jl (Jd GC hr rfl mC kC bC .nil pass0 (J0 (Jh (pv 0) rfl) (J0 (pv 2) (J0 (J1c op_ne (pe_ix Jj (Jh (pv 0) rfl) (pv 1) (fun _ _=>rfl)) (pe_ix Jj (Jh (pv 0) rfl) (pv 2) (fun _ _=>rfl)) (Jp _)) J6))))),?_⟩
  refine ⟨_,rfl,y,CR,dr,fr,_,rfl,h0,TR.cl,TR.nU,k4,_,rfl,_,rfl,y,CR,dr,fr,_,rfl,h0,TR.cl,TR.nU,k4,_,rfl,pu,_,_,_,rfl,rfl,SqT.of e4,J7 (J3c ha),_,rfl,y,CR,dr,fr,_,rfl,h0,TR.cl,TR.nU,k4,_,rfl,pu,_,_,_,rfl,rfl,SqT.of e4,J7 (J3c hb),rfl,pu,bV r.ts,b,_,rfl,.inr e4,by rw [List.length_map];exact hb,fun p H' s' hp=>k p H' s' ?_⟩
  rw [hp]
  unfold J22
  rw [← bV_set]
  have e:(!decide (V.bl (r.ts.getD a false)=V.bl (r.ts.getD b false)))=(r.ts.getD a false != r.ts.getD b false):=by
   cases r.ts.getD a false <;> cases r.ts.getD b false <;> rfl
  rw [e]
structure Fit (s:Stp) (r:Rst):Prop where
 ok:r.Ok
 left:(s.behind r).Ok
 win:s.winner∈r.top
 lose:∀ b:Nat,loseV s=.int (b:Nat)→b∈r.top∧s.winner≠b
 few:s.times.natAbs < 2 ^ 4000
 small:r.size≤10 ^ 30
def J24 (cs:Kd→Addr) (CR:Addr) (k:Kd):Sp:=fun vs H Q _=>∃ (x y:Addr) (s:Stp) (r:Rst),vs=[.ref x,.ref y]∧kd s=k∧StepAt cs H x s∧RestAt CR H y r∧Fit s r∧∀ p H',Same H H'→RestAt CR H' p (s.behind r)→Q (.ref p) H'
theorem J33 {CR:Addr} {H:Hp} {p1 p2 p3 p4:Addr} {r:Rst} {Q:VK} (ok:r.Ok) (h1:SqH H p1 (nV r.top)) (h2:SqH H p2 (nV r.bot)) (h3:SqH H p3 (iV r.ls)) (h4:SqH H p4 (bV r.ts)) (k:∀ p H',Same H H'→RestAt CR H' p r→Q (.ref p) H') :
  ∀ x dx,H x=none→H dx=none→dx≠x→J3l CR (.ref x :: ([.ref p1,.ref p2,.ref p3,.ref p4] ++ [])) (upd (upd H dx (.own x)) x (.ins CR dx [])) (fun v H2=>v=.non∧Q (.ref x) H2) E0:=fun x dx hx hdx hne=>by
 have s0:Same H (upd (upd H dx (.own x)) x (.ins CR dx [])):=(J8 hdx).trans (J8 (by rw [Jc (Ne.symm hne)];exact hx))
 refine ⟨x,dx,p1,p2,p3,p4,r,rfl,J4,h1.same s0,h2.same s0,h3.same s0,h4.same s0,ok.row.lt,Nat.le_trans ok.row.len_le ok.few,fun H' R kp=>⟨rfl,k x H' (fun b u e=>?_) R⟩⟩
 exact kp b u (s0 _ _ e) (Ja e hx)
theorem scHoBehind:FnScope ["self","rest","top","bottom"] ["self","rest"] (J2 J30):=⟨rfl,rfl,rfl,by decide +kernel,rfl,by decide +kernel,by decide +kernel⟩
theorem ok_hobehind {f fW fC fI CR:Addr} {fd fdW fdC fdI:FuncData} {cs:Kd→Addr} (F:Fun K "behind" "Home.behind" J30 f fd) (TS:TxtS K cs) (TR:TxtRest K CR)
  (GW:FnOk P w K mg base CX0 1 fW fdW ["row","letter"] J44) (bW:Binds K fdW ["row","letter"] []) (mW:mg "without"=some (.ref fW)) (kW:PySem.W.keepIn K (.ref fW)=true)
  (GC:FnOk P w K mg base CX0 1 fC fdC ["row","letter","entry"] J3m) (bC:Binds K fdC ["row","letter","entry"] []) (mC:mg "changed"=some (.ref fC)) (kC:PySem.W.keepIn K (.ref fC)=true)
  (M:Mk K CR fI) (GI:FnOk P w K mg base CX0 2 fI fdI ["self","top","bottom","lengths","turned"] (J3l CR)) (bI:Binds K fdI ["self","top","bottom","lengths","turned"] []) (mgR:mg "Rest"=some (.ref CR)) :
  FnOk P w K mg base CX0 4 f fd ["self","rest"] (J24 cs CR .ho):=by
 refine F.ok scHoBehind (fun vs H Q E h=>?_) (fun cdv A outer s H vs Q E hr h=>?_)
 ·obtain ⟨x,y,s,r,rfl,_⟩:=h
  rfl
 ·obtain ⟨x,y,s,r,rfl,hs,⟨dx,hx⟩,R,fit,k⟩:=h
  have hr1:Room 1 _:=hr.mono (by decide)
  have hr2:Room 2 _:=hr.mono (by decide)
  have ok:=fit.ok
  have left:=fit.left
  have win:=fit.win
  have winB:=ok.perm.mem_iff.mpr win
  have few:=Nat.le_trans ok.row.len_le ok.few
  have fewB:=Nat.le_trans ok.rowB.len_le ok.few
  have lw:=ok.row.lt _ win
  obtain ⟨dr,fr,pt,pb,pl,pu,h0,⟨k1,k2,k3,k4,k5⟩,e1,e2,e3,e4⟩:=R.ex
  cases s with
  | home a =>
   have lt:a < r.ts.length:=by rw [ok.len];exact lw
   refine ⟨_,J3 (Jn (i:=2) scHoBehind.nd rfl (Or.inl rfl) (Jd GW hr1 rfl mW kW bW .nil pass0 (J0 (Jh (pv 1) rfl) (J0 (Jh (pv 0) rfl) J6))))
    (J3 (Jn (i:=3) scHoBehind.nd rfl (Or.inl rfl) (Jd GW hr1 rfl mW kW bW .nil pass0 (J0 (Jh (pv 1) rfl) (J0 (Jh (pv 0) rfl) J6))))
    (J9 (Jl (J1f M GI hr rfl mgR bI .nil pass0 (J0 (pv 2) (J0 (pv 3) (J0 (Jd GC hr1 rfl mC kC bC .nil pass0 (J0 (Jh (pv 1) rfl) (J0 (Jh (pv 0) rfl) (J0 Jb J6)))) (J0 (Jd GC hr1 rfl mC kC bC .nil pass0 (J0 (Jh (pv 1) rfl) (J0 (Jh (pv 0) rfl) (J0 pe_bl J6)))) J6)))))))),?_⟩
   refine ⟨_,rfl,y,CR,dr,fr,_,rfl,h0,TR.cl,TR.nT,k1,_,rfl,x,cs _,dx,stF _,_,rfl,hx,TS.cl _,TS.nW _,stF_w _,pt,r.top,a,rfl,.inr e1,few,fun t1 H1 s1 ht1=>?_⟩
   refine ⟨_,rfl,y,CR,dr,fr,_,rfl,s1 _ _ h0,TR.cl,TR.nB,k2,_,rfl,x,cs _,dx,stF _,_,rfl,s1 _ _ hx,TS.cl _,TS.nW _,stF_w _,pb,r.bot,a,rfl,.inr (s1 _ _ e2),fewB,fun b1 H2 s12 hb1=>?_⟩
   have s2:=s1.trans s12
   refine ⟨_,rfl,_,rfl,_,rfl,y,CR,dr,fr,_,rfl,s2 _ _ h0,TR.cl,TR.nL,k3,_,rfl,x,cs _,dx,stF _,_,rfl,s2 _ _ hx,TS.cl _,TS.nW _,stF_w _,pl,iV r.ls,a,.int 0,rfl,.inr (s2 _ _ e3),by rw [J25];exact lw,fun l1 H3 s23 hl1=>?_⟩
   have s3:=s2.trans s23
   refine ⟨_,rfl,y,CR,dr,fr,_,rfl,s3 _ _ h0,TR.cl,TR.nU,k4,_,rfl,x,cs _,dx,stF _,_,rfl,s3 _ _ hx,TS.cl _,TS.nW _,stF_w _,pu,bV r.ts,a,.bl false,rfl,.inr (s3 _ _ e4),by rw [List.length_map];exact lt,fun u1 H4 s34 hu1=>?_⟩
   exact J33 left (.inl (s34 _ _ (s23 _ _ (s12 _ _ ht1)))) (.inl (s34 _ _ (s23 _ _ hb1))) (.inl (by rw [s34 _ _ hl1,iV_set];rfl)) (.inl (by rw [hu1,bV_set];rfl)) fun p H' s' R'=>k p H' (s3.trans (s34.trans s')) R'
  | even a b=>cases hs
  | over a b=>cases hs
  | under a b=>cases hs
  | overs a t=>cases hs
  | unders a t=>cases hs
theorem scEvBehind:FnScope ["self","rest","top","bottom","turned"] ["self","rest"] (J2 J31):=⟨rfl,rfl,rfl,by decide +kernel,rfl,by decide +kernel,by decide +kernel⟩
theorem ok_evbehind {f fW fP fC fT fI CR:Addr} {fd fdW fdP fdC fdT fdI:FuncData} {cs:Kd→Addr} (F:Fun K "behind" "Even.behind" J31 f fd) (TS:TxtS K cs) (TR:TxtRest K CR)
  (GW:FnOk P w K mg base CX0 1 fW fdW ["row","letter"] J44) (bW:Binds K fdW ["row","letter"] []) (mW:mg "without"=some (.ref fW)) (kW:PySem.W.keepIn K (.ref fW)=true)
  (GP:FnOk P w K mg base CX0 2 fP fdP ["row","winner","loser","ahead"] spPut) (bP:Binds K fdP ["row","winner","loser","ahead"] []) (mP:mg "put_beside"=some (.ref fP)) (kP:PySem.W.keepIn K (.ref fP)=true)
  (GC:FnOk P w K mg base CX0 1 fC fdC ["row","letter","entry"] J3m) (bC:Binds K fdC ["row","letter","entry"] []) (mC:mg "changed"=some (.ref fC)) (kC:PySem.W.keepIn K (.ref fC)=true)
  (GT:FnOk P w K mg base CX0 2 fT fdT ["rest","winner","loser"] (J60 CR)) (bT:Binds K fdT ["rest","winner","loser"] []) (mT:mg "turns_behind"=some (.ref fT)) (kT:PySem.W.keepIn K (.ref fT)=true)
  (M:Mk K CR fI) (GI:FnOk P w K mg base CX0 2 fI fdI ["self","top","bottom","lengths","turned"] (J3l CR)) (bI:Binds K fdI ["self","top","bottom","lengths","turned"] []) (mgR:mg "Rest"=some (.ref CR)) :
  FnOk P w K mg base CX0 4 f fd ["self","rest"] (J24 cs CR .ev):=by
 refine F.ok scEvBehind (fun vs H Q E h=>?_) (fun cdv A outer s H vs Q E hr h=>?_)
 ·obtain ⟨x,y,s,r,rfl,_⟩:=h
  rfl
 ·obtain ⟨x,y,s,r,rfl,hs,⟨dx,hx⟩,R,fit,k⟩:=h
  have hr1:Room 1 _:=hr.mono (by decide)
  have hr2:Room 2 _:=hr.mono (by decide)
  have ok:=fit.ok
  have left:=fit.left
  have win:=fit.win
  have winB:=ok.perm.mem_iff.mpr win
  have few:=Nat.le_trans ok.row.len_le ok.few
  have fewB:=Nat.le_trans ok.rowB.len_le ok.few
  have lw:=ok.row.lt _ win
  obtain ⟨dr,fr,pt,pb,pl,pu,h0,⟨k1,k2,k3,k4,k5⟩,e1,e2,e3,e4⟩:=R.ex
  cases s with
  | even a b =>
   obtain ⟨lose,wl⟩:=fit.lose b rfl
   have lt:a < r.ts.length:=by rw [ok.len];exact lw
   have lb:b < r.ts.length:=by rw [ok.len];exact ok.row.lt _ lose
   refine ⟨_,J3 (Jn (i:=2) scEvBehind.nd rfl (Or.inl rfl) (Jd GW hr1 rfl mW kW bW .nil pass0 (J0 (Jh (pv 1) rfl) (J0 (Jh (pv 0) rfl) J6))))
    (J3 (Jn (i:=3) scEvBehind.nd rfl (Or.inl rfl) (Jd GW hr1 rfl mW kW bW .nil pass0 (J0 (Jd GP hr2 rfl mP kP bP .nil pass0 (J0 (Jh (pv 1) rfl) (J0 (Jh (pv 0) rfl) (J0 (Jh (pv 0) rfl) (J0 pe_bl J6))))) (J0 (Jh (pv 0) rfl) J6))))
    (J3 (Jn (i:=4) scEvBehind.nd rfl (Or.inl rfl) (Jd GC hr1 rfl mC kC bC .nil pass0 (J0 (Jd GT hr2 rfl mT kT bT .nil pass0 (J0 (pv 1) (J0 (Jh (pv 0) rfl) (J0 (Jh (pv 0) rfl) J6)))) (J0 (Jh (pv 0) rfl) (J0 pe_bl J6)))))
    (J9 (Jl (J1f M GI hr rfl mgR bI .nil pass0 (J0 (pv 2) (J0 (pv 3) (J0 (Jd GC hr1 rfl mC kC bC .nil pass0 (J0 (Jh (pv 1) rfl) (J0 (Jh (pv 0) rfl) (J0 Jb J6)))) (J0 (pv 4) J6))))))))),?_⟩
   refine ⟨_,rfl,y,CR,dr,fr,_,rfl,h0,TR.cl,TR.nT,k1,_,rfl,x,cs _,dx,stF _,_,rfl,hx,TS.cl _,TS.nW _,stF_w _,pt,r.top,a,rfl,.inr e1,few,fun t1 H1 s1 ht1=>?_⟩
   refine ⟨_,rfl,y,CR,dr,fr,_,rfl,s1 _ _ h0,TR.cl,TR.nB,k2,_,rfl,x,cs _,dx,stF _,_,rfl,s1 _ _ hx,TS.cl _,TS.nW _,stF_w _,_,rfl,x,cs _,dx,stF _,_,rfl,s1 _ _ hx,TS.cl _,TS.nL _,stF_l _,pb,r.bot,a,b,false,rfl,.inr (s1 _ _ e2),fewB,winB,wl,fun b0 H2 s12 hb0=>?_⟩
   have s2:=s1.trans s12
   have fewP:(putR r.bot a b false).length≤24:=by rw [(J1q ok.rowB.nd (ok.perm.mem_iff.mpr lose) false).length_eq];exact fewB
   refine ⟨_,rfl,x,cs _,dx,stF _,_,rfl,s2 _ _ hx,TS.cl _,TS.nW _,stF_w _,b0,_,a,rfl,.inl hb0,fewP,fun b1 H3 s23 hb1=>?_⟩
   have s3:=s2.trans s23
   refine ⟨_,rfl,_,rfl,x,cs _,dx,stF _,_,rfl,s3 _ _ hx,TS.cl _,TS.nW _,stF_w _,_,rfl,x,cs _,dx,stF _,_,rfl,s3 _ _ hx,TS.cl _,TS.nL _,stF_l _,y,r,a,b,rfl,R.same s3,lt,lb,fun u0 H4 s34 hu0=>?_⟩
   have s4:=s3.trans s34
   refine ⟨_,rfl,x,cs _,dx,stF _,_,rfl,s4 _ _ hx,TS.cl _,TS.nW _,stF_w _,u0,bV (J22 r a b),a,.bl false,rfl,.inl hu0,by rw [List.length_map,J17];exact lt,fun u1 H5 s45 hu1=>?_⟩
   have s5:=s4.trans s45
   refine ⟨_,rfl,_,rfl,_,rfl,y,CR,dr,fr,_,rfl,s5 _ _ h0,TR.cl,TR.nL,k3,_,rfl,x,cs _,dx,stF _,_,rfl,s5 _ _ hx,TS.cl _,TS.nW _,stF_w _,pl,iV r.ls,a,.int 0,rfl,.inr (s5 _ _ e3),by rw [J25];exact lw,fun l1 H6 s56 hl1=>⟨_,rfl,?_⟩⟩
   exact J33 left (.inl (s56 _ _ (s45 _ _ (s34 _ _ (s23 _ _ (s12 _ _ ht1)))))) (.inl (s56 _ _ (s45 _ _ (s34 _ _ hb1)))) (.inl (by rw [hl1,iV_set];rfl)) (.inl (by rw [s56 _ _ hu1,bV_set];rfl)) fun p H' s' R'=>k p H' (s5.trans (s56.trans s')) R'
  | home a=>cases hs
  | over a b=>cases hs
  | under a b=>cases hs
  | overs a t=>cases hs
  | unders a t=>cases hs
theorem scOvBehind:FnScope ["self","rest","bottom","lengths"] ["self","rest"] (J2 J2w):=⟨rfl,rfl,rfl,by decide +kernel,rfl,by decide +kernel,by decide +kernel⟩
theorem ok_ovbehind {f fP fS fT fI CR:Addr} {fd fdP fdS fdT fdI:FuncData} {cs:Kd→Addr} (F:Fun K "behind" "Over.behind" J2w f fd) (TS:TxtS K cs) (TR:TxtRest K CR)
  (GP:FnOk P w K mg base CX0 2 fP fdP ["row","winner","loser","ahead"] spPut) (bP:Binds K fdP ["row","winner","loser","ahead"] []) (mP:mg "put_beside"=some (.ref fP)) (kP:PySem.W.keepIn K (.ref fP)=true)
  (GS:FnOk P w K mg base CX0 2 fS fdS ["rest","winner","less"] (J6t CR)) (bS:Binds K fdS ["rest","winner","less"] []) (mS:mg "shortened"=some (.ref fS)) (kS:PySem.W.keepIn K (.ref fS)=true)
  (GT:FnOk P w K mg base CX0 2 fT fdT ["rest","winner","loser"] (J60 CR)) (bT:Binds K fdT ["rest","winner","loser"] []) (mT:mg "turns_behind"=some (.ref fT)) (kT:PySem.W.keepIn K (.ref fT)=true)
  (M:Mk K CR fI) (GI:FnOk P w K mg base CX0 2 fI fdI ["self","top","bottom","lengths","turned"] (J3l CR)) (bI:Binds K fdI ["self","top","bottom","lengths","turned"] []) (mgR:mg "Rest"=some (.ref CR)) :
  FnOk P w K mg base CX0 4 f fd ["self","rest"] (J24 cs CR .ov):=by
 refine F.ok scOvBehind (fun vs H Q E h=>?_) (fun cdv A outer s H vs Q E hr h=>?_)
 ·obtain ⟨x,y,s,r,rfl,_⟩:=h
  rfl
 ·obtain ⟨x,y,s,r,rfl,hs,⟨dx,hx⟩,R,fit,k⟩:=h
  have hr1:Room 1 _:=hr.mono (by decide)
  have hr2:Room 2 _:=hr.mono (by decide)
  have ok:=fit.ok
  have left:=fit.left
  have win:=fit.win
  have winB:=ok.perm.mem_iff.mpr win
  have few:=Nat.le_trans ok.row.len_le ok.few
  have fewB:=Nat.le_trans ok.rowB.len_le ok.few
  have lw:=ok.row.lt _ win
  obtain ⟨dr,fr,pt,pb,pl,pu,h0,⟨k1,k2,k3,k4,k5⟩,e1,e2,e3,e4⟩:=R.ex
  cases s with
  | over a b =>
   obtain ⟨lose,wl⟩:=fit.lose b rfl
   have lt:a < r.ts.length:=by rw [ok.len];exact lw
   have lbl:=ok.row.lt _ lose
   have lb:b < r.ts.length:=by rw [ok.len];exact lbl
   refine ⟨_,J3 (Jn (i:=2) scOvBehind.nd rfl (Or.inl rfl) (Jd GP hr2 rfl mP kP bP .nil pass0 (J0 (Jh (pv 1) rfl) (J0 (Jh (pv 0) rfl) (J0 (Jh (pv 0) rfl) (J0 (pe_ix Jj (Jh (pv 1) rfl) (Jh (pv 0) rfl) (fun _ _=>rfl)) J6))))))
    (J3 (Jn (i:=3) scOvBehind.nd rfl (Or.inl rfl) (Jd GS hr2 rfl mS kS bS .nil pass0 (J0 (pv 1) (J0 (Jh (pv 0) rfl) (J0 (pe_ix Jj (Jh (pv 1) rfl) (Jh (pv 0) rfl) (fun _ _=>rfl)) J6)))))
    (J9 (Jl (J1f M GI hr rfl mgR bI .nil pass0 (J0 (Jh (pv 1) rfl) (J0 (pv 2) (J0 (pv 3) (J0 (Jd GT hr2 rfl mT kT bT .nil pass0 (J0 (pv 1) (J0 (Jh (pv 0) rfl) (J0 (Jh (pv 0) rfl) J6)))) J6)))))))),?_⟩
   refine ⟨_,rfl,y,CR,dr,fr,_,rfl,h0,TR.cl,TR.nB,k2,_,rfl,x,cs _,dx,stF _,_,rfl,hx,TS.cl _,TS.nW _,stF_w _,_,rfl,x,cs _,dx,stF _,_,rfl,hx,TS.cl _,TS.nL _,stF_l _,_,rfl,y,CR,dr,fr,_,rfl,h0,TR.cl,TR.nU,k4,_,rfl,x,cs _,dx,stF _,_,rfl,hx,TS.cl _,TS.nW _,stF_w _,pu,_,_,_,rfl,rfl,SqT.of e4,J7 (J3c lt),pb,r.bot,a,b,_,rfl,.inr e2,fewB,winB,wl,fun q1 H1 s1 hq1=>?_⟩
   refine ⟨_,rfl,_,rfl,x,cs _,dx,stF _,_,rfl,s1 _ _ hx,TS.cl _,TS.nW _,stF_w _,_,rfl,y,CR,dr,fr,_,rfl,s1 _ _ h0,TR.cl,TR.nL,k3,_,rfl,x,cs _,dx,stF _,_,rfl,s1 _ _ hx,TS.cl _,TS.nL _,stF_l _,pl,_,_,_,rfl,rfl,SqT.of (s1 _ _ e3),J7 (J13 lbl),y,r,a,_,rfl,R.same s1,lw,fun l1 H2 s12 hl1=>?_⟩
   have s2:=s1.trans s12
   refine ⟨_,rfl,y,CR,dr,fr,_,rfl,s2 _ _ h0,TR.cl,TR.nT,k1,_,rfl,_,rfl,_,rfl,_,rfl,x,cs _,dx,stF _,_,rfl,s2 _ _ hx,TS.cl _,TS.nW _,stF_w _,_,rfl,x,cs _,dx,stF _,_,rfl,s2 _ _ hx,TS.cl _,TS.nL _,stF_l _,y,r,a,b,rfl,R.same s2,lt,lb,fun u1 H3 s23 hu1=>?_⟩
   exact J33 left (.inr (s23 _ _ (s2 _ _ e1))) (.inl (s23 _ _ (s12 _ _ hq1))) (.inl (s23 _ _ hl1)) (.inl hu1) fun p H' s' R'=>k p H' (s2.trans (s23.trans s')) R'
  | home a=>cases hs
  | even a b=>cases hs
  | under a b=>cases hs
  | overs a t=>cases hs
  | unders a t=>cases hs
theorem scUnBehind:FnScope ["self","rest","top","lengths"] ["self","rest"] (J2 J2u):=⟨rfl,rfl,rfl,by decide +kernel,rfl,by decide +kernel,by decide +kernel⟩
theorem ok_unbehind {f fP fS fT fI CR:Addr} {fd fdP fdS fdT fdI:FuncData} {cs:Kd→Addr} (F:Fun K "behind" "Under.behind" J2u f fd) (TS:TxtS K cs) (TR:TxtRest K CR)
  (GP:FnOk P w K mg base CX0 2 fP fdP ["row","winner","loser","ahead"] spPut) (bP:Binds K fdP ["row","winner","loser","ahead"] []) (mP:mg "put_beside"=some (.ref fP)) (kP:PySem.W.keepIn K (.ref fP)=true)
  (GS:FnOk P w K mg base CX0 2 fS fdS ["rest","winner","less"] (J6t CR)) (bS:Binds K fdS ["rest","winner","less"] []) (mS:mg "shortened"=some (.ref fS)) (kS:PySem.W.keepIn K (.ref fS)=true)
  (GT:FnOk P w K mg base CX0 2 fT fdT ["rest","winner","loser"] (J60 CR)) (bT:Binds K fdT ["rest","winner","loser"] []) (mT:mg "turns_behind"=some (.ref fT)) (kT:PySem.W.keepIn K (.ref fT)=true)
  (M:Mk K CR fI) (GI:FnOk P w K mg base CX0 2 fI fdI ["self","top","bottom","lengths","turned"] (J3l CR)) (bI:Binds K fdI ["self","top","bottom","lengths","turned"] []) (mgR:mg "Rest"=some (.ref CR)) :
  FnOk P w K mg base CX0 4 f fd ["self","rest"] (J24 cs CR .un):=by
 refine F.ok scUnBehind (fun vs H Q E h=>?_) (fun cdv A outer s H vs Q E hr h=>?_)
 ·obtain ⟨x,y,s,r,rfl,_⟩:=h
  rfl
 ·obtain ⟨x,y,s,r,rfl,hs,⟨dx,hx⟩,R,fit,k⟩:=h
  have hr1:Room 1 _:=hr.mono (by decide)
  have hr2:Room 2 _:=hr.mono (by decide)
  have ok:=fit.ok
  have left:=fit.left
  have win:=fit.win
  have winB:=ok.perm.mem_iff.mpr win
  have few:=Nat.le_trans ok.row.len_le ok.few
  have fewB:=Nat.le_trans ok.rowB.len_le ok.few
  have lw:=ok.row.lt _ win
  obtain ⟨dr,fr,pt,pb,pl,pu,h0,⟨k1,k2,k3,k4,k5⟩,e1,e2,e3,e4⟩:=R.ex
  cases s with
  | under a b =>
   obtain ⟨lose,wl⟩:=fit.lose b rfl
   have lt:a < r.ts.length:=by rw [ok.len];exact lw
   have lbl:=ok.row.lt _ lose
   have lb:b < r.ts.length:=by rw [ok.len];exact lbl
   refine ⟨_,J3 (Jn (i:=2) scUnBehind.nd rfl (Or.inl rfl) (Jd GP hr2 rfl mP kP bP .nil pass0 (J0 (Jh (pv 1) rfl) (J0 (Jh (pv 0) rfl) (J0 (Jh (pv 0) rfl) (J0 (pe_ix Jj (Jh (pv 1) rfl) (Jh (pv 0) rfl) (fun _ _=>rfl)) J6))))))
    (J3 (Jn (i:=3) scUnBehind.nd rfl (Or.inl rfl) (Jd GS hr2 rfl mS kS bS .nil pass0 (J0 (pv 1) (J0 (Jh (pv 0) rfl) (J0 (pe_ix Jj (Jh (pv 1) rfl) (Jh (pv 0) rfl) (fun _ _=>rfl)) J6)))))
    (J9 (Jl (J1f M GI hr rfl mgR bI .nil pass0 (J0 (pv 2) (J0 (Jh (pv 1) rfl) (J0 (pv 3) (J0 (Jd GT hr2 rfl mT kT bT .nil pass0 (J0 (pv 1) (J0 (Jh (pv 0) rfl) (J0 (Jh (pv 0) rfl) J6)))) J6)))))))),?_⟩
   refine ⟨_,rfl,y,CR,dr,fr,_,rfl,h0,TR.cl,TR.nT,k1,_,rfl,x,cs _,dx,stF _,_,rfl,hx,TS.cl _,TS.nW _,stF_w _,_,rfl,x,cs _,dx,stF _,_,rfl,hx,TS.cl _,TS.nL _,stF_l _,_,rfl,y,CR,dr,fr,_,rfl,h0,TR.cl,TR.nU,k4,_,rfl,x,cs _,dx,stF _,_,rfl,hx,TS.cl _,TS.nW _,stF_w _,pu,_,_,_,rfl,rfl,SqT.of e4,J7 (J3c lt),pt,r.top,a,b,_,rfl,.inr e1,few,win,wl,fun q1 H1 s1 hq1=>?_⟩
   refine ⟨_,rfl,_,rfl,x,cs _,dx,stF _,_,rfl,s1 _ _ hx,TS.cl _,TS.nW _,stF_w _,_,rfl,y,CR,dr,fr,_,rfl,s1 _ _ h0,TR.cl,TR.nL,k3,_,rfl,x,cs _,dx,stF _,_,rfl,s1 _ _ hx,TS.cl _,TS.nL _,stF_l _,pl,_,_,_,rfl,rfl,SqT.of (s1 _ _ e3),J7 (J13 lbl),y,r,a,_,rfl,R.same s1,lw,fun l1 H2 s12 hl1=>?_⟩
   have s2:=s1.trans s12
   refine ⟨_,rfl,_,rfl,y,CR,dr,fr,_,rfl,s2 _ _ h0,TR.cl,TR.nB,k2,_,rfl,_,rfl,_,rfl,x,cs _,dx,stF _,_,rfl,s2 _ _ hx,TS.cl _,TS.nW _,stF_w _,_,rfl,x,cs _,dx,stF _,_,rfl,s2 _ _ hx,TS.cl _,TS.nL _,stF_l _,y,r,a,b,rfl,R.same s2,lt,lb,fun u1 H3 s23 hu1=>?_⟩
   exact J33 left (.inl (s23 _ _ (s12 _ _ hq1))) (.inr (s23 _ _ (s2 _ _ e2))) (.inl (s23 _ _ hl1)) (.inl hu1) fun p H' s' R'=>k p H' (s2.trans (s23.trans s')) R'
  | home a=>cases hs
  | even a b=>cases hs
  | over a b=>cases hs
  | overs a t=>cases hs
  | unders a t=>cases hs
theorem scOsBehind:FnScope ["self","rest","lengths"] ["self","rest"] (J2 J2y):=⟨rfl,rfl,rfl,by decide +kernel,rfl,by decide +kernel,by decide +kernel⟩
theorem ok_osbehind {f fL fS fI CR:Addr} {fd fdL fdS fdI:FuncData} {cs:Kd→Addr} (F:Fun K "behind" "Overs.behind" J2y f fd) (TS:TxtS K cs) (TR:TxtRest K CR)
  (GL:FnOk P w K mg base CX0 1 fL fdL ["rest","letters"] (J6u K)) (bL:Binds K fdL ["rest","letters"] []) (mL:mg "length_of"=some (.ref fL)) (kL:PySem.W.keepIn K (.ref fL)=true)
  (GS:FnOk P w K mg base CX0 2 fS fdS ["rest","winner","less"] (J6t CR)) (bS:Binds K fdS ["rest","winner","less"] []) (mS:mg "shortened"=some (.ref fS)) (kS:PySem.W.keepIn K (.ref fS)=true)
  (M:Mk K CR fI) (GI:FnOk P w K mg base CX0 2 fI fdI ["self","top","bottom","lengths","turned"] (J3l CR)) (bI:Binds K fdI ["self","top","bottom","lengths","turned"] []) (mgR:mg "Rest"=some (.ref CR))
  (HL:∀ k,HasM P w K mg base CX0 2 "losers" ["self","rest"] (J23 cs CR k) (cs k)) :
  FnOk P w K mg base CX0 4 f fd ["self","rest"] (J24 cs CR .os):=by
 refine F.ok scOsBehind (fun vs H Q E h=>?_) (fun cdv A outer s H vs Q E hr h=>?_)
 ·obtain ⟨x,y,s,r,rfl,_⟩:=h
  rfl
 ·obtain ⟨x,y,s,r,rfl,hs,⟨dx,hx⟩,R,fit,k⟩:=h
  have hr1:Room 1 _:=hr.mono (by decide)
  have hr2:Room 2 _:=hr.mono (by decide)
  have ok:=fit.ok
  have left:=fit.left
  have win:=fit.win
  have winB:=ok.perm.mem_iff.mpr win
  have few:=Nat.le_trans ok.row.len_le ok.few
  have fewB:=Nat.le_trans ok.rowB.len_le ok.few
  have lw:=ok.row.lt _ win
  obtain ⟨dr,fr,pt,pb,pl,pu,h0,⟨k1,k2,k3,k4,k5⟩,e1,e2,e3,e4⟩:=R.ex
  cases s with
  | overs a t =>
   have hlt:∀ j∈J1 r.bot a,j < r.ls.length:=fun j hj=>ok.rowB.lt j (Jg hj)
   have hln:(J1 r.bot a).length≤24:=by unfold J1;rw [List.length_drop];omega
   have hsz:(lenOf r.ls (J1 r.bot a)).natAbs < 2 ^ 4000:=by
    have p0:∀ j∈r.bot,1≤r.ls.getD j 0:=fun j hj=>ok.rowB.pos j hj
    have h1:lenOf r.ls r.bot=r.size:=ok.sizeB
    have h2:lenOf r.ls r.bot=lenOf r.ls (r.bot.take (r.bot.idxOf a + 1)) + lenOf r.ls (J1 r.bot a):=by
     rw [← Jx]
     show _=lenOf r.ls (r.bot.take (r.bot.idxOf a + 1) ++ r.bot.drop (r.bot.idxOf a + 1))
     rw [List.take_append_drop]
    have h3:=Jw (ls:=r.ls) (os:=r.bot.take (r.bot.idxOf a + 1)) fun j hj=>by have:=p0 j (List.mem_of_mem_take hj);omega
    have h4:=Jw (ls:=r.ls) (os:=J1 r.bot a) fun j hj=>by have:=p0 j (Jg hj);omega
    have h5:=fit.small
    have h6:(lenOf r.ls (J1 r.bot a)).natAbs≤10 ^ 30:=by omega
    exact Nat.lt_of_le_of_lt h6 (by decide)
   refine ⟨_,J3 (Jn (i:=2) scOsBehind.nd rfl (Or.inl rfl) (Jd GS hr2 rfl mS kS bS .nil pass0 (J0 (pv 1) (J0 (Jh (pv 0) rfl) (J0 (pe_op J6y (Jh (pv 0) rfl) (Jd GL hr1 rfl mL kL bL .nil pass0 (J0 (pv 1) (J0 (J4e (sp:=J23 cs CR) (cls:=cs) (pv 0) HL hr2 pass0 (J0 (pv 1) J6)) J6)))) J6)))))
    (J9 (Jl (J1f M GI hr rfl mgR bI .nil pass0 (J0 (Jh (pv 1) rfl) (J0 (Jh (pv 1) rfl) (J0 (pv 2) (J0 (Jh (pv 1) rfl) J6))))))),?_⟩
   refine ⟨_,rfl,_,rfl,x,cs _,dx,stF _,_,rfl,hx,TS.cl _,TS.nW _,stF_w _,_,rfl,x,cs _,dx,stF _,_,rfl,hx,TS.cl _,TS.nT _,stF_t _,_,rfl,_,rfl,x,.os,dx,stF _,rfl,hx,stF_no _ (by decide +kernel) (by decide +kernel) (by decide +kernel),_,rfl,x,y,.overs a t,r,rfl,rfl,⟨dx,hx⟩,R,win,winB,fun lp H1 s1 hlp=>?_⟩
   refine ⟨CR,y,lp,dr,pl,fr,r.ls,J1 r.bot a,rfl,s1 _ _ h0,TR.cl,TR.nL,k3,s1 _ _ e3,hlp,hlt,hln,fun H2 s12=>?_⟩
   have s2:=s1.trans s12
   refine ⟨_,_,rfl,rfl,⟨fit.few,hsz⟩,y,r,a,_,rfl,R.same s2,lw,fun l1 H3 s23 hl1=>?_⟩
   have s3:=s2.trans s23
   refine ⟨_,rfl,y,CR,dr,fr,_,rfl,s3 _ _ h0,TR.cl,TR.nT,k1,_,rfl,y,CR,dr,fr,_,rfl,s3 _ _ h0,TR.cl,TR.nB,k2,_,rfl,_,rfl,y,CR,dr,fr,_,rfl,s3 _ _ h0,TR.cl,TR.nU,k4,?_⟩
   exact J33 left (.inr (s3 _ _ e1)) (.inr (s3 _ _ e2)) (.inl hl1) (.inr (s3 _ _ e4)) fun p H' s' R'=>k p H' (s3.trans s') R'
  | home a=>cases hs
  | even a b=>cases hs
  | over a b=>cases hs
  | under a b=>cases hs
  | unders a t=>cases hs
theorem scUsBehind:FnScope ["self","rest","lengths"] ["self","rest"] (J2 J2t):=⟨rfl,rfl,rfl,by decide +kernel,rfl,by decide +kernel,by decide +kernel⟩
theorem ok_usbehind {f fL fS fI CR:Addr} {fd fdL fdS fdI:FuncData} {cs:Kd→Addr} (F:Fun K "behind" "Unders.behind" J2t f fd) (TS:TxtS K cs) (TR:TxtRest K CR)
  (GL:FnOk P w K mg base CX0 1 fL fdL ["rest","letters"] (J6u K)) (bL:Binds K fdL ["rest","letters"] []) (mL:mg "length_of"=some (.ref fL)) (kL:PySem.W.keepIn K (.ref fL)=true)
  (GS:FnOk P w K mg base CX0 2 fS fdS ["rest","winner","less"] (J6t CR)) (bS:Binds K fdS ["rest","winner","less"] []) (mS:mg "shortened"=some (.ref fS)) (kS:PySem.W.keepIn K (.ref fS)=true)
  (M:Mk K CR fI) (GI:FnOk P w K mg base CX0 2 fI fdI ["self","top","bottom","lengths","turned"] (J3l CR)) (bI:Binds K fdI ["self","top","bottom","lengths","turned"] []) (mgR:mg "Rest"=some (.ref CR))
  (HL:∀ k,HasM P w K mg base CX0 2 "losers" ["self","rest"] (J23 cs CR k) (cs k)) :
  FnOk P w K mg base CX0 4 f fd ["self","rest"] (J24 cs CR .us):=by
 refine F.ok scUsBehind (fun vs H Q E h=>?_) (fun cdv A outer s H vs Q E hr h=>?_)
 ·obtain ⟨x,y,s,r,rfl,_⟩:=h
  rfl
 ·obtain ⟨x,y,s,r,rfl,hs,⟨dx,hx⟩,R,fit,k⟩:=h
  have hr1:Room 1 _:=hr.mono (by decide)
  have hr2:Room 2 _:=hr.mono (by decide)
  have ok:=fit.ok
  have left:=fit.left
  have win:=fit.win
  have winB:=ok.perm.mem_iff.mpr win
  have few:=Nat.le_trans ok.row.len_le ok.few
  have fewB:=Nat.le_trans ok.rowB.len_le ok.few
  have lw:=ok.row.lt _ win
  obtain ⟨dr,fr,pt,pb,pl,pu,h0,⟨k1,k2,k3,k4,k5⟩,e1,e2,e3,e4⟩:=R.ex
  cases s with
  | unders a t =>
   have hlt:∀ j∈J1 r.top a,j < r.ls.length:=fun j hj=>ok.row.lt j (Jg hj)
   have hln:(J1 r.top a).length≤24:=by unfold J1;rw [List.length_drop];omega
   have hsz:(lenOf r.ls (J1 r.top a)).natAbs < 2 ^ 4000:=by
    have p0:∀ j∈r.top,1≤r.ls.getD j 0:=fun j hj=>ok.row.pos j hj
    have h1:lenOf r.ls r.top=r.size:=rfl
    have h2:lenOf r.ls r.top=lenOf r.ls (r.top.take (r.top.idxOf a + 1)) + lenOf r.ls (J1 r.top a):=by
     rw [← Jx]
     show _=lenOf r.ls (r.top.take (r.top.idxOf a + 1) ++ r.top.drop (r.top.idxOf a + 1))
     rw [List.take_append_drop]
    have h3:=Jw (ls:=r.ls) (os:=r.top.take (r.top.idxOf a + 1)) fun j hj=>by have:=p0 j (List.mem_of_mem_take hj);omega
    have h4:=Jw (ls:=r.ls) (os:=J1 r.top a) fun j hj=>by have:=p0 j (Jg hj);omega
    have h5:=fit.small
    have h6:(lenOf r.ls (J1 r.top a)).natAbs≤10 ^ 30:=by omega
    exact Nat.lt_of_le_of_lt h6 (by decide)
   refine ⟨_,J3 (Jn (i:=2) scUsBehind.nd rfl (Or.inl rfl) (Jd GS hr2 rfl mS kS bS .nil pass0 (J0 (pv 1) (J0 (Jh (pv 0) rfl) (J0 (pe_op J6y (Jh (pv 0) rfl) (Jd GL hr1 rfl mL kL bL .nil pass0 (J0 (pv 1) (J0 (J4e (sp:=J23 cs CR) (cls:=cs) (pv 0) HL hr2 pass0 (J0 (pv 1) J6)) J6)))) J6)))))
    (J9 (Jl (J1f M GI hr rfl mgR bI .nil pass0 (J0 (Jh (pv 1) rfl) (J0 (Jh (pv 1) rfl) (J0 (pv 2) (J0 (Jh (pv 1) rfl) J6))))))),?_⟩
   refine ⟨_,rfl,_,rfl,x,cs _,dx,stF _,_,rfl,hx,TS.cl _,TS.nW _,stF_w _,_,rfl,x,cs _,dx,stF _,_,rfl,hx,TS.cl _,TS.nT _,stF_t _,_,rfl,_,rfl,x,.us,dx,stF _,rfl,hx,stF_no _ (by decide +kernel) (by decide +kernel) (by decide +kernel),_,rfl,x,y,.unders a t,r,rfl,rfl,⟨dx,hx⟩,R,win,winB,fun lp H1 s1 hlp=>?_⟩
   refine ⟨CR,y,lp,dr,pl,fr,r.ls,J1 r.top a,rfl,s1 _ _ h0,TR.cl,TR.nL,k3,s1 _ _ e3,hlp,hlt,hln,fun H2 s12=>?_⟩
   have s2:=s1.trans s12
   refine ⟨_,_,rfl,rfl,⟨fit.few,hsz⟩,y,r,a,_,rfl,R.same s2,lw,fun l1 H3 s23 hl1=>?_⟩
   have s3:=s2.trans s23
   refine ⟨_,rfl,y,CR,dr,fr,_,rfl,s3 _ _ h0,TR.cl,TR.nT,k1,_,rfl,y,CR,dr,fr,_,rfl,s3 _ _ h0,TR.cl,TR.nB,k2,_,rfl,_,rfl,y,CR,dr,fr,_,rfl,s3 _ _ h0,TR.cl,TR.nU,k4,?_⟩
   exact J33 left (.inr (s3 _ _ e1)) (.inr (s3 _ _ e2)) (.inl hl1) (.inr (s3 _ _ e4)) fun p H' s' R'=>k p H' (s3.trans s') R'
  | home a=>cases hs
  | even a b=>cases hs
  | over a b=>cases hs
  | under a b=>cases hs
  | overs a t=>cases hs
end
end R25
namespace R25
open PySem L2 Rl
section
variable {P:Program} {w:World} {K:PySem.W.Frag} {mg:Str→Option Value} {base:Heap}
def Frz (H H':Hp):Prop:=∀ b o,H b=some o→(∀ xs,o≠.lst xs)→H' b=some o
theorem Frz.of {H H':Hp} (s:Same H H'):Frz H H':=fun b o e _=>s b o e
theorem Frz.trans {H H1 H2:Hp} (a:Frz H H1) (b:Frz H1 H2):Frz H H2:=fun c o e n=>b c o (a c o e n) n
theorem Frz.upd {H:Hp} {l:Addr} {xs ys:List V} (h:H l=some (.lst xs)):Frz H (upd H l (.lst ys)):=fun b o e n=>by
 rw [Jc (fun q=>n xs (by subst q;rw [h] at e;exact (Option.some.inj e).symm))];exact e
theorem RestAt.frz {CR:Addr} {H H':Hp} {x:Addr} {r:Rst} (h:RestAt CR H x r) (s:Frz H H'):RestAt CR H' x r:=by
 obtain ⟨dx,fs,pt,pb,pl,pu,h0,hl,h1,h2,h3,h4⟩:=h.ex
 exact ⟨dx,fs,pt,pb,pl,pu,s _ _ h0 (fun _ e=>nomatch e),hl,s _ _ h1 (fun _ e=>nomatch e),s _ _ h2 (fun _ e=>nomatch e),s _ _ h3 (fun _ e=>nomatch e),s _ _ h4 (fun _ e=>nomatch e)⟩
theorem StepAt.frz {cs:Kd→Addr} {H H':Hp} {p:Addr} {s:Stp} (h:StepAt cs H p s) (e:Frz H H'):StepAt cs H' p s:=let ⟨dx,q⟩:=h;⟨dx,e _ _ q (fun _ e=>nomatch e)⟩
theorem atI_last {xs:List V} {n:Nat} {v:V} (h:xs.length=n + 1) (e:xs[n]?=some v):atI xs (-1)=some v:=by
 unfold atI ixN
 rw [if_neg (by decide),if_pos (by rw [h];omega)]
 show xs[((-1:Int) + (xs.length:Int)).toNat]?=some v
 rw [h,show ((-1:Int) + ((n + 1:Nat):Int)).toNat=n by omega]
 exact e
theorem inV_nV (j:Nat) (row:List Nat):inV (V.int (j:Nat)) (nV row)=decide (j∈row):=by
 rw [nV_eq]
 unfold inV
 rw [Bool.eq_iff_iff,List.any_eq_true,decide_eq_true_iff]
 constructor
 ·rintro ⟨y,hy,e⟩
  obtain ⟨i,hi,rfl⟩:=List.mem_map.mp hy
  have e':((i:Int) == (j:Int))=true:=e
  have:i=j:=by have:=eq_of_beq e';omega
  exact this ▸ hi
 ·intro h
  exact ⟨V.int (j:Nat),List.mem_map.mpr ⟨j,h,rfl⟩,(beq_self_eq_true _:((j:Int) == (j:Int))=true)⟩
theorem flat_nV (row:List Nat):(nV row).all flatV=true:=by
 rw [nV_eq,List.all_eq_true]
 intro y hy
 obtain ⟨i,_,rfl⟩:=List.mem_map.mp hy
 rfl
theorem home_kd (k:Kd):decide (V.str (wordS k)=V.str (Str.ofString "home"))=(match k with | .ho=>true | _=>false):=by cases k <;> decide +kernel
theorem home_word (s:Stp):decide (V.str (wordS (kd s))=V.str (Str.ofString "home"))=s.isHome:=by
 rw [home_kd];cases s <;> rfl
theorem flat_one (n:Nat):(List.replicate n [V.int 1]).flatten=iV (List.replicate n 1):=by
 induction n with
 | zero=>rfl
 | succ n ih=>rw [List.replicate_succ,List.flatten_cons,ih,List.replicate_succ];rfl
def J7f (C:Addr):Sp:=fun vs H Q _=>∃ (x:Addr) (ls:List Int) (os:List Nat) (ts:List Bool),vs=[.ref x]∧LineAt C H x ls os ts∧1≤ls.length∧ls.length≤24∧∀ p H',Same H H'→H' p=some (.tup (iV (List.replicate ls.length 1)))→Q (.ref p) H'
theorem scFirstT:FnScope ["line"] ["line"] (J2 J5e):=⟨rfl,rfl,rfl,by decide +kernel,rfl,by decide +kernel,by decide +kernel⟩
theorem ok_firstT {f C:Addr} {fd:FuncData} (F:Fun K "first_towers" "first_towers" J5e f fd) (T:TxtR mg) (TC:TxtC K mg C):FnOk P w K mg base CX0 1 f fd ["line"] (J7f C):=by
 refine F.ok scFirstT (fun vs H Q E h=>?_) (fun cdv A outer s H vs Q E hr h=>?_)
 ·obtain ⟨x,ls,os,ts,rfl,_⟩:=h
  rfl
 ·obtain ⟨x,ls,os,ts,rfl,L,h1,h2,k⟩:=h
  obtain ⟨dx,fl,pl,po,pt,ps,pd,h0,⟨k1,k2,k3,k4,k5,k6⟩,e1,e2,e3,e4,e5⟩:=L.ex
  refine ⟨_,J9 (Jl (pe_op op_repT (J2m (J0 Jb J6)) (Jy Ju (by rfl) T.len PySem.boot_len (J0 (Jh (pv 0) rfl) J6)))),?_⟩
  refine ⟨by show 1≤sizeLine;decide,fun p hp=>⟨_,rfl,x,C,dx,fl,_,rfl,J8 hp _ _ h0,TC.cl,TC.nL,k1,pl,_,rfl,.inr (SqT.of (J8 hp _ _ e1)),p,((iV ls).length:Int),[V.int 1],rfl,rfl,J4,by simp,?_,?_,?_,fun e=>?_,fun hk p2 hp2=>?_⟩⟩
  ·rw [J25];omega
  ·rw [J25];omega
  ·show 1 * ((iV ls).length:Int).toNat≤sizeLine
   rw [J25]
   have:=J11 (n:=ls.length) (by omega)
   omega
  ·rw [J25] at e
   have en:ls.length=1:=by omega
   refine k p _ (J8 hp) ?_
   rw [J4,en];rfl
  ·refine k p2 _ ((J8 hp).trans (J8 hp2)) ?_
   rw [J4,J25,show ((ls.length:Nat):Int).toNat=ls.length by omega,flat_one]
def spTowB (cs:Kd→Addr) (CR:Addr):Sp:=fun vs H Q _=>∃ (tp x y z:Addr) (s:Stp) (r:Rst) (T:List Int),vs=[.ref tp,.ref x,.ref y,.ref z]∧H tp=some (.tup (iV T))∧StepAt cs H x s∧RestAt CR H y r∧RestAt CR H z (s.behind r)∧
 s.winner∈r.top∧s.winner∈r.bot∧s.winner < T.length∧T.length≤24∧CBig (T.getD s.winner 0) s.times∧∀ p H',Same H H'→H' p=some (.tup (iV (towB s r T)))→Q (.ref p) H'
theorem scTowB:FnScope ["towers","step","rest","behind","losers","grown","told","letter","tower"] ["towers","step","rest","behind"] (J2 sTowB):=⟨rfl,rfl,rfl,by decide +kernel,rfl,by decide +kernel,by decide +kernel⟩
theorem iV_snoc (T:List Int) {i:Nat} (h:i < T.length):iV (T.take i) ++ [V.int (T.getD i 0)]=iV (T.take (i + 1)):=by
 show (T.take i).map V.int ++ _=(T.take (i + 1)).map V.int
 rw [List.take_add_one,List.map_append,List.getD_eq_getElem?_getD,List.getElem?_eq_getElem h];rfl
theorem ok_towB {f CR:Addr} {fd:FuncData} {cs:Kd→Addr} (F:Fun K "towers_behind" "towers_behind" sTowB f fd) (T:TxtR mg) (hen:mg "enumerate"=none) (TR:TxtRest K CR) (TS:TxtS K cs)
  (HL:∀ k,HasM P w K mg base CX0 2 "losers" ["self","rest"] (J23 cs CR k) (cs k)):FnOk P w K mg base CX0 3 f fd ["towers","step","rest","behind"] (spTowB cs CR):=by
 refine F.ok scTowB (fun vs H Q E h=>?_) (fun cdv A outer s H vs Q E hr h=>?_)
 ·obtain ⟨tp,x,y,z,s,r,Tl,rfl,_⟩:=h
  rfl
 ·obtain ⟨tp,x,y,z,st,r,Tl,rfl,htp,⟨dx,hx⟩,R,Z,wT,wB,wl,hn,big,k⟩:=h
  have hr2:Room 2 _:=hr.mono (by decide)
  refine ⟨_,J3 (Jn (i:=4) scTowB.nd rfl (Or.inl rfl) (J4e (sp:=J23 cs CR) (cls:=cs) (pv 1) HL hr2 pass0 (J0 (pv 2) J6)))
   (J3 (Jn (i:=5) scTowB.nd rfl (Or.inl rfl) (pe_op J6y (pe_ix Jj (pv 0) (Jh (pv 1) rfl) (fun _ _=>rfl)) (Jh (pv 1) rfl)))
   (J3 (Jn (i:=6) scTowB.nd rfl (Or.inl rfl) (J2n J6))
   (J3 (ps_for PassesOwn.never rfl (pi_enum rfl hen (J0 (pv 0) J6)) (pg_tup rfl (J4d (J2l (i:=7) scTowB.nd rfl (Or.inl rfl)) (J4d (J2l (i:=8) scTowB.nd rfl (Or.inl rfl)) pgs_nil)))
    (J9 (ps_if (Jo J7q (pv 7) (Jh (pv 3) rfl) rfl)
     (J9 (J12 (pe_bm PySem.F.plainAttrs_list PySem.F.slot_list_append PySem.F.type_list_append J1t (pv 6) (J0 Jb J6))))
     (J9 (ps_if (Jo op_in_seq (pv 7) (pv 4) rfl)
      (J9 (J12 (pe_bm PySem.F.plainAttrs_list PySem.F.slot_list_append PySem.F.type_list_append J1t (pv 6) (J0 (pe_op J2i (pv 8) (pv 5)) J6))))
      (J9 (J12 (pe_bm PySem.F.plainAttrs_list PySem.F.slot_list_append PySem.F.type_list_append J1t (pv 6) (J0 (pv 8) J6)))))))))
   (J9 (Jl (Jk J1i (by rfl) T.tuple PyProof.Rows.boot_tuple (J0 (pv 6) J6))))))),?_⟩
  refine ⟨_,rfl,x,kd st,dx,stF st,rfl,hx,stF_no _ (by decide +kernel) (by decide +kernel) (by decide +kernel),_,rfl,x,y,st,r,rfl,rfl,⟨dx,hx⟩,R,wT,wB,fun lp Ha sa hlp=>?_⟩
  refine ⟨_,rfl,_,rfl,x,cs (kd st),dx,stF st,_,rfl,sa _ _ hx,TS.cl _,TS.nW _,stF_w _,tp,_,_,_,rfl,rfl,SqT.of (sa _ _ htp),J7 (J13 wl),_,rfl,x,cs (kd st),dx,stF st,_,rfl,sa _ _ hx,TS.cl _,TS.nT _,stF_t _,_,_,rfl,rfl,big,?_⟩
  refine ⟨Nat.zero_le _,fun tl htl=>?_⟩
  have lenB:=J3s st r Tl
  have htp1:=sa _ _ htp
  refine ⟨_,rfl,tp,rfl,⟨_,SqT.of (J8 htl _ _ htp1)⟩,for_enum (K:=K) (a:=tp) (xs:=iV Tl)
   (fun i σ H2=>∃ v v',σ=[some (.ref tp),some (.ref x),some (.ref y),some (.ref z),some (.ref lp),some (.int (Tl.getD st.winner 0 * st.times)),some (.ref tl),v,v']∧H2 tl=some (.lst (iV ((towB st r Tl).take i)))∧Same Ha H2)
   ⟨none,none,rfl,J4,J8 htl⟩ (fun i σ H2 _ ⟨_,_,_,_,s2⟩=>SqT.of (s2 _ _ htp1)) ?_ ?_⟩
  ·rintro i y' σ H2 t hy ⟨v,v',rfl,h1,s2⟩ ht
   have hil:i < Tl.length:=by
    have:=(List.getElem?_eq_some_iff.mp hy).1
    rw [List.length_map] at this;exact this
   rw [J13 hil] at hy
   cases hy
   have st2:=J8 (o:=.tup [.int (i:Int),.int (Tl.getD i 0)]) ht
   have s3:=s2.trans st2
   have h1':=st2 _ _ h1
   obtain ⟨dz,fz,zt,zb,zl,zu,w0,⟨w1,w2,w3,w4,w5⟩,v1,v2,v3,v4⟩:=((Z.same sa).same s3).ex
   have hlp':=s3 _ _ hlp
   have eg:=J2k st r Tl hil
   have sn:=iV_snoc (towB st r Tl) (i:=i) (by rw [lenB];exact hil)
   have tlen:(iV ((towB st r Tl).take i)).length < sizeLine:=by
    rw [J25,List.length_take]
    have:=J11 (n:=24) (by omega)
    omega
   have fin:∀ u,u=(towB st r Tl).getD i 0→∀ H3,H3=upd H2 t (.tup [.int (i:Int),.int (Tl.getD i 0)])→(∃ v v',[some (V.ref tp),some (.ref x),some (.ref y),some (.ref z),some (.ref lp),some (.int (Tl.getD st.winner 0 * st.times)),some (.ref tl),some (.int (i:Int)),some (.int (Tl.getD i 0))]=[some (.ref tp),some (.ref x),some (.ref y),some (.ref z),some (.ref lp),some (.int (Tl.getD st.winner 0 * st.times)),some (.ref tl),v,v']∧
     (upd H3 tl (.lst (iV ((towB st r Tl).take i) ++ [.int u]))) tl=some (.lst (iV ((towB st r Tl).take (i + 1))))∧Same Ha (upd H3 tl (.lst (iV ((towB st r Tl).take i) ++ [.int u])))):=by
    rintro u rfl H3 rfl
    refine ⟨_,_,rfl,by rw [J4,sn],fun b o e=>?_⟩
    rw [Jc (Ja e htl)]
    exact s3 _ _ e
   refine ⟨t,_,rfl,SqT.of J4,rfl,_,_,rfl,_,_,rfl,rfl,?_⟩
   refine ⟨_,rfl,_,rfl,z,CR,dz,fz,_,rfl,w0,TR.cl,TR.nT,w1,zt,_,rfl,.inr (SqT.of v1),rfl,flat_nV _,_,rfl,?_⟩
   by_cases c:i∈(st.behind r).top
   ·refine iteBF (show ¬ (!inV (V.int (i:Nat)) (nV (st.behind r).top))=true by rw [inV_nV];simpa using c) ?_
    rw [if_pos c] at eg
    refine ⟨_,rfl,_,rfl,lp,_,rfl,.inr (SqT.of hlp'),rfl,flat_nV _,_,rfl,?_⟩
    by_cases c2:i∈st.losers r
    ·refine iteBT (show inV (V.int (i:Nat)) (nV (st.losers r))=true by rw [inV_nV];exact decide_eq_true c2) ?_
     rw [if_pos c2] at eg
     exact ⟨_,rfl,.inl ⟨rfl,_,SqL.of h1'⟩,_,rfl,_,rfl,_,_,rfl,rfl,tl,_,_,rfl,rfl,h1',tlen,fin _ eg.symm _ rfl⟩
    ·refine iteBF (show ¬ inV (V.int (i:Nat)) (nV (st.losers r))=true by rw [inV_nV];simpa using c2) ?_
     rw [if_neg c2] at eg
     exact ⟨_,rfl,.inl ⟨rfl,_,SqL.of h1'⟩,_,rfl,tl,_,_,rfl,rfl,h1',tlen,fin _ eg.symm _ rfl⟩
   ·refine iteBT (show (!inV (V.int (i:Nat)) (nV (st.behind r).top))=true by rw [inV_nV];simpa using c) ?_
    rw [if_neg c] at eg
    exact ⟨_,rfl,.inl ⟨rfl,_,SqL.of h1'⟩,tl,_,_,rfl,rfl,h1',tlen,fin _ eg.symm _ rfl⟩
  ·rintro σ H2 ⟨v,v',rfl,h1,s2⟩
   rw [J25,← lenB,List.take_length] at h1
   exact ⟨_,rfl,J1l (.inl h1) fun p H' s' hp=>k p H' ((sa.trans s2).trans s') hp⟩
def bandV (b:Band):List V:=[.int b.1,.int b.2.1,.int b.2.2.1,.bl b.2.2.2]
def J7g (cs:Kd→Addr) (CR:Addr):Sp:=fun vs H Q _=>∃ (tp x y z:Addr) (s:Stp) (r:Rst) (T:List Int),vs=[.ref x,.ref y,.ref z,.ref tp]∧H tp=some (.tup (iV T))∧StepAt cs H x s∧RestAt CR H y r∧RestAt CR H z (s.behind r)∧
 s.winner < r.ls.length∧s.winner < r.ts.length∧s.winner < T.length∧(s.isHome=false→∀ p H',Same H H'→H' p=some (.lst [])→Q (.ref p) H')∧
 (s.isHome=true→∀ p q H',Same H H'→H' p=some (.lst [.ref q])→H' q=some (.tup (bandV ((s.behind r).size,r.ls.getD s.winner 0,T.getD s.winner 0,r.ts.getD s.winner false)))→Q (.ref p) H')
theorem scBandsL:FnScope ["step","rest","behind","towers","winner"] ["step","rest","behind","towers"] (J2 J5j):=⟨rfl,rfl,rfl,by decide +kernel,rfl,by decide +kernel,by decide +kernel⟩
theorem ok_bandsL {f CR:Addr} {fd:FuncData} {cs:Kd→Addr} (F:Fun K "bands_left" "bands_left" J5j f fd) (TR:TxtRest K CR) (TS:TxtS K cs)
  (HW:∀ k,HasM P w K mg base CX0 1 "word" ["self"] (J5z k) (cs k)):FnOk P w K mg base CX0 2 f fd ["step","rest","behind","towers"] (J7g cs CR):=by
 refine F.ok scBandsL (fun vs H Q E h=>?_) (fun cdv A outer s H vs Q E hr h=>?_)
 ·obtain ⟨tp,x,y,z,s,r,Tl,rfl,_⟩:=h
  rfl
 ·obtain ⟨tp,x,y,z,st,r,Tl,rfl,htp,⟨dx,hx⟩,R,Z,wl,wt,wT,k0,k1⟩:=h
  have hr1:Room 1 _:=hr.mono (by decide)
  obtain ⟨dy,fy,yt,yb,yl,yu,q0,⟨q1,q2,q3,q4,q5⟩,p1,p2,p3,p4⟩:=R.ex
  obtain ⟨dz,fz,zt,zb,zl,zu,w0,⟨w1,w2,w3,w4,w5⟩,v1,v2,v3,v4⟩:=Z.ex
  refine ⟨_,J3 (ps_if (Jo op_ne (pe_methD0 (sp:=J5z) (cls:=cs) (pv 0) HW hr1 pass0) J1k (Jp _)) (J9 (Jl (J2n J6))) Jv)
   (J3 (Jn (i:=4) scBandsL.nd rfl (Or.inl rfl) (Jh (pv 0) rfl))
   (J9 (Jl (J2n (J0 (J2m (J0 (Jh (pv 2) rfl) (J0 (pe_ix Jj (Jh (pv 1) rfl) (pv 4) (fun _ _=>rfl)) (J0 (pe_ix Jj (pv 3) (pv 4) (fun _ _=>rfl)) (J0 (pe_ix Jj (Jh (pv 1) rfl) (pv 4) (fun _ _=>rfl)) J6))))) J6))))),?_⟩
  refine ⟨_,rfl,x,kd st,dx,stF st,rfl,hx,stF_no _ (by decide +kernel) (by decide +kernel) (by decide +kernel),x,rfl,rfl,_,rfl,?_⟩
  have hw:=home_word st
  by_cases c:st.isHome=true
  ·refine iteBF (show ¬ (!decide (V.str (wordS (kd st))=V.str (Str.ofString "home")))=true by rw [hw,c];decide) ?_
   refine ⟨_,rfl,x,cs (kd st),dx,stF st,_,rfl,hx,TS.cl _,TS.nW _,stF_w _,?_⟩
   refine ⟨_,rfl,z,CR,dz,fz,_,rfl,w0,TR.cl,TR.nZ,w5,_,rfl,y,CR,dy,fy,_,rfl,q0,TR.cl,TR.nL,q3,_,rfl,yl,_,_,_,rfl,rfl,SqT.of p3,J7 (J13 wl),_,rfl,_,rfl,tp,_,_,_,rfl,rfl,SqT.of htp,J7 (J13 wT),
    _,rfl,y,CR,dy,fy,_,rfl,q0,TR.cl,TR.nU,q4,_,rfl,yu,_,_,_,rfl,rfl,SqT.of p4,J7 (J3c wt),(by show 4≤sizeLine;decide),fun q hq=>⟨(by show 1≤sizeLine;decide),fun p hp=>?_⟩⟩
   exact k1 c p q _ ((J8 hq).trans (J8 hp)) J4 (J8 hp _ _ J4)
  ·refine iteBT (show (!decide (V.str (wordS (kd st))=V.str (Str.ofString "home")))=true by rw [hw];simpa using c) ?_
   exact ⟨Nat.zero_le _,fun p hp=>k0 (by simpa using c) p _ (J8 hp) J4⟩
end
end R25
namespace R25
open PySem L2 Rl
section
theorem next_fit {r:Rst} (ok:r.Ok) (ne:r.top≠[]) (hz:r.size≤10 ^ 30):Fit (nextN r) r:=by
 have np:=nextP ok ne
 refine ⟨ok,ok.next ne,np.win ok ne,fun b hb=>?_,Nat.lt_of_le_of_lt (np.times ok ne hz) (by decide),hz⟩
 have mT:=ok.mT ne
 have mB:=ok.mB ne
 generalize nextN r=st at *
 have inj:∀ {i j:Nat},V.int (i:Nat)=V.int (j:Nat)→i=j:=fun q=>by have:=V.int.inj q;omega
 cases st with
 | even a b'=>obtain rfl:=inj hb;obtain ⟨_,n2,n3,_⟩:=np;exact ⟨by rw [n2];exact mB,n3⟩
 | over a b'=>obtain rfl:=inj hb;obtain ⟨_,n2,n3,_⟩:=np;exact ⟨by rw [n2];exact mB,n3⟩
 | under a b'=>obtain rfl:=inj hb;obtain ⟨_,n2,n3,_⟩:=np;exact ⟨by rw [n2];exact mT,n3⟩
 | home a=>cases hb
 | overs a t=>cases hb
 | unders a t=>cases hb
end
section
variable {P:Program} {w:World} {K:PySem.W.Frag} {mg:Str→Option Value} {base:Heap}
structure TxtCh (K:PySem.W.Frag) (CH:Addr):Prop where
 cl:Cls K CH
 nL:NoAttr K CH "line"
 nR:NoAttr K CH "rests"
 nS:NoAttr K CH "steps"
 nT:NoAttr K CH "towers"
 nB:NoAttr K CH "bands"
abbrev bz:Band:=(0,0,0,false)
structure ChartAt (CH CR:Addr) (cs:Kd→Addr) (H:Hp) (x xl:Addr) (p0:Cst) (m:Nat):Prop where
 ex:∃ (dx:Addr) (fs:List (Str × V)) (pr ps pt pb:Addr) (xr xs xt xb:List V),H x=some (.ins CH dx fs)∧(fs.lookup ("line":Str)=some (.ref xl)∧fs.lookup ("rests":Str)=some (.ref pr)∧fs.lookup ("steps":Str)=some (.ref ps)∧fs.lookup ("towers":Str)=some (.ref pt)∧fs.lookup ("bands":Str)=some (.ref pb))∧
  (H pr=some (.tup xr)∧H ps=some (.tup xs)∧H pt=some (.tup xt)∧H pb=some (.tup xb))∧Refs (fun q i=>RestAt CR H q (chN p0 i).1) xr (m + 1)∧Refs (fun q i=>StepAt cs H q (nextN (chN p0 i).1)) xs m∧Refs (fun q i=>H q=some (.tup (iV (chN p0 i).2))) xt (m + 1)∧
  Refs (fun q i=>H q=some (.tup (bandV ((bndN p0 m).getD i bz)))) xb (bndN p0 m).length
theorem ChartAt.frz {CH CR:Addr} {cs:Kd→Addr} {H H':Hp} {x xl:Addr} {p0:Cst} {m:Nat} (h:ChartAt CH CR cs H x xl p0 m) (s:Frz H H'):ChartAt CH CR cs H' x xl p0 m:=by
 obtain ⟨dx,fs,pr,ps,pt,pb,xr,xs,xt,xb,h0,hl,⟨h1,h2,h3,h4⟩,r1,r2,r3,r4⟩:=h.ex
 exact ⟨dx,fs,pr,ps,pt,pb,xr,xs,xt,xb,s _ _ h0 (fun _ e=>nomatch e),hl,⟨s _ _ h1 (fun _ e=>nomatch e),s _ _ h2 (fun _ e=>nomatch e),s _ _ h3 (fun _ e=>nomatch e),s _ _ h4 (fun _ e=>nomatch e)⟩,
  r1.mono fun q i _ a=>a.frz s,r2.mono fun q i _ a=>a.frz s,r3.mono fun q i _ a=>s _ _ a (fun _ e=>nomatch e),r4.mono fun q i _ a=>s _ _ a (fun _ e=>nomatch e)⟩
theorem ChartAt.same {CH CR:Addr} {cs:Kd→Addr} {H H':Hp} {x xl:Addr} {p0:Cst} {m:Nat} (h:ChartAt CH CR cs H x xl p0 m) (s:Same H H'):ChartAt CH CR cs H' x xl p0 m:=h.frz (Frz.of s)
abbrev J1y (ls:List Int) (os:List Nat) (ts:List Bool):Cst:=(J3h ls os ts,List.replicate ls.length 1)
def spCInit (C CR CH:Addr) (cs:Kd→Addr):Sp:=fun vs H Q _=>∃ (x dx xl:Addr) (ls:List Int) (os:List Nat) (ts:List Bool),vs=[.ref x,.ref xl]∧H x=some (.ins CH dx [])∧LineAt C H xl ls os ts∧(J3h ls os ts).Ok∧(J3h ls os ts).size≤10 ^ 30∧1≤ls.length∧
 ∀ m H',Long (J1y ls os ts) m→(chN (J1y ls os ts) m).1.top=[]→ChartAt CH CR cs H' x xl (J1y ls os ts) m→KeepX x H H'→Q .non H'
theorem scCInit:FnScope ["self","line","rest","rests","steps","towers","bands","step","behind"] ["self","line"] (J2 J5i):=⟨rfl,rfl,rfl,by decide +kernel,rfl,by decide +kernel,by decide +kernel⟩
theorem line16:(6367451:Nat) + 5≤sizeLine:=by rw [sizeLine_eq];decide
theorem big_tow {p:Cst} (h:Cok p) (ne:p.1.top≠[]):CBig (p.2.getD (nextN p.1).winner 0) (nextN p.1).times:=by
 have w:=(nextP h.ok ne).win h.ok ne
 have h1:=h.tow.le h.ok w
 have h2:=h.tow.pos _ w
 have h3:=(nextP h.ok ne).times h.ok ne h.size30
 have e:(10:Nat) ^ 30 < 2 ^ 4000:=by decide
 exact ⟨Nat.lt_of_le_of_lt (show (p.2.getD (nextN p.1).winner 0).natAbs≤10 ^ 30 by omega) e,Nat.lt_of_le_of_lt h3 e⟩
theorem ok_cinit {f fRO fFT fN fBL fTB C CR CH:Addr} {fd fdRO fdFT fdN fdBL fdTB:FuncData} {cs:Kd→Addr} (F:Fun K "__init__" "Chart.__init__" J5i f fd) (T:TxtR mg) (TR:TxtRest K CR) (TS:TxtS K cs) (TH:TxtCh K CH)
  (GRO:FnOk P w K mg base CX0 4 fRO fdRO ["line"] (J7e C CR)) (bRO:Binds K fdRO ["line"] []) (mRO:mg "rest_of"=some (.ref fRO)) (kRO:PySem.W.keepIn K (.ref fRO)=true)
  (GFT:FnOk P w K mg base CX0 1 fFT fdFT ["line"] (J7f C)) (bFT:Binds K fdFT ["line"] []) (mFT:mg "first_towers"=some (.ref fFT)) (kFT:PySem.W.keepIn K (.ref fFT)=true)
  (GN:FnOk P w K mg base CX0 5 fN fdN ["rest"] (spNext cs CR)) (bN:Binds K fdN ["rest"] []) (mN:mg "next_step"=some (.ref fN)) (kN:PySem.W.keepIn K (.ref fN)=true)
  (HB:∀ k,HasM P w K mg base CX0 4 "behind" ["self","rest"] (J24 cs CR k) (cs k))
  (GBL:FnOk P w K mg base CX0 2 fBL fdBL ["step","rest","behind","towers"] (J7g cs CR)) (bBL:Binds K fdBL ["step","rest","behind","towers"] []) (mBL:mg "bands_left"=some (.ref fBL)) (kBL:PySem.W.keepIn K (.ref fBL)=true)
  (GTB:FnOk P w K mg base CX0 3 fTB fdTB ["towers","step","rest","behind"] (spTowB cs CR)) (bTB:Binds K fdTB ["towers","step","rest","behind"] []) (mTB:mg "towers_behind"=some (.ref fTB)) (kTB:PySem.W.keepIn K (.ref fTB)=true) :
  FnOk P w K mg base CX0 6 f fd ["self","line"] (spCInit C CR CH cs):=by
 refine F.ok scCInit (fun vs H Q E h=>?_) (fun cdv A outer s H vs Q E hr h=>?_)
 ·obtain ⟨x,dx,xl,ls,os,ts,rfl,_⟩:=h
  rfl
 ·obtain ⟨x,dx,xl,ls,os,ts,rfl,hx,L,ok0,hz0,h1,k⟩:=h
  have hr1:Room 1 _:=hr.mono (by decide)
  have hr2:Room 2 _:=hr.mono (by decide)
  have hr3:Room 3 _:=hr.mono (by decide)
  have hr4:Room 4 _:=hr.mono (by decide)
  have hr5:Room 5 _:=hr.mono (by decide)
  refine ⟨_,J3 (Jn (i:=2) scCInit.nd rfl (Or.inl rfl) (Jd GRO hr4 rfl mRO kRO bRO .nil pass0 (J0 (pv 1) J6)))
   (J3 (Jn (i:=3) scCInit.nd rfl (Or.inl rfl) (J2n (J0 (pv 2) J6)))
   (J3 (Jn (i:=4) scCInit.nd rfl (Or.inl rfl) (J2n J6))
   (J3 (Jn (i:=5) scCInit.nd rfl (Or.inl rfl) (J2n (J0 (Jd GFT hr1 rfl mFT kFT bFT .nil pass0 (J0 (pv 1) J6)) J6)))
   (J3 (Jn (i:=6) scCInit.nd rfl (Or.inl rfl) (J2n J6))
   (J3 (ps_while PassesOwn.never (Jo op_gt (Jh (pv 2) rfl) Jb (Jp _))
    (J3 (Jn (i:=7) scCInit.nd rfl (Or.inl rfl) (Jd GN hr5 rfl mN kN bN .nil pass0 (J0 (pv 2) J6)))
    (J3 (Jn (i:=8) scCInit.nd rfl (Or.inl rfl) (J4e (sp:=J24 cs CR) (cls:=cs) (pv 7) HB hr4 pass0 (J0 (pv 2) J6)))
    (J3 (J12 (pe_bm PySem.F.plainAttrs_list PySem.F.slot_list_extend PySem.F.type_list_extend mt_extend (pv 6) (J0 (Jd GBL hr2 rfl mBL kBL bBL .nil pass0 (J0 (pv 7) (J0 (pv 2) (J0 (pv 8) (J0 (pe_ix J19 (pv 5) (pe_un J2j Jb) (fun _ _=>rfl)) J6))))) J6)))
    (J3 (J12 (pe_bm PySem.F.plainAttrs_list PySem.F.slot_list_append PySem.F.type_list_append J1t (pv 5) (J0 (Jd GTB hr3 rfl mTB kTB bTB .nil pass0 (J0 (pe_ix J19 (pv 5) (pe_un J2j Jb) (fun _ _=>rfl)) (J0 (pv 7) (J0 (pv 2) (J0 (pv 8) J6))))) J6)))
    (J3 (J12 (pe_bm PySem.F.plainAttrs_list PySem.F.slot_list_append PySem.F.type_list_append J1t (pv 4) (J0 (pv 7) J6)))
    (J3 (J12 (pe_bm PySem.F.plainAttrs_list PySem.F.slot_list_append PySem.F.type_list_append J1t (pv 3) (J0 (pv 8) J6)))
    (J9 (Jn (i:=2) scCInit.nd rfl (Or.inl rfl) (pv 8))))))))))
   (J3 (J2f (pv 0) (pv 1) rfl)
   (J3 (J2f (pv 0) (Jk J1i (by rfl) T.tuple PyProof.Rows.boot_tuple (J0 (pv 3) J6)) rfl)
   (J3 (J2f (pv 0) (Jk J1i (by rfl) T.tuple PyProof.Rows.boot_tuple (J0 (pv 4) J6)) rfl)
   (J3 (J2f (pv 0) (Jk J1i (by rfl) T.tuple PyProof.Rows.boot_tuple (J0 (pv 5) J6)) rfl)
   (J9 (J2f (pv 0) (Jk J1i (by rfl) T.tuple PyProof.Rows.boot_tuple (J0 (pv 6) J6)) rfl))))))))))),?_⟩
  have few:=ok0.few
  have cok0:Cok (J1y ls os ts):=J5v ok0 hz0
  refine ⟨_,rfl,xl,ls,os,ts,rfl,L,few,fun y0 Hr sr R0=>?_⟩
  refine ⟨_,rfl,(by show 1≤sizeLine;decide),fun lr hlr=>⟨Nat.zero_le _,fun lq hlq=>?_⟩⟩
  have sa:=J8 (o:=.lst [V.ref y0]) hlr
  have sb:=sa.trans (J8 (o:=.lst []) hlq)
  refine ⟨_,rfl,xl,ls,os,ts,rfl,(L.same sr).same sb,h1,few,fun t0 Ht st ht0=>⟨(by show 1≤sizeLine;decide),fun lt hlt=>⟨Nat.zero_le _,fun lb hlb=>?_⟩⟩⟩
  have sc:=sb.trans st
  have sd:=J8 (o:=.lst [V.ref t0]) hlt
  have se:=J8 (o:=.lst []) hlb
  have sf:=(sc.trans sd).trans se
  have fr_r:Hr lr=none:=hlr
  have fr_q:Hr lq=none:=sa.free hlq
  have fr_t:Hr lt=none:=sc.free hlt
  have fr_b:Hr lb=none:=(sc.trans sd).free hlb
  have n_qr:lq≠lr:=fun e=>by rw [e,J4] at hlq;cases hlq
  have hr_t:Ht lr=some (.lst [V.ref y0]):=st _ _ (J8 (o:=.lst []) hlq _ _ J4)
  have hq_t:Ht lq=some (.lst []):=st _ _ J4
  have n_rt:lr≠lt:=Ja hr_t hlt
  have n_qt:lq≠lt:=Ja hq_t hlt
  have n_rb:lr≠lb:=Ja (sd _ _ hr_t) hlb
  have n_qb:lq≠lb:=Ja (sd _ _ hq_t) hlb
  have n_tb:lt≠lb:=Ja (J4 (H:=Ht) (a:=lt) (o:=.lst [V.ref t0])) hlb
  have gr:(upd (upd Ht lt (.lst [V.ref t0])) lb (.lst [])) lr=some (.lst [V.ref y0]):=se _ _ (sd _ _ hr_t)
  have gq:(upd (upd Ht lt (.lst [V.ref t0])) lb (.lst [])) lq=some (.lst []):=se _ _ (sd _ _ hq_t)
  have gt:(upd (upd Ht lt (.lst [V.ref t0])) lb (.lst [])) lt=some (.lst [V.ref t0]):=se _ _ J4
  have gb:(upd (upd Ht lt (.lst [V.ref t0])) lb (.lst [])) lb=some (.lst []):=J4
  have gy:=R0.same sf
  have g0:(upd (upd Ht lt (.lst [V.ref t0])) lb (.lst [])) t0=some (.tup (iV (List.replicate ls.length 1))):=se _ _ (sd _ _ ht0)
  generalize (upd (upd Ht lt (.lst [V.ref t0])) lb (.lst []))=Hs at *
  generalize hp0:J1y ls os ts=p0 at *
  have e0:J3h ls os ts=(chN p0 0).1:=by rw [← hp0];rfl
  have e1:List.replicate ls.length 1=(chN p0 0).2:=by rw [← hp0];rfl
  rw [e0] at gy
  rw [e1] at g0
  clear R0 hr_t hq_t ht0 hlr hlq hlt hlb
  have hxr:=sr _ _ hx
  refine ⟨fun m σ Hw=>∃ (i:Nat) (y:Addr) (xr xs xt xb:List V) (v7 v8:Option V),σ=[some (.ref x),some (.ref xl),some (.ref y),some (.ref lr),some (.ref lq),some (.ref lt),some (.ref lb),v7,v8]∧Long p0 i∧RestAt CR Hw y (chN p0 i).1∧Same Hr Hw∧
    (Hw lr=some (.lst xr)∧Hw lq=some (.lst xs)∧Hw lt=some (.lst xt)∧Hw lb=some (.lst xb))∧Refs (fun q i=>RestAt CR Hw q (chN p0 i).1) xr (i + 1)∧Refs (fun q i=>StepAt cs Hw q (nextN (chN p0 i).1)) xs i∧Refs (fun q i=>Hw q=some (.tup (iV (chN p0 i).2))) xt (i + 1)∧
    Refs (fun q j=>Hw q=some (.tup (bandV ((bndN p0 i).getD j bz)))) xb (bndN p0 i).length∧m=(chN p0 i).1.size.toNat,
   ⟨_,0,y0,_,_,_,_,none,none,rfl,(fun i hi=>absurd hi (Nat.not_lt_zero _)),gy,sf,⟨gr,gq,gt,gb⟩,Refs.nil.snoc gy,Refs.nil,Refs.nil.snoc g0,Refs.nil,rfl⟩,?_⟩
  rintro m σ Hw ⟨i,y,xr,xs,xt,xb,v7,v8,rfl,lg,R,sw,⟨hr_,hq_,ht_,hb_⟩,rr,rs,rt,rb,rfl⟩
  obtain ⟨dy,fy,yt,yb,yl,yu,q0,⟨q1,q2,q3,q4,q5⟩,p1,p2,p3,p4⟩:=R.ex
  have cok:=cok0.at_ lg
  have few_i:=cok0.few lg
  refine ⟨_,rfl,y,CR,dy,fy,_,rfl,q0,TR.cl,TR.nZ,q5,_,_,rfl,rfl,_,rfl,?_⟩
  by_cases c:(chN p0 i).1.top=[]
  ·have sz:(chN p0 i).1.size=0:=by unfold Rst.size;rw [c];rfl
   refine iteD (by rw [sz];decide) ?_
   have hxw:=sw _ _ hxr
   have hxw':Hw x=some (.ins CH dx []):=hxw
   refine ⟨_,rfl,_,rfl,x,CH,dx,[],rfl,hxw',TH.cl,TH.nL,(by show 0 < 1000;decide),?_⟩
   generalize hfs1:putF ("line":Str) (.ref xl) []=fs1
   generalize hH2:upd Hw x (.ins CH dx fs1)=H2
   have l1:fs1.length≤1:=by rw [← hfs1];exact Jr ..
   have k2:KeepX x Hw H2:=by rw [← hH2];exact KeepX.upd
   have hx2:H2 x=some (.ins CH dx fs1):=by rw [← hH2];exact J4
   have nr:lr≠x:=ne_of hr_ hxw' (by intro z;cases z)
   have nq:lq≠x:=ne_of hq_ hxw' (by intro z;cases z)
   have nt:lt≠x:=ne_of ht_ hxw' (by intro z;cases z)
   have nb:lb≠x:=ne_of hb_ hxw' (by intro z;cases z)
   refine ⟨_,rfl,J1l (.inl (k2 _ _ hr_ nr)) fun pr H3 s3 hpr=>⟨_,rfl,x,CH,dx,fs1,rfl,s3 _ _ hx2,TH.cl,TH.nR,(by omega),?_⟩⟩
   generalize hfs2:putF ("rests":Str) (.ref pr) fs1=fs2
   generalize hH4:upd H3 x (.ins CH dx fs2)=H4
   have l2:fs2.length≤2:=by rw [← hfs2];have:=Jr ("rests":Str) (.ref pr) fs1;omega
   have k24:KeepX x H2 H4:=by rw [← hH4];exact (KeepX.of s3).trans KeepX.upd
   have k4:KeepX x Hw H4:=k2.trans k24
   have hx4:H4 x=some (.ins CH dx fs2):=by rw [← hH4];exact J4
   have prx:pr≠x:=ne_of hpr (s3 _ _ hx2) (by intro z;cases z)
   have hpr4:H4 pr=some (.tup xr):=by rw [← hH4,Jc prx];exact hpr
   refine ⟨_,rfl,J1l (.inl (k4 _ _ hq_ nq)) fun ps H5 s5 hps=>⟨_,rfl,x,CH,dx,fs2,rfl,s5 _ _ hx4,TH.cl,TH.nS,(by omega),?_⟩⟩
   generalize hfs3:putF ("steps":Str) (.ref ps) fs2=fs3
   generalize hH6:upd H5 x (.ins CH dx fs3)=H6
   have l3:fs3.length≤3:=by rw [← hfs3];have:=Jr ("steps":Str) (.ref ps) fs2;omega
   have k46:KeepX x H4 H6:=by rw [← hH6];exact (KeepX.of s5).trans KeepX.upd
   have k6:KeepX x Hw H6:=k4.trans k46
   have hx6:H6 x=some (.ins CH dx fs3):=by rw [← hH6];exact J4
   have psx:ps≠x:=ne_of hps (s5 _ _ hx4) (by intro z;cases z)
   have hps6:H6 ps=some (.tup xs):=by rw [← hH6,Jc psx];exact hps
   refine ⟨_,rfl,J1l (.inl (k6 _ _ ht_ nt)) fun pt H7 s7 hpt=>⟨_,rfl,x,CH,dx,fs3,rfl,s7 _ _ hx6,TH.cl,TH.nT,(by omega),?_⟩⟩
   generalize hfs4:putF ("towers":Str) (.ref pt) fs3=fs4
   generalize hH8:upd H7 x (.ins CH dx fs4)=H8
   have l4:fs4.length≤4:=by rw [← hfs4];have:=Jr ("towers":Str) (.ref pt) fs3;omega
   have k68:KeepX x H6 H8:=by rw [← hH8];exact (KeepX.of s7).trans KeepX.upd
   have k8:KeepX x Hw H8:=k6.trans k68
   have hx8:H8 x=some (.ins CH dx fs4):=by rw [← hH8];exact J4
   have ptx:pt≠x:=ne_of hpt (s7 _ _ hx6) (by intro z;cases z)
   have hpt8:H8 pt=some (.tup xt):=by rw [← hH8,Jc ptx];exact hpt
   have lkL:fs4.lookup ("line":Str)=some (.ref xl):=by rw [← hfs4,lk_ne (by decide +kernel),← hfs3,lk_ne (by decide +kernel),← hfs2,lk_ne (by decide +kernel),← hfs1,J1m]
   have lkR:fs4.lookup ("rests":Str)=some (.ref pr):=by rw [← hfs4,lk_ne (by decide +kernel),← hfs3,lk_ne (by decide +kernel),← hfs2,J1m]
   have lkS:fs4.lookup ("steps":Str)=some (.ref ps):=by rw [← hfs4,lk_ne (by decide +kernel),← hfs3,J1m]
   have lkT:fs4.lookup ("towers":Str)=some (.ref pt):=by rw [← hfs4,J1m]
   refine ⟨_,rfl,J1l (.inl (k8 _ _ hb_ nb)) fun pb H9 s9 hpb=>⟨_,rfl,x,CH,dx,fs4,rfl,s9 _ _ hx8,TH.cl,TH.nB,(by omega),?_⟩⟩
   have k8z:KeepX x H8 (upd H9 x (.ins CH dx (putF ("bands":Str) (.ref pb) fs4))):=(KeepX.of s9).trans KeepX.upd
   have kz:KeepX x Hw (upd H9 x (.ins CH dx (putF ("bands":Str) (.ref pb) fs4))):=k8.trans k8z
   have pbx:pb≠x:=ne_of hpb (s9 _ _ hx8) (by intro z;cases z)
   have zb:(upd H9 x (.ins CH dx (putF ("bands":Str) (.ref pb) fs4))) pb=some (.tup xb):=by rw [Jc pbx];exact hpb
   have zx:(upd H9 x (.ins CH dx (putF ("bands":Str) (.ref pb) fs4))) x=some (.ins CH dx (putF ("bands":Str) (.ref pb) fs4)):=J4
   generalize (upd H9 x (.ins CH dx (putF ("bands":Str) (.ref pb) fs4)))=Hz at *
   have keepR:∀ q r,RestAt CR Hw q r→RestAt CR Hz q r:=fun q r a=>by
    obtain ⟨dq,fq,q1,q2,q3,q4,a0,al,a1,a2,a3,a4⟩:=a.ex
    have nx:∀ {b:Addr} {zs:List V},Hw b=some (.tup zs)→Hz b=some (.tup zs):=fun e=>kz _ _ e (ne_of e hxw' (by intro z;cases z))
    refine ⟨dq,fq,q1,q2,q3,q4,kz _ _ a0 (fun e=>?_),al,nx a1,nx a2,nx a3,nx a4⟩
    rw [e,hxw'] at a0
    have:=(Option.some.inj a0)
    injection this with _ _ e3
    rw [← e3] at al
    exact nomatch al.1
   have keepS:∀ q s,StepAt cs Hw q s→StepAt cs Hz q s:=fun q s ⟨dq,a⟩=>⟨dq,kz _ _ a (fun e=>by
    rw [e,hxw'] at a
    have:=(Option.some.inj a)
    injection this with _ _ e3
    have w:=stF_w s
    rw [← e3] at w
    exact nomatch w)⟩
   have keepT:∀ (q:Addr) (zs:List V),Hw q=some (.tup zs)→Hz q=some (.tup zs):=fun q zs a=>kz _ _ a (ne_of a hxw' (by intro z;cases z))
   refine k i Hz lg c ⟨dx,_,pr,ps,pt,pb,xr,xs,xt,xb,zx,⟨by rw [lk_ne (by decide +kernel),lkL],by rw [lk_ne (by decide +kernel),lkR],by rw [lk_ne (by decide +kernel),lkS],by rw [lk_ne (by decide +kernel),lkT],J1m⟩,
    ⟨k8z _ _ (k68 _ _ (k46 _ _ hpr4 prx) prx) prx,k8z _ _ (k68 _ _ hps6 psx) psx,k8z _ _ hpt8 ptx,zb⟩,rr.mono fun q j _ a=>keepR _ _ a,rs.mono fun q j _ a=>keepS _ _ a,rt.mono fun q j _ a=>keepT _ _ a,rb.mono fun q j _ a=>keepT _ _ a⟩ ?_
   exact (KeepX.of (sr.trans sw)).trans kz
  ·have szp:0 < (chN p0 i).1.size:=by
    have:=J20 cok.ok.row.pos c
    show 0 < lenOf _ _
    omega
   refine iteDT szp ?_
   have down:=cok.ok.down c
   have win:=(nextP cok.ok c).win cok.ok c
   have hz:=cok.size30
   have fit:=next_fit cok.ok c hz
   have tlen:=cok.tow.len
   have wl:=cok.ok.row.lt _ win
   have big:=big_tow cok c
   have lg':Long p0 (i + 1):=fun j hj=>by
    by_cases e:j=i
    ·subst e;exact c
    ·exact lg j (by omega)
   have few':=cok0.few lg'
   obtain ⟨tq,etq,htq⟩:=rt.at_ i (by omega)
   have last:=atI_last rt.len etq
   have l16:=line16
   have bl:=bndN_len p0 i
   refine ⟨_,fun σ' H' h=>h,?_⟩
   refine ⟨_,rfl,y,(chN p0 i).1,rfl,R,cok.ok,c,hz,fun xp Hn sn ⟨dxp,hxp⟩=>?_⟩
   refine ⟨_,rfl,xp,kd (nextN (chN p0 i).1),dxp,stF (nextN (chN p0 i).1),rfl,hxp,stF_no _ (by decide +kernel) (by decide +kernel) (by decide +kernel),_,rfl,xp,y,nextN (chN p0 i).1,(chN p0 i).1,rfl,rfl,⟨dxp,hxp⟩,R.same sn,fit,fun z Hb sbh Z=>?_⟩
   have Z:RestAt CR Hb z (chN p0 (i + 1)).1:=Z
   have snb:=sn.trans sbh
   have X1:StepAt cs Hb xp (nextN (chN p0 i).1):=⟨dxp,sbh _ _ hxp⟩
   have ht1:=snb _ _ ht_
   have hb1:=snb _ _ hb_
   have go:∀ (Hc:Hp) (zb:List V),Frz Hb Hc→Same Hr Hc→Hc lr=some (.lst xr)→Hc lq=some (.lst xs)→Hc lt=some (.lst xt)→Hc lb=some (.lst zb)→Refs (fun q j=>Hc q=some (.tup (bandV ((bndN p0 (i + 1)).getD j bz)))) zb (bndN p0 (i + 1)).length→
     ∀ (tq2:Addr) (Hd:Hp),Same Hc Hd→Hd tq2=some (.tup (iV (chN p0 (i + 1)).2))→
     (∃ m',m' < (chN p0 i).1.size.toNat∧∃ (i':Nat) (y':Addr) (xr' xs' xt' xb':List V) (v7 v8:Option V),[some (V.ref x),some (.ref xl),some (.ref z),some (.ref lr),some (.ref lq),some (.ref lt),some (.ref lb),some (.ref xp),some (.ref z)]=[some (.ref x),some (.ref xl),some (.ref y'),some (.ref lr),some (.ref lq),some (.ref lt),some (.ref lb),v7,v8]∧Long p0 i'∧RestAt CR (upd (upd (upd Hd lt (.lst (xt ++ [.ref tq2]))) lq (.lst (xs ++ [.ref xp]))) lr (.lst (xr ++ [.ref z]))) y' (chN p0 i').1∧Same Hr (upd (upd (upd Hd lt (.lst (xt ++ [.ref tq2]))) lq (.lst (xs ++ [.ref xp]))) lr (.lst (xr ++ [.ref z])))∧
      ((upd (upd (upd Hd lt (.lst (xt ++ [.ref tq2]))) lq (.lst (xs ++ [.ref xp]))) lr (.lst (xr ++ [.ref z]))) lr=some (.lst xr')∧(upd (upd (upd Hd lt (.lst (xt ++ [.ref tq2]))) lq (.lst (xs ++ [.ref xp]))) lr (.lst (xr ++ [.ref z]))) lq=some (.lst xs')∧(upd (upd (upd Hd lt (.lst (xt ++ [.ref tq2]))) lq (.lst (xs ++ [.ref xp]))) lr (.lst (xr ++ [.ref z]))) lt=some (.lst xt')∧(upd (upd (upd Hd lt (.lst (xt ++ [.ref tq2]))) lq (.lst (xs ++ [.ref xp]))) lr (.lst (xr ++ [.ref z]))) lb=some (.lst xb'))∧
      Refs (fun q i=>RestAt CR (upd (upd (upd Hd lt (.lst (xt ++ [.ref tq2]))) lq (.lst (xs ++ [.ref xp]))) lr (.lst (xr ++ [.ref z]))) q (chN p0 i).1) xr' (i' + 1)∧Refs (fun q i=>StepAt cs (upd (upd (upd Hd lt (.lst (xt ++ [.ref tq2]))) lq (.lst (xs ++ [.ref xp]))) lr (.lst (xr ++ [.ref z]))) q (nextN (chN p0 i).1)) xs' i'∧Refs (fun q i=>(upd (upd (upd Hd lt (.lst (xt ++ [.ref tq2]))) lq (.lst (xs ++ [.ref xp]))) lr (.lst (xr ++ [.ref z]))) q=some (.tup (iV (chN p0 i).2))) xt' (i' + 1)∧
      Refs (fun q j=>(upd (upd (upd Hd lt (.lst (xt ++ [.ref tq2]))) lq (.lst (xs ++ [.ref xp]))) lr (.lst (xr ++ [.ref z]))) q=some (.tup (bandV ((bndN p0 i').getD j bz)))) xb' (bndN p0 i').length∧m'=(chN p0 i').1.size.toNat):=by
    intro Hc zb fc src cr cq ct cb rbc tq2 Hd sd2 htq2
    have dr:=sd2 _ _ cr
    have dq:=sd2 _ _ cq
    have dt:=sd2 _ _ ct
    have db:=sd2 _ _ cb
    have f1:Frz Hd (upd Hd lt (.lst (xt ++ [.ref tq2]))):=Frz.upd dt
    have f2:Frz (upd Hd lt (.lst (xt ++ [.ref tq2]))) (upd (upd Hd lt (.lst (xt ++ [.ref tq2]))) lq (.lst (xs ++ [.ref xp]))):=Frz.upd (xs:=xs) (by rw [Jc n_qt];exact dq)
    have f3:Frz (upd (upd Hd lt (.lst (xt ++ [.ref tq2]))) lq (.lst (xs ++ [.ref xp]))) (upd (upd (upd Hd lt (.lst (xt ++ [.ref tq2]))) lq (.lst (xs ++ [.ref xp]))) lr (.lst (xr ++ [.ref z]))):=Frz.upd (xs:=xr) (by rw [Jc (Ne.symm n_qr),Jc n_rt];exact dr)
    have fde:=(f1.trans f2).trans f3
    have sre:Same Hr (upd (upd (upd Hd lt (.lst (xt ++ [.ref tq2]))) lq (.lst (xs ++ [.ref xp]))) lr (.lst (xr ++ [.ref z]))):=fun b o e=>by
     rw [Jc (Ja e fr_r),Jc (Ja e fr_q),Jc (Ja e fr_t)]
     exact sd2 _ _ (src _ _ e)
    have er:(upd (upd (upd Hd lt (.lst (xt ++ [.ref tq2]))) lq (.lst (xs ++ [.ref xp]))) lr (.lst (xr ++ [.ref z]))) lr=some (.lst (xr ++ [.ref z])):=J4
    have eq:(upd (upd (upd Hd lt (.lst (xt ++ [.ref tq2]))) lq (.lst (xs ++ [.ref xp]))) lr (.lst (xr ++ [.ref z]))) lq=some (.lst (xs ++ [.ref xp])):=by rw [Jc n_qr,J4]
    have et:(upd (upd (upd Hd lt (.lst (xt ++ [.ref tq2]))) lq (.lst (xs ++ [.ref xp]))) lr (.lst (xr ++ [.ref z]))) lt=some (.lst (xt ++ [.ref tq2])):=by rw [Jc (Ne.symm n_rt),Jc (Ne.symm n_qt),J4]
    have eb:(upd (upd (upd Hd lt (.lst (xt ++ [.ref tq2]))) lq (.lst (xs ++ [.ref xp]))) lr (.lst (xr ++ [.ref z]))) lb=some (.lst zb):=by rw [Jc (Ne.symm n_rb),Jc (Ne.symm n_qb),Jc (Ne.symm n_tb)];exact db
    generalize (upd (upd (upd Hd lt (.lst (xt ++ [.ref tq2]))) lq (.lst (xs ++ [.ref xp]))) lr (.lst (xr ++ [.ref z])))=He at *
    have fwe:Frz Hw He:=((((Frz.of snb).trans fc).trans (Frz.of sd2)).trans fde)
    have fbe:Frz Hb He:=((fc).trans (Frz.of sd2)).trans fde
    have Ze:=Z.frz fbe
    refine ⟨(chN p0 (i + 1)).1.size.toNat,?_,i + 1,z,_,_,_,_,_,_,rfl,lg',Ze,sre,⟨er,eq,et,eb⟩,(rr.mono fun q j _ a=>a.frz fwe).snoc Ze,(rs.mono fun q j _ a=>a.frz fwe).snoc (X1.frz fbe),(rt.mono fun q j _ a=>fwe _ _ a (fun _ e=>nomatch e)).snoc (fde _ _ htq2 (fun _ e=>nomatch e)),rbc.mono fun q j _ a=>((Frz.of sd2).trans fde) _ _ a (fun _ e=>nomatch e),rfl⟩
    have:=down.less
    have e:(chN p0 (i + 1)).1.size=((nextN (chN p0 i).1).behind (chN p0 i).1).size:=rfl
    rw [e]
    omega
   refine ⟨_,rfl,.inl ⟨rfl,_,SqL.of hb1⟩,_,rfl,_,rfl,_,rfl,_,rfl,_,rfl,lt,_,_,_,rfl,rfl,SqL.of ht1,last,tq,xp,y,z,nextN (chN p0 i).1,(chN p0 i).1,(chN p0 i).2,rfl,snb _ _ htq,X1,R.same snb,Z,wl,(by rw [cok.ok.len];exact wl),(by rw [tlen];exact wl),fun hh bp Hc0 sc0 hbp=>?_,fun hh bp bq Hc0 sc0 hbp hbq=>?_⟩
   ·have eB:bndN p0 (i + 1)=bndN p0 i:=by
     show bndN p0 i ++ bndB (chN p0 i)=_
     unfold bndB
     rw [if_neg (by rw [hh];decide),List.append_nil]
    have hb2:=sc0 _ _ hb1
    refine ⟨lb,bp,xb,[],rfl,rfl,hb2,hbp,(by rw [rb.len];show _ + 0≤_;omega),?_⟩
    have fc:Frz Hb (upd Hc0 lb (.lst (xb ++ []))):=(Frz.of sc0).trans (Frz.upd hb2)
    have src:Same Hr (upd Hc0 lb (.lst (xb ++ []))):=fun b o e=>by
     rw [Jc (Ja e fr_b)]
     exact sc0 _ _ (snb _ _ (sw _ _ e))
    have cr:(upd Hc0 lb (.lst (xb ++ []))) lr=some (.lst xr):=by rw [Jc n_rb];exact sc0 _ _ (snb _ _ hr_)
    have cq:(upd Hc0 lb (.lst (xb ++ []))) lq=some (.lst xs):=by rw [Jc n_qb];exact sc0 _ _ (snb _ _ hq_)
    have ct:(upd Hc0 lb (.lst (xb ++ []))) lt=some (.lst xt):=by rw [Jc n_tb];exact sc0 _ _ ht1
    have cb:(upd Hc0 lb (.lst (xb ++ []))) lb=some (.lst (xb ++ [])):=J4
    generalize (upd Hc0 lb (.lst (xb ++ [])))=Hc at *
    have rbc:Refs (fun q j=>Hc q=some (.tup (bandV ((bndN p0 (i + 1)).getD j bz)))) (xb ++ []) (bndN p0 (i + 1)).length:=by
     rw [eB,List.append_nil]
     exact rb.mono fun q j _ a=>((Frz.of snb).trans fc) _ _ a (fun _ e=>nomatch e)
    refine ⟨_,rfl,.inl ⟨rfl,_,SqL.of ct⟩,_,rfl,_,rfl,lt,_,_,_,rfl,rfl,SqL.of ct,last,_,rfl,_,rfl,_,rfl,tq,xp,y,z,nextN (chN p0 i).1,(chN p0 i).1,(chN p0 i).2,rfl,((Frz.of snb).trans fc) _ _ htq (fun _ e=>nomatch e),X1.frz fc,R.frz ((Frz.of snb).trans fc),Z.frz fc,win,cok.ok.perm.mem_iff.mpr win,(by rw [tlen];exact wl),(by rw [tlen];exact cok.ok.few),big,fun tq2 Hd sd2 htq2=>?_⟩
    refine ⟨lt,_,_,rfl,rfl,sd2 _ _ ct,(by rw [rt.len];omega),?_⟩
    refine ⟨_,rfl,.inl ⟨rfl,_,SqL.of (xs:=xs) (by rw [Jc n_qt];exact sd2 _ _ cq)⟩,_,rfl,lq,xs,_,rfl,rfl,(by rw [Jc n_qt];exact sd2 _ _ cq),(by rw [rs.len];omega),?_⟩
    refine ⟨_,rfl,.inl ⟨rfl,_,SqL.of (xs:=xr) (by rw [Jc (Ne.symm n_qr),Jc n_rt];exact sd2 _ _ cr)⟩,_,rfl,lr,xr,_,rfl,rfl,(by rw [Jc (Ne.symm n_qr),Jc n_rt];exact sd2 _ _ cr),(by rw [rr.len];omega),?_⟩
    exact ⟨_,rfl,go Hc _ fc src cr cq ct cb rbc tq2 Hd sd2 htq2⟩
   ·have eB:bndN p0 (i + 1)=bndN p0 i ++ [((chS (chN p0 i)).1.size,(chN p0 i).1.ls.getD (nextN (chN p0 i).1).winner 0,(chN p0 i).2.getD (nextN (chN p0 i).1).winner 0,(chN p0 i).1.ts.getD (nextN (chN p0 i).1).winner false)]:=by
     show bndN p0 i ++ bndB (chN p0 i)=_
     unfold bndB
     rw [if_pos hh]
    have hb2:=sc0 _ _ hb1
    refine ⟨lb,bp,xb,[.ref bq],rfl,rfl,hb2,hbp,(by rw [rb.len];show _ + 1≤_;omega),?_⟩
    have fc:Frz Hb (upd Hc0 lb (.lst (xb ++ [.ref bq]))):=(Frz.of sc0).trans (Frz.upd hb2)
    have fq:(upd Hc0 lb (.lst (xb ++ [.ref bq]))) bq=_:=(Frz.upd (ys:=xb ++ [.ref bq]) hb2) _ _ hbq (fun _ e=>nomatch e)
    have src:Same Hr (upd Hc0 lb (.lst (xb ++ [.ref bq]))):=fun b o e=>by
     rw [Jc (Ja e fr_b)]
     exact sc0 _ _ (snb _ _ (sw _ _ e))
    have cr:(upd Hc0 lb (.lst (xb ++ [.ref bq]))) lr=some (.lst xr):=by rw [Jc n_rb];exact sc0 _ _ (snb _ _ hr_)
    have cq:(upd Hc0 lb (.lst (xb ++ [.ref bq]))) lq=some (.lst xs):=by rw [Jc n_qb];exact sc0 _ _ (snb _ _ hq_)
    have ct:(upd Hc0 lb (.lst (xb ++ [.ref bq]))) lt=some (.lst xt):=by rw [Jc n_tb];exact sc0 _ _ ht1
    have cb:(upd Hc0 lb (.lst (xb ++ [.ref bq]))) lb=some (.lst (xb ++ [.ref bq])):=J4
    generalize (upd Hc0 lb (.lst (xb ++ [.ref bq])))=Hc at *
    have rbc:Refs (fun q j=>Hc q=some (.tup (bandV ((bndN p0 (i + 1)).getD j bz)))) (xb ++ [.ref bq]) (bndN p0 (i + 1)).length:=by
     have r1:Refs (fun q j=>Hc q=some (.tup (bandV ((bndN p0 (i + 1)).getD j bz)))) xb (bndN p0 i).length:=rb.mono fun q j hj a=>by
      have e:(bndN p0 (i + 1)).getD j bz=(bndN p0 i).getD j bz:=by
       rw [eB,List.getD_eq_getElem?_getD,List.getElem?_append_left hj]
       exact (List.getD_eq_getElem?_getD ..).symm
      rw [e]
      exact ((Frz.of snb).trans fc) _ _ a (fun _ e=>nomatch e)
     have e2:(bndN p0 (i + 1)).length=(bndN p0 i).length + 1:=by rw [eB,List.length_append];rfl
     rw [e2]
     refine r1.snoc ?_
     have e:(bndN p0 (i + 1)).getD (bndN p0 i).length bz=((chS (chN p0 i)).1.size,(chN p0 i).1.ls.getD (nextN (chN p0 i).1).winner 0,(chN p0 i).2.getD (nextN (chN p0 i).1).winner 0,(chN p0 i).1.ts.getD (nextN (chN p0 i).1).winner false):=by
      rw [eB,List.getD_eq_getElem?_getD,List.getElem?_append_right (Nat.le_refl _),Nat.sub_self];rfl
     rw [e]
     exact fq
    refine ⟨_,rfl,.inl ⟨rfl,_,SqL.of ct⟩,_,rfl,_,rfl,lt,_,_,_,rfl,rfl,SqL.of ct,last,_,rfl,_,rfl,_,rfl,tq,xp,y,z,nextN (chN p0 i).1,(chN p0 i).1,(chN p0 i).2,rfl,((Frz.of snb).trans fc) _ _ htq (fun _ e=>nomatch e),X1.frz fc,R.frz ((Frz.of snb).trans fc),Z.frz fc,win,cok.ok.perm.mem_iff.mpr win,(by rw [tlen];exact wl),(by rw [tlen];exact cok.ok.few),big,fun tq2 Hd sd2 htq2=>?_⟩
    refine ⟨lt,_,_,rfl,rfl,sd2 _ _ ct,(by rw [rt.len];omega),?_⟩
    refine ⟨_,rfl,.inl ⟨rfl,_,SqL.of (xs:=xs) (by rw [Jc n_qt];exact sd2 _ _ cq)⟩,_,rfl,lq,xs,_,rfl,rfl,(by rw [Jc n_qt];exact sd2 _ _ cq),(by rw [rs.len];omega),?_⟩
    refine ⟨_,rfl,.inl ⟨rfl,_,SqL.of (xs:=xr) (by rw [Jc (Ne.symm n_qr),Jc n_rt];exact sd2 _ _ cr)⟩,_,rfl,lr,xr,_,rfl,rfl,(by rw [Jc (Ne.symm n_qr),Jc n_rt];exact sd2 _ _ cr),(by rw [rr.len];omega),?_⟩
    exact ⟨_,rfl,go Hc _ fc src cr cq ct cb rbc tq2 Hd sd2 htq2⟩
end
end R25
namespace R25
open PySem L2 Rl
section
variable {P:Program} {w:World} {K:PySem.W.Frag} {mg:Str→Option Value} {base:Heap}
def numSt:Stp→Int
 | .home _=>0 | .even _ b=>b | .over _ b=>b | .under _ b=>b | .overs _ t=>t | .unders _ t=>t
def rowV (s:Stp):List V:=[.str (wordS (kd s)),.int (s.winner:Nat),.int (numSt s)]
def MayS (r:Rst):Stp→Prop
 | .home a=>a=lastT r∧a=lastB r
 | .even a b=>a≠b∧a=lastT r∧b=lastB r∧r.ls.getD a 0=r.ls.getD b 0
 | .over a b=>a≠b∧a=lastT r∧b=lastB r∧r.ls.getD b 0 < r.ls.getD a 0
 | .under a b=>b≠a∧b=lastT r∧a=lastB r∧r.ls.getD b 0 < r.ls.getD a 0
 | .overs a t=>a≠lastB r∧a=lastT r∧1≤t∧t≤J10 r a r.bot
 | .unders a t=>lastT r≠a∧a=lastB r∧1≤t∧t≤J10 r a r.top
theorem nW {k k':Kd} (h:k≠k'):¬ V.str (wordS k)=V.str (wordS k'):=by revert h;cases k <;> cases k' <;> decide +kernel
theorem behB {r:Rst} (ok:r.Ok) (hz:r.size≤10 ^ 30) {row:List Nat} {a:Nat} (hp:row.Perm r.top):lenOf r.ls (J1 row a)≤10 ^ 30:=by
 have hpos:∀ j∈row,1≤r.ls.getD j 0:=fun j hj=>ok.row.pos j (hp.mem_iff.mp hj)
 have h1:lenOf r.ls row=r.size:=J1n hp
 have h2:lenOf r.ls row=lenOf r.ls (row.take (row.idxOf a + 1)) + lenOf r.ls (J1 row a):=by
  rw [← Jx]
  show _=lenOf r.ls (row.take (row.idxOf a + 1) ++ row.drop (row.idxOf a + 1))
  rw [List.take_append_drop]
 have h3:=Jw (ls:=r.ls) (os:=row.take (row.idxOf a + 1)) fun j hj=>by have:=hpos j (List.mem_of_mem_take hj);omega
 omega
theorem emp_nV {row:List Nat} (h:row≠[]):(nV row).isEmpty=false:=by
 rw [nV_eq]
 cases row with
 | nil=>exact absurd rfl h
 | cons _ _=>rfl
theorem qb {Q:VK} {H:Hp} {b c:Bool} (q:Q (.bl c) H) (e:b=c):Q (.bl b) H:=by rw [e];exact q
def spEnds (CR:Addr):Sp:=fun vs H Q _=>∃ (y:Addr) (r:Rst) (a b:Int),vs=[.ref y,.int a,.int b]∧RestAt CR H y r∧r.Ok∧r.top≠[]∧Q (.bl (decide (a≠b∧a=(lastT r:Int)∧b=(lastB r:Int)))) H
theorem scEnds:FnScope ["rest","last_top","last_bottom"] ["rest","last_top","last_bottom"] (J2 sEnds):=⟨rfl,rfl,rfl,by decide +kernel,rfl,by decide +kernel,by decide +kernel⟩
theorem ok_ends {f  CR : Addr} {fd  : FuncData}  (F : Fun K "ends_are" "ends_are" sEnds f fd) (TR : TxtRest K CR)
 :
    FnOk P w K mg base CX0 1 f fd ["rest", "last_top", "last_bottom"] (spEnds CR) := by
  refine F.ok scEnds (fun vs H Q E h => ?_) (fun cdv A outer s H vs Q E hr h => ?_)
  · obtain ⟨y, r, a, b, rfl, _⟩ := h
    rfl
  · obtain ⟨y, r, a, b, rfl, R, ok, ne, k⟩ := h
    refine ⟨_, (J9 (Jl (J3z (J1c op_ne (pv 1) (pv 2) (Jp _)) (J3z (J1c op_eq (pv 1) (pe_ix Jj (Jh (pv 0) rfl) (pe_un J2j Jb) (fun _ _ => rfl)) (Jp _)) (J64 (J1c op_eq (pv 2) (pe_ix Jj (Jh (pv 0) rfl) (pe_un J2j Jb) (fun _ _ => rfl)) (Jp _))))))), ?_⟩
    obtain ⟨dr, fr, pt, pb, pl, pu, h0, ⟨k1, k2, k3, k4, k5⟩, e1, e2, e3, e4⟩ := R.ex
    have neB : r.bot ≠ [] := fun e => by
      have := ok.lens
      rw [e] at this
      exact ne (List.length_eq_zero_iff.mp this.symm)
    by_cases c1 : a = b
    · refine ⟨_, rfl, _, rfl, rfl, false, (by rw [decide_eq_true (congrArg V.int c1)]; rfl), iteF ?_⟩
      rw [decide_eq_false (fun h => h.1 c1)] at k
      exact k
    refine ⟨_, rfl, _, rfl, rfl, true, (by rw [decide_eq_false (J3d c1)]; rfl), iteT ?_⟩
    by_cases c2 : a = (lastT r : Int)
    · refine ⟨_, rfl, _, rfl, y, CR, dr, fr, _, rfl, h0, TR.cl, TR.nT, k1, _, rfl, pt, _, _, _, rfl, rfl, SqT.of e1, J16 ne, rfl, true, (by rw [decide_eq_true (congrArg V.int c2)]), iteT ?_⟩
      refine ⟨_, rfl, _, rfl, y, CR, dr, fr, _, rfl, h0, TR.cl, TR.nB, k2, _, rfl, pb, _, _, _, rfl, rfl, SqT.of e2, J16 neB, rfl, ?_⟩
      refine qb (Q := Q) k ?_
      by_cases c3 : b = (lastB r : Int)
      · rw [decide_eq_true (congrArg V.int c3), decide_eq_true ⟨c1, c2, c3⟩]
      · rw [decide_eq_false (J3d c3), decide_eq_false (fun h => c3 h.2.2)]
    · refine ⟨_, rfl, _, rfl, y, CR, dr, fr, _, rfl, h0, TR.cl, TR.nT, k1, _, rfl, pt, _, _, _, rfl, rfl, SqT.of e1, J16 ne, rfl, false, (by rw [decide_eq_false (J3d c2)]), iteF ?_⟩
      rw [decide_eq_false (fun h => c2 h.2.1)] at k
      exact k
def spMayHo (CR:Addr):Sp:=fun vs H Q _=>∃ (y:Addr) (r:Rst) (a n:Int),vs=[.ref y,.int a,.int n]∧RestAt CR H y r∧r.Ok∧r.top≠[]∧Q (.bl (decide (a=(lastT r:Int)∧a=(lastB r:Int)∧n=0))) H
theorem scMayHo:FnScope ["rest","winner","number"] ["rest","winner","number"] (J2 sMayHo):=⟨rfl,rfl,rfl,by decide +kernel,rfl,by decide +kernel,by decide +kernel⟩
theorem ok_mayHo {f  CR : Addr} {fd  : FuncData}  (F : Fun K "may_home" "may_home" sMayHo f fd) (TR : TxtRest K CR)
 :
    FnOk P w K mg base CX0 1 f fd ["rest", "winner", "number"] (spMayHo CR) := by
  refine F.ok scMayHo (fun vs H Q E h => ?_) (fun cdv A outer s H vs Q E hr h => ?_)
  · obtain ⟨y, r, a, n, rfl, _⟩ := h
    rfl
  · obtain ⟨y, r, a, n, rfl, R, ok, ne, k⟩ := h
    refine ⟨_, (J9 (Jl (J3z (J1c op_eq (pv 1) (pe_ix Jj (Jh (pv 0) rfl) (pe_un J2j Jb) (fun _ _ => rfl)) (Jp _)) (J3z (J1c op_eq (pv 1) (pe_ix Jj (Jh (pv 0) rfl) (pe_un J2j Jb) (fun _ _ => rfl)) (Jp _)) (J64 (J1c op_eq (pv 2) Jb (Jp _))))))), ?_⟩
    obtain ⟨dr, fr, pt, pb, pl, pu, h0, ⟨k1, k2, k3, k4, k5⟩, e1, e2, e3, e4⟩ := R.ex
    have neB : r.bot ≠ [] := fun e => by
      have := ok.lens
      rw [e] at this
      exact ne (List.length_eq_zero_iff.mp this.symm)
    by_cases c1 : a = (lastT r : Int)
    · refine ⟨_, rfl, _, rfl, y, CR, dr, fr, _, rfl, h0, TR.cl, TR.nT, k1, _, rfl, pt, _, _, _, rfl, rfl, SqT.of e1, J16 ne, rfl, true, (by rw [decide_eq_true (congrArg V.int c1)]), iteT ?_⟩
      by_cases c2 : a = (lastB r : Int)
      · refine ⟨_, rfl, _, rfl, y, CR, dr, fr, _, rfl, h0, TR.cl, TR.nB, k2, _, rfl, pb, _, _, _, rfl, rfl, SqT.of e2, J16 neB, rfl, true, (by rw [decide_eq_true (congrArg V.int c2)]), iteT ?_⟩
        refine ⟨_, rfl, rfl, ?_⟩
        refine qb (Q := Q) k ?_
        by_cases c3 : n = 0
        · rw [decide_eq_true (congrArg V.int c3), decide_eq_true ⟨c1, c2, c3⟩]
        · rw [decide_eq_false (J3d c3), decide_eq_false (fun h => c3 h.2.2)]
      · refine ⟨_, rfl, _, rfl, y, CR, dr, fr, _, rfl, h0, TR.cl, TR.nB, k2, _, rfl, pb, _, _, _, rfl, rfl, SqT.of e2, J16 neB, rfl, false, (by rw [decide_eq_false (J3d c2)]), iteF ?_⟩
        rw [decide_eq_false (fun h => c2 h.2.1)] at k
        exact k
    · refine ⟨_, rfl, _, rfl, y, CR, dr, fr, _, rfl, h0, TR.cl, TR.nT, k1, _, rfl, pt, _, _, _, rfl, rfl, SqT.of e1, J16 ne, rfl, false, (by rw [decide_eq_false (J3d c1)]), iteF ?_⟩
      rw [decide_eq_false (fun h => c1 h.1)] at k
      exact k
def spMayEv (CR:Addr):Sp:=fun vs H Q _=>∃ (y:Addr) (r:Rst) (a b:Int),vs=[.ref y,.int a,.int b]∧RestAt CR H y r∧r.Ok∧r.top≠[]∧Q (.bl (decide ((a≠b∧a=(lastT r:Int)∧b=(lastB r:Int))∧r.ls.getD (lastT r) 0=r.ls.getD (lastB r) 0))) H
theorem scMayEv:FnScope ["rest","winner","loser"] ["rest","winner","loser"] (J2 sMayEv):=⟨rfl,rfl,rfl,by decide +kernel,rfl,by decide +kernel,by decide +kernel⟩
theorem ok_mayEv {f fEn CR:Addr} {fd fdEn:FuncData}  (F:Fun K "may_even" "may_even" sMayEv f fd) (TR:TxtRest K CR)
  (GEn:FnOk P w K mg base CX0 1 fEn fdEn ["rest","last_top","last_bottom"] (spEnds CR)) (bEn:Binds K fdEn ["rest","last_top","last_bottom"] []) (mEn:mg "ends_are"=some (.ref fEn)) (kEn:PySem.W.keepIn K (.ref fEn)=true) :
  FnOk P w K mg base CX0 2 f fd ["rest","winner","loser"] (spMayEv CR):=by
 refine F.ok scMayEv (fun vs H Q E h=>?_) (fun cdv A outer s H vs Q E hr h=>?_)
 ·obtain ⟨y,r,a,b,rfl,_⟩:=h
  rfl
 ·obtain ⟨y,r,a,b,rfl,R,ok,ne,k⟩:=h
  have hr1:Room 1 _:=hr.mono (by decide)
  refine ⟨_,(J9 (Jl (J3z (Jd GEn hr1 rfl mEn kEn bEn .nil pass0 (J0 (pv 0) (J0 (pv 1) (J0 (pv 2) J6)))) (J64 (J1c op_eq (pe_ix Jj (Jh (pv 0) rfl) (pv 1) (fun _ _=>rfl)) (pe_ix Jj (Jh (pv 0) rfl) (pv 2) (fun _ _=>rfl)) (Jp _)))))),?_⟩
  obtain ⟨dr,fr,pt,pb,pl,pu,h0,⟨k1,k2,k3,k4,k5⟩,e1,e2,e3,e4⟩:=R.ex
  have neB:r.bot≠[]:=fun e=>by
   have:=ok.lens
   rw [e] at this
   exact ne (List.length_eq_zero_iff.mp this.symm)
  have lT:=ok.row.lt _ (ok.mT ne)
  have lB:=ok.row.lt _ (ok.mB ne)
  refine ⟨_,rfl,_,rfl,_,rfl,y,r,_,_,rfl,R,ok,ne,_,rfl,?_⟩
  by_cases c:(a≠b∧a=(lastT r:Int)∧b=(lastB r:Int))
  ·refine iteDT c ?_
   refine ⟨_,rfl,y,CR,dr,fr,_,rfl,h0,TR.cl,TR.nL,k3,_,rfl,pl,_,_,_,rfl,rfl,SqT.of e3,(by rw [c.2.1];exact J7 (J13 lT)),_,rfl,y,CR,dr,fr,_,rfl,h0,TR.cl,TR.nL,k3,_,rfl,pl,_,_,_,rfl,rfl,SqT.of e3,(by rw [c.2.2];exact J7 (J13 lB)),rfl,?_⟩
   refine qb (Q:=Q) k ?_
   by_cases c3:r.ls.getD (lastT r) 0=r.ls.getD (lastB r) 0
   ·rw [decide_eq_true (congrArg V.int c3),decide_eq_true ⟨c,c3⟩]
   ·rw [decide_eq_false (J3d c3),decide_eq_false (fun h=>c3 h.2)]
  ·refine iteD c ?_
   rw [decide_eq_false (fun h=>c h.1)] at k
   exact k
def spMayOv (CR:Addr):Sp:=fun vs H Q _=>∃ (y:Addr) (r:Rst) (a b:Int),vs=[.ref y,.int a,.int b]∧RestAt CR H y r∧r.Ok∧r.top≠[]∧Q (.bl (decide ((a≠b∧a=(lastT r:Int)∧b=(lastB r:Int))∧r.ls.getD (lastT r) 0 > r.ls.getD (lastB r) 0))) H
theorem scMayOv:FnScope ["rest","winner","loser"] ["rest","winner","loser"] (J2 sMayOv):=⟨rfl,rfl,rfl,by decide +kernel,rfl,by decide +kernel,by decide +kernel⟩
theorem ok_mayOv {f fEn CR:Addr} {fd fdEn:FuncData}  (F:Fun K "may_over" "may_over" sMayOv f fd) (TR:TxtRest K CR)
  (GEn:FnOk P w K mg base CX0 1 fEn fdEn ["rest","last_top","last_bottom"] (spEnds CR)) (bEn:Binds K fdEn ["rest","last_top","last_bottom"] []) (mEn:mg "ends_are"=some (.ref fEn)) (kEn:PySem.W.keepIn K (.ref fEn)=true) :
  FnOk P w K mg base CX0 2 f fd ["rest","winner","loser"] (spMayOv CR):=by
 refine F.ok scMayOv (fun vs H Q E h=>?_) (fun cdv A outer s H vs Q E hr h=>?_)
 ·obtain ⟨y,r,a,b,rfl,_⟩:=h
  rfl
 ·obtain ⟨y,r,a,b,rfl,R,ok,ne,k⟩:=h
  have hr1:Room 1 _:=hr.mono (by decide)
  refine ⟨_,(J9 (Jl (J3z (Jd GEn hr1 rfl mEn kEn bEn .nil pass0 (J0 (pv 0) (J0 (pv 1) (J0 (pv 2) J6)))) (J64 (J1c op_gt (pe_ix Jj (Jh (pv 0) rfl) (pv 1) (fun _ _=>rfl)) (pe_ix Jj (Jh (pv 0) rfl) (pv 2) (fun _ _=>rfl)) (Jp _)))))),?_⟩
  obtain ⟨dr,fr,pt,pb,pl,pu,h0,⟨k1,k2,k3,k4,k5⟩,e1,e2,e3,e4⟩:=R.ex
  have neB:r.bot≠[]:=fun e=>by
   have:=ok.lens
   rw [e] at this
   exact ne (List.length_eq_zero_iff.mp this.symm)
  have lT:=ok.row.lt _ (ok.mT ne)
  have lB:=ok.row.lt _ (ok.mB ne)
  refine ⟨_,rfl,_,rfl,_,rfl,y,r,_,_,rfl,R,ok,ne,_,rfl,?_⟩
  by_cases c:(a≠b∧a=(lastT r:Int)∧b=(lastB r:Int))
  ·refine iteDT c ?_
   refine ⟨_,rfl,y,CR,dr,fr,_,rfl,h0,TR.cl,TR.nL,k3,_,rfl,pl,_,_,_,rfl,rfl,SqT.of e3,(by rw [c.2.1];exact J7 (J13 lT)),_,rfl,y,CR,dr,fr,_,rfl,h0,TR.cl,TR.nL,k3,_,rfl,pl,_,_,_,rfl,rfl,SqT.of e3,(by rw [c.2.2];exact J7 (J13 lB)),_,_,rfl,rfl,?_⟩
   refine qb (Q:=Q) k ?_
   by_cases c3:r.ls.getD (lastT r) 0 > r.ls.getD (lastB r) 0
   ·rw [decide_eq_true c3,decide_eq_true ⟨c,c3⟩]
   ·rw [decide_eq_false c3,decide_eq_false (fun h=>c3 h.2)]
  ·refine iteD c ?_
   rw [decide_eq_false (fun h=>c h.1)] at k
   exact k
def spMayUn (CR:Addr):Sp:=fun vs H Q _=>∃ (y:Addr) (r:Rst) (a b:Int),vs=[.ref y,.int a,.int b]∧RestAt CR H y r∧r.Ok∧r.top≠[]∧Q (.bl (decide ((b≠a∧b=(lastT r:Int)∧a=(lastB r:Int))∧r.ls.getD (lastB r) 0 > r.ls.getD (lastT r) 0))) H
theorem scMayUn:FnScope ["rest","winner","loser"] ["rest","winner","loser"] (J2 sMayUn):=⟨rfl,rfl,rfl,by decide +kernel,rfl,by decide +kernel,by decide +kernel⟩
theorem ok_mayUn {f fEn CR:Addr} {fd fdEn:FuncData}  (F:Fun K "may_under" "may_under" sMayUn f fd) (TR:TxtRest K CR)
  (GEn:FnOk P w K mg base CX0 1 fEn fdEn ["rest","last_top","last_bottom"] (spEnds CR)) (bEn:Binds K fdEn ["rest","last_top","last_bottom"] []) (mEn:mg "ends_are"=some (.ref fEn)) (kEn:PySem.W.keepIn K (.ref fEn)=true) :
  FnOk P w K mg base CX0 2 f fd ["rest","winner","loser"] (spMayUn CR):=by
 refine F.ok scMayUn (fun vs H Q E h=>?_) (fun cdv A outer s H vs Q E hr h=>?_)
 ·obtain ⟨y,r,a,b,rfl,_⟩:=h
  rfl
 ·obtain ⟨y,r,a,b,rfl,R,ok,ne,k⟩:=h
  have hr1:Room 1 _:=hr.mono (by decide)
  refine ⟨_,(J9 (Jl (J3z (Jd GEn hr1 rfl mEn kEn bEn .nil pass0 (J0 (pv 0) (J0 (pv 2) (J0 (pv 1) J6)))) (J64 (J1c op_gt (pe_ix Jj (Jh (pv 0) rfl) (pv 1) (fun _ _=>rfl)) (pe_ix Jj (Jh (pv 0) rfl) (pv 2) (fun _ _=>rfl)) (Jp _)))))),?_⟩
  obtain ⟨dr,fr,pt,pb,pl,pu,h0,⟨k1,k2,k3,k4,k5⟩,e1,e2,e3,e4⟩:=R.ex
  have neB:r.bot≠[]:=fun e=>by
   have:=ok.lens
   rw [e] at this
   exact ne (List.length_eq_zero_iff.mp this.symm)
  have lT:=ok.row.lt _ (ok.mT ne)
  have lB:=ok.row.lt _ (ok.mB ne)
  refine ⟨_,rfl,_,rfl,_,rfl,y,r,_,_,rfl,R,ok,ne,_,rfl,?_⟩
  by_cases c:(b≠a∧b=(lastT r:Int)∧a=(lastB r:Int))
  ·refine iteDT c ?_
   refine ⟨_,rfl,y,CR,dr,fr,_,rfl,h0,TR.cl,TR.nL,k3,_,rfl,pl,_,_,_,rfl,rfl,SqT.of e3,(by rw [c.2.2];exact J7 (J13 lB)),_,rfl,y,CR,dr,fr,_,rfl,h0,TR.cl,TR.nL,k3,_,rfl,pl,_,_,_,rfl,rfl,SqT.of e3,(by rw [c.2.1];exact J7 (J13 lT)),_,_,rfl,rfl,?_⟩
   refine qb (Q:=Q) k ?_
   by_cases c3:r.ls.getD (lastB r) 0 > r.ls.getD (lastT r) 0
   ·rw [decide_eq_true c3,decide_eq_true ⟨c,c3⟩]
   ·rw [decide_eq_false c3,decide_eq_false (fun h=>c3 h.2)]
  ·refine iteD c ?_
   rw [decide_eq_false (fun h=>c h.1)] at k
   exact k
def spMayOs (CR:Addr):Sp:=fun vs H Q _=>∃ (y:Addr) (r:Rst) (a t:Int),vs=[.ref y,.int a,.int t]∧RestAt CR H y r∧r.Ok∧r.top≠[]∧r.size≤10 ^ 30∧∀ H',Same H H'→Q (.bl (decide ((a≠(lastB r:Int)∧a=(lastT r:Int)∧(lastB r:Int)=(lastB r:Int))∧1≤t∧t≤J10 r (lastT r) r.bot))) H'
theorem scMayOs:FnScope ["rest","winner","times","ends"] ["rest","winner","times"] (J2 sMayOs):=⟨rfl,rfl,rfl,by decide +kernel,rfl,by decide +kernel,by decide +kernel⟩
theorem ok_mayOs {f fEn fT CR:Addr} {fd fdEn fdT:FuncData}  (F:Fun K "may_overs" "may_overs" sMayOs f fd) (TR:TxtRest K CR)
  (GEn:FnOk P w K mg base CX0 1 fEn fdEn ["rest","last_top","last_bottom"] (spEnds CR)) (bEn:Binds K fdEn ["rest","last_top","last_bottom"] []) (mEn:mg "ends_are"=some (.ref fEn)) (kEn:PySem.W.keepIn K (.ref fEn)=true)
  (GT:FnOk P w K mg base CX0 2 fT fdT ["rest","winner","row"] (J6s CR)) (bT:Binds K fdT ["rest","winner","row"] []) (mT:mg "whole_times"=some (.ref fT)) (kT:PySem.W.keepIn K (.ref fT)=true) :
  FnOk P w K mg base CX0 3 f fd ["rest","winner","times"] (spMayOs CR):=by
 refine F.ok scMayOs (fun vs H Q E h=>?_) (fun cdv A outer s H vs Q E hr h=>?_)
 ·obtain ⟨y,r,a,t,rfl,_⟩:=h
  rfl
 ·obtain ⟨y,r,a,t,rfl,R,ok,ne,hz,k⟩:=h
  have hr1:Room 1 _:=hr.mono (by decide)
  have hr2:Room 2 _:=hr.mono (by decide)
  refine ⟨_,(J3 (Jn (i:=3) scMayOs.nd rfl (Or.inl rfl) (Jd GEn hr1 rfl mEn kEn bEn .nil pass0 (J0 (pv 0) (J0 (pv 1) (J0 (pe_ix Jj (Jh (pv 0) rfl) (pe_un J2j Jb) (fun _ _=>rfl)) J6)))))
   (J9 (Jl (J3z (pv 3) (J3z (J1c op_ge (pv 2) Jb (Jp _)) (J64 (J1c op_le (pv 2) (Jd GT hr2 rfl mT kT bT .nil pass0 (J0 (pv 0) (J0 (pv 1) (J0 (Jh (pv 0) rfl) J6)))) (Jp _)))))))),?_⟩
  obtain ⟨dr,fr,pt,pb,pl,pu,h0,⟨k1,k2,k3,k4,k5⟩,e1,e2,e3,e4⟩:=R.ex
  have neB:r.bot≠[]:=fun e=>by
   have:=ok.lens
   rw [e] at this
   exact ne (List.length_eq_zero_iff.mp this.symm)
  have mT:=ok.mT ne
  have mB:=ok.mB ne
  refine ⟨_,rfl,_,rfl,_,rfl,y,CR,dr,fr,_,rfl,h0,TR.cl,TR.nB,k2,_,rfl,pb,_,_,_,rfl,rfl,SqT.of e2,J16 neB,y,r,_,_,rfl,R,ok,ne,?_⟩
  by_cases c:a≠(lastB r:Int)∧a=(lastT r:Int)∧(lastB r:Int)=(lastB r:Int)
  ·rw [decide_eq_true c]
   refine ⟨_,rfl,true,rfl,iteT ?_⟩
   by_cases c1:1≤t
   ·refine ⟨_,rfl,_,_,rfl,rfl,true,(by show V.bl (decide (t≥1))=V.bl true;rw [decide_eq_true (show t≥1 from c1)]),iteT ?_⟩
    have ha:lastT r∈r.bot:=ok.perm.mem_iff.mpr mT
    have hrow:Row r.ls r.bot:=ok.rowB
    have bne:J1 r.bot (lastT r)≠[]:=J28 ha (fun e=>c.1 (by rw [c.2.1,← e]))
    have b1:1≤lenOf r.ls (J1 r.bot (lastT r)):=J20 (fun j hj=>hrow.pos j (Jg hj)) bne
    have b2:lenOf r.ls (J1 r.bot (lastT r))≤10 ^ 30:=behB ok hz ok.perm
    refine ⟨_,rfl,_,rfl,_,rfl,_,rfl,y,CR,dr,fr,_,rfl,h0,TR.cl,TR.nB,k2,y,_,r,lastT r,r.bot,(by rw [c.2.1];rfl),R,ok,e2,ha,hrow.lt _ ha,hrow.lt,rowFew hrow ok.few,b1,b2,fun H1 s1=>?_⟩
    refine ⟨_,_,rfl,rfl,?_⟩
    refine qb (Q:=Q) (k H1 s1) ?_
    by_cases c2:t≤J10 r (lastT r) r.bot
    ·rw [decide_eq_true c2,decide_eq_true ⟨c,c1,c2⟩]
    ·rw [decide_eq_false c2,decide_eq_false (fun h=>c2 h.2.2)]
   ·refine ⟨_,rfl,_,_,rfl,rfl,false,(by show V.bl (decide (t≥1))=V.bl false;rw [decide_eq_false (show ¬ t≥1 from c1)]),iteF ?_⟩
    have:=k H (Same.refl _)
    rw [decide_eq_false (fun h=>c1 h.2.1)] at this
    exact this
  ·rw [decide_eq_false c]
   refine ⟨_,rfl,false,rfl,iteF ?_⟩
   have:=k H (Same.refl _)
   rw [decide_eq_false (fun h=>c h.1)] at this
   exact this
def spMayUs (CR:Addr):Sp:=fun vs H Q _=>∃ (y:Addr) (r:Rst) (a t:Int),vs=[.ref y,.int a,.int t]∧RestAt CR H y r∧r.Ok∧r.top≠[]∧r.size≤10 ^ 30∧∀ H',Same H H'→Q (.bl (decide (((lastT r:Int)≠a∧(lastT r:Int)=(lastT r:Int)∧a=(lastB r:Int))∧1≤t∧t≤J10 r (lastB r) r.top))) H'
theorem scMayUs:FnScope ["rest","winner","times","ends"] ["rest","winner","times"] (J2 sMayUs):=⟨rfl,rfl,rfl,by decide +kernel,rfl,by decide +kernel,by decide +kernel⟩
theorem ok_mayUs {f fEn fT CR:Addr} {fd fdEn fdT:FuncData}  (F:Fun K "may_unders" "may_unders" sMayUs f fd) (TR:TxtRest K CR)
  (GEn:FnOk P w K mg base CX0 1 fEn fdEn ["rest","last_top","last_bottom"] (spEnds CR)) (bEn:Binds K fdEn ["rest","last_top","last_bottom"] []) (mEn:mg "ends_are"=some (.ref fEn)) (kEn:PySem.W.keepIn K (.ref fEn)=true)
  (GT:FnOk P w K mg base CX0 2 fT fdT ["rest","winner","row"] (J6s CR)) (bT:Binds K fdT ["rest","winner","row"] []) (mT:mg "whole_times"=some (.ref fT)) (kT:PySem.W.keepIn K (.ref fT)=true) :
  FnOk P w K mg base CX0 3 f fd ["rest","winner","times"] (spMayUs CR):=by
 refine F.ok scMayUs (fun vs H Q E h=>?_) (fun cdv A outer s H vs Q E hr h=>?_)
 ·obtain ⟨y,r,a,t,rfl,_⟩:=h
  rfl
 ·obtain ⟨y,r,a,t,rfl,R,ok,ne,hz,k⟩:=h
  have hr1:Room 1 _:=hr.mono (by decide)
  have hr2:Room 2 _:=hr.mono (by decide)
  refine ⟨_,(J3 (Jn (i:=3) scMayUs.nd rfl (Or.inl rfl) (Jd GEn hr1 rfl mEn kEn bEn .nil pass0 (J0 (pv 0) (J0 (pe_ix Jj (Jh (pv 0) rfl) (pe_un J2j Jb) (fun _ _=>rfl)) (J0 (pv 1) J6)))))
   (J9 (Jl (J3z (pv 3) (J3z (J1c op_ge (pv 2) Jb (Jp _)) (J64 (J1c op_le (pv 2) (Jd GT hr2 rfl mT kT bT .nil pass0 (J0 (pv 0) (J0 (pv 1) (J0 (Jh (pv 0) rfl) J6)))) (Jp _)))))))),?_⟩
  obtain ⟨dr,fr,pt,pb,pl,pu,h0,⟨k1,k2,k3,k4,k5⟩,e1,e2,e3,e4⟩:=R.ex
  have neB:r.bot≠[]:=fun e=>by
   have:=ok.lens
   rw [e] at this
   exact ne (List.length_eq_zero_iff.mp this.symm)
  have mT:=ok.mT ne
  have mB:=ok.mB ne
  refine ⟨_,rfl,_,rfl,y,CR,dr,fr,_,rfl,h0,TR.cl,TR.nT,k1,_,rfl,pt,_,_,_,rfl,rfl,SqT.of e1,J16 ne,_,rfl,y,r,_,_,rfl,R,ok,ne,?_⟩
  by_cases c:(lastT r:Int)≠a∧(lastT r:Int)=(lastT r:Int)∧a=(lastB r:Int)
  ·rw [decide_eq_true c]
   refine ⟨_,rfl,true,rfl,iteT ?_⟩
   by_cases c1:1≤t
   ·refine ⟨_,rfl,_,_,rfl,rfl,true,(by show V.bl (decide (t≥1))=V.bl true;rw [decide_eq_true (show t≥1 from c1)]),iteT ?_⟩
    have ha:lastB r∈r.top:=mB
    have hrow:Row r.ls r.top:=ok.row
    have bne:J1 r.top (lastB r)≠[]:=J28 ha (fun e=>c.1 (by rw [c.2.2,← e]))
    have b1:1≤lenOf r.ls (J1 r.top (lastB r)):=J20 (fun j hj=>hrow.pos j (Jg hj)) bne
    have b2:lenOf r.ls (J1 r.top (lastB r))≤10 ^ 30:=behB ok hz (List.Perm.refl _)
    refine ⟨_,rfl,_,rfl,_,rfl,_,rfl,y,CR,dr,fr,_,rfl,h0,TR.cl,TR.nT,k1,y,_,r,lastB r,r.top,(by rw [c.2.2];rfl),R,ok,e1,ha,hrow.lt _ ha,hrow.lt,rowFew hrow ok.few,b1,b2,fun H1 s1=>?_⟩
    refine ⟨_,_,rfl,rfl,?_⟩
    refine qb (Q:=Q) (k H1 s1) ?_
    by_cases c2:t≤J10 r (lastB r) r.top
    ·rw [decide_eq_true c2,decide_eq_true ⟨c,c1,c2⟩]
    ·rw [decide_eq_false c2,decide_eq_false (fun h=>c2 h.2.2)]
   ·refine ⟨_,rfl,_,_,rfl,rfl,false,(by show V.bl (decide (t≥1))=V.bl false;rw [decide_eq_false (show ¬ t≥1 from c1)]),iteF ?_⟩
    have:=k H (Same.refl _)
    rw [decide_eq_false (fun h=>c1 h.2.1)] at this
    exact this
  ·rw [decide_eq_false c]
   refine ⟨_,rfl,false,rfl,iteF ?_⟩
   have:=k H (Same.refl _)
   rw [decide_eq_false (fun h=>c h.1)] at this
   exact this
end
section
variable {P:Program} {w:World} {K:PySem.W.Frag} {mg:Str→Option Value} {base:Heap}
def spStepRow (cs:Kd→Addr) (CR:Addr):Sp:=fun vs H Q _=>∃ (y:Addr) (r:Rst) (w:Str) (a n:Int),vs=[.ref y,.str w,.int a,.int n]∧RestAt CR H y r∧r.Ok∧r.size≤10 ^ 30∧
 (∀ s,r.top≠[]→MayS r s→rowV s=[.str w,.int a,.int n]→∀ p H',Same H H'→StepAt cs H' p s→Q (.ref p) H')∧((∀ s,MayS r s→rowV s=[.str w,.int a,.int n]→r.top=[])→∀ H',Same H H'→Q .non H')
theorem J7k {s:Stp} {k:Kd} {a n:Int} (h:rowV s=[.str (wordS k),.int a,.int n]):kd s=k∧(s.winner:Int)=a∧numSt s=n:=by
 unfold rowV at h
 injection h with h1 h2
 injection h2 with h2 h3
 injection h3 with h3 _
 refine ⟨?_,V.int.inj h2,V.int.inj h3⟩
 apply Classical.byContradiction
 intro c
 exact nW c h1
theorem scStepRow:FnScope ["rest","word","winner","number"] ["rest","word","winner","number"] (J2 J3u):=⟨rfl,rfl,rfl,by decide +kernel,rfl,by decide +kernel,by decide +kernel⟩
theorem ok_stepRow {f fMh fMev fMov fMun fMos fMus fHo fEv fOv fUn fOs fUs CR:Addr} {fd fdMh fdMev fdMov fdMun fdMos fdMus fdHo fdEv fdOv fdUn fdOs fdUs:FuncData} {cs:Kd→Addr} (F:Fun K "step_of_row" "step_of_row" J3u f fd) (TR:TxtRest K CR)
  (GMh:FnOk P w K mg base CX0 1 fMh fdMh ["rest","winner","number"] (spMayHo CR)) (bMh:Binds K fdMh ["rest","winner","number"] []) (mMh:mg "may_home"=some (.ref fMh)) (kMh:PySem.W.keepIn K (.ref fMh)=true)
  (GMev:FnOk P w K mg base CX0 2 fMev fdMev ["rest","winner","loser"] (spMayEv CR)) (bMev:Binds K fdMev ["rest","winner","loser"] []) (mMev:mg "may_even"=some (.ref fMev)) (kMev:PySem.W.keepIn K (.ref fMev)=true)
  (GMov:FnOk P w K mg base CX0 2 fMov fdMov ["rest","winner","loser"] (spMayOv CR)) (bMov:Binds K fdMov ["rest","winner","loser"] []) (mMov:mg "may_over"=some (.ref fMov)) (kMov:PySem.W.keepIn K (.ref fMov)=true)
  (GMun:FnOk P w K mg base CX0 2 fMun fdMun ["rest","winner","loser"] (spMayUn CR)) (bMun:Binds K fdMun ["rest","winner","loser"] []) (mMun:mg "may_under"=some (.ref fMun)) (kMun:PySem.W.keepIn K (.ref fMun)=true)
  (GMos:FnOk P w K mg base CX0 3 fMos fdMos ["rest","winner","times"] (spMayOs CR)) (bMos:Binds K fdMos ["rest","winner","times"] []) (mMos:mg "may_overs"=some (.ref fMos)) (kMos:PySem.W.keepIn K (.ref fMos)=true)
  (GMus:FnOk P w K mg base CX0 3 fMus fdMus ["rest","winner","times"] (spMayUs CR)) (bMus:Binds K fdMus ["rest","winner","times"] []) (mMus:mg "may_unders"=some (.ref fMus)) (kMus:PySem.W.keepIn K (.ref fMus)=true)
  (MHo:Mk K (cs .ho) fHo) (GHo:FnOk P w K mg base CX0 2 fHo fdHo ["self","winner"] (spMk cs aHo)) (bHo:Binds K fdHo ["self","winner"] []) (mgHo:mg "Home"=some (.ref (cs .ho)))
  (MEv:Mk K (cs .ev) fEv) (GEv:FnOk P w K mg base CX0 2 fEv fdEv ["self","winner","loser"] (spMk cs aEv)) (bEv:Binds K fdEv ["self","winner","loser"] []) (mgEv:mg "Even"=some (.ref (cs .ev)))
  (MOv:Mk K (cs .ov) fOv) (GOv:FnOk P w K mg base CX0 2 fOv fdOv ["self","winner","loser"] (spMk cs aOv)) (bOv:Binds K fdOv ["self","winner","loser"] []) (mgOv:mg "Over"=some (.ref (cs .ov)))
  (MUn:Mk K (cs .un) fUn) (GUn:FnOk P w K mg base CX0 2 fUn fdUn ["self","winner","loser"] (spMk cs aUn)) (bUn:Binds K fdUn ["self","winner","loser"] []) (mgUn:mg "Under"=some (.ref (cs .un)))
  (MOs:Mk K (cs .os) fOs) (GOs:FnOk P w K mg base CX0 2 fOs fdOs ["self","winner","times"] (spMk cs aOs)) (bOs:Binds K fdOs ["self","winner","times"] []) (mgOs:mg "Overs"=some (.ref (cs .os)))
  (MUs:Mk K (cs .us) fUs) (GUs:FnOk P w K mg base CX0 2 fUs fdUs ["self","winner","times"] (spMk cs aUs)) (bUs:Binds K fdUs ["self","winner","times"] []) (mgUs:mg "Unders"=some (.ref (cs .us))) :
  FnOk P w K mg base CX0 4 f fd ["rest","word","winner","number"] (spStepRow cs CR):=by
 refine F.ok scStepRow (fun vs H Q E h=>?_) (fun cdv A outer s H vs Q E hr h=>?_)
 ·obtain ⟨y,r,w,a,n,rfl,_⟩:=h
  rfl
 ·obtain ⟨y,r,w,a,n,rfl,R,ok,hz,kp,kn⟩:=h
  have hr1:Room 1 _:=hr.mono (by decide)
  have hr2:Room 2 _:=hr.mono (by decide)
  have hr3:Room 3 _:=hr.mono (by decide)
  refine ⟨_,(J3 (ps_if (pt_not (pt_truth (Jh (pv 0) rfl) (fun _=>rfl))) (J9 (Jl J65)) Jv)
   (J3 (ps_if (PW.pt (J7n (Jo op_eq (pv 1) J1k (Jp _)) (J4a (J61 (Jd GMh hr1 rfl mMh kMh bMh .nil pass0 (J0 (pv 0) (J0 (pv 2) (J0 (pv 3) J6)))))))) (J9 (Jl (J1f MHo GHo hr3 rfl mgHo bHo .nil pass0 (J0 (pv 2) J6)))) Jv)
   (J3 (ps_if (PW.pt (J7n (Jo op_eq (pv 1) J1k (Jp _)) (J4a (J61 (Jd GMev hr2 rfl mMev kMev bMev .nil pass0 (J0 (pv 0) (J0 (pv 2) (J0 (pv 3) J6)))))))) (J9 (Jl (J1f MEv GEv hr3 rfl mgEv bEv .nil pass0 (J0 (pv 2) (J0 (pv 3) J6))))) Jv)
   (J3 (ps_if (PW.pt (J7n (Jo op_eq (pv 1) J1k (Jp _)) (J4a (J61 (Jd GMov hr2 rfl mMov kMov bMov .nil pass0 (J0 (pv 0) (J0 (pv 2) (J0 (pv 3) J6)))))))) (J9 (Jl (J1f MOv GOv hr3 rfl mgOv bOv .nil pass0 (J0 (pv 2) (J0 (pv 3) J6))))) Jv)
   (J3 (ps_if (PW.pt (J7n (Jo op_eq (pv 1) J1k (Jp _)) (J4a (J61 (Jd GMun hr2 rfl mMun kMun bMun .nil pass0 (J0 (pv 0) (J0 (pv 2) (J0 (pv 3) J6)))))))) (J9 (Jl (J1f MUn GUn hr3 rfl mgUn bUn .nil pass0 (J0 (pv 2) (J0 (pv 3) J6))))) Jv)
   (J3 (ps_if (PW.pt (J7n (Jo op_eq (pv 1) J1k (Jp _)) (J4a (J61 (Jd GMos hr3 rfl mMos kMos bMos .nil pass0 (J0 (pv 0) (J0 (pv 2) (J0 (pv 3) J6)))))))) (J9 (Jl (J1f MOs GOs hr3 rfl mgOs bOs .nil pass0 (J0 (pv 2) (J0 (pv 3) J6))))) Jv)
   (J3 (ps_if (PW.pt (J7n (Jo op_eq (pv 1) J1k (Jp _)) (J4a (J61 (Jd GMus hr3 rfl mMus kMus bMus .nil pass0 (J0 (pv 0) (J0 (pv 2) (J0 (pv 3) J6)))))))) (J9 (Jl (J1f MUs GUs hr3 rfl mgUs bUs .nil pass0 (J0 (pv 2) (J0 (pv 3) J6))))) Jv)
   (J9 (Jl J65))))))))),?_⟩
  obtain ⟨dr,fr,pt,pb,pl,pu,h0,⟨k1,k2,k3,k4,k5⟩,e1,e2,e3,e4⟩:=R.ex
  have lT':(0:Int)≤(lastT r:Int):=by omega
  by_cases ne:r.top=[]
  ·refine ⟨_,rfl,y,CR,dr,fr,_,rfl,h0,TR.cl,TR.nT,k1,false,.inr (.inl ⟨_,SqT.of e1,by rw [ne];rfl⟩),iteT ?_⟩
   exact kn (fun s _ _=>ne) H (Same.refl _)
  refine ⟨_,rfl,y,CR,dr,fr,_,rfl,h0,TR.cl,TR.nT,k1,true,.inr (.inl ⟨_,SqT.of e1,by rw [emp_nV ne];rfl⟩),iteF ?_⟩
  by_cases h0:w=wordS .ho
  ·subst h0
   refine ⟨_,rfl,rfl,_,rfl,iteDT rfl ?_⟩
   refine ⟨_,rfl,_,rfl,_,rfl,y,r,a,n,rfl,R,ok,ne,_,rfl,?_⟩
   by_cases c:(a=(lastT r:Int)∧a=(lastB r:Int)∧n=0)
   ·refine iteDT c ?_
    obtain ⟨rfl,c2,rfl⟩:=c
    refine ⟨_,rfl,fun x dx hx hdx hne=>?_⟩
    obtain ⟨st,sm⟩:=J1x (cs:=cs) (s:=.home (lastT r)) hx hdx
    exact ⟨x,dx,_,.home (lastT r),rfl,⟨_,rfl,rfl⟩,J4,rfl,kp (.home (lastT r)) ne ⟨rfl,by omega⟩ rfl x _ sm st⟩
   ·refine iteD c ?_
    refine ⟨_,rfl,rfl,_,rfl,iteD (nW (k:=.ho) (k':=.ev) (by decide)) (iteF ?_)⟩
    refine ⟨_,rfl,rfl,_,rfl,iteD (nW (k:=.ho) (k':=.ov) (by decide)) (iteF ?_)⟩
    refine ⟨_,rfl,rfl,_,rfl,iteD (nW (k:=.ho) (k':=.un) (by decide)) (iteF ?_)⟩
    refine ⟨_,rfl,rfl,_,rfl,iteD (nW (k:=.ho) (k':=.os) (by decide)) (iteF ?_)⟩
    refine ⟨_,rfl,rfl,_,rfl,iteD (nW (k:=.ho) (k':=.us) (by decide)) (iteF ?_)⟩
    refine kn (fun s ms er=>?_) H (Same.refl _)
    obtain ⟨q1,q2,q3⟩:=J7k er
    exfalso
    cases s with
    | home a'=>exact c ⟨by rw [← q2,ms.1];rfl,by rw [← q2];exact congrArg _ ms.2,q3.symm⟩
    | even _ _=>cases q1
    | over _ _=>cases q1
    | under _ _=>cases q1
    | overs _ _=>cases q1
    | unders _ _=>cases q1
  refine ⟨_,rfl,rfl,_,rfl,iteD (fun e=>h0 (V.str.inj e)) (iteF ?_)⟩
  by_cases h1:w=wordS .ev
  ·subst h1
   refine ⟨_,rfl,rfl,_,rfl,iteDT rfl ?_⟩
   refine ⟨_,rfl,_,rfl,_,rfl,y,r,a,n,rfl,R,ok,ne,_,rfl,?_⟩
   by_cases c:((a≠n∧a=(lastT r:Int)∧n=(lastB r:Int))∧r.ls.getD (lastT r) 0=r.ls.getD (lastB r) 0)
   ·refine iteDT c ?_
    obtain ⟨⟨c1,rfl,rfl⟩,c2⟩:=c
    refine ⟨_,rfl,_,rfl,fun x dx hx hdx hne=>?_⟩
    obtain ⟨st,sm⟩:=J1x (cs:=cs) (s:=.even (lastT r) (lastB r)) hx hdx
    exact ⟨x,dx,_,.even (lastT r) (lastB r),rfl,⟨_,_,rfl,rfl⟩,J4,rfl,kp (.even (lastT r) (lastB r)) ne ⟨fun e=>c1 (by rw [e]),rfl,rfl,c2⟩ rfl x _ sm st⟩
   ·refine iteD c ?_
    refine ⟨_,rfl,rfl,_,rfl,iteD (nW (k:=.ev) (k':=.ov) (by decide)) (iteF ?_)⟩
    refine ⟨_,rfl,rfl,_,rfl,iteD (nW (k:=.ev) (k':=.un) (by decide)) (iteF ?_)⟩
    refine ⟨_,rfl,rfl,_,rfl,iteD (nW (k:=.ev) (k':=.os) (by decide)) (iteF ?_)⟩
    refine ⟨_,rfl,rfl,_,rfl,iteD (nW (k:=.ev) (k':=.us) (by decide)) (iteF ?_)⟩
    refine kn (fun s ms er=>?_) H (Same.refl _)
    obtain ⟨q1,q2,q3⟩:=J7k er
    exfalso
    cases s with
    | home _=>cases q1
    | even a' b'=>exact c (by obtain ⟨m1,m2,m3,m4⟩:=ms;have q2:(a':Int)=a:=q2;have q3:(b':Int)=n:=q3;rw [m2,m3] at m4;exact ⟨⟨by omega,by omega,by omega⟩,m4⟩)
    | over _ _=>cases q1
    | under _ _=>cases q1
    | overs _ _=>cases q1
    | unders _ _=>cases q1
  refine ⟨_,rfl,rfl,_,rfl,iteD (fun e=>h1 (V.str.inj e)) (iteF ?_)⟩
  by_cases h2:w=wordS .ov
  ·subst h2
   refine ⟨_,rfl,rfl,_,rfl,iteDT rfl ?_⟩
   refine ⟨_,rfl,_,rfl,_,rfl,y,r,a,n,rfl,R,ok,ne,_,rfl,?_⟩
   by_cases c:((a≠n∧a=(lastT r:Int)∧n=(lastB r:Int))∧r.ls.getD (lastT r) 0 > r.ls.getD (lastB r) 0)
   ·refine iteDT c ?_
    obtain ⟨⟨c1,rfl,rfl⟩,c2⟩:=c
    refine ⟨_,rfl,_,rfl,fun x dx hx hdx hne=>?_⟩
    obtain ⟨st,sm⟩:=J1x (cs:=cs) (s:=.over (lastT r) (lastB r)) hx hdx
    exact ⟨x,dx,_,.over (lastT r) (lastB r),rfl,⟨_,_,rfl,rfl⟩,J4,rfl,kp (.over (lastT r) (lastB r)) ne ⟨fun e=>c1 (by rw [e]),rfl,rfl,c2⟩ rfl x _ sm st⟩
   ·refine iteD c ?_
    refine ⟨_,rfl,rfl,_,rfl,iteD (nW (k:=.ov) (k':=.un) (by decide)) (iteF ?_)⟩
    refine ⟨_,rfl,rfl,_,rfl,iteD (nW (k:=.ov) (k':=.os) (by decide)) (iteF ?_)⟩
    refine ⟨_,rfl,rfl,_,rfl,iteD (nW (k:=.ov) (k':=.us) (by decide)) (iteF ?_)⟩
    refine kn (fun s ms er=>?_) H (Same.refl _)
    obtain ⟨q1,q2,q3⟩:=J7k er
    exfalso
    cases s with
    | home _=>cases q1
    | even _ _=>cases q1
    | over a' b'=>exact c (by obtain ⟨m1,m2,m3,m4⟩:=ms;have q2:(a':Int)=a:=q2;have q3:(b':Int)=n:=q3;rw [m2,m3] at m4;exact ⟨⟨by omega,by omega,by omega⟩,m4⟩)
    | under _ _=>cases q1
    | overs _ _=>cases q1
    | unders _ _=>cases q1
  refine ⟨_,rfl,rfl,_,rfl,iteD (fun e=>h2 (V.str.inj e)) (iteF ?_)⟩
  by_cases h3:w=wordS .un
  ·subst h3
   refine ⟨_,rfl,rfl,_,rfl,iteDT rfl ?_⟩
   refine ⟨_,rfl,_,rfl,_,rfl,y,r,a,n,rfl,R,ok,ne,_,rfl,?_⟩
   by_cases c:((n≠a∧n=(lastT r:Int)∧a=(lastB r:Int))∧r.ls.getD (lastB r) 0 > r.ls.getD (lastT r) 0)
   ·refine iteDT c ?_
    obtain ⟨⟨c1,rfl,rfl⟩,c2⟩:=c
    refine ⟨_,rfl,_,rfl,fun x dx hx hdx hne=>?_⟩
    obtain ⟨st,sm⟩:=J1x (cs:=cs) (s:=.under (lastB r) (lastT r)) hx hdx
    exact ⟨x,dx,_,.under (lastB r) (lastT r),rfl,⟨_,_,rfl,rfl⟩,J4,rfl,kp (.under (lastB r) (lastT r)) ne ⟨fun e=>c1 (by rw [e]),rfl,rfl,c2⟩ rfl x _ sm st⟩
   ·refine iteD c ?_
    refine ⟨_,rfl,rfl,_,rfl,iteD (nW (k:=.un) (k':=.os) (by decide)) (iteF ?_)⟩
    refine ⟨_,rfl,rfl,_,rfl,iteD (nW (k:=.un) (k':=.us) (by decide)) (iteF ?_)⟩
    refine kn (fun s ms er=>?_) H (Same.refl _)
    obtain ⟨q1,q2,q3⟩:=J7k er
    exfalso
    cases s with
    | home _=>cases q1
    | even _ _=>cases q1
    | over _ _=>cases q1
    | under a' b'=>exact c (by obtain ⟨m1,m2,m3,m4⟩:=ms;have q2:(a':Int)=a:=q2;have q3:(b':Int)=n:=q3;rw [m2,m3] at m4;exact ⟨⟨by omega,by omega,by omega⟩,m4⟩)
    | overs _ _=>cases q1
    | unders _ _=>cases q1
  refine ⟨_,rfl,rfl,_,rfl,iteD (fun e=>h3 (V.str.inj e)) (iteF ?_)⟩
  by_cases h4:w=wordS .os
  ·subst h4
   refine ⟨_,rfl,rfl,_,rfl,iteDT rfl ?_⟩
   refine ⟨_,rfl,_,rfl,_,rfl,y,r,a,n,rfl,R,ok,ne,hz,fun H1 s1=>?_⟩
   refine ⟨_,rfl,?_⟩
   by_cases c:((a≠(lastB r:Int)∧a=(lastT r:Int)∧(lastB r:Int)=(lastB r:Int))∧1≤n∧n≤J10 r (lastT r) r.bot)
   ·refine iteDT c ?_
    obtain ⟨⟨c1,rfl,_⟩,c2,c3⟩:=c
    refine ⟨_,rfl,_,rfl,fun x dx hx hdx hne=>?_⟩
    obtain ⟨st,sm⟩:=J1x (cs:=cs) (s:=.overs (lastT r) n) hx hdx
    exact ⟨x,dx,_,.overs (lastT r) n,rfl,⟨_,_,rfl,rfl⟩,J4,rfl,kp (.overs (lastT r) n) ne ⟨fun e=>c1 (by rw [e]),rfl,c2,c3⟩ rfl x _ (s1.trans sm) st⟩
   ·refine iteD c ?_
    refine ⟨_,rfl,rfl,_,rfl,iteD (nW (k:=.os) (k':=.us) (by decide)) (iteF ?_)⟩
    refine kn (fun s ms er=>?_) H1 s1
    obtain ⟨q1,q2,q3⟩:=J7k er
    exfalso
    cases s with
    | home _=>cases q1
    | even _ _=>cases q1
    | over _ _=>cases q1
    | under _ _=>cases q1
    | overs a' t'=>exact c (by obtain ⟨m1,m2,m3,m4⟩:=ms;have q2:(a':Int)=a:=q2;have q3:t'=n:=q3;rw [m2,q3] at m4;exact ⟨⟨by omega,by omega,rfl⟩,by omega,m4⟩)
    | unders _ _=>cases q1
  refine ⟨_,rfl,rfl,_,rfl,iteD (fun e=>h4 (V.str.inj e)) (iteF ?_)⟩
  by_cases h5:w=wordS .us
  ·subst h5
   refine ⟨_,rfl,rfl,_,rfl,iteDT rfl ?_⟩
   refine ⟨_,rfl,_,rfl,_,rfl,y,r,a,n,rfl,R,ok,ne,hz,fun H1 s1=>?_⟩
   refine ⟨_,rfl,?_⟩
   by_cases c:(((lastT r:Int)≠a∧(lastT r:Int)=(lastT r:Int)∧a=(lastB r:Int))∧1≤n∧n≤J10 r (lastB r) r.top)
   ·refine iteDT c ?_
    obtain ⟨⟨c1,_,rfl⟩,c2,c3⟩:=c
    refine ⟨_,rfl,_,rfl,fun x dx hx hdx hne=>?_⟩
    obtain ⟨st,sm⟩:=J1x (cs:=cs) (s:=.unders (lastB r) n) hx hdx
    exact ⟨x,dx,_,.unders (lastB r) n,rfl,⟨_,_,rfl,rfl⟩,J4,rfl,kp (.unders (lastB r) n) ne ⟨fun e=>c1 (by rw [← e]),rfl,c2,c3⟩ rfl x _ (s1.trans sm) st⟩
   ·refine iteD c ?_
    refine kn (fun s ms er=>?_) H1 s1
    obtain ⟨q1,q2,q3⟩:=J7k er
    exfalso
    cases s with
    | home _=>cases q1
    | even _ _=>cases q1
    | over _ _=>cases q1
    | under _ _=>cases q1
    | overs _ _=>cases q1
    | unders a' t'=>exact c (by obtain ⟨m1,m2,m3,m4⟩:=ms;have q2:(a':Int)=a:=q2;have q3:t'=n:=q3;rw [m2,q3] at m4;exact ⟨⟨by omega,rfl,by omega⟩,by omega,m4⟩)
  refine ⟨_,rfl,rfl,_,rfl,iteD (fun e=>h5 (V.str.inj e)) (iteF ?_)⟩
  refine kn (fun s ms er=>?_) H (Same.refl _)
  exfalso
  have e:w=wordS (kd s):=by unfold rowV at er;injection er with h1 _;exact (V.str.inj h1).symm
  cases s with
  | home a=>exact h0 e
  | even a b=>exact h1 e
  | over a b=>exact h2 e
  | under a b=>exact h3 e
  | overs a t=>exact h4 e
  | unders a t=>exact h5 e
end
end R25
namespace R25
open PySem L2 Rl
section
variable {P:Program} {w:World} {K:PySem.W.Frag} {mg:Str→Option Value} {base:Heap}
theorem row_inj {s s':Stp} (h:rowV s=rowV s'):s=s':=by
 obtain ⟨q1,q2,q3⟩:=J7k (s:=s) (k:=kd s') (a:=(s'.winner:Nat)) (n:=numSt s') h
 have q2:=Int.ofNat_inj.mp q2
 cases s with
 | home a=>cases s' with | home a'=>exact congrArg Stp.home q2 | _=>cases q1
 | even a b=>cases s' with | even a' b'=>(have q2:a=a':=q2;have q3:(b:Int)=(b':Int):=q3;rw [q2,Int.ofNat_inj.mp q3]) | _=>cases q1
 | over a b=>cases s' with | over a' b'=>(have q2:a=a':=q2;have q3:(b:Int)=(b':Int):=q3;rw [q2,Int.ofNat_inj.mp q3]) | _=>cases q1
 | under a b=>cases s' with | under a' b'=>(have q2:a=a':=q2;have q3:(b:Int)=(b':Int):=q3;rw [q2,Int.ofNat_inj.mp q3]) | _=>cases q1
 | overs a t=>cases s' with | overs a' t'=>(have q2:a=a':=q2;have q3:t=t':=q3;rw [q2,q3]) | _=>cases q1
 | unders a t=>cases s' with | unders a' t'=>(have q2:a=a':=q2;have q3:t=t':=q3;rw [q2,q3]) | _=>cases q1
theorem next_may {r:Rst} (h:r.Ok) (ne:r.top≠[]):MayS r (nextN r) :=
 J1g h ne (p:=MayS r) (fun c=>⟨rfl,c⟩) (fun c1 c2=>⟨c1,rfl,rfl,c2⟩) (fun c1 c2 _=>⟨c1,rfl,rfl,c2⟩) (fun c1 c2 _=>⟨c1,rfl,rfl,c2⟩)
  (fun t c1 c2 c3 c4 c5 c6 c7 c8=>⟨c1,rfl,c4,by unfold J10;rw [if_neg (by rw [c3];decide),c7];exact Int.le_refl _⟩) (fun t c1 c2 c3 c4 c5 c6 c7 c8=>⟨c1,rfl,c4,by unfold J10;rw [if_neg (by rw [c3];decide),c7];exact Int.le_refl _⟩)
theorem MayS.next {r:Rst} (h:r.Ok) (ne:r.top≠[]) {s:Stp} (m:MayS r s):NextP r s:=by
 have mT:=h.mT ne
 have mB:=h.mB ne
 have many:∀ {t L la:Int} {b:Bool},1≤L→1≤t→t≤(if b=true then 0 else (la - 1) / L)→b=false∧t * L < la:=fun {t L la b} h1 h2 h3=>by
  cases b with
  | true=>rw [if_pos rfl] at h3;lia
  | false =>
   rw [if_neg (by decide)] at h3
   have h4:(la - 1) / L * L < la:=by have:=times_fit (la:=la) h1;lia
   have h5:t * L≤(la - 1) / L * L:=Int.mul_le_mul_of_nonneg_right h3 (by lia)
   exact ⟨rfl,by lia⟩
 cases s with
 | home a=>exact m
 | even a b=>obtain ⟨n1,n2,n3,n4⟩:=m;exact ⟨n2,n3,n1,n4⟩
 | over a b=>obtain ⟨n1,n2,n3,n4⟩:=m;exact ⟨n2,n3,n1,n4⟩
 | under a b=>obtain ⟨n1,n2,n3,n4⟩:=m;exact ⟨n3,n2,fun e=>n1 e.symm,n4⟩
 | overs a t =>
  obtain ⟨n1,n2,n3,n4⟩:=m
  have hs:1≤lenOf r.ls (J1 r.bot a):=J20 (fun j hj=>h.rowB.pos j (Jg hj)) (J28 (h.perm.mem_iff.mpr (by rw [n2];exact mT)) (fun e=>n1 e.symm))
  obtain ⟨q1,q2⟩:=many hs n3 n4
  exact ⟨n2,n1,q1,n3,hs,q2⟩
 | unders a t =>
  obtain ⟨n1,n2,n3,n4⟩:=m
  have hs:1≤lenOf r.ls (J1 r.top a):=J20 (fun j hj=>h.row.pos j (Jg hj)) (J28 (by rw [n2];exact mB) (fun e=>n1 e))
  obtain ⟨q1,q2⟩:=many hs n3 n4
  exact ⟨n2,fun e=>n1 e.symm,q1,n3,hs,q2⟩
theorem step_fit {r:Rst} (ok:r.Ok) (ne:r.top≠[]) (hz:r.size≤10 ^ 30) {st:Stp} (np:NextP r st):Fit st r:=by
 refine ⟨ok,np.ok ok ne,np.win ok ne,fun b hb=>?_,Nat.lt_of_le_of_lt (np.times ok ne hz) (by decide),hz⟩
 have mT:=ok.mT ne
 have mB:=ok.mB ne
 have inj:∀ {i j:Nat},V.int (i:Nat)=V.int (j:Nat)→i=j:=fun q=>by have:=V.int.inj q;lia
 cases st with
 | even a b'=>obtain rfl:=inj hb;obtain ⟨_,n2,n3,_⟩:=np;exact ⟨by rw [n2];exact mB,n3⟩
 | over a b'=>obtain rfl:=inj hb;obtain ⟨_,n2,n3,_⟩:=np;exact ⟨by rw [n2];exact mB,n3⟩
 | under a b'=>obtain rfl:=inj hb;obtain ⟨_,n2,n3,_⟩:=np;exact ⟨by rw [n2];exact mT,n3⟩
 | home a=>cases hb
 | overs a t=>cases hb
 | unders a t=>cases hb
theorem step_big {p:Cst} (h:Cok p) (ne:p.1.top≠[]) {s:Stp} (np:NextP p.1 s):CBig (p.2.getD s.winner 0) s.times:=by
 have w:=np.win h.ok ne
 have h1:=h.tow.le h.ok w
 have h2:=h.tow.pos _ w
 have h3:=np.times h.ok ne h.size30
 have e:(10:Nat) ^ 30 < 2 ^ 4000:=by decide
 exact ⟨Nat.lt_of_le_of_lt (show (p.2.getD s.winner 0).natAbs≤10 ^ 30 by lia) e,Nat.lt_of_le_of_lt h3 e⟩
abbrev Rw:=Str × Int × Int
def rw3 (x:Rw):List V:=[.str x.1,.int x.2.1,.int x.2.2]
abbrev xz:Rw:=(("":Str),0,0)
def May1 (r:Rst) (x:Rw) (s:Stp):Prop:=r.top≠[]∧MayS r s∧rowV s=rw3 x
open Classical in
noncomputable def J3j (r:Rst) (x:Rw):Option Stp:=if h:∃ s,May1 r x s then some h.choose else none
theorem J6r {r:Rst} {x:Rw} {s:Stp} (h:J3j r x=some s):May1 r x s:=by
 unfold J3j at h
 split at h
 ·rename_i q
  rw [← Option.some.inj h];exact q.choose_spec
 ·cases h
theorem J4t {r:Rst} {x:Rw} {s:Stp} (h:May1 r x s):J3j r x=some s:=by
 unfold J3j
 rw [dif_pos ⟨s,h⟩]
 have q:=(Exists.intro s h:∃ s,May1 r x s).choose_spec
 exact congrArg some (row_inj (q.2.2.trans h.2.2.symm))
theorem J4u {r:Rst} {x:Rw} (h:∀ s,¬ May1 r x s):J3j r x=none:=by
 unfold J3j
 rw [dif_neg (fun ⟨s,q⟩=>h s q)]
noncomputable def ledC:Cst→List Band→List Rw→Option (Cst × List Band)
 | p,bs,[]=>some (p,bs)
 | p,bs,x :: xs=>match J3j p.1 x with
  | none=>none
  | some s=>ledC (aft s p) (bs ++ bndS s p) xs
noncomputable def ledR (p:Cst) (rows:List Rw):Option (List Band):=match ledC p [] rows with
 | none=>none
 | some q=>if q.1.1.top=[] then some q.2 else none
theorem J38 {p:Cst} {bs:List Band} {x:Rw} {xs:List Rw} (h:J3j p.1 x=none):ledC p bs (x :: xs)=none:=by
 show (match J3j p.1 x with | none=>none | some s=>ledC (aft s p) (bs ++ bndS s p) xs)=none
 rw [h]
theorem J3p {p:Cst} {bs:List Band} {x:Rw} {xs:List Rw} {s:Stp} (h:J3j p.1 x=some s):ledC p bs (x :: xs)=ledC (aft s p) (bs ++ bndS s p) xs:=by
 show (match J3j p.1 x with | none=>none | some s=>ledC (aft s p) (bs ++ bndS s p) xs)=_
 rw [h]
def RowsAt (H:Hp) (pp:Addr) (rows:List Rw):Prop:=∃ ys:List V,H pp=some (.lst ys)∧Refs (fun q i=>H q=some (.tup (rw3 (rows.getD i xz)))) ys rows.length
theorem RowsAt.same {H H':Hp} {l:Addr} {rows:List Rw} (h:RowsAt H l rows) (s:Same H H'):RowsAt H' l rows:=let ⟨ys,a,b⟩:=h;⟨ys,s _ _ a,b.mono fun q i _ k=>s _ _ k⟩
def BndAt (H:Hp) (l:Addr) (bs:List Band):Prop:=∃ ys:List V,H l=some (.lst ys)∧Refs (fun q i=>H q=some (.tup (bandV (bs.getD i bz)))) ys bs.length
theorem drop_at {rows:List Rw} {i:Nat} (h:i < rows.length):rows.drop i=rows.getD i xz :: rows.drop (i + 1):=by
 rw [List.drop_eq_getElem_cons h,List.getD_eq_getElem?_getD,List.getElem?_eq_getElem h];rfl
theorem bndS_len {s:Stp} {p:Cst} (ok:p.1.Ok) (ne:p.1.top≠[]) (np:NextP p.1 s) {bs:List Band} (h:bs.length + p.1.top.length≤24):(bs ++ bndS s p).length + (aft s p).1.top.length≤24:=by
 have d:=(np.down ok ne).len
 have e:(aft s p).1.top=(s.behind p.1).top:=rfl
 rw [List.length_append,e]
 unfold bndS
 by_cases c:s.isHome=true
 ·have dr:s.drops=true:=by cases s <;> first | rfl | exact absurd c Bool.false_ne_true
  rw [if_pos dr] at d
  rw [if_pos c]
  show bs.length + 1 + _≤24
  lia
 ·rw [if_neg c]
  show bs.length + 0 + _≤24
  lia
def spLedG (C CR:Addr) (cs:Kd→Addr):Sp:=fun vs H Q _=>∃ (xl pp:Addr) (ls:List Int) (os:List Nat) (ts:List Bool) (rows:List Rw),vs=[.ref xl,.ref pp]∧LineAt C H xl ls os ts∧(J3h ls os ts).Ok∧(J3h ls os ts).size≤10 ^ 30∧1≤ls.length∧RowsAt H pp rows∧
 (ledR (J1y ls os ts) rows=none→∀ H',Same H H'→Q .non H')∧∀ bs,ledR (J1y ls os ts) rows=some bs→∀ l H',Same H H'→H l=none→BndAt H' l bs→Q (.ref l) H'
theorem scLed:FnScope ["line","paper","rest","towers","bands","word","winner","number","step","behind"] ["line","paper"] (J2 J32):=⟨rfl,rfl,rfl,by decide +kernel,rfl,by decide +kernel,by decide +kernel⟩
theorem ok_led {f fRO fFT fSR fBL fTB C CR:Addr} {fd fdRO fdFT fdSR fdBL fdTB:FuncData} {cs:Kd→Addr} (F:Fun K "bands_led" "bands_led" J32 f fd) (TR:TxtRest K CR)
  (GRO:FnOk P w K mg base CX0 4 fRO fdRO ["line"] (J7e C CR)) (bRO:Binds K fdRO ["line"] []) (mRO:mg "rest_of"=some (.ref fRO)) (kRO:PySem.W.keepIn K (.ref fRO)=true)
  (GFT:FnOk P w K mg base CX0 1 fFT fdFT ["line"] (J7f C)) (bFT:Binds K fdFT ["line"] []) (mFT:mg "first_towers"=some (.ref fFT)) (kFT:PySem.W.keepIn K (.ref fFT)=true)
  (GSR:FnOk P w K mg base CX0 4 fSR fdSR ["rest","word","winner","number"] (spStepRow cs CR)) (bSR:Binds K fdSR ["rest","word","winner","number"] []) (mSR:mg "step_of_row"=some (.ref fSR)) (kSR:PySem.W.keepIn K (.ref fSR)=true)
  (HB:∀ k,HasM P w K mg base CX0 4 "behind" ["self","rest"] (J24 cs CR k) (cs k))
  (GBL:FnOk P w K mg base CX0 2 fBL fdBL ["step","rest","behind","towers"] (J7g cs CR)) (bBL:Binds K fdBL ["step","rest","behind","towers"] []) (mBL:mg "bands_left"=some (.ref fBL)) (kBL:PySem.W.keepIn K (.ref fBL)=true)
  (GTB:FnOk P w K mg base CX0 3 fTB fdTB ["towers","step","rest","behind"] (spTowB cs CR)) (bTB:Binds K fdTB ["towers","step","rest","behind"] []) (mTB:mg "towers_behind"=some (.ref fTB)) (kTB:PySem.W.keepIn K (.ref fTB)=true) :
  FnOk P w K mg base CX0 5 f fd ["line","paper"] (spLedG C CR cs):=by
 refine F.ok scLed (fun vs H Q E h=>?_) (fun cdv A outer s H vs Q E hr h=>?_)
 ·obtain ⟨xl,pp,ls,os,ts,rows,rfl,_⟩:=h
  rfl
 ·obtain ⟨xl,pp,ls,os,ts,rows,rfl,L,ok0,hz0,h1,⟨ys,hys,pr⟩,kn,k⟩:=h
  have hr1:Room 1 _:=hr.mono (by decide)
  have hr2:Room 2 _:=hr.mono (by decide)
  have hr3:Room 3 _:=hr.mono (by decide)
  have hr4:Room 4 _:=hr.mono (by decide)
  refine ⟨_,(J3 (Jn (i:=2) scLed.nd rfl (Or.inl rfl) (Jd GRO hr4 rfl mRO kRO bRO .nil pass0 (J0 (pv 0) J6)))
   (J3 (Jn (i:=3) scLed.nd rfl (Or.inl rfl) (Jd GFT hr1 rfl mFT kFT bFT .nil pass0 (J0 (pv 0) J6)))
   (J3 (Jn (i:=4) scLed.nd rfl (Or.inl rfl) (J2n J6))
   (J3 (ps_for PassesOwn.never rfl (J5l (pv 1)) (pg_tup rfl (J4d (J2l (i:=5) scLed.nd rfl (Or.inl rfl)) (J4d (J2l (i:=6) scLed.nd rfl (Or.inl rfl)) (J4d (J2l (i:=7) scLed.nd rfl (Or.inl rfl)) pgs_nil))))
    (J3 (Jn (i:=8) scLed.nd rfl (Or.inl rfl) (Jd GSR hr4 rfl mSR kSR bSR .nil pass0 (J0 (pv 2) (J0 (pv 5) (J0 (pv 6) (J0 (pv 7) J6))))))
    (J3 (ps_if (Jo op_isN (pv 8) J65 (Jp _)) (J9 (Jl J65)) Jv)
    (J3 (Jn (i:=9) scLed.nd rfl (Or.inl rfl) (J4e (sp:=J24 cs CR) (cls:=cs) (pv 8) HB hr4 pass0 (J0 (pv 2) J6)))
    (J3 (J12 (pe_bm PySem.F.plainAttrs_list PySem.F.slot_list_extend PySem.F.type_list_extend mt_extend (pv 4) (J0 (Jd GBL hr2 rfl mBL kBL bBL .nil pass0 (J0 (pv 8) (J0 (pv 2) (J0 (pv 9) (J0 (pv 3) J6))))) J6)))
    (J3 (Jn (i:=3) scLed.nd rfl (Or.inl rfl) (Jd GTB hr3 rfl mTB kTB bTB .nil pass0 (J0 (pv 3) (J0 (pv 8) (J0 (pv 2) (J0 (pv 9) J6))))))
    (J9 (Jn (i:=2) scLed.nd rfl (Or.inl rfl) (pv 9)))))))))
   (J3 (ps_if (pt_truth (Jh (pv 2) rfl) (fun _=>rfl)) (J9 (Jl J65)) Jv)
   (J9 (Jl (pv 4)))))))),?_⟩
  have few:=ok0.few
  have cok0:Cok (J1y ls os ts):=J5v ok0 hz0
  have len0:(J1y ls os ts).1.top.length≤24:=by rw [show (J1y ls os ts).1.top=List.range ls.length from rfl,List.length_range];exact few
  refine ⟨_,rfl,xl,ls,os,ts,rfl,L,few,fun y0 Hr sr R0=>?_⟩
  refine ⟨_,rfl,xl,ls,os,ts,rfl,L.same sr,h1,few,fun t0 Ht st ht0=>?_⟩
  refine ⟨Nat.zero_le _,fun lb hlb=>?_⟩
  have srt:=sr.trans st
  have se:=J8 (o:=.lst []) hlb
  have fr_b:H lb=none:=srt.free hlb
  have sm:∀ {Hw:Hp} {o:HO},Same H Hw→Same H (upd Hw lb o):=fun {Hw o} s b u e=>by rw [Jc (Ja e fr_b)];exact s _ _ e
  have hb0:upd Ht lb (.lst []) lb=some (.lst []):=J4
  have R1:=(R0.same st).same se
  have ht1:=se _ _ ht0
  have sH:=srt.trans se
  generalize upd Ht lb (.lst [])=Hs at *
  generalize hp0:J1y ls os ts=p0 at *
  have e0:J3h ls os ts=p0.1:=by rw [← hp0]
  have e1:List.replicate ls.length 1=p0.2:=by rw [← hp0]
  rw [e0] at R1
  rw [e1] at ht1
  refine ⟨_,rfl,pp,rfl,⟨_,SqL.of (sH _ _ hys)⟩,J6g (K:=K) (a:=pp) (xs:=ys)
   (fun i σ Hw=>∃ (p:Cst) (bs:List Band) (y tt:Addr) (xb:List V) (v5 v6 v7 v8 v9:Option V),σ=[some (.ref xl),some (.ref pp),some (.ref y),some (.ref tt),some (.ref lb),v5,v6,v7,v8,v9]∧Cok p∧bs.length + p.1.top.length≤24∧ledC p bs (rows.drop i)=ledC p0 [] rows∧RestAt CR Hw y p.1∧Hw tt=some (.tup (iV p.2))∧Hw lb=some (.lst xb)∧Refs (fun q j=>Hw q=some (.tup (bandV (bs.getD j bz)))) xb bs.length∧Same H Hw)
   ⟨p0,[],y0,t0,[],none,none,none,none,none,rfl,cok0,(by show 0 + _≤24;lia),(by rw [List.drop_zero]),R1,ht1,hb0,Refs.nil,sH⟩ (fun i σ Hw _ ⟨_,_,_,_,_,_,_,_,_,_,_,_,_,_,_,_,_,_,s⟩=>SqL.of (s _ _ hys)) ?_ ?_⟩
  ·rintro i x' σ Hw hx' ⟨p,bs,y,tt,xb,v5,v6,v7,v8,v9,rfl,cok,lbs,eC,R,htt,hb_,rb,sw⟩
   have hi:i < rows.length:=by rw [← pr.len];exact (List.getElem?_eq_some_iff.mp hx').1
   obtain ⟨q,eq,hq⟩:=pr.at_ i hi
   obtain rfl:x'=.ref q:=Option.some.inj (hx'.symm.trans eq)
   rw [drop_at hi] at eC
   generalize rows.getD i xz=x at *
   have hz:=cok.size30
   have l16:=line16
   refine ⟨q,_,rfl,SqT.of (sw _ _ hq),rfl,_,_,rfl,_,_,rfl,_,_,rfl,rfl,?_⟩
   refine ⟨_,rfl,_,rfl,_,rfl,_,rfl,y,p.1,x.1,x.2.1,x.2.2,rfl,R,cok.ok,hz,fun s' ne ms er xp Hn sn St=>?_,fun no Hn sn=>?_⟩
   rotate_left
   ·refine ⟨_,rfl,rfl,true,rfl,iteT ?_⟩
    rw [J38 (J4u fun s q=>q.1 (no s q.2.1 q.2.2))] at eC
    exact kn (by unfold ledR;rw [← eC]) _ (sw.trans sn)
   have c:=ne
   have np:=ms.next cok.ok c
   have win:=np.win cok.ok c
   have fit:=step_fit cok.ok c hz np
   have tlen:=cok.tow.len
   have wl:=cok.ok.row.lt _ win
   have big:=step_big cok c np
   have cok':Cok (aft s' p):=cok.step c np
   have lb':=bndS_len cok.ok c np lbs
   rw [J3p (J4t ⟨ne,ms,er⟩)] at eC
   obtain ⟨dxp,hxp⟩:=St
   refine ⟨_,rfl,rfl,false,rfl,iteF ?_⟩
   refine ⟨_,rfl,xp,kd s',dxp,stF s',rfl,hxp,stF_no _ (by decide +kernel) (by decide +kernel) (by decide +kernel),_,rfl,xp,y,s',p.1,rfl,rfl,⟨dxp,hxp⟩,R.same sn,fit,fun z Hb sbh Z=>?_⟩
   have Z:RestAt CR Hb z (aft s' p).1:=Z
   have snb:=sn.trans sbh
   have X1:StepAt cs Hb xp s':=⟨dxp,sbh _ _ hxp⟩
   have hb1:=snb _ _ hb_
   have swb:=sw.trans snb
   refine ⟨_,rfl,.inl ⟨rfl,_,SqL.of hb1⟩,_,rfl,_,rfl,_,rfl,_,rfl,tt,xp,y,z,s',p.1,p.2,rfl,snb _ _ htt,X1,R.same snb,Z,wl,(by rw [cok.ok.len];exact wl),(by rw [tlen];exact wl),fun hh bp Hc0 sc0 hbp=>?_,fun hh bp bq Hc0 sc0 hbp hbq=>?_⟩
   ·have eB:bs ++ bndS s' p=bs:=by
     unfold bndS
     rw [if_neg (by rw [hh];decide),List.append_nil]
    have hb2:=sc0 _ _ hb1
    refine ⟨lb,bp,xb,[],rfl,rfl,hb2,hbp,(by rw [rb.len];show _ + 0≤_;lia),?_⟩
    have fc:Frz Hb (upd Hc0 lb (.lst (xb ++ []))):=(Frz.of sc0).trans (Frz.upd hb2)
    have src:=sm (o:=.lst (xb ++ [])) (swb.trans sc0)
    have cb:(upd Hc0 lb (.lst (xb ++ []))) lb=some (.lst (xb ++ [])):=J4
    generalize (upd Hc0 lb (.lst (xb ++ [])))=Hc at *
    have rbc:Refs (fun q j=>Hc q=some (.tup (bandV ((bs ++ bndS s' p).getD j bz)))) (xb ++ []) (bs ++ bndS s' p).length:=by
     rw [eB,List.append_nil]
     exact rb.mono fun q j _ a=>((Frz.of snb).trans fc) _ _ a (fun _ e=>nomatch e)
    refine ⟨_,rfl,_,rfl,_,rfl,_,rfl,tt,xp,y,z,s',p.1,p.2,rfl,((Frz.of snb).trans fc) _ _ htt (fun _ e=>nomatch e),X1.frz fc,R.frz ((Frz.of snb).trans fc),Z.frz fc,win,cok.ok.perm.mem_iff.mpr win,(by rw [tlen];exact wl),(by rw [tlen];exact cok.ok.few),big,fun tq2 Hd sd2 htq2=>?_⟩
    exact ⟨_,rfl,aft s' p,bs ++ bndS s' p,z,tq2,_,_,_,_,_,_,rfl,cok',lb',eC,(Z.frz fc).same sd2,htq2,sd2 _ _ cb,rbc.mono fun q j _ a=>sd2 _ _ a,src.trans sd2⟩
   ·have eB:bs ++ bndS s' p=bs ++ [((s'.behind p.1).size,p.1.ls.getD s'.winner 0,p.2.getD s'.winner 0,p.1.ts.getD s'.winner false)]:=by
     unfold bndS
     rw [if_pos hh]
    have hb2:=sc0 _ _ hb1
    refine ⟨lb,bp,xb,[.ref bq],rfl,rfl,hb2,hbp,(by rw [rb.len];show _ + 1≤_;lia),?_⟩
    have fc:Frz Hb (upd Hc0 lb (.lst (xb ++ [.ref bq]))):=(Frz.of sc0).trans (Frz.upd hb2)
    have fq:(upd Hc0 lb (.lst (xb ++ [.ref bq]))) bq=_:=(Frz.upd (ys:=xb ++ [.ref bq]) hb2) _ _ hbq (fun _ e=>nomatch e)
    have src:=sm (o:=.lst (xb ++ [.ref bq])) (swb.trans sc0)
    have cb:(upd Hc0 lb (.lst (xb ++ [.ref bq]))) lb=some (.lst (xb ++ [.ref bq])):=J4
    generalize (upd Hc0 lb (.lst (xb ++ [.ref bq])))=Hc at *
    have rbc:Refs (fun q j=>Hc q=some (.tup (bandV ((bs ++ bndS s' p).getD j bz)))) (xb ++ [.ref bq]) (bs ++ bndS s' p).length:=by
     rw [eB]
     have r1:Refs (fun q j=>Hc q=some (.tup (bandV ((bs ++ [((s'.behind p.1).size,p.1.ls.getD s'.winner 0,p.2.getD s'.winner 0,p.1.ts.getD s'.winner false)]).getD j bz)))) xb bs.length:=rb.mono fun q j hj a=>by
      rw [List.getD_eq_getElem?_getD,List.getElem?_append_left hj,← List.getD_eq_getElem?_getD]
      exact ((Frz.of snb).trans fc) _ _ a (fun _ e=>nomatch e)
     have r2:=r1.snoc (q:=bq) (by
      rw [List.getD_eq_getElem?_getD,List.getElem?_append_right (Nat.le_refl _),Nat.sub_self];exact fq)
     rw [List.length_append];exact r2
    refine ⟨_,rfl,_,rfl,_,rfl,_,rfl,tt,xp,y,z,s',p.1,p.2,rfl,((Frz.of snb).trans fc) _ _ htt (fun _ e=>nomatch e),X1.frz fc,R.frz ((Frz.of snb).trans fc),Z.frz fc,win,cok.ok.perm.mem_iff.mpr win,(by rw [tlen];exact wl),(by rw [tlen];exact cok.ok.few),big,fun tq2 Hd sd2 htq2=>?_⟩
    exact ⟨_,rfl,aft s' p,bs ++ bndS s' p,z,tq2,_,_,_,_,_,_,rfl,cok',lb',eC,(Z.frz fc).same sd2,htq2,sd2 _ _ cb,rbc.mono fun q j _ a=>sd2 _ _ a,src.trans sd2⟩
  ·rintro σ Hw ⟨p,bs,y,tt,xb,v5,v6,v7,v8,v9,rfl,cok,lbs,eC,R,htt,hb_,rb,sw⟩
   rw [pr.len,List.drop_length] at eC
   have eC:some (p,bs)=ledC p0 [] rows:=eC
   obtain ⟨dr,fr,pt,pb,pl,pu,h0,⟨k1,k2,k3,k4,k5⟩,e1',e2,e3,e4⟩:=R.ex
   by_cases c:p.1.top=[]
   ·refine ⟨_,rfl,y,CR,dr,fr,_,rfl,h0,TR.cl,TR.nT,k1,false,.inr (.inl ⟨_,SqT.of e1',by rw [c];rfl⟩),iteF ?_⟩
    exact ⟨_,rfl,k bs (by unfold ledR;rw [← eC];exact if_pos c) lb Hw sw fr_b ⟨xb,hb_,rb⟩⟩
   ·refine ⟨_,rfl,y,CR,dr,fr,_,rfl,h0,TR.cl,TR.nT,k1,true,.inr (.inl ⟨_,SqT.of e1',by rw [emp_nV c];rfl⟩),iteT ?_⟩
    exact kn (by unfold ledR;rw [← eC];exact if_neg c) Hw sw
def spExamG (C CR:Addr) (cs:Kd→Addr):Sp:=fun vs H Q _=>∃ (xl pp:Addr) (ls:List Int) (os:List Nat) (ts:List Bool) (rows:List Rw),vs=[.ref xl,.ref pp]∧LineAt C H xl ls os ts∧(J3h ls os ts).Ok∧(J3h ls os ts).size≤10 ^ 30∧1≤ls.length∧RowsAt H pp rows∧∀ H',Same H H'→Q (.bl (ledR (J1y ls os ts) rows).isSome) H'
theorem scExam:FnScope ["line","paper"] ["line","paper"] (J2 sExam):=⟨rfl,rfl,rfl,by decide +kernel,rfl,by decide +kernel,by decide +kernel⟩
theorem ok_exam {f fBl C CR:Addr} {fd fdBl:FuncData} {cs:Kd→Addr} (F:Fun K "examined" "examined" sExam f fd)
  (GBl:FnOk P w K mg base CX0 5 fBl fdBl ["line","paper"] (spLedG C CR cs)) (bBl:Binds K fdBl ["line","paper"] []) (mBl:mg "bands_led"=some (.ref fBl)) (kBl:PySem.W.keepIn K (.ref fBl)=true) :
  FnOk P w K mg base CX0 6 f fd ["line","paper"] (spExamG C CR cs):=by
 refine F.ok scExam (fun vs H Q E h=>?_) (fun cdv A outer s H vs Q E hr h=>?_)
 ·obtain ⟨xl,pp,ls,os,ts,rows,rfl,_⟩:=h
  rfl
 ·obtain ⟨xl,pp,ls,os,ts,rows,rfl,L,ok0,hz0,h1,pa,k⟩:=h
  have hr5:Room 5 _:=hr.mono (by decide)
  refine ⟨_,(J9 (Jl (J1c op_notN (Jd GBl hr5 rfl mBl kBl bBl .nil pass0 (J0 (pv 0) (J0 (pv 1) J6))) J65 (Jp _)))),?_⟩
  refine ⟨_,rfl,_,rfl,xl,pp,ls,os,ts,rows,rfl,L,ok0,hz0,h1,pa,fun e H1 s1=>?_,fun bs e l H1 s1 _ _=>?_⟩
  ·rw [e] at k;exact ⟨rfl,k H1 s1⟩
  ·rw [e] at k;exact ⟨rfl,k H1 s1⟩
end
end R25
namespace R25
open PySem L2 Rl
section
structure TxtI (K:PySem.W.Frag) (C:Addr):Prop where
 ha:PySem.W.findIn K (.ref C) "__class__"=some (some (.builtin "object.__class__"))
 hn:PySem.W.specialIn K (.builtin "object.__class__") "__get__"=some (some (.builtin "getset_descriptor.__get__"))
 ht:PySem.W.takesIn K (.builtin "object.__class__")=some true
 hm:PySem.W.mroIn K C (.type "object")=some true
end
section
variable {P:Program} {w:World} {K:PySem.W.Frag} {mg:Str→Option Value} {base:Heap}
def spCell (K:PySem.W.Frag):Sp:=fun vs H Q _=>∃ (a:Addr) (ns:List Int) (j:Nat),vs=[.ref a,.int j]∧SqL K H a (iV ns)∧Q (.int (cellN ns j)) H
theorem scCell:FnScope ["script","k"] ["script","k"] (J2 sCell):=⟨rfl,rfl,rfl,by decide +kernel,rfl,by decide +kernel,by decide +kernel⟩
theorem ok_cell {f:Addr} {fd:FuncData} (F:Fun K "_law_cell" "_law_cell" sCell f fd) (T:TxtR mg):FnOk P w K mg base CX0 1 f fd ["script","k"] (spCell K):=by
 refine F.ok scCell (fun vs H Q E h=>?_) (fun cdv A outer s H vs Q E hr h=>?_)
 ·obtain ⟨a,ns,j,rfl,_⟩:=h
  rfl
 ·obtain ⟨a,ns,j,rfl,hS,k⟩:=h
  refine ⟨_,J3 (ps_if (Jo op_lt (pv 1) (Jy Ju (by rfl) T.len PySem.boot_len (J0 (pv 0) J6)) (Jp _)) (J9 (Jl (pe_ix J19 (pv 0) (pv 1) (fun _ _=>rfl)))) Jv) (J9 (Jl Jb)),?_⟩
  refine ⟨_,rfl,_,rfl,a,_,rfl,.inl hS,_,_,rfl,rfl,_,rfl,?_⟩
  have hl:(iV ns).length=ns.length:=List.length_map ..
  by_cases hj:j < ns.length
  ·refine iteDT (by rw [hl];lia) ?_
   exact ⟨_,rfl,_,rfl,a,_,_,_,rfl,rfl,hS,J7 (J13 hj),k⟩
  ·refine iteD (by rw [hl];lia) ?_
   have e:cellN ns j=0:=by
    unfold cellN
    rw [List.getD_eq_getElem?_getD,List.getElem?_eq_none (by lia)];rfl
   rw [e] at k
   exact k
end
section
variable {P:Program} {w:World} {K:PySem.W.Frag} {mg:Str→Option Value} {base:Heap}
def bits3 (ns:List Int):Int:=cellN ns 1 / 3 % (1 * 2 ^ (24:Int).toNat)
def turn3 (ns:List Int) (k:Nat):Bool:=if decide (V.int (Builtin.bitAnd (bits3 ns / 2 ^ k) 1)=V.int 1)=true then decide (cellN ns 1 % 3 > 0) else false
def draw3 (ns:List Int) (many:Nat):List Bool:=(List.range many).map (turn3 ns)
theorem draw3_len (ns:List Int) (many:Nat):(draw3 ns many).length=many:=by simp [draw3]
structure DrawnAt (H:Hp) (p:Addr) (ls:List Int) (os:List Nat) (ts:List Bool):Prop where
 ex:∃ l o t:Addr,H p=some (.tup [.ref l,.ref o,.ref t])∧H l=some (.lst (iV ls))∧H o=some (.lst (nV os))∧H t=some (.lst (bV ts))
theorem DrawnAt.same {H H':Hp} {p:Addr} {ls:List Int} {os:List Nat} {ts:List Bool} (h:DrawnAt H p ls os ts) (s:Same H H'):DrawnAt H' p ls os ts:=by
 obtain ⟨l,o,t,h0,h1,h2,h3⟩:=h.ex
 exact ⟨l,o,t,s _ _ h0,s _ _ h1,s _ _ h2,s _ _ h3⟩
theorem insV (os:List Nat) (i y:Nat):(nV os).take i ++ V.int (y:Int) :: (nV os).drop i=nV (insAt os i y):=by
 show ((os.map fun (n:Nat)=>(n:Int)).map V.int).take i ++ V.int (y:Int) :: ((os.map fun (n:Nat)=>(n:Int)).map V.int).drop i=((insAt os i y).map fun (n:Nat)=>(n:Int)).map V.int
 unfold insAt
 simp only [List.map_append,List.map_cons,List.map_take,List.map_drop]
theorem drawn_good (ns:List Int) {many:Nat} {top:Int} (h1:1≤many) (h2:many≤24) (h3:0 < top) (h4:top≤10 ^ 28):Good (drawL ns many top) (drawO ns many many):=by
 have hl:=drawL_len ns many top
 refine ⟨by lia,by lia,fun a ha=>(drawL_mem h3 a ha).1,?_,by rw [hl];exact J4j ns many many⟩
 have e1:=sum_le (drawL ns many top) fun a ha=>(drawL_mem h3 a ha).2
 rw [hl] at e1
 have e2:=mul_top h2 (Int.le_of_lt h3)
 have e3:(24:Int) * top≤10 ^ 30:=by
  have:(24:Int) * top≤24 * 10 ^ 28:=by lia
  have:(24:Int) * 10 ^ 28≤10 ^ 30:=by decide
  lia
 lia
def spDrawn3 (K:PySem.W.Frag):Sp:=fun vs H Q _=>∃ (a:Addr) (ns:List Int) (many:Nat) (top:Int),vs=[.ref a,.int many,.int top]∧SqL K H a (iV ns)∧1≤many∧many≤24∧0 < top∧
 ∀ p H',Same H H'→DrawnAt H' p (drawL ns many top) (drawO ns many many) (draw3 ns many)→Q (.ref p) H'
theorem scDrawn3:FnScope ["script","many","top","lengths","order","k","bits","turned"] ["script","many","top"] (J2 J5h):=⟨rfl,rfl,rfl,by decide +kernel,rfl,by decide +kernel,by decide +kernel⟩
theorem ok_drawn3 {f fc:Addr} {fd fdc:FuncData} (F:Fun K "_law_drawn" "_law_drawn" J5h f fd) (T:TxtR mg) (GC:FnOk P w K mg base CX0 1 fc fdc ["script","k"] (spCell K)) (bC:Binds K fdc ["script","k"] []) (mC:mg "_law_cell"=some (.ref fc)) (kC:PySem.W.keepIn K (.ref fc)=true) :
  FnOk P w K mg base CX0 2 f fd ["script","many","top"] (spDrawn3 K):=by
 refine F.ok scDrawn3 (fun vs H Q E h=>?_) (fun cdv A outer s H vs Q E hr h=>?_)
 ·obtain ⟨a,ns,many,top,rfl,_⟩:=h
  rfl
 ·obtain ⟨a,ns,many,top,rfl,hS,h1,h2,h3,k⟩:=h
  refine ⟨_,J3 (ps_compB (i:=3) ["script","top"] [0,2] scDrawn3.nd rfl (Or.inl rfl) rfl (J63 rfl T.range (J0 (pv 1) J6)) rfl
    (fun C fp s H=>pe_op J2i Jb (pe_op J4o (Jd GC hr rfl mC kC bC .nil pass0 (J0 (pv 1) (J0 (pe_op J2i Jb (pv 0)) J6))) (pv 2)))
    (by decide +kernel) (by decide +kernel) (by decide +kernel) (by intro p hp;simp only [List.mem_cons,List.not_mem_nil,or_false] at hp;rcases hp with rfl | rfl <;> rfl))
   (J3 (Jn (i:=4) scDrawn3.nd rfl (Or.inl rfl) (J2n J6))
   (J3 (ps_for PassesOwn.never rfl (J63 rfl T.range (J0 (pv 1) J6)) (J2l (i:=5) scDrawn3.nd rfl (Or.inl rfl))
    (J9 (J12 (pe_bm PySem.F.plainAttrs_list PySem.F.slot_list_insert PySem.F.type_list_insert mt_insert (pv 4)
     (J0 (pe_op J4o (Jd GC hr rfl mC kC bC .nil pass0 (J0 (pv 0) (J0 (pe_op J2i (pe_op J2i Jb (pv 1)) (pv 5)) J6))) (pe_op J2i (pv 5) Jb)) (J0 (pv 5) J6))))))
   (J3 (Jn (i:=6) scDrawn3.nd rfl (Or.inr rfl) (pe_op J4o (pe_op op_fdiv (Jd GC hr rfl mC kC bC .nil pass0 (J0 (pv 0) (J0 Jb J6))) Jb) (pe_op op_shl Jb Jb)))
   (J3 (ps_lc (i:=7) (caps:=["bits","script"]) (js:=[6,0]) scDrawn3.nd rfl (Or.inl rfl) rfl (J63 rfl T.range (J0 (pv 1) J6)) rfl (fun _ _ _ _=>pts_nil)
     (fun C fp s H=>J3z (J1c op_eq (pe_op op_and (pe_op op_shr (pv 1) (pv 0)) Jb) Jb (Jp _)) (J64 (J1c op_gt (pe_op J4o (Jd GC hr rfl mC kC bC .nil pass0 (J0 (pv 2) (J0 Jb J6))) Jb) Jb (Jp _))))
     (by decide +kernel) (by decide +kernel) (by decide +kernel) (by intro p hp;simp only [List.mem_cons,List.not_mem_nil,or_false] at hp;rcases hp with rfl | rfl <;> rfl))
   (J9 (Jl (J2m (J0 (pv 3) (J0 (pv 4) (J0 (pv 7) J6)))))))))),?_⟩
  refine ⟨_,rfl,(many:Int),rfl,by lia,by lia,0,many,fun k=>V.int (1 + cellN ns (2 + k) % top),rfl,by lia,?_,fun d hd=>?_⟩
  ·rintro d H2 j hd hj rfl
   have e:((2:Int) + (0 + (j:Int)))=((2 + j:Nat):Int):=by lia
   exact ⟨_,rfl,_,rfl,_,_,rfl,rfl,a,ns,2 + j,(by rw [← e];rfl),(J8 hd).seq hS,_,rfl,_,_,rfl,rfl,h3,_,_,rfl,rfl,rfl,rfl⟩
  have eL:(List.range many).map (fun k=>V.int (1 + cellN ns (2 + k) % top))=iV (drawL ns many top):=by
   show _=(drawL ns many top).map V.int
   unfold drawL
   rw [List.map_map];rfl
  rw [eL]
  have s1:Same H (upd H d (.lst (iV (drawL ns many top)))):=J8 hd
  generalize hH1:upd H d (.lst (iV (drawL ns many top)))=H1 at s1
  have hd1:H1 d=some (.lst (iV (drawL ns many top))):=by rw [← hH1];exact J4
  refine ⟨Nat.zero_le _,fun ol hol=>?_⟩
  refine ⟨_,rfl,(many:Int),rfl,by lia,by lia,for_range (lo:=0) (n:=many) (fun i σ H2=>∃ v,σ=[some (.ref a),some (.int many),some (.int top),some (.ref d),some (.ref ol),v,none,none]∧H2 ol=some (.lst (nV (drawO ns many i)))∧Same H1 H2)
   ⟨none,rfl,J4,J8 hol⟩ ?_ ?_⟩
  ·rintro i σ H2 hi ⟨v,rfl,ho,s2⟩
   rw [Int.zero_add]
   obtain ⟨q1,q2⟩:=spotO_le ns many i
   have e:((2:Int) + (many:Int) + (i:Int))=((2 + many + i:Nat):Int):=by lia
   have hlen:(nV (drawO ns many i)).length=i:=by rw [J3b,drawO_len]
   refine ⟨_,rfl,.inl ⟨rfl,_,SqL.of ho⟩,_,rfl,_,rfl,_,_,rfl,rfl,_,rfl,_,_,rfl,rfl,a,ns,2 + many + i,(by rw [← e];rfl),(s1.trans s2).seq hS,_,rfl,_,_,rfl,rfl,_,_,rfl,rfl,(by lia),_,rfl,
    ol,_,spotO ns many i,V.int (i:Int),rfl,(by rw [q2]),ho,(by rw [hlen];exact q1),(by rw [hlen];exact J11 (by lia)),?_⟩
   refine ⟨_,rfl,?_,fun b o z=>?_⟩
   ·rw [J4,insV];rfl
   ·rw [Jc (Ja z hol)]
    exact s2 _ _ z
  ·rintro σ H2 ⟨v,rfl,ho,s2⟩
   have s3:=s1.trans s2
   refine ⟨_,rfl,a,ns,1,rfl,s3.seq hS,_,_,rfl,rfl,⟨by decide,by decide⟩,_,_,rfl,rfl,⟨by decide,by decide,by decide⟩,_,_,rfl,rfl,(by show (0:Int) < 1 * 2 ^ 24;decide),?_⟩
   refine ⟨_,rfl,(many:Int),rfl,by lia,by lia,fun tl htl=>lc_rng 0 many (fun _=>true) (fun k=>V.bl (turn3 ns k)) (by lia) htl (fun _ _ H _ _ q=>q H (Same.refl _)) (fun j hj H3 Qe _ s3' q=>?_) (fun H3 s3' htl'=>?_)⟩
   ·have e:(0 + (j:Int)).toNat=j:=by lia
    have q0:=q H3 (Same.refl _)
    unfold turn3 bits3 at q0
    refine ⟨_,rfl,_,rfl,_,_,rfl,rfl,(by lia),_,_,rfl,rfl,rfl,_,rfl,?_⟩
    rw [e]
    by_cases c:decide (V.int (Builtin.bitAnd (cellN ns 1 / 3 % (1 * 2 ^ (24:Int).toNat) / 2 ^ j) 1)=V.int 1)=true
    ·rw [if_pos c] at q0
     refine iteBT c ?_
     exact ⟨_,rfl,a,ns,1,rfl,(s3.trans s3').seq hS,_,_,rfl,rfl,(by show (0:Int) < 3;decide),_,_,rfl,rfl,q0⟩
    ·rw [if_neg c] at q0
     refine iteBF c ?_
     exact q0
   rw [J3q] at htl'
   have eT:(List.range many).map (fun k=>V.bl (turn3 ns k))=bV (draw3 ns many):=by
    show _=(draw3 ns many).map V.bl
    unfold draw3
    rw [List.map_map];rfl
   rw [eT] at htl'
   refine ⟨_,rfl,_,rfl,_,rfl,(by show 3≤sizeLine;rw [sizeLine_eq];decide),fun p hp=>?_⟩
   have s4:=s3'.trans (J8 (o:=.tup [.ref d,.ref ol,.ref tl]) hp)
   exact k p _ (s3.trans s4) ⟨d,ol,tl,J4,s4 _ _ (s2 _ _ hd1),s4 _ _ ho,J8 hp _ _ htl'⟩
end
section
variable {P:Program} {w:World} {K:PySem.W.Frag} {mg:Str→Option Value} {base:Heap}
theorem div30 {i b:Int} (hb:0 < b) (hb':b≤10 ^ 30):CDivB i b:=by
 have e:(10:Nat) ^ 30 < 2 ^ 4000:=by decide
 exact ⟨hb,Nat.lt_of_le_of_lt (show b.natAbs≤10 ^ 30 by lia) e⟩
structure StL (H:Hp) (p a0 a1 a2 a3 a4 a5:Addr) (r:Rst) (T:List Int) (bs:List Band) (lsL:List Int) (tsL:List Bool) (tw:List Int):Prop where
 tup:H p=some (.tup [.ref a0,.ref a1,.ref a2,.ref a3,.ref a4,.ref a5])
 t0:H a0=some (.lst (nV r.top))
 t1:H a1=some (.lst (nV r.bot))
 t2:H a2=some (.lst (iV lsL))
 t3:H a3=some (.lst (bV tsL))
 t4:H a4=some (.lst (iV tw))
 t5:BndAt H a5 bs
 l2:lsL.length=r.ls.length
 l3:tsL.length=r.ls.length
 l4:tw.length=r.ls.length
 ag:∀ j∈r.top,lsL.getD j 0=r.ls.getD j 0∧tsL.getD j false=r.ts.getD j false∧tw.getD j 0=T.getD j 0
theorem BndAt.same {H H':Hp} {l:Addr} {bs:List Band} (h:BndAt H l bs) (s:Same H H'):BndAt H' l bs:=let ⟨ys,a,b⟩:=h;⟨ys,s _ _ a,b.mono fun q i _ k=>s _ _ k⟩
theorem StL.same {H H':Hp} {p a0 a1 a2 a3 a4 a5:Addr} {r:Rst} {T:List Int} {bs:List Band} {lsL:List Int} {tsL:List Bool} {tw:List Int} (h:StL H p a0 a1 a2 a3 a4 a5 r T bs lsL tsL tw) (s:Same H H'):StL H' p a0 a1 a2 a3 a4 a5 r T bs lsL tsL tw :=
 ⟨s _ _ h.tup,s _ _ h.t0,s _ _ h.t1,s _ _ h.t2,s _ _ h.t3,s _ _ h.t4,h.t5.same s,h.l2,h.l3,h.l4,h.ag⟩
theorem cut_lst (row:List Nat) (a:Nat) (ha:a∈row):cutV (nV row) (some ((((natI row).idxOf (a:Int):Nat):Int) + 1)) none=nV (J1 row a):=by
 have h1:row.idxOf a < row.length:=List.idxOf_lt_length_iff.mpr ha
 have e:(((natI row).idxOf (a:Int):Nat):Int) + 1=((row.idxOf a + 1:Nat):Int):=by rw [J4i];lia
 rw [e,cut_nat row _ h1];rfl
theorem J37 {ls ls':List Int}:∀ {os:List Nat},(∀ j∈os,ls.getD j 0=ls'.getD j 0)→lenOf ls os=lenOf ls' os
 | [],_=>rfl
 | o :: os,h=>by
  rw [Ji,Ji,h o List.mem_cons_self,J37 fun j hj=>h j (List.mem_cons_of_mem _ hj)]
def spLBehind:Sp:=fun vs H Q _=>∃ (p a0 a1 a2 a3 a4 a5 q:Addr) (row:List Nat) (lsL:List Int) (a:Nat),vs=[.ref p,.ref q,.int (a:Nat)]∧H p=some (.tup [.ref a0,.ref a1,.ref a2,.ref a3,.ref a4,.ref a5])∧H a2=some (.lst (iV lsL))∧H q=some (.lst (nV row))∧a∈row∧(∀ j∈row,j < lsL.length)∧row.length≤24∧∀ H',Same H H'→Q (.int (lenOf lsL (J1 row a))) H'
theorem scLBehind:FnScope ["state","row","letter"] ["state","row","letter"] (J2 J3v):=⟨rfl,rfl,rfl,by decide +kernel,rfl,by decide +kernel,by decide +kernel⟩
theorem ok_lbehind {f   : Addr} {fd  : FuncData}  (F : Fun K "_law_behind" "_law_behind" J3v f fd) (T : TxtR mg)
 :
    FnOk P w K mg base CX0 1 f fd ["state", "row", "letter"] spLBehind := by
  refine F.ok scLBehind (fun vs H Q E h => ?_) (fun cdv A outer s H vs Q E hr h => ?_)
  · obtain ⟨p, a0, a1, a2, a3, a4, a5, q, row, lsL, a, rfl, _⟩ := h
    rfl
  · obtain ⟨p, a0, a1, a2, a3, a4, a5, q, row, lsL, a, rfl, hp, h2, hq, ha, hlt, few, k⟩ := h
    refine ⟨_, (J9 (Jl (Jy (J4k rfl) (by rfl) T.sum PyProof.Rows.boot_sum (J0 (pe_lc (caps := ["state"]) (js := [0]) rfl (J5l (J3e J4w (pv 1) (J4b (pe_op J2i (pe_bm PySem.F.plainAttrs_list PySem.F.slot_list_index PySem.F.type_list_index J35 (pv 1) (J0 (pv 2) J6)) Jb)) J4c)) rfl (fun _ _ _ _ => pts_nil) (fun C fp s H => (pe_ixr (ix_listK K) (pe_ixr (ix_tupK K) (pv 1) Jb) (pv 0))) (by decide +kernel) (by decide +kernel) (by decide +kernel) (by intro p hp; simp only [List.mem_cons, List.not_mem_nil, or_false] at hp; rcases hp with rfl; rfl)) J6)))), ?_⟩
    refine ⟨_, rfl, _, rfl, .inl ⟨rfl, _, SqL.of hq⟩, _, rfl, q, natI row, (a : Int), rfl, rfl, SqL.of hq, J3n ha, _, _, rfl, rfl, _, rfl, q, _, rfl, SqL.of hq, fun rv hrv => ?_⟩
    rw [cut_lst _ _ ha]
    have s1 := J8 (o := .lst (nV (J1 row a))) hrv
    have hrv1 : upd H rv (.lst (nV (J1 row a))) rv = some (.lst (nV (J1 row a))) := J4
    generalize upd H rv (.lst (nV (J1 row a))) = H1 at *
    have ln := J7b row a
    refine ⟨rv, rfl, ⟨_, SqL.of hrv1⟩, fun d hd => lc_lst (fun (j : Nat) => V.int (j : Int)) (J1 row a) (fun _ => true) (fun j => V.int (lsL.getD j 0)) (by rw [← nV_eq]; exact SqL.of hrv1) (by lia) hd
      (fun _ _ H _ _ k => k H (Same.refl _)) (fun j hj H2 Qe _ s2 k => ?_) (fun H' s' hd' => ?_)⟩
    · have s12 := s1.trans s2
      exact ⟨_, rfl, p, _, _, _, rfl, rfl, SqT.of (s12 _ _ hp), J7 (j := 2) rfl, _, rfl, a2, _, _, _, rfl, rfl, SqL.of (s12 _ _ h2), J7 (J13 (hlt j (Jg hj))), k _ (Same.refl _)⟩
    rw [J3q] at hd'
    exact ⟨d, (J1 row a).map fun j => lsL.getD j 0, rfl, .inl (SqL.of (by rw [hd', List.map_map]; rfl)), k H' (s1.trans s')⟩
def spLTurns:Sp:=fun vs H Q _=>∃ (p a0 a1 a2 a3 a4 a5 q:Addr) (r:Rst) (T:List Int) (bs:List Band) (lsL:List Int) (tsL:List Bool) (tw:List Int) (row:List Nat) (a:Nat),vs=[.ref p,.ref q,.int (a:Nat)]∧StL H p a0 a1 a2 a3 a4 a5 r T bs lsL tsL tw∧r.Ok∧H q=some (.lst (nV row))∧row.Perm r.top∧a∈row∧1≤lenOf r.ls (J1 row a)∧lenOf r.ls (J1 row a)≤10 ^ 30∧∀ H',Same H H'→Q (.int (J10 r a row)) H'
theorem scLTurns:FnScope ["state","row","letter"] ["state","row","letter"] (J2 J5b):=⟨rfl,rfl,rfl,by decide +kernel,rfl,by decide +kernel,by decide +kernel⟩
theorem ok_lturns {f fLb :Addr} {fd fdLb:FuncData}  (F:Fun K "_law_turns" "_law_turns" J5b f fd)
  (GLb:FnOk P w K mg base CX0 1 fLb fdLb ["state","row","letter"] spLBehind) (bLb:Binds K fdLb ["state","row","letter"] []) (mLb:mg "_law_behind"=some (.ref fLb)) (kLb:PySem.W.keepIn K (.ref fLb)=true) :
  FnOk P w K mg base CX0 2 f fd ["state","row","letter"] spLTurns:=by
 refine F.ok scLTurns (fun vs H Q E h=>?_) (fun cdv A outer s H vs Q E hr h=>?_)
 ·obtain ⟨p,a0,a1,a2,a3,a4,a5,q,r,T,bs,lsL,tsL,tw,row,a,rfl,_⟩:=h
  rfl
 ·obtain ⟨p,a0,a1,a2,a3,a4,a5,q,r,T,bs,lsL,tsL,tw,row,a,rfl,S,ok,hq,hperm,ha,b1,b2,k⟩:=h
  have hr1:Room 1 _:=hr.mono (by decide)
  refine ⟨_,(J3 (ps_if (J61 (pe_ix J19 (pe_ix Jj (pv 0) Jb (fun _ _=>rfl)) (pv 2) (fun _ _=>rfl))) (J9 (Jl Jb)) Jv)
   (J9 (Jl (pe_op op_fdivB (pe_op op_sub (pe_ix J19 (pe_ix Jj (pv 0) Jb (fun _ _=>rfl)) (pv 2) (fun _ _=>rfl)) Jb) (Jd GLb hr1 rfl mLb kLb bLb .nil pass0 (J0 (pv 0) (J0 (pv 1) (J0 (pv 2) J6)))))))),?_⟩
  have ha':=hperm.mem_iff.mp ha
  have al:=ok.row.lt _ ha'
  obtain ⟨g1,g2,g3⟩:=S.ag a ha'
  have eqL:lenOf lsL (J1 row a)=lenOf r.ls (J1 row a):=J37 fun j hj=>(S.ag j (hperm.mem_iff.mp (Jg hj))).1
  refine ⟨_,rfl,p,_,_,_,rfl,rfl,SqT.of S.tup,J7 (j:=3) rfl,_,rfl,a3,_,_,_,rfl,rfl,SqL.of S.t3,J7 (J3c (by rw [S.l3];exact al)),_,rfl,?_⟩
  unfold J10 at k
  rw [g2]
  by_cases c:r.ts.getD a false=true
  ·refine iteBT c ?_
   have:=k H (Same.refl _)
   rw [if_pos c] at this
   exact this
  ·refine iteBF c ?_
   rw [if_neg c] at k
   refine ⟨_,rfl,p,_,_,_,rfl,rfl,SqT.of S.tup,J7 (j:=2) rfl,_,rfl,a2,_,_,_,rfl,rfl,SqL.of S.t2,J7 (J13 (by rw [S.l2];exact al)),_,_,rfl,rfl,_,rfl,_,rfl,_,rfl,p,a0,a1,a2,a3,a4,a5,q,row,lsL,a,rfl,S.tup,S.t2,hq,ha,fun j hj=>by rw [S.l2];exact ok.row.lt j (hperm.mem_iff.mp hj),(by rw [hperm.length_eq];exact Nat.le_trans ok.row.len_le ok.few),fun H' s'=>?_⟩
   rw [eqL,g1]
   exact ⟨_,_,rfl,rfl,div30 (by lia) b2,k H' s'⟩
def spLNext:Sp:=fun vs H Q _=>∃ (p a0 a1 a2 a3 a4 a5:Addr) (r:Rst) (T:List Int) (bs:List Band) (lsL:List Int) (tsL:List Bool) (tw:List Int),vs=[.ref p]∧StL H p a0 a1 a2 a3 a4 a5 r T bs lsL tsL tw∧r.Ok∧r.top≠[]∧r.size≤10 ^ 30∧∀ q H',Same H H'→H' q=some (.tup (rowV (nextN r)))→Q (.ref q) H'
theorem scLNext:FnScope ["state","a","b","more","times"] ["state"] (J2 sLNext):=⟨rfl,rfl,rfl,by decide +kernel,rfl,by decide +kernel,by decide +kernel⟩
theorem ok_lnext {f fLt :Addr} {fd fdLt:FuncData}  (F:Fun K "_law_next" "_law_next" sLNext f fd)
  (GLt:FnOk P w K mg base CX0 2 fLt fdLt ["state","row","letter"] spLTurns) (bLt:Binds K fdLt ["state","row","letter"] []) (mLt:mg "_law_turns"=some (.ref fLt)) (kLt:PySem.W.keepIn K (.ref fLt)=true) :
  FnOk P w K mg base CX0 3 f fd ["state"] spLNext:=by
 refine F.ok scLNext (fun vs H Q E h=>?_) (fun cdv A outer s H vs Q E hr h=>?_)
 ·obtain ⟨p,a0,a1,a2,a3,a4,a5,r,T,bs,lsL,tsL,tw,rfl,_⟩:=h
  rfl
 ·obtain ⟨p,a0,a1,a2,a3,a4,a5,r,T,bs,lsL,tsL,tw,rfl,S,ok,ne,hz,k⟩:=h
  have hr2:Room 2 _:=hr.mono (by decide)
  refine ⟨_,(J3 (Jn (i:=1) scLNext.nd rfl (Or.inl rfl) (pe_ix J19 (pe_ix Jj (pv 0) Jb (fun _ _=>rfl)) (pe_un J2j Jb) (fun _ _=>rfl)))
   (J3 (Jn (i:=2) scLNext.nd rfl (Or.inl rfl) (pe_ix J19 (pe_ix Jj (pv 0) Jb (fun _ _=>rfl)) (pe_un J2j Jb) (fun _ _=>rfl)))
   (J3 (ps_if (Jo op_eq (pv 1) (pv 2) (Jp _)) (J9 (Jl (J2m (J0 J1k (J0 (pv 1) (J0 Jb J6)))))) Jv)
   (J3 (Jn (i:=3) scLNext.nd rfl (Or.inl rfl) (pe_op op_sub (pe_ix J19 (pe_ix Jj (pv 0) Jb (fun _ _=>rfl)) (pv 1) (fun _ _=>rfl)) (pe_ix J19 (pe_ix Jj (pv 0) Jb (fun _ _=>rfl)) (pv 2) (fun _ _=>rfl))))
   (J3 (ps_if (Jo op_eq (pv 3) Jb (Jp _)) (J9 (Jl (J2m (J0 J1k (J0 (pv 1) (J0 (pv 2) J6)))))) Jv)
   (J3 (ps_if (Jo op_gt (pv 3) Jb (Jp _)) (J3 (Jn (i:=4) scLNext.nd rfl (Or.inl rfl) (Jd GLt hr2 rfl mLt kLt bLt .nil pass0 (J0 (pv 0) (J0 (pe_ix Jj (pv 0) Jb (fun _ _=>rfl)) (J0 (pv 1) J6)))))
    (J3 (ps_if (Jo op_gt (pv 4) Jb (Jp _)) (J9 (Jl (J2m (J0 J1k (J0 (pv 1) (J0 (pv 4) J6)))))) Jv)
    (J9 (Jl (J2m (J0 J1k (J0 (pv 1) (J0 (pv 2) J6)))))))) Jv)
   (J3 (Jn (i:=4) scLNext.nd rfl (Or.inl rfl) (Jd GLt hr2 rfl mLt kLt bLt .nil pass0 (J0 (pv 0) (J0 (pe_ix Jj (pv 0) Jb (fun _ _=>rfl)) (J0 (pv 2) J6)))))
   (J3 (ps_if (Jo op_gt (pv 4) Jb (Jp _)) (J9 (Jl (J2m (J0 J1k (J0 (pv 2) (J0 (pv 4) J6)))))) Jv)
   (J9 (Jl (J2m (J0 J1k (J0 (pv 2) (J0 (pv 1) J6)))))))))))))),?_⟩
  have neB:r.bot≠[]:=fun e=>by
   have:=ok.lens
   rw [e] at this
   exact ne (List.length_eq_zero_iff.mp this.symm)
  have mT:=ok.mT ne
  have mB:=ok.mB ne
  have lT:=ok.row.lt _ mT
  have lB:=ok.row.lt _ mB
  obtain ⟨gT,_,_⟩:=S.ag _ mT
  obtain ⟨gB,_,_⟩:=S.ag _ mB
  have z3:(3:Nat)≤sizeLine:=by decide
  refine ⟨_,rfl,p,_,_,_,rfl,rfl,SqT.of (S.tup),J7 (j:=0) rfl,_,rfl,a0,_,_,_,rfl,rfl,SqL.of S.t0,J16 ne,?_⟩
  refine ⟨_,rfl,p,_,_,_,rfl,rfl,SqT.of (S.tup),J7 (j:=1) rfl,_,rfl,a1,_,_,_,rfl,rfl,SqL.of S.t1,J16 neB,?_⟩
  refine ⟨_,rfl,_,rfl,rfl,_,rfl,?_⟩
  unfold nextN at k
  have inj:∀ {i j:Nat},V.int (i:Nat)=V.int (j:Nat)→i=j:=fun q=>by have:=V.int.inj q;lia
  by_cases c1:lastT r=lastB r
  ·rw [if_pos c1] at k
   exact iteDT (congrArg (fun n:Nat=>V.int (n:Int)) c1) ⟨_,rfl,z3,fun q hq=>k q _ (J8 hq) J4⟩
  refine iteD (fun q=>c1 (inj q)) ?_
  rw [if_neg c1] at k
  refine ⟨_,rfl,p,_,_,_,rfl,rfl,SqT.of (S.tup),J7 (j:=2) rfl,_,rfl,a2,_,_,_,rfl,rfl,SqL.of S.t2,J7 (J13 (by rw [S.l2];exact lT)),_,rfl,p,_,_,_,rfl,rfl,SqT.of (S.tup),J7 (j:=2) rfl,_,rfl,a2,_,_,_,rfl,rfl,SqL.of S.t2,J7 (J13 (by rw [S.l2];exact lB)),_,_,rfl,rfl,?_⟩
  rw [gT,gB]
  refine ⟨_,rfl,rfl,_,rfl,?_⟩
  by_cases c2:r.ls.getD (lastT r) 0=r.ls.getD (lastB r) 0
  ·rw [if_pos c2] at k
   exact iteDT (by show V.int (_ - _)=V.int 0;rw [c2,Int.sub_self]) ⟨_,rfl,_,rfl,z3,fun q hq=>k q _ (J8 hq) J4⟩
  refine iteD (fun e=>c2 (by have:=V.int.inj e;lia)) ?_
  rw [if_neg c2] at k
  refine ⟨_,rfl,_,_,rfl,rfl,_,rfl,?_⟩
  by_cases c3:r.ls.getD (lastB r) 0 < r.ls.getD (lastT r) 0
  ·refine iteDT (show r.ls.getD (lastT r) 0 - r.ls.getD (lastB r) 0 > 0 by lia) ?_
   rw [if_pos c3] at k
   have hT:=ok.perm.mem_iff.mpr mT
   have b1:=J20 (ls:=r.ls) (fun j hj=>ok.rowB.pos j (Jg hj)) (J28 hT (fun e=>c1 e.symm))
   refine ⟨_,rfl,_,rfl,p,_,_,_,rfl,rfl,SqT.of (S.tup),J7 (j:=1) rfl,_,rfl,p,a0,a1,a2,a3,a4,a5,a1,r,T,bs,lsL,tsL,tw,r.bot,lastT r,rfl,S,ok,S.t1,ok.perm,hT,b1,behB ok hz ok.perm,fun H1 s1=>?_⟩
   refine ⟨_,rfl,_,_,rfl,rfl,_,rfl,?_⟩
   by_cases c4:0 < J10 r (lastT r) r.bot
   ·rw [if_pos c4] at k
    exact iteDT c4 ⟨_,rfl,_,rfl,z3,fun q hq=>k q _ (s1.trans (J8 hq)) J4⟩
   ·rw [if_neg c4] at k
    exact iteD c4 ⟨_,rfl,_,rfl,z3,fun q hq=>k q _ (s1.trans (J8 hq)) J4⟩
  ·refine iteD (show ¬ r.ls.getD (lastT r) 0 - r.ls.getD (lastB r) 0 > 0 by lia) ?_
   rw [if_neg c3] at k
   have b1:=J20 (ls:=r.ls) (fun j hj=>ok.row.pos j (Jg hj)) (J28 mB c1)
   refine ⟨_,rfl,_,rfl,p,_,_,_,rfl,rfl,SqT.of (S.tup),J7 (j:=0) rfl,_,rfl,p,a0,a1,a2,a3,a4,a5,a0,r,T,bs,lsL,tsL,tw,r.top,lastB r,rfl,S,ok,S.t0,List.Perm.refl _,mB,b1,behB ok hz (List.Perm.refl _),fun H1 s1=>?_⟩
   refine ⟨_,rfl,_,_,rfl,rfl,_,rfl,?_⟩
   by_cases c4:0 < J10 r (lastB r) r.top
   ·rw [if_pos c4] at k
    exact iteDT c4 ⟨_,rfl,_,rfl,z3,fun q hq=>k q _ (s1.trans (J8 hq)) J4⟩
   ·rw [if_neg c4] at k
    exact iteD c4 ⟨_,rfl,_,rfl,z3,fun q hq=>k q _ (s1.trans (J8 hq)) J4⟩
end
section
variable {P:Program} {w:World} {K:PySem.W.Frag} {mg:Str→Option Value} {base:Heap}
def K6 (as:List Addr) (H H':Hp):Prop:=∀ b o,H b=some o→b ∉ as→H' b=some o
theorem K6.trans {as:List Addr} {H H1 H2:Hp} (h:K6 as H H1) (k:K6 as H1 H2):K6 as H H2:=fun b o e n=>k _ _ (h _ _ e n) n
theorem K6.of {as:List Addr} {H H':Hp} (s:Same H H'):K6 as H H':=fun b o e _=>s _ _ e
structure RawL (H:Hp) (p a0 a1 a2 a3 a4 a5:Addr) (top bot:List Nat) (lsL:List Int) (tsL:List Bool) (tw:List Int) (bs:List Band):Prop where
 nd:[a0,a1,a2,a3,a4,a5].Nodup
 tup:H p=some (.tup [.ref a0,.ref a1,.ref a2,.ref a3,.ref a4,.ref a5])
 t0:H a0=some (.lst (nV top))
 t1:H a1=some (.lst (nV bot))
 t2:H a2=some (.lst (iV lsL))
 t3:H a3=some (.lst (bV tsL))
 t4:H a4=some (.lst (iV tw))
 t5:BndAt H a5 bs
theorem J2g {as:List Addr} {H:Hp} {l:Addr} {o:HO} (h:l∈as):K6 as H (upd H l o):=fun b u e n=>by rw [Jc (show b≠l from fun q=>n (by rw [q];exact h))];exact e
theorem BndAt.upd {H:Hp} {l a:Addr} {bs:List Band} {xs ys:List V} (h:BndAt H l bs) (ha:H a=some (.lst xs)) (n:l≠a):BndAt (upd H a (.lst ys)) l bs:=by
 obtain ⟨zs,e,r⟩:=h
 refine ⟨zs,by rw [Jc n];exact e,r.mono fun q i _ k=>?_⟩
 rw [Jc (fun q'=>by rw [q',ha] at k;cases k)];exact k
theorem RawL.nes {H:Hp} {p a0 a1 a2 a3 a4 a5:Addr} {top bot:List Nat} {lsL:List Int} {tsL:List Bool} {tw:List Int} {bs:List Band} (h:RawL H p a0 a1 a2 a3 a4 a5 top bot lsL tsL tw bs) :
  (a0≠a1∧a0≠a2∧a0≠a3∧a0≠a4∧a0≠a5)∧(a1≠a2∧a1≠a3∧a1≠a4∧a1≠a5)∧(a2≠a3∧a2≠a4∧a2≠a5)∧(a3≠a4∧a3≠a5)∧a4≠a5:=by
 have:=h.nd
 simp only [List.nodup_cons,List.mem_cons,List.not_mem_nil,or_false,not_or] at this
 obtain ⟨x0,x1,x2,x3,x4,_⟩:=this
 exact ⟨x0,x1,x2,x3,x4⟩
theorem RawL.u0 {H:Hp} {p a0 a1 a2 a3 a4 a5:Addr} {top bot:List Nat} {lsL:List Int} {tsL:List Bool} {tw:List Int} {bs:List Band} (h:RawL H p a0 a1 a2 a3 a4 a5 top bot lsL tsL tw bs) (x:List Nat):RawL (upd H a0 (.lst (nV x))) p a0 a1 a2 a3 a4 a5 x bot lsL tsL tw bs:=by
 have n:=h.nes
 refine ⟨h.nd,?_,J4,(by rw [Jc (Ne.symm n.1.1)];exact h.t1),(by rw [Jc (Ne.symm n.1.2.1)];exact h.t2),(by rw [Jc (Ne.symm n.1.2.2.1)];exact h.t3),(by rw [Jc (Ne.symm n.1.2.2.2.1)];exact h.t4),h.t5.upd h.t0 (Ne.symm n.1.2.2.2.2)⟩
 rw [Jc (fun q=>by have:=h.tup;rw [q,h.t0] at this;cases this)];exact h.tup
theorem RawL.u1 {H:Hp} {p a0 a1 a2 a3 a4 a5:Addr} {top bot:List Nat} {lsL:List Int} {tsL:List Bool} {tw:List Int} {bs:List Band} (h:RawL H p a0 a1 a2 a3 a4 a5 top bot lsL tsL tw bs) (x:List Nat):RawL (upd H a1 (.lst (nV x))) p a0 a1 a2 a3 a4 a5 top x lsL tsL tw bs:=by
 have n:=h.nes
 refine ⟨h.nd,?_,(by rw [Jc n.1.1];exact h.t0),J4,(by rw [Jc (Ne.symm n.2.1.1)];exact h.t2),(by rw [Jc (Ne.symm n.2.1.2.1)];exact h.t3),(by rw [Jc (Ne.symm n.2.1.2.2.1)];exact h.t4),h.t5.upd h.t1 (Ne.symm n.2.1.2.2.2)⟩
 rw [Jc (fun q=>by have:=h.tup;rw [q,h.t1] at this;cases this)];exact h.tup
theorem RawL.u2 {H:Hp} {p a0 a1 a2 a3 a4 a5:Addr} {top bot:List Nat} {lsL:List Int} {tsL:List Bool} {tw:List Int} {bs:List Band} (h:RawL H p a0 a1 a2 a3 a4 a5 top bot lsL tsL tw bs) (x:List Int):RawL (upd H a2 (.lst (iV x))) p a0 a1 a2 a3 a4 a5 top bot x tsL tw bs:=by
 have n:=h.nes
 refine ⟨h.nd,?_,(by rw [Jc n.1.2.1];exact h.t0),(by rw [Jc n.2.1.1];exact h.t1),J4,(by rw [Jc (Ne.symm n.2.2.1.1)];exact h.t3),(by rw [Jc (Ne.symm n.2.2.1.2.1)];exact h.t4),h.t5.upd h.t2 (Ne.symm n.2.2.1.2.2)⟩
 rw [Jc (fun q=>by have:=h.tup;rw [q,h.t2] at this;cases this)];exact h.tup
theorem RawL.u3 {H:Hp} {p a0 a1 a2 a3 a4 a5:Addr} {top bot:List Nat} {lsL:List Int} {tsL:List Bool} {tw:List Int} {bs:List Band} (h:RawL H p a0 a1 a2 a3 a4 a5 top bot lsL tsL tw bs) (x:List Bool):RawL (upd H a3 (.lst (bV x))) p a0 a1 a2 a3 a4 a5 top bot lsL x tw bs:=by
 have n:=h.nes
 refine ⟨h.nd,?_,(by rw [Jc n.1.2.2.1];exact h.t0),(by rw [Jc n.2.1.2.1];exact h.t1),(by rw [Jc n.2.2.1.1];exact h.t2),J4,(by rw [Jc (Ne.symm n.2.2.2.1.1)];exact h.t4),h.t5.upd h.t3 (Ne.symm n.2.2.2.1.2)⟩
 rw [Jc (fun q=>by have:=h.tup;rw [q,h.t3] at this;cases this)];exact h.tup
theorem RawL.u4 {H:Hp} {p a0 a1 a2 a3 a4 a5:Addr} {top bot:List Nat} {lsL:List Int} {tsL:List Bool} {tw:List Int} {bs:List Band} (h:RawL H p a0 a1 a2 a3 a4 a5 top bot lsL tsL tw bs) (x:List Int):RawL (upd H a4 (.lst (iV x))) p a0 a1 a2 a3 a4 a5 top bot lsL tsL x bs:=by
 have n:=h.nes
 refine ⟨h.nd,?_,(by rw [Jc n.1.2.2.2.1];exact h.t0),(by rw [Jc n.2.1.2.2.1];exact h.t1),(by rw [Jc n.2.2.1.2.1];exact h.t2),(by rw [Jc n.2.2.2.1.1];exact h.t3),J4,h.t5.upd h.t4 (Ne.symm n.2.2.2.2)⟩
 rw [Jc (fun q=>by have:=h.tup;rw [q,h.t4] at this;cases this)];exact h.tup
theorem RawL.u5 {H:Hp} {p a0 a1 a2 a3 a4 a5:Addr} {top bot:List Nat} {lsL:List Int} {tsL:List Bool} {tw:List Int} {bs bs':List Band} (h:RawL H p a0 a1 a2 a3 a4 a5 top bot lsL tsL tw bs) {ys:List V} (hb:BndAt (upd H a5 (.lst ys)) a5 bs'):RawL (upd H a5 (.lst ys)) p a0 a1 a2 a3 a4 a5 top bot lsL tsL tw bs':=by
 have n:=h.nes
 obtain ⟨zs,e5,_⟩:=h.t5
 refine ⟨h.nd,?_,(by rw [Jc n.1.2.2.2.2];exact h.t0),(by rw [Jc n.2.1.2.2.2];exact h.t1),(by rw [Jc n.2.2.1.2.2];exact h.t2),(by rw [Jc n.2.2.2.1.2];exact h.t3),(by rw [Jc n.2.2.2.2];exact h.t4),hb⟩
 rw [Jc (fun q=>by have:=h.tup;rw [q,e5] at this;cases this)];exact h.tup
theorem RawL.same {H H':Hp} {p a0 a1 a2 a3 a4 a5:Addr} {top bot:List Nat} {lsL:List Int} {tsL:List Bool} {tw:List Int} {bs:List Band} (h:RawL H p a0 a1 a2 a3 a4 a5 top bot lsL tsL tw bs) (s:Same H H'):RawL H' p a0 a1 a2 a3 a4 a5 top bot lsL tsL tw bs :=
 ⟨h.nd,s _ _ h.tup,s _ _ h.t0,s _ _ h.t1,s _ _ h.t2,s _ _ h.t3,s _ _ h.t4,h.t5.same s⟩
structure AgL (r:Rst) (T:List Int) (lsL:List Int) (tsL:List Bool) (tw:List Int):Prop where
 l2:lsL.length=r.ls.length
 l3:tsL.length=r.ls.length
 l4:tw.length=r.ls.length
 ag:∀ j∈r.top,lsL.getD j 0=r.ls.getD j 0∧tsL.getD j false=r.ts.getD j false∧tw.getD j 0=T.getD j 0
theorem RawL.st {H:Hp} {p a0 a1 a2 a3 a4 a5:Addr} {r:Rst} {T:List Int} {lsL:List Int} {tsL:List Bool} {tw:List Int} {bs:List Band} (h:RawL H p a0 a1 a2 a3 a4 a5 r.top r.bot lsL tsL tw bs) (a:AgL r T lsL tsL tw):StL H p a0 a1 a2 a3 a4 a5 r T bs lsL tsL tw :=
 ⟨h.tup,h.t0,h.t1,h.t2,h.t3,h.t4,h.t5,a.l2,a.l3,a.l4,a.ag⟩
theorem J5q {row:List Nat} (h:row≠[]):(nV row)[(nV row).length - 1]?=some (V.int (row.getD (row.length - 1) 0:Nat)):=by
 have hl:=List.length_pos_iff.mpr h
 rw [J3b,nV_at (by lia)]
theorem J5n (row:List Nat):(nV row).dropLast=nV row.dropLast:=by rw [nV_eq,nV_eq,List.map_dropLast]
theorem nV_set' (row:List Nat) (i b:Nat):(nV row).set i (V.int (b:Nat))=nV (row.set i b):=by rw [nV_eq,nV_eq,List.map_set]
theorem nV_ins (row:List Nat) (i b:Nat):(nV row).take i ++ V.int (b:Nat) :: (nV row).drop i=nV (row.take i ++ b :: row.drop i):=by rw [nV_eq,nV_eq,List.map_append,List.map_cons,List.map_take,List.map_drop]
theorem J5r (ls:List Int) (i:Nat) (x:Int):(iV ls).set i (V.int x)=iV (ls.set i x):=(List.map_set ..).symm
theorem J2q {row:List Nat} (nd:row.Nodup) {a:Nat} (ha:a∈row) (h:row.getD (row.length - 1) 0≠a):a∈row.dropLast∧row.dropLast.idxOf a=row.idxOf a:=by
 have ne:row≠[]:=List.ne_nil_of_mem ha
 have e:row=row.dropLast ++ [row.getLast ne]:=(List.dropLast_concat_getLast ne).symm
 have el:row.getLast ne=row.getD (row.length - 1) 0:=by rw [List.getLast_eq_getElem,List.getD_eq_getElem?_getD,List.getElem?_eq_getElem];rfl
 have m:a∈row.dropLast:=by
  rw [e] at ha
  rcases List.mem_append.mp ha with q | q
  ·exact q
  ·exact absurd ((List.mem_singleton.mp q).trans el).symm h
 refine ⟨m,?_⟩
 have:=List.idxOf_append (l₁:=row.dropLast) (l₂:=[row.getLast ne]) (a:=a)
 rw [← e,if_pos m] at this
 exact this.symm
end
end R25
namespace R25
open PySem L2 Rl
section
variable {P:Program} {w:World} {K:PySem.W.Frag} {mg:Str→Option Value} {base:Heap}
theorem setN (ls:List Int) {i j:Nat} {x:Int} (h:i < ls.length):(ls.set i x).getD j 0=if j=i then x else ls.getD j 0:=J15 _ _ _ _ h
theorem setB (ts:List Bool) {i j:Nat} {x:Bool} (h:i < ts.length):(ts.set i x).getD j false=if j=i then x else ts.getD j false:=J1w _ _ _ _ h
theorem J7v {row:List Nat} {i b:Nat}:(row.set i b).dropLast=row.dropLast.set i b:=by rw [List.dropLast_eq_take,List.dropLast_eq_take,List.length_set,List.take_set]
theorem put_ins {row:List Nat} (nd:row.Nodup) (ne:row≠[]) {a b:Nat} (hb:row.getD (row.length - 1) 0=b) (ahead:Bool) :
  putR row a b ahead=row.dropLast.take (row.dropLast.idxOf a + if (!ahead)=true then 1 else 0) ++ b :: row.dropLast.drop (row.dropLast.idxOf a + if (!ahead)=true then 1 else 0):=by
 have e:=J2d nd ne
 rw [hb] at e
 unfold putR
 rw [e]
 cases ahead <;> simp
theorem neq_bl (x y:Bool):(!decide (V.bl x=V.bl y))=(x != y):=by cases x <;> cases y <;> decide
def Prd (s:Stp) (a b:Nat):Prop:=s=.even a b∨s=.over a b∨s=.under a b
theorem ag_paired {r:Rst} {T lsL tw:List Int} {tsL:List Bool} {s:Stp} {a b:Nat} (ok:r.Ok) (ne:r.top≠[]) (np:NextP r s) (hp:Prd s a b) (tl:T.length=r.ls.length) (A:AgL r T lsL tsL tw) :
  AgL (s.behind r) (towB s r T) (lsL.set a (lsL.getD a 0 - lsL.getD b 0)) (tsL.set b (tsL.getD a false != tsL.getD b false)) (tw.set b (tw.getD b 0 + tw.getD a 0)):=by
 have wa:s.winner=a:=by rcases hp with rfl | rfl | rfl <;> rfl
 have lo:s.losers r=[b]:=by rcases hp with rfl | rfl | rfl <;> rfl
 have tm:s.times=1:=by rcases hp with rfl | rfl | rfl <;> rfl
 have ma:a∈r.top:=by rw [← wa];exact np.win ok ne
 have mb:b∈r.top:=(np.losers_lt ok ne).1 b (by rw [lo];exact List.mem_cons_self)
 have al:=ok.row.lt _ ma
 have bl:=ok.row.lt _ mb
 have hab:a≠b:=by
  rcases hp with rfl | rfl | rfl
  ·exact np.2.2.1
  ·exact np.2.2.1
  ·exact np.2.2.1
 have sub:∀ j∈(s.behind r).top,j∈r.top:=(np.down ok ne).sub
 obtain ⟨a1,a2,a3⟩:=A.ag a ma
 obtain ⟨b1,b2,b3⟩:=A.ag b mb
 have lenb:(s.behind r).ls.length=r.ls.length:=by rcases hp with rfl | rfl | rfl <;> exact List.length_set
 refine ⟨by rw [List.length_set,lenb];exact A.l2,by rw [List.length_set,lenb];exact A.l3,by rw [List.length_set,lenb];exact A.l4,fun j hj=>?_⟩
 have hjr:=sub j hj
 obtain ⟨j1,j2,j3⟩:=A.ag j hjr
 rw [setN _ (by rw [A.l2];exact al),setB _ (by rw [A.l3];exact bl),setN _ (by rw [A.l4];exact bl),J2k _ _ _ (by rw [tl];exact ok.row.lt _ hjr),if_pos hj,lo,wa,tm]
 have tlen:r.ts.length=r.ls.length:=ok.len
 refine ⟨?_,?_,?_⟩
 ·rcases hp with rfl | rfl | rfl
  ·have:j≠a:=fun e=>by
    rw [e] at hj
    exact (mem_without.mp (show a∈withoutR r.top a from hj)).2 rfl
   show _=(r.ls.set a 0).getD j 0
   rw [if_neg this,setN _ al,if_neg this,j1]
  ·show _=(r.ls.set a (r.ls.getD a 0 - r.ls.getD b 0)).getD j 0
   rw [setN _ al,a1,b1,j1]
  ·show _=(r.ls.set a (r.ls.getD a 0 - r.ls.getD b 0)).getD j 0
   rw [setN _ al,a1,b1,j1]
 ·have tb:(J22 r a b).getD j false=if j=b then (r.ts.getD a false != r.ts.getD b false) else r.ts.getD j false:=by unfold J22;rw [setB _ (by rw [tlen];exact bl)]
  rcases hp with rfl | rfl | rfl
  ·have nja:j≠a:=fun e=>by
    rw [e] at hj
    exact (mem_without.mp (show a∈withoutR r.top a from hj)).2 rfl
   show _=((J22 r a b).set a false).getD j false
   rw [setB _ (by rw [J17,tlen];exact al),if_neg nja,tb,a2,b2,j2]
  ·show _=(J22 r a b).getD j false
   rw [tb,a2,b2,j2]
  ·show _=(J22 r a b).getD j false
   rw [tb,a2,b2,j2]
 ·by_cases c:j=b
  ·rw [if_pos c,if_pos (by rw [c];exact List.mem_cons_self),c,b3,a3,Int.mul_one]
  ·rw [if_neg c,if_neg (fun h=>c (List.mem_singleton.mp h)),j3]
def spPaired:Sp:=fun vs H Q _=>∃ (p a0 a1 a2 a3 a4 a5:Addr) (r:Rst) (T:List Int) (bs:List Band) (lsL:List Int) (tsL:List Bool) (tw:List Int) (a b:Nat) (sp:Stp),vs=[.ref p,.str (wordS (kd sp)),.int (a:Nat),.int (b:Nat)]∧RawL H p a0 a1 a2 a3 a4 a5 r.top r.bot lsL tsL tw bs∧AgL r T lsL tsL tw∧r.Ok∧r.top≠[]∧NextP r sp∧T.length=r.ls.length∧Prd sp a b∧
 ∀ lsL' tsL' tw' H',K6 [a0,a1,a2,a3,a4,a5] H H'→RawL H' p a0 a1 a2 a3 a4 a5 (sp.behind r).top (sp.behind r).bot lsL' tsL' tw' bs→AgL (sp.behind r) (towB sp r T) lsL' tsL' tw'→Q .non H'
theorem scPaired:FnScope ["state","word","winner","loser","row"] ["state","word","winner","loser"] (J2 J55):=⟨rfl,rfl,rfl,by decide +kernel,rfl,by decide +kernel,by decide +kernel⟩
theorem ok_paired {f   : Addr} {fd  : FuncData}  (F : Fun K "_law_paired" "_law_paired" J55 f fd) (hint : mg "int" = none)
 :
    FnOk P w K mg base CX0 1 f fd ["state", "word", "winner", "loser"] spPaired := by
  refine F.ok scPaired (fun vs H Q E h => ?_) (fun cdv A outer s H vs Q E hr h => ?_)
  · obtain ⟨p, a0, a1, a2, a3, a4, a5, r, T, bs, lsL, tsL, tw, a, b, sp, rfl, _⟩ := h
    rfl
  · obtain ⟨p, a0, a1, a2, a3, a4, a5, r, T, bs, lsL, tsL, tw, a, b, sp, rfl, W, A, ok, ne, np, tl, hp, k⟩ := h
    refine ⟨_, (J3 (ps_augS (pe_ix Jj (pv 0) Jb (fun _ _ => rfl)) (pv 2) J6f (pe_ix J19 (pe_ix Jj (pv 0) Jb (fun _ _ => rfl)) (pv 3) (fun _ _ => rfl)) ip_sub J2e)
      (J3 (ps_augS (pe_ix Jj (pv 0) Jb (fun _ _ => rfl)) (pv 3) J6f (pe_ix J19 (pe_ix Jj (pv 0) Jb (fun _ _ => rfl)) (pv 2) (fun _ _ => rfl)) ip_add J2e)
      (J3 (Jn (i := 4) scPaired.nd rfl (Or.inl rfl) (pe_ix Jj (pv 0) (Jk J6k (by rfl) hint PyProof.Rows.boot_int (J0 (J1c op_ne (pv 1) J1k (Jp _)) J6)) (fun _ _ => rfl)))
      (J3 (J12 (pe_bm0 PySem.F.plainAttrs_list PySem.F.slot_list_pop PySem.F.type_list_pop mt_pop (pv 4)))
      (J3 (ps_if (Jo op_eq (pv 1) J1k (Jp _)) (J3 (J12 (pe_bm0 PySem.F.plainAttrs_list PySem.F.slot_list_pop PySem.F.type_list_pop mt_pop (pe_ix Jj (pv 0) Jb (fun _ _ => rfl))))
        (J9 (ps_asg (pv 3) (pg_sub (pv 4) (pe_bm PySem.F.plainAttrs_list PySem.F.slot_list_index PySem.F.type_list_index J35 (pv 4) (J0 (pv 2) J6)) J2e)))) (J9 (J12 (pe_bm PySem.F.plainAttrs_list PySem.F.slot_list_insert PySem.F.type_list_insert mt_insert (pv 4) (J0 (pe_op J2i (pe_bm PySem.F.plainAttrs_list PySem.F.slot_list_index PySem.F.type_list_index J35 (pv 4) (J0 (pv 2) J6)) (Jk J6k (by rfl) hint PyProof.Rows.boot_int (J0 (pe_not (pe_ix J19 (pe_ix Jj (pv 0) Jb (fun _ _ => rfl)) (pv 2) (fun _ _ => rfl))) J6))) (J0 (pv 3) J6))))))
      (J9 (ps_asg (J1c op_ne (pe_ix J19 (pe_ix Jj (pv 0) Jb (fun _ _ => rfl)) (pv 2) (fun _ _ => rfl)) (pe_ix J19 (pe_ix Jj (pv 0) Jb (fun _ _ => rfl)) (pv 3) (fun _ _ => rfl)) (Jp _)) (pg_sub (pe_ix Jj (pv 0) Jb (fun _ _ => rfl)) (pv 3) J2e)))))))), ?_⟩
    have neB : r.bot ≠ [] := fun e => by
      have := ok.lens
      rw [e] at this
      exact ne (List.length_eq_zero_iff.mp this.symm)
    have A2 := ag_paired ok ne np hp tl A
    have wa : sp.winner = a := by rcases hp with e | e | e <;> rw [e] <;> rfl
    have lo : sp.losers r = [b] := by rcases hp with e | e | e <;> rw [e] <;> rfl
    have ma : a ∈ r.top := by rw [← wa]; exact np.win ok ne
    have mb : b ∈ r.top := (np.losers_lt ok ne).1 b (by rw [lo]; exact List.mem_cons_self)
    have al := ok.row.lt _ ma
    have bl := ok.row.lt _ mb
    have al2 : a < lsL.length := by rw [A.l2]; exact al
    have bl2 : b < lsL.length := by rw [A.l2]; exact bl
    have al4 : a < tw.length := by rw [A.l4]; exact al
    have bl4 : b < tw.length := by rw [A.l4]; exact bl
    have al3 : a < tsL.length := by rw [A.l3]; exact al
    have bl3 : b < tsL.length := by rw [A.l3]; exact bl
    have in0 : a0 ∈ [a0, a1, a2, a3, a4, a5] := by simp
    have in1 : a1 ∈ [a0, a1, a2, a3, a4, a5] := by simp
    have in2 : a2 ∈ [a0, a1, a2, a3, a4, a5] := by simp
    have in3 : a3 ∈ [a0, a1, a2, a3, a4, a5] := by simp
    have in4 : a4 ∈ [a0, a1, a2, a3, a4, a5] := by simp
    refine ⟨_, rfl, p, _, _, _, rfl, rfl, SqT.of W.tup, J7 (j := 2) rfl, _, rfl, a2, _, a, _, rfl, rfl, SqL.of W.t2, J13 al2, _, rfl, p, _, _, _, rfl, rfl, SqT.of W.tup, J7 (j := 2) rfl, _, rfl, a2, _, _, _, rfl, rfl, SqL.of W.t2, J7 (J13 bl2), _, _, rfl, rfl, a2, _, _, a, rfl, rfl, W.t2, J2h (by rw [J25]; exact al2), ?_⟩
    rw [J5r]
    have W1 := W.u2 (lsL.set a (lsL.getD a 0 - lsL.getD b 0))
    have k1 : K6 [a0, a1, a2, a3, a4, a5] H _ := J2g (o := .lst (iV (lsL.set a (lsL.getD a 0 - lsL.getD b 0)))) in2
    generalize upd H a2 (.lst (iV (lsL.set a (lsL.getD a 0 - lsL.getD b 0)))) = H1 at *
    refine ⟨_, rfl, p, _, _, _, rfl, rfl, SqT.of W1.tup, J7 (j := 4) rfl, _, rfl, a4, _, b, _, rfl, rfl, SqL.of W1.t4, J13 bl4, _, rfl, p, _, _, _, rfl, rfl, SqT.of W1.tup, J7 (j := 4) rfl, _, rfl, a4, _, _, _, rfl, rfl, SqL.of W1.t4, J7 (J13 al4), _, _, rfl, rfl, a4, _, _, b, rfl, rfl, W1.t4, J2h (by rw [J25]; exact bl4), ?_⟩
    rw [J5r]
    have W2 := W1.u4 (tw.set b (tw.getD b 0 + tw.getD a 0))
    have k2 := k1.trans (J2g (o := .lst (iV (tw.set b (tw.getD b 0 + tw.getD a 0)))) in4)
    generalize upd H1 a4 (.lst (iV (tw.set b (tw.getD b 0 + tw.getD a 0)))) = H2 at *
    have rowB := ok.rowB.nd
    have rowT := ok.row.nd
    have lenB := Nat.le_trans ok.rowB.len_le ok.few
    have lenT := Nat.le_trans ok.row.len_le ok.few
    rcases hp with e | e | e
    · rw [e] at k np A2 ⊢
      obtain ⟨n1, n2, n3, n4⟩ := np
      have haB := ok.perm.mem_iff.mpr ma
      obtain ⟨md, ix⟩ := J2q rowB haB (fun q => n3 (by rw [n2]; exact q.symm))
      refine ⟨_, rfl, _, rfl, rfl, .inr ⟨_, rfl, p, _, _, _, rfl, rfl, SqT.of W2.tup, (show atI _ (if (!decide (V.str (wordS .ev) = V.str (wordS .un))) = true then 1 else 0) = some (.ref a1) by rw [decide_eq_false (nW (k := .ev) (k' := .un) (by decide))]; exact J7 (j := 1) rfl), ?_⟩⟩
      refine ⟨_, rfl, .inl ⟨rfl, _, SqL.of W2.t1⟩, a1, _, _, rfl, rfl, W2.t1, J5q neB, ?_⟩
      rw [J5n]
      have W3 := W2.u1 r.bot.dropLast
      have k3 := k2.trans (J2g (H := H2) (o := .lst (nV r.bot.dropLast)) in1)
      generalize upd H2 a1 (.lst (nV r.bot.dropLast)) = H3 at *
      refine ⟨_, rfl, rfl, _, rfl, iteDT rfl ?_⟩
      refine ⟨_, rfl, p, _, _, _, rfl, rfl, SqT.of W3.tup, J7 (j := 0) rfl, .inl ⟨rfl, _, SqL.of W3.t0⟩, a0, _, _, rfl, rfl, W3.t0, J5q ne, ?_⟩
      rw [J5n]
      have W4 := W3.u0 r.top.dropLast
      have k4 := k3.trans (J2g (H := H3) (o := .lst (nV r.top.dropLast)) in0)
      generalize upd H3 a0 (.lst (nV r.top.dropLast)) = H4 at *
      refine ⟨_, rfl, _, rfl, _, rfl, .inl ⟨rfl, _, SqL.of W4.t1⟩, _, rfl, a1, natI r.bot.dropLast, (a : Int), rfl, rfl, SqL.of W4.t1, J3n md, a1, _, _, r.bot.dropLast.idxOf a, rfl, rfl, W4.t1, (by rw [J4i]; exact J2h (by rw [J3b]; exact List.idxOf_lt_length_iff.mpr md)), ?_⟩
      rw [nV_set']
      have W5 := W4.u1 (r.bot.dropLast.set (r.bot.dropLast.idxOf a) b)
      have k5 := k4.trans (J2g (H := H4) (o := .lst (nV (r.bot.dropLast.set (r.bot.dropLast.idxOf a) b))) in1)
      generalize upd H4 a1 (.lst (nV (r.bot.dropLast.set (r.bot.dropLast.idxOf a) b))) = H5 at *
      refine ⟨_, rfl, p, _, _, _, rfl, rfl, SqT.of W5.tup, J7 (j := 3) rfl, _, rfl, a3, _, _, _, rfl, rfl, SqL.of W5.t3, J7 (J3c al3), _, rfl, p, _, _, _, rfl, rfl, SqT.of W5.tup, J7 (j := 3) rfl, _, rfl, a3, _, _, _, rfl, rfl, SqL.of W5.t3, J7 (J3c bl3), rfl, _, rfl, p, _, _, _, rfl, rfl, SqT.of W5.tup, J7 (j := 3) rfl, _, rfl, a3, _, _, b, rfl, rfl, W5.t3, J2h (by show b < (List.map V.bl tsL).length; rw [List.length_map]; exact bl3), ?_⟩
      have eT : (bV tsL).set b (V.bl (!decide (V.bl (tsL.getD a false) = V.bl (tsL.getD b false)))) = bV (tsL.set b (tsL.getD a false != tsL.getD b false)) := by
        rw [← bV_set, neq_bl]
      have W9 := W5.u3 (tsL.set b (tsL.getD a false != tsL.getD b false))
      have k9 := k5.trans (J2g (H := H5) (o := .lst (bV (tsL.set b (tsL.getD a false != tsL.getD b false)))) in3)
      have et : r.top.dropLast = withoutR r.top a := by rw [n1]; exact (J2d rowT ne).symm
      have eb : r.bot.dropLast.set (r.bot.dropLast.idxOf a) b = withoutR (putR r.bot a b false) a := by rw [← J7v, ix]; exact even_row rowB haB n2.symm n3
      rw [et, eb] at W9
      show Q V.non (upd H5 a3 (.lst ((bV tsL).set b (V.bl (!decide (V.bl (tsL.getD a false) = V.bl (tsL.getD b false)))))))
      rw [eT]
      exact k _ _ _ _ k9 W9 A2
    · rw [e] at k np A2 ⊢
      obtain ⟨n1, n2, n3, n4⟩ := np
      have haB := ok.perm.mem_iff.mpr ma
      obtain ⟨md, ix⟩ := J2q rowB haB (fun q => n3 (by rw [n2]; exact q.symm))
      refine ⟨_, rfl, _, rfl, rfl, .inr ⟨_, rfl, p, _, _, _, rfl, rfl, SqT.of W2.tup, (show atI _ (if (!decide (V.str (wordS .ov) = V.str (wordS .un))) = true then 1 else 0) = some (.ref a1) by rw [decide_eq_false (nW (k := .ov) (k' := .un) (by decide))]; exact J7 (j := 1) rfl), ?_⟩⟩
      refine ⟨_, rfl, .inl ⟨rfl, _, SqL.of W2.t1⟩, a1, _, _, rfl, rfl, W2.t1, J5q neB, ?_⟩
      rw [J5n]
      have W3 := W2.u1 r.bot.dropLast
      have k3 := k2.trans (J2g (H := H2) (o := .lst (nV r.bot.dropLast)) in1)
      generalize upd H2 a1 (.lst (nV r.bot.dropLast)) = H3 at *
      refine ⟨_, rfl, rfl, _, rfl, iteD (nW (k := .ov) (k' := .ev) (by decide)) ?_⟩
      have ine : ((((natI r.bot.dropLast).idxOf (a : Int) : Nat) : Int) + (if (!(tsL.getD a false)) = true then 1 else 0)) = (((r.bot.dropLast.idxOf a + (if (!(tsL.getD a false)) = true then 1 else 0) : Nat)) : Int) := by rw [J4i]; cases tsL.getD a false <;> simp
      have ile : r.bot.dropLast.idxOf a + (if (!(tsL.getD a false)) = true then 1 else 0) ≤ (nV r.bot.dropLast).length := by have := List.idxOf_lt_length_iff.mpr md; rw [J3b]; split <;> omega
      refine ⟨_, rfl, .inl ⟨rfl, _, SqL.of W3.t1⟩, _, rfl, .inl ⟨rfl, _, SqL.of W3.t1⟩, _, rfl, a1, natI r.bot.dropLast, (a : Int), rfl, rfl, SqL.of W3.t1, J3n md, _, rfl, p, _, _, _, rfl, rfl, SqT.of W3.tup, J7 (j := 3) rfl, _, rfl, a3, _, _, _, rfl, rfl, SqL.of W3.t3, J7 (J3c al3), _, rfl, .inr ⟨_, rfl, _, _, rfl, rfl, _, rfl, a1, _, r.bot.dropLast.idxOf a + (if (!(tsL.getD a false)) = true then 1 else 0), _, rfl, (by rw [← ine]), W3.t1, ile, (J11 (by rw [J3b, List.length_dropLast]; omega)), ?_⟩⟩
      rw [nV_ins]
      have W4 := W3.u1 (r.bot.dropLast.take (r.bot.dropLast.idxOf a + (if (!(tsL.getD a false)) = true then 1 else 0)) ++ b :: r.bot.dropLast.drop (r.bot.dropLast.idxOf a + (if (!(tsL.getD a false)) = true then 1 else 0)))
      have k4 := k3.trans (J2g (H := H3) (o := .lst (nV (r.bot.dropLast.take (r.bot.dropLast.idxOf a + (if (!(tsL.getD a false)) = true then 1 else 0)) ++ b :: r.bot.dropLast.drop (r.bot.dropLast.idxOf a + (if (!(tsL.getD a false)) = true then 1 else 0))))) in1)
      generalize upd H3 a1 (.lst (nV (r.bot.dropLast.take (r.bot.dropLast.idxOf a + (if (!(tsL.getD a false)) = true then 1 else 0)) ++ b :: r.bot.dropLast.drop (r.bot.dropLast.idxOf a + (if (!(tsL.getD a false)) = true then 1 else 0))))) = H4 at *
      refine ⟨_, rfl, p, _, _, _, rfl, rfl, SqT.of W4.tup, J7 (j := 3) rfl, _, rfl, a3, _, _, _, rfl, rfl, SqL.of W4.t3, J7 (J3c al3), _, rfl, p, _, _, _, rfl, rfl, SqT.of W4.tup, J7 (j := 3) rfl, _, rfl, a3, _, _, _, rfl, rfl, SqL.of W4.t3, J7 (J3c bl3), rfl, _, rfl, p, _, _, _, rfl, rfl, SqT.of W4.tup, J7 (j := 3) rfl, _, rfl, a3, _, _, b, rfl, rfl, W4.t3, J2h (by show b < (List.map V.bl tsL).length; rw [List.length_map]; exact bl3), ?_⟩
      have eT : (bV tsL).set b (V.bl (!decide (V.bl (tsL.getD a false) = V.bl (tsL.getD b false)))) = bV (tsL.set b (tsL.getD a false != tsL.getD b false)) := by
        rw [← bV_set, neq_bl]
      have W9 := W4.u3 (tsL.set b (tsL.getD a false != tsL.getD b false))
      have k9 := k4.trans (J2g (H := H4) (o := .lst (bV (tsL.set b (tsL.getD a false != tsL.getD b false)))) in3)
      have eb := put_ins rowB neB (a := a) (b := b) n2.symm (tsL.getD a false)
      have eb2 : putR r.bot a b (r.ts.getD a false) = putR r.bot a b (tsL.getD a false) := by rw [(A.ag a ma).2.1]
      rw [← eb, ← eb2] at W9
      show Q V.non (upd H4 a3 (.lst ((bV tsL).set b (V.bl (!decide (V.bl (tsL.getD a false) = V.bl (tsL.getD b false)))))))
      rw [eT]
      exact k _ _ _ _ k9 W9 A2
    · rw [e] at k np A2 ⊢
      obtain ⟨n1, n2, n3, n4⟩ := np
      obtain ⟨md, ix⟩ := J2q rowT ma (fun q => n3 (by rw [n2]; exact q.symm))
      refine ⟨_, rfl, _, rfl, rfl, .inr ⟨_, rfl, p, _, _, _, rfl, rfl, SqT.of W2.tup, (show atI _ (if (!decide (V.str (wordS .un) = V.str (wordS .un))) = true then 1 else 0) = some (.ref a0) by rw [decide_eq_true rfl]; exact J7 (j := 0) rfl), ?_⟩⟩
      refine ⟨_, rfl, .inl ⟨rfl, _, SqL.of W2.t0⟩, a0, _, _, rfl, rfl, W2.t0, J5q ne, ?_⟩
      rw [J5n]
      have W3 := W2.u0 r.top.dropLast
      have k3 := k2.trans (J2g (H := H2) (o := .lst (nV r.top.dropLast)) in0)
      generalize upd H2 a0 (.lst (nV r.top.dropLast)) = H3 at *
      refine ⟨_, rfl, rfl, _, rfl, iteD (nW (k := .un) (k' := .ev) (by decide)) ?_⟩
      have ine : ((((natI r.top.dropLast).idxOf (a : Int) : Nat) : Int) + (if (!(tsL.getD a false)) = true then 1 else 0)) = (((r.top.dropLast.idxOf a + (if (!(tsL.getD a false)) = true then 1 else 0) : Nat)) : Int) := by rw [J4i]; cases tsL.getD a false <;> simp
      have ile : r.top.dropLast.idxOf a + (if (!(tsL.getD a false)) = true then 1 else 0) ≤ (nV r.top.dropLast).length := by have := List.idxOf_lt_length_iff.mpr md; rw [J3b]; split <;> omega
      refine ⟨_, rfl, .inl ⟨rfl, _, SqL.of W3.t0⟩, _, rfl, .inl ⟨rfl, _, SqL.of W3.t0⟩, _, rfl, a0, natI r.top.dropLast, (a : Int), rfl, rfl, SqL.of W3.t0, J3n md, _, rfl, p, _, _, _, rfl, rfl, SqT.of W3.tup, J7 (j := 3) rfl, _, rfl, a3, _, _, _, rfl, rfl, SqL.of W3.t3, J7 (J3c al3), _, rfl, .inr ⟨_, rfl, _, _, rfl, rfl, _, rfl, a0, _, r.top.dropLast.idxOf a + (if (!(tsL.getD a false)) = true then 1 else 0), _, rfl, (by rw [← ine]), W3.t0, ile, (J11 (by rw [J3b, List.length_dropLast]; omega)), ?_⟩⟩
      rw [nV_ins]
      have W4 := W3.u0 (r.top.dropLast.take (r.top.dropLast.idxOf a + (if (!(tsL.getD a false)) = true then 1 else 0)) ++ b :: r.top.dropLast.drop (r.top.dropLast.idxOf a + (if (!(tsL.getD a false)) = true then 1 else 0)))
      have k4 := k3.trans (J2g (H := H3) (o := .lst (nV (r.top.dropLast.take (r.top.dropLast.idxOf a + (if (!(tsL.getD a false)) = true then 1 else 0)) ++ b :: r.top.dropLast.drop (r.top.dropLast.idxOf a + (if (!(tsL.getD a false)) = true then 1 else 0))))) in0)
      generalize upd H3 a0 (.lst (nV (r.top.dropLast.take (r.top.dropLast.idxOf a + (if (!(tsL.getD a false)) = true then 1 else 0)) ++ b :: r.top.dropLast.drop (r.top.dropLast.idxOf a + (if (!(tsL.getD a false)) = true then 1 else 0))))) = H4 at *
      refine ⟨_, rfl, p, _, _, _, rfl, rfl, SqT.of W4.tup, J7 (j := 3) rfl, _, rfl, a3, _, _, _, rfl, rfl, SqL.of W4.t3, J7 (J3c al3), _, rfl, p, _, _, _, rfl, rfl, SqT.of W4.tup, J7 (j := 3) rfl, _, rfl, a3, _, _, _, rfl, rfl, SqL.of W4.t3, J7 (J3c bl3), rfl, _, rfl, p, _, _, _, rfl, rfl, SqT.of W4.tup, J7 (j := 3) rfl, _, rfl, a3, _, _, b, rfl, rfl, W4.t3, J2h (by show b < (List.map V.bl tsL).length; rw [List.length_map]; exact bl3), ?_⟩
      have eT : (bV tsL).set b (V.bl (!decide (V.bl (tsL.getD a false) = V.bl (tsL.getD b false)))) = bV (tsL.set b (tsL.getD a false != tsL.getD b false)) := by
        rw [← bV_set, neq_bl]
      have W9 := W4.u3 (tsL.set b (tsL.getD a false != tsL.getD b false))
      have k9 := k4.trans (J2g (H := H4) (o := .lst (bV (tsL.set b (tsL.getD a false != tsL.getD b false)))) in3)
      have eb := put_ins rowT ne (a := a) (b := b) n2.symm (tsL.getD a false)
      have eb2 : putR r.top a b (r.ts.getD a false) = putR r.top a b (tsL.getD a false) := by rw [(A.ag a ma).2.1]
      rw [← eb, ← eb2] at W9
      show Q V.non (upd H4 a3 (.lst ((bV tsL).set b (V.bl (!decide (V.bl (tsL.getD a false) = V.bl (tsL.getD b false)))))))
      rw [eT]
      exact k _ _ _ _ k9 W9 A2
end
end R25
namespace R25
open PySem L2 Rl
section
variable {P:Program} {w:World} {K:PySem.W.Frag} {mg:Str→Option Value} {base:Heap}
def spLStep:Sp:=fun vs H Q _=>∃ (p a0 a1 a2 a3 a4 a5:Addr) (r:Rst) (T:List Int) (bs:List Band) (lsL:List Int) (tsL:List Bool) (tw:List Int) (q:Addr) (sp:Stp),vs=[.ref p,.ref q]∧RawL H p a0 a1 a2 a3 a4 a5 r.top r.bot lsL tsL tw bs∧AgL r T lsL tsL tw∧r.Ok∧r.top≠[]∧NextP r sp∧r.size≤10 ^ 30∧Tow r T∧bs.length≤1000∧H q=some (.tup (rowV sp))∧
 ∀ lsL' tsL' tw' H',K6 [a0,a1,a2,a3,a4,a5] H H'→RawL H' p a0 a1 a2 a3 a4 a5 (sp.behind r).top (sp.behind r).bot lsL' tsL' tw' (bs ++ bndS sp (r,T))→AgL (sp.behind r) (towB sp r T) lsL' tsL' tw'→Q .non H'
theorem behind_no {row:List Nat} (nd:row.Nodup) {a:Nat} (ha:a∈row):a ∉ J1 row a:=fun h=>by
 unfold J1 at h
 obtain ⟨i,hi,e⟩:=List.getElem_of_mem h
 rw [List.getElem_drop] at e
 have h1:row.idxOf a < row.length:=List.idxOf_lt_length_iff.mpr ha
 rw [List.length_drop] at hi
 have e2:row[row.idxOf a]=a:=List.getElem_idxOf h1
 exact (List.pairwise_iff_getElem.mp nd) (row.idxOf a) (row.idxOf a + 1 + i) h1 (by omega) (by omega) (e2.trans e.symm)
theorem ag_home {r:Rst} {T lsL tw:List Int} {tsL:List Bool} {a:Nat} (ok:r.Ok) (ma:a∈r.top) (tl:T.length=r.ls.length) (A:AgL r T lsL tsL tw):AgL ((Stp.home a).behind r) (towB (.home a) r T) lsL tsL tw:=by
 have al:=ok.row.lt _ ma
 have lenb:((Stp.home a).behind r).ls.length=r.ls.length:=List.length_set
 refine ⟨by rw [lenb];exact A.l2,by rw [lenb];exact A.l3,by rw [lenb];exact A.l4,fun j hj=>?_⟩
 obtain ⟨hjr,nja⟩:=mem_without.mp (show j∈withoutR r.top a from hj)
 obtain ⟨j1,j2,j3⟩:=A.ag j hjr
 have tlen:r.ts.length=r.ls.length:=ok.len
 rw [J2k _ _ _ (by rw [tl];exact ok.row.lt _ hjr),if_pos hj,if_neg (show ¬ j∈(Stp.home a).losers r from List.not_mem_nil)]
 refine ⟨?_,?_,j3⟩
 ·show _=(r.ls.set a 0).getD j 0
  rw [setN _ al,if_neg nja];exact j1
 ·show _=(r.ts.set a false).getD j false
  rw [setB _ (by rw [tlen];exact al),if_neg nja];exact j2
theorem ag_many {r:Rst} {T lsL tw lsL' tw':List Int} {tsL:List Bool} {s:Stp} {a:Nat} {t:Int} {B:List Nat} (ok:r.Ok) (ma:a∈r.top) (tl:T.length=r.ls.length) (hw:s.winner=a) (hl:s.losers r=B) (ht:s.times=t) (top:(s.behind r).top=r.top) (hls:(s.behind r).ls=r.ls.set a (r.ls.getD a 0 - t * lenOf r.ls B)) (hts:(s.behind r).ts=r.ts)
  (A:AgL r T lsL tsL tw) (l2:lsL'.length=lsL.length) (l4:tw'.length=tw.length) (ea:lsL'.getD a 0=lsL.getD a 0 - t * lenOf lsL B) (eo:∀ j,j≠a→lsL'.getD j 0=lsL.getD j 0) (et:∀ j,tw'.getD j 0=tw.getD j 0 + if j∈B then t * tw.getD a 0 else 0) (sub:∀ j∈B,j∈r.top) :
  AgL (s.behind r) (towB s r T) lsL' tsL tw':=by
 have al:=ok.row.lt _ ma
 have lenb:(s.behind r).ls.length=r.ls.length:=by rw [hls];exact List.length_set
 refine ⟨by rw [lenb,l2];exact A.l2,by rw [lenb];exact A.l3,by rw [lenb,l4];exact A.l4,fun j hj=>?_⟩
 rw [top] at hj
 obtain ⟨j1,j2,j3⟩:=A.ag j hj
 obtain ⟨a1,a2,a3⟩:=A.ag a ma
 rw [J2k _ _ _ (by rw [tl];exact ok.row.lt _ hj),if_pos (by rw [top];exact hj),hl,hw,ht,hts,hls,setN _ al,et j,j3,a3]
 refine ⟨?_,j2,?_⟩
 ·by_cases c:j=a
  ·rw [if_pos c,c,ea,a1,J37 fun i hi=>(A.ag i (sub i hi)).1]
  ·rw [if_neg c,eo j c,j1]
 ·by_cases c:j∈B
  ·rw [if_pos c,if_pos c,Int.mul_comm]
  ·rw [if_neg c,if_neg c,Int.add_zero]
theorem scLStep:FnScope ["state","told","word","winner","width","start","row","loser"] ["state","told"] (J2 sLStep):=⟨rfl,rfl,rfl,by decide +kernel,rfl,by decide +kernel,by decide +kernel⟩
theorem ok_lstep {f fLp :Addr} {fd fdLp:FuncData}  (F:Fun K "_law_step" "_law_step" sLStep f fd) (T:TxtR mg) (hint:mg "int"=none)
  (GLp:FnOk P w K mg base CX0 1 fLp fdLp ["state","word","winner","loser"] spPaired) (bLp:Binds K fdLp ["state","word","winner","loser"] []) (mLp:mg "_law_paired"=some (.ref fLp)) (kLp:PySem.W.keepIn K (.ref fLp)=true) :
  FnOk P w K mg base CX0 2 f fd ["state","told"] spLStep:=by
 refine F.ok scLStep (fun vs H Q E h=>?_) (fun cdv A outer s H vs Q E hr h=>?_)
 ·obtain ⟨p,a0,a1,a2,a3,a4,a5,r,Tw,bs,lsL,tsL,tw,q,sp,rfl,_⟩:=h
  rfl
 ·obtain ⟨p,a0,a1,a2,a3,a4,a5,r,Tw,bs,lsL,tsL,tw,q,sp,rfl,W,A,ok,ne,np,hz,tow,nbs,hq,k⟩:=h
  have hr1:Room 1 _:=hr.mono (by decide)
  refine ⟨_,(J3 (Jn (i:=2) scLStep.nd rfl (Or.inl rfl) (pe_ix Jj (pv 1) Jb (fun _ _=>rfl)))
   (J3 (Jn (i:=3) scLStep.nd rfl (Or.inl rfl) (pe_ix Jj (pv 1) Jb (fun _ _=>rfl)))
   (J9 (ps_if (Jo op_eq (pv 2) J1k (Jp _)) (J3 (Jn (i:=4) scLStep.nd rfl (Or.inl rfl) (pe_ix J19 (pe_ix Jj (pv 0) Jb (fun _ _=>rfl)) (pv 3) (fun _ _=>rfl)))
    (J3 (Jn (i:=5) scLStep.nd rfl (Or.inl rfl) (pe_op op_sub (Jy (J4k rfl) (by rfl) T.sum PyProof.Rows.boot_sum (J0 (pe_lc (caps:=["state"]) (js:=[0]) rfl (J5l (pe_ix Jj (pv 0) Jb (fun _ _=>rfl))) rfl (fun _ _ _ _=>pts_nil) (fun C fp s H=>(pe_ixr (ix_listK K) (pe_ixr (ix_tupK K) (pv 1) Jb) (pv 0))) (by decide +kernel) (by decide +kernel) (by decide +kernel) (by intro p hp;simp only [List.mem_cons,List.not_mem_nil,or_false] at hp;rcases hp with rfl;rfl)) J6)) (pv 4)))
    (J3 (J12 (pe_bm PySem.F.plainAttrs_list PySem.F.slot_list_append PySem.F.type_list_append J1t (pe_ix Jj (pv 0) Jb (fun _ _=>rfl)) (J0 (J2m (J0 (pv 5) (J0 (pv 4) (J0 (pe_ix J19 (pe_ix Jj (pv 0) Jb (fun _ _=>rfl)) (pv 3) (fun _ _=>rfl)) (J0 (pe_ix J19 (pe_ix Jj (pv 0) Jb (fun _ _=>rfl)) (pv 3) (fun _ _=>rfl)) J6))))) J6)))
    (J3 (J12 (pe_bm0 PySem.F.plainAttrs_list PySem.F.slot_list_pop PySem.F.type_list_pop mt_pop (pe_ix Jj (pv 0) Jb (fun _ _=>rfl))))
    (J9 (J12 (pe_bm0 PySem.F.plainAttrs_list PySem.F.slot_list_pop PySem.F.type_list_pop mt_pop (pe_ix Jj (pv 0) Jb (fun _ _=>rfl))))))))) (J9 (ps_if (PW.pt (pw_or (Jo op_eq (pv 2) J1k (Jp _)) (pw_or1 (Jo op_eq (pv 2) J1k (Jp _))))) (J3 (Jn (i:=6) scLStep.nd rfl (Or.inl rfl) (pe_ix Jj (pv 0) (Jk J6k (by rfl) hint PyProof.Rows.boot_int (J0 (J1c op_eq (pv 2) J1k (Jp _)) J6)) (fun _ _=>rfl)))
     (J9 (ps_for PassesOwn.never rfl (J5l (J3e J4w (pv 6) (J4b (pe_op J2i (pe_bm PySem.F.plainAttrs_list PySem.F.slot_list_index PySem.F.type_list_index J35 (pv 6) (J0 (pv 3) J6)) Jb)) J4c)) (J2l (i:=7) scLStep.nd rfl (Or.inl rfl))
      (J3 (ps_augS (pe_ix Jj (pv 0) Jb (fun _ _=>rfl)) (pv 3) J6f (pe_op J6y (pe_ix Jj (pv 1) Jb (fun _ _=>rfl)) (pe_ix J19 (pe_ix Jj (pv 0) Jb (fun _ _=>rfl)) (pv 7) (fun _ _=>rfl))) ip_sub J2e)
      (J9 (ps_augS (pe_ix Jj (pv 0) Jb (fun _ _=>rfl)) (pv 7) J6f (pe_op J6y (pe_ix Jj (pv 1) Jb (fun _ _=>rfl)) (pe_ix J19 (pe_ix Jj (pv 0) Jb (fun _ _=>rfl)) (pv 3) (fun _ _=>rfl))) ip_add J2e)))))) (J9 (J12 (Jd GLp hr1 rfl mLp kLp bLp .nil pass0 (J0 (pv 0) (J0 (pv 2) (J0 (pv 3) (J0 (pe_ix Jj (pv 1) Jb (fun _ _=>rfl)) J6))))))))))))),?_⟩
  have neB:r.bot≠[]:=fun e=>by
   have:=ok.lens
   rw [e] at this
   exact ne (List.length_eq_zero_iff.mp this.symm)
  have tl:=tow.len
  have rowB:=ok.rowB.nd
  have rowT:=ok.row.nd
  have lenB:=Nat.le_trans ok.rowB.len_le ok.few
  have lenT:=Nat.le_trans ok.row.len_le ok.few
  have win:=np.win ok ne
  have tms:=np.times ok ne hz
  refine ⟨_,rfl,q,_,_,_,rfl,rfl,SqT.of hq,J7 (j:=0) rfl,?_⟩
  refine ⟨_,rfl,q,_,_,_,rfl,rfl,SqT.of hq,J7 (j:=1) rfl,?_⟩
  have in0:a0∈[a0,a1,a2,a3,a4,a5]:=by simp
  have in1:a1∈[a0,a1,a2,a3,a4,a5]:=by simp
  have in5:a5∈[a0,a1,a2,a3,a4,a5]:=by simp
  generalize hBd:bndS sp (r,Tw)=bd at k
  cases hs:sp with
  | home a =>
   rw [hs] at k np hq win
   refine ⟨_,rfl,rfl,_,rfl,iteDT rfl ?_⟩
   have ma:a∈r.top:=win
   have al:=ok.row.lt _ ma
   obtain ⟨g1,g2,g3⟩:=A.ag a ma
   refine ⟨_,rfl,p,_,_,_,rfl,rfl,SqT.of W.tup,J7 (j:=2) rfl,_,rfl,a2,_,_,_,rfl,rfl,SqL.of W.t2,J7 (J13 (by rw [A.l2];exact al)),?_⟩
   refine ⟨_,rfl,p,_,_,_,rfl,rfl,SqT.of W.tup,J7 (j:=0) rfl,a0,rfl,⟨_,SqL.of W.t0⟩,fun d hd=>lc_lst (fun (j:Nat)=>V.int (j:Int)) r.top (fun _=>true) (fun j=>V.int (lsL.getD j 0)) (by rw [← nV_eq];exact SqL.of W.t0) (by omega) hd
    (fun _ _ H _ _ k=>k H (Same.refl _)) (fun j hj H2 Qe _ s2 k=>?_) (fun H1 s1 hd'=>?_)⟩
   ·exact ⟨_,rfl,p,_,_,_,rfl,rfl,SqT.of (s2 _ _ W.tup),J7 (j:=2) rfl,_,rfl,a2,_,_,_,rfl,rfl,SqL.of (s2 _ _ W.t2),J7 (J13 (by rw [A.l2];exact ok.row.lt j hj)),k _ (Same.refl _)⟩
   rw [J3q] at hd'
   refine ⟨d,r.top.map fun j=>lsL.getD j 0,rfl,.inl (SqL.of (by rw [hd',List.map_map];rfl)),_,rfl,_,_,rfl,rfl,?_⟩
   have eS:(r.top.map fun j=>lsL.getD j 0).sum=r.size:=(show _=lenOf lsL r.top from rfl).trans (J37 fun j hj=>(A.ag j hj).1)
   have hg:=(home_go ok ne (a:=a) np).1
   have eSt:(r.top.map fun j=>lsL.getD j 0).sum - lsL.getD a 0=((Stp.home a).behind r).size:=by rw [eS,g1];omega
   have W1:=W.same s1
   obtain ⟨zs,e5,r5⟩:=W1.t5
   refine ⟨_,rfl,p,_,_,_,rfl,rfl,SqT.of W1.tup,J7 (j:=5) rfl,.inl ⟨rfl,_,SqL.of e5⟩,_,rfl,_,rfl,_,rfl,p,_,_,_,rfl,rfl,SqT.of W1.tup,J7 (j:=4) rfl,_,rfl,a4,_,_,_,rfl,rfl,SqL.of W1.t4,J7 (J13 (by rw [A.l4];exact al)),_,rfl,p,_,_,_,rfl,rfl,SqT.of W1.tup,J7 (j:=3) rfl,_,rfl,a3,_,_,_,rfl,rfl,SqL.of W1.t3,J7 (J3c (by rw [A.l3];exact al)),(by show 4≤sizeLine;decide),fun bq hbq=>?_⟩
   have sb:=J8 (o:=.tup [V.int ((r.top.map fun j=>lsL.getD j 0).sum - lsL.getD a 0),V.int (lsL.getD a 0),V.int (tw.getD a 0),V.bl (tsL.getD a false)]) hbq
   have W2:=W1.same sb
   have hbq2:upd H1 bq (.tup [V.int ((r.top.map fun j=>lsL.getD j 0).sum - lsL.getD a 0),V.int (lsL.getD a 0),V.int (tw.getD a 0),V.bl (tsL.getD a false)]) bq=some (.tup (bandV (((Stp.home a).behind r).size,r.ls.getD a 0,Tw.getD a 0,r.ts.getD a false))):=by
    rw [J4,eSt,g1,g2,g3];rfl
   have e52:=sb _ _ e5
   have eB:bd=[(((Stp.home a).behind r).size,r.ls.getD a 0,Tw.getD a 0,r.ts.getD a false)]:=by
    rw [← hBd]
    unfold bndS
    show (if sp.isHome=true then _ else _)=_
    rw [hs];rfl
   refine ⟨a5,zs,_,rfl,rfl,e52,?_,?_⟩
   ·exact J11 (by rw [r5.len];exact nbs)
   have nbq:bq≠a5:=fun e=>by have h5:=e52;rw [← e] at h5;rw [hbq2] at h5;cases h5
   have bn:BndAt (upd (upd H1 bq (.tup [V.int ((r.top.map fun j=>lsL.getD j 0).sum - lsL.getD a 0),V.int (lsL.getD a 0),V.int (tw.getD a 0),V.bl (tsL.getD a false)])) a5 (.lst (zs ++ [.ref bq]))) a5 (bs ++ bd):=by
    refine ⟨_,J4,?_⟩
    have r6:Refs (fun q j=>upd (upd H1 bq (.tup [V.int ((r.top.map fun j=>lsL.getD j 0).sum - lsL.getD a 0),V.int (lsL.getD a 0),V.int (tw.getD a 0),V.bl (tsL.getD a false)])) a5 (.lst (zs ++ [.ref bq])) q=some (.tup (bandV ((bs ++ bd).getD j bz)))) zs bs.length:=r5.mono fun q j hj h=>by
     have e:(bs ++ bd).getD j bz=bs.getD j bz:=by rw [List.getD_eq_getElem?_getD,List.getElem?_append_left hj,List.getD_eq_getElem?_getD]
     rw [e,Jc (fun q'=>by rw [q',e5] at h;cases h)]
     exact sb _ _ h
    have r7:=r6.snoc (q:=bq) (by
     have e:(bs ++ bd).getD bs.length bz=(((Stp.home a).behind r).size,r.ls.getD a 0,Tw.getD a 0,r.ts.getD a false):=by rw [List.getD_eq_getElem?_getD,List.getElem?_append_right (Nat.le_refl _),Nat.sub_self,eB];rfl
     rw [e,Jc nbq];exact hbq2)
    have el:(bs ++ bd).length=bs.length + 1:=by rw [List.length_append,eB];rfl
    rw [el];exact r7
   have W3:=W2.u5 bn
   have k3:K6 [a0,a1,a2,a3,a4,a5] H _:=(K6.of (s1.trans sb)).trans (J2g (H:=(upd H1 bq (.tup [V.int ((r.top.map fun j=>lsL.getD j 0).sum - lsL.getD a 0),V.int (lsL.getD a 0),V.int (tw.getD a 0),V.bl (tsL.getD a false)]))) (o:=.lst (zs ++ [.ref bq])) in5)
   refine ⟨_,rfl,p,_,_,_,rfl,rfl,SqT.of W3.tup,J7 (j:=0) rfl,.inl ⟨rfl,_,SqL.of W3.t0⟩,a0,_,_,rfl,rfl,W3.t0,J5q ne,?_⟩
   rw [J5n]
   have W4:=W3.u0 r.top.dropLast
   have k4:=k3.trans (J2g (H:=(upd (upd H1 bq (.tup [V.int ((r.top.map fun j=>lsL.getD j 0).sum - lsL.getD a 0),V.int (lsL.getD a 0),V.int (tw.getD a 0),V.bl (tsL.getD a false)])) a5 (.lst (zs ++ [.ref bq])))) (o:=.lst (nV r.top.dropLast)) in0)
   refine ⟨_,rfl,p,_,_,_,rfl,rfl,SqT.of W4.tup,J7 (j:=1) rfl,.inl ⟨rfl,_,SqL.of W4.t1⟩,a1,_,_,rfl,rfl,W4.t1,J5q neB,?_⟩
   rw [J5n]
   have W5:=W4.u1 r.bot.dropLast
   have k5:=k4.trans (J2g (H:=(upd (upd (upd H1 bq (.tup [V.int ((r.top.map fun j=>lsL.getD j 0).sum - lsL.getD a 0),V.int (lsL.getD a 0),V.int (tw.getD a 0),V.bl (tsL.getD a false)])) a5 (.lst (zs ++ [.ref bq]))) a0 (.lst (nV r.top.dropLast)))) (o:=.lst (nV r.bot.dropLast)) in1)
   have et:r.top.dropLast=withoutR r.top a:=by rw [np.1];exact (J2d rowT ne).symm
   have eb:r.bot.dropLast=withoutR r.bot a:=by rw [np.2];exact (J2d rowB neB).symm
   have W6:RawL (upd (upd (upd (upd H1 bq (.tup [V.int ((r.top.map fun j=>lsL.getD j 0).sum - lsL.getD a 0),V.int (lsL.getD a 0),V.int (tw.getD a 0),V.bl (tsL.getD a false)])) a5 (.lst (zs ++ [.ref bq]))) a0 (.lst (nV r.top.dropLast))) a1 (.lst (nV r.bot.dropLast))) p a0 a1 a2 a3 a4 a5 (withoutR r.top a) (withoutR r.bot a) lsL tsL tw (bs ++ bd):=by rw [← et,← eb];exact W5
   exact k _ _ _ _ k5 W6 (ag_home ok ma tl A)
  | even a b =>
   rw [hs] at k np hq win
   refine ⟨_,rfl,rfl,_,rfl,iteD (nW (k:=.ev) (k':=.ho) (by decide)) ?_⟩
   refine ⟨_,rfl,rfl,_,rfl,iteD (nW (k:=.ev) (k':=.os) (by decide)) ?_⟩
   refine ⟨_,rfl,rfl,_,rfl,iteD (nW (k:=.ev) (k':=.us) (by decide)) ?_⟩
   have eB:bd=[]:=by
    rw [← hBd]
    unfold bndS
    show (if sp.isHome=true then _ else _)=_
    rw [hs];rfl
   rw [eB,List.append_nil] at k
   refine ⟨_,rfl,_,rfl,_,rfl,_,rfl,q,_,_,_,rfl,rfl,SqT.of hq,J7 (j:=2) rfl,p,a0,a1,a2,a3,a4,a5,r,Tw,bs,lsL,tsL,tw,a,b,sp,(by rw [hs];rfl),W,A,ok,ne,(by rw [hs];exact np),tl,(by rw [hs];exact .inl rfl),fun lsL' tsL' tw' H' k1 W' A'=>?_⟩
   rw [hs] at W' A'
   exact k _ _ _ _ k1 W' A'
  | over a b =>
   rw [hs] at k np hq win
   refine ⟨_,rfl,rfl,_,rfl,iteD (nW (k:=.ov) (k':=.ho) (by decide)) ?_⟩
   refine ⟨_,rfl,rfl,_,rfl,iteD (nW (k:=.ov) (k':=.os) (by decide)) ?_⟩
   refine ⟨_,rfl,rfl,_,rfl,iteD (nW (k:=.ov) (k':=.us) (by decide)) ?_⟩
   have eB:bd=[]:=by
    rw [← hBd]
    unfold bndS
    show (if sp.isHome=true then _ else _)=_
    rw [hs];rfl
   rw [eB,List.append_nil] at k
   refine ⟨_,rfl,_,rfl,_,rfl,_,rfl,q,_,_,_,rfl,rfl,SqT.of hq,J7 (j:=2) rfl,p,a0,a1,a2,a3,a4,a5,r,Tw,bs,lsL,tsL,tw,a,b,sp,(by rw [hs];rfl),W,A,ok,ne,(by rw [hs];exact np),tl,(by rw [hs];exact .inr (.inl rfl)),fun lsL' tsL' tw' H' k1 W' A'=>?_⟩
   rw [hs] at W' A'
   exact k _ _ _ _ k1 W' A'
  | under a b =>
   rw [hs] at k np hq win
   refine ⟨_,rfl,rfl,_,rfl,iteD (nW (k:=.un) (k':=.ho) (by decide)) ?_⟩
   refine ⟨_,rfl,rfl,_,rfl,iteD (nW (k:=.un) (k':=.os) (by decide)) ?_⟩
   refine ⟨_,rfl,rfl,_,rfl,iteD (nW (k:=.un) (k':=.us) (by decide)) ?_⟩
   have eB:bd=[]:=by
    rw [← hBd]
    unfold bndS
    show (if sp.isHome=true then _ else _)=_
    rw [hs];rfl
   rw [eB,List.append_nil] at k
   refine ⟨_,rfl,_,rfl,_,rfl,_,rfl,q,_,_,_,rfl,rfl,SqT.of hq,J7 (j:=2) rfl,p,a0,a1,a2,a3,a4,a5,r,Tw,bs,lsL,tsL,tw,a,b,sp,(by rw [hs];rfl),W,A,ok,ne,(by rw [hs];exact np),tl,(by rw [hs];exact .inr (.inr rfl)),fun lsL' tsL' tw' H' k1 W' A'=>?_⟩
   rw [hs] at W' A'
   exact k _ _ _ _ k1 W' A'
  | overs a t =>
   rw [hs] at k np hq win tms
   refine ⟨_,rfl,rfl,_,rfl,iteD (nW (k:=.os) (k':=.ho) (by decide)) ?_⟩
   refine ⟨_,rfl,rfl,_,rfl,iteDT rfl (iteT ?_)⟩
   have ma:a∈r.top:=win
   have al:=ok.row.lt _ ma
   have tms:t.natAbs≤10 ^ 30:=tms
   obtain ⟨n1,n2,n3,n4,n5,n6⟩:=np
   obtain ⟨g1,g2,g3⟩:=A.ag a ma
   have harow:a∈r.bot:=ok.perm.mem_iff.mpr ma
   have ndrow:(r.bot).Nodup:=rowB
   have prow:(r.bot).Perm r.top:=ok.perm
   have lrow:(r.bot).length≤24:=lenB
   have eB:bd=[]:=by
    rw [← hBd]
    unfold bndS
    show (if sp.isHome=true then _ else _)=_
    rw [hs];rfl
   rw [eB,List.append_nil] at k
   refine ⟨_,rfl,_,rfl,rfl,.inr ⟨_,rfl,p,_,_,_,rfl,rfl,SqT.of W.tup,(show atI _ (if decide (V.str (wordS .os)=V.str (wordS .os))=true then 1 else 0)=some (.ref a1) by rw [decide_eq_true rfl];exact J7 (j:=1) rfl),?_⟩⟩
   refine ⟨_,rfl,_,rfl,.inl ⟨rfl,_,SqL.of W.t1⟩,_,rfl,a1,natI r.bot,(a:Int),rfl,rfl,SqL.of W.t1,J3n harow,_,_,rfl,rfl,_,rfl,a1,_,rfl,SqL.of W.t1,fun rv hrv=>?_⟩
   rw [cut_lst _ _ harow]
   have s1:=J8 (o:=.lst (nV (J1 r.bot a))) hrv
   have hrv1:upd H rv (.lst (nV (J1 r.bot a))) rv=some (.lst (nV (J1 r.bot a))):=J4
   have W1:=W.same s1
   have nrv:rv ∉ [a0,a1,a2,a3,a4,a5]:=fun h=>by
    simp only [List.mem_cons,List.not_mem_nil,or_false] at h
    obtain ⟨zs,e5,_⟩:=W.t5
    rcases h with h | h | h | h | h | h
    ·rw [h,W.t0] at hrv;cases hrv
    ·rw [h,W.t1] at hrv;cases hrv
    ·rw [h,W.t2] at hrv;cases hrv
    ·rw [h,W.t3] at hrv;cases hrv
    ·rw [h,W.t4] at hrv;cases hrv
    ·rw [h,e5] at hrv;cases hrv
   have nq:q ∉ [a0,a1,a2,a3,a4,a5]:=fun h=>by
    simp only [List.mem_cons,List.not_mem_nil,or_false] at h
    obtain ⟨zs,e5,_⟩:=W.t5
    rcases h with h | h | h | h | h | h
    ·rw [h,W.t0] at hq;cases hq
    ·rw [h,W.t1] at hq;cases hq
    ·rw [h,W.t2] at hq;cases hq
    ·rw [h,W.t3] at hq;cases hq
    ·rw [h,W.t4] at hq;cases hq
    ·rw [h,e5] at hq;cases hq
   have hq1:=s1 _ _ hq
   have k1:K6 [a0,a1,a2,a3,a4,a5] H _:=K6.of s1
   generalize upd H rv (.lst (nV (J1 r.bot a)))=H1 at *
   have sub:∀ j∈J1 r.bot a,j∈r.top:=fun j hj=>prow.mem_iff.mp (Jg hj)
   have nab:a ∉ J1 r.bot a:=behind_no ndrow harow
   have ndb:(J1 r.bot a).Nodup:=List.Nodup.sublist (List.drop_sublist _ _) ndrow
   have in2:a2∈[a0,a1,a2,a3,a4,a5]:=by simp
   have in4:a4∈[a0,a1,a2,a3,a4,a5]:=by simp
   have b30:∀ {x y:Int},x.natAbs≤10 ^ 30→y.natAbs≤10 ^ 30→CBig x y:=fun {x y} hx hy=>by
    have e:(10:Nat) ^ 30 < 2 ^ 4000:=by decide
    exact ⟨Nat.lt_of_le_of_lt hx e,Nat.lt_of_le_of_lt hy e⟩
   have hTa:=tow.le ok ma
   have hTp:=tow.pos a ma
   refine ⟨rv,rfl,⟨_,SqL.of hrv1⟩,J6g (K:=K) (a:=rv) (xs:=nV (J1 r.bot a))
    (fun i σ Hw=>∃ (lsL' tw':List Int) (v7:Option V),σ=[some (.ref p),some (.ref q),some (.str (wordS .os)),some (.int (a:Nat)),none,none,some (.ref a1),v7]∧RawL Hw p a0 a1 a2 a3 a4 a5 r.top r.bot lsL' tsL tw' bs∧lsL'.length=lsL.length∧tw'.length=tw.length∧lsL'.getD a 0=lsL.getD a 0 - t * lenOf lsL ((J1 r.bot a).take i)∧(∀ j,j≠a→lsL'.getD j 0=lsL.getD j 0)∧(∀ j,tw'.getD j 0=tw.getD j 0 + if j∈(J1 r.bot a).take i then t * tw.getD a 0 else 0)∧K6 [a0,a1,a2,a3,a4,a5] H1 Hw)
    ⟨lsL,tw,none,rfl,W1,rfl,rfl,(by rw [List.take_zero];show _=_ - t * 0;rw [Int.mul_zero,Int.sub_zero]),fun j _=>rfl,fun j=>(by rw [List.take_zero,if_neg List.not_mem_nil,Int.add_zero]),fun b o e _=>e⟩ (fun i σ Hw _ ⟨_,_,_,_,_,_,_,_,_,_,k6⟩=>SqL.of (k6 _ _ hrv1 nrv)) ?_ ?_⟩
   ·rintro i y σ Hw hy ⟨lsL',tw',v7,rfl,Wi,l2,l4,ea,eo,et,k6⟩
    obtain ⟨hi,rfl,hm⟩:=nV_get hy
    have hms:=sub _ hm
    have hl:=ok.row.lt _ hms
    have hne:(J1 r.bot a).getD i 0≠a:=fun e=>nab (by have h:=hm;rwa [e] at h)
    have hq2:=k6 _ _ hq1 nq
    have tk:(J1 r.bot a).take (i + 1)=(J1 r.bot a).take i ++ [(J1 r.bot a).getD i 0]:=by
     rw [List.getD_eq_getElem?_getD,List.getElem?_eq_getElem hi]
     exact (List.take_append_getElem hi).symm
    have nin:(J1 r.bot a).getD i 0 ∉ (J1 r.bot a).take i:=fun h=>by
     have nd2:=ndb.sublist (List.take_sublist (i + 1) _)
     rw [tk] at nd2
     exact (List.nodup_append.mp nd2).2.2 _ h _ List.mem_cons_self rfl
    have nai:a ∉ (J1 r.bot a).take i:=fun h=>nab (List.mem_of_mem_take h)
    have al2:a < lsL'.length:=by rw [l2,A.l2];exact al
    have ll2:(J1 r.bot a).getD i 0 < lsL'.length:=by rw [l2,A.l2];exact hl
    have al4:a < tw'.length:=by rw [l4,A.l4];exact al
    have ll4:(J1 r.bot a).getD i 0 < tw'.length:=by rw [l4,A.l4];exact hl
    have eli:lsL'.getD ((J1 r.bot a).getD i 0) 0=lsL.getD ((J1 r.bot a).getD i 0) 0:=eo _ hne
    have eta:tw'.getD a 0=tw.getD a 0:=by rw [et,if_neg nai,Int.add_zero]
    have lb:(lsL'.getD ((J1 r.bot a).getD i 0) 0).natAbs≤10 ^ 30:=by
     rw [eli,(A.ag _ hms).1]
     have p1:=ok.row.pos _ hms
     have p2:=ok.le_size hms
     omega
    have tb:(tw'.getD a 0).natAbs≤10 ^ 30:=by rw [eta,g3];omega
    refine ⟨_,rfl,p,_,_,_,rfl,rfl,SqT.of Wi.tup,J7 (j:=2) rfl,_,rfl,a2,_,a,_,rfl,rfl,SqL.of Wi.t2,J13 al2,_,rfl,q,_,_,_,rfl,rfl,SqT.of hq2,J7 (j:=2) rfl,_,rfl,p,_,_,_,rfl,rfl,SqT.of Wi.tup,J7 (j:=2) rfl,_,rfl,a2,_,_,_,rfl,rfl,SqL.of Wi.t2,J7 (J13 ll2),_,_,rfl,rfl,b30 tms lb,_,_,rfl,rfl,a2,_,_,a,rfl,rfl,Wi.t2,J2h (by rw [J25];exact al2),?_⟩
    rw [J5r]
    have Wj:=Wi.u2 (lsL'.set a (lsL'.getD a 0 - t * lsL'.getD ((J1 r.bot a).getD i 0) 0))
    have kj:=k6.trans (J2g (H:=Hw) (o:=.lst (iV (lsL'.set a (lsL'.getD a 0 - t * lsL'.getD ((J1 r.bot a).getD i 0) 0)))) in2)
    have hq3:=kj _ _ hq1 nq
    refine ⟨_,rfl,p,_,_,_,rfl,rfl,SqT.of Wj.tup,J7 (j:=4) rfl,_,rfl,a4,_,(J1 r.bot a).getD i 0,_,rfl,rfl,SqL.of Wj.t4,J13 ll4,_,rfl,q,_,_,_,rfl,rfl,SqT.of hq3,J7 (j:=2) rfl,_,rfl,p,_,_,_,rfl,rfl,SqT.of Wj.tup,J7 (j:=4) rfl,_,rfl,a4,_,_,_,rfl,rfl,SqL.of Wj.t4,J7 (J13 al4),_,_,rfl,rfl,b30 tms tb,_,_,rfl,rfl,a4,_,_,(J1 r.bot a).getD i 0,rfl,rfl,Wj.t4,J2h (by rw [J25];exact ll4),?_⟩
    rw [J5r]
    have Wk:=Wj.u4 (tw'.set ((J1 r.bot a).getD i 0) (tw'.getD ((J1 r.bot a).getD i 0) 0 + t * tw'.getD a 0))
    have kk:=kj.trans (J2g (o:=.lst (iV (tw'.set ((J1 r.bot a).getD i 0) (tw'.getD ((J1 r.bot a).getD i 0) 0 + t * tw'.getD a 0)))) in4)
    refine ⟨_,_,_,rfl,Wk,by rw [List.length_set];exact l2,by rw [List.length_set];exact l4,?_,fun j hj=>?_,fun j=>?_,kk⟩
    ·rw [setN _ al2,if_pos rfl,tk,Jx,ea,eli,Int.mul_add]
     have:lenOf lsL [(J1 r.bot a).getD i 0]=lsL.getD ((J1 r.bot a).getD i 0) 0:=by rw [Ji];show _ + (0:Int)=_;rw [Int.add_zero]
     rw [this];omega
    ·rw [setN _ al2,if_neg hj];exact eo j hj
    ·rw [setN _ ll4,tk]
     by_cases c:j=(J1 r.bot a).getD i 0
     ·rw [if_pos c,if_pos (List.mem_append_right _ (by rw [c];exact List.mem_cons_self)),et,if_neg nin,eta,c,Int.add_zero]
     ·rw [if_neg c,et]
      by_cases c2:j∈(J1 r.bot a).take i
      ·rw [if_pos c2,if_pos (List.mem_append_left _ c2)]
      ·rw [if_neg c2,if_neg (fun h=>(List.mem_append.mp h).elim c2 (fun h2=>c (List.mem_singleton.mp h2)))]
   ·rintro σ Hw ⟨lsL',tw',v7,rfl,Wi,l2,l4,ea,eo,et,k6⟩
    rw [J3b,List.take_length] at ea et
    exact k _ _ _ _ (k1.trans k6) Wi (ag_many (s:=.overs a t) ok ma tl rfl rfl rfl rfl rfl rfl A l2 l4 ea eo et sub)
  | unders a t =>
   rw [hs] at k np hq win tms
   refine ⟨_,rfl,rfl,_,rfl,iteD (nW (k:=.us) (k':=.ho) (by decide)) ?_⟩
   refine ⟨_,rfl,rfl,_,rfl,iteD (nW (k:=.us) (k':=.os) (by decide)) ?_⟩
   refine ⟨_,rfl,rfl,_,rfl,iteDT rfl ?_⟩
   have ma:a∈r.top:=win
   have al:=ok.row.lt _ ma
   have tms:t.natAbs≤10 ^ 30:=tms
   obtain ⟨n1,n2,n3,n4,n5,n6⟩:=np
   obtain ⟨g1,g2,g3⟩:=A.ag a ma
   have harow:a∈r.top:=ma
   have ndrow:(r.top).Nodup:=rowT
   have prow:(r.top).Perm r.top:=(List.Perm.refl _)
   have lrow:(r.top).length≤24:=lenT
   have eB:bd=[]:=by
    rw [← hBd]
    unfold bndS
    show (if sp.isHome=true then _ else _)=_
    rw [hs];rfl
   rw [eB,List.append_nil] at k
   refine ⟨_,rfl,_,rfl,rfl,.inr ⟨_,rfl,p,_,_,_,rfl,rfl,SqT.of W.tup,(show atI _ (if decide (V.str (wordS .us)=V.str (wordS .os))=true then 1 else 0)=some (.ref a0) by rw [decide_eq_false (nW (k:=.us) (k':=.os) (by decide))];exact J7 (j:=0) rfl),?_⟩⟩
   refine ⟨_,rfl,_,rfl,.inl ⟨rfl,_,SqL.of W.t0⟩,_,rfl,a0,natI r.top,(a:Int),rfl,rfl,SqL.of W.t0,J3n harow,_,_,rfl,rfl,_,rfl,a0,_,rfl,SqL.of W.t0,fun rv hrv=>?_⟩
   rw [cut_lst _ _ harow]
   have s1:=J8 (o:=.lst (nV (J1 r.top a))) hrv
   have hrv1:upd H rv (.lst (nV (J1 r.top a))) rv=some (.lst (nV (J1 r.top a))):=J4
   have W1:=W.same s1
   have nrv:rv ∉ [a0,a1,a2,a3,a4,a5]:=fun h=>by
    simp only [List.mem_cons,List.not_mem_nil,or_false] at h
    obtain ⟨zs,e5,_⟩:=W.t5
    rcases h with h | h | h | h | h | h
    ·rw [h,W.t0] at hrv;cases hrv
    ·rw [h,W.t1] at hrv;cases hrv
    ·rw [h,W.t2] at hrv;cases hrv
    ·rw [h,W.t3] at hrv;cases hrv
    ·rw [h,W.t4] at hrv;cases hrv
    ·rw [h,e5] at hrv;cases hrv
   have nq:q ∉ [a0,a1,a2,a3,a4,a5]:=fun h=>by
    simp only [List.mem_cons,List.not_mem_nil,or_false] at h
    obtain ⟨zs,e5,_⟩:=W.t5
    rcases h with h | h | h | h | h | h
    ·rw [h,W.t0] at hq;cases hq
    ·rw [h,W.t1] at hq;cases hq
    ·rw [h,W.t2] at hq;cases hq
    ·rw [h,W.t3] at hq;cases hq
    ·rw [h,W.t4] at hq;cases hq
    ·rw [h,e5] at hq;cases hq
   have hq1:=s1 _ _ hq
   have k1:K6 [a0,a1,a2,a3,a4,a5] H _:=K6.of s1
   generalize upd H rv (.lst (nV (J1 r.top a)))=H1 at *
   have sub:∀ j∈J1 r.top a,j∈r.top:=fun j hj=>prow.mem_iff.mp (Jg hj)
   have nab:a ∉ J1 r.top a:=behind_no ndrow harow
   have ndb:(J1 r.top a).Nodup:=List.Nodup.sublist (List.drop_sublist _ _) ndrow
   have in2:a2∈[a0,a1,a2,a3,a4,a5]:=by simp
   have in4:a4∈[a0,a1,a2,a3,a4,a5]:=by simp
   have b30:∀ {x y:Int},x.natAbs≤10 ^ 30→y.natAbs≤10 ^ 30→CBig x y:=fun {x y} hx hy=>by
    have e:(10:Nat) ^ 30 < 2 ^ 4000:=by decide
    exact ⟨Nat.lt_of_le_of_lt hx e,Nat.lt_of_le_of_lt hy e⟩
   have hTa:=tow.le ok ma
   have hTp:=tow.pos a ma
   refine ⟨rv,rfl,⟨_,SqL.of hrv1⟩,J6g (K:=K) (a:=rv) (xs:=nV (J1 r.top a))
    (fun i σ Hw=>∃ (lsL' tw':List Int) (v7:Option V),σ=[some (.ref p),some (.ref q),some (.str (wordS .us)),some (.int (a:Nat)),none,none,some (.ref a0),v7]∧RawL Hw p a0 a1 a2 a3 a4 a5 r.top r.bot lsL' tsL tw' bs∧lsL'.length=lsL.length∧tw'.length=tw.length∧lsL'.getD a 0=lsL.getD a 0 - t * lenOf lsL ((J1 r.top a).take i)∧(∀ j,j≠a→lsL'.getD j 0=lsL.getD j 0)∧(∀ j,tw'.getD j 0=tw.getD j 0 + if j∈(J1 r.top a).take i then t * tw.getD a 0 else 0)∧K6 [a0,a1,a2,a3,a4,a5] H1 Hw)
    ⟨lsL,tw,none,rfl,W1,rfl,rfl,(by rw [List.take_zero];show _=_ - t * 0;rw [Int.mul_zero,Int.sub_zero]),fun j _=>rfl,fun j=>(by rw [List.take_zero,if_neg List.not_mem_nil,Int.add_zero]),fun b o e _=>e⟩ (fun i σ Hw _ ⟨_,_,_,_,_,_,_,_,_,_,k6⟩=>SqL.of (k6 _ _ hrv1 nrv)) ?_ ?_⟩
   ·rintro i y σ Hw hy ⟨lsL',tw',v7,rfl,Wi,l2,l4,ea,eo,et,k6⟩
    obtain ⟨hi,rfl,hm⟩:=nV_get hy
    have hms:=sub _ hm
    have hl:=ok.row.lt _ hms
    have hne:(J1 r.top a).getD i 0≠a:=fun e=>nab (by have h:=hm;rwa [e] at h)
    have hq2:=k6 _ _ hq1 nq
    have tk:(J1 r.top a).take (i + 1)=(J1 r.top a).take i ++ [(J1 r.top a).getD i 0]:=by
     rw [List.getD_eq_getElem?_getD,List.getElem?_eq_getElem hi]
     exact (List.take_append_getElem hi).symm
    have nin:(J1 r.top a).getD i 0 ∉ (J1 r.top a).take i:=fun h=>by
     have nd2:=ndb.sublist (List.take_sublist (i + 1) _)
     rw [tk] at nd2
     exact (List.nodup_append.mp nd2).2.2 _ h _ List.mem_cons_self rfl
    have nai:a ∉ (J1 r.top a).take i:=fun h=>nab (List.mem_of_mem_take h)
    have al2:a < lsL'.length:=by rw [l2,A.l2];exact al
    have ll2:(J1 r.top a).getD i 0 < lsL'.length:=by rw [l2,A.l2];exact hl
    have al4:a < tw'.length:=by rw [l4,A.l4];exact al
    have ll4:(J1 r.top a).getD i 0 < tw'.length:=by rw [l4,A.l4];exact hl
    have eli:lsL'.getD ((J1 r.top a).getD i 0) 0=lsL.getD ((J1 r.top a).getD i 0) 0:=eo _ hne
    have eta:tw'.getD a 0=tw.getD a 0:=by rw [et,if_neg nai,Int.add_zero]
    have lb:(lsL'.getD ((J1 r.top a).getD i 0) 0).natAbs≤10 ^ 30:=by
     rw [eli,(A.ag _ hms).1]
     have p1:=ok.row.pos _ hms
     have p2:=ok.le_size hms
     omega
    have tb:(tw'.getD a 0).natAbs≤10 ^ 30:=by rw [eta,g3];omega
    refine ⟨_,rfl,p,_,_,_,rfl,rfl,SqT.of Wi.tup,J7 (j:=2) rfl,_,rfl,a2,_,a,_,rfl,rfl,SqL.of Wi.t2,J13 al2,_,rfl,q,_,_,_,rfl,rfl,SqT.of hq2,J7 (j:=2) rfl,_,rfl,p,_,_,_,rfl,rfl,SqT.of Wi.tup,J7 (j:=2) rfl,_,rfl,a2,_,_,_,rfl,rfl,SqL.of Wi.t2,J7 (J13 ll2),_,_,rfl,rfl,b30 tms lb,_,_,rfl,rfl,a2,_,_,a,rfl,rfl,Wi.t2,J2h (by rw [J25];exact al2),?_⟩
    rw [J5r]
    have Wj:=Wi.u2 (lsL'.set a (lsL'.getD a 0 - t * lsL'.getD ((J1 r.top a).getD i 0) 0))
    have kj:=k6.trans (J2g (H:=Hw) (o:=.lst (iV (lsL'.set a (lsL'.getD a 0 - t * lsL'.getD ((J1 r.top a).getD i 0) 0)))) in2)
    have hq3:=kj _ _ hq1 nq
    refine ⟨_,rfl,p,_,_,_,rfl,rfl,SqT.of Wj.tup,J7 (j:=4) rfl,_,rfl,a4,_,(J1 r.top a).getD i 0,_,rfl,rfl,SqL.of Wj.t4,J13 ll4,_,rfl,q,_,_,_,rfl,rfl,SqT.of hq3,J7 (j:=2) rfl,_,rfl,p,_,_,_,rfl,rfl,SqT.of Wj.tup,J7 (j:=4) rfl,_,rfl,a4,_,_,_,rfl,rfl,SqL.of Wj.t4,J7 (J13 al4),_,_,rfl,rfl,b30 tms tb,_,_,rfl,rfl,a4,_,_,(J1 r.top a).getD i 0,rfl,rfl,Wj.t4,J2h (by rw [J25];exact ll4),?_⟩
    rw [J5r]
    have Wk:=Wj.u4 (tw'.set ((J1 r.top a).getD i 0) (tw'.getD ((J1 r.top a).getD i 0) 0 + t * tw'.getD a 0))
    have kk:=kj.trans (J2g (o:=.lst (iV (tw'.set ((J1 r.top a).getD i 0) (tw'.getD ((J1 r.top a).getD i 0) 0 + t * tw'.getD a 0)))) in4)
    refine ⟨_,_,_,rfl,Wk,by rw [List.length_set];exact l2,by rw [List.length_set];exact l4,?_,fun j hj=>?_,fun j=>?_,kk⟩
    ·rw [setN _ al2,if_pos rfl,tk,Jx,ea,eli,Int.mul_add]
     have:lenOf lsL [(J1 r.top a).getD i 0]=lsL.getD ((J1 r.top a).getD i 0) 0:=by rw [Ji];show _ + (0:Int)=_;rw [Int.add_zero]
     rw [this];omega
    ·rw [setN _ al2,if_neg hj];exact eo j hj
    ·rw [setN _ ll4,tk]
     by_cases c:j=(J1 r.top a).getD i 0
     ·rw [if_pos c,if_pos (List.mem_append_right _ (by rw [c];exact List.mem_cons_self)),et,if_neg nin,eta,c,Int.add_zero]
     ·rw [if_neg c,et]
      by_cases c2:j∈(J1 r.top a).take i
      ·rw [if_pos c2,if_pos (List.mem_append_left _ c2)]
      ·rw [if_neg c2,if_neg (fun h=>(List.mem_append.mp h).elim c2 (fun h2=>c (List.mem_singleton.mp h2)))]
   ·rintro σ Hw ⟨lsL',tw',v7,rfl,Wi,l2,l4,ea,eo,et,k6⟩
    rw [J3b,List.take_length] at ea et
    exact k _ _ _ _ (k1.trans k6) Wi (ag_many (s:=.unders a t) ok ma tl rfl rfl rfl rfl rfl rfl A l2 l4 ea eo et sub)
end
section
variable {P:Program} {w:World} {K:PySem.W.Frag} {mg:Str→Option Value} {base:Heap}
def spBegun:Sp:=fun vs H Q _=>∃ (dp:Addr) (ls:List Int) (os:List Nat) (ts:List Bool),vs=[.ref dp]∧DrawnAt H dp ls os ts∧Good ls os∧ts.length=ls.length∧
 ∀ p a0 a1 a2 a3 a4 a5 H',Same H H'→(∀ a∈[a0,a1,a2,a3,a4,a5],H a=none)→RawL H' p a0 a1 a2 a3 a4 a5 (List.range ls.length) os ls ts (List.replicate ls.length 1) []→Q (.ref p) H'
theorem rng_nV (n:Nat):((List.range n).map fun (i:Nat)=>(i:Int)).map V.int=nV (List.range n):=by rw [nV_eq,List.map_map];rfl
theorem rep_oneI (n:Nat):(List.replicate n [V.int 1]).flatten=iV (List.replicate n 1):=by
 show _=(List.replicate n 1).map V.int
 rw [List.map_replicate]
 induction n with
 | zero=>rfl
 | succ n ih=>rw [List.replicate_succ,List.flatten_cons,ih,List.replicate_succ];rfl
theorem scBegun:FnScope ["drawn","many"] ["drawn"] (J2 sBegun):=⟨rfl,rfl,rfl,by decide +kernel,rfl,by decide +kernel,by decide +kernel⟩
theorem ok_begun {f   : Addr} {fd  : FuncData}  (F : Fun K "_law_begun" "_law_begun" sBegun f fd) (T : TxtR mg)
 :
    FnOk P w K mg base CX0 1 f fd ["drawn"] spBegun := by
  refine F.ok scBegun (fun vs H Q E h => ?_) (fun cdv A outer s H vs Q E hr h => ?_)
  · obtain ⟨dp, ls, os, ts, rfl, _⟩ := h
    rfl
  · obtain ⟨dp, ls, os, ts, rfl, D, G, hts, k⟩ := h
    refine ⟨_, (J3 (Jn (i := 1) scBegun.nd rfl (Or.inl rfl) (Jy Ju (by rfl) T.len PySem.boot_len (J0 (pe_ix Jj (pv 0) Jb (fun _ _ => rfl)) J6)))
      (J9 (Jl (J2m (J0 (Jk (J27 rfl) (by rfl) T.list PyProof.Rows.boot_list (J0 (Jk J6j (by rfl) T.range PyProof.Rows.boot_range (J0 (pv 1) J6)) J6)) (J0 (Jk J1s (by rfl) T.list PyProof.Rows.boot_list (J0 (pe_ix Jj (pv 0) Jb (fun _ _ => rfl)) J6)) (J0 (Jk J1s (by rfl) T.list PyProof.Rows.boot_list (J0 (pe_ix Jj (pv 0) Jb (fun _ _ => rfl)) J6)) (J0 (Jk J1s (by rfl) T.list PyProof.Rows.boot_list (J0 (pe_ix Jj (pv 0) Jb (fun _ _ => rfl)) J6)) (J0 (pe_op op_rep (J2n (J0 Jb J6)) (pv 1)) (J0 (J2n J6) J6)))))))))), ?_⟩
    obtain ⟨dl, ol, dt, d0, d1, d2, d3⟩ := D.ex
    have g2 := G.hi
    have lel : (iV ls).length = ls.length := List.length_map ..
    refine ⟨_, rfl, dp, _, _, _, rfl, rfl, SqT.of d0, J7 (j := 0) rfl, dl, _, rfl, .inl (SqL.of d1), ?_⟩
    refine ⟨_, rfl, _, rfl, fun rg hrg => ⟨rg, ls.length, rfl, (by rw [J4, lel]), by omega, fun a0 h0 => ?_⟩⟩
    rw [rng_nV]
    have u0 := (J8 (o := .rng 0 ((iV ls).length : Int)) hrg).trans (J8 (o := .lst (nV (List.range ls.length))) h0)
    have e0 : upd (upd H rg (.rng 0 ((iV ls).length : Int))) a0 (.lst (nV (List.range ls.length))) a0 = some (.lst (nV (List.range ls.length))) := J4
    have f0 : H a0 = none := (J8 (o := .rng 0 ((iV ls).length : Int)) hrg).free h0
    generalize upd (upd H rg (.rng 0 ((iV ls).length : Int))) a0 (.lst (nV (List.range ls.length))) = H0 at *
    refine ⟨_, rfl, dp, _, _, _, rfl, rfl, SqT.of (u0 _ _ d0), J7 (j := 1) rfl, ol, _, rfl, .inl (SqL.of (u0 _ _ d2)), fun a1 h1 => ?_⟩
    have n01 := Ja e0 h1
    have v1 := J8 (o := .lst (nV os)) h1
    have u1 := u0.trans v1
    have e1 : upd H0 a1 (.lst (nV os)) a1 = some (.lst (nV os)) := J4
    have e0 := v1 _ _ e0
    have f1 : H a1 = none := u0.free h1
    generalize upd H0 a1 (.lst (nV os)) = H1 at *
    refine ⟨_, rfl, dp, _, _, _, rfl, rfl, SqT.of (u1 _ _ d0), J7 (j := 0) rfl, dl, _, rfl, .inl (SqL.of (u1 _ _ d1)), fun a2 h2 => ?_⟩
    have n02 := Ja e0 h2
    have n12 := Ja e1 h2
    have v2 := J8 (o := .lst (iV ls)) h2
    have u2 := u1.trans v2
    have e2 : upd H1 a2 (.lst (iV ls)) a2 = some (.lst (iV ls)) := J4
    have e0 := v2 _ _ e0
    have e1 := v2 _ _ e1
    have f2 : H a2 = none := u1.free h2
    generalize upd H1 a2 (.lst (iV ls)) = H2 at *
    refine ⟨_, rfl, dp, _, _, _, rfl, rfl, SqT.of (u2 _ _ d0), J7 (j := 2) rfl, dt, _, rfl, .inl (SqL.of (u2 _ _ d3)), fun a3 h3 => ?_⟩
    have n03 := Ja e0 h3
    have n13 := Ja e1 h3
    have n23 := Ja e2 h3
    have v3 := J8 (o := .lst (bV ts)) h3
    have u3 := u2.trans v3
    have e3 : upd H2 a3 (.lst (bV ts)) a3 = some (.lst (bV ts)) := J4
    have e0 := v3 _ _ e0
    have e1 := v3 _ _ e1
    have e2 := v3 _ _ e2
    have f3 : H a3 = none := u2.free h3
    generalize upd H2 a3 (.lst (bV ts)) = H3 at *
    refine ⟨by show 1 ≤ sizeLine; decide, fun fl hf => ⟨_, rfl, fl, _, [V.int 1], rfl, rfl, J4, by rw [lel]; omega, by rw [lel]; omega, ?_, fun a4 h4 => ?_⟩⟩
    · show 1 * ((iV ls).length : Int).toNat ≤ sizeLine
      have := J11 (n := ls.length) (by omega)
      rw [lel]; omega
    rw [lel, Int.toNat_natCast, rep_oneI]
    have vf := J8 (o := .lst [V.int 1]) hf
    have n04 := Ja (vf _ _ e0) h4
    have n14 := Ja (vf _ _ e1) h4
    have n24 := Ja (vf _ _ e2) h4
    have n34 := Ja (vf _ _ e3) h4
    have v4 := vf.trans (J8 (o := .lst (iV (List.replicate ls.length 1))) h4)
    have u4 := u3.trans v4
    have e4 : upd (upd H3 fl (.lst [V.int 1])) a4 (.lst (iV (List.replicate ls.length 1))) a4 = some (.lst (iV (List.replicate ls.length 1))) := J4
    have e0 := v4 _ _ e0
    have e1 := v4 _ _ e1
    have e2 := v4 _ _ e2
    have e3 := v4 _ _ e3
    have f4 : H a4 = none := (u3.trans vf).free h4
    generalize upd (upd H3 fl (.lst [V.int 1])) a4 (.lst (iV (List.replicate ls.length 1))) = H4 at *
    refine ⟨Nat.zero_le _, fun a5 h5 => ?_⟩
    have v5 := J8 (o := .lst []) h5
    have u5 := u4.trans v5
    have e5 : upd H4 a5 (.lst []) a5 = some (.lst []) := J4
    have f5 : H a5 = none := u4.free h5
    have n05 := Ja e0 h5
    have n15 := Ja e1 h5
    have n25 := Ja e2 h5
    have n35 := Ja e3 h5
    have n45 := Ja e4 h5
    refine ⟨by show 6 ≤ sizeLine; decide, fun p hp => ?_⟩
    have vp := J8 (o := .tup [.ref a0, .ref a1, .ref a2, .ref a3, .ref a4, .ref a5]) hp
    have v6 := v5.trans vp
    refine k p a0 a1 a2 a3 a4 a5 _ (u4.trans v6) (fun a ha => ?_) ⟨?_, J4, v6 _ _ e0, v6 _ _ e1, v6 _ _ e2, v6 _ _ e3, v6 _ _ e4, [], vp _ _ e5, Refs.nil⟩
    · simp only [List.mem_cons, List.not_mem_nil, or_false] at ha
      rcases ha with rfl | rfl | rfl | rfl | rfl | rfl <;> assumption
    · simp only [List.nodup_cons, List.mem_cons, List.not_mem_nil, or_false, not_or, List.nodup_nil, not_false_eq_true, and_true]
      exact ⟨⟨n01, n02, n03, n04, n05⟩, ⟨n12, n13, n14, n15⟩, ⟨n23, n24, n25⟩, ⟨n34, n35⟩, n45⟩
end
end R25
namespace R25
open PySem L2 Rl
section
variable {P:Program} {w:World} {K:PySem.W.Frag} {mg:Str→Option Value} {base:Heap}
theorem next_os {r:Rst} (h:r.Ok) (ne:r.top≠[]):(∀ a t,nextN r=.overs a t→a=lastT r∧lastT r≠lastB r∧r.ls.getD (lastB r) 0 < r.ls.getD (lastT r) 0∧1≤t)∧(∀ a t,nextN r=.unders a t→a=lastB r∧lastT r≠lastB r∧r.ls.getD (lastT r) 0 < r.ls.getD (lastB r) 0∧1≤t) :=
 J1g h ne (p:=fun s=>(∀ a t,s=.overs a t→a=lastT r∧lastT r≠lastB r∧r.ls.getD (lastB r) 0 < r.ls.getD (lastT r) 0∧1≤t)∧(∀ a t,s=.unders a t→a=lastB r∧lastT r≠lastB r∧r.ls.getD (lastT r) 0 < r.ls.getD (lastB r) 0∧1≤t))
  (fun _=>⟨fun _ _ e=>(by cases e),fun _ _ e=>(by cases e)⟩) (fun _ _=>⟨fun _ _ e=>(by cases e),fun _ _ e=>(by cases e)⟩) (fun _ _ _=>⟨fun _ _ e=>(by cases e),fun _ _ e=>(by cases e)⟩) (fun _ _ _=>⟨fun _ _ e=>(by cases e),fun _ _ e=>(by cases e)⟩)
  (fun t c1 c2 c3 c4 c5 _ _ c6=>⟨fun _ _ e=>(by cases e;exact ⟨rfl,c1,c2,c4⟩),fun _ _ e=>(by cases e)⟩) (fun t c1 c2 c3 c4 c5 _ _ c6=>⟨fun _ _ e=>(by cases e),fun _ _ e=>(by cases e;exact ⟨rfl,c1,c2,c4⟩)⟩)
def spOther:Sp:=fun vs H Q _=>∃ (p a0 a1 a2 a3 a4 a5:Addr) (r:Rst) (T:List Int) (bs:List Band) (lsL:List Int) (tsL:List Bool) (tw:List Int) (cell:Int),vs=[.ref p,.int cell]∧StL H p a0 a1 a2 a3 a4 a5 r T bs lsL tsL tw∧r.Ok∧r.top≠[]∧r.size≤10 ^ 30∧∀ q s H',Same H H'→MayS r s→(cell=0→s=nextN r)→H' q=some (.tup (rowV s))→Q (.ref q) H'
theorem scOther:FnScope ["state","cell","told"] ["state","cell"] (J2 J58):=⟨rfl,rfl,rfl,by decide +kernel,rfl,by decide +kernel,by decide +kernel⟩
theorem ok_other {f fLn :Addr} {fd fdLn:FuncData}  (F:Fun K "_law_other" "_law_other" J58 f fd)
  (GLn:FnOk P w K mg base CX0 3 fLn fdLn ["state"] spLNext) (bLn:Binds K fdLn ["state"] []) (mLn:mg "_law_next"=some (.ref fLn)) (kLn:PySem.W.keepIn K (.ref fLn)=true) :
  FnOk P w K mg base CX0 4 f fd ["state","cell"] spOther:=by
 refine F.ok scOther (fun vs H Q E h=>?_) (fun cdv A outer s H vs Q E hr h=>?_)
 ·obtain ⟨p,a0,a1,a2,a3,a4,a5,r,T,bs,lsL,tsL,tw,cell,rfl,_⟩:=h
  rfl
 ·obtain ⟨p,a0,a1,a2,a3,a4,a5,r,Tw,bs,lsL,tsL,tw,cell,rfl,S,ok,ne,hz,k⟩:=h
  have hr3:Room 3 _:=hr.mono (by decide)
  refine ⟨_,(J3 (Jn (i:=2) scOther.nd rfl (Or.inl rfl) (Jd GLn hr3 rfl mLn kLn bLn .nil pass0 (J0 (pv 0) J6)))
   (J3 (ps_if (PW.pt (pw_or (PW.pt (J7n (Jo op_ne (pe_ix Jj (pv 2) Jb (fun _ _=>rfl)) J1k (Jp _)) (J4a (Jo op_ne (pe_ix Jj (pv 2) Jb (fun _ _=>rfl)) J1k (Jp _))))) (pw_or1 (Jo op_eq (pe_op J4o (pv 1) Jb) Jb (Jp _))))) (J9 (Jl (pv 2))) Jv)
   (J3 (ps_if (Jo op_eq (pe_op J4o (pv 1) Jb) Jb (Jp _)) (J9 (Jl (J2m (J0 (pe_ix Jj (pv 2) Jb (fun _ _=>rfl)) (J0 (pe_ix Jj (pv 2) Jb (fun _ _=>rfl)) (J0 (pe_op J2i Jb (pe_op J4o (pe_op op_fdiv (pv 1) Jb) (pe_ix Jj (pv 2) Jb (fun _ _=>rfl)))) J6)))))) Jv)
   (J3 (ps_if (Jo op_eq (pe_ix Jj (pv 2) Jb (fun _ _=>rfl)) J1k (Jp _)) (J9 (Jl (J2m (J0 J1k (J0 (pe_ix Jj (pv 2) Jb (fun _ _=>rfl)) (J0 (pe_ix J19 (pe_ix Jj (pv 0) Jb (fun _ _=>rfl)) (pe_un J2j Jb) (fun _ _=>rfl)) J6)))))) Jv)
   (J9 (Jl (J2m (J0 J1k (J0 (pe_ix Jj (pv 2) Jb (fun _ _=>rfl)) (J0 (pe_ix J19 (pe_ix Jj (pv 0) Jb (fun _ _=>rfl)) (pe_un J2j Jb) (fun _ _=>rfl)) J6)))))))))),?_⟩
  refine ⟨_,rfl,p,a0,a1,a2,a3,a4,a5,r,Tw,bs,lsL,tsL,tw,rfl,S,ok,ne,hz,fun q H1 s1 hq=>?_⟩
  have my:=next_may ok ne
  obtain ⟨no,nu⟩:=next_os ok ne
  have neB:r.bot≠[]:=fun e=>by
   have:=ok.lens
   rw [e] at this
   exact ne (List.length_eq_zero_iff.mp this.symm)
  cases hs:nextN r with
  | home a =>
   rw [hs] at hq my
   refine ⟨_,rfl,q,_,_,_,rfl,rfl,SqT.of hq,J7 (j:=0) rfl,rfl,_,rfl,iteND (nW (k:=.ho) (k':=.os) (by decide)) ?_⟩
   refine ⟨_,rfl,q,_,_,_,rfl,rfl,SqT.of hq,J7 (j:=0) rfl,rfl,_,rfl,iteND (nW (k:=.ho) (k':=.us) (by decide)) ?_⟩
   exact iteT ⟨_,rfl,k q _ H1 s1 my (fun _=>hs.symm) hq⟩
  | even a b =>
   rw [hs] at hq my
   refine ⟨_,rfl,q,_,_,_,rfl,rfl,SqT.of hq,J7 (j:=0) rfl,rfl,_,rfl,iteND (nW (k:=.ev) (k':=.os) (by decide)) ?_⟩
   refine ⟨_,rfl,q,_,_,_,rfl,rfl,SqT.of hq,J7 (j:=0) rfl,rfl,_,rfl,iteND (nW (k:=.ev) (k':=.us) (by decide)) ?_⟩
   exact iteT ⟨_,rfl,k q _ H1 s1 my (fun _=>hs.symm) hq⟩
  | over a b =>
   rw [hs] at hq my
   refine ⟨_,rfl,q,_,_,_,rfl,rfl,SqT.of hq,J7 (j:=0) rfl,rfl,_,rfl,iteND (nW (k:=.ov) (k':=.os) (by decide)) ?_⟩
   refine ⟨_,rfl,q,_,_,_,rfl,rfl,SqT.of hq,J7 (j:=0) rfl,rfl,_,rfl,iteND (nW (k:=.ov) (k':=.us) (by decide)) ?_⟩
   exact iteT ⟨_,rfl,k q _ H1 s1 my (fun _=>hs.symm) hq⟩
  | under a b =>
   rw [hs] at hq my
   refine ⟨_,rfl,q,_,_,_,rfl,rfl,SqT.of hq,J7 (j:=0) rfl,rfl,_,rfl,iteND (nW (k:=.un) (k':=.os) (by decide)) ?_⟩
   refine ⟨_,rfl,q,_,_,_,rfl,rfl,SqT.of hq,J7 (j:=0) rfl,rfl,_,rfl,iteND (nW (k:=.un) (k':=.us) (by decide)) ?_⟩
   exact iteT ⟨_,rfl,k q _ H1 s1 my (fun _=>hs.symm) hq⟩
  | overs a t =>
   rw [hs] at hq my
   obtain ⟨m1,m2,m3,m4⟩:=my
   obtain ⟨f1,f2,f3,f4⟩:=no a t hs
   refine ⟨_,rfl,q,_,_,_,rfl,rfl,SqT.of hq,J7 (j:=0) rfl,rfl,_,rfl,iteNS rfl (iteF ?_)⟩
   refine ⟨_,rfl,_,_,rfl,rfl,(by show (0:Int) < 3;decide),rfl,_,rfl,?_⟩
   by_cases c:V.int (cell % 3)=V.int 0
   ·exact iteDT c ⟨_,rfl,k q (.overs a t) H1 s1 ⟨m1,m2,m3,m4⟩ (fun _=>hs.symm) hq⟩
   refine iteD c ?_
   have nc:∀ {s:Stp},cell=0→s=nextN r:=fun e=>absurd (by rw [e];rfl) c
   refine ⟨_,rfl,_,_,rfl,rfl,(by show (0:Int) < 3;decide),rfl,_,rfl,?_⟩
   by_cases c1:V.int (cell % 3)=V.int 1
   ·refine iteDT c1 ?_
    refine ⟨_,rfl,q,_,_,_,rfl,rfl,SqT.of hq,J7 (j:=0) rfl,_,rfl,q,_,_,_,rfl,rfl,SqT.of hq,J7 (j:=1) rfl,_,rfl,_,_,rfl,rfl,⟨by decide,by decide⟩,_,rfl,q,_,_,_,rfl,rfl,SqT.of hq,J7 (j:=2) rfl,_,_,rfl,rfl,(by show 0 < t;omega),_,_,rfl,rfl,(by show 3≤sizeLine;decide),fun t2 ht2=>?_⟩
    have e0:=Int.emod_nonneg (cell / 3) (show t≠0 by omega)
    have e1:=Int.emod_lt_of_pos (cell / 3) (show 0 < t by omega)
    exact k t2 (.overs a (1 + cell / 3 % t)) _ (s1.trans (J8 ht2)) ⟨m1,m2,by omega,by omega⟩ nc J4
   refine iteD c1 ?_
   refine ⟨_,rfl,q,_,_,_,rfl,rfl,SqT.of hq,J7 (j:=0) rfl,rfl,_,rfl,iteDT rfl ?_⟩
   refine ⟨_,rfl,q,_,_,_,rfl,rfl,SqT.of hq,J7 (j:=1) rfl,_,rfl,p,_,_,_,rfl,rfl,SqT.of (s1 _ _ S.tup),J7 (j:=1) rfl,_,rfl,a1,_,_,_,rfl,rfl,SqL.of (s1 _ _ S.t1),J16 neB,(by show 3≤sizeLine;decide),fun t2 ht2=>?_⟩
   exact k t2 (.over a (lastB r)) _ (s1.trans (J8 ht2)) ⟨by rw [f1];exact f2,f1,rfl,by rw [f1];exact f3⟩ nc J4
  | unders a t =>
   rw [hs] at hq my
   obtain ⟨m1,m2,m3,m4⟩:=my
   obtain ⟨f1,f2,f3,f4⟩:=nu a t hs
   refine ⟨_,rfl,q,_,_,_,rfl,rfl,SqT.of hq,J7 (j:=0) rfl,rfl,_,rfl,iteND (nW (k:=.us) (k':=.os) (by decide)) ?_⟩
   refine ⟨_,rfl,q,_,_,_,rfl,rfl,SqT.of hq,J7 (j:=0) rfl,rfl,_,rfl,iteNS rfl ?_⟩
   refine ⟨_,rfl,_,_,rfl,rfl,(by show (0:Int) < 3;decide),rfl,_,rfl,?_⟩
   by_cases c:V.int (cell % 3)=V.int 0
   ·exact iteDT c ⟨_,rfl,k q (.unders a t) H1 s1 ⟨m1,m2,m3,m4⟩ (fun _=>hs.symm) hq⟩
   refine iteD c ?_
   have nc:∀ {s:Stp},cell=0→s=nextN r:=fun e=>absurd (by rw [e];rfl) c
   refine ⟨_,rfl,_,_,rfl,rfl,(by show (0:Int) < 3;decide),rfl,_,rfl,?_⟩
   by_cases c1:V.int (cell % 3)=V.int 1
   ·refine iteDT c1 ?_
    refine ⟨_,rfl,q,_,_,_,rfl,rfl,SqT.of hq,J7 (j:=0) rfl,_,rfl,q,_,_,_,rfl,rfl,SqT.of hq,J7 (j:=1) rfl,_,rfl,_,_,rfl,rfl,⟨by decide,by decide⟩,_,rfl,q,_,_,_,rfl,rfl,SqT.of hq,J7 (j:=2) rfl,_,_,rfl,rfl,(by show 0 < t;omega),_,_,rfl,rfl,(by show 3≤sizeLine;decide),fun t2 ht2=>?_⟩
    have e0:=Int.emod_nonneg (cell / 3) (show t≠0 by omega)
    have e1:=Int.emod_lt_of_pos (cell / 3) (show 0 < t by omega)
    exact k t2 (.unders a (1 + cell / 3 % t)) _ (s1.trans (J8 ht2)) ⟨m1,m2,by omega,by omega⟩ nc J4
   refine iteD c1 ?_
   refine ⟨_,rfl,q,_,_,_,rfl,rfl,SqT.of hq,J7 (j:=0) rfl,rfl,_,rfl,iteD (nW (k:=.us) (k':=.os) (by decide)) ?_⟩
   refine ⟨_,rfl,q,_,_,_,rfl,rfl,SqT.of hq,J7 (j:=1) rfl,_,rfl,p,_,_,_,rfl,rfl,SqT.of (s1 _ _ S.tup),J7 (j:=0) rfl,_,rfl,a0,_,_,_,rfl,rfl,SqL.of (s1 _ _ S.t0),J16 ne,(by show 3≤sizeLine;decide),fun t2 ht2=>?_⟩
   exact k t2 (.under a (lastT r)) _ (s1.trans (J8 ht2)) ⟨by rw [f1];exact f2,rfl,f1,by rw [f1];exact f3⟩ nc J4
end
end R25
namespace R25
open PySem L2 Rl
section
variable {P:Program} {w:World} {K:PySem.W.Frag} {mg:Str→Option Value} {base:Heap}
theorem J6a:∀ (xs ys:List Rw) (p:Cst) (bs:List Band),ledC p bs (xs ++ ys)=match ledC p bs xs with | none=>none | some q=>ledC q.1 q.2 ys
 | [],ys,p,bs=>rfl
 | x :: xs,ys,p,bs=>by
  cases e:J3j p.1 x with
  | none=>rw [List.cons_append,J38 e,J38 e]
  | some s=>rw [List.cons_append,J3p e,J3p e];exact J6a xs ys _ _
theorem led_atoms:∀ (rows:List Rw) {p q:Cst} {bs cs:List Band},Cok p→Zr p→ledC p bs rows=some (q,cs)→∃ n,LongA p n∧aN p n=q∧cs=bs ++ aB p n
 | [],p,q,bs,cs,cok,z,h=>by
  have h:some (p,bs)=some (q,cs):=h
  obtain ⟨rfl,rfl⟩:=Prod.mk.inj (Option.some.inj h)
  exact ⟨0,fun i hi=>absurd hi (Nat.not_lt_zero _),rfl,(List.append_nil _).symm⟩
 | x :: rows,p,q,bs,cs,cok,z,h=>by
  cases e:J3j p.1 x with
  | none=>rw [J38 e] at h;cases h
  | some s =>
   rw [J3p e] at h
   obtain ⟨ne,ms,er⟩:=J6r e
   have np:=ms.next cok.ok ne
   obtain ⟨k,k1,k2,k3,k4⟩:=J6q cok z ne np
   obtain ⟨n,n1,n2,n3⟩:=led_atoms rows (cok.step ne np) (Zr.aft s p) h
   have k4:aN p k=(s.behind p.1,towB s p.1 p.2):=k4
   refine ⟨k + n,k2.add (by rw [k4];exact n1),?_,?_⟩
   ·rw [aN_add,k4];exact n2
   ·rw [n3,aB_add,k3,k4,List.append_assoc]
theorem ledR_init {p:Cst} {rows:List Rw} {x:Rw} {bs:List Band} (h:ledR p (rows ++ [x])=some bs):ledR p rows=none:=by
 unfold ledR at h ⊢
 rw [J6a] at h
 cases e:ledC p [] rows with
 | none=>rfl
 | some q =>
  rw [e] at h
  cases es:J3j q.1.1 x with
  | none =>
   have h:(match ledC q.1 q.2 [x] with | none=>none | some q=>if q.1.1.top=[] then some q.2 else none)=some bs:=h
   rw [J38 es] at h;cases h
  | some s=>exact if_neg (J6r es).1
theorem ledR_more {p:Cst} {rows:List Rw} {x:Rw} {bs:List Band} (h:ledR p rows=some bs):ledR p (rows ++ [x])=none:=by
 unfold ledR at h ⊢
 rw [J6a]
 cases e:ledC p [] rows with
 | none=>rfl
 | some q =>
  rw [e] at h
  by_cases c:q.1.1.top=[]
  ·show (match ledC q.1 q.2 [x] with | none=>none | some q=>if q.1.1.top=[] then some q.2 else none)=none
   rw [J38 (J4u fun s m=>m.1 c)]
  ·have h:(if q.1.1.top=[] then some q.2 else none)=some bs:=h
   rw [if_neg c] at h;cases h
theorem cut_init (xs:List V) (h:xs≠[]):cutV xs none (some (-1))=xs.dropLast:=by
 have hl:=List.length_pos_iff.mpr h
 unfold cutV
 have e:HT.sIx xs.length xs.length (some (-1))=xs.length - 1:=by
  show (if (-1:Int) < 0 then ((-1:Int) + (xs.length:Int)).toNat else min (-1:Int).toNat xs.length)=_
  rw [if_pos (by decide)];omega
 rw [e,HT.sIx_none,List.drop_zero,Nat.sub_zero,List.dropLast_eq_take]
theorem cut_end (ys:List V) (v:V):cutV (ys ++ [v]) (some (-1)) none=[v]:=by
 unfold cutV
 have e:HT.sIx (ys ++ [v]).length 0 (some (-1))=ys.length:=by
  show (if (-1:Int) < 0 then ((-1:Int) + ((ys ++ [v]).length:Int)).toNat else min (-1:Int).toNat (ys ++ [v]).length)=_
  rw [if_pos (by decide),List.length_append]
  show ((-1:Int) + ((ys.length + 1:Nat):Int)).toNat=_
  omega
 rw [e,HT.sIx_none,List.drop_left,List.length_append]
 show [v].take (ys.length + 1 - ys.length)=[v]
 rw [show ys.length + 1 - ys.length=1 by omega];rfl
theorem refs_init {Pr Pr':Addr→Nat→Prop} {xs:List V} {n:Nat} {v:V} (h:Refs Pr (xs ++ [v]) (n + 1)) (m:∀ q i,i < n→Pr q i→Pr' q i):Refs Pr' xs n:=by
 have hl:xs.length=n:=by have:=h.len;rw [List.length_append] at this;simpa using this
 refine ⟨hl,fun i hi=>?_⟩
 obtain ⟨q,e,t⟩:=h.at_ i (by omega)
 rw [List.getElem?_append_left (by omega)] at e
 exact ⟨q,e,m q i hi t⟩
theorem J7t {rows:List Rw} {x:Rw} {j:Nat} (h:j < rows.length):(rows ++ [x]).getD j xz=rows.getD j xz:=by
 rw [List.getD_eq_getElem?_getD,List.getElem?_append_left h,← List.getD_eq_getElem?_getD]
theorem J7s {rows:List Rw} {x:Rw}:(rows ++ [x]).getD rows.length xz=x:=by
 rw [List.getD_eq_getElem?_getD,List.getElem?_append_right (Nat.le_refl _),Nat.sub_self];rfl
theorem RawL.no {H:Hp} {p a0 a1 a2 a3 a4 a5 q:Addr} {top bot:List Nat} {lsL:List Int} {tsL:List Bool} {tw:List Int} {bs:List Band} {zs:List V} (h:RawL H p a0 a1 a2 a3 a4 a5 top bot lsL tsL tw bs) (hq:H q=some (.tup zs)):q ∉ [a0,a1,a2,a3,a4,a5]:=fun m=>by
 obtain ⟨ys,t5,_⟩:=h.t5
 simp only [List.mem_cons,List.not_mem_nil,or_false] at m
 rcases m with rfl | rfl | rfl | rfl | rfl | rfl
 ·have:=h.t0;rw [hq] at this;cases this
 ·have:=h.t1;rw [hq] at this;cases this
 ·have:=h.t2;rw [hq] at this;cases this
 ·have:=h.t3;rw [hq] at this;cases this
 ·have:=h.t4;rw [hq] at this;cases this
 ·rw [hq] at t5;cases t5
theorem RawL.upO {H:Hp} {p a0 a1 a2 a3 a4 a5 d:Addr} {top bot:List Nat} {lsL:List Int} {tsL:List Bool} {tw:List Int} {bs:List Band} {zs ys:List V} (h:RawL H p a0 a1 a2 a3 a4 a5 top bot lsL tsL tw bs) (hd:H d=some (.lst zs)) (n:d ∉ [a0,a1,a2,a3,a4,a5]):RawL (upd H d (.lst ys)) p a0 a1 a2 a3 a4 a5 top bot lsL tsL tw bs:=by
 have nn:∀ b∈[a0,a1,a2,a3,a4,a5],b≠d:=fun b hb e=>n (e ▸ hb)
 refine ⟨h.nd,?_,?_,?_,?_,?_,?_,h.t5.upd hd (nn _ (by simp))⟩
 ·rw [Jc (fun e=>by have:=h.tup;rw [e,hd] at this;cases this)];exact h.tup
 ·rw [Jc (nn _ (by simp))];exact h.t0
 ·rw [Jc (nn _ (by simp))];exact h.t1
 ·rw [Jc (nn _ (by simp))];exact h.t2
 ·rw [Jc (nn _ (by simp))];exact h.t3
 ·rw [Jc (nn _ (by simp))];exact h.t4
theorem alk_refs {K:PySem.W.Frag} {H:Hp} {F:Nat→List V} {xs ys:List V} {n:Nat} (r1:Refs (fun q i=>H q=some (.tup (F i))) xs n) (r2:Refs (fun q i=>H q=some (.tup (F i))) ys n) (hf:∀ i,(F i).all flatV=true):AlkL K H xs ys :=
 ⟨by rw [r1.len,r2.len],fun j a b e1 e2=>by
  have hj:j < n:=by rw [← r1.len];exact (List.getElem?_eq_some_iff.mp e1).1
  obtain ⟨q1,g1,t1⟩:=r1.at_ j hj
  obtain ⟨q2,g2,t2⟩:=r2.at_ j hj
  rw [g1] at e1
  rw [g2] at e2
  obtain rfl:=Option.some.inj e1
  obtain rfl:=Option.some.inj e2
  exact .inr ⟨q1,q2,_,rfl,rfl,SqT.of t1,SqT.of t2,hf j⟩⟩
theorem band_flat (b:Band):(bandV b).all flatV=true:=rfl
theorem nV_nil {row:List Nat}:nV row=[]↔row=[]:=by
 rw [nV_eq];exact List.map_eq_nil_iff
theorem ag_whole {ls:List Int} {os:List Nat} {ts:List Bool} (hts:ts.length=ls.length):AgL (J3h ls os ts) (List.replicate ls.length 1) ls ts (List.replicate ls.length 1):=⟨rfl,hts,List.length_replicate,fun j _=>⟨rfl,rfl,rfl⟩⟩
theorem zr_whole {ls:List Int} {os:List Nat} {ts:List Bool}:Zr (J1y ls os ts):=fun j hj=>by
 show (List.replicate ls.length (1:Int)).getD j 0=0
 have hj:¬ j < ls.length:=fun q=>hj (List.mem_range.mpr q)
 rw [List.getD_eq_getElem?_getD,List.getElem?_eq_none (by rw [List.length_replicate];omega)];rfl
theorem menu25 {m:Int} (h0:0≤m) (h1:m < 4):∃ top:Int,atI [V.int 7,V.int 60,V.int (10 ^ (6:Int).toNat),V.int (10 ^ (28:Int).toNat)] m=some (V.int top)∧0 < top∧top≤10 ^ 28:=by
 have h:m=0∨m=1∨m=2∨m=3:=by omega
 rcases h with rfl | rfl | rfl | rfl
 ·exact ⟨7,rfl,by decide,by decide⟩
 ·exact ⟨60,rfl,by decide,by decide⟩
 ·exact ⟨10 ^ (6:Int).toNat,rfl,by decide,by decide⟩
 ·exact ⟨10 ^ (28:Int).toNat,rfl,by decide,by decide⟩
def spLaw (K:PySem.W.Frag):Sp:=fun vs H Q _=>∃ (a:Addr) (ns:List Int),vs=[.ref a]∧SqL K H a (ns.map V.int)∧ns.length≤63∧∀ H',Q (.bl true) H'
theorem scLaw:FnScope ["script","lead","top","many","drawn","line","state","paper","cell"] ["script"] (J2 sLaw):=⟨rfl,rfl,rfl,by decide +kernel,rfl,by decide +kernel,by decide +kernel⟩
theorem ok_law {f fC fD fI fLg fLo fLs fEx fBl fCH C CR CH:Addr} {fd fdC fdD fdI fdLg fdLo fdLs fdEx fdBl fdCH:FuncData} {cs:Kd→Addr} (F:Fun K "law" "law" sLaw f fd) (T:TxtR mg) (TH:TxtCh K CH)
  (GC:FnOk P w K mg base CX0 1 fC fdC ["script","k"] (spCell K)) (bC:Binds K fdC ["script","k"] []) (mC:mg "_law_cell"=some (.ref fC)) (kC:PySem.W.keepIn K (.ref fC)=true)
  (GD:FnOk P w K mg base CX0 2 fD fdD ["script","many","top"] (spDrawn3 K)) (bD:Binds K fdD ["script","many","top"] []) (mD:mg "_law_drawn"=some (.ref fD)) (kD:PySem.W.keepIn K (.ref fD)=true)
  (MI:Mk K C fI) (GI:FnOk P w K mg base CX0 3 fI fdI ["self","lengths","order","turned"] (spInit C)) (bI:Binds K fdI ["self","lengths","order","turned"] []) (mgI:mg "Line"=some (.ref C))
  (GLg:FnOk P w K mg base CX0 1 fLg fdLg ["drawn"] spBegun) (bLg:Binds K fdLg ["drawn"] []) (mLg:mg "_law_begun"=some (.ref fLg)) (kLg:PySem.W.keepIn K (.ref fLg)=true)
  (GLo:FnOk P w K mg base CX0 4 fLo fdLo ["state","cell"] spOther) (bLo:Binds K fdLo ["state","cell"] []) (mLo:mg "_law_other"=some (.ref fLo)) (kLo:PySem.W.keepIn K (.ref fLo)=true)
  (GLs:FnOk P w K mg base CX0 2 fLs fdLs ["state","told"] spLStep) (bLs:Binds K fdLs ["state","told"] []) (mLs:mg "_law_step"=some (.ref fLs)) (kLs:PySem.W.keepIn K (.ref fLs)=true)
  (GEx:FnOk P w K mg base CX0 6 fEx fdEx ["line","paper"] (spExamG C CR cs)) (bEx:Binds K fdEx ["line","paper"] []) (mEx:mg "examined"=some (.ref fEx)) (kEx:PySem.W.keepIn K (.ref fEx)=true)
  (GBl:FnOk P w K mg base CX0 5 fBl fdBl ["line","paper"] (spLedG C CR cs)) (bBl:Binds K fdBl ["line","paper"] []) (mBl:mg "bands_led"=some (.ref fBl)) (kBl:PySem.W.keepIn K (.ref fBl)=true)
  (MCH:Mk K CH fCH) (GCH:FnOk P w K mg base CX0 6 fCH fdCH ["self","line"] (spCInit C CR CH cs)) (bCH:Binds K fdCH ["self","line"] []) (mgCH:mg "Chart"=some (.ref CH)) :
  FnOk P w K mg base CX0 8 f fd ["script"] (spLaw K):=by
 refine F.ok scLaw (fun vs H Q E h=>?_) (fun cdv A outer s H vs Q E hr h=>?_)
 ·obtain ⟨a,ns,rfl,_⟩:=h
  rfl
 ·obtain ⟨a,ns,rfl,hS,hlen,k⟩:=h
  have hr1:Room 1 _:=hr.mono (by decide)
  have hr2:Room 2 _:=hr.mono (by decide)
  have hr4:Room 4 _:=hr.mono (by decide)
  have hr5:Room 5 _:=hr.mono (by decide)
  have hr6:Room 6 _:=hr.mono (by decide)
  have hr7:Room 7 _:=hr.mono (by decide)
  have hu:=hr.units0
  have hu1:=hu_of hr
  refine ⟨_,(J3 (Jn (i:=1) scLaw.nd rfl (Or.inl rfl) (Jd GC hr1 rfl mC kC bC .nil pass0 (J0 (pv 0) (J0 Jb J6))))
   (J3 (Jn (i:=2) scLaw.nd rfl (Or.inl rfl) (pe_ix J19 (J2n (J0 Jb (J0 Jb (J0 (pe_op op_pow Jb Jb) (J0 (pe_op op_pow Jb Jb) J6))))) (pe_op J4o (pe_op op_fdiv (pv 1) Jb) Jb) (fun _ _=>rfl)))
   (J3 (Jn (i:=3) scLaw.nd rfl (Or.inl rfl) (pe_op J2i Jb (pe_op J4o (pv 1) Jb)))
   (J3 (ps_cut (ps_if (Jo op_gt (pv 2) (pe_op op_pow Jb Jb) (Jp _)) (J9 (Jn (i:=3) scLaw.nd rfl (Or.inl rfl) (pe_op J2i Jb (pe_op J4o (pv 1) Jb)))) Jv))
   (J3 (Jn (i:=4) scLaw.nd rfl (Or.inl rfl) (Jd GD hr2 rfl mD kD bD .nil pass0 (J0 (pv 0) (J0 (pv 3) (J0 (pv 2) J6)))))
   (J3 (Jn (i:=5) scLaw.nd rfl (Or.inl rfl) (J1f MI GI hr4 rfl mgI bI .nil pass0 (J0 (pe_ix Jj (pv 4) Jb (fun _ _=>rfl)) (J0 (pe_ix Jj (pv 4) Jb (fun _ _=>rfl)) (J0 (pe_ix Jj (pv 4) Jb (fun _ _=>rfl)) J6)))))
   (J3 (Jn (i:=6) scLaw.nd rfl (Or.inl rfl) (Jd GLg hr1 rfl mLg kLg bLg .nil pass0 (J0 (pv 4) J6)))
   (J3 (Jn (i:=7) scLaw.nd rfl (Or.inl rfl) (J2n J6))
   (J3 (ps_while PassesOwn.never (Jo (op_neL hu) (pe_ix Jj (pv 6) Jb (fun _ _=>rfl)) (J2n J6) (Jp _))
    (J3 (Jn (i:=8) scLaw.nd rfl (Or.inl rfl) Jb)
    (J3 (ps_cut (ps_if (Jo op_lt (Jy Ju (by rfl) T.len PySem.boot_len (J0 (pv 7) J6)) Jb (Jp _)) (J9 (Jn (i:=8) scLaw.nd rfl (Or.inl rfl) (Jd GC hr1 rfl mC kC bC .nil pass0 (J0 (pv 0) (J0 (pe_op J2i (pe_op J2i Jb (pe_op op_mul Jb (pv 3))) (Jy Ju (by rfl) T.len PySem.boot_len (J0 (pv 7) J6))) J6))))) Jv))
    (J3 (J12 (pe_bm PySem.F.plainAttrs_list PySem.F.slot_list_append PySem.F.type_list_append J1t (pv 7) (J0 (Jd GLo hr4 rfl mLo kLo bLo .nil pass0 (J0 (pv 6) (J0 (pv 8) J6))) J6)))
    (J9 (J12 (Jd GLs hr2 rfl mLs kLs bLs .nil pass0 (J0 (pv 6) (J0 (pe_ix J19 (pv 7) (pe_un J2j Jb) (fun _ _=>rfl)) J6)))))))))
   (J3 (ps_if (PW.pt (pw_or (Jo op_notB (Jd GEx hr6 rfl mEx kEx bEx .nil pass0 (J0 (pv 5) (J0 (Jk J1s (by rfl) T.list PyProof.Rows.boot_list (J0 (pv 7) J6)) J6))) pe_bl (Jp _)) (pw_or1 (Jo (op_neAL hu1) (Jd GBl hr5 rfl mBl kBl bBl .nil pass0 (J0 (pv 5) (J0 (Jk J1s (by rfl) T.list PyProof.Rows.boot_list (J0 (pv 7) J6)) J6))) (pe_ix Jj (pv 6) Jb (fun _ _=>rfl)) (Jp _))))) (J9 (Jl pe_bl)) Jv)
   (J3 (ps_if (Jo (op_neAL hu1) (Jh (J1f MCH GCH hr7 rfl mgCH bCH .nil pass0 (J0 (pv 5) J6)) rfl) (Jk J1i (by rfl) T.tuple PyProof.Rows.boot_tuple (J0 (pe_ix Jj (pv 6) Jb (fun _ _=>rfl)) J6)) (Jp _)) (J9 (Jl pe_bl)) Jv)
   (J9 (Jl (J3z (J1c op_isB (Jd GEx hr6 rfl mEx kEx bEx .nil pass0 (J0 (pv 5) (J0 (J3e J4w (pv 7) J4c (J4b (pe_un J2j Jb))) J6))) pe_bl (Jp _)) (J64 (J1c op_isB (Jd GEx hr6 rfl mEx kEx bEx .nil pass0 (J0 (pv 5) (J0 (pe_op op_cat (pv 7) (J3e J4w (pv 7) (J4b (pe_un J2j Jb)) J4c)) J6))) pe_bl (Jp _))))))))))))))))),?_⟩
  refine ⟨_,rfl,a,ns,0,rfl,hS,?_⟩
  have a0:0≤cellN ns 0 % 6:=Int.emod_nonneg _ (by decide)
  have a1:cellN ns 0 % 6 < 6:=Int.emod_lt_of_pos _ (by decide)
  have b0:0≤cellN ns 0 % 3:=Int.emod_nonneg _ (by decide)
  have b1:cellN ns 0 % 3 < 3:=Int.emod_lt_of_pos _ (by decide)
  have m0:0≤cellN ns 0 / 18 % 4:=Int.emod_nonneg _ (by decide)
  have m1:cellN ns 0 / 18 % 4 < 4:=Int.emod_lt_of_pos _ (by decide)
  obtain ⟨top,hat,t0,t1⟩:=menu25 m0 m1
  refine ⟨_,_,rfl,rfl,⟨by decide,by decide,by decide⟩,_,_,rfl,rfl,⟨by decide,by decide,by decide⟩,(by show 4≤sizeLine;decide),fun me hme=>⟨_,rfl,_,_,rfl,rfl,⟨by decide,by decide⟩,_,_,rfl,rfl,(by show (0:Int) < 4;decide),me,_,_,V.int top,rfl,rfl,SqL.of J4,hat,?_⟩⟩
  have s1:Same H (upd H me (.lst [V.int 7,V.int 60,V.int (10 ^ (6:Int).toNat),V.int (10 ^ (28:Int).toNat)])):=J8 hme
  generalize (upd H me (.lst [V.int 7,V.int 60,V.int (10 ^ (6:Int).toNat),V.int (10 ^ (28:Int).toNat)]))=H1 at s1
  clear hat
  have hS1:=s1.seq hS
  refine ⟨_,rfl,_,_,rfl,rfl,(by show (0:Int) < 6;decide),_,_,rfl,rfl,?_⟩
  refine ⟨fun σ' H'=>∃ many:Nat,1≤many∧many≤24∧σ'=[some (.ref a),some (.int (cellN ns 0)),some (.int top),some (.int many),none,none,none,none,none]∧H1=H',?_,?_⟩
  ·refine ⟨_,rfl,_,_,rfl,rfl,⟨by decide,by decide,by decide⟩,_,_,rfl,rfl,_,rfl,?_⟩
   by_cases c:top > 10 ^ (6:Int).toNat
   ·refine iteDT c ?_
    refine ⟨_,rfl,_,_,rfl,rfl,(by show (0:Int) < 3;decide),_,_,rfl,rfl,(1 + cellN ns 0 % 3).toNat,by omega,by omega,?_,rfl⟩
    rw [show (((1 + cellN ns 0 % 3).toNat:Nat):Int)=1 + cellN ns 0 % 3 by omega];rfl
   ·refine iteD c ⟨(1 + cellN ns 0 % 6).toNat,by omega,by omega,?_,rfl⟩
    rw [show (((1 + cellN ns 0 % 6).toNat:Nat):Int)=1 + cellN ns 0 % 6 by omega];rfl
  rintro σ _ ⟨many,y1,y2,rfl,rfl⟩
  refine ⟨_,rfl,_,rfl,_,rfl,a,ns,many,top,rfl,hS1,y1,y2,t0,fun dp H2 s2 D=>?_⟩
  have G:=drawn_good ns (many:=many) (top:=top) y1 y2 t0 t1
  have hll:=drawL_len ns many top
  have hts:(draw3 ns many).length=(drawL ns many top).length:=by rw [draw3_len];exact hll.symm
  generalize drawL ns many top=ls at *
  generalize drawO ns many many=os at *
  generalize draw3 ns many=ts at *
  obtain ⟨dl,ol,dt,d0,d1,d2,d3⟩:=D.ex
  refine ⟨_,rfl,dp,_,_,_,rfl,rfl,SqT.of d0,J7 (j:=0) rfl,_,rfl,dp,_,_,_,rfl,rfl,SqT.of d0,J7 (j:=1) rfl,_,rfl,dp,_,_,_,rfl,rfl,SqT.of d0,J7 (j:=2) rfl,fun x dx hx hdx hne=>?_⟩
  have sx:=(J8 (o:=.own x) hdx).trans (J8 (l:=x) (o:=.ins C dx []) (by rw [Jc (Ne.symm hne)];exact hx))
  refine ⟨x,dx,dl,ol,.ref dt,ls,os,ts,rfl,J4,.inl (sx _ _ d1),.inl (sx _ _ d2),G,⟨hts,.inr ⟨dt,rfl,.inl (sx _ _ d3)⟩⟩,fun H3 L kp=>⟨rfl,?_⟩⟩
  have g2:=G.hi
  have g1:=G.lo
  have ok0:(J3h ls os ts).Ok:=whole_ok G.perm G.pos hts g2
  have z0:(J3h ls os ts).size≤10 ^ 30:=by rw [ok0.size_sum];exact G.sum
  have s3:Same H2 H3:=fun b o e=>kp _ _ (sx _ _ e) (Ja e hx)
  have cok0:Cok (J1y ls os ts):=J5v ok0 z0
  have len0:(J1y ls os ts).1.top.length≤24:=by rw [show (J1y ls os ts).1.top=List.range ls.length from rfl,List.length_range];exact ok0.few
  refine ⟨_,rfl,dp,ls,os,ts,rfl,D.same s3,G,hts,fun p a0 a1 a2 a3 a4 a5 H5 s5 fr R0=>?_⟩
  refine ⟨Nat.zero_le _,fun du hdu=>?_⟩
  have sd:=J8 (o:=.lst []) hdu
  have ndu:du ∉ [a0,a1,a2,a3,a4,a5]:=fun mm=>by
   obtain ⟨ys,t5,_⟩:=R0.t5
   simp only [List.mem_cons,List.not_mem_nil,or_false] at mm
   rcases mm with rfl | rfl | rfl | rfl | rfl | rfl
   ·rw [R0.t0] at hdu;cases hdu
   ·rw [R0.t1] at hdu;cases hdu
   ·rw [R0.t2] at hdu;cases hdu
   ·rw [R0.t3] at hdu;cases hdu
   ·rw [R0.t4] at hdu;cases hdu
   ·rw [t5] at hdu;cases hdu
  have fdu:H3 du=none:=s5.free hdu
  have g0:upd H5 du (.lst []) du=some (.lst []):=J4
  have R0:=R0.same sd
  have s5:=s5.trans sd
  generalize upd H5 du (.lst [])=H6 at *
  have z0':Zr (J1y ls os ts):=zr_whole
  have A00:=ag_whole (os:=os) hts
  have R0:RawL H6 p a0 a1 a2 a3 a4 a5 (J1y ls os ts).1.top (J1y ls os ts).1.bot ls ts (List.replicate ls.length 1) []:=R0
  have A00:AgL (J1y ls os ts).1 (J1y ls os ts).2 ls ts (List.replicate ls.length 1):=A00
  have ne0:(J1y ls os ts).1.top≠[]:=fun e=>by have e:=List.range_eq_nil.mp (show List.range ls.length=[] from e);omega
  generalize hp0:J1y ls os ts=p0 at *
  refine ⟨fun mm σ Hw=>∃ (c:Cst) (bs:List Band) (rows:List Rw) (xs:List V) (lsL:List Int) (tsL:List Bool) (tw:List Int) (v8:Option V),σ=[some (.ref a),some (.int (cellN ns 0)),some (.int top),some (.int many),some (.ref dp),some (.ref x),some (.ref p),some (.ref du),v8]∧Cok c∧Zr c∧bs.length + c.1.top.length≤24∧ledC p0 [] rows=some (c,bs)∧RawL Hw p a0 a1 a2 a3 a4 a5 c.1.top c.1.bot lsL tsL tw bs∧AgL c.1 c.2 lsL tsL tw∧Same H3 Hw∧Hw du=some (.lst xs)∧Refs (fun q j=>Hw q=some (.tup (rw3 (rows.getD j xz)))) xs rows.length∧(rows.length≤40∨rows.length + pot c.1 c.2≤40 + 6367451)∧mm=c.1.size.toNat,
   ⟨_,p0,[],[],[],_,_,_,none,rfl,cok0,z0',(by show 0 + _≤24;omega),rfl,R0,A00,s5,g0,Refs.nil,.inl (Nat.zero_le _),rfl⟩,?_⟩
  clear R0 A00 g0
  rintro mm σ Hw ⟨c,bs,rows,xs,lsL,tsL,tw,v8,rfl,cok,zr,lbs,eC,R,Ag,sw,hxs,rr,few,rfl⟩
  have sz:=cok.size30
  have lr:rows.length≤40 + 6367451:=by rcases few with q | q <;> omega
  have line17:40 + 6367451 + 5≤sizeLine:=by rw [sizeLine_eq];decide
  refine ⟨_,rfl,p,_,_,_,rfl,rfl,SqT.of R.tup,J7 (j:=0) rfl,Nat.zero_le _,fun ee hee=>?_⟩
  have se:=J8 (o:=.lst []) hee
  have hee1:upd Hw ee (.lst []) ee=some (.lst []):=J4
  have hxs:=se _ _ hxs
  have R:=R.same se
  have sw:=sw.trans se
  have rr:=rr.mono fun q j _ (e:Hw q=some _)=>se _ _ e
  generalize upd Hw ee (.lst [])=Hv at *
  refine ⟨a0,ee,_,[],rfl,rfl,SqL.of R.t0,SqL.of hee1,(fun _ _ b hb=>by cases hb),_,rfl,?_⟩
  by_cases ct:c.1.top=[]
  rotate_left
  ·-- a step more
   refine iteND (fun e=>ct (nV_nil.mp e)) ?_
   refine ⟨fun σ' H'=>∃ (c':Cst) (bs:List Band) (rows:List Rw) (xs:List V) (lsL:List Int) (tsL:List Bool) (tw:List Int) (v8:Option V),σ'=[some (.ref a),some (.int (cellN ns 0)),some (.int top),some (.int many),some (.ref dp),some (.ref x),some (.ref p),some (.ref du),v8]∧c'.1.size < c.1.size∧Cok c'∧Zr c'∧bs.length + c'.1.top.length≤24∧ledC p0 [] rows=some (c',bs)∧RawL H' p a0 a1 a2 a3 a4 a5 c'.1.top c'.1.bot lsL tsL tw bs∧AgL c'.1 c'.2 lsL tsL tw∧Same H3 H'∧H' du=some (.lst xs)∧Refs (fun q j=>H' q=some (.tup (rw3 (rows.getD j xz)))) xs rows.length∧(rows.length≤40∨rows.length + pot c'.1 c'.2≤40 + 6367451),?_,?_⟩
   ·rintro σ' H' ⟨c',bs,rows,xs,l',t',w',v8,rfl,less,i1,i2,i3,i4,i5,i6,i7,i8,i9,i10⟩
    refine ⟨_,?_,c',bs,rows,xs,l',t',w',v8,rfl,i1,i2,i3,i4,i5,i6,i7,i8,i9,i10,rfl⟩
    have h3:0≤c'.1.size:=Jw (ls:=c'.1.ls) (os:=c'.1.top) fun j hj=>Int.le_trans (by decide) (i1.ok.row.pos j hj)
    omega
   have hSv:=((s2.trans s3).trans sw).seq hS1
   refine ⟨fun σ' H'=>∃ cell:Int,σ'=[some (.ref a),some (.int (cellN ns 0)),some (.int top),some (.int many),some (.ref dp),some (.ref x),some (.ref p),some (.ref du),some (.int cell)]∧Hv=H'∧(40≤rows.length→cell=0),?_,?_⟩
   ·refine ⟨_,rfl,du,_,rfl,.inl (SqL.of hxs),_,_,rfl,rfl,_,rfl,?_⟩
    by_cases cl:(xs.length:Int) < 40
    ·refine iteDT cl ?_
     refine ⟨_,rfl,_,rfl,_,_,rfl,rfl,.inl ⟨by decide,by decide⟩,_,_,rfl,rfl,_,rfl,du,_,rfl,.inl (SqL.of hxs),_,_,rfl,rfl,a,ns,2 + 2 * many + xs.length,(by rw [show ((2 + 2 * many + xs.length:Nat):Int)=2 + 2 * (many:Int) + (xs.length:Int) by omega];rfl),hSv,_,rfl,rfl,fun q=>?_⟩
     rw [← rr.len] at q;omega
    ·refine iteD cl ⟨0,rfl,rfl,fun _=>rfl⟩
   rintro σ _ ⟨cell,rfl,rfl,hc0⟩
   refine ⟨_,rfl,.inl ⟨rfl,_,SqL.of hxs⟩,_,rfl,_,rfl,p,a0,a1,a2,a3,a4,a5,c.1,c.2,bs,lsL,tsL,tw,cell,rfl,R.st Ag,cok.ok,ct,sz,fun q s H7 s7 ms hnx hq=>?_⟩
   have np:=ms.next cok.ok ct
   have hx7:=s7 _ _ hxs
   have R7:=R.same s7
   have ql:q≠du:=fun e=>by rw [e,hx7] at hq;cases hq
   refine ⟨du,xs,.ref q,rfl,rfl,hx7,(by rw [rr.len];omega),?_⟩
   have last:atI (xs ++ [V.ref q]) (-1)=some (V.ref q):=atI_last (n:=rows.length) (by rw [List.length_append,rr.len];rfl) (by rw [← rr.len];exact List.getElem?_concat_length)
   have up7:∀ b o,b≠du→H7 b=some o→upd H7 du (.lst (xs ++ [V.ref q])) b=some o:=fun b o n e=>by rw [Jc n];exact e
   have hq8:=up7 _ _ ql hq
   have R8:=R7.upO (ys:=xs ++ [V.ref q]) hx7 ndu
   have hx8:upd H7 du (.lst (xs ++ [V.ref q])) du=some (.lst (xs ++ [V.ref q])):=J4
   have sw8:Same H3 (upd H7 du (.lst (xs ++ [V.ref q]))):=fun b o e=>up7 _ _ (fun n=>by rw [n,fdu] at e;cases e) (s7 _ _ (sw _ _ e))
   obtain ⟨xw,hxw⟩:∃ xw:Rw,rowV s=rw3 xw:=⟨(wordS (kd s),(s.winner:Nat),numSt s),rfl⟩
   have rr8:Refs (fun z j=>upd H7 du (.lst (xs ++ [V.ref q])) z=some (.tup (rw3 ((rows ++ [xw]).getD j xz)))) (xs ++ [V.ref q]) (rows.length + 1):=by
    refine (rr.mono fun q' j hj (e:Hv q'=some _)=>?_).snoc (by rw [J7s,← hxw];exact hq8)
    rw [J7t hj]
    exact up7 _ _ (fun n=>by rw [n,hxs] at e;cases e) (s7 _ _ e)
   generalize upd H7 du (.lst (xs ++ [V.ref q]))=H8 at *
   refine ⟨_,rfl,_,rfl,_,rfl,du,_,_,_,rfl,rfl,SqL.of hx8,last,p,a0,a1,a2,a3,a4,a5,c.1,c.2,bs,lsL,tsL,tw,q,s,rfl,R8,Ag,cok.ok,ct,np,sz,cok.tow,by omega,hq8,fun lsL' tsL' tw' H9 k9 R9 A9=>?_⟩
   refine ⟨aft s c,bs ++ bndS s c,rows ++ [xw],xs ++ [V.ref q],lsL',tsL',tw',_,rfl,(np.down cok.ok ct).less,cok.step ct np,Zr.aft s c,bndS_len cok.ok ct np lbs,?_,R9,A9,fun b o e=>k9 _ _ (sw8 _ _ e) (fun n=>by rw [fr b n] at e;cases e),k9 _ _ hx8 ndu,?_,?_⟩
   ·rw [J6a,eC]
    show ledC c bs [xw]=_
    rw [J3p (J4t ⟨ct,ms,hxw⟩)];rfl
   ·rw [List.length_append]
    exact rr8.mono fun q' j _ e=>k9 _ _ e (R8.no e)
   ·rw [List.length_append]
    show rows.length + 1≤40∨rows.length + 1 + _≤_
    by_cases cl:rows.length < 40
    ·exact .inl (by omega)
    ·right
     have es:=hnx (hc0 (by omega))
     subst es
     have h1:pot (aft (nextN c.1) c).1 (aft (nextN c.1) c).2 < pot c.1 c.2:=pot_lt cok.ok ct cok.tow
     have h2:=pot_le cok.ok cok.tow
     rcases few with q | q <;> omega
  ·refine iteNS (nV_nil.mpr ct) ?_
   have eR:ledR p0 rows=some bs:=by unfold ledR;rw [eC];exact if_pos ct
   obtain ⟨rows',xw,rfl⟩:∃ rows' xw,rows=rows' ++ [xw]:=by
    rcases List.eq_nil_or_concat rows with q | ⟨rows',xw,q⟩
    ·subst q
     have eC:some (p0,[])=some (c,bs):=eC
     obtain ⟨q1,_⟩:=Prod.mk.inj (Option.some.inj eC)
     rw [← q1] at ct
     exact absurd ct ne0
    ·exact ⟨rows',xw,by rw [q,List.concat_eq_append]⟩
   have eR1:=ledR_init eR
   have eR2:=ledR_more (x:=xw) eR
   obtain ⟨xs',xv,rfl⟩:∃ xs' xv,xs=xs' ++ [xv]:=by
    rcases List.eq_nil_or_concat xs with q | ⟨xs',xv,q⟩
    ·have:=rr.len
     rw [q,List.length_append] at this
     cases this
    ·exact ⟨xs',xv,by rw [q,List.concat_eq_append]⟩
   have ln:=rr.len
   rw [List.length_append] at rr
   have Lv:=L.same sw
   subst hp0
   refine ⟨_,rfl,_,rfl,du,_,rfl,.inl (SqL.of hxs),fun l1 hl1=>?_⟩
   have t1':=J8 (o:=.lst (xs' ++ [xv])) hl1
   have hl1':upd Hv l1 (.lst (xs' ++ [xv])) l1=some (.lst (xs' ++ [xv])):=J4
   generalize upd Hv l1 (.lst (xs' ++ [xv]))=Ha at *
   have rra:=rr.mono fun q j _ (e:Hv q=some _)=>t1' _ _ e
   refine ⟨x,l1,ls,os,ts,rows' ++ [xw],rfl,Lv.same t1',ok0,z0,g1,⟨_,hl1',by rw [List.length_append];exact rra⟩,fun Hb sb=>?_⟩
   rw [eR]
   refine ⟨true,true,rfl,rfl,false,rfl,iteF ?_⟩
   have tb:=t1'.trans sb
   have hxb:=tb _ _ hxs
   refine ⟨_,rfl,_,rfl,du,_,rfl,.inl (SqL.of hxb),fun l2 hl2=>?_⟩
   have t2':=J8 (o:=.lst (xs' ++ [xv])) hl2
   have hl2':upd Hb l2 (.lst (xs' ++ [xv])) l2=some (.lst (xs' ++ [xv])):=J4
   generalize upd Hb l2 (.lst (xs' ++ [xv]))=Hc at *
   have tc:=tb.trans t2'
   have rrc:=rr.mono fun q j _ (e:Hv q=some _)=>tc _ _ e
   refine ⟨x,l2,ls,os,ts,rows' ++ [xw],rfl,Lv.same tc,ok0,z0,g1,⟨_,hl2',by rw [List.length_append];exact rrc⟩,fun e=>(by rw [eR] at e;cases e),fun bs' e bl Hd sd' _ B=>?_⟩
   obtain rfl:bs=bs':=Option.some.inj (eR.symm.trans e)
   have td:=tc.trans sd'
   have Rd:=R.same td
   obtain ⟨zs,hzs,rz⟩:=B
   obtain ⟨vs,hvs,rvs⟩:=Rd.t5
   refine ⟨_,rfl,p,_,_,_,rfl,rfl,SqT.of Rd.tup,J7 (j:=5) rfl,bl,a5,zs,vs,rfl,rfl,.inl ⟨SqL.of hzs,SqL.of hvs⟩,alk_refs rz rvs (fun _=>band_flat _),false,rfl,iteF ?_⟩
   refine ⟨_,rfl,?_⟩
   intro xc dc hxc hdc hnc
   have sc:=(J8 (o:=.own xc) hdc).trans (J8 (l:=xc) (o:=.ins CH dc []) (by rw [Jc (Ne.symm hnc)];exact hxc))
   refine ⟨xc,dc,x,ls,os,ts,rfl,J4,(Lv.same td).same sc,ok0,z0,g1,fun m He lg tp A0 kc=>⟨rfl,?_⟩⟩
   have te':Same Hd He:=fun b o e=>kc _ _ (sc _ _ e) (Ja e hxc)
   have te:=td.trans te'
   have eB:bs=bndN (J1y ls os ts) m:=by
    obtain ⟨n,n1,n2,n3⟩:=led_atoms _ cok0 z0' eC
    obtain ⟨n',k1,k2,k3,_⟩:=J5u cok0 z0' lg
    have en:=n1.end_ k1 (by rw [n2];exact ct) (by rw [k3];exact tp)
    rw [n3,en,k2];rfl
   obtain ⟨dq,fs,pr1,ps,pt,pb,xr,xs1,xt,xb,h0,⟨lL,lR,lS,lT,lB⟩,⟨h1,h2,h3,h4⟩,r1,r2,r3,r4⟩:=A0.ex
   have Re:=R.same te
   obtain ⟨us,hus,rus⟩:=Re.t5
   refine ⟨xc,CH,dq,fs,_,rfl,h0,TH.cl,TH.nB,lB,_,rfl,p,_,_,_,rfl,rfl,SqT.of Re.tup,J7 (j:=5) rfl,J1l (.inl hus) fun tq Hf sf htq=>?_⟩
   rw [eB] at rus
   refine ⟨pb,tq,xb,us,rfl,rfl,.inr ⟨SqT.of (sf _ _ h4),SqT.of htq⟩,alk_refs (r4.mono fun q j _ (e:He q=some _)=>sf _ _ e) (rus.mono fun q j _ (e:He q=some _)=>sf _ _ e) (fun _=>band_flat _),false,rfl,iteF ?_⟩
   have tf:=te.trans sf
   have hxf:=tf _ _ hxs
   refine ⟨_,rfl,_,rfl,_,rfl,_,rfl,du,_,rfl,SqL.of hxf,fun l3 hl3=>?_⟩
   have eI:cutV (xs' ++ [xv]) none (some (-1))=xs':=by rw [cut_init _ (by simp),List.dropLast_concat]
   rw [eI]
   have t3':=J8 (o:=.lst xs') hl3
   have hl3':upd Hf l3 (.lst xs') l3=some (.lst xs'):=J4
   generalize upd Hf l3 (.lst xs')=Hg at *
   have tg:=tf.trans t3'
   refine ⟨x,l3,ls,os,ts,rows',rfl,Lv.same tg,ok0,z0,g1,⟨_,hl3',refs_init rr fun q j hj (e:Hv q=some _)=>by rw [J7t hj] at e;exact tg _ _ e⟩,fun Hh sh=>?_⟩
   rw [eR1]
   refine ⟨false,false,rfl,rfl,true,rfl,iteT ?_⟩
   have th:=tg.trans sh
   have hxh:=th _ _ hxs
   refine ⟨_,rfl,_,rfl,_,rfl,_,rfl,_,rfl,du,_,rfl,SqL.of hxh,fun l4 hl4=>?_⟩
   rw [cut_end]
   have t4':=J8 (o:=.lst [xv]) hl4
   have hl4':upd Hh l4 (.lst [xv]) l4=some (.lst [xv]):=J4
   generalize upd Hh l4 (.lst [xv])=Hi at *
   have ti:=th.trans t4'
   obtain ⟨q,eq,hq⟩:=rr.at_ rows'.length (by show rows'.length < rows'.length + 1;omega)
   have lx:xs'.length=rows'.length:=by
    have l1:=ln
    rw [List.length_append,List.length_append] at l1
    have l2:[xv].length=1:=rfl
    have l3:[xw].length=1:=rfl
    omega
   obtain rfl:xv=.ref q:=by
    rw [← lx,List.getElem?_concat_length] at eq
    exact Option.some.inj eq
   rw [J7s] at hq
   refine ⟨du,l4,_,_,rfl,rfl,ti _ _ hxs,hl4',(by rw [ln];show _ + 1≤sizeLine;omega),fun l5 hl5=>?_⟩
   have t5':=J8 (o:=.lst (xs' ++ [V.ref q] ++ [V.ref q])) hl5
   have hl5':upd Hi l5 (.lst (xs' ++ [V.ref q] ++ [V.ref q])) l5=some (.lst (xs' ++ [V.ref q] ++ [V.ref q])):=J4
   generalize upd Hi l5 (.lst (xs' ++ [V.ref q] ++ [V.ref q]))=Hj at *
   have tj:=ti.trans t5'
   have rrj:Refs (fun z j=>Hj z=some (.tup (rw3 ((rows' ++ [xw] ++ [xw]).getD j xz)))) (xs' ++ [V.ref q] ++ [V.ref q]) (rows'.length + 1 + 1):=by
    refine (rr.mono fun q' j hj (e:Hv q'=some _)=>?_).snoc ?_
    ·rw [J7t (rows:=rows' ++ [xw]) (by rw [List.length_append];exact hj)]
     exact tj _ _ e
    ·have e:rows'.length + 1=(rows' ++ [xw]).length:=by rw [List.length_append];rfl
     show Hj q=some (.tup (rw3 ((rows' ++ [xw] ++ [xw]).getD (rows'.length + 1) xz)))
     rw [e,J7s]
     exact tj _ _ hq
   refine ⟨x,l5,ls,os,ts,rows' ++ [xw] ++ [xw],rfl,Lv.same tj,ok0,z0,g1,⟨_,hl5',by rw [List.length_append,List.length_append];exact rrj⟩,fun Hk sk=>?_⟩
   rw [eR2]
   exact ⟨false,false,rfl,rfl,k _⟩
end
end R25
namespace R25
open PySem L2 Rl
theorem dflt_binds {K:PySem.W.Frag} {x qual:Str} {st:Stmt} {f TD:Addr} {fd:FuncData} {cT:Value} {dT:Option Addr} {nT:Nat} {slT:Array (Option Value)} (F:FunD K x qual st f fd TD) (lT:K.lookup TD=some ⟨cT,dT,.seq #[.none] nT,slT⟩) (ps:List Str)
  (h0:∀ (kV doc pm:Value) (an:Option Addr) (cdv ct:Value) (us:List Value),us.length=ps.length→∃ k,bindArgs (PySem.W.fnOf x qual (Jf st) (Je st) (J2 st) (.ref TD) kV doc pm an cdv ct) ⟨us,[]⟩=seqItems? (.ref TD) >>= k∧k (some #[.none])=pure (ps.zip us))
  (h1:∀ (kV doc pm:Value) (an:Option Addr) (cdv ct:Value) (us:List Value),(us ++ [Value.none]).length=ps.length→∃ k,bindArgs (PySem.W.fnOf x qual (Jf st) (Je st) (J2 st) (.ref TD) kV doc pm an cdv ct) ⟨us,[]⟩=seqItems? (.ref TD) >>= k∧k (some #[.none])=pure (ps.zip (us ++ [Value.none]))) :
  Binds K fd ps []∧Binds K fd ps [.none]:=by
 obtain ⟨oc,od,kV,doc,pm,an,cdv,ct,osl,rfl,lk,hcd⟩:=F.ex
 refine ⟨fun s us X hl=>?_,fun s us X hl=>?_⟩
 ·rw [List.append_nil] at hl ⊢
  obtain ⟨k,e1,e2⟩:=h0 kV doc pm an cdv ct us hl
  exact BindsTo.of_defaults (T:=TD) rfl (X _ _ lT) rfl e1 e2
 ·obtain ⟨k,e1,e2⟩:=h1 kV doc pm an cdv ct us hl
  exact BindsTo.of_defaults (T:=TD) rfl (X _ _ lT) rfl e1 e2
def csOf (a b c d e f:Addr):Kd→Addr
 | .ho=>a | .ev=>b | .ov=>c | .un=>d | .os=>e | .us=>f
theorem all_mk {l : PySem.W.OpenLaw} {w : World} {K : PySem.W.Frag} {h : Heap} {mg : Str → Option Value} {fa  C CR CH CSt CHo CEv COv CUn COs CUs : Addr} (X : K.In h) (G : h.Ns mainGlobals mg) (hfa : mg "law" = some (.ref fa))
    {f0 : Addr} {od0 an0 : Option Addr} {sl0 : Array (Option Value)} {oc0 kV0 dc0 pm0 cd0 ct0 : Value}
    {f1 : Addr} {od1 an1 : Option Addr} {sl1 : Array (Option Value)} {oc1 kV1 dc1 pm1 cd1 ct1 : Value}
    {f2 : Addr} {od2 an2 : Option Addr} {sl2 : Array (Option Value)} {oc2 kV2 dc2 pm2 cd2 ct2 : Value}
    {f3 : Addr} {od3 an3 : Option Addr} {sl3 : Array (Option Value)} {oc3 kV3 dc3 pm3 cd3 ct3 : Value}
    {f4 : Addr} {od4 an4 : Option Addr} {sl4 : Array (Option Value)} {oc4 kV4 dc4 pm4 cd4 ct4 : Value}
    {f5 : Addr} {od5 an5 : Option Addr} {sl5 : Array (Option Value)} {oc5 kV5 dc5 pm5 cd5 ct5 : Value}
    {f6 : Addr} {od6 an6 : Option Addr} {sl6 : Array (Option Value)} {oc6 kV6 dc6 pm6 cd6 ct6 : Value}
    {f7 : Addr} {od7 an7 : Option Addr} {sl7 : Array (Option Value)} {oc7 kV7 dc7 pm7 cd7 ct7 : Value}
    {f8 : Addr} {od8 an8 : Option Addr} {sl8 : Array (Option Value)} {oc8 kV8 dc8 pm8 cd8 ct8 : Value}
    {f9 : Addr} {od9 an9 : Option Addr} {sl9 : Array (Option Value)} {oc9 kV9 dc9 pm9 cd9 ct9 : Value}
    {f10 : Addr} {od10 an10 : Option Addr} {sl10 : Array (Option Value)} {oc10 kV10 dc10 pm10 cd10 ct10 : Value}
    {f11 : Addr} {od11 an11 : Option Addr} {sl11 : Array (Option Value)} {oc11 kV11 dc11 pm11 cd11 ct11 : Value}
    {f12 : Addr} {od12 an12 : Option Addr} {sl12 : Array (Option Value)} {oc12 kV12 dc12 pm12 cd12 ct12 : Value}
    {f13 : Addr} {od13 an13 : Option Addr} {sl13 : Array (Option Value)} {oc13 kV13 dc13 pm13 cd13 ct13 : Value}
    {f14 : Addr} {od14 an14 : Option Addr} {sl14 : Array (Option Value)} {oc14 kV14 dc14 pm14 cd14 ct14 : Value}
    {f15 : Addr} {od15 an15 : Option Addr} {sl15 : Array (Option Value)} {oc15 kV15 dc15 pm15 cd15 ct15 : Value}
    {f16 : Addr} {od16 an16 : Option Addr} {sl16 : Array (Option Value)} {oc16 kV16 dc16 pm16 cd16 ct16 : Value}
    {f17 : Addr} {od17 an17 : Option Addr} {sl17 : Array (Option Value)} {oc17 kV17 dc17 pm17 cd17 ct17 : Value}
    {f18 : Addr} {od18 an18 : Option Addr} {sl18 : Array (Option Value)} {oc18 kV18 dc18 pm18 cd18 ct18 : Value}
    {f19 : Addr} {od19 an19 : Option Addr} {sl19 : Array (Option Value)} {oc19 kV19 dc19 pm19 cd19 ct19 : Value}
    {f20 : Addr} {od20 an20 : Option Addr} {sl20 : Array (Option Value)} {oc20 kV20 dc20 pm20 cd20 ct20 : Value}
    {f21 : Addr} {od21 an21 : Option Addr} {sl21 : Array (Option Value)} {oc21 kV21 dc21 pm21 cd21 ct21 : Value}
    {f22 : Addr} {od22 an22 : Option Addr} {sl22 : Array (Option Value)} {oc22 kV22 dc22 pm22 cd22 ct22 : Value}
    {f23 : Addr} {od23 an23 : Option Addr} {sl23 : Array (Option Value)} {oc23 kV23 dc23 pm23 cd23 ct23 : Value}
    {f24 : Addr} {od24 an24 : Option Addr} {sl24 : Array (Option Value)} {oc24 kV24 dc24 pm24 cd24 ct24 : Value}
    {f25 : Addr} {od25 an25 : Option Addr} {sl25 : Array (Option Value)} {oc25 kV25 dc25 pm25 cd25 ct25 : Value}
    {f26 : Addr} {od26 an26 : Option Addr} {sl26 : Array (Option Value)} {oc26 kV26 dc26 pm26 cd26 ct26 : Value}
    {f27 : Addr} {od27 an27 : Option Addr} {sl27 : Array (Option Value)} {oc27 kV27 dc27 pm27 cd27 ct27 : Value}
    {f28 : Addr} {od28 an28 : Option Addr} {sl28 : Array (Option Value)} {oc28 kV28 dc28 pm28 cd28 ct28 : Value}
    {f29 : Addr} {od29 an29 : Option Addr} {sl29 : Array (Option Value)} {oc29 kV29 dc29 pm29 cd29 ct29 : Value}
    {f30 : Addr} {od30 an30 : Option Addr} {sl30 : Array (Option Value)} {oc30 kV30 dc30 pm30 cd30 ct30 : Value}
    {f31 : Addr} {od31 an31 : Option Addr} {sl31 : Array (Option Value)} {oc31 kV31 dc31 pm31 cd31 ct31 : Value}
    {f32 : Addr} {od32 an32 : Option Addr} {sl32 : Array (Option Value)} {oc32 kV32 dc32 pm32 cd32 ct32 : Value}
    {f33 : Addr} {od33 an33 : Option Addr} {sl33 : Array (Option Value)} {oc33 kV33 dc33 pm33 cd33 ct33 : Value}
    {f34 : Addr} {od34 an34 : Option Addr} {sl34 : Array (Option Value)} {oc34 kV34 dc34 pm34 cd34 ct34 : Value}
    {f35 : Addr} {od35 an35 : Option Addr} {sl35 : Array (Option Value)} {oc35 kV35 dc35 pm35 cd35 ct35 : Value}
    {f36 : Addr} {od36 an36 : Option Addr} {sl36 : Array (Option Value)} {oc36 kV36 dc36 pm36 cd36 ct36 : Value}
    {f37 : Addr} {od37 an37 : Option Addr} {sl37 : Array (Option Value)} {oc37 kV37 dc37 pm37 cd37 ct37 : Value}
    {f38 : Addr} {od38 an38 : Option Addr} {sl38 : Array (Option Value)} {oc38 kV38 dc38 pm38 cd38 ct38 : Value}
    {f39 : Addr} {od39 an39 : Option Addr} {sl39 : Array (Option Value)} {oc39 kV39 dc39 pm39 cd39 ct39 : Value}
    {f_LI : Addr} {od_LI an_LI : Option Addr} {sl_LI : Array (Option Value)} {oc_LI kV_LI dc_LI pm_LI cd_LI ct_LI : Value} {TD : Addr} {dT : Option Addr} {slT : Array (Option Value)} {cT : Value} {nT : Nat}
    {f_RI : Addr} {od_RI an_RI : Option Addr} {sl_RI : Array (Option Value)} {oc_RI kV_RI dc_RI pm_RI cd_RI ct_RI : Value}
    {f_HI : Addr} {od_HI an_HI : Option Addr} {sl_HI : Array (Option Value)} {oc_HI kV_HI dc_HI pm_HI cd_HI ct_HI : Value}
    {f_StI : Addr} {od_StI an_StI : Option Addr} {sl_StI : Array (Option Value)} {oc_StI kV_StI dc_StI pm_StI cd_StI ct_StI : Value}
    {f_StL : Addr} {od_StL an_StL : Option Addr} {sl_StL : Array (Option Value)} {oc_StL kV_StL dc_StL pm_StL cd_StL ct_StL : Value}
    {f_HoI : Addr} {od_HoI an_HoI : Option Addr} {sl_HoI : Array (Option Value)} {oc_HoI kV_HoI dc_HoI pm_HoI cd_HoI ct_HoI : Value}
    {f_HoW : Addr} {od_HoW an_HoW : Option Addr} {sl_HoW : Array (Option Value)} {oc_HoW kV_HoW dc_HoW pm_HoW cd_HoW ct_HoW : Value}
    {f_HoL : Addr} {od_HoL an_HoL : Option Addr} {sl_HoL : Array (Option Value)} {oc_HoL kV_HoL dc_HoL pm_HoL cd_HoL ct_HoL : Value}
    {f_HoB : Addr} {od_HoB an_HoB : Option Addr} {sl_HoB : Array (Option Value)} {oc_HoB kV_HoB dc_HoB pm_HoB cd_HoB ct_HoB : Value}
    {f_EvI : Addr} {od_EvI an_EvI : Option Addr} {sl_EvI : Array (Option Value)} {oc_EvI kV_EvI dc_EvI pm_EvI cd_EvI ct_EvI : Value}
    {f_EvW : Addr} {od_EvW an_EvW : Option Addr} {sl_EvW : Array (Option Value)} {oc_EvW kV_EvW dc_EvW pm_EvW cd_EvW ct_EvW : Value}
    {f_EvB : Addr} {od_EvB an_EvB : Option Addr} {sl_EvB : Array (Option Value)} {oc_EvB kV_EvB dc_EvB pm_EvB cd_EvB ct_EvB : Value}
    {f_OvI : Addr} {od_OvI an_OvI : Option Addr} {sl_OvI : Array (Option Value)} {oc_OvI kV_OvI dc_OvI pm_OvI cd_OvI ct_OvI : Value}
    {f_OvW : Addr} {od_OvW an_OvW : Option Addr} {sl_OvW : Array (Option Value)} {oc_OvW kV_OvW dc_OvW pm_OvW cd_OvW ct_OvW : Value}
    {f_OvB : Addr} {od_OvB an_OvB : Option Addr} {sl_OvB : Array (Option Value)} {oc_OvB kV_OvB dc_OvB pm_OvB cd_OvB ct_OvB : Value}
    {f_UnI : Addr} {od_UnI an_UnI : Option Addr} {sl_UnI : Array (Option Value)} {oc_UnI kV_UnI dc_UnI pm_UnI cd_UnI ct_UnI : Value}
    {f_UnW : Addr} {od_UnW an_UnW : Option Addr} {sl_UnW : Array (Option Value)} {oc_UnW kV_UnW dc_UnW pm_UnW cd_UnW ct_UnW : Value}
    {f_UnB : Addr} {od_UnB an_UnB : Option Addr} {sl_UnB : Array (Option Value)} {oc_UnB kV_UnB dc_UnB pm_UnB cd_UnB ct_UnB : Value}
    {f_OsI : Addr} {od_OsI an_OsI : Option Addr} {sl_OsI : Array (Option Value)} {oc_OsI kV_OsI dc_OsI pm_OsI cd_OsI ct_OsI : Value}
    {f_OsW : Addr} {od_OsW an_OsW : Option Addr} {sl_OsW : Array (Option Value)} {oc_OsW kV_OsW dc_OsW pm_OsW cd_OsW ct_OsW : Value}
    {f_OsL : Addr} {od_OsL an_OsL : Option Addr} {sl_OsL : Array (Option Value)} {oc_OsL kV_OsL dc_OsL pm_OsL cd_OsL ct_OsL : Value}
    {f_OsB : Addr} {od_OsB an_OsB : Option Addr} {sl_OsB : Array (Option Value)} {oc_OsB kV_OsB dc_OsB pm_OsB cd_OsB ct_OsB : Value}
    {f_UsI : Addr} {od_UsI an_UsI : Option Addr} {sl_UsI : Array (Option Value)} {oc_UsI kV_UsI dc_UsI pm_UsI cd_UsI ct_UsI : Value}
    {f_UsW : Addr} {od_UsW an_UsW : Option Addr} {sl_UsW : Array (Option Value)} {oc_UsW kV_UsW dc_UsW pm_UsW cd_UsW ct_UsW : Value}
    {f_UsL : Addr} {od_UsL an_UsL : Option Addr} {sl_UsL : Array (Option Value)} {oc_UsL kV_UsL dc_UsL pm_UsL cd_UsL ct_UsL : Value}
    {f_UsB : Addr} {od_UsB an_UsB : Option Addr} {sl_UsB : Array (Option Value)} {oc_UsB kV_UsB dc_UsB pm_UsB cd_UsB ct_UsB : Value}
     {t_MOST_PIECES : Tok}
    (a_L : PySem.W.nsIn K mainGlobals "Line" = some (some (.ref C)))
    (a_R : PySem.W.nsIn K mainGlobals "Rest" = some (some (.ref CR)))
    (a_H : PySem.W.nsIn K mainGlobals "Chart" = some (some (.ref CH)))
    (a_St : PySem.W.nsIn K mainGlobals "Step" = some (some (.ref CSt)))
    (a_Ho : PySem.W.nsIn K mainGlobals "Home" = some (some (.ref CHo)))
    (a_Ev : PySem.W.nsIn K mainGlobals "Even" = some (some (.ref CEv)))
    (a_Ov : PySem.W.nsIn K mainGlobals "Over" = some (some (.ref COv)))
    (a_Un : PySem.W.nsIn K mainGlobals "Under" = some (some (.ref CUn)))
    (a_Os : PySem.W.nsIn K mainGlobals "Overs" = some (some (.ref COs)))
    (a_Us : PySem.W.nsIn K mainGlobals "Unders" = some (some (.ref CUs)))
    (a0 : PySem.W.nsIn K mainGlobals "refuse_lengths" = some (some (.ref f0))) (l0 : K.lookup f0 = some ⟨oc0, od0, .func (PySem.W.fnOf "refuse_lengths" "refuse_lengths" (Jf sRefL) (Je sRefL) (J2 sRefL) .none kV0 dc0 pm0 an0 cd0 ct0), sl0⟩) (c0 : PySem.W.codeIn K cd0 "refuse_lengths" = true) (k0 : PySem.W.keepIn K (.ref f0) = true)
    (a1 : PySem.W.nsIn K mainGlobals "refuse_order" = some (some (.ref f1))) (l1 : K.lookup f1 = some ⟨oc1, od1, .func (PySem.W.fnOf "refuse_order" "refuse_order" (Jf sRefO) (Je sRefO) (J2 sRefO) .none kV1 dc1 pm1 an1 cd1 ct1), sl1⟩) (c1 : PySem.W.codeIn K cd1 "refuse_order" = true) (k1 : PySem.W.keepIn K (.ref f1) = true)
    (a2 : PySem.W.nsIn K mainGlobals "refuse_turned" = some (some (.ref f2))) (l2 : K.lookup f2 = some ⟨oc2, od2, .func (PySem.W.fnOf "refuse_turned" "refuse_turned" (Jf sRefT) (Je sRefT) (J2 sRefT) .none kV2 dc2 pm2 an2 cd2 ct2), sl2⟩) (c2 : PySem.W.codeIn K cd2 "refuse_turned" = true) (k2 : PySem.W.keepIn K (.ref f2) = true)
    (a3 : PySem.W.nsIn K mainGlobals "turns_told" = some (some (.ref f3))) (l3 : K.lookup f3 = some ⟨oc3, od3, .func (PySem.W.fnOf "turns_told" "turns_told" (Jf sTold) (Je sTold) (J2 sTold) .none kV3 dc3 pm3 an3 cd3 ct3), sl3⟩) (c3 : PySem.W.codeIn K cd3 "turns_told" = true) (k3 : PySem.W.keepIn K (.ref f3) = true)
    (a4 : PySem.W.nsIn K mainGlobals "first_places" = some (some (.ref f4))) (l4 : K.lookup f4 = some ⟨oc4, od4, .func (PySem.W.fnOf "first_places" "first_places" (Jf sFirst) (Je sFirst) (J2 sFirst) .none kV4 dc4 pm4 an4 cd4 ct4), sl4⟩) (c4 : PySem.W.codeIn K cd4 "first_places" = true) (k4 : PySem.W.keepIn K (.ref f4) = true)
    (a5 : PySem.W.nsIn K mainGlobals "length_of" = some (some (.ref f5))) (l5 : K.lookup f5 = some ⟨oc5, od5, .func (PySem.W.fnOf "length_of" "length_of" (Jf sLenOf) (Je sLenOf) (J2 sLenOf) .none kV5 dc5 pm5 an5 cd5 ct5), sl5⟩) (c5 : PySem.W.codeIn K cd5 "length_of" = true) (k5 : PySem.W.keepIn K (.ref f5) = true)
    (a6 : PySem.W.nsIn K mainGlobals "rest_of" = some (some (.ref f6))) (l6 : K.lookup f6 = some ⟨oc6, od6, .func (PySem.W.fnOf "rest_of" "rest_of" (Jf J54) (Je J54) (J2 J54) .none kV6 dc6 pm6 an6 cd6 ct6), sl6⟩) (c6 : PySem.W.codeIn K cd6 "rest_of" = true) (k6 : PySem.W.keepIn K (.ref f6) = true)
    (a7 : PySem.W.nsIn K mainGlobals "without" = some (some (.ref f7))) (l7 : K.lookup f7 = some ⟨oc7, od7, .func (PySem.W.fnOf "without" "without" (Jf J3t) (Je J3t) (J2 J3t) .none kV7 dc7 pm7 an7 cd7 ct7), sl7⟩) (c7 : PySem.W.codeIn K cd7 "without" = true) (k7 : PySem.W.keepIn K (.ref f7) = true)
    (a8 : PySem.W.nsIn K mainGlobals "letters_behind" = some (some (.ref f8))) (l8 : K.lookup f8 = some ⟨oc8, od8, .func (PySem.W.fnOf "letters_behind" "letters_behind" (Jf J3x) (Je J3x) (J2 J3x) .none kV8 dc8 pm8 an8 cd8 ct8), sl8⟩) (c8 : PySem.W.codeIn K cd8 "letters_behind" = true) (k8 : PySem.W.keepIn K (.ref f8) = true)
    (a9 : PySem.W.nsIn K mainGlobals "put_beside" = some (some (.ref f9))) (l9 : K.lookup f9 = some ⟨oc9, od9, .func (PySem.W.fnOf "put_beside" "put_beside" (Jf sPut) (Je sPut) (J2 sPut) .none kV9 dc9 pm9 an9 cd9 ct9), sl9⟩) (c9 : PySem.W.codeIn K cd9 "put_beside" = true) (k9 : PySem.W.keepIn K (.ref f9) = true)
    (a10 : PySem.W.nsIn K mainGlobals "changed" = some (some (.ref f10))) (l10 : K.lookup f10 = some ⟨oc10, od10, .func (PySem.W.fnOf "changed" "changed" (Jf J3w) (Je J3w) (J2 J3w) .none kV10 dc10 pm10 an10 cd10 ct10), sl10⟩) (c10 : PySem.W.codeIn K cd10 "changed" = true) (k10 : PySem.W.keepIn K (.ref f10) = true)
    (a11 : PySem.W.nsIn K mainGlobals "shortened" = some (some (.ref f11))) (l11 : K.lookup f11 = some ⟨oc11, od11, .func (PySem.W.fnOf "shortened" "shortened" (Jf sShort) (Je sShort) (J2 sShort) .none kV11 dc11 pm11 an11 cd11 ct11), sl11⟩) (c11 : PySem.W.codeIn K cd11 "shortened" = true) (k11 : PySem.W.keepIn K (.ref f11) = true)
    (a12 : PySem.W.nsIn K mainGlobals "turns_behind" = some (some (.ref f12))) (l12 : K.lookup f12 = some ⟨oc12, od12, .func (PySem.W.fnOf "turns_behind" "turns_behind" (Jf J52) (Je J52) (J2 J52) .none kV12 dc12 pm12 an12 cd12 ct12), sl12⟩) (c12 : PySem.W.codeIn K cd12 "turns_behind" = true) (k12 : PySem.W.keepIn K (.ref f12) = true)
    (a13 : PySem.W.nsIn K mainGlobals "whole_times" = some (some (.ref f13))) (l13 : K.lookup f13 = some ⟨oc13, od13, .func (PySem.W.fnOf "whole_times" "whole_times" (Jf sTimes) (Je sTimes) (J2 sTimes) .none kV13 dc13 pm13 an13 cd13 ct13), sl13⟩) (c13 : PySem.W.codeIn K cd13 "whole_times" = true) (k13 : PySem.W.keepIn K (.ref f13) = true)
    (a14 : PySem.W.nsIn K mainGlobals "over_step" = some (some (.ref f14))) (l14 : K.lookup f14 = some ⟨oc14, od14, .func (PySem.W.fnOf "over_step" "over_step" (Jf sOverS) (Je sOverS) (J2 sOverS) .none kV14 dc14 pm14 an14 cd14 ct14), sl14⟩) (c14 : PySem.W.codeIn K cd14 "over_step" = true) (k14 : PySem.W.keepIn K (.ref f14) = true)
    (a15 : PySem.W.nsIn K mainGlobals "under_step" = some (some (.ref f15))) (l15 : K.lookup f15 = some ⟨oc15, od15, .func (PySem.W.fnOf "under_step" "under_step" (Jf J4z) (Je J4z) (J2 J4z) .none kV15 dc15 pm15 an15 cd15 ct15), sl15⟩) (c15 : PySem.W.codeIn K cd15 "under_step" = true) (k15 : PySem.W.keepIn K (.ref f15) = true)
    (a16 : PySem.W.nsIn K mainGlobals "next_step" = some (some (.ref f16))) (l16 : K.lookup f16 = some ⟨oc16, od16, .func (PySem.W.fnOf "next_step" "next_step" (Jf sNext) (Je sNext) (J2 sNext) .none kV16 dc16 pm16 an16 cd16 ct16), sl16⟩) (c16 : PySem.W.codeIn K cd16 "next_step" = true) (k16 : PySem.W.keepIn K (.ref f16) = true)
    (a17 : PySem.W.nsIn K mainGlobals "first_towers" = some (some (.ref f17))) (l17 : K.lookup f17 = some ⟨oc17, od17, .func (PySem.W.fnOf "first_towers" "first_towers" (Jf J5e) (Je J5e) (J2 J5e) .none kV17 dc17 pm17 an17 cd17 ct17), sl17⟩) (c17 : PySem.W.codeIn K cd17 "first_towers" = true) (k17 : PySem.W.keepIn K (.ref f17) = true)
    (a18 : PySem.W.nsIn K mainGlobals "towers_behind" = some (some (.ref f18))) (l18 : K.lookup f18 = some ⟨oc18, od18, .func (PySem.W.fnOf "towers_behind" "towers_behind" (Jf sTowB) (Je sTowB) (J2 sTowB) .none kV18 dc18 pm18 an18 cd18 ct18), sl18⟩) (c18 : PySem.W.codeIn K cd18 "towers_behind" = true) (k18 : PySem.W.keepIn K (.ref f18) = true)
    (a19 : PySem.W.nsIn K mainGlobals "bands_left" = some (some (.ref f19))) (l19 : K.lookup f19 = some ⟨oc19, od19, .func (PySem.W.fnOf "bands_left" "bands_left" (Jf J5j) (Je J5j) (J2 J5j) .none kV19 dc19 pm19 an19 cd19 ct19), sl19⟩) (c19 : PySem.W.codeIn K cd19 "bands_left" = true) (k19 : PySem.W.keepIn K (.ref f19) = true)
    (a20 : PySem.W.nsIn K mainGlobals "may_home" = some (some (.ref f20))) (l20 : K.lookup f20 = some ⟨oc20, od20, .func (PySem.W.fnOf "may_home" "may_home" (Jf sMayHo) (Je sMayHo) (J2 sMayHo) .none kV20 dc20 pm20 an20 cd20 ct20), sl20⟩) (c20 : PySem.W.codeIn K cd20 "may_home" = true) (k20 : PySem.W.keepIn K (.ref f20) = true)
    (a21 : PySem.W.nsIn K mainGlobals "ends_are" = some (some (.ref f21))) (l21 : K.lookup f21 = some ⟨oc21, od21, .func (PySem.W.fnOf "ends_are" "ends_are" (Jf sEnds) (Je sEnds) (J2 sEnds) .none kV21 dc21 pm21 an21 cd21 ct21), sl21⟩) (c21 : PySem.W.codeIn K cd21 "ends_are" = true) (k21 : PySem.W.keepIn K (.ref f21) = true)
    (a22 : PySem.W.nsIn K mainGlobals "may_even" = some (some (.ref f22))) (l22 : K.lookup f22 = some ⟨oc22, od22, .func (PySem.W.fnOf "may_even" "may_even" (Jf sMayEv) (Je sMayEv) (J2 sMayEv) .none kV22 dc22 pm22 an22 cd22 ct22), sl22⟩) (c22 : PySem.W.codeIn K cd22 "may_even" = true) (k22 : PySem.W.keepIn K (.ref f22) = true)
    (a23 : PySem.W.nsIn K mainGlobals "may_over" = some (some (.ref f23))) (l23 : K.lookup f23 = some ⟨oc23, od23, .func (PySem.W.fnOf "may_over" "may_over" (Jf sMayOv) (Je sMayOv) (J2 sMayOv) .none kV23 dc23 pm23 an23 cd23 ct23), sl23⟩) (c23 : PySem.W.codeIn K cd23 "may_over" = true) (k23 : PySem.W.keepIn K (.ref f23) = true)
    (a24 : PySem.W.nsIn K mainGlobals "may_under" = some (some (.ref f24))) (l24 : K.lookup f24 = some ⟨oc24, od24, .func (PySem.W.fnOf "may_under" "may_under" (Jf sMayUn) (Je sMayUn) (J2 sMayUn) .none kV24 dc24 pm24 an24 cd24 ct24), sl24⟩) (c24 : PySem.W.codeIn K cd24 "may_under" = true) (k24 : PySem.W.keepIn K (.ref f24) = true)
    (a25 : PySem.W.nsIn K mainGlobals "may_overs" = some (some (.ref f25))) (l25 : K.lookup f25 = some ⟨oc25, od25, .func (PySem.W.fnOf "may_overs" "may_overs" (Jf sMayOs) (Je sMayOs) (J2 sMayOs) .none kV25 dc25 pm25 an25 cd25 ct25), sl25⟩) (c25 : PySem.W.codeIn K cd25 "may_overs" = true) (k25 : PySem.W.keepIn K (.ref f25) = true)
    (a26 : PySem.W.nsIn K mainGlobals "may_unders" = some (some (.ref f26))) (l26 : K.lookup f26 = some ⟨oc26, od26, .func (PySem.W.fnOf "may_unders" "may_unders" (Jf sMayUs) (Je sMayUs) (J2 sMayUs) .none kV26 dc26 pm26 an26 cd26 ct26), sl26⟩) (c26 : PySem.W.codeIn K cd26 "may_unders" = true) (k26 : PySem.W.keepIn K (.ref f26) = true)
    (a27 : PySem.W.nsIn K mainGlobals "step_of_row" = some (some (.ref f27))) (l27 : K.lookup f27 = some ⟨oc27, od27, .func (PySem.W.fnOf "step_of_row" "step_of_row" (Jf J3u) (Je J3u) (J2 J3u) .none kV27 dc27 pm27 an27 cd27 ct27), sl27⟩) (c27 : PySem.W.codeIn K cd27 "step_of_row" = true) (k27 : PySem.W.keepIn K (.ref f27) = true)
    (a28 : PySem.W.nsIn K mainGlobals "bands_led" = some (some (.ref f28))) (l28 : K.lookup f28 = some ⟨oc28, od28, .func (PySem.W.fnOf "bands_led" "bands_led" (Jf J32) (Je J32) (J2 J32) .none kV28 dc28 pm28 an28 cd28 ct28), sl28⟩) (c28 : PySem.W.codeIn K cd28 "bands_led" = true) (k28 : PySem.W.keepIn K (.ref f28) = true)
    (a29 : PySem.W.nsIn K mainGlobals "examined" = some (some (.ref f29))) (l29 : K.lookup f29 = some ⟨oc29, od29, .func (PySem.W.fnOf "examined" "examined" (Jf sExam) (Je sExam) (J2 sExam) .none kV29 dc29 pm29 an29 cd29 ct29), sl29⟩) (c29 : PySem.W.codeIn K cd29 "examined" = true) (k29 : PySem.W.keepIn K (.ref f29) = true)
    (a30 : PySem.W.nsIn K mainGlobals "_law_cell" = some (some (.ref f30))) (l30 : K.lookup f30 = some ⟨oc30, od30, .func (PySem.W.fnOf "_law_cell" "_law_cell" (Jf sCell) (Je sCell) (J2 sCell) .none kV30 dc30 pm30 an30 cd30 ct30), sl30⟩) (c30 : PySem.W.codeIn K cd30 "_law_cell" = true) (k30 : PySem.W.keepIn K (.ref f30) = true)
    (a31 : PySem.W.nsIn K mainGlobals "_law_drawn" = some (some (.ref f31))) (l31 : K.lookup f31 = some ⟨oc31, od31, .func (PySem.W.fnOf "_law_drawn" "_law_drawn" (Jf J5h) (Je J5h) (J2 J5h) .none kV31 dc31 pm31 an31 cd31 ct31), sl31⟩) (c31 : PySem.W.codeIn K cd31 "_law_drawn" = true) (k31 : PySem.W.keepIn K (.ref f31) = true)
    (a32 : PySem.W.nsIn K mainGlobals "_law_begun" = some (some (.ref f32))) (l32 : K.lookup f32 = some ⟨oc32, od32, .func (PySem.W.fnOf "_law_begun" "_law_begun" (Jf sBegun) (Je sBegun) (J2 sBegun) .none kV32 dc32 pm32 an32 cd32 ct32), sl32⟩) (c32 : PySem.W.codeIn K cd32 "_law_begun" = true) (k32 : PySem.W.keepIn K (.ref f32) = true)
    (a33 : PySem.W.nsIn K mainGlobals "_law_behind" = some (some (.ref f33))) (l33 : K.lookup f33 = some ⟨oc33, od33, .func (PySem.W.fnOf "_law_behind" "_law_behind" (Jf J3v) (Je J3v) (J2 J3v) .none kV33 dc33 pm33 an33 cd33 ct33), sl33⟩) (c33 : PySem.W.codeIn K cd33 "_law_behind" = true) (k33 : PySem.W.keepIn K (.ref f33) = true)
    (a34 : PySem.W.nsIn K mainGlobals "_law_turns" = some (some (.ref f34))) (l34 : K.lookup f34 = some ⟨oc34, od34, .func (PySem.W.fnOf "_law_turns" "_law_turns" (Jf J5b) (Je J5b) (J2 J5b) .none kV34 dc34 pm34 an34 cd34 ct34), sl34⟩) (c34 : PySem.W.codeIn K cd34 "_law_turns" = true) (k34 : PySem.W.keepIn K (.ref f34) = true)
    (a35 : PySem.W.nsIn K mainGlobals "_law_paired" = some (some (.ref f35))) (l35 : K.lookup f35 = some ⟨oc35, od35, .func (PySem.W.fnOf "_law_paired" "_law_paired" (Jf J55) (Je J55) (J2 J55) .none kV35 dc35 pm35 an35 cd35 ct35), sl35⟩) (c35 : PySem.W.codeIn K cd35 "_law_paired" = true) (k35 : PySem.W.keepIn K (.ref f35) = true)
    (a36 : PySem.W.nsIn K mainGlobals "_law_step" = some (some (.ref f36))) (l36 : K.lookup f36 = some ⟨oc36, od36, .func (PySem.W.fnOf "_law_step" "_law_step" (Jf sLStep) (Je sLStep) (J2 sLStep) .none kV36 dc36 pm36 an36 cd36 ct36), sl36⟩) (c36 : PySem.W.codeIn K cd36 "_law_step" = true) (k36 : PySem.W.keepIn K (.ref f36) = true)
    (a37 : PySem.W.nsIn K mainGlobals "_law_next" = some (some (.ref f37))) (l37 : K.lookup f37 = some ⟨oc37, od37, .func (PySem.W.fnOf "_law_next" "_law_next" (Jf sLNext) (Je sLNext) (J2 sLNext) .none kV37 dc37 pm37 an37 cd37 ct37), sl37⟩) (c37 : PySem.W.codeIn K cd37 "_law_next" = true) (k37 : PySem.W.keepIn K (.ref f37) = true)
    (a38 : PySem.W.nsIn K mainGlobals "_law_other" = some (some (.ref f38))) (l38 : K.lookup f38 = some ⟨oc38, od38, .func (PySem.W.fnOf "_law_other" "_law_other" (Jf J58) (Je J58) (J2 J58) .none kV38 dc38 pm38 an38 cd38 ct38), sl38⟩) (c38 : PySem.W.codeIn K cd38 "_law_other" = true) (k38 : PySem.W.keepIn K (.ref f38) = true)
    (a39 : PySem.W.nsIn K mainGlobals "law" = some (some (.ref f39))) (l39 : K.lookup f39 = some ⟨oc39, od39, .func (PySem.W.fnOf "law" "law" (Jf sLaw) (Je sLaw) (J2 sLaw) .none kV39 dc39 pm39 an39 cd39 ct39), sl39⟩) (c39 : PySem.W.codeIn K cd39 "law" = true) (k39 : PySem.W.keepIn K (.ref f39) = true)
    (am_LI : PySem.W.findIn K (.ref C) "__init__" = some (some (.ref f_LI))) (im_LI : PySem.W.isFn K (.ref f_LI) = true) (lm_LI : K.lookup f_LI = some ⟨oc_LI, od_LI, .func (PySem.W.fnOf "__init__" "Line.__init__" (Jf sInit) (Je sInit) (J2 sInit) (.ref TD) kV_LI dc_LI pm_LI an_LI cd_LI ct_LI), sl_LI⟩) (cm_LI : PySem.W.codeIn K cd_LI "Line.__init__" = true) (km_LI : PySem.W.keepIn K (.ref f_LI) = true)
    (lT : K.lookup TD = some ⟨cT, dT, .seq #[.none] nT, slT⟩)
    (pg_L : PySem.W.plainGet K C Str.empty = true) (hd_L : PySem.W.hasDictIn K C = true) (po_L : PySem.W.plainOver K C = true) (sa_L : PySem.W.findIn K (.ref C) "__setattr__" = some (some (.builtin "object.__setattr__")))
    (mk_L : PySem.W.makesIn K C = true) (kc_L : PySem.W.keepIn K (.ref C) = true)
    (n_L_lengths : PySem.W.findIn K (.ref C) "lengths" = some none)
    (n_L_order : PySem.W.findIn K (.ref C) "order" = some none)
    (n_L_turned : PySem.W.findIn K (.ref C) "turned" = some none)
    (n_L_starts : PySem.W.findIn K (.ref C) "starts" = some none)
    (n_L_laid : PySem.W.findIn K (.ref C) "laid" = some none)
    (n_L_size : PySem.W.findIn K (.ref C) "size" = some none)
    (am_RI : PySem.W.findIn K (.ref CR) "__init__" = some (some (.ref f_RI))) (im_RI : PySem.W.isFn K (.ref f_RI) = true) (lm_RI : K.lookup f_RI = some ⟨oc_RI, od_RI, .func (PySem.W.fnOf "__init__" "Rest.__init__" (Jf sRInit) (Je sRInit) (J2 sRInit) .none kV_RI dc_RI pm_RI an_RI cd_RI ct_RI), sl_RI⟩) (cm_RI : PySem.W.codeIn K cd_RI "Rest.__init__" = true) (km_RI : PySem.W.keepIn K (.ref f_RI) = true)
    (pg_R : PySem.W.plainGet K CR Str.empty = true) (hd_R : PySem.W.hasDictIn K CR = true) (po_R : PySem.W.plainOver K CR = true) (sa_R : PySem.W.findIn K (.ref CR) "__setattr__" = some (some (.builtin "object.__setattr__")))
    (mk_R : PySem.W.makesIn K CR = true) (kc_R : PySem.W.keepIn K (.ref CR) = true)
    (n_R_top : PySem.W.findIn K (.ref CR) "top" = some none)
    (n_R_bottom : PySem.W.findIn K (.ref CR) "bottom" = some none)
    (n_R_lengths : PySem.W.findIn K (.ref CR) "lengths" = some none)
    (n_R_turned : PySem.W.findIn K (.ref CR) "turned" = some none)
    (n_R_size : PySem.W.findIn K (.ref CR) "size" = some none)
    (ic_R : PySem.W.findIn K (.ref CR) "__class__" = some (some (.builtin "object.__class__"))) (mo_R : PySem.W.mroIn K CR (.type "object") = some true)
    (am_HI : PySem.W.findIn K (.ref CH) "__init__" = some (some (.ref f_HI))) (im_HI : PySem.W.isFn K (.ref f_HI) = true) (lm_HI : K.lookup f_HI = some ⟨oc_HI, od_HI, .func (PySem.W.fnOf "__init__" "Chart.__init__" (Jf J5i) (Je J5i) (J2 J5i) .none kV_HI dc_HI pm_HI an_HI cd_HI ct_HI), sl_HI⟩) (cm_HI : PySem.W.codeIn K cd_HI "Chart.__init__" = true) (km_HI : PySem.W.keepIn K (.ref f_HI) = true)
    (pg_H : PySem.W.plainGet K CH Str.empty = true) (hd_H : PySem.W.hasDictIn K CH = true) (po_H : PySem.W.plainOver K CH = true) (sa_H : PySem.W.findIn K (.ref CH) "__setattr__" = some (some (.builtin "object.__setattr__")))
    (mk_H : PySem.W.makesIn K CH = true) (kc_H : PySem.W.keepIn K (.ref CH) = true)
    (n_H_line : PySem.W.findIn K (.ref CH) "line" = some none)
    (n_H_rests : PySem.W.findIn K (.ref CH) "rests" = some none)
    (n_H_steps : PySem.W.findIn K (.ref CH) "steps" = some none)
    (n_H_towers : PySem.W.findIn K (.ref CH) "towers" = some none)
    (n_H_bands : PySem.W.findIn K (.ref CH) "bands" = some none)
    (am_StI : PySem.W.findIn K (.ref CSt) "__init__" = some (some (.ref f_StI))) (im_StI : PySem.W.isFn K (.ref f_StI) = true) (lm_StI : K.lookup f_StI = some ⟨oc_StI, od_StI, .func (PySem.W.fnOf "__init__" "Step.__init__" (Jf J53) (Je J53) (J2 J53) .none kV_StI dc_StI pm_StI an_StI cd_StI ct_StI), sl_StI⟩) (cm_StI : PySem.W.codeIn K cd_StI "Step.__init__" = true) (km_StI : PySem.W.keepIn K (.ref f_StI) = true)
    (am_StL : PySem.W.findIn K (.ref CSt) "losers" = some (some (.ref f_StL))) (im_StL : PySem.W.isFn K (.ref f_StL) = true) (lm_StL : K.lookup f_StL = some ⟨oc_StL, od_StL, .func (PySem.W.fnOf "losers" "Step.losers" (Jf J2v) (Je J2v) (J2 J2v) .none kV_StL dc_StL pm_StL an_StL cd_StL ct_StL), sl_StL⟩) (cm_StL : PySem.W.codeIn K cd_StL "Step.losers" = true) (km_StL : PySem.W.keepIn K (.ref f_StL) = true)
    (pg_St : PySem.W.plainGet K CSt Str.empty = true) (hd_St : PySem.W.hasDictIn K CSt = true) (po_St : PySem.W.plainOver K CSt = true) (sa_St : PySem.W.findIn K (.ref CSt) "__setattr__" = some (some (.builtin "object.__setattr__")))
    (am_HoI : PySem.W.findIn K (.ref CHo) "__init__" = some (some (.ref f_HoI))) (im_HoI : PySem.W.isFn K (.ref f_HoI) = true) (lm_HoI : K.lookup f_HoI = some ⟨oc_HoI, od_HoI, .func (PySem.W.fnOf "__init__" "Home.__init__" (Jf J5d) (Je J5d) (J2 J5d) .none kV_HoI dc_HoI pm_HoI an_HoI cd_HoI ct_HoI), sl_HoI⟩) (cm_HoI : PySem.W.codeIn K cd_HoI "Home.__init__" = true) (km_HoI : PySem.W.keepIn K (.ref f_HoI) = true)
    (am_HoW : PySem.W.findIn K (.ref CHo) "word" = some (some (.ref f_HoW))) (im_HoW : PySem.W.isFn K (.ref f_HoW) = true) (lm_HoW : K.lookup f_HoW = some ⟨oc_HoW, od_HoW, .func (PySem.W.fnOf "word" "Home.word" (Jf J5c) (Je J5c) (J2 J5c) .none kV_HoW dc_HoW pm_HoW an_HoW cd_HoW ct_HoW), sl_HoW⟩) (cm_HoW : PySem.W.codeIn K cd_HoW "Home.word" = true) (km_HoW : PySem.W.keepIn K (.ref f_HoW) = true)
    (am_HoL : PySem.W.findIn K (.ref CHo) "losers" = some (some (.ref f_HoL))) (im_HoL : PySem.W.isFn K (.ref f_HoL) = true) (lm_HoL : K.lookup f_HoL = some ⟨oc_HoL, od_HoL, .func (PySem.W.fnOf "losers" "Home.losers" (Jf J2z) (Je J2z) (J2 J2z) .none kV_HoL dc_HoL pm_HoL an_HoL cd_HoL ct_HoL), sl_HoL⟩) (cm_HoL : PySem.W.codeIn K cd_HoL "Home.losers" = true) (km_HoL : PySem.W.keepIn K (.ref f_HoL) = true)
    (am_HoB : PySem.W.findIn K (.ref CHo) "behind" = some (some (.ref f_HoB))) (im_HoB : PySem.W.isFn K (.ref f_HoB) = true) (lm_HoB : K.lookup f_HoB = some ⟨oc_HoB, od_HoB, .func (PySem.W.fnOf "behind" "Home.behind" (Jf J30) (Je J30) (J2 J30) .none kV_HoB dc_HoB pm_HoB an_HoB cd_HoB ct_HoB), sl_HoB⟩) (cm_HoB : PySem.W.codeIn K cd_HoB "Home.behind" = true) (km_HoB : PySem.W.keepIn K (.ref f_HoB) = true)
    (pg_Ho : PySem.W.plainGet K CHo Str.empty = true) (hd_Ho : PySem.W.hasDictIn K CHo = true) (po_Ho : PySem.W.plainOver K CHo = true) (sa_Ho : PySem.W.findIn K (.ref CHo) "__setattr__" = some (some (.builtin "object.__setattr__")))
    (mk_Ho : PySem.W.makesIn K CHo = true) (kc_Ho : PySem.W.keepIn K (.ref CHo) = true)
    (n_Ho_winner : PySem.W.findIn K (.ref CHo) "winner" = some none)
    (n_Ho_loser : PySem.W.findIn K (.ref CHo) "loser" = some none)
    (n_Ho_times : PySem.W.findIn K (.ref CHo) "times" = some none)
    (ic_Ho : PySem.W.findIn K (.ref CHo) "__class__" = some (some (.builtin "object.__class__"))) (mo_Ho : PySem.W.mroIn K CHo (.type "object") = some true)
    (am_EvI : PySem.W.findIn K (.ref CEv) "__init__" = some (some (.ref f_EvI))) (im_EvI : PySem.W.isFn K (.ref f_EvI) = true) (lm_EvI : K.lookup f_EvI = some ⟨oc_EvI, od_EvI, .func (PySem.W.fnOf "__init__" "Even.__init__" (Jf J5g) (Je J5g) (J2 J5g) .none kV_EvI dc_EvI pm_EvI an_EvI cd_EvI ct_EvI), sl_EvI⟩) (cm_EvI : PySem.W.codeIn K cd_EvI "Even.__init__" = true) (km_EvI : PySem.W.keepIn K (.ref f_EvI) = true)
    (am_EvW : PySem.W.findIn K (.ref CEv) "word" = some (some (.ref f_EvW))) (im_EvW : PySem.W.isFn K (.ref f_EvW) = true) (lm_EvW : K.lookup f_EvW = some ⟨oc_EvW, od_EvW, .func (PySem.W.fnOf "word" "Even.word" (Jf J5f) (Je J5f) (J2 J5f) .none kV_EvW dc_EvW pm_EvW an_EvW cd_EvW ct_EvW), sl_EvW⟩) (cm_EvW : PySem.W.codeIn K cd_EvW "Even.word" = true) (km_EvW : PySem.W.keepIn K (.ref f_EvW) = true)
    (am_EvB : PySem.W.findIn K (.ref CEv) "behind" = some (some (.ref f_EvB))) (im_EvB : PySem.W.isFn K (.ref f_EvB) = true) (lm_EvB : K.lookup f_EvB = some ⟨oc_EvB, od_EvB, .func (PySem.W.fnOf "behind" "Even.behind" (Jf J31) (Je J31) (J2 J31) .none kV_EvB dc_EvB pm_EvB an_EvB cd_EvB ct_EvB), sl_EvB⟩) (cm_EvB : PySem.W.codeIn K cd_EvB "Even.behind" = true) (km_EvB : PySem.W.keepIn K (.ref f_EvB) = true)
    (ih_Ev_losers : PySem.W.findIn K (.ref CEv) "losers" = some (some (.ref f_StL)))
    (pg_Ev : PySem.W.plainGet K CEv Str.empty = true) (hd_Ev : PySem.W.hasDictIn K CEv = true) (po_Ev : PySem.W.plainOver K CEv = true) (sa_Ev : PySem.W.findIn K (.ref CEv) "__setattr__" = some (some (.builtin "object.__setattr__")))
    (mk_Ev : PySem.W.makesIn K CEv = true) (kc_Ev : PySem.W.keepIn K (.ref CEv) = true)
    (n_Ev_winner : PySem.W.findIn K (.ref CEv) "winner" = some none)
    (n_Ev_loser : PySem.W.findIn K (.ref CEv) "loser" = some none)
    (n_Ev_times : PySem.W.findIn K (.ref CEv) "times" = some none)
    (ic_Ev : PySem.W.findIn K (.ref CEv) "__class__" = some (some (.builtin "object.__class__"))) (mo_Ev : PySem.W.mroIn K CEv (.type "object") = some true)
    (am_OvI : PySem.W.findIn K (.ref COv) "__init__" = some (some (.ref f_OvI))) (im_OvI : PySem.W.isFn K (.ref f_OvI) = true) (lm_OvI : K.lookup f_OvI = some ⟨oc_OvI, od_OvI, .func (PySem.W.fnOf "__init__" "Over.__init__" (Jf J57) (Je J57) (J2 J57) .none kV_OvI dc_OvI pm_OvI an_OvI cd_OvI ct_OvI), sl_OvI⟩) (cm_OvI : PySem.W.codeIn K cd_OvI "Over.__init__" = true) (km_OvI : PySem.W.keepIn K (.ref f_OvI) = true)
    (am_OvW : PySem.W.findIn K (.ref COv) "word" = some (some (.ref f_OvW))) (im_OvW : PySem.W.isFn K (.ref f_OvW) = true) (lm_OvW : K.lookup f_OvW = some ⟨oc_OvW, od_OvW, .func (PySem.W.fnOf "word" "Over.word" (Jf J56) (Je J56) (J2 J56) .none kV_OvW dc_OvW pm_OvW an_OvW cd_OvW ct_OvW), sl_OvW⟩) (cm_OvW : PySem.W.codeIn K cd_OvW "Over.word" = true) (km_OvW : PySem.W.keepIn K (.ref f_OvW) = true)
    (am_OvB : PySem.W.findIn K (.ref COv) "behind" = some (some (.ref f_OvB))) (im_OvB : PySem.W.isFn K (.ref f_OvB) = true) (lm_OvB : K.lookup f_OvB = some ⟨oc_OvB, od_OvB, .func (PySem.W.fnOf "behind" "Over.behind" (Jf J2w) (Je J2w) (J2 J2w) .none kV_OvB dc_OvB pm_OvB an_OvB cd_OvB ct_OvB), sl_OvB⟩) (cm_OvB : PySem.W.codeIn K cd_OvB "Over.behind" = true) (km_OvB : PySem.W.keepIn K (.ref f_OvB) = true)
    (ih_Ov_losers : PySem.W.findIn K (.ref COv) "losers" = some (some (.ref f_StL)))
    (pg_Ov : PySem.W.plainGet K COv Str.empty = true) (hd_Ov : PySem.W.hasDictIn K COv = true) (po_Ov : PySem.W.plainOver K COv = true) (sa_Ov : PySem.W.findIn K (.ref COv) "__setattr__" = some (some (.builtin "object.__setattr__")))
    (mk_Ov : PySem.W.makesIn K COv = true) (kc_Ov : PySem.W.keepIn K (.ref COv) = true)
    (n_Ov_winner : PySem.W.findIn K (.ref COv) "winner" = some none)
    (n_Ov_loser : PySem.W.findIn K (.ref COv) "loser" = some none)
    (n_Ov_times : PySem.W.findIn K (.ref COv) "times" = some none)
    (ic_Ov : PySem.W.findIn K (.ref COv) "__class__" = some (some (.builtin "object.__class__"))) (mo_Ov : PySem.W.mroIn K COv (.type "object") = some true)
    (am_UnI : PySem.W.findIn K (.ref CUn) "__init__" = some (some (.ref f_UnI))) (im_UnI : PySem.W.isFn K (.ref f_UnI) = true) (lm_UnI : K.lookup f_UnI = some ⟨oc_UnI, od_UnI, .func (PySem.W.fnOf "__init__" "Under.__init__" (Jf J51) (Je J51) (J2 J51) .none kV_UnI dc_UnI pm_UnI an_UnI cd_UnI ct_UnI), sl_UnI⟩) (cm_UnI : PySem.W.codeIn K cd_UnI "Under.__init__" = true) (km_UnI : PySem.W.keepIn K (.ref f_UnI) = true)
    (am_UnW : PySem.W.findIn K (.ref CUn) "word" = some (some (.ref f_UnW))) (im_UnW : PySem.W.isFn K (.ref f_UnW) = true) (lm_UnW : K.lookup f_UnW = some ⟨oc_UnW, od_UnW, .func (PySem.W.fnOf "word" "Under.word" (Jf J50) (Je J50) (J2 J50) .none kV_UnW dc_UnW pm_UnW an_UnW cd_UnW ct_UnW), sl_UnW⟩) (cm_UnW : PySem.W.codeIn K cd_UnW "Under.word" = true) (km_UnW : PySem.W.keepIn K (.ref f_UnW) = true)
    (am_UnB : PySem.W.findIn K (.ref CUn) "behind" = some (some (.ref f_UnB))) (im_UnB : PySem.W.isFn K (.ref f_UnB) = true) (lm_UnB : K.lookup f_UnB = some ⟨oc_UnB, od_UnB, .func (PySem.W.fnOf "behind" "Under.behind" (Jf J2u) (Je J2u) (J2 J2u) .none kV_UnB dc_UnB pm_UnB an_UnB cd_UnB ct_UnB), sl_UnB⟩) (cm_UnB : PySem.W.codeIn K cd_UnB "Under.behind" = true) (km_UnB : PySem.W.keepIn K (.ref f_UnB) = true)
    (ih_Un_losers : PySem.W.findIn K (.ref CUn) "losers" = some (some (.ref f_StL)))
    (pg_Un : PySem.W.plainGet K CUn Str.empty = true) (hd_Un : PySem.W.hasDictIn K CUn = true) (po_Un : PySem.W.plainOver K CUn = true) (sa_Un : PySem.W.findIn K (.ref CUn) "__setattr__" = some (some (.builtin "object.__setattr__")))
    (mk_Un : PySem.W.makesIn K CUn = true) (kc_Un : PySem.W.keepIn K (.ref CUn) = true)
    (n_Un_winner : PySem.W.findIn K (.ref CUn) "winner" = some none)
    (n_Un_loser : PySem.W.findIn K (.ref CUn) "loser" = some none)
    (n_Un_times : PySem.W.findIn K (.ref CUn) "times" = some none)
    (ic_Un : PySem.W.findIn K (.ref CUn) "__class__" = some (some (.builtin "object.__class__"))) (mo_Un : PySem.W.mroIn K CUn (.type "object") = some true)
    (am_OsI : PySem.W.findIn K (.ref COs) "__init__" = some (some (.ref f_OsI))) (im_OsI : PySem.W.isFn K (.ref f_OsI) = true) (lm_OsI : K.lookup f_OsI = some ⟨oc_OsI, od_OsI, .func (PySem.W.fnOf "__init__" "Overs.__init__" (Jf J5a) (Je J5a) (J2 J5a) .none kV_OsI dc_OsI pm_OsI an_OsI cd_OsI ct_OsI), sl_OsI⟩) (cm_OsI : PySem.W.codeIn K cd_OsI "Overs.__init__" = true) (km_OsI : PySem.W.keepIn K (.ref f_OsI) = true)
    (am_OsW : PySem.W.findIn K (.ref COs) "word" = some (some (.ref f_OsW))) (im_OsW : PySem.W.isFn K (.ref f_OsW) = true) (lm_OsW : K.lookup f_OsW = some ⟨oc_OsW, od_OsW, .func (PySem.W.fnOf "word" "Overs.word" (Jf J59) (Je J59) (J2 J59) .none kV_OsW dc_OsW pm_OsW an_OsW cd_OsW ct_OsW), sl_OsW⟩) (cm_OsW : PySem.W.codeIn K cd_OsW "Overs.word" = true) (km_OsW : PySem.W.keepIn K (.ref f_OsW) = true)
    (am_OsL : PySem.W.findIn K (.ref COs) "losers" = some (some (.ref f_OsL))) (im_OsL : PySem.W.isFn K (.ref f_OsL) = true) (lm_OsL : K.lookup f_OsL = some ⟨oc_OsL, od_OsL, .func (PySem.W.fnOf "losers" "Overs.losers" (Jf J2x) (Je J2x) (J2 J2x) .none kV_OsL dc_OsL pm_OsL an_OsL cd_OsL ct_OsL), sl_OsL⟩) (cm_OsL : PySem.W.codeIn K cd_OsL "Overs.losers" = true) (km_OsL : PySem.W.keepIn K (.ref f_OsL) = true)
    (am_OsB : PySem.W.findIn K (.ref COs) "behind" = some (some (.ref f_OsB))) (im_OsB : PySem.W.isFn K (.ref f_OsB) = true) (lm_OsB : K.lookup f_OsB = some ⟨oc_OsB, od_OsB, .func (PySem.W.fnOf "behind" "Overs.behind" (Jf J2y) (Je J2y) (J2 J2y) .none kV_OsB dc_OsB pm_OsB an_OsB cd_OsB ct_OsB), sl_OsB⟩) (cm_OsB : PySem.W.codeIn K cd_OsB "Overs.behind" = true) (km_OsB : PySem.W.keepIn K (.ref f_OsB) = true)
    (pg_Os : PySem.W.plainGet K COs Str.empty = true) (hd_Os : PySem.W.hasDictIn K COs = true) (po_Os : PySem.W.plainOver K COs = true) (sa_Os : PySem.W.findIn K (.ref COs) "__setattr__" = some (some (.builtin "object.__setattr__")))
    (mk_Os : PySem.W.makesIn K COs = true) (kc_Os : PySem.W.keepIn K (.ref COs) = true)
    (n_Os_winner : PySem.W.findIn K (.ref COs) "winner" = some none)
    (n_Os_loser : PySem.W.findIn K (.ref COs) "loser" = some none)
    (n_Os_times : PySem.W.findIn K (.ref COs) "times" = some none)
    (ic_Os : PySem.W.findIn K (.ref COs) "__class__" = some (some (.builtin "object.__class__"))) (mo_Os : PySem.W.mroIn K COs (.type "object") = some true)
    (am_UsI : PySem.W.findIn K (.ref CUs) "__init__" = some (some (.ref f_UsI))) (im_UsI : PySem.W.isFn K (.ref f_UsI) = true) (lm_UsI : K.lookup f_UsI = some ⟨oc_UsI, od_UsI, .func (PySem.W.fnOf "__init__" "Unders.__init__" (Jf J4y) (Je J4y) (J2 J4y) .none kV_UsI dc_UsI pm_UsI an_UsI cd_UsI ct_UsI), sl_UsI⟩) (cm_UsI : PySem.W.codeIn K cd_UsI "Unders.__init__" = true) (km_UsI : PySem.W.keepIn K (.ref f_UsI) = true)
    (am_UsW : PySem.W.findIn K (.ref CUs) "word" = some (some (.ref f_UsW))) (im_UsW : PySem.W.isFn K (.ref f_UsW) = true) (lm_UsW : K.lookup f_UsW = some ⟨oc_UsW, od_UsW, .func (PySem.W.fnOf "word" "Unders.word" (Jf J4x) (Je J4x) (J2 J4x) .none kV_UsW dc_UsW pm_UsW an_UsW cd_UsW ct_UsW), sl_UsW⟩) (cm_UsW : PySem.W.codeIn K cd_UsW "Unders.word" = true) (km_UsW : PySem.W.keepIn K (.ref f_UsW) = true)
    (am_UsL : PySem.W.findIn K (.ref CUs) "losers" = some (some (.ref f_UsL))) (im_UsL : PySem.W.isFn K (.ref f_UsL) = true) (lm_UsL : K.lookup f_UsL = some ⟨oc_UsL, od_UsL, .func (PySem.W.fnOf "losers" "Unders.losers" (Jf J2s) (Je J2s) (J2 J2s) .none kV_UsL dc_UsL pm_UsL an_UsL cd_UsL ct_UsL), sl_UsL⟩) (cm_UsL : PySem.W.codeIn K cd_UsL "Unders.losers" = true) (km_UsL : PySem.W.keepIn K (.ref f_UsL) = true)
    (am_UsB : PySem.W.findIn K (.ref CUs) "behind" = some (some (.ref f_UsB))) (im_UsB : PySem.W.isFn K (.ref f_UsB) = true) (lm_UsB : K.lookup f_UsB = some ⟨oc_UsB, od_UsB, .func (PySem.W.fnOf "behind" "Unders.behind" (Jf J2t) (Je J2t) (J2 J2t) .none kV_UsB dc_UsB pm_UsB an_UsB cd_UsB ct_UsB), sl_UsB⟩) (cm_UsB : PySem.W.codeIn K cd_UsB "Unders.behind" = true) (km_UsB : PySem.W.keepIn K (.ref f_UsB) = true)
    (pg_Us : PySem.W.plainGet K CUs Str.empty = true) (hd_Us : PySem.W.hasDictIn K CUs = true) (po_Us : PySem.W.plainOver K CUs = true) (sa_Us : PySem.W.findIn K (.ref CUs) "__setattr__" = some (some (.builtin "object.__setattr__")))
    (mk_Us : PySem.W.makesIn K CUs = true) (kc_Us : PySem.W.keepIn K (.ref CUs) = true)
    (n_Us_winner : PySem.W.findIn K (.ref CUs) "winner" = some none)
    (n_Us_loser : PySem.W.findIn K (.ref CUs) "loser" = some none)
    (n_Us_times : PySem.W.findIn K (.ref CUs) "times" = some none)
    (ic_Us : PySem.W.findIn K (.ref CUs) "__class__" = some (some (.builtin "object.__class__"))) (mo_Us : PySem.W.mroIn K CUs (.type "object") = some true)
    (sget : PySem.W.specialIn K (.builtin "object.__class__") "__get__" = some (some (.builtin "getset_descriptor.__get__"))) (stk : PySem.W.takesIn K (.builtin "object.__class__") = some true)
    (z_len : PySem.W.nsIn K mainGlobals "len" = some none)
    (z_min : PySem.W.nsIn K mainGlobals "min" = some none)
    (z_sum : PySem.W.nsIn K mainGlobals "sum" = some none)
    (z_sorted : PySem.W.nsIn K mainGlobals "sorted" = some none)
    (z_list : PySem.W.nsIn K mainGlobals "list" = some none)
    (z_range : PySem.W.nsIn K mainGlobals "range" = some none)
    (z_tuple : PySem.W.nsIn K mainGlobals "tuple" = some none)
    (z_int : PySem.W.nsIn K mainGlobals "int" = some none)
    (z_enumerate : PySem.W.nsIn K mainGlobals "enumerate" = some none)
    (z_ValueError : PySem.W.nsIn K mainGlobals "ValueError" = some none)
    (v_MOST_PIECES : PySem.W.nsIn K mainGlobals "MOST_PIECES" = some (some (.int 24 t_MOST_PIECES)))
    (sbB : PySem.W.specialIn K (.ref CSt) "__getattribute__" = some (some (.builtin "type.__getattribute__")))
    (rdB : PySem.W.readsIn K CSt (.type "type") = true)
    (fdB : PySem.W.findCls K (.ref CSt) (.type "type") "__init__" = some (.val (.ref f_StI)))
    : ∃ fd : FuncData, (∀ (s : Shared) (v : Value), BindsTo s fd ⟨[v], []⟩ [("script", v)]) ∧ ∀ base : Heap, K.In base → base.Ns mainGlobals mg → FnOk l.prog w K mg base CX0 8 fa fd ["script"] (spLaw K) := by
  have e := hfa.symm.trans (PySem.W.mg_of X G a39)
  cases e
  have F0 := Jq (st := sRefL) l0 c0 k0
  have m0 := PySem.W.mg_of X G a0
  have b0 := F0.binds (ps := ["lengths"]) fun _ _ _ _ _ _ us hl => match us, hl with | [_], _ => rfl
  have F1 := Jq (st := sRefO) l1 c1 k1
  have m1 := PySem.W.mg_of X G a1
  have b1 := F1.binds (ps := ["order", "pieces"]) fun _ _ _ _ _ _ us hl => match us, hl with | [_, _], _ => rfl
  have F2 := Jq (st := sRefT) l2 c2 k2
  have m2 := PySem.W.mg_of X G a2
  have b2 := F2.binds (ps := ["turned", "pieces"]) fun _ _ _ _ _ _ us hl => match us, hl with | [_, _], _ => rfl
  have F3 := Jq (st := sTold) l3 c3 k3
  have m3 := PySem.W.mg_of X G a3
  have b3 := F3.binds (ps := ["turned", "pieces"]) fun _ _ _ _ _ _ us hl => match us, hl with | [_, _], _ => rfl
  have F4 := Jq (st := sFirst) l4 c4 k4
  have m4 := PySem.W.mg_of X G a4
  have b4 := F4.binds (ps := ["lengths", "order"]) fun _ _ _ _ _ _ us hl => match us, hl with | [_, _], _ => rfl
  have F5 := Jq (st := sLenOf) l5 c5 k5
  have m5 := PySem.W.mg_of X G a5
  have b5 := F5.binds (ps := ["rest", "letters"]) fun _ _ _ _ _ _ us hl => match us, hl with | [_, _], _ => rfl
  have F6 := Jq (st := J54) l6 c6 k6
  have m6 := PySem.W.mg_of X G a6
  have b6 := F6.binds (ps := ["line"]) fun _ _ _ _ _ _ us hl => match us, hl with | [_], _ => rfl
  have F7 := Jq (st := J3t) l7 c7 k7
  have m7 := PySem.W.mg_of X G a7
  have b7 := F7.binds (ps := ["row", "letter"]) fun _ _ _ _ _ _ us hl => match us, hl with | [_, _], _ => rfl
  have F8 := Jq (st := J3x) l8 c8 k8
  have m8 := PySem.W.mg_of X G a8
  have b8 := F8.binds (ps := ["row", "letter"]) fun _ _ _ _ _ _ us hl => match us, hl with | [_, _], _ => rfl
  have F9 := Jq (st := sPut) l9 c9 k9
  have m9 := PySem.W.mg_of X G a9
  have b9 := F9.binds (ps := ["row", "winner", "loser", "ahead"]) fun _ _ _ _ _ _ us hl => match us, hl with | [_, _, _, _], _ => rfl
  have F10 := Jq (st := J3w) l10 c10 k10
  have m10 := PySem.W.mg_of X G a10
  have b10 := F10.binds (ps := ["row", "letter", "entry"]) fun _ _ _ _ _ _ us hl => match us, hl with | [_, _, _], _ => rfl
  have F11 := Jq (st := sShort) l11 c11 k11
  have m11 := PySem.W.mg_of X G a11
  have b11 := F11.binds (ps := ["rest", "winner", "less"]) fun _ _ _ _ _ _ us hl => match us, hl with | [_, _, _], _ => rfl
  have F12 := Jq (st := J52) l12 c12 k12
  have m12 := PySem.W.mg_of X G a12
  have b12 := F12.binds (ps := ["rest", "winner", "loser"]) fun _ _ _ _ _ _ us hl => match us, hl with | [_, _, _], _ => rfl
  have F13 := Jq (st := sTimes) l13 c13 k13
  have m13 := PySem.W.mg_of X G a13
  have b13 := F13.binds (ps := ["rest", "winner", "row"]) fun _ _ _ _ _ _ us hl => match us, hl with | [_, _, _], _ => rfl
  have F14 := Jq (st := sOverS) l14 c14 k14
  have m14 := PySem.W.mg_of X G a14
  have b14 := F14.binds (ps := ["rest", "winner", "loser"]) fun _ _ _ _ _ _ us hl => match us, hl with | [_, _, _], _ => rfl
  have F15 := Jq (st := J4z) l15 c15 k15
  have m15 := PySem.W.mg_of X G a15
  have b15 := F15.binds (ps := ["rest", "winner", "loser"]) fun _ _ _ _ _ _ us hl => match us, hl with | [_, _, _], _ => rfl
  have F16 := Jq (st := sNext) l16 c16 k16
  have m16 := PySem.W.mg_of X G a16
  have b16 := F16.binds (ps := ["rest"]) fun _ _ _ _ _ _ us hl => match us, hl with | [_], _ => rfl
  have F17 := Jq (st := J5e) l17 c17 k17
  have m17 := PySem.W.mg_of X G a17
  have b17 := F17.binds (ps := ["line"]) fun _ _ _ _ _ _ us hl => match us, hl with | [_], _ => rfl
  have F18 := Jq (st := sTowB) l18 c18 k18
  have m18 := PySem.W.mg_of X G a18
  have b18 := F18.binds (ps := ["towers", "step", "rest", "behind"]) fun _ _ _ _ _ _ us hl => match us, hl with | [_, _, _, _], _ => rfl
  have F19 := Jq (st := J5j) l19 c19 k19
  have m19 := PySem.W.mg_of X G a19
  have b19 := F19.binds (ps := ["step", "rest", "behind", "towers"]) fun _ _ _ _ _ _ us hl => match us, hl with | [_, _, _, _], _ => rfl
  have F20 := Jq (st := sMayHo) l20 c20 k20
  have m20 := PySem.W.mg_of X G a20
  have b20 := F20.binds (ps := ["rest", "winner", "number"]) fun _ _ _ _ _ _ us hl => match us, hl with | [_, _, _], _ => rfl
  have F21 := Jq (st := sEnds) l21 c21 k21
  have m21 := PySem.W.mg_of X G a21
  have b21 := F21.binds (ps := ["rest", "last_top", "last_bottom"]) fun _ _ _ _ _ _ us hl => match us, hl with | [_, _, _], _ => rfl
  have F22 := Jq (st := sMayEv) l22 c22 k22
  have m22 := PySem.W.mg_of X G a22
  have b22 := F22.binds (ps := ["rest", "winner", "loser"]) fun _ _ _ _ _ _ us hl => match us, hl with | [_, _, _], _ => rfl
  have F23 := Jq (st := sMayOv) l23 c23 k23
  have m23 := PySem.W.mg_of X G a23
  have b23 := F23.binds (ps := ["rest", "winner", "loser"]) fun _ _ _ _ _ _ us hl => match us, hl with | [_, _, _], _ => rfl
  have F24 := Jq (st := sMayUn) l24 c24 k24
  have m24 := PySem.W.mg_of X G a24
  have b24 := F24.binds (ps := ["rest", "winner", "loser"]) fun _ _ _ _ _ _ us hl => match us, hl with | [_, _, _], _ => rfl
  have F25 := Jq (st := sMayOs) l25 c25 k25
  have m25 := PySem.W.mg_of X G a25
  have b25 := F25.binds (ps := ["rest", "winner", "times"]) fun _ _ _ _ _ _ us hl => match us, hl with | [_, _, _], _ => rfl
  have F26 := Jq (st := sMayUs) l26 c26 k26
  have m26 := PySem.W.mg_of X G a26
  have b26 := F26.binds (ps := ["rest", "winner", "times"]) fun _ _ _ _ _ _ us hl => match us, hl with | [_, _, _], _ => rfl
  have F27 := Jq (st := J3u) l27 c27 k27
  have m27 := PySem.W.mg_of X G a27
  have b27 := F27.binds (ps := ["rest", "word", "winner", "number"]) fun _ _ _ _ _ _ us hl => match us, hl with | [_, _, _, _], _ => rfl
  have F28 := Jq (st := J32) l28 c28 k28
  have m28 := PySem.W.mg_of X G a28
  have b28 := F28.binds (ps := ["line", "paper"]) fun _ _ _ _ _ _ us hl => match us, hl with | [_, _], _ => rfl
  have F29 := Jq (st := sExam) l29 c29 k29
  have m29 := PySem.W.mg_of X G a29
  have b29 := F29.binds (ps := ["line", "paper"]) fun _ _ _ _ _ _ us hl => match us, hl with | [_, _], _ => rfl
  have F30 := Jq (st := sCell) l30 c30 k30
  have m30 := PySem.W.mg_of X G a30
  have b30 := F30.binds (ps := ["script", "k"]) fun _ _ _ _ _ _ us hl => match us, hl with | [_, _], _ => rfl
  have F31 := Jq (st := J5h) l31 c31 k31
  have m31 := PySem.W.mg_of X G a31
  have b31 := F31.binds (ps := ["script", "many", "top"]) fun _ _ _ _ _ _ us hl => match us, hl with | [_, _, _], _ => rfl
  have F32 := Jq (st := sBegun) l32 c32 k32
  have m32 := PySem.W.mg_of X G a32
  have b32 := F32.binds (ps := ["drawn"]) fun _ _ _ _ _ _ us hl => match us, hl with | [_], _ => rfl
  have F33 := Jq (st := J3v) l33 c33 k33
  have m33 := PySem.W.mg_of X G a33
  have b33 := F33.binds (ps := ["state", "row", "letter"]) fun _ _ _ _ _ _ us hl => match us, hl with | [_, _, _], _ => rfl
  have F34 := Jq (st := J5b) l34 c34 k34
  have m34 := PySem.W.mg_of X G a34
  have b34 := F34.binds (ps := ["state", "row", "letter"]) fun _ _ _ _ _ _ us hl => match us, hl with | [_, _, _], _ => rfl
  have F35 := Jq (st := J55) l35 c35 k35
  have m35 := PySem.W.mg_of X G a35
  have b35 := F35.binds (ps := ["state", "word", "winner", "loser"]) fun _ _ _ _ _ _ us hl => match us, hl with | [_, _, _, _], _ => rfl
  have F36 := Jq (st := sLStep) l36 c36 k36
  have m36 := PySem.W.mg_of X G a36
  have b36 := F36.binds (ps := ["state", "told"]) fun _ _ _ _ _ _ us hl => match us, hl with | [_, _], _ => rfl
  have F37 := Jq (st := sLNext) l37 c37 k37
  have m37 := PySem.W.mg_of X G a37
  have b37 := F37.binds (ps := ["state"]) fun _ _ _ _ _ _ us hl => match us, hl with | [_], _ => rfl
  have F38 := Jq (st := J58) l38 c38 k38
  have m38 := PySem.W.mg_of X G a38
  have b38 := F38.binds (ps := ["state", "cell"]) fun _ _ _ _ _ _ us hl => match us, hl with | [_, _], _ => rfl
  have F39 := Jq (st := sLaw) l39 c39 k39
  have m39 := PySem.W.mg_of X G a39
  have b39 := F39.binds (ps := ["script"]) fun _ _ _ _ _ _ us hl => match us, hl with | [_], _ => rfl
  have mg_L := PySem.W.mg_of X G a_L
  have cl_L : Cls K C := ⟨pg_L, hd_L, po_L, sa_L⟩
  have F_LI : FunD K "__init__" "Line.__init__" sInit f_LI _ TD := ⟨⟨oc_LI, od_LI, kV_LI, dc_LI, pm_LI, an_LI, cd_LI, ct_LI, sl_LI, rfl, lm_LI, cm_LI⟩, km_LI⟩
  obtain ⟨b_LI, b1_LI⟩ := dflt_binds F_LI lT ["self", "lengths", "order", "turned"] (fun _ _ _ _ _ _ us hl => match us, hl with | [_, _, _, _], _ => ⟨_, rfl, rfl⟩) (fun _ _ _ _ _ _ us hl => match us, (show us.length = 3 by simpa using hl) with | [_, _, _], _ => ⟨_, rfl, rfl⟩)
  have mg_R := PySem.W.mg_of X G a_R
  have cl_R : Cls K CR := ⟨pg_R, hd_R, po_R, sa_R⟩
  have ty_R : TxtI K CR := ⟨ic_R, sget, stk, mo_R⟩
  have F_RI := Jq (x := "__init__") (qual := "Rest.__init__") (st := sRInit) lm_RI cm_RI km_RI
  have b_RI := F_RI.binds (ps := ["self", "top", "bottom", "lengths", "turned"]) fun _ _ _ _ _ _ us hl => match us, hl with | [_, _, _, _, _], _ => rfl
  have mg_H := PySem.W.mg_of X G a_H
  have cl_H : Cls K CH := ⟨pg_H, hd_H, po_H, sa_H⟩
  have F_HI := Jq (x := "__init__") (qual := "Chart.__init__") (st := J5i) lm_HI cm_HI km_HI
  have b_HI := F_HI.binds (ps := ["self", "line"]) fun _ _ _ _ _ _ us hl => match us, hl with | [_, _], _ => rfl
  have mg_St := PySem.W.mg_of X G a_St
  have cl_St : Cls K CSt := ⟨pg_St, hd_St, po_St, sa_St⟩
  have F_StI := Jq (x := "__init__") (qual := "Step.__init__") (st := J53) lm_StI cm_StI km_StI
  have b_StI := F_StI.binds (ps := ["self", "winner", "loser", "times"]) fun _ _ _ _ _ _ us hl => match us, hl with | [_, _, _, _], _ => rfl
  have F_StL := Jq (x := "losers") (qual := "Step.losers") (st := J2v) lm_StL cm_StL km_StL
  have b_StL := F_StL.binds (ps := ["self", "rest"]) fun _ _ _ _ _ _ us hl => match us, hl with | [_, _], _ => rfl
  have mg_Ho := PySem.W.mg_of X G a_Ho
  have cl_Ho : Cls K CHo := ⟨pg_Ho, hd_Ho, po_Ho, sa_Ho⟩
  have ty_Ho : TxtI K CHo := ⟨ic_Ho, sget, stk, mo_Ho⟩
  have F_HoI := Jq (x := "__init__") (qual := "Home.__init__") (st := J5d) lm_HoI cm_HoI km_HoI
  have b_HoI := F_HoI.binds (ps := ["self", "winner"]) fun _ _ _ _ _ _ us hl => match us, hl with | [_, _], _ => rfl
  have F_HoW := Jq (x := "word") (qual := "Home.word") (st := J5c) lm_HoW cm_HoW km_HoW
  have b_HoW := F_HoW.binds (ps := ["self"]) fun _ _ _ _ _ _ us hl => match us, hl with | [_], _ => rfl
  have F_HoL := Jq (x := "losers") (qual := "Home.losers") (st := J2z) lm_HoL cm_HoL km_HoL
  have b_HoL := F_HoL.binds (ps := ["self", "rest"]) fun _ _ _ _ _ _ us hl => match us, hl with | [_, _], _ => rfl
  have F_HoB := Jq (x := "behind") (qual := "Home.behind") (st := J30) lm_HoB cm_HoB km_HoB
  have b_HoB := F_HoB.binds (ps := ["self", "rest"]) fun _ _ _ _ _ _ us hl => match us, hl with | [_, _], _ => rfl
  have mg_Ev := PySem.W.mg_of X G a_Ev
  have cl_Ev : Cls K CEv := ⟨pg_Ev, hd_Ev, po_Ev, sa_Ev⟩
  have ty_Ev : TxtI K CEv := ⟨ic_Ev, sget, stk, mo_Ev⟩
  have F_EvI := Jq (x := "__init__") (qual := "Even.__init__") (st := J5g) lm_EvI cm_EvI km_EvI
  have b_EvI := F_EvI.binds (ps := ["self", "winner", "loser"]) fun _ _ _ _ _ _ us hl => match us, hl with | [_, _, _], _ => rfl
  have F_EvW := Jq (x := "word") (qual := "Even.word") (st := J5f) lm_EvW cm_EvW km_EvW
  have b_EvW := F_EvW.binds (ps := ["self"]) fun _ _ _ _ _ _ us hl => match us, hl with | [_], _ => rfl
  have F_EvB := Jq (x := "behind") (qual := "Even.behind") (st := J31) lm_EvB cm_EvB km_EvB
  have b_EvB := F_EvB.binds (ps := ["self", "rest"]) fun _ _ _ _ _ _ us hl => match us, hl with | [_, _], _ => rfl
  have mg_Ov := PySem.W.mg_of X G a_Ov
  have cl_Ov : Cls K COv := ⟨pg_Ov, hd_Ov, po_Ov, sa_Ov⟩
  have ty_Ov : TxtI K COv := ⟨ic_Ov, sget, stk, mo_Ov⟩
  have F_OvI := Jq (x := "__init__") (qual := "Over.__init__") (st := J57) lm_OvI cm_OvI km_OvI
  have b_OvI := F_OvI.binds (ps := ["self", "winner", "loser"]) fun _ _ _ _ _ _ us hl => match us, hl with | [_, _, _], _ => rfl
  have F_OvW := Jq (x := "word") (qual := "Over.word") (st := J56) lm_OvW cm_OvW km_OvW
  have b_OvW := F_OvW.binds (ps := ["self"]) fun _ _ _ _ _ _ us hl => match us, hl with | [_], _ => rfl
  have F_OvB := Jq (x := "behind") (qual := "Over.behind") (st := J2w) lm_OvB cm_OvB km_OvB
  have b_OvB := F_OvB.binds (ps := ["self", "rest"]) fun _ _ _ _ _ _ us hl => match us, hl with | [_, _], _ => rfl
  have mg_Un := PySem.W.mg_of X G a_Un
  have cl_Un : Cls K CUn := ⟨pg_Un, hd_Un, po_Un, sa_Un⟩
  have ty_Un : TxtI K CUn := ⟨ic_Un, sget, stk, mo_Un⟩
  have F_UnI := Jq (x := "__init__") (qual := "Under.__init__") (st := J51) lm_UnI cm_UnI km_UnI
  have b_UnI := F_UnI.binds (ps := ["self", "winner", "loser"]) fun _ _ _ _ _ _ us hl => match us, hl with | [_, _, _], _ => rfl
  have F_UnW := Jq (x := "word") (qual := "Under.word") (st := J50) lm_UnW cm_UnW km_UnW
  have b_UnW := F_UnW.binds (ps := ["self"]) fun _ _ _ _ _ _ us hl => match us, hl with | [_], _ => rfl
  have F_UnB := Jq (x := "behind") (qual := "Under.behind") (st := J2u) lm_UnB cm_UnB km_UnB
  have b_UnB := F_UnB.binds (ps := ["self", "rest"]) fun _ _ _ _ _ _ us hl => match us, hl with | [_, _], _ => rfl
  have mg_Os := PySem.W.mg_of X G a_Os
  have cl_Os : Cls K COs := ⟨pg_Os, hd_Os, po_Os, sa_Os⟩
  have ty_Os : TxtI K COs := ⟨ic_Os, sget, stk, mo_Os⟩
  have F_OsI := Jq (x := "__init__") (qual := "Overs.__init__") (st := J5a) lm_OsI cm_OsI km_OsI
  have b_OsI := F_OsI.binds (ps := ["self", "winner", "times"]) fun _ _ _ _ _ _ us hl => match us, hl with | [_, _, _], _ => rfl
  have F_OsW := Jq (x := "word") (qual := "Overs.word") (st := J59) lm_OsW cm_OsW km_OsW
  have b_OsW := F_OsW.binds (ps := ["self"]) fun _ _ _ _ _ _ us hl => match us, hl with | [_], _ => rfl
  have F_OsL := Jq (x := "losers") (qual := "Overs.losers") (st := J2x) lm_OsL cm_OsL km_OsL
  have b_OsL := F_OsL.binds (ps := ["self", "rest"]) fun _ _ _ _ _ _ us hl => match us, hl with | [_, _], _ => rfl
  have F_OsB := Jq (x := "behind") (qual := "Overs.behind") (st := J2y) lm_OsB cm_OsB km_OsB
  have b_OsB := F_OsB.binds (ps := ["self", "rest"]) fun _ _ _ _ _ _ us hl => match us, hl with | [_, _], _ => rfl
  have mg_Us := PySem.W.mg_of X G a_Us
  have cl_Us : Cls K CUs := ⟨pg_Us, hd_Us, po_Us, sa_Us⟩
  have ty_Us : TxtI K CUs := ⟨ic_Us, sget, stk, mo_Us⟩
  have F_UsI := Jq (x := "__init__") (qual := "Unders.__init__") (st := J4y) lm_UsI cm_UsI km_UsI
  have b_UsI := F_UsI.binds (ps := ["self", "winner", "times"]) fun _ _ _ _ _ _ us hl => match us, hl with | [_, _, _], _ => rfl
  have F_UsW := Jq (x := "word") (qual := "Unders.word") (st := J4x) lm_UsW cm_UsW km_UsW
  have b_UsW := F_UsW.binds (ps := ["self"]) fun _ _ _ _ _ _ us hl => match us, hl with | [_], _ => rfl
  have F_UsL := Jq (x := "losers") (qual := "Unders.losers") (st := J2s) lm_UsL cm_UsL km_UsL
  have b_UsL := F_UsL.binds (ps := ["self", "rest"]) fun _ _ _ _ _ _ us hl => match us, hl with | [_, _], _ => rfl
  have F_UsB := Jq (x := "behind") (qual := "Unders.behind") (st := J2t) lm_UsB cm_UsB km_UsB
  have b_UsB := F_UsB.binds (ps := ["self", "rest"]) fun _ _ _ _ _ _ us hl => match us, hl with | [_, _], _ => rfl
  have T0 : Txt K mg := ⟨PySem.W.mg_none_of X G z_len, PySem.W.mg_none_of X G z_min, PySem.W.mg_none_of X G z_sum, PySem.W.mg_none_of X G z_sorted, PySem.W.mg_none_of X G z_list, PySem.W.mg_none_of X G z_range, PySem.W.mg_none_of X G z_tuple, ⟨_, PySem.W.mg_of X G v_MOST_PIECES⟩⟩
  have T : TxtR mg := ⟨PySem.W.mg_none_of X G z_len, PySem.W.mg_none_of X G z_sum, PySem.W.mg_none_of X G z_tuple, PySem.W.mg_none_of X G z_list, PySem.W.mg_none_of X G z_range⟩
  have TC : TxtC K mg C := ⟨cl_L, n_L_lengths, n_L_order, n_L_turned, n_L_starts, n_L_laid, n_L_size⟩
  have TR : TxtRest K CR := ⟨cl_R, n_R_top, n_R_bottom, n_R_lengths, n_R_turned, n_R_size⟩
  have TH : TxtCh K CH := ⟨cl_H, n_H_line, n_H_rests, n_H_steps, n_H_towers, n_H_bands⟩
  have hcs : ∃ cs : Kd → Addr, cs = csOf CHo CEv COv CUn COs CUs := ⟨_, rfl⟩
  obtain ⟨cs, hcs⟩ := hcs
  have TS : TxtS K cs := by
    subst hcs
    exact ⟨fun k => match k with | .ho => cl_Ho | .ev => cl_Ev | .ov => cl_Ov | .un => cl_Un | .os => cl_Os | .us => cl_Us, fun k => match k with | .ho => n_Ho_winner | .ev => n_Ev_winner | .ov => n_Ov_winner | .un => n_Un_winner | .os => n_Os_winner | .us => n_Us_winner, fun k => match k with | .ho => n_Ho_loser | .ev => n_Ev_loser | .ov => n_Ov_loser | .un => n_Un_loser | .os => n_Os_loser | .us => n_Us_loser, fun k => match k with | .ho => n_Ho_times | .ev => n_Ev_times | .ov => n_Ov_times | .un => n_Un_times | .os => n_Os_times | .us => n_Us_times⟩
  have BM : BaseM K CSt "__init__" f_StI := ⟨sbB, rdB, fdB, km_StI⟩
  have MHo : Mk K (cs .ho) f_HoI := by
    subst hcs
    exact ⟨mk_Ho, am_HoI, im_HoI, kc_Ho⟩
  have m_Ho : mg "Home" = some (.ref (cs .ho)) := by
    subst hcs
    exact mg_Ho
  have ClHo : Cls K (cs .ho) := TS.cl _
  have Me_Ho_W : Meth K (cs .ho) "word" f_HoW := by
    subst hcs
    exact ⟨am_HoW, im_HoW, km_HoW⟩
  have Me_Ho_L : Meth K (cs .ho) "losers" f_HoL := by
    subst hcs
    exact ⟨am_HoL, im_HoL, km_HoL⟩
  have Me_Ho_B : Meth K (cs .ho) "behind" f_HoB := by
    subst hcs
    exact ⟨am_HoB, im_HoB, km_HoB⟩
  have MEv : Mk K (cs .ev) f_EvI := by
    subst hcs
    exact ⟨mk_Ev, am_EvI, im_EvI, kc_Ev⟩
  have m_Ev : mg "Even" = some (.ref (cs .ev)) := by
    subst hcs
    exact mg_Ev
  have ClEv : Cls K (cs .ev) := TS.cl _
  have Me_Ev_W : Meth K (cs .ev) "word" f_EvW := by
    subst hcs
    exact ⟨am_EvW, im_EvW, km_EvW⟩
  have Me_Ev_L : Meth K (cs .ev) "losers" f_StL := by
    subst hcs
    exact ⟨ih_Ev_losers, im_StL, km_StL⟩
  have Me_Ev_B : Meth K (cs .ev) "behind" f_EvB := by
    subst hcs
    exact ⟨am_EvB, im_EvB, km_EvB⟩
  have MOv : Mk K (cs .ov) f_OvI := by
    subst hcs
    exact ⟨mk_Ov, am_OvI, im_OvI, kc_Ov⟩
  have m_Ov : mg "Over" = some (.ref (cs .ov)) := by
    subst hcs
    exact mg_Ov
  have ClOv : Cls K (cs .ov) := TS.cl _
  have Me_Ov_W : Meth K (cs .ov) "word" f_OvW := by
    subst hcs
    exact ⟨am_OvW, im_OvW, km_OvW⟩
  have Me_Ov_L : Meth K (cs .ov) "losers" f_StL := by
    subst hcs
    exact ⟨ih_Ov_losers, im_StL, km_StL⟩
  have Me_Ov_B : Meth K (cs .ov) "behind" f_OvB := by
    subst hcs
    exact ⟨am_OvB, im_OvB, km_OvB⟩
  have MUn : Mk K (cs .un) f_UnI := by
    subst hcs
    exact ⟨mk_Un, am_UnI, im_UnI, kc_Un⟩
  have m_Un : mg "Under" = some (.ref (cs .un)) := by
    subst hcs
    exact mg_Un
  have ClUn : Cls K (cs .un) := TS.cl _
  have Me_Un_W : Meth K (cs .un) "word" f_UnW := by
    subst hcs
    exact ⟨am_UnW, im_UnW, km_UnW⟩
  have Me_Un_L : Meth K (cs .un) "losers" f_StL := by
    subst hcs
    exact ⟨ih_Un_losers, im_StL, km_StL⟩
  have Me_Un_B : Meth K (cs .un) "behind" f_UnB := by
    subst hcs
    exact ⟨am_UnB, im_UnB, km_UnB⟩
  have MOs : Mk K (cs .os) f_OsI := by
    subst hcs
    exact ⟨mk_Os, am_OsI, im_OsI, kc_Os⟩
  have m_Os : mg "Overs" = some (.ref (cs .os)) := by
    subst hcs
    exact mg_Os
  have ClOs : Cls K (cs .os) := TS.cl _
  have Me_Os_W : Meth K (cs .os) "word" f_OsW := by
    subst hcs
    exact ⟨am_OsW, im_OsW, km_OsW⟩
  have Me_Os_L : Meth K (cs .os) "losers" f_OsL := by
    subst hcs
    exact ⟨am_OsL, im_OsL, km_OsL⟩
  have Me_Os_B : Meth K (cs .os) "behind" f_OsB := by
    subst hcs
    exact ⟨am_OsB, im_OsB, km_OsB⟩
  have MUs : Mk K (cs .us) f_UsI := by
    subst hcs
    exact ⟨mk_Us, am_UsI, im_UsI, kc_Us⟩
  have m_Us : mg "Unders" = some (.ref (cs .us)) := by
    subst hcs
    exact mg_Us
  have ClUs : Cls K (cs .us) := TS.cl _
  have Me_Us_W : Meth K (cs .us) "word" f_UsW := by
    subst hcs
    exact ⟨am_UsW, im_UsW, km_UsW⟩
  have Me_Us_L : Meth K (cs .us) "losers" f_UsL := by
    subst hcs
    exact ⟨am_UsL, im_UsL, km_UsL⟩
  have Me_Us_B : Meth K (cs .us) "behind" f_UsB := by
    subst hcs
    exact ⟨am_UsB, im_UsB, km_UsB⟩
  refine ⟨PySem.W.fnOf "law" "law" (Jf sLaw) (Je sLaw) (J2 sLaw) .none kV39 dc39 pm39 an39 cd39 ct39, fun s v => .of_eq rfl, fun base _ _ => ?_⟩
  have GF := ok_first (P := l.prog) (w := w) (base := base) F4 T
  have GI := ok_init (P := l.prog) (w := w) (base := base) F_LI T0 TC (ok_refL F0 T0) b0 m0 k0 (ok_refO F1 T0) b1 m1 k1 (ok_told F3 T0 F2 b2 m2) b3 m3 k3 GF b4 m4 k4
  have ML : Mk K C f_LI := ⟨mk_L, am_LI, im_LI, kc_L⟩
  have GLn := ok_lenOf (P := l.prog) (w := w) (base := base) F5 T
  have GRI := ok_rinit F_RI T TR GLn b5 m5 k5
  have MR : Mk K CR f_RI := ⟨mk_R, am_RI, im_RI, kc_R⟩
  have GRO := ok_restof F6 T TC MR GRI b_RI mg_R
  have GBL := ok_behindL (P := l.prog) (w := w) (mg := mg) (base := base) F8
  have bBL := b8
  have mBL := m8
  have kBL := k8
  have GSI := ok_sinit (P := l.prog) (w := w) (mg := mg) (base := base) F_StI TS
  have GHoI := ok_hoinit F_HoI BM mg_St GSI b_StI
  have GEvI := ok_evinit F_EvI BM mg_St GSI b_StI
  have GOvI := ok_ovinit F_OvI BM mg_St GSI b_StI
  have GUnI := ok_uninit F_UnI BM mg_St GSI b_StI
  have GOsI := ok_osinit F_OsI BM mg_St GSI b_StI
  have GUsI := ok_usinit F_UsI BM mg_St GSI b_StI
  have HW : ∀ k, HasM l.prog w K mg base CX0 1 "word" ["self"] (J5z k) (cs k) := fun k => match k with | .ho => ⟨_, _, ClHo, Me_Ho_W, ok_howord F_HoW, b_HoW⟩ | .ev => ⟨_, _, ClEv, Me_Ev_W, ok_evword F_EvW, b_EvW⟩ | .ov => ⟨_, _, ClOv, Me_Ov_W, ok_ovword F_OvW, b_OvW⟩ | .un => ⟨_, _, ClUn, Me_Un_W, ok_unword F_UnW, b_UnW⟩ | .os => ⟨_, _, ClOs, Me_Os_W, ok_osword F_OsW, b_OsW⟩ | .us => ⟨_, _, ClUs, Me_Us_W, ok_usword F_UsW, b_UsW⟩
  have HL : ∀ k, HasM l.prog w K mg base CX0 2 "losers" ["self", "rest"] (J23 cs CR k) (cs k) := fun k => match k with | .ho => ⟨_, _, ClHo, Me_Ho_L, ok_holosers F_HoL, b_HoL⟩ | .ev => ⟨_, _, ClEv, Me_Ev_L, J40 F_StL TS (.inl rfl), b_StL⟩ | .ov => ⟨_, _, ClOv, Me_Ov_L, J40 F_StL TS (.inr (.inl rfl)), b_StL⟩ | .un => ⟨_, _, ClUn, Me_Un_L, J40 F_StL TS (.inr (.inr rfl)), b_StL⟩ | .os => ⟨_, _, ClOs, Me_Os_L, ok_oslosers F_OsL TS TR GBL bBL mBL kBL, b_OsL⟩ | .us => ⟨_, _, ClUs, Me_Us_L, ok_uslosers F_UsL TS TR GBL bBL mBL kBL, b_UsL⟩
  have GWo := ok_without (P := l.prog) (w := w) (mg := mg) (base := base) F7
  have GPu := ok_put F9 GWo b7 m7 k7
  have GCh := ok_changed (P := l.prog) (w := w) (base := base) F10 T
  have GSo := ok_short F11 TR GCh b10 m10 k10
  have GTB := ok_turnsB F12 TR GCh b10 m10 k10
  have HB : ∀ k, HasM l.prog w K mg base CX0 4 "behind" ["self", "rest"] (J24 cs CR k) (cs k) := fun k => match k with | .ho => ⟨_, _, ClHo, Me_Ho_B, ok_hobehind F_HoB TS TR GWo b7 m7 k7 GCh b10 m10 k10 MR GRI b_RI mg_R, b_HoB⟩ | .ev => ⟨_, _, ClEv, Me_Ev_B, ok_evbehind F_EvB TS TR GWo b7 m7 k7 GPu b9 m9 k9 GCh b10 m10 k10 GTB b12 m12 k12 MR GRI b_RI mg_R, b_EvB⟩ | .ov => ⟨_, _, ClOv, Me_Ov_B, ok_ovbehind F_OvB TS TR GPu b9 m9 k9 GSo b11 m11 k11 GTB b12 m12 k12 MR GRI b_RI mg_R, b_OvB⟩ | .un => ⟨_, _, ClUn, Me_Un_B, ok_unbehind F_UnB TS TR GPu b9 m9 k9 GSo b11 m11 k11 GTB b12 m12 k12 MR GRI b_RI mg_R, b_UnB⟩ | .os => ⟨_, _, ClOs, Me_Os_B, ok_osbehind F_OsB TS TR GLn b5 m5 k5 GSo b11 m11 k11 MR GRI b_RI mg_R HL, b_OsB⟩ | .us => ⟨_, _, ClUs, Me_Us_B, ok_usbehind F_UsB TS TR GLn b5 m5 k5 GSo b11 m11 k11 MR GRI b_RI mg_R HL, b_UsB⟩
  have GT := ok_times F13 TR GLn b5 m5 k5 GBL b8 m8 k8
  have GO := ok_overs F14 TR GT b13 m13 k13 MOs GOsI b_OsI m_Os MOv GOvI b_OvI m_Ov
  have GU := ok_unders F15 TR GT b13 m13 k13 MUs GUsI b_UsI m_Us MUn GUnI b_UnI m_Un
  have GN := ok_next F16 TR MHo GHoI b_HoI m_Ho MEv GEvI b_EvI m_Ev GO b14 m14 k14 GU b15 m15 k15
  have GFT := ok_firstT (P := l.prog) (w := w) (base := base) F17 T TC
  have GTw := ok_towB (P := l.prog) (w := w) (base := base) F18 T (PySem.W.mg_none_of X G z_enumerate) TR TS HL
  have GBa := ok_bandsL (P := l.prog) (w := w) (base := base) F19 TR TS HW
  have GCI := ok_cinit F_HI T TR TS TH GRO b6 m6 k6 GFT b17 m17 k17 GN b16 m16 k16 HB GBa b19 m19 k19 GTw b18 m18 k18
  have MH : Mk K CH f_HI := ⟨mk_H, am_HI, im_HI, kc_H⟩
  have GC := ok_cell (P := l.prog) (w := w) (base := base) F30 T
  have GD := ok_drawn3 F31 T GC b30 m30 k30
  have GEn := ok_ends (P := l.prog) (w := w) (mg := mg) (base := base) F21 TR
  have GMh := ok_mayHo (P := l.prog) (w := w) (mg := mg) (base := base) F20 TR
  have GMEv := ok_mayEv F22 TR GEn b21 m21 k21
  have GMOv := ok_mayOv F23 TR GEn b21 m21 k21
  have GMUn := ok_mayUn F24 TR GEn b21 m21 k21
  have GMOs := ok_mayOs F25 TR GEn b21 m21 k21 GT b13 m13 k13
  have GMUs := ok_mayUs F26 TR GEn b21 m21 k21 GT b13 m13 k13
  have GSR := ok_stepRow F27 TR GMh b20 m20 k20 GMEv b22 m22 k22 GMOv b23 m23 k23 GMUn b24 m24 k24 GMOs b25 m25 k25 GMUs b26 m26 k26 MHo GHoI b_HoI m_Ho MEv GEvI b_EvI m_Ev MOv GOvI b_OvI m_Ov MUn GUnI b_UnI m_Un MOs GOsI b_OsI m_Os MUs GUsI b_UsI m_Us
  have GBl := ok_led F28 TR GRO b6 m6 k6 GFT b17 m17 k17 GSR b27 m27 k27 HB GBa b19 m19 k19 GTw b18 m18 k18
  have GEx := ok_exam F29 GBl b28 m28 k28
  have GLb := ok_lbehind (P := l.prog) (w := w) (base := base) F33 T
  have GLt := ok_lturns F34 GLb b33 m33 k33
  have GLnx := ok_lnext F37 GLt b34 m34 k34
  have GLp := ok_paired (P := l.prog) (w := w) (base := base) F35 (PySem.W.mg_none_of X G z_int)
  have GLs := ok_lstep F36 T (PySem.W.mg_none_of X G z_int) GLp b35 m35 k35
  have GLg := ok_begun (P := l.prog) (w := w) (base := base) F32 T
  have GLo := ok_other F38 GLnx b37 m37 k37
  exact ok_law F39 T TH GC b30 m30 k30 GD b31 m31 k31 ML GI b_LI mg_L GLg b32 m32 k32 GLo b38 m38 k38 GLs b36 m36 k36 GEx b29 m29 k29 GBl b28 m28 k28 MH GCI b_HI mg_H
theorem walk {l:PySem.W.OpenLaw} {q:Program} {loose:List Str} {XP:(Str→Option Value)→Heap→Prop} {YP:World→Heap→Prop} {d:DefRec} {K:Params→PySem.W.Frag} (hn:l.most=some 63) (hdf:d.params.defaults=[])
  (hY:∀ (w:World) (h:Heap),YP w h→(K w.params).In h)
  (F:∀ (w:World) (mg:Str→Option Value) (fa:Addr) (h:Heap),(K w.params).In h→h.Ns mainGlobals mg→mg d.name=some (.ref fa)→
   ∃ fd:FuncData,(∀ (s:Shared) (u:Value),BindsTo s fd ⟨[u],[]⟩ [("script",u)])∧∀ base:Heap,(K w.params).In base→base.Ns mainGlobals mg→FnOk l.prog w (K w.params) mg base CX0 8 fa fd ["script"] (spLaw (K w.params))) :
  PySem.W.WalkO q loose XP YP l.row.toRowW d [] (fun f vs=>PySem.call f vs) :=
 L2.walk_of (n:=63) (k:=8) (x:="script") (CX:=fun _=>CX0) (sp:=fun w=>spLaw (K w.params)) hn (by decide) hdf ⟨rfl,by decide,by decide⟩ hY F (fun _ _ a ns hl _ hS=>⟨a,ns,rfl,hS,hl,fun _=>rfl⟩) fun _ _ _ _ _ z=>z
end R25
open PySem PySem.W PyProof.Rows
def PySem.W.Fast.tw2440179764475337106 : Unit := ()
def PySem.W.Fast.tw16511861859598911525 : Unit := ()
def PySem.W.Fast.tw16352474452254238437 : Unit := ()
def PySem.W.Fast.tw4640661712820305966 : Unit := ()
def PySem.W.Fast.tw12997044900622667703 : Unit := ()
def PySem.W.Fast.tw5323357438695953042 : Unit := ()
def PySem.W.Fast.tw5592702798856407286 : Unit := ()
def PySem.W.Fast.tw10201387989786707265 : Unit := ()
def PySem.W.Fast.tw8851072097232157809 : Unit := ()
def PySem.W.Fast.tw17253142686900670579 : Unit := ()
def PySem.W.Fast.tw15782684959487155695 : Unit := ()
def PySem.W.Fast.tw3150449153741083586 : Unit := ()
def PySem.W.Fast.tw16993733663184263557 : Unit := ()
def PySem.W.Fast.tw6274079073452472142 : Unit := ()
def PySem.W.Fast.tw128637649037913228 : Unit := ()
def PySem.W.Fast.tw2025006621428990092 : Unit := ()
def PySem.W.Fast.tw13470399129530100856 : Unit := ()
def PySem.W.Fast.tw3490439344044902051 : Unit := ()
def PySem.W.Fast.tw8100917039135406625 : Unit := ()
namespace PySem.W.Fast
def tw12478975718573183590:Unit:=()
def tw11101484266738224219:Unit:=()
def tw17256429475590691704:Unit:=()
def tw17724712620553389225:Unit:=()
def tw10680329720989217862:Unit:=()
def tw9919638187622006103:Unit:=()
def tw2055946355130685929:Unit:=()
def tw1243592578676944011:Unit:=()
def tw10082383509358566046:Unit:=()
def tw18125941712686351854:Unit:=()
def tw1150989384324420707:Unit:=()
def tw13397519191525369268:Unit:=()
def tw3311100210367443682:Unit:=()
def tw13245245571686605011:Unit:=()
def tw16854930243846548392:Unit:=()
def tw12866473454881817004:Unit:=()
def tw9663984869321468557:Unit:=()
def tw1864462268770777962:Unit:=()
def tw54998038563187582:Unit:=()
def tw7414806406356543484:Unit:=()
def tw5067364440568027625:Unit:=()
def tw13969870754809091493:Unit:=()
def tw3208915620518066823:Unit:=()
def tw13546122434914308623:Unit:=()
def tw10700026710505542915:Unit:=()
def tw7076540428125755914:Unit:=()
def tw16935440676828005126:Unit:=()
def tw13623249044841214802:Unit:=()
def tw13726572877841155097:Unit:=()
def tw4498730277060082724:Unit:=()
def tw2364488366463744107:Unit:=()
def tw18409135289822239934:Unit:=()
def tw11257166960338509853:Unit:=()
def tw6092631969289242635:Unit:=()
def tw3784137463062500078:Unit:=()
def tw12235849207320977521:Unit:=()
def tw5947929300714144532:Unit:=()
def tw8638458475623758154:Unit:=()
def tw583194707591187834:Unit:=()
def tw16528057477988581636:Unit:=()
def tw15130777842475413573:Unit:=()
def tw4032446660595990033:Unit:=()
def tw718449706981517065:Unit:=()
def tw15817276318325198911:Unit:=()
def tw1532440722156960209:Unit:=()
def tw5555484674264077139:Unit:=()
def tw3517441837116930133:Unit:=()
def tw462814268109646570:Unit:=()
def tw11472041994515884752:Unit:=()
def tw10474379167305047751:Unit:=()
def tw16566536306134769740:Unit:=()
def tw3221355316774108458:Unit:=()
def tw10541706821579333482:Unit:=()
def tw11325750880650779782:Unit:=()
def tw17912547993202782539:Unit:=()
def tw4234647116924445971:Unit:=()
def tw15444679006617663779:Unit:=()
def tw4697756308088892001:Unit:=()
def tw11678430658050549296:Unit:=()
def tw14072284715619639997:Unit:=()
def tw7102011428462454684:Unit:=()
def tw17734379600668995469:Unit:=()
def tw922622889191245526:Unit:=()
def tw9121890712828271274:Unit:=()
def tw16198713813280578059:Unit:=()
def tw4724684817914089707:Unit:=()
def tw13326534668338632065:Unit:=()
def tw9351908818090822955:Unit:=()
def tw6598140696870985064:Unit:=()
def tw14761311405574940322:Unit:=()
def tw4772477143144431808:Unit:=()
def tw6315270877430793645:Unit:=()
def tw14512523070710886586:Unit:=()
def tw6192649509376947789:Unit:=()
def tw8709928111695238720:Unit:=()
def tw5867804640671870304:Unit:=()
def tw18380080125422057901:Unit:=()
def tw9811972184681824642:Unit:=()
def tw2069888576669385529:Unit:=()
def tw17106733845604271964:Unit:=()
def tw4902097291853241846:Unit:=()
def tw10126412554690096147:Unit:=()
def tw13485508457624997582:Unit:=()
def tw9202041401394807864:Unit:=()
def tw259006164156723552:Unit:=()
def tw188068755540416812:Unit:=()
def tw6005762009800826884:Unit:=()
def tw14080797960123875230:Unit:=()
def tw10545082425677642413:Unit:=()
def tw10501913215171935064:Unit:=()
def tw11372111332869475457:Unit:=()
def tw11026059465754898611:Unit:=()
def tw16959239697360724567:Unit:=()
def tw13799774074134792317:Unit:=()
def tw15520018668748698356:Unit:=()
def tw18089516638292171655:Unit:=()
def tw1683029561503741534:Unit:=()
def tw8122935409823057424:Unit:=()
def tw4087724445577826150:Unit:=()
def tw9254140485402537578:Unit:=()
def tw9144582735751906265:Unit:=()
def tw16081489826885574619:Unit:=()
def tw5844462729147935831:Unit:=()
def tw8922486594125577399:Unit:=()
def tw15803029509122022598:Unit:=()
def tw2509969217194318702:Unit:=()
def tw9297690916127719359:Unit:=()
def tw4070328241244756020:Unit:=()
def tw1219567324540823314:Unit:=()
def tw1032606278379875204:Unit:=()
def tw13487705737257963078:Unit:=()
def tw14907591767497798680:Unit:=()
def tw16834202725035417112:Unit:=()
def tw4638493322404933863:Unit:=()
def tw6645870169066360569:Unit:=()
def tw8093616320536046905:Unit:=()
def tw784581157383455902:Unit:=()
def tw8705919570259289235:Unit:=()
def tw10450617737780533333:Unit:=()
def tw17248910744701766436:Unit:=()
def tw1389227794815437019:Unit:=()
def tw7434447228758031370:Unit:=()
def tw10030948993064366451:Unit:=()
def tw10535086201366909408:Unit:=()
def tw17081063393864794628:Unit:=()
def tw3544370215460087969:Unit:=()
def tw5911988452246174065:Unit:=()
def tw215113697280360073:Unit:=()
def tw3768493143864914483:Unit:=()
def tw13254955448878370043:Unit:=()
def tw11330972064018556541:Unit:=()
def tw6543475300453683334:Unit:=()
def tw2394834551547631495:Unit:=()
def tw1886900459241781960:Unit:=()
def tw3426340938191621222:Unit:=()
def tw4848471428565363187:Unit:=()
def tw1993085846246402536:Unit:=()
def tw17709161589849620209:Unit:=()
def tw8084844112118356041:Unit:=()
def tw8537989669755119778:Unit:=()
def tw11937057888540454867:Unit:=()
def tw11034127627243967810:Unit:=()
def tw7882684420435835327:Unit:=()
def tw12736393204014335467:Unit:=()
def tw8080575082855164348:Unit:=()
def tw13872940626697343436:Unit:=()
def tw5500666159823013495:Unit:=()
def tw5594903911283432215:Unit:=()
def tw11152413922766726233:Unit:=()
def tw16879444503350353719:Unit:=()
def tw8540313172618215710:Unit:=()
def tw4578614996079593185:Unit:=()
def tw7680429672228979053:Unit:=()
def tw60698127760037602:Unit:=()
def tw18359523738987602033:Unit:=()
def tw12545987700983127984:Unit:=()
def tw10767230940644669293:Unit:=()
def tw5303846892395594296:Unit:=()
def tw4654792536431156210:Unit:=()
def tw17406675760461833931:Unit:=()
def tw2822589657483660056:Unit:=()
def tw9827084828885046460:Unit:=()
def tw18033505608881193878:Unit:=()
def tw14487284887982177287:Unit:=()
def tw15326645928655425911:Unit:=()
def tw4752967402597467533:Unit:=()
def tw18347206428268810056:Unit:=()
def tw13189537151172975881:Unit:=()
def tw10753782128514890604:Unit:=()
def tw731434593643520155:Unit:=()
def tw10725666258743434643:Unit:=()
def tw3084746303927112847:Unit:=()
def tw4804270146859533055:Unit:=()
def tw8271707162414063672:Unit:=()
def tw12655368333231826603:Unit:=()
def tw4316354114695013289:Unit:=()
def tw17424100596747660472:Unit:=()
def tw11238057714499402659:Unit:=()
def tw12071869281309818325:Unit:=()
def tw14129887532802339728:Unit:=()
def tw6772812003092241432:Unit:=()
def tw14562018028092327821:Unit:=()
def tw5310614888608936151:Unit:=()
def tw15370494803641491846:Unit:=()
def tw6354813554156408182:Unit:=()
def tw776587092747741735:Unit:=()
def tw10900157166275582969:Unit:=()
def tw2718348778370910225:Unit:=()
def tw17571196610787577830:Unit:=()
def tw2184744391506338354:Unit:=()
def tw4106529004660708130:Unit:=()
def tw11642198337747909222:Unit:=()
def tw14583983905438306796:Unit:=()
def tw11376187206602764278:Unit:=()
def tw8786807371779024589:Unit:=()
def tw10880101565799265924:Unit:=()
def tw14421212081692630482:Unit:=()
def tw10197315712476613772:Unit:=()
def tw6054952464924509662:Unit:=()
def tw12942210247348591229:Unit:=()
def tw13119740602992981653:Unit:=()
def tw3297444820399123263:Unit:=()
def tw11129319902707498787:Unit:=()
def tw45855633028934848:Unit:=()
def tw7221352990354026969:Unit:=()
def tw5429121812770972607:Unit:=()
def tw15151496636437660636:Unit:=()
def tw19751464691645972:Unit:=()
def tw9207686784838476556:Unit:=()
def tw4301337545096270914:Unit:=()
def tw8374499415534552038:Unit:=()
def tw17257704783951338576:Unit:=()
def tw17214868361445186882:Unit:=()
def tw9072306518750262958:Unit:=()
def tw11508238680434979863:Unit:=()
def tw2399028199599275266:Unit:=()
def tw925959072158287842:Unit:=()
def tw12325946565938888065:Unit:=()
def tw17928983431592631016:Unit:=()
def tw4745583333547911849:Unit:=()
def tw4807467154924794224:Unit:=()
def tw7037733259689994874:Unit:=()
def tw3115165524737175824:Unit:=()
def tw9027864924019985259:Unit:=()
def tw6336195494607904675:Unit:=()
def tw4516387528477482161:Unit:=()
def tw9327857643240033314:Unit:=()
def tw14827649219490321661:Unit:=()
def tw9314334699360294117:Unit:=()
def tw11905737422426371347:Unit:=()
def tw14628045709445930689:Unit:=()
def tw10352871518315344875:Unit:=()
def tw17431781425494581468:Unit:=()
def tw14201087115557447567:Unit:=()
def tw9146999826644383598:Unit:=()
def tw12777874136399504289:Unit:=()
def tw156384880977791242:Unit:=()
def tw4772123077181976219:Unit:=()
def tw11517798671188815947:Unit:=()
def tw1292576687571368579:Unit:=()
def tw5348152677063287012:Unit:=()
def tw7615990608727392437:Unit:=()
def tw3309448956226351189:Unit:=()
def tw8907055913559385812:Unit:=()
def tw8557629858805431867:Unit:=()
def tw5370452621033641541:Unit:=()
def tw2683153634132668963:Unit:=()
def tw15924382503250677551:Unit:=()
def tw4625164731625060594:Unit:=()
def tw7402101190780168377:Unit:=()
def tw11216143057079546311:Unit:=()
def tw3299075426532910494:Unit:=()
def tw6278215919494289661:Unit:=()
def tw13901085575246829103:Unit:=()
def tw3725211977949070377:Unit:=()
def tw6999069301184803893:Unit:=()
def tw1319227943829974312:Unit:=()
def tw15351248788343953944:Unit:=()
def tw10564487528963709878:Unit:=()
def tw13586548619084095282:Unit:=()
def tw3428891319568295804:Unit:=()
def tw10517511068607601850:Unit:=()
def tw8152687807920449378:Unit:=()
def tw18210309785994564993:Unit:=()
def tw9040258084741480065:Unit:=()
def tw9552278312311750226:Unit:=()
def tw9086746681492868017:Unit:=()
def tw10959684474479901400:Unit:=()
def tw11092103816848440873:Unit:=()
def tw6589061073750717499:Unit:=()
def tw6487538107737285699:Unit:=()
def tw17752516103316851260:Unit:=()
def tw12832077485952793464:Unit:=()
def tw5979664094261339409:Unit:=()
def tw4302006226696605779:Unit:=()
def tw17319702561379188694:Unit:=()
def tw9080345265012002233:Unit:=()
def tw15473612373670230666:Unit:=()
def tw13942858505713672627:Unit:=()
def tw12777931550151086723:Unit:=()
def tw9097374263730507558:Unit:=()
def tw358166200451231090:Unit:=()
def tw2612281443403560219:Unit:=()
def tw14800749992345161020:Unit:=()
def tw8603347266041875845:Unit:=()
def tw12219633213858191435:Unit:=()
def tw2745435880100529102:Unit:=()
def tw15835646442563298752:Unit:=()
def tw9024587325723474087:Unit:=()
def tw2760264147711044515:Unit:=()
def tw16887408562879016010:Unit:=()
def tw4235163361470472919:Unit:=()
def tw13997578754454763134:Unit:=()
def tw4984484626487928500:Unit:=()
def tw3598154215348078351:Unit:=()
def tw1140278312620572603:Unit:=()
def tw1175167971305311122:Unit:=()
def tw16219885803006693870:Unit:=()
def tw11003733857168307154:Unit:=()
def tw11719219391210571107:Unit:=()
def tw6975491340531788381:Unit:=()
def tw15870865371379624979:Unit:=()
def tw13591407651340904530:Unit:=()
def tw2638555608939885044:Unit:=()
def tw11135544168924934927:Unit:=()
def tw10615983880610940510:Unit:=()
def tw14711206115343787126:Unit:=()
def tw16554481748488778627:Unit:=()
def tw2410949766444453866:Unit:=()
def tw803408495223542789:Unit:=()
def tw6501193995805936759:Unit:=()
def tw6902951735169426719:Unit:=()
def tw8416776536525394039:Unit:=()
def tw9686671703720870472:Unit:=()
def tw4819902563552855896:Unit:=()
def tw17320548795902337787:Unit:=()
def tw473158516176980478:Unit:=()
def tw13199998386811626118:Unit:=()
def tw4174356048905804190:Unit:=()
def tw1893217642166844737:Unit:=()
def tw9665489751418861435:Unit:=()
def tw12039673073849202570:Unit:=()
def tw9119895052739642414:Unit:=()
def tw9218836652936240990:Unit:=()
def tw2261591220309577730:Unit:=()
def tw15319714567697241679:Unit:=()
def tw4866301134589923703:Unit:=()
def tw7523637009077543100:Unit:=()
def tw6067640537990936620:Unit:=()
def tw10459995598351097864:Unit:=()
def tw12025573464727534652:Unit:=()
def tw16392819054389936238:Unit:=()
def tw8737593235630091956:Unit:=()
def tw2153695393972727253:Unit:=()
def tw11826351500969000716:Unit:=()
def tw6503512422165480951:Unit:=()
def tw8039346938658556124:Unit:=()
def tw15846718898487335866:Unit:=()
def tw5377765461487736134:Unit:=()
def tw10747960182312769563:Unit:=()
def tw11392356576687030565:Unit:=()
def tw11820350651541715490:Unit:=()
def tw5240987680504602047:Unit:=()
def tw8193335027725943539:Unit:=()
def tw11227938938489039909:Unit:=()
def tw6461321768250988961:Unit:=()
def tw560047065261811509:Unit:=()
def tw960181324719860857:Unit:=()
def tw13750520720795554895:Unit:=()
def tw13591647947722266624:Unit:=()
def tw1467215850809808340:Unit:=()
def tw13631855081300812010:Unit:=()
def tw8525319591057794236:Unit:=()
def tw17785539430713623325:Unit:=()
def tw8386971751934894529:Unit:=()
def tw11013173644926397205:Unit:=()
def tw2404286913029719338:Unit:=()
def tw12974833389638035209:Unit:=()
def tw4533257578182273956:Unit:=()
def tw9600155151545821417:Unit:=()
def tw4448173955799523943:Unit:=()
def tw227220723345371744:Unit:=()
def tw7690553513033483944:Unit:=()
def tw3452337259653281866:Unit:=()
def tw5320876835493765779:Unit:=()
def tw5667413231566722143:Unit:=()
def tw3068268728489120878:Unit:=()
def tw8420854528447517016:Unit:=()
def tw3150610639892500134:Unit:=()
def tw7721100194734785746:Unit:=()
def tw17056119919069236204:Unit:=()
def tw4257739012668244930:Unit:=()
def tw15399143765008607592:Unit:=()
def tw17132699199219039072:Unit:=()
def tw17708749589820741665:Unit:=()
def tw696232492379230934:Unit:=()
def tw4638850643973605671:Unit:=()
def tw3291716822176605766:Unit:=()
def tw6544814846050653215:Unit:=()
def tw10754917664618577387:Unit:=()
def tw16566640679366753985:Unit:=()
def tw9958374450318842324:Unit:=()
def tw8467304194604051150:Unit:=()
def tw12432999746229140462:Unit:=()
def tw9918289883350259668:Unit:=()
def tw9318282638185770004:Unit:=()
def tw14145057511349262992:Unit:=()
def tw6495729213925397020:Unit:=()
def tw7190932067452196343:Unit:=()
def tw15687351760782156859:Unit:=()
def tw12877257600997409135:Unit:=()
def tw16949364194983714605:Unit:=()
def tw14214177169217051740:Unit:=()
def tw8312104413131035368:Unit:=()
end PySem.W.Fast
theorem PySem.Challenge.cw_relaid_k25_whole_any_paper_holds : PySem.Challenge.rw_relaid_k25_whole_any_paper.Holds := by
  w_on; o_law; k_head; (case hw => w_witness2)
  k_fill
  refine R25.walk (l := PySem.Challenge.rw_relaid_k25_whole_any_paper) rfl rfl (fun w h Y => PySem.W.kIn_of Y) ?F
  case F =>
    intro w mg fa h KX G hmg
    refine' R25.all_mk KX G hmg ?a_L ?a_R ?a_H ?a_St ?a_Ho ?a_Ev ?a_Ov ?a_Un ?a_Os ?a_Us ?a0 ?l0 ?c0 ?k0 ?a1 ?l1 ?c1 ?k1 ?a2 ?l2 ?c2 ?k2 ?a3 ?l3 ?c3 ?k3 ?a4 ?l4 ?c4 ?k4 ?a5 ?l5 ?c5 ?k5 ?a6 ?l6 ?c6 ?k6 ?a7 ?l7 ?c7 ?k7 ?a8 ?l8 ?c8 ?k8 ?a9 ?l9 ?c9 ?k9 ?a10 ?l10 ?c10 ?k10 ?a11 ?l11 ?c11 ?k11 ?a12 ?l12 ?c12 ?k12 ?a13 ?l13 ?c13 ?k13 ?a14 ?l14 ?c14 ?k14 ?a15 ?l15 ?c15 ?k15 ?a16 ?l16 ?c16 ?k16 ?a17 ?l17 ?c17 ?k17 ?a18 ?l18 ?c18 ?k18 ?a19 ?l19 ?c19 ?k19 ?a20 ?l20 ?c20 ?k20 ?a21 ?l21 ?c21 ?k21 ?a22 ?l22 ?c22 ?k22 ?a23 ?l23 ?c23 ?k23 ?a24 ?l24 ?c24 ?k24 ?a25 ?l25 ?c25 ?k25 ?a26 ?l26 ?c26 ?k26 ?a27 ?l27 ?c27 ?k27 ?a28 ?l28 ?c28 ?k28 ?a29 ?l29 ?c29 ?k29 ?a30 ?l30 ?c30 ?k30 ?a31 ?l31 ?c31 ?k31 ?a32 ?l32 ?c32 ?k32 ?a33 ?l33 ?c33 ?k33 ?a34 ?l34 ?c34 ?k34 ?a35 ?l35 ?c35 ?k35 ?a36 ?l36 ?c36 ?k36 ?a37 ?l37 ?c37 ?k37 ?a38 ?l38 ?c38 ?k38 ?a39 ?l39 ?c39 ?k39 ?am_LI ?im_LI ?lm_LI ?cm_LI ?km_LI ?lT ?pg_L ?hd_L ?po_L ?sa_L ?mk_L ?kc_L ?n_L_lengths ?n_L_order ?n_L_turned ?n_L_starts ?n_L_laid ?n_L_size ?am_RI ?im_RI ?lm_RI ?cm_RI ?km_RI ?pg_R ?hd_R ?po_R ?sa_R ?mk_R ?kc_R ?n_R_top ?n_R_bottom ?n_R_lengths ?n_R_turned ?n_R_size ?ic_R ?mo_R ?am_HI ?im_HI ?lm_HI ?cm_HI ?km_HI ?pg_H ?hd_H ?po_H ?sa_H ?mk_H ?kc_H ?n_H_line ?n_H_rests ?n_H_steps ?n_H_towers ?n_H_bands ?am_StI ?im_StI ?lm_StI ?cm_StI ?km_StI ?am_StL ?im_StL ?lm_StL ?cm_StL ?km_StL ?pg_St ?hd_St ?po_St ?sa_St ?am_HoI ?im_HoI ?lm_HoI ?cm_HoI ?km_HoI ?am_HoW ?im_HoW ?lm_HoW ?cm_HoW ?km_HoW ?am_HoL ?im_HoL ?lm_HoL ?cm_HoL ?km_HoL ?am_HoB ?im_HoB ?lm_HoB ?cm_HoB ?km_HoB ?pg_Ho ?hd_Ho ?po_Ho ?sa_Ho ?mk_Ho ?kc_Ho ?n_Ho_winner ?n_Ho_loser ?n_Ho_times ?ic_Ho ?mo_Ho ?am_EvI ?im_EvI ?lm_EvI ?cm_EvI ?km_EvI ?am_EvW ?im_EvW ?lm_EvW ?cm_EvW ?km_EvW ?am_EvB ?im_EvB ?lm_EvB ?cm_EvB ?km_EvB ?ih_Ev_losers ?pg_Ev ?hd_Ev ?po_Ev ?sa_Ev ?mk_Ev ?kc_Ev ?n_Ev_winner ?n_Ev_loser ?n_Ev_times ?ic_Ev ?mo_Ev ?am_OvI ?im_OvI ?lm_OvI ?cm_OvI ?km_OvI ?am_OvW ?im_OvW ?lm_OvW ?cm_OvW ?km_OvW ?am_OvB ?im_OvB ?lm_OvB ?cm_OvB ?km_OvB ?ih_Ov_losers ?pg_Ov ?hd_Ov ?po_Ov ?sa_Ov ?mk_Ov ?kc_Ov ?n_Ov_winner ?n_Ov_loser ?n_Ov_times ?ic_Ov ?mo_Ov ?am_UnI ?im_UnI ?lm_UnI ?cm_UnI ?km_UnI ?am_UnW ?im_UnW ?lm_UnW ?cm_UnW ?km_UnW ?am_UnB ?im_UnB ?lm_UnB ?cm_UnB ?km_UnB ?ih_Un_losers ?pg_Un ?hd_Un ?po_Un ?sa_Un ?mk_Un ?kc_Un ?n_Un_winner ?n_Un_loser ?n_Un_times ?ic_Un ?mo_Un ?am_OsI ?im_OsI ?lm_OsI ?cm_OsI ?km_OsI ?am_OsW ?im_OsW ?lm_OsW ?cm_OsW ?km_OsW ?am_OsL ?im_OsL ?lm_OsL ?cm_OsL ?km_OsL ?am_OsB ?im_OsB ?lm_OsB ?cm_OsB ?km_OsB ?pg_Os ?hd_Os ?po_Os ?sa_Os ?mk_Os ?kc_Os ?n_Os_winner ?n_Os_loser ?n_Os_times ?ic_Os ?mo_Os ?am_UsI ?im_UsI ?lm_UsI ?cm_UsI ?km_UsI ?am_UsW ?im_UsW ?lm_UsW ?cm_UsW ?km_UsW ?am_UsL ?im_UsL ?lm_UsL ?cm_UsL ?km_UsL ?am_UsB ?im_UsB ?lm_UsB ?cm_UsB ?km_UsB ?pg_Us ?hd_Us ?po_Us ?sa_Us ?mk_Us ?kc_Us ?n_Us_winner ?n_Us_loser ?n_Us_times ?ic_Us ?mo_Us ?sget ?stk ?z_len ?z_min ?z_sum ?z_sorted ?z_list ?z_range ?z_tuple ?z_int ?z_enumerate ?z_ValueError ?v_MOST_PIECES ?sbB ?rdB ?fdB
    (case a_L => k_is)
    (case a_R => k_is)
    (case a_H => k_is)
    (case a_St => k_is)
    (case a_Ho => k_is)
    (case a_Ev => k_is)
    (case a_Ov => k_is)
    (case a_Un => k_is)
    (case a_Os => k_is)
    (case a_Us => k_is)
    (case a0 => k_is)
    (case l0 => k_is)
    (case c0 => k_is)
    (case k0 => k_is)
    (case a1 => k_is)
    (case l1 => k_is)
    (case c1 => k_is)
    (case k1 => k_is)
    (case a2 => k_is)
    (case l2 => k_is)
    (case c2 => k_is)
    (case k2 => k_is)
    (case a3 => k_is)
    (case l3 => k_is)
    (case c3 => k_is)
    (case k3 => k_is)
    (case a4 => k_is)
    (case l4 => k_is)
    (case c4 => k_is)
    (case k4 => k_is)
    (case a5 => k_is)
    (case l5 => k_is)
    (case c5 => k_is)
    (case k5 => k_is)
    (case a6 => k_is)
    (case l6 => k_is)
    (case c6 => k_is)
    (case k6 => k_is)
    (case a7 => k_is)
    (case l7 => k_is)
    (case c7 => k_is)
    (case k7 => k_is)
    (case a8 => k_is)
    (case l8 => k_is)
    (case c8 => k_is)
    (case k8 => k_is)
    (case a9 => k_is)
    (case l9 => k_is)
    (case c9 => k_is)
    (case k9 => k_is)
    (case a10 => k_is)
    (case l10 => k_is)
    (case c10 => k_is)
    (case k10 => k_is)
    (case a11 => k_is)
    (case l11 => k_is)
    (case c11 => k_is)
    (case k11 => k_is)
    (case a12 => k_is)
    (case l12 => k_is)
    (case c12 => k_is)
    (case k12 => k_is)
    (case a13 => k_is)
    (case l13 => k_is)
    (case c13 => k_is)
    (case k13 => k_is)
    (case a14 => k_is)
    (case l14 => k_is)
    (case c14 => k_is)
    (case k14 => k_is)
    (case a15 => k_is)
    (case l15 => k_is)
    (case c15 => k_is)
    (case k15 => k_is)
    (case a16 => k_is)
    (case l16 => k_is)
    (case c16 => k_is)
    (case k16 => k_is)
    (case a17 => k_is)
    (case l17 => k_is)
    (case c17 => k_is)
    (case k17 => k_is)
    (case a18 => k_is)
    (case l18 => k_is)
    (case c18 => k_is)
    (case k18 => k_is)
    (case a19 => k_is)
    (case l19 => k_is)
    (case c19 => k_is)
    (case k19 => k_is)
    (case a20 => k_is)
    (case l20 => k_is)
    (case c20 => k_is)
    (case k20 => k_is)
    (case a21 => k_is)
    (case l21 => k_is)
    (case c21 => k_is)
    (case k21 => k_is)
    (case a22 => k_is)
    (case l22 => k_is)
    (case c22 => k_is)
    (case k22 => k_is)
    (case a23 => k_is)
    (case l23 => k_is)
    (case c23 => k_is)
    (case k23 => k_is)
    (case a24 => k_is)
    (case l24 => k_is)
    (case c24 => k_is)
    (case k24 => k_is)
    (case a25 => k_is)
    (case l25 => k_is)
    (case c25 => k_is)
    (case k25 => k_is)
    (case a26 => k_is)
    (case l26 => k_is)
    (case c26 => k_is)
    (case k26 => k_is)
    (case a27 => k_is)
    (case l27 => k_is)
    (case c27 => k_is)
    (case k27 => k_is)
    (case a28 => k_is)
    (case l28 => k_is)
    (case c28 => k_is)
    (case k28 => k_is)
    (case a29 => k_is)
    (case l29 => k_is)
    (case c29 => k_is)
    (case k29 => k_is)
    (case a30 => k_is)
    (case l30 => k_is)
    (case c30 => k_is)
    (case k30 => k_is)
    (case a31 => k_is)
    (case l31 => k_is)
    (case c31 => k_is)
    (case k31 => k_is)
    (case a32 => k_is)
    (case l32 => k_is)
    (case c32 => k_is)
    (case k32 => k_is)
    (case a33 => k_is)
    (case l33 => k_is)
    (case c33 => k_is)
    (case k33 => k_is)
    (case a34 => k_is)
    (case l34 => k_is)
    (case c34 => k_is)
    (case k34 => k_is)
    (case a35 => k_is)
    (case l35 => k_is)
    (case c35 => k_is)
    (case k35 => k_is)
    (case a36 => k_is)
    (case l36 => k_is)
    (case c36 => k_is)
    (case k36 => k_is)
    (case a37 => k_is)
    (case l37 => k_is)
    (case c37 => k_is)
    (case k37 => k_is)
    (case a38 => k_is)
    (case l38 => k_is)
    (case c38 => k_is)
    (case k38 => k_is)
    (case a39 => k_is)
    (case l39 => k_is)
    (case c39 => k_is)
    (case k39 => k_is)
    (case am_LI => k_is)
    (case im_LI => k_is)
    (case lm_LI => k_is)
    (case cm_LI => k_is)
    (case km_LI => k_is)
    (case lT => k_is)
    (case pg_L => k_is)
    (case hd_L => k_is)
    (case po_L => k_is)
    (case sa_L => k_is)
    (case mk_L => k_is)
    (case kc_L => k_is)
    (case n_L_lengths => k_is)
    (case n_L_order => k_is)
    (case n_L_turned => k_is)
    (case n_L_starts => k_is)
    (case n_L_laid => k_is)
    (case n_L_size => k_is)
    (case am_RI => k_is)
    (case im_RI => k_is)
    (case lm_RI => k_is)
    (case cm_RI => k_is)
    (case km_RI => k_is)
    (case pg_R => k_is)
    (case hd_R => k_is)
    (case po_R => k_is)
    (case sa_R => k_is)
    (case mk_R => k_is)
    (case kc_R => k_is)
    (case n_R_top => k_is)
    (case n_R_bottom => k_is)
    (case n_R_lengths => k_is)
    (case n_R_turned => k_is)
    (case n_R_size => k_is)
    (case ic_R => k_is)
    (case mo_R => k_is)
    (case am_HI => k_is)
    (case im_HI => k_is)
    (case lm_HI => k_is)
    (case cm_HI => k_is)
    (case km_HI => k_is)
    (case pg_H => k_is)
    (case hd_H => k_is)
    (case po_H => k_is)
    (case sa_H => k_is)
    (case mk_H => k_is)
    (case kc_H => k_is)
    (case n_H_line => k_is)
    (case n_H_rests => k_is)
    (case n_H_steps => k_is)
    (case n_H_towers => k_is)
    (case n_H_bands => k_is)
    (case am_StI => k_is)
    (case im_StI => k_is)
    (case lm_StI => k_is)
    (case cm_StI => k_is)
    (case km_StI => k_is)
    (case am_StL => k_is)
    (case im_StL => k_is)
    (case lm_StL => k_is)
    (case cm_StL => k_is)
    (case km_StL => k_is)
    (case pg_St => k_is)
    (case hd_St => k_is)
    (case po_St => k_is)
    (case sa_St => k_is)
    (case am_HoI => k_is)
    (case im_HoI => k_is)
    (case lm_HoI => k_is)
    (case cm_HoI => k_is)
    (case km_HoI => k_is)
    (case am_HoW => k_is)
    (case im_HoW => k_is)
    (case lm_HoW => k_is)
    (case cm_HoW => k_is)
    (case km_HoW => k_is)
    (case am_HoL => k_is)
    (case im_HoL => k_is)
    (case lm_HoL => k_is)
    (case cm_HoL => k_is)
    (case km_HoL => k_is)
    (case am_HoB => k_is)
    (case im_HoB => k_is)
    (case lm_HoB => k_is)
    (case cm_HoB => k_is)
    (case km_HoB => k_is)
    (case pg_Ho => k_is)
    (case hd_Ho => k_is)
    (case po_Ho => k_is)
    (case sa_Ho => k_is)
    (case mk_Ho => k_is)
    (case kc_Ho => k_is)
    (case n_Ho_winner => k_is)
    (case n_Ho_loser => k_is)
    (case n_Ho_times => k_is)
    (case ic_Ho => k_is)
    (case mo_Ho => k_is)
    (case am_EvI => k_is)
    (case im_EvI => k_is)
    (case lm_EvI => k_is)
    (case cm_EvI => k_is)
    (case km_EvI => k_is)
    (case am_EvW => k_is)
    (case im_EvW => k_is)
    (case lm_EvW => k_is)
    (case cm_EvW => k_is)
    (case km_EvW => k_is)
    (case am_EvB => k_is)
    (case im_EvB => k_is)
    (case lm_EvB => k_is)
    (case cm_EvB => k_is)
    (case km_EvB => k_is)
    (case ih_Ev_losers => k_is)
    (case pg_Ev => k_is)
    (case hd_Ev => k_is)
    (case po_Ev => k_is)
    (case sa_Ev => k_is)
    (case mk_Ev => k_is)
    (case kc_Ev => k_is)
    (case n_Ev_winner => k_is)
    (case n_Ev_loser => k_is)
    (case n_Ev_times => k_is)
    (case ic_Ev => k_is)
    (case mo_Ev => k_is)
    (case am_OvI => k_is)
    (case im_OvI => k_is)
    (case lm_OvI => k_is)
    (case cm_OvI => k_is)
    (case km_OvI => k_is)
    (case am_OvW => k_is)
    (case im_OvW => k_is)
    (case lm_OvW => k_is)
    (case cm_OvW => k_is)
    (case km_OvW => k_is)
    (case am_OvB => k_is)
    (case im_OvB => k_is)
    (case lm_OvB => k_is)
    (case cm_OvB => k_is)
    (case km_OvB => k_is)
    (case ih_Ov_losers => k_is)
    (case pg_Ov => k_is)
    (case hd_Ov => k_is)
    (case po_Ov => k_is)
    (case sa_Ov => k_is)
    (case mk_Ov => k_is)
    (case kc_Ov => k_is)
    (case n_Ov_winner => k_is)
    (case n_Ov_loser => k_is)
    (case n_Ov_times => k_is)
    (case ic_Ov => k_is)
    (case mo_Ov => k_is)
    (case am_UnI => k_is)
    (case im_UnI => k_is)
    (case lm_UnI => k_is)
    (case cm_UnI => k_is)
    (case km_UnI => k_is)
    (case am_UnW => k_is)
    (case im_UnW => k_is)
    (case lm_UnW => k_is)
    (case cm_UnW => k_is)
    (case km_UnW => k_is)
    (case am_UnB => k_is)
    (case im_UnB => k_is)
    (case lm_UnB => k_is)
    (case cm_UnB => k_is)
    (case km_UnB => k_is)
    (case ih_Un_losers => k_is)
    (case pg_Un => k_is)
    (case hd_Un => k_is)
    (case po_Un => k_is)
    (case sa_Un => k_is)
    (case mk_Un => k_is)
    (case kc_Un => k_is)
    (case n_Un_winner => k_is)
    (case n_Un_loser => k_is)
    (case n_Un_times => k_is)
    (case ic_Un => k_is)
    (case mo_Un => k_is)
    (case am_OsI => k_is)
    (case im_OsI => k_is)
    (case lm_OsI => k_is)
    (case cm_OsI => k_is)
    (case km_OsI => k_is)
    (case am_OsW => k_is)
    (case im_OsW => k_is)
    (case lm_OsW => k_is)
    (case cm_OsW => k_is)
    (case km_OsW => k_is)
    (case am_OsL => k_is)
    (case im_OsL => k_is)
    (case lm_OsL => k_is)
    (case cm_OsL => k_is)
    (case km_OsL => k_is)
    (case am_OsB => k_is)
    (case im_OsB => k_is)
    (case lm_OsB => k_is)
    (case cm_OsB => k_is)
    (case km_OsB => k_is)
    (case pg_Os => k_is)
    (case hd_Os => k_is)
    (case po_Os => k_is)
    (case sa_Os => k_is)
    (case mk_Os => k_is)
    (case kc_Os => k_is)
    (case n_Os_winner => k_is)
    (case n_Os_loser => k_is)
    (case n_Os_times => k_is)
    (case ic_Os => k_is)
    (case mo_Os => k_is)
    (case am_UsI => k_is)
    (case im_UsI => k_is)
    (case lm_UsI => k_is)
    (case cm_UsI => k_is)
    (case km_UsI => k_is)
    (case am_UsW => k_is)
    (case im_UsW => k_is)
    (case lm_UsW => k_is)
    (case cm_UsW => k_is)
    (case km_UsW => k_is)
    (case am_UsL => k_is)
    (case im_UsL => k_is)
    (case lm_UsL => k_is)
    (case cm_UsL => k_is)
    (case km_UsL => k_is)
    (case am_UsB => k_is)
    (case im_UsB => k_is)
    (case lm_UsB => k_is)
    (case cm_UsB => k_is)
    (case km_UsB => k_is)
    (case pg_Us => k_is)
    (case hd_Us => k_is)
    (case po_Us => k_is)
    (case sa_Us => k_is)
    (case mk_Us => k_is)
    (case kc_Us => k_is)
    (case n_Us_winner => k_is)
    (case n_Us_loser => k_is)
    (case n_Us_times => k_is)
    (case ic_Us => k_is)
    (case mo_Us => k_is)
    (case sget => k_is)
    (case stk => k_is)
    (case z_len => k_is)
    (case z_min => k_is)
    (case z_sum => k_is)
    (case z_sorted => k_is)
    (case z_list => k_is)
    (case z_range => k_is)
    (case z_tuple => k_is)
    (case z_int => k_is)
    (case z_enumerate => k_is)
    (case z_ValueError => k_is)
    (case v_MOST_PIECES => k_is)
    (case sbB => k_is)
    (case rdB => k_is)
    (case fdB => k_is)
#print axioms PySem.Challenge.cw_relaid_k25_whole_any_paper_holds
