import PyProof.Rows.All
import Wide.All
import OpenK.AllK
import Wide.FinOn
import Lean
import PyProof.EqAt
import PyProof.EqKinds
import PyProof.TupleCall
import PySem.Challenge.RW_relaid_k62_whole_ways_led
set_option Elab.async false
set_option linter.all false
set_option maxRecDepth 100000
set_option maxHeartbeats 4000000
namespace L2
open PySem PySem.Spec PyProof.Rows
abbrev Key:=Sum Int Str
def keyIs:Key→Value→Bool
 | .inl k,v=>Value.isInt k v
 | .inr x,v=>Value.isStrOf x v
def keyH (w:World):Key→Int
 | .inl k=>hashInt k
 | .inr x=>hashStr w x
theorem Jk:∀ {k:Key} {v:Value},keyIs k v=true→(∃ i t,k=Sum.inl i∧v=Value.int i t)∨(∃ x t,k=Sum.inr x∧v=Value.str x t)
 | .inl i,v,h=>by
  obtain ⟨t,e⟩:=Value.isInt_shape (k:=i) (v:=v) h
  exact .inl ⟨i,t,rfl,e⟩
 | .inr x,v,h=>by
  obtain ⟨t,e⟩:=Value.isStrOf_shape (x:=x) (v:=v) h
  exact .inr ⟨x,t,rfl,e⟩
theorem keyIs_int (i:Int) (t:Tok):keyIs (.inl i) (.int i t)=true:=by simp [keyIs,Value.isInt]
theorem keyIs_str (x:Str) (t:Tok):keyIs (.inr x) (.str x t)=true:=by simp [keyIs,Value.isStrOf]
theorem key_ll (a b:Int):decide ((Sum.inl a:Key)=Sum.inl b)=(a == b):=by
 by_cases e:a=b
 ·subst e;simp
 ·have h:¬ (Sum.inl a:Key)=Sum.inl b:=fun q=>e (Sum.inl.inj q)
  rw [decide_eq_false h]
  exact (beq_eq_false_iff_ne.mpr e).symm
theorem key_rr (a b:Str):decide ((Sum.inr a:Key)=Sum.inr b)=decide (a=b):=by
 by_cases e:a=b
 ·subst e;simp
 ·have h:¬ (Sum.inr a:Key)=Sum.inr b:=fun q=>e (Sum.inr.inj q)
  rw [decide_eq_false h,decide_eq_false e]
theorem key_lr (a:Int) (b:Str):decide ((Sum.inl a:Key)=Sum.inr b)=false:=decide_eq_false (fun q=>nomatch q)
theorem key_rl (a:Str) (b:Int):decide ((Sum.inr a:Key)=Sum.inl b)=false:=decide_eq_false (fun q=>nomatch q)
def Jx (prog:Program) (w:World):PySem.KeyKind prog w Key where
 is:=keyIs
 hash:=keyH w
 inj:=fun v a b ha hb=>by
  rcases Jk ha with ⟨i,t,rfl,rfl⟩ | ⟨x,t,rfl,rfl⟩
  ·rcases Jk hb with ⟨j,u,rfl,e⟩ | ⟨y,u,rfl,e⟩
   ·injection e with e1 _;rw [e1]
   ·exact nomatch e
  ·rcases Jk hb with ⟨j,u,rfl,e⟩ | ⟨y,u,rfl,e⟩
   ·exact nomatch e
   ·injection e with e1 _;rw [e1]
 byValue:=fun k v h=>by
  rcases Jk h with ⟨i,t,rfl,rfl⟩ | ⟨x,t,rfl,rfl⟩ <;> rfl
 pyHash:=fun hv h=>by
  rcases Jk hv with ⟨i,t,rfl,rfl⟩ | ⟨x,t,rfl,rfl⟩
  ·exact wpAny_pyHash_int h
  ·exact wpAny_pyHash_str h
 eqBool:=fun hu hv h=>by
  rcases Jk hu with ⟨i,t,rfl,rfl⟩ | ⟨x,t,rfl,rfl⟩
  ·rcases Jk hv with ⟨j,u,rfl,rfl⟩ | ⟨y,u,rfl,rfl⟩
   ·rw [key_ll] at h;exact wpAny_eqBool_int h
   ·rw [key_lr] at h;exact SeqAt.EqAt.int_str i t y u _ _ _ _ h
  ·rcases Jk hv with ⟨j,u,rfl,rfl⟩ | ⟨y,u,rfl,rfl⟩
   ·rw [key_rl] at h;exact SeqAt.EqAt.str_int x t j u _ _ _ _ h
   ·rw [key_rr] at h;exact wpAny_eqBool_str h
 «strs»:=fun k x t v h=>by
  rcases Jk h with ⟨i,u,rfl,e⟩ | ⟨y,u,rfl,e⟩
  ·exact nomatch e
  ·injection e with e1 _
   subst e1
   cases v <;> rfl
theorem mixKind_int (prog:Program) (w:World) (i:Int) (t:Tok):(Jx prog w).is (.inl i) (.int i t)=true:=keyIs_int i t
theorem mixKind_str (prog:Program) (w:World) (x:Str) (t:Tok):(Jx prog w).is (.inr x) (.str x t)=true:=keyIs_str x t
end L2
namespace L2
open PySem PySem.Spec PyProof.Rows
inductive V where
 | non | bl (b:Bool) | int (i:Int) | str (x:Str) | byt (b:Array UInt8) | flt (b:UInt64) | ref (a:Addr) | ty (n:String)
 deriving DecidableEq
def RelV:V→Value→Prop
 | .non,u=>u=Value.none
 | .bl b,u=>u=Value.bool b
 | .int i,u=>∃ t,u=Value.int i t
 | .str x,u=>∃ t,u=Value.str x t
 | .byt b,u=>∃ t,u=Value.bytes b t
 | .flt b,u=>∃ t,u=Value.float b t
 | .ref a,u=>u=Value.ref a
 | .ty n,u=>u=Value.type n
abbrev Vals:List V→List Value→Prop:=Paired RelV
theorem Vals.length {xs:List V} {us:List Value} (r:Vals xs us):xs.length=us.length:=Paired.length r
theorem Vals.get:∀ {xs:List V} {us:List Value} {i:Nat} {x:V},Vals xs us→xs[i]?=some x→∃ u,us[i]?=some u∧RelV x u
 | _,_,_,_,.nil,e=>by simp at e
 | _,_,0,_,.cons r _,e=>by simp at e;subst e;exact ⟨_,rfl,r⟩
 | _,_,i + 1,x,.cons _ t,e=>by
  obtain ⟨u,h1,h2⟩:=Vals.get (i:=i) (x:=x) t (by simpa using e)
  exact ⟨u,by simpa using h1,h2⟩
theorem Vals.set {x:V} {u:Value} (r:RelV x u):∀ {xs:List V} {us:List Value} (i:Nat),Vals xs us→Vals (xs.set i x) (us.set i u)
 | _,_,_,.nil=>.nil
 | _,_,0,.cons _ t=>.cons r t
 | _,_,i + 1,.cons q t=>.cons q (Vals.set r i t)
theorem Vals.append:∀ {xs ys:List V} {us ws:List Value},Vals xs us→Vals ys ws→Vals (xs ++ ys) (us ++ ws)
 | _,_,_,_,.nil,s=>s
 | _,_,_,_,.cons r t,s=>.cons r (Vals.append t s)
theorem Vals.take:∀ {xs:List V} {us:List Value} (n:Nat),Vals xs us→Vals (xs.take n) (us.take n)
 | _,_,0,_=>.nil
 | _,_,_ + 1,.nil=>.nil
 | _,_,n + 1,.cons r t=>.cons r (Vals.take n t)
theorem Vals.drop:∀ {xs:List V} {us:List Value} (n:Nat),Vals xs us→Vals (xs.drop n) (us.drop n)
 | _,_,0,r=>r
 | _,_,_ + 1,.nil=>.nil
 | _,_,n + 1,.cons _ t=>Vals.drop n t
def RelO:Option V→Option Value→Prop
 | some v,some u=>RelV v u
 | none,none=>True
 | _,_=>False
def KV {κ:Type}:List (κ × V)→List (κ × Value)→Prop:=Paired fun (p:κ × V) (q:κ × Value)=>p.1=q.1∧RelV p.2 q.2
def kV:Key→V
 | .inl i=>.int i
 | .inr x=>.str x
inductive HO where
  | lst (xs:List V)
  | tup (xs:List V)
  | dK (kvs:List (Key × V)) | dT (kvs:List (List Key × V))
  | set (S:Int→Bool) (n:Nat)
  | ins (C dx:Addr) (fs:List (Str × V))
  | own (x:Addr)
  | xd (fs:List (Str × V))
  | met (f x:Addr)
  | rng (lo hi:Int)
  | frz (o:Obj) (u:HO)
  | tbl (ps:Array Value)
  | ext (φ:Heap→Prop)
abbrev Hp:=Addr→Option HO
def upd (H:Hp) (a:Addr) (o:HO):Hp:=fun b=>if b=a then some o else H b
theorem upd_same {H:Hp} {a:Addr} {o:HO}:upd H a o a=some o:=by unfold upd;rw [if_pos rfl]
theorem Jd {H:Hp} {a b:Addr} {o:HO} (h:b≠a):upd H a o b=H b:=by unfold upd;rw [if_neg h]
theorem ne_of {H:Hp} {a b:Addr} {o u:HO} (h:H a=some o) (h':H b=some u) (d:o≠u):a≠b:=by
 intro e;subst e;rw [h] at h';exact d (Option.some.inj h')
theorem J9 {H:Hp} {a b:Addr} {o:HO} (h:H a=some o) (h':H b=none):a≠b:=by
 intro e;subst e;rw [h] at h';cases h'
section
variable (P:Program) (w:World)
def TupX (h:Heap) (a:Addr) (items:Array Value):Prop:=∃ o,h.get? a=some o∧(o.cls=.type "tuple"∧o.dict=none)∧∃ n,o.data=.seq items n
theorem TupX.tup {h:Heap} {a:Addr} {items:Array Value} (x:TupX h a items):IsTup h a items:=let ⟨o,e,c,r⟩:=x;⟨o,e,c.1,r⟩
theorem TupX.lt {h:Heap} {a:Addr} {items:Array Value} (x:TupX h a items):a < h.objs.size:=let ⟨_,e,_⟩:=x;Heap.lt_size e
theorem TupX.new (h:Heap) (items:Array Value):TupX (h.push { cls:=.type "tuple",data:=.seq items }) h.objs.size items:=⟨_,Heap.get?_push_size _ rfl,⟨rfl,rfl⟩,_,rfl⟩
def ObjOk (H:Hp) (h:Heap) (a:Addr):HO→Prop
 | .lst xs=>xs.length≤sizeLine∧∃ (its:List Value) (n:Nat),Vals xs its∧h.get? a=some { cls:=.type "list",data:=.seq its.toArray n }
 | .tup xs=>xs.length≤sizeLine∧∃ its:List Value,Vals xs its∧TupX h a its.toArray
 | .dK kvs=>kvs.length≤sizeLine∧(a == sysModules)=false∧∃ vs,KV kvs vs∧h.DictOf (Jx P w) a vs
 | .dT kvs=>kvs.length≤sizeLine∧(a == sysModules)=false∧∃ xs:List (List Key × Addr × Value),
   Paired (fun (p:List Key × V) (q:List Key × Addr × Value)=>p.1=q.1∧H q.2.1=some (.tup (p.1.map kV))∧RelV p.2 q.2.2) kvs xs∧
   ∃ o es ep,h.get? a=some o∧o.ExactDict∧o.data=.dict es ep∧es.toList=xs.map (entryOfKey (tupleKind (Jx P w)))∧(xs.map (·.1)).Nodup
 | .set S n=>h.SetOf (intKind P w) a S n
 | .ins C dx fs=>H dx=some (.own a)∧fs.length≤1000∧dx≠a∧h.get? a=some (PySem.W.instObj C dx)∧
   ∃ mA,h.Ns1 dx mA∧(∀ f,RelO (fs.lookup f) (mA f))∧PySem.Within mA (fs.map (·.1))
 | .own _=>∃ o,h.get? a=some o
 | .xd fs=>∃ mA,h.Ns1 a mA∧∀ f,RelO (fs.lookup f) (mA f)
 | .rng lo hi=>∃ t u v,h.get? a=some { cls:=.type "range",data:=.fields #[.int lo t,.int hi u,.int 1 v] }
 | .frz o u=>h.get? a=some o∧ObjOk H h a u
 | .tbl ps=>h.get? a=some { cls:=.none,data:=.fields ps }
 | .met f x=>h.get? a=some (PySem.W.methodObj (.ref f) (.ref x))
 | .ext φ=>φ h∧(∃ o,h.get? a=some o)∧∀ h1 h2:Heap,φ h1→(∀ o,h1.get? a=some o→h2.get? a=some o)→φ h2
def HOk (H:Hp) (h:Heap):Prop:=∀ a o,H a=some o→ObjOk P w H h a o
end
section
variable {P:Program} {w:World} {H H':Hp} {h h':Heap} {a:Addr} {o:HO}
theorem ObjOk.lt (x:ObjOk P w H h a o):a < h.objs.size:=by
 cases o with
 | lst xs=>obtain ⟨_,_,_,_,e⟩:=x;exact Heap.lt_size e
 | tup xs=>obtain ⟨_,_,_,p⟩:=x;exact p.lt
 | dK kvs=>obtain ⟨_,_,_,_,o,_,_,e,_⟩:=x;exact Heap.lt_size e
 | dT kvs=>obtain ⟨_,_,_,_,o,_,_,e,_⟩:=x;exact Heap.lt_size e
 | set S n=>obtain ⟨o,_,_,_,e,_⟩:=x;exact Heap.lt_size e
 | ins C dx fs=>obtain ⟨_,_,_,e,_⟩:=x;exact Heap.lt_size e
 | own y=>obtain ⟨_,e⟩:=x;exact Heap.lt_size e
 | xd fs=>obtain ⟨_,⟨_,_,_,e,_⟩,_⟩:=x;exact Heap.lt_size e
 | rng lo hi=>obtain ⟨_,_,_,e⟩:=x;exact Heap.lt_size e
 | frz ob u=>obtain ⟨e,_⟩:=x;exact Heap.lt_size e
 | tbl ps=>exact Heap.lt_size (show h.get? a=some _ from x)
 | met f y=>exact Heap.lt_size (show h.get? a=some _ from x)
 | ext φ=>obtain ⟨_,⟨_,e⟩,_⟩:=x;exact Heap.lt_size e
theorem Paired.mapP {α β:Type} {F G:α→β→Prop}:∀ {l₁:List α} {l₂:List β},Paired F l₁ l₂→(∀ a b,F a b→G a b)→Paired G l₁ l₂
 | _,_,.nil,_=>.nil
 | _,_,.cons r t,f=>.cons (f _ _ r) (Paired.mapP t f)
theorem ObjOk.stay (x:ObjOk P w H h a o) (k:∀ b u,(b=a∨H b=some (.own a))→h.get? b=some u→h'.get? b=some u)
  (ho:∀ b,H b=some (.own a)→H' b=some (.own a)) (ht:∀ b xs,H b=some (.tup xs)→H' b=some (.tup xs)):ObjOk P w H' h' a o:=by
 induction o with
 | lst xs=>obtain ⟨z,its,n,r,e⟩:=x;exact ⟨z,its,n,r,k _ _ (.inl rfl) e⟩
 | tup xs=>obtain ⟨z,its,r,ob,e,c⟩:=x;exact ⟨z,its,r,ob,k _ _ (.inl rfl) e,c⟩
 | dK kvs=>obtain ⟨z,y,vs,r,ob,es,ep,e,c⟩:=x;exact ⟨z,y,vs,r,ob,es,ep,k _ _ (.inl rfl) e,c⟩
 | dT kvs =>
  obtain ⟨z,y,xs,r,ob,es,ep,e,c⟩:=x
  exact ⟨z,y,xs,Paired.mapP r fun p q z=>⟨z.1,ht _ _ z.2.1,z.2.2⟩,ob,es,ep,k _ _ (.inl rfl) e,c⟩
 | set S n=>obtain ⟨ob,es,ep,t,e,c⟩:=x;exact ⟨ob,es,ep,t,k _ _ (.inl rfl) e,c⟩
 | ins C dx fs =>
  obtain ⟨d,z,ne,e,mA,⟨od,es,ep,e2,c⟩,r⟩:=x
  exact ⟨ho _ d,z,ne,k _ _ (.inl rfl) e,mA,⟨od,es,ep,k _ _ (.inr d) e2,c⟩,r⟩
 | own y=>obtain ⟨ob,e⟩:=x;exact ⟨ob,k _ _ (.inl rfl) e⟩
 | xd fs=>obtain ⟨mA,⟨od,es,ep,e,c⟩,r⟩:=x;exact ⟨mA,⟨od,es,ep,k _ _ (.inl rfl) e,c⟩,r⟩
 | rng lo hi=>obtain ⟨t,u,v,e⟩:=x;exact ⟨t,u,v,k _ _ (.inl rfl) e⟩
 | frz ob u ih=>obtain ⟨e,q⟩:=x;exact ⟨k _ _ (.inl rfl) e,ih q⟩
 | tbl ps =>
  have e:h.get? a=some { cls:=.none,data:=.fields ps }:=x
  show h'.get? a=some { cls:=.none,data:=.fields ps }
  exact k a _ (.inl rfl) e
 | met f y =>
  have e:h.get? a=some (PySem.W.methodObj (.ref f) (.ref y)):=x
  show h'.get? a=some (PySem.W.methodObj (.ref f) (.ref y))
  exact k a _ (.inl rfl) e
 | ext φ=>obtain ⟨p,⟨o,e⟩,st⟩:=x;exact ⟨st _ _ p fun o q=>k _ _ (.inl rfl) q,⟨o,k _ _ (.inl rfl) e⟩,st⟩
theorem HOk.lt (x:HOk P w H h) (e:H a=some o):a < h.objs.size:=(x a o e).lt
theorem HOk.fresh (x:HOk P w H h) (e:h.objs.size≤a):H a=none:=by
 cases q:H a with
 | none=>rfl
 | some u=>exact absurd (Nat.lt_of_lt_of_le (x.lt q) e) (Nat.lt_irrefl _)
theorem HOk.kept (x:HOk P w H h) (k:∀ b u,h.get? b=some u→h'.get? b=some u):HOk P w H h':=fun a o e =>
 (x a o e).stay (fun b u _ q=>k b u q) (fun _ q=>q) fun _ _ q=>q
theorem HOk.laid (x:HOk P w H h) (k:∀ b u,h.get? b=some u→h'.get? b=some u) (hp:h.objs.size≤a) (new:ObjOk P w (upd H a o) h' a o):HOk P w (upd H a o) h':=fun b u e=>by
 have hn:=x.fresh hp
 by_cases hb:b=a
 ·subst hb;rw [upd_same] at e;cases e;exact new
 ·rw [Jd hb] at e
  exact (x b u e).stay (fun c v _ q=>k c v q) (fun c q=>by rw [Jd (J9 q hn)];exact q) fun c xs q=>by rw [Jd (J9 q hn)];exact q
end
def Rd (H:Hp) (a:Addr) (u:HO):Prop:=H a=some u∨∃ o,H a=some (.frz o u)
theorem Rd.of {H:Hp} {a:Addr} {u:HO} (h:H a=some u):Rd H a u:=.inl h
theorem Rd.ok {P:Program} {w:World} {H:Hp} {h:Heap} {a:Addr} {u:HO} (r:Rd H a u) (x:HOk P w H h):ObjOk P w H h a u:=by
 rcases r with r | ⟨o,r⟩
 ·exact x a u r
 ·obtain ⟨_,q⟩:=x a _ r
  exact q
def Mut:Option HO→Prop
 | some (.lst _)=>True
 | some (.dK _)=>True
 | some (.dT _)=>True
 | some (.set _ _)=>True
 | some (.ins _ _ _)=>True
 | some (.ext _)=>True
 | _=>False
section
variable {P:Program} {w:World} {H:Hp} {h h':Heap} {x e:Addr} {o':HO}
theorem HOk.write (ok:HOk P w H h) (mu:Mut (H x)) (he:e=x∨H e=some (.own x)) (k:∀ b u,b≠e→h.get? b=some u→h'.get? b=some u) (heo:∃ u,h'.get? e=some u)
  (new:ObjOk P w (upd H x o') h' x o'):HOk P w (upd H x o') h':=fun b u q=>by
 have nown:∀ c y,H c=some (.own y)→c≠x:=fun c y r z=>by subst z;rw [r] at mu;exact mu
 have ntup:∀ c xs,H c=some (.tup xs)→c≠x:=fun c xs r z=>by subst z;rw [r] at mu;exact mu
 by_cases hb:b=x
 ·subst hb;rw [upd_same] at q;cases q;exact new
 ·rw [Jd hb] at q
  by_cases hbe:b=e
  ·have q':H b=some (.own x):=by
    rcases he with z | z
    ·exact absurd (hbe.trans z) hb
    ·rw [hbe];exact z
   rw [q] at q';cases q'
   obtain ⟨v,hv⟩:=heo
   exact ⟨v,by rw [hbe];exact hv⟩
  ·refine (ok b u q).stay (fun c v hc r=>k c v ?_ r) (fun c r=>by rw [Jd (nown c b r)];exact r) fun c xs r=>by rw [Jd (ntup c xs r)];exact r
   rcases hc with rfl | hc
   ·exact hbe
   ·rintro rfl
    rcases he with z | z
    ·exact nown c b hc z
    ·rw [hc] at z;cases z;exact hb rfl
end
structure Un (fs ex:List Addr) (H H':Hp) (h h':Heap):Prop where
 keep:∀ b o,h.get? b=some o→H b=none→b ∉ fs→b ∉ ex→h'.get? b=some o
 slot:∀ b o,h.get? b=some o→H b=none→b∈fs→b ∉ ex→∃ sl,h'.get? b=some { o with slots:=sl }
 free:∀ b o,h.get? b=some o→H b=none→b ∉ ex→H' b=none
 there:∀ b o,h.get? b=some o→b ∉ ex→∃ o',h'.get? b=some o'
 tups:∀ b xs,H b=some (.tup xs)→H' b=some (.tup xs)
 frzs:∀ b o u,H b=some (.frz o u)→H' b=some (.frz o u)
 tbls:∀ b ps,H b=some (.tbl ps)→∃ more,H' b=some (.tbl (ps ++ more))
section
variable {fs fs' ex ex':List Addr} {H H1 H2:Hp} {h h1 h2 h':Heap} {a x e:Addr} {o:HO}
theorem Un.any (u:Un fs ex H H1 h h1) {b:Addr} {ob:Obj} (q:h.get? b=some ob) (n:H b=none) (hx:b ∉ ex):∃ sl,h1.get? b=some { ob with slots:=sl }:=by
 by_cases hb:b∈fs
 ·exact u.slot b ob q n hb hx
 ·exact ⟨ob.slots,u.keep b ob q n hb hx⟩
theorem Un.trans (a:Un fs ex H H1 h h1) (b:Un fs ex H1 H2 h1 h2):Un fs ex H H2 h h2 where
 keep:=fun c ob q n hc hx=>b.keep c ob (a.keep c ob q n hc hx) (a.free c ob q n hx) hc hx
 slot:=fun c ob q n hc hx=>by
  obtain ⟨sl,e1⟩:=a.slot c ob q n hc hx
  obtain ⟨sl',e2⟩:=b.slot c _ e1 (a.free c ob q n hx) hc hx
  exact ⟨sl',e2⟩
 free:=fun c ob q n hx=>by
  obtain ⟨o',e1⟩:=a.there c ob q hx
  exact b.free c o' e1 (a.free c ob q n hx) hx
 there:=fun c ob q hx=>by
  obtain ⟨o',e1⟩:=a.there c ob q hx
  exact b.there c o' e1 hx
 tups:=fun c xs q=>b.tups c xs (a.tups c xs q)
 frzs:=fun c ob xs q=>b.frzs c ob xs (a.frzs c ob xs q)
 tbls:=fun c ps q=>by
  obtain ⟨m1,e1⟩:=a.tbls c ps q
  obtain ⟨m2,e2⟩:=b.tbls c _ e1
  exact ⟨m1 ++ m2,by rw [e2,Array.append_assoc]⟩
theorem Un.kept (k:∀ b u,h.get? b=some u→h'.get? b=some u):Un fs ex H H h h' :=
 ⟨fun b ob q _ _ _=>k b ob q,fun b ob q _ _ _=>⟨ob.slots,k b ob q⟩,fun _ _ _ n _=>n,fun b ob q _=>⟨ob,k b ob q⟩,fun _ _ q=>q,fun _ _ _ q=>q,fun _ ps q=>⟨#[],by rw [q];simp⟩⟩
theorem Un.refl:Un fs ex H H h h:=Un.kept fun _ _ q=>q
theorem Un.laid (k:∀ b u,h.get? b=some u→h'.get? b=some u) (hp:h.objs.size≤a) (hn:H a=none):Un fs ex H (upd H a o) h h' where
 keep:=fun b u q _ _ _=>k b u q
 slot:=fun b u q _ _ _=>⟨u.slots,k b u q⟩
 free:=fun b u q n _=>by rw [Jd (Nat.ne_of_lt (Nat.lt_of_lt_of_le (Heap.lt_size q) hp))];exact n
 there:=fun b u q _=>⟨u,k b u q⟩
 tups:=fun b xs q=>by rw [Jd (J9 q hn)];exact q
 frzs:=fun b u xs q=>by rw [Jd (J9 q hn)];exact q
 tbls:=fun b ps q=>⟨#[],by rw [Jd (J9 q hn),q];simp⟩
theorem Un.write (mu:Mut (H x)) (he:e=x∨H e=some (.own x)) (k:∀ b u,b≠e→h.get? b=some u→h'.get? b=some u) (heo:∃ u,h'.get? e=some u):Un fs ex H (upd H x o) h h':=by
 have hx:∀ b,H b=none→b≠x:=fun b n z=>by subst z;rw [n] at mu;exact mu
 have hb:∀ b,H b=none→b≠e:=fun b n z=>by
  subst z
  rcases he with r | r
  ·exact hx b n r
  ·rw [n] at r;cases r
 have hm:∀ b u,H b=some u→¬ Mut (some u)→b≠x:=fun b u q nm z=>by subst z;rw [q] at mu;exact nm mu
 refine ⟨fun b u q n _ _=>k b u (hb b n) q,fun b u q n _ _=>⟨u.slots,k b u (hb b n) q⟩,fun b u q n _=>by rw [Jd (hx b n)];exact n,fun b u q _=>?_,
  fun b xs q=>by rw [Jd (hm b _ q fun z=>z)];exact q,fun b u xs q=>by rw [Jd (hm b _ q fun z=>z)];exact q,fun b ps q=>⟨#[],by rw [Jd (hm b _ q fun z=>z),q];simp⟩⟩
 by_cases hbe:b=e
 ·subst hbe;exact heo
 ·exact ⟨u,k b u hbe q⟩
theorem Un.mono (u:Un fs ex H H1 h h1) (hs:∀ b∈fs,b∈fs') (hx:∀ b∈ex,b∈ex'):Un fs' ex' H H1 h h1 :=
 ⟨fun b ob q n hb he=>u.keep b ob q n (fun z=>hb (hs b z)) fun z=>he (hx b z),fun _ _ q n _ he=>u.any q n fun z=>he (hx _ z),fun b ob q n he=>u.free b ob q n fun z=>he (hx b z),fun b ob q he=>u.there b ob q fun z=>he (hx b z),u.tups,u.frzs,u.tbls⟩
end
def trk (h:Heap) (H:Hp):List Addr:=(List.range h.objs.size).filter fun a=>(H a).isSome
def hidT (h:Heap) (H:Hp):Heap:=PySem.W.hideAll h (trk h H)
theorem hidT_size (h:Heap) (H:Hp):(hidT h H).objs.size=h.objs.size:=PySem.W.hideAll_size _ _
theorem hidT_get {h:Heap} {H:Hp} {b:Addr} {o:Obj} (e:h.get? b=some o) (n:H b=none):(hidT h H).get? b=some o :=
 PySem.W.hideAll_get _ e fun hm=>by
  have q:(H b).isSome=true:=(List.mem_filter.mp hm).2
  rw [n] at q;simp at q
theorem of_hidT {h:Heap} {H:Hp} {b:Addr} {o:Obj} (e:(hidT h H).get? b=some o):h.get? b=some o∧H b=none:=by
 have e':h.get? b=some o:=PySem.W.of_hideAll (trk h H) e
 refine ⟨e',?_⟩
 cases q:H b with
 | none=>rfl
 | some x =>
  have hm:b∈trk h H:=List.mem_filter.mpr ⟨List.mem_range.mpr (Heap.lt_size e'),by simp [q]⟩
  have z:(hidT h H).get? b=none:=PySem.W.hideAll_none (trk h H) hm
  rw [z] at e;cases e
def allNews (g h:Heap) (L:Addr):List (Addr × Obj):=(List.range h.objs.size).filterMap fun a=>if a=L∨(g.get? a).isSome=true then none else (h.get? a).map fun o=>(a,o)
def rest (g h:Heap) (L d:Addr):List (Addr × Obj):=(allNews g h L).filter fun p=>decide (p.1≠d)
end L2
namespace L2
open PySem PySem.Spec PyProof.Rows
structure Mod (K:PySem.W.Frag) (mg:Str→Option Value) (base:Heap):Prop where
 kin:K.In base
 glob:base.Ns mainGlobals mg
 blt:∃ mb,base.Ns builtinsNs mb∧∀ x:Str,x≠"__name__"→mb x=bootBuiltins x
 nolimit:base.NoLimit
structure Cx where
 prog:Program
 w:World
 K:PySem.W.Frag
 mg:Str→Option Value
 base:Heap
 A:Around
 N:List Str
 s₀:Shared
 H₀:Hp
 env:Env
 outer:List Env
 stack:List Env
 ex:List Addr
 fn:Str→Bool
 calm:Bool
 pn:List (Addr × Obj)
 xe:Value→Shared→Prop
def frs (l:List Env):List Addr:=l.filterMap (·.frame)
abbrev Cx.fs (X:Cx):List Addr:=frs X.outer
def Vis (sc:Scope) (x:Str):Prop:=sc.names.lookup x=some .local∨sc.names.lookup x=some .cell∨sc.names.lookup x=some .free
def Loc (sc:Scope) (x:Str):Prop:=sc.names.lookup x=some .local∨sc.names.lookup x=some .cell
def Look (env:Env) (h:Heap) (m:Str→Option Value) (x:Str) (u:Value):Prop :=
 (env.kindOf x=some .local∧m x=some u)∨((env.kindOf x=some .cell∨env.kindOf x=some .free)∧∃ c,env.cells.lookup x=some c∧h.IsCell c (some u))
structure Cx.Ok (X:Cx):Prop where
 mod:Mod X.K X.mg X.base
 kind:X.env.scope.kind=.function
 glob:X.env.globals=mainGlobals
 blt:X.env.builtins=builtinsNs
 above:X.s₀.heap.objs.size≤X.env.locals
 inj:∀ x y c,X.env.cells.lookup x=some c→X.env.cells.lookup y=some c→x=y
 has:∀ x,(X.env.kindOf x=some .cell∨X.env.kindOf x=some .free)→∃ c,X.env.cells.lookup x=some c
 cab:∀ x c,X.fn x=true→X.env.cells.lookup x=some c→X.s₀.heap.objs.size≤c
 hd:X.calm=true→X.A.handled=none
 frames:X.A.frames=some X.stack
 stk:X.stack=X.outer∨(X.stack=X.env :: X.outer∧X.env.frame=some X.env.locals)
 exf:∀ b∈X.ex,b≠X.env.locals∧∀ x c,X.env.cells.lookup x=some c→c≠b
 bs:∀ b o,X.base.get? b=some o→X.s₀.heap.get? b=some o∧X.H₀ b=none
 bsz:X.base.objs.size≤X.s₀.heap.objs.size
 noex:∀ b o,X.base.get? b=some o→b ∉ X.ex
 exfs:∀ b∈X.ex,b ∉ X.fs
 funs:X.s₀.heap.FunFrames X.base X.outer
 frf:∀ b∈X.fs,X.H₀ b=none
structure Inv (X:Cx) (pins:List (Addr × Obj)) (σ:List (Option V)) (H:Hp) (s:Shared):Prop where
 ok:X.Ok
 os:s.os=X.s₀.os
 bare:AllBare s.gens
 base:Un X.fs X.ex X.H₀ H X.s₀.heap s.heap
 loc:∃ m,s.heap.Ns X.env.locals m∧∀ (i:Nat) (x:Str) (v:V),X.N[i]?=some x→σ[i]?=some (some v)→Vis X.env.scope x→∃ u,RelV v u∧Look X.env s.heap m x u
 cell:∀ x c,X.env.cells.lookup x=some c→∃ v,s.heap.IsCell c v
 free:H X.env.locals=none
 freeC:∀ x c,X.env.cells.lookup x=some c→H c=none
 pin:∀ p∈X.pn ++ pins,s.heap.get? p.1=some p.2∧H p.1=none∧p.1≠X.env.locals∧p.1 ∉ X.fs∧∀ v,p.2.data≠.cell v
 hok:HOk X.prog X.w H s.heap
 len:σ.length=X.N.length
section
variable {X:Cx} {pins:List (Addr × Obj)} {σ:List (Option V)} {H H':Hp} {s:Shared} {h':Heap}
theorem Cx.Ok.nofr (ok:X.Ok) {b:Addr} {o:Obj} (e:X.base.get? b=some o):b ∉ X.fs:=fun hb=>by
 have:=(ok.funs.mem hb).1
 rw [e] at this;cases this
theorem Inv.bs (I:Inv X pins σ H s):∀ b o,X.base.get? b=some o→s.heap.get? b=some o∧H b=none:=fun b o e =>
 ⟨I.base.keep b o (I.ok.bs b o e).1 (I.ok.bs b o e).2 (I.ok.nofr e) (I.ok.noex b o e),I.base.free b o (I.ok.bs b o e).1 (I.ok.bs b o e).2 (I.ok.noex b o e)⟩
theorem Inv.bk (I:Inv X pins σ H s):∀ b o,X.base.get? b=some o→s.heap.get? b=some o:=fun b o e=>(I.bs b o e).1
theorem Inv.mod (I:Inv X pins σ H s):Mod X.K X.mg X.base:=I.ok.mod
theorem Inv.kIn (I:Inv X pins σ H s):X.K.In s.heap:=I.ok.mod.kin.keeps I.bk
theorem Inv.lt (I:Inv X pins σ H s):X.env.locals < s.heap.objs.size:=let ⟨_,hn,_⟩:=I.loc;hn.lt
theorem Inv.sz (I:Inv X pins σ H s):X.s₀.heap.objs.size≤s.heap.objs.size:=Nat.le_trans I.ok.above (Nat.le_of_lt I.lt)
theorem Inv.nofs (I:Inv X pins σ H s) {a:Addr} (h:s.heap.objs.size≤a):a ∉ X.fs:=fun hb=>by
 obtain ⟨_,o,ho,_⟩:=I.ok.funs.mem hb
 exact absurd (Nat.lt_of_lt_of_le (Heap.lt_size ho) (Nat.le_trans I.sz h)) (Nat.lt_irrefl _)
theorem Inv.cne (I:Inv X pins σ H s):∀ x c,X.env.cells.lookup x=some c→c≠X.env.locals:=fun x c e z=>by
 obtain ⟨v,o,ho,hd⟩:=I.cell x c e
 obtain ⟨m,⟨o',es,ep,ho',hd',_⟩,_⟩:=I.loc
 rw [z,ho'] at ho;cases ho;rw [hd'] at hd;cases hd
theorem Inv.funs (I:Inv X pins σ H s):s.heap.FunFrames X.base X.outer:=by
 have all:∀ (l:List Env),(∀ b∈frs l,b∈X.fs)→X.s₀.heap.FunFrames X.base l→s.heap.FunFrames X.base l:=by
  intro l
  induction l with
  | nil=>intro _ _;trivial
  | cons env r ih =>
   intro hs hl
   obtain ⟨hk,⟨L,o,hf,hn,ho,hd⟩,hr⟩:=hl
   have hL:L∈X.fs:=hs L (by unfold frs;rw [List.filterMap_cons,hf];exact List.mem_cons_self)
   obtain ⟨sl,e⟩:=I.base.slot L o ho (I.ok.frf L hL) hL fun z=>I.ok.exfs L z hL
   exact ⟨hk,⟨L,_,hf,hn,e,hd⟩,ih (fun b hb=>hs b (by unfold frs;rw [List.filterMap_cons,hf];exact List.mem_cons_of_mem _ hb)) hr⟩
 exact all X.outer (fun _ hb=>hb) I.ok.funs
theorem Inv.stack (I:Inv X pins σ H s):s.heap.FunFrames X.base X.stack:=by
 rcases I.ok.stk with e | ⟨e,hf⟩
 ·rw [e];exact I.funs
 ·rw [e]
  obtain ⟨m,hn,_⟩:=I.loc
  refine .cons (by rw [I.ok.kind];decide) hf hn ?_ I.funs
  exact Heap.get?_none_of_le (Nat.le_trans I.ok.bsz I.ok.above)
theorem Inv.stkSub (I:Inv X pins σ H s):∀ b∈frs X.stack,b∈X.env.locals :: X.fs:=fun b hb=>by
 rcases I.ok.stk with e | ⟨e,hf⟩
 ·rw [e] at hb;exact List.mem_cons_of_mem _ hb
 ·rw [e] at hb
  unfold frs at hb
  rw [List.filterMap_cons,hf] at hb
  exact hb
theorem Inv.stkFree (I:Inv X pins σ H s):∀ b∈frs X.stack,H b=none:=fun b hb=>by
 rcases List.mem_cons.mp (I.stkSub b hb) with e | hb
 ·rw [e];exact I.free
 ·obtain ⟨_,o,ho,_⟩:=I.ok.funs.mem hb
  exact I.base.free b o ho (I.ok.frf b hb) fun z=>I.ok.exfs b z hb
theorem Inv.step {g':Array GenState} {t':Nat} {d':Drawn} {ch:List Addr} (I:Inv X pins σ H s)
  (hch:∀ b∈ch,(b∈X.ex∨X.s₀.heap.objs.size≤b)∧b≠X.env.locals∧(∀ x c,X.env.cells.lookup x=some c→c≠b)∧∀ p∈X.pn ++ pins,p.1≠b)
  (keep:∀ b o,b≠X.env.locals→b ∉ X.fs→b ∉ ch→s.heap.get? b=some o→H b=none→h'.get? b=some o)
  (slot:∀ b o,b≠X.env.locals→b∈X.fs→b ∉ ch→s.heap.get? b=some o→H b=none→∃ sl,h'.get? b=some { o with slots:=sl }) (free:∀ b o,b ∉ ch→s.heap.get? b=some o→H b=none→H' b=none)
  (there:∀ b o,b ∉ ch→s.heap.get? b=some o→∃ o',h'.get? b=some o')
  (tups:∀ b xs,H b=some (.tup xs)→H' b=some (.tup xs)) (frzs:∀ b o u,H b=some (.frz o u)→H' b=some (.frz o u)) (tbls:∀ b ps,H b=some (.tbl ps)→∃ more,H' b=some (.tbl (ps ++ more)))
  (ns:∀ m,s.heap.Ns X.env.locals m→h'.Ns X.env.locals m) (hok:HOk X.prog X.w H' h') (hg:AllBare g') :
  Inv X pins σ H' { s with heap:=h',gens:=g',drawn:=d',toks:=t' }:=by
 have neL:∀ b o,X.s₀.heap.get? b=some o→b≠X.env.locals:=fun b o e=>Nat.ne_of_lt (Nat.lt_of_lt_of_le (Heap.lt_size e) I.ok.above)
 have neC:∀ b o,X.s₀.heap.get? b=some o→b ∉ X.ex→b ∉ ch:=fun b o e hx hb=>by
  rcases (hch b hb).1 with z | z
  ·exact hx z
  ·exact absurd (Nat.lt_of_lt_of_le (Heap.lt_size e) z) (Nat.lt_irrefl _)
 have cellK:∀ x c,X.env.cells.lookup x=some c→∀ v,s.heap.IsCell c v→h'.IsCell c v:=fun x c e v ⟨o,ho,hd⟩=>by
  have nch:c ∉ ch:=fun z=>(hch c z).2.2.1 x c e rfl
  by_cases hc:c∈X.fs
  ·obtain ⟨sl,q⟩:=slot c o (I.cne x c e) hc nch ho (I.freeC x c e)
   exact ⟨_,q,hd⟩
  ·exact ⟨o,keep c o (I.cne x c e) hc nch ho (I.freeC x c e),hd⟩
 refine ⟨I.ok,I.os,hg,⟨fun b o e n hb hx=>?_,fun b o e n hb hx=>?_,fun b o e n hx=>?_,fun b o e hx=>?_,fun b xs e=>tups b xs (I.base.tups b xs e),fun b o xs e=>frzs b o xs (I.base.frzs b o xs e),fun b ps e=>?_⟩,?_,fun x c e=>?_,?_,fun x c e=>?_,fun p hp=>?_,hok,I.len⟩
 ·exact keep b o (neL b o e) hb (neC b o e hx) (I.base.keep b o e n hb hx) (I.base.free b o e n hx)
 ·obtain ⟨sl,e1⟩:=I.base.slot b o e n hb hx
  obtain ⟨sl',e2⟩:=slot b _ (neL b o e) hb (neC b o e hx) e1 (I.base.free b o e n hx)
  exact ⟨sl',e2⟩
 ·obtain ⟨o',e1⟩:=I.base.there b o e hx
  exact free b o' (neC b o e hx) e1 (I.base.free b o e n hx)
 ·obtain ⟨o',e1⟩:=I.base.there b o e hx
  exact there b o' (neC b o e hx) e1
 ·obtain ⟨m1,e1⟩:=I.base.tbls b ps e
  obtain ⟨m2,e2⟩:=tbls b _ e1
  exact ⟨m1 ++ m2,by rw [e2,Array.append_assoc]⟩
 ·obtain ⟨m,hn,hl⟩:=I.loc
  refine ⟨m,ns m hn,fun i x v e1 e2 e3=>?_⟩
  obtain ⟨u,r,l⟩:=hl i x v e1 e2 e3
  refine ⟨u,r,?_⟩
  rcases l with l | ⟨k,c,e,z⟩
  ·exact .inl l
  ·exact .inr ⟨k,c,e,cellK x c e _ z⟩
 ·obtain ⟨v,z⟩:=I.cell x c e
  exact ⟨v,cellK x c e v z⟩
 ·obtain ⟨m,⟨o,_,_,ho,_⟩,_⟩:=I.loc
  exact free _ o (fun z=>(hch _ z).2.1 rfl) ho I.free
 ·obtain ⟨v,o,ho,hd⟩:=I.cell x c e
  exact free c o (fun z=>(hch c z).2.2.1 x c e rfl) ho (I.freeC x c e)
 ·obtain ⟨e,n,ne,nf,d⟩:=I.pin p hp
  have nch:p.1 ∉ ch:=fun z=>(hch p.1 z).2.2.2 p hp rfl
  exact ⟨keep p.1 p.2 ne nf nch e n,free p.1 p.2 nch e n,ne,nf,d⟩
theorem Inv.un {t':Nat} (I:Inv X pins σ H s) (u:Un X.fs [] H H' s.heap h') (hok:HOk X.prog X.w H' h'):Inv X pins σ H' { s with heap:=h',toks:=t' }:=by
 obtain ⟨m,⟨o,es,ep,ho,r⟩,_⟩:=id I.loc
 obtain ⟨sl,hL⟩:=u.any ho I.free (by simp)
 exact I.step (g':=s.gens) (d':=s.drawn) (ch:=[]) (fun _ z=>nomatch z) (fun b o _ hb _ e n=>u.keep b o e n hb (by simp)) (fun b o _ hb _ e n=>u.slot b o e n hb (by simp)) (fun b o _ e n=>u.free b o e n (by simp)) (fun b o _ e=>u.there b o e (by simp)) u.tups u.frzs u.tbls (fun m' hm=>by
  obtain ⟨o',es',ep',ho',r'⟩:=hm
  rw [ho] at ho';cases ho'
  exact ⟨_,es',ep',hL,r'⟩) hok I.bare
theorem Inv.call {g':Array GenState} {t':Nat} {d':Drawn} {ch:List Addr} (I:Inv X pins σ H s) (u:Un (frs X.stack) ch H H' s.heap h') (hok:HOk X.prog X.w H' h') (hg:AllBare g')
  (hch:∀ b∈ch,(b∈X.ex∨X.s₀.heap.objs.size≤b)∧b≠X.env.locals∧(∀ x c,X.env.cells.lookup x=some c→c≠b)∧∀ p∈X.pn ++ pins,p.1≠b) :
  Inv X pins σ H' { s with heap:=h',gens:=g',drawn:=d',toks:=t' }:=by
 obtain ⟨m,⟨o,es,ep,ho,r⟩,_⟩:=id I.loc
 obtain ⟨sl,hL⟩:=u.any ho I.free fun z=>(hch _ z).2.1 rfl
 exact I.step (ch:=ch) hch (fun b o hL hb hc e n=>u.keep b o e n (fun z=>(List.mem_cons.mp (I.stkSub b z)).elim hL hb) hc) (fun b o _ _ hc e n=>u.any e n hc) (fun b o hc e n=>u.free b o e n hc) (fun b o hc e=>u.there b o e hc) u.tups u.frzs u.tbls (fun m' hm=>by
  obtain ⟨o',es',ep',ho',r'⟩:=hm
  rw [ho] at ho';cases ho'
  exact ⟨_,es',ep',hL,r'⟩) hok hg
theorem Inv.turned {t':Nat} {it:Addr} (I:Inv X pins σ H s) (k:∀ b o,b≠it→s.heap.get? b=some o→h'.get? b=some o) (hn:H it=none) (hL:it≠X.env.locals)
  (h1:it∈X.ex∨X.s₀.heap.objs.size≤it) (h2:∀ x c,X.env.cells.lookup x=some c→c≠it) (h3:∀ p∈X.pn ++ pins,p.1≠it):Inv X pins σ H { s with heap:=h',toks:=t' }:=by
 have nit:∀ b u,H b=some u→b≠it:=fun b u e z=>by rw [z,hn] at e;cases e
 refine I.step (g':=s.gens) (d':=s.drawn) (ch:=[it]) (fun b hb=>?_) (fun b o _ _ hc e _=>k b o (fun z=>hc (by simp [z])) e) (fun b o _ _ hc e _=>⟨o.slots,k b o (fun z=>hc (by simp [z])) e⟩) (fun _ _ _ _ n=>n)
  (fun b o hc e=>⟨o,k b o (fun z=>hc (by simp [z])) e⟩) (fun _ _ e=>e) (fun _ _ _ e=>e) (fun b ps e=>⟨#[],by rw [e];simp⟩) (fun m hm=>?_) (fun b u e=>?_) I.bare
 ·have e:b=it:=by simpa using hb
  subst e
  exact ⟨h1,hL,h2,h3⟩
 ·obtain ⟨o,es,ep,ho,r⟩:=hm
  exact ⟨o,es,ep,k _ o (Ne.symm hL) ho,r⟩
 ·refine (I.hok b u e).stay (fun c v hc q=>k c v ?_ q) (fun _ q=>q) fun _ _ q=>q
  rcases hc with z | z
  ·rw [z];exact nit b u e
  ·exact nit c _ z
theorem Inv.tok (I:Inv X pins σ H s) (t:Nat):Inv X pins σ H { s with toks:=t }:=I.un (h':=s.heap) (t':=t) Un.refl I.hok
theorem Inv.kept {t':Nat} (I:Inv X pins σ H s) (k:∀ b u,s.heap.get? b=some u→h'.get? b=some u):Inv X pins σ H { s with heap:=h',toks:=t' }:=I.un (Un.kept k) (I.hok.kept k)
theorem Inv.laid {a:Addr} {o:HO} {t':Nat} (I:Inv X pins σ H s) (k:∀ b u,s.heap.get? b=some u→h'.get? b=some u) (hp:s.heap.objs.size≤a) (new:ObjOk X.prog X.w (upd H a o) h' a o) :
  Inv X pins σ (upd H a o) { s with heap:=h',toks:=t' }:=I.un (Un.laid k hp (I.hok.fresh hp)) (I.hok.laid k hp new)
theorem Inv.write {x e:Addr} {o:HO} {t':Nat} (I:Inv X pins σ H s) (mu:Mut (H x)) (he:e=x∨H e=some (.own x)) (k:∀ b u,b≠e→s.heap.get? b=some u→h'.get? b=some u) (heo:∃ u,h'.get? e=some u)
  (new:ObjOk X.prog X.w (upd H x o) h' x o):Inv X pins σ (upd H x o) { s with heap:=h',toks:=t' }:=I.un (Un.write mu he k heo) (I.hok.write mu he k heo new)
theorem Inv.pins_of {pins':List (Addr × Obj)} (I:Inv X pins σ H s) (h:∀ p∈pins',s.heap.get? p.1=some p.2∧H p.1=none∧p.1≠X.env.locals∧p.1 ∉ X.fs∧∀ v,p.2.data≠.cell v):Inv X pins' σ H s :=
 ⟨I.ok,I.os,I.bare,I.base,I.loc,I.cell,I.free,I.freeC,fun p hp=>(List.mem_append.mp hp).elim (fun z=>I.pin p (List.mem_append_left _ z)) (h p),I.hok,I.len⟩
theorem nodup_ix {N:List Str} (hN:N.Nodup) {i j:Nat} {x:Str} (a:N[i]?=some x) (b:N[j]?=some x):i=j:=by
 obtain ⟨h1,e1⟩:=List.getElem?_eq_some_iff.mp a
 obtain ⟨h2,e2⟩:=List.getElem?_eq_some_iff.mp b
 exact (List.getElem_inj hN).mp (e1.trans e2.symm)
theorem store_ok2 {M:Model} {A:Around} {E:Value→Shared→Prop} {i:Nat} {x:Str} {v:V} {u:Value} {Q:Unit→Shared→Prop} (I:Inv X pins σ H s) (hN:X.N.Nodup) (hi:X.N[i]?=some x) (hx:Loc X.env.scope x) (r:RelV v u)
  (h:∀ s',Inv X pins (σ.set i (some v)) H s'→(∃ a,Heap.SameBut a s.heap s'.heap∧(a=X.env.locals∨X.env.cells.lookup x=some a))→Q () s') (hf:X.fn x=true∨X.env.scope.names.lookup x=some .local:=by first | exact .inl rfl | exact .inr rfl | assumption):wpAny M A (storeName X.env x u) Q E s:=by
 obtain ⟨m,hn,hl⟩:=id I.loc
 have hcls:(X.env.scope.kind == .class || (X.env.scope.kind == .module && X.env.locals != X.env.globals))=false:=by rw [I.ok.kind];rfl
 have hiσ:i < σ.length:=by rw [I.len];exact (List.getElem?_eq_some_iff.mp hi).1
 have cne:=I.cne
 have tracked:∀ {a:Addr} {h':Heap},(∃ o,s.heap.get? a=some o∧H a=none)→Heap.SameBut a s.heap h'→HOk X.prog X.w H h':=fun {a h'} ha hs b ob e=>by
  obtain ⟨_,_,hfree⟩:=ha
  refine (I.hok b ob e).stay (fun c w' hc q=>(hs.2 c ?_).trans q) (fun _ q=>q) fun _ _ q=>q
  rintro rfl
  rcases hc with rfl | hc
  ·rw [hfree] at e;cases e
  ·rw [hfree] at hc;cases hc
 rcases hx with hk | hk
 ·refine wpAny_storeName_local hk hn (fun h' hn' hs=>?_) hcls
  obtain ⟨oL,_,_,hoL,_⟩:=id hn
  refine h _ ⟨I.ok,I.os,I.bare,⟨fun b o e n hb hx=>?_,fun b o e n hb hx=>?_,I.base.free,fun b o e hx=>?_,I.base.tups,I.base.frzs,I.base.tbls⟩,⟨_,hn',fun j y v' e1 e2 e3=>?_⟩,fun y c e=>?_,I.free,I.freeC,fun p hp=>?_,tracked ⟨oL,hoL,I.free⟩ hs,by simpa using I.len⟩ ⟨_,hs,.inl rfl⟩
  ·exact (hs.2 b (Nat.ne_of_lt (Nat.lt_of_lt_of_le (Heap.lt_size e) I.ok.above))).trans (I.base.keep b o e n hb hx)
  ·obtain ⟨sl,e1⟩:=I.base.slot b o e n hb hx
   exact ⟨sl,(hs.2 b (Nat.ne_of_lt (Nat.lt_of_lt_of_le (Heap.lt_size e) I.ok.above))).trans e1⟩
  ·obtain ⟨o',e1⟩:=I.base.there b o e hx
   exact ⟨o',(hs.2 b (Nat.ne_of_lt (Nat.lt_of_lt_of_le (Heap.lt_size e) I.ok.above))).trans e1⟩
  ·by_cases hj:j=i
   ·subst hj
    rw [hi] at e1;cases e1
    rw [List.getElem?_set_self hiσ] at e2
    cases e2
    exact ⟨u,r,.inl ⟨hk,by simp⟩⟩
   ·rw [List.getElem?_set_ne (Ne.symm hj)] at e2
    obtain ⟨u',r',q⟩:=hl j y v' e1 e2 e3
    refine ⟨u',r',?_⟩
    rcases q with ⟨k,e⟩ | ⟨k,c,e,z⟩
    ·refine .inl ⟨k,?_⟩
     have:y≠x:=fun e=>hj (nodup_ix hN e1 (e ▸ hi))
     simp [this,e]
    ·exact .inr ⟨k,c,e,z.sameBut hs (cne y c e)⟩
  ·obtain ⟨w',z⟩:=I.cell y c e
   exact ⟨w',z.sameBut hs (cne y c e)⟩
  ·obtain ⟨e,n,ne,nf,d⟩:=I.pin p hp
   exact ⟨(hs.2 p.1 ne).trans e,n,ne,nf,d⟩
 ·have hfn:X.fn x=true:=by
   rcases hf with z | z
   ·exact z
   ·rw [z] at hk;cases hk
  obtain ⟨c,hc⟩:=I.ok.has x (.inl hk)
  obtain ⟨w',z⟩:=I.cell x c hc
  refine wpAny_storeName_cell I.ok.kind hk hc z (fun h' hc' hs=>?_)
  obtain ⟨oc,hoc,hocd⟩:=id z
  refine h { s with heap:=h' } ⟨I.ok,I.os,I.bare,⟨fun b o e n hb hx=>?_,fun b o e n hb hx=>?_,I.base.free,fun b o e hx=>?_,I.base.tups,I.base.frzs,I.base.tbls⟩,⟨m,hn.sameBut hs (Ne.symm (cne x c hc)),fun j y v' e1 e2 e3=>?_⟩,fun y c' e=>?_,I.free,I.freeC,fun p hp=>?_,tracked ⟨oc,hoc,I.freeC x c hc⟩ hs,by simpa using I.len⟩ ⟨c,hs,.inr hc⟩
  ·exact (hs.2 b (Nat.ne_of_lt (Nat.lt_of_lt_of_le (Heap.lt_size e) (I.ok.cab x c hfn hc)))).trans (I.base.keep b o e n hb hx)
  ·obtain ⟨sl,e1⟩:=I.base.slot b o e n hb hx
   exact ⟨sl,(hs.2 b (Nat.ne_of_lt (Nat.lt_of_lt_of_le (Heap.lt_size e) (I.ok.cab x c hfn hc)))).trans e1⟩
  ·obtain ⟨o',e1⟩:=I.base.there b o e hx
   exact ⟨o',(hs.2 b (Nat.ne_of_lt (Nat.lt_of_lt_of_le (Heap.lt_size e) (I.ok.cab x c hfn hc)))).trans e1⟩
  ·by_cases hj:j=i
   ·subst hj
    rw [hi] at e1;cases e1
    rw [List.getElem?_set_self hiσ] at e2
    cases e2
    exact ⟨u,r,.inr ⟨.inl hk,c,hc,hc'⟩⟩
   ·rw [List.getElem?_set_ne (Ne.symm hj)] at e2
    obtain ⟨u',r',q⟩:=hl j y v' e1 e2 e3
    refine ⟨u',r',?_⟩
    rcases q with q | ⟨k,c',e,z'⟩
    ·exact .inl q
    ·refine .inr ⟨k,c',e,z'.sameBut hs ?_⟩
     rintro rfl
     exact hj (nodup_ix hN e1 (I.ok.inj _ _ _ e hc ▸ hi))
  ·by_cases hcc:c'=c
   ·subst hcc;exact ⟨_,hc'⟩
   ·obtain ⟨w2,z2⟩:=I.cell y c' e
    exact ⟨w2,z2.sameBut hs hcc⟩
  ·obtain ⟨e,n,ne,nf,d⟩:=I.pin p hp
   refine ⟨(hs.2 p.1 ?_).trans e,n,ne,nf,d⟩
   intro q
   rw [q,hoc] at e
   have q':oc=p.2:=Option.some.inj e
   exact d w' (by rw [← q'];exact hocd)
theorem store_ok {M:Model} {A:Around} {E:Value→Shared→Prop} {i:Nat} {x:Str} {v:V} {u:Value} {Q:Unit→Shared→Prop} (I:Inv X pins σ H s) (hN:X.N.Nodup) (hi:X.N[i]?=some x) (hx:Loc X.env.scope x) (r:RelV v u)
  (h:∀ s',Inv X pins (σ.set i (some v)) H s'→Q () s') (hf:X.fn x=true∨X.env.scope.names.lookup x=some .local:=by first | exact .inl rfl | exact .inr rfl | assumption):wpAny M A (storeName X.env x u) Q E s :=
 store_ok2 I hN hi hx r (fun s' I' _=>h s' I') hf
theorem Inv.call' {s':Shared} {ch:List Addr} (I:Inv X pins σ H s) (ho:s'.os=s.os) (u:Un (frs X.stack) ch H H' s.heap s'.heap) (hok:HOk X.prog X.w H' s'.heap) (hg:AllBare s'.gens)
  (hch:∀ b∈ch,(b∈X.ex∨X.s₀.heap.objs.size≤b)∧b≠X.env.locals∧(∀ x c,X.env.cells.lookup x=some c→c≠b)∧∀ p∈X.pn ++ pins,p.1≠b):Inv X pins σ H' s':=by
 obtain ⟨h',g',d',t',o'⟩:=s'
 have e:o'=s.os:=ho
 subst e
 exact I.call (g':=g') (t':=t') (d':=d') u hok hg hch
end
abbrev XK:=Value→Option Addr→Hp→Prop
abbrev St:=List (Option V)
abbrev VK:=V→Hp→Prop
abbrev TE:=St→Hp→VK→Prop
abbrev TT:=St→Hp→(Bool→Hp→Prop)→Prop
abbrev TA:=St→Hp→(List V→Hp→Prop)→Prop
structure Ends where
 nx:St→Hp→Prop
 rt:VK
 bk:St→Hp→Prop:=fun _ _=>False
 ct:St→Hp→Prop:=fun _ _=>False
abbrev TS:=Ends→St→Hp→Prop
def EP (X:Cx) (pins:List (Addr × Obj)) (σ:St) (Q:VK) (u:Value) (s':Shared):Prop:=∃ v H',Inv X pins σ H' s'∧RelV v u∧Q v H'
def TP (X:Cx) (pins:List (Addr × Obj)) (σ:St) (Q:Bool→Hp→Prop) (b:Bool) (s':Shared):Prop:=∃ H',Inv X pins σ H' s'∧Q b H'
def AP (X:Cx) (pins:List (Addr × Obj)) (σ:St) (Q:List V→Hp→Prop) (us:List Value) (s':Shared):Prop:=∃ vs H',Inv X pins σ H' s'∧Vals vs us∧Q vs H'
def SP (X:Cx) (pins:List (Addr × Obj)) (D:Ends) (f:Flow) (s':Shared):Prop :=
 match f with
 | .next=>∃ σ' H',Inv X pins σ' H' s'∧D.nx σ' H'
 | .brk=>∃ σ' H',Inv X pins σ' H' s'∧D.bk σ' H'
 | .cont=>∃ σ' H',Inv X pins σ' H' s'∧D.ct σ' H'
 | .ret u=>∃ v σ' H',Inv X pins σ' H' s'∧RelV v u∧D.rt v H'
def PE (X:Cx) (e:Expr) (t:TE):Prop :=
 ∀ (pins:List (Addr × Obj)) (s:Shared) (σ:St) (H:Hp) (Q:VK),Inv X pins σ H s→t σ H Q→wpAny (model X.prog X.w) X.A (eval e X.env) (EP X pins σ Q) X.xe s
def PT (X:Cx) (e:Expr) (t:TT):Prop :=
 ∀ (pins:List (Addr × Obj)) (s:Shared) (σ:St) (H:Hp) (Q:Bool→Hp→Prop),Inv X pins σ H s→t σ H Q→wpAny (model X.prog X.w) X.A (isTrue e X.env (eval e X.env)) (TP X pins σ Q) X.xe s
def PW (X:Cx) (e:Expr) (t:TT):Prop :=
 ∀ (whole:Sem Value) (pins:List (Addr × Obj)) (s:Shared) (σ:St) (H:Hp) (Q:Bool→Hp→Prop),Inv X pins σ H s→t σ H Q→wpAny (model X.prog X.w) X.A (isTrue e X.env whole) (TP X pins σ Q) X.xe s
theorem PW.pt {X:Cx} {e:Expr} {t:TT} (h:PW X e t):PT X e t:=h _
def PA (X:Cx) (es:List Expr) (t:TA):Prop :=
 ∀ (pos:Pos) (pins:List (Addr × Obj)) (s:Shared) (σ:St) (H:Hp) (Q:List V→Hp→Prop),Inv X pins σ H s→t σ H Q→wpAny (model X.prog X.w) X.A (spliced (backTo pos (starEach es X.env))) (AP X pins σ Q) X.xe s
def PS (X:Cx) (st:Stmt) (t:TS):Prop :=
 ∀ (pins:List (Addr × Obj)) (s:Shared) (σ:St) (H:Hp) (D:Ends),Inv X pins σ H s→t D σ H→wpAny (model X.prog X.w) X.A (exec st X.env) (SP X pins D) X.xe s
def PSs (X:Cx) (st:List Stmt) (t:TS):Prop :=
 ∀ (pins:List (Addr × Obj)) (s:Shared) (σ:St) (H:Hp) (D:Ends),Inv X pins σ H s→t D σ H→wpAny (model X.prog X.w) X.A (execs st X.env) (SP X pins D) X.xe s
theorem thn {α:Type} {t:Sem α} {Q Q':α→Shared→Prop} {M:Model} {A:Around} {E:Value→Shared→Prop} {s:Shared} (h:wpAny M A t Q E s) (hQ:∀ a s,Q a s→Q' a s):wpAny M A t Q' E s:=wpAny_mono h hQ fun _ _ x=>x
end L2
namespace L2
open PySem PySem.Spec PyProof.Rows
section
variable {X:Cx}
def tVar (i:Nat):TE:=fun σ H Q=>∃ v,σ[i]?=some (some v)∧Q v H
def tC (v:V):TE:=fun _ H Q=>Q v H
theorem pe_var {i:Nat} {x:Str} {pos:Pos} (hN:X.N[i]?=some x) (hv:Vis X.env.scope x) (hd:(x == ("__debug__":Str))=false:=by decide) (hcd:(x == ("__classdict__":Str))=false:=by decide):PE X (.Name x pos) (tVar i):=by
 intro pins s σ H Q I h
 obtain ⟨v,e,h⟩:=h
 obtain ⟨m,hn,hl⟩:=I.loc
 obtain ⟨u,r,l⟩:=hl i x v hN e hv
 have fin:EP X pins σ Q u s:=⟨v,H,I,r,h⟩
 rcases l with ⟨hk,hm⟩ | ⟨hk,c,hc,hcell⟩
 ·exact wpAny_Name (wpAny_loadName_local I.ok.kind hk hn hm fin) hd
 ·rcases hk with hk | hk
  ·exact wpAny_Name (wpAny_loadName_cell I.ok.kind hk hc hcell fin) hd
  ·exact wpAny_Name (wpAny_loadName_free I.ok.kind hk hc hcell fin hcd) hd
theorem Jb {i j pos}:PE X (.Constant (.int i) j pos) (tC (.int i)):=fun _ _ _ H _ I h=>wpAny_Constant_int ⟨.int i,H,I.tok _,⟨_,rfl⟩,h⟩
theorem pe_bl {b j pos}:PE X (.Constant (.bool b) j pos) (tC (.bl b)):=fun _ _ _ H _ I h=>Constant_bool ⟨.bl b,H,I,rfl,h⟩
theorem pe_non {j pos}:PE X (.Constant .none j pos) (tC .non):=fun _ _ _ H _ I h=>Constant_none ⟨.non,H,I,rfl,h⟩
theorem pe_str {x j pos}:PE X (.Constant (.str x) j pos) (tC (.str x)):=fun _ _ _ H _ I h=>Calls.Constant_str ⟨.str x,H,I.tok _,⟨_,rfl⟩,h⟩
def Gl (X:Cx) (x:Str):Prop:=X.env.kindOf x=some .globalImplicit
theorem ld_glob {E:Value→Shared→Prop} {pins:List (Addr × Obj)} {s:Shared} {σ:St} {H:Hp} {x:Str} {u:Value} {pos:Pos} {Q:Value→Shared→Prop} (I:Inv X pins σ H s) (hg:Gl X x) (hm:X.mg x=some u) (h:Q u s)
  (hd:(x == ("__debug__":Str))=false:=by decide):wpAny (model X.prog X.w) X.A (eval (.Name x pos) X.env) Q E s :=
 Calls.Name_function_global I.ok.kind hg (Calls.loadGlobal_global (by rw [I.ok.glob];exact I.mod.glob.keeps I.bk) hm h) hd
theorem J4h {E:Value→Shared→Prop} {pins:List (Addr × Obj)} {s:Shared} {σ:St} {H:Hp} {x:Str} {u:Value} {pos:Pos} {Q:Value→Shared→Prop} (I:Inv X pins σ H s) (hg:Gl X x) (hm:X.mg x=none) (hv:bootBuiltins x=some u) (h:Q u s)
  (hn:x≠"__name__":=by decide) (hd:(x == ("__debug__":Str))=false:=by decide):wpAny (model X.prog X.w) X.A (eval (.Name x pos) X.env) Q E s:=by
 obtain ⟨mb,h1,h2⟩:=I.mod.blt
 exact Calls.Name_function_global I.ok.kind hg (Calls.loadGlobal_builtin (by rw [I.ok.glob];exact I.mod.glob.keeps I.bk) hm (by rw [I.ok.blt];exact h1.keeps I.bk) ((h2 x hn).trans hv) h) hd
theorem pe_glob {x:Str} {v:V} {u:Value} {pos:Pos} (hg:Gl X x) (hm:X.mg x=some u) (r:RelV v u) (hd:(x == ("__debug__":Str))=false:=by decide):PE X (.Name x pos) (tC v) :=
 fun _ _ _ H _ I h=>ld_glob I hg hm ⟨v,H,I,r,h⟩ hd
theorem pe_bltn {x:Str} {v:V} {u:Value} {pos:Pos} (hg:Gl X x) (hm:X.mg x=none) (hv:bootBuiltins x=some u) (r:RelV v u) (hn:x≠"__name__":=by decide) (hd:(x == ("__debug__":Str))=false:=by decide):PE X (.Name x pos) (tC v) :=
 fun _ _ _ H _ I h=>J4h I hg hm hv ⟨v,H,I,r,h⟩ hn hd
variable {a b:Expr} {ta tb:TE} {pos:Pos}
def PC (X:Cx) (op:CmpOp) (a b:Expr) (t:TE):Prop :=
 ∀ (pins:List (Addr × Obj)) (s:Shared) (σ:St) (H:Hp) (Q:VK),Inv X pins σ H s→t σ H Q→
  wpAny (model X.prog X.w) X.A (eval a X.env) (fun v s₁=>wpAny (model X.prog X.w) X.A (eval b X.env) (fun u s₂=>wpAny (model X.prog X.w) X.A (compareOp op v u) (EP X pins σ Q) X.xe s₂) X.xe s₁) X.xe s
theorem nobehind (b:Expr) {op:CmpOp} (h:op≠.In) (h2:op≠.NotIn):behindInMarks op b=false:=by
 have e1:(op == CmpOp.In)=false:=by cases op <;> first | rfl | exact absurd rfl h
 have e2:(op == CmpOp.NotIn)=false:=by cases op <;> first | rfl | exact absurd rfl h2
 cases b <;> simp [behindInMarks,e1,e2]
def tB (t:TE):TT:=fun σ H Q=>t σ H fun x H1=>∃ c,x=.bl c∧Q c H1
theorem pt_cmp {op:CmpOp} {t:TE} (h:PC X op a b t) (h1:behindInMarks op b=false:=by first | exact nobehind _ (by decide) (by decide) | rfl):PT X (.Compare a [op] [b] pos) (tB t):=by
 intro pins s σ H Q I hw
 refine wpAny_isTrue_Compare1 (thn (h pins s σ H _ I hw) fun v s1 h1=>thn h1 fun u s2 h2=>thn h2 fun c s3 ⟨x,H1,I1,r1,q1⟩=>?_) h1
 obtain ⟨d,rfl,q⟩:=q1
 cases r1
 exact wpAny_truthy_bool ⟨H1,I1,q⟩
theorem pt_val {e:Expr} {t:TE} (h:PE X e t) (he:∀ whole,isTrue e X.env whole=(do let v ← whole;standAt e.pos;holding [v] (truthy v)):=by intro _;rfl):PT X e (tB t):=by
 intro pins s σ H Q I hw
 refine isTrue_plain (thn (h pins s σ H _ I hw) fun v s1 ⟨x,H1,I1,r1,q1⟩=>?_) (he _)
 obtain ⟨d,rfl,q⟩:=q1
 cases r1
 exact wpAny_truthy_bool ⟨H1,I1,q⟩
variable {tA tB':TT} {rest:List Expr}
def tAnd (t u:TT):TT:=fun σ H Q=>t σ H fun c H1=>if c=true then u σ H1 Q else Q false H1
def tOr (t u:TT):TT:=fun σ H Q=>t σ H fun c H1=>if c=true then Q true H1 else u σ H1 Q
def tNot (t:TT):TT:=fun σ H Q=>t σ H fun c H1=>Q (!c) H1
theorem pw_and1 (ha:PT X a tA):PW X (.BoolOp .And [a] pos) tA:=by
 intro wh pins s σ H Q I h
 refine isTrue_and (thn (ha pins s σ H Q I h) fun c s1 e=>?_)
 cases c with
 | true=>exact isTrue_and_nil e
 | false=>exact e
theorem pw_or1 (ha:PT X a tA):PW X (.BoolOp .Or [a] pos) tA:=by
 intro wh pins s σ H Q I h
 refine isTrue_or (thn (ha pins s σ H Q I h) fun c s1 e=>?_)
 cases c with
 | false=>exact isTrue_or_nil e
 | true=>exact e
theorem pw_and (ha:PT X a tA) (hb:PW X (.BoolOp .And (b :: rest) pos) tB'):PW X (.BoolOp .And (a :: b :: rest) pos) (tAnd tA tB'):=by
 intro wh pins s σ H Q I h
 refine isTrue_and (thn (ha pins s σ H _ I h) fun c s1 ⟨H1,I1,q1⟩=>?_)
 cases c with
 | true=>exact hb wh pins s1 σ H1 Q I1 q1
 | false=>exact ⟨H1,I1,q1⟩
theorem pw_or (ha:PT X a tA) (hb:PW X (.BoolOp .Or (b :: rest) pos) tB'):PW X (.BoolOp .Or (a :: b :: rest) pos) (tOr tA tB'):=by
 intro wh pins s σ H Q I h
 refine isTrue_or (thn (ha pins s σ H _ I h) fun c s1 ⟨H1,I1,q1⟩=>?_)
 cases c with
 | true=>exact ⟨H1,I1,q1⟩
 | false=>exact hb wh pins s1 σ H1 Q I1 q1
theorem pt_not (ha:PT X a tA):PT X (.UnaryOp .Not a pos) (tNot tA):=by
 intro pins s σ H Q I h
 exact isTrue_not (ha pins s σ H (fun c H1=>Q (!c) H1) I h)
def tIf (t:TT) (ta tb:TE):TE:=fun σ H Q=>t σ H fun c H1=>if c=true then ta σ H1 Q else tb σ H1 Q
theorem pe_ifExp {c:Expr} (hc:PT X c tA) (ha:PE X a ta) (hb:PE X b tb):PE X (.IfExp c a b pos) (tIf tA ta tb):=by
 intro pins s σ H Q I h
 refine wpAny_IfExp (thn (hc pins s σ H _ I h) fun d s1 ⟨H1,I1,q1⟩=>?_)
 cases d with
 | true=>exact ha pins s1 σ H1 Q I1 q1
 | false=>exact hb pins s1 σ H1 Q I1 q1
end
end L2
namespace L2
open PySem PySem.Spec PyProof.Rows
def SqL (K:PySem.W.Frag) (H:Hp) (a:Addr) (xs:List V):Prop :=
 Rd H a (.lst xs)∨
  ∃ (o:Obj) (its:Array Value) (n:Nat),K.lookup a=some o∧o.cls=.type "list"∧o.dict=none∧o.data=.seq its n∧its.size≤sizeLine∧Vals xs its.toList
def SqT (K:PySem.W.Frag) (H:Hp) (a:Addr) (xs:List V):Prop :=
 Rd H a (.tup xs)∨
  ∃ (o:Obj) (its:Array Value) (n:Nat),K.lookup a=some o∧o.cls=.type "tuple"∧o.data=.seq its n∧its.size≤sizeLine∧Vals xs its.toList
def absV:Value→Option V
 | .none=>some .non
 | .bool b=>some (.bl b)
 | .int i _=>some (.int i)
 | .str x _=>some (.str x)
 | .bytes b _=>some (.byt b)
 | .float b _=>some (.flt b)
 | .ref a=>some (.ref a)
 | .type n=>some (.ty n)
 | _=>none
theorem RelV.abs {x:V} {u:Value} (r:RelV x u):absV u=some x:=by
 cases x with
 | non=>cases r;rfl
 | bl _=>cases r;rfl
 | int _=>obtain ⟨t,rfl⟩:=r;rfl
 | str _=>obtain ⟨t,rfl⟩:=r;rfl
 | byt _=>obtain ⟨t,rfl⟩:=r;rfl
 | flt _=>obtain ⟨t,rfl⟩:=r;rfl
 | ref _=>cases r;rfl
 | ty _=>cases r;rfl
theorem RelV.inj {x y:V} {u:Value} (r:RelV x u) (q:RelV y u):x=y:=Option.some.inj (r.abs.symm.trans q.abs)
theorem Vals.inj:∀ {xs ys:List V} {us:List Value},Vals xs us→Vals ys us→xs=ys
 | _,_,_,.nil,.nil=>rfl
 | _,_,_,.cons r t,.cons r' t'=>by rw [r.inj r',Vals.inj t t']
section
variable {X:Cx} {pins:List (Addr × Obj)} {σ:St} {H:Hp} {s:Shared} {a:Addr} {xs ys:List V}
theorem SqL.of {K:PySem.W.Frag} (h:H a=some (.lst xs)):SqL K H a xs:=.inl (.inl h)
theorem SqT.of {K:PySem.W.Frag} (h:H a=some (.tup xs)):SqT K H a xs:=.inl (.inl h)
theorem Inv.list (I:Inv X pins σ H s) (h:SqL X.K H a xs):∃ its:List Value,Vals xs its∧PlainL s.heap a its.toArray∧xs.length≤sizeLine:=by
 rcases h with h | ⟨o,its,n,hk,hc,hd,hs,hz,r⟩
 ·obtain ⟨z,its,n,r,e⟩:=h.ok I.hok
  exact ⟨its,r,⟨_,n,e,rfl,rfl,rfl⟩,z⟩
 ·refine ⟨its.toList,r,⟨o,n,I.kIn a o hk,hc,hd,by simpa using hs⟩,?_⟩
  have e:=r.length
  simp only [Array.length_toList] at e
  omega
theorem Inv.tuple (I:Inv X pins σ H s) (h:SqT X.K H a xs):∃ its:List Value,Vals xs its∧IsTup s.heap a its.toArray∧xs.length≤sizeLine:=by
 rcases h with h | ⟨o,its,n,hk,hc,hs,hz,r⟩
 ·obtain ⟨z,its,r,p⟩:=h.ok I.hok
  exact ⟨its,r,p.tup,z⟩
 ·refine ⟨its.toList,r,⟨o,I.kIn a o hk,hc,n,by simpa using hs⟩,?_⟩
  have e:=r.length
  simp only [Array.length_toList] at e
  omega
theorem Inv.list_inj (I:Inv X pins σ H s) (h:SqL X.K H a xs) (h':SqL X.K H a ys):xs=ys:=by
 obtain ⟨its,r,⟨o,n,e,_,_,d⟩,_⟩:=I.list h
 obtain ⟨its',r',⟨o',n',e',_,_,d'⟩,_⟩:=I.list h'
 rw [e] at e';cases e'
 rw [d] at d'
 injection d' with d1 _
 have:its=its':=by simpa using congrArg Array.toList d1
 subst this
 exact r.inj r'
theorem Inv.tuple_inj (I:Inv X pins σ H s) (h:SqT X.K H a xs) (h':SqT X.K H a ys):xs=ys:=by
 obtain ⟨its,r,⟨o,e,_,n,d⟩,_⟩:=I.tuple h
 obtain ⟨its',r',⟨o',e',_,n',d'⟩,_⟩:=I.tuple h'
 rw [e] at e';cases e'
 rw [d] at d'
 injection d' with d1 _
 have:its=its':=by simpa using congrArg Array.toList d1
 subst this
 exact r.inj r'
end
abbrev Cx.wish (X:Cx) (E:Value→Shared→Prop):Cx:={ X with xe:=E }
abbrev Cx.nox (X:Cx):Cx:=X.wish fun _ _=>False
theorem Cx.Ok.wish {X:Cx} (ok:X.Ok) (E:Value→Shared→Prop):(X.wish E).Ok :=
 ⟨ok.mod,ok.kind,ok.glob,ok.blt,ok.above,ok.inj,ok.has,ok.cab,ok.hd,ok.frames,ok.stk,ok.exf,ok.bs,ok.bsz,ok.noex,ok.exfs,ok.funs,ok.frf⟩
theorem Cx.Ok.unwish {X:Cx} {E:Value→Shared→Prop} (ok:(X.wish E).Ok):X.Ok :=
 ⟨ok.mod,ok.kind,ok.glob,ok.blt,ok.above,ok.inj,ok.has,ok.cab,ok.hd,ok.frames,ok.stk,ok.exf,ok.bs,ok.bsz,ok.noex,ok.exfs,ok.funs,ok.frf⟩
section
variable {X:Cx} {pins:List (Addr × Obj)} {σ:St} {H:Hp} {s:Shared} {E:Value→Shared→Prop}
theorem Inv.wish (I:Inv X pins σ H s) (E:Value→Shared→Prop):Inv (X.wish E) pins σ H s:=⟨I.ok.wish E,I.os,I.bare,I.base,I.loc,I.cell,I.free,I.freeC,I.pin,I.hok,I.len⟩
theorem Inv.unwish (I:Inv (X.wish E) pins σ H s):Inv X pins σ H s:=⟨I.ok.unwish,I.os,I.bare,I.base,I.loc,I.cell,I.free,I.freeC,I.pin,I.hok,I.len⟩
theorem SP.unwish {D:Ends} {f:Flow} {s':Shared} (h:SP (X.wish E) pins D f s'):SP X pins D f s':=by
 cases f with
 | next=>obtain ⟨σ',H',I,q⟩:=h;exact ⟨σ',H',I.unwish,q⟩
 | brk=>obtain ⟨σ',H',I,q⟩:=h;exact ⟨σ',H',I.unwish,q⟩
 | cont=>obtain ⟨σ',H',I,q⟩:=h;exact ⟨σ',H',I.unwish,q⟩
 | ret u=>obtain ⟨v,σ',H',I,r,q⟩:=h;exact ⟨v,σ',H',I.unwish,r,q⟩
theorem PSs.nox {st:List Stmt} {t:TS} (h:PSs X.nox st t):PSs X st t:=fun pins s σ H D I hw =>
 wpAny_mono (h pins s σ H D (I.wish _) hw) (fun _ _ q=>q.unwish) fun _ _ z=>False.elim z
end
section
variable {X:Cx} {st:Stmt} {rest:List Stmt} {t u:TS} {e:Expr} {te:TE} {pos:Pos}
def tNext:TS:=fun D σ H=>D.nx σ H
def tSeq (t u:TS):TS:=fun D σ H=>t { D with nx:=u D } σ H
theorem Ju:PSs X [] tNext:=fun _ _ σ H _ I h=>wpAny_execs_nil ⟨σ,H,I,h⟩
theorem J2 (h1:PS X st t) (h2:PSs X rest u):PSs X (st :: rest) (tSeq t u):=by
 intro pins s σ H D I h
 refine wpAny_execs_cons (thn (h1 pins s σ H { D with nx:=u D } I h) fun f s1 q=>?_)
 cases f with
 | next =>
  obtain ⟨σ',H',I',q⟩:=q
  exact h2 pins s1 σ' H' D I' q
 | ret v=>exact q
 | brk=>exact q
 | cont=>exact q
theorem J8 (h1:PS X st t):PSs X [st] t:=by
 intro pins s σ H D I h
 refine wpAny_execs_cons (thn (h1 pins s σ H D I h) fun f s1 q=>?_)
 cases f with
 | next=>exact wpAny_execs_nil q
 | ret v=>exact q
 | brk=>exact q
 | cont=>exact q
theorem Inv.quiet {pins:List (Addr × Obj)} {σ:St} {H:Hp} {s:Shared} (I:Inv X pins σ H s):interactive X.env=false:=by simp [interactive,I.ok.kind]
def tDrop (te:TE):TS:=fun D σ H=>te σ H fun _ H1=>D.nx σ H1
theorem J31 (he:PE X e te) (hs:swapsWith e none pos.line X.env=pure false:=by rfl):PS X (.Expr e pos) (tDrop te):=by
 intro pins s σ H D I h
 exact wpAny_Expr_any (thn (he pins s σ H _ I h) fun v s1 ⟨x,H1,I1,r1,q1⟩=>⟨σ,H1,I1,q1⟩) I.quiet hs
def tRet (te:TE):TS:=fun D σ H=>te σ H D.rt
theorem Jv (he:PE X e te):PS X (.Return (some e) pos) (tRet te):=by
 intro pins s σ H D I h
 exact wpAny_Return_some (thn (he pins s σ H _ I h) fun v s1 ⟨x,H1,I1,r1,q1⟩=>⟨x,σ,H1,I1,r1,q1⟩)
def tIfS (c:TT) (t u:TS):TS:=fun D σ H=>c σ H fun b H1=>if b=true then t D σ H1 else u D σ H1
theorem ps_if {c:Expr} {a b:List Stmt} {tc:TT} (hc:PT X c tc) (ha:PSs X a t) (hb:PSs X b u):PS X (.If c a b pos) (tIfS tc t u):=by
 intro pins s σ H D I h
 refine wpAny_If (thn (hc pins s σ H _ I h) fun d s1 ⟨H1,I1,q1⟩=>?_)
 cases d with
 | true=>exact ha pins s1 σ H1 D I1 q1
 | false=>exact hb pins s1 σ H1 D I1 q1
end
abbrev TG:=V→St→Hp→(St→Hp→Prop)→Prop
abbrev TGs:=List V→St→Hp→(St→Hp→Prop)→Prop
def PG (X:Cx) (target:Expr) (t:TG):Prop :=
 ∀ (pins:List (Addr × Obj)) (s:Shared) (σ:St) (H:Hp) (v:V) (u:Value) (Q:St→Hp→Prop),Inv X pins σ H s→RelV v u→t v σ H Q→
  wpAny (model X.prog X.w) X.A (assign target X.env u) (fun _ s'=>∃ σ' H',Inv X pins σ' H' s'∧Q σ' H') X.xe s
def PGs (X:Cx) (ts:List Expr) (t:TGs):Prop :=
 ∀ (pins:List (Addr × Obj)) (s:Shared) (σ:St) (H:Hp) (vs:List V) (us:List Value) (Q:St→Hp→Prop),Inv X pins σ H s→Vals vs us→t vs σ H Q→
  wpAny (model X.prog X.w) X.A (assignInOrder ((assignEach ts X.env).map (·.2)) us) (fun _ s'=>∃ σ' H',Inv X pins σ' H' s'∧Q σ' H') X.xe s
abbrev TSet:=V→V→V→Hp→(Hp→Prop)→Prop
def PSet (X:Cx) (t:TSet):Prop :=
 ∀ (pins:List (Addr × Obj)) (s:Shared) (σ:St) (H:Hp) (o i v:V) (ov iv u:Value) (Q:Hp→Prop),Inv X pins σ H s→RelV o ov→RelV i iv→RelV v u→t o i v H Q→
  wpAny (model X.prog X.w) X.A (setItem ov iv u) (fun _ s'=>∃ H',Inv X pins σ H' s'∧Q H') X.xe s
section
variable {X:Cx} {pos:Pos}
def gName (i:Nat):TG:=fun v σ H Q=>Q (σ.set i (some v)) H
theorem J1o {i:Nat} {x:Str} (hN:X.N.Nodup) (hi:X.N[i]?=some x) (hx:Loc X.env.scope x) (hf:X.fn x=true∨X.env.scope.names.lookup x=some .local:=by first | exact .inl rfl | exact .inr rfl | assumption):PG X (.Name x pos) (gName i):=by
 intro pins s σ H v u Q I r h
 exact wpAny_assign_Name (store_ok I hN hi hx r (fun s' I'=>⟨_,H,I',h⟩) hf)
def gNil:TGs:=fun vs σ H Q=>vs=[]∧Q σ H
def gCons (t:TG) (u:TGs):TGs:=fun vs σ H Q=>∃ v r,vs=v :: r∧t v σ H fun σ' H'=>u r σ' H' Q
theorem pgs_nil:PGs X [] gNil:=by
 intro pins s σ H vs us Q I r h
 obtain ⟨e,h⟩:=h
 subst e
 cases r
 exact assignInOrder_nil ⟨σ,H,I,h⟩
theorem pgs_cons {e:Expr} {es:List Expr} {t:TG} {u:TGs} (h1:PG X e t) (h2:PGs X es u)
  (hs:(assignEach (e :: es) X.env).map (·.2)=assign e X.env :: (assignEach es X.env).map (·.2):=by rfl):PGs X (e :: es) (gCons t u):=by
 intro pins s σ H vs us Q I r h
 obtain ⟨v,vr,e1,h⟩:=h
 subst e1
 cases r with
 | cons r rr =>
  rw [hs]
  refine assignInOrder_cons (thn (h1 pins s σ H _ _ _ I r h) fun _ s1 ⟨σ1,H1,I1,q1⟩=>?_)
  exact h2 pins s1 σ1 H1 _ _ Q I1 rr q1
def gTup (K:PySem.W.Frag) (n:Nat) (t:TGs):TG:=fun v σ H Q=>∃ a xs,v=.ref a∧SqT K H a xs∧xs.length=n∧t xs σ H Q
theorem pg_tup {es:List Expr} {k:Nat} {t:TGs} {n:Nat} (hc:X.calm=true) (h:PGs X es t)
  (hn:(assignEach es X.env).length=n:=by rfl) (hst:(assignEach es X.env).findIdx? (·.1)=none:=by rfl):PG X (.Tuple es k pos) (gTup X.K n t):=by
 intro pins s σ H v u Q I r hw
 obtain ⟨a,xs,e1,hq,hl,hw⟩:=hw
 subst e1
 cases r
 obtain ⟨its,rv,ht,hz⟩:=I.tuple hq
 refine assign_Tuple_tuple (I.ok.hd hc) ht (by simp [hn,← hl,rv.length]) hst fun h' hx=>?_
 have I1:Inv X pins σ H { s with heap:=h' }:=I.kept (t':=s.toks) fun b o e=>hx b o (Nat.ne_of_lt (Heap.lt_size e)) e
 exact h pins _ σ H xs _ Q I1 (by simpa using rv) hw
def gSub (to ti:TE) (t:TSet):TG:=fun v σ H Q=>to σ H fun o H1=>ti σ H1 fun i H2=>t o i v H2 fun H3=>Q σ H3
theorem pg_sub {o i:Expr} {to ti:TE} {t:TSet} (ho:PE X o to) (hi:PE X i ti) (hs:PSet X t)
  (ha:∀ v,assign (.Subscript o i pos) X.env v=(do
   let ov ← holding [v] (eval o X.env)
   let iv ← holding [v,ov] (eval i X.env)
   standAt pos
   holding [v,ov,iv] (setItem ov iv v)
   release [v,ov,iv] []):=by intro _;rfl):PG X (.Subscript o i pos) (gSub to ti t):=by
 intro pins s σ H v u Q I r h
 rw [ha]
 refine wpAny_bind (wpAny_holding (thn (ho pins s σ H _ I h) fun ov s1 ⟨x,H1,I1,r1,q1⟩=>?_))
 refine wpAny_bind (wpAny_holding (thn (hi pins s1 σ H1 _ I1 q1) fun iv s2 ⟨y,H2,I2,r2,q2⟩=>?_))
 refine wpAny_bind (wpAny_standAt (wpAny_bind (wpAny_holding (thn (hs pins s2 σ H2 x y v ov iv u _ I2 r1 r2 r q2) fun _ s3 ⟨H3,I3,q3⟩=>?_))))
 exact wpAny_release ⟨σ,H3,I3,q3⟩
def tAsg (te:TE) (g:TG):TS:=fun D σ H=>te σ H fun x H1=>g x σ H1 D.nx
theorem ps_asg {tg e:Expr} {te:TE} {g:TG} (he:PE X e te) (hg:PG X tg g) (hs:swapsWithSole [tg] e pos.line X.env=pure false:=by rfl) (hw:swappedStores [tg] e X.env=pure none:=by rfl)
  (h1:(assignEach [tg] X.env).map (·.2)=[assign tg X.env]:=by rfl):PS X (.Assign [tg] e pos) (tAsg te g):=by
 intro pins s σ H D I h
 refine wpAny_Assign_stores (thn (he pins s σ H _ I h) fun v s1 ⟨x,H1,I1,r1,q1⟩=>?_) hs hw
 rw [h1]
 exact thn (hg pins s1 σ H1 x v _ I1 r1 q1) fun _ s2 q=>q
theorem Jj {i:Nat} {x:Str} {e:Expr} {te:TE} {pos':Pos} (hN:X.N.Nodup) (hi:X.N[i]?=some x) (hx:Loc X.env.scope x) (he:PE X e te) (hs:swapsWith e (some (.Name x pos')) pos.line X.env=pure false:=by rfl) (hf:X.fn x=true∨X.env.scope.names.lookup x=some .local:=by first | exact .inl rfl | exact .inr rfl | assumption) :
  PS X (.Assign [.Name x pos'] e pos) (tAsg te (gName i)):=by
 intro pins s σ H D I h
 refine wpAny_Assign_Name (thn (he pins s σ H _ I h) fun v s1 ⟨y,H1,I1,r1,q1⟩=>?_) hs
 exact store_ok I1 hN hi hx r1 (fun s2 I2=>⟨_,H1,I2,q1⟩) hf
end
section
variable {X:Cx} {pos:Pos}
def tWhile (c:TT) (tb:TS):TS:=fun D σ H=>∃ W:Nat→St→Hp→Prop,(∃ m,W m σ H)∧∀ m σ H,W m σ H→
 c σ H fun b H1=>if b=true then ∃ N:St→Hp→Prop,(∀ σ' H',N σ' H'→∃ m',m' < m∧W m' σ' H')∧tb { D with nx:=N,ct:=N,bk:=D.nx } σ H1 else D.nx σ H1
theorem J47 {c:Expr} {body:List Stmt} {tc:TT} {tb:TS} (hp:PassesOwn (model X.prog X.w) X.A X.env X.xe) (hc:PT X c tc) (hb:PSs X body tb):PS X (.While c body [] pos) (tWhile tc tb):=by
 intro pins s σ H D I h
 obtain ⟨W,⟨m0,w0⟩,turn⟩:=h
 refine wpAny_While (codeAny_whileLoop (fun n s'=>∃ σ' H',Inv X pins σ' H' s'∧W n σ' H') ?_ m0 ⟨σ,H,I,w0⟩)
 rintro n s1 ⟨σ1,H1,I1,w1⟩
 refine wpAny_passesOwn hp (thn (hc pins s1 σ1 H1 _ I1 (turn n σ1 H1 w1)) fun b s2 ⟨H2,I2,q2⟩=>?_)
 cases b with
 | true =>
  obtain ⟨N,hN,q2⟩:=q2
  rw [if_pos rfl]
  refine wpAny_passesOwn hp (thn (hb pins s2 σ1 H2 _ I2 q2) fun f s3 q3=>?_)
  cases f with
  | next =>
   obtain ⟨σ3,H3,I3,n3⟩:=q3
   obtain ⟨m',hm,w3⟩:=hN σ3 H3 n3
   exact ⟨m',hm,σ3,H3,I3,w3⟩
  | cont =>
   obtain ⟨σ3,H3,I3,n3⟩:=q3
   obtain ⟨m',hm,w3⟩:=hN σ3 H3 n3
   exact ⟨m',hm,σ3,H3,I3,w3⟩
  | brk=>exact q3
  | ret v=>exact q3
 | false =>
  rw [if_neg Bool.false_ne_true]
  exact wpAny_execs_nil ⟨σ1,H2,I2,q2⟩
end
structure It where
 go:Nat→Hp→Prop
 yld:Nat→Hp→V→Hp→Prop
 stop:Nat→Hp→Prop
def FpOk (X:Cx) (pins:List (Addr × Obj)) (H:Hp) (b:Addr):Prop :=
 H b=none∧b≠X.env.locals∧b ∉ X.fs∧(b∈X.ex∨X.s₀.heap.objs.size≤b)∧(∀ x c,X.env.cells.lookup x=some c→c≠b)∧∀ p∈X.pn ++ pins,p.1≠b
theorem Inv.fpOk {X:Cx} {pins:List (Addr × Obj)} {σ:St} {H H':Hp} {s:Shared} {b:Addr} (I:Inv X pins σ H s) (hb:s.heap.objs.size≤b) (hn:H' b=none):FpOk X pins H' b:=by
 refine ⟨hn,Nat.ne_of_gt (Nat.lt_of_lt_of_le I.lt hb),I.nofs hb,.inr (Nat.le_trans I.sz hb),fun x c e z=>?_,fun p hp z=>?_⟩
 ·obtain ⟨v,q⟩:=I.cell x c e
  exact absurd (Nat.lt_of_lt_of_le q.lt (by rw [z];exact hb)) (Nat.lt_irrefl _)
 ·exact absurd (Nat.lt_of_lt_of_le (Heap.lt_size (I.pin p hp).1) (by rw [z];exact hb)) (Nat.lt_irrefl _)
structure Turn (P:Program) (w:World) (K:PySem.W.Frag) (tg:Expr) (J:It) (fp:List Addr) (it:Addr) (tn:Nat→Heap→Prop):Prop where
 mem:it∈fp
 obj:∀ i h,tn i h→∀ b∈fp,∃ o,h.get? b=some o∧∀ v,o.data≠.cell v
 keep:∀ i h h',tn i h→(∀ b∈fp,∀ o,h.get? b=some o→h'.get? b=some o)→tn i h'
 item:∀ (X:Cx),X.prog=P→X.w=w→X.K=K→X.calm=true→∀ (i:Nat) (pins:List (Addr × Obj)) (s:Shared) (σ:St) (H:Hp) (E:Value→Shared→Prop),Inv X pins σ H s→(∀ b∈fp,FpOk X pins H b)→tn i s.heap→J.go i H→
  wpAny (model P w) X.A (pyNext (.ref it)) (fun r s1=>∃ u,r=some u∧
   wpAny (model P w) X.A (letOwnedTupleGo tg (.ref it) u) (fun _ s2=>∃ x H',Inv X pins σ H' s2∧RelV x u∧J.yld i H x H'∧tn (i + 1) s2.heap∧∀ b∈fp,H' b=none) E s1) E s
 done:∀ (X:Cx),X.prog=P→X.w=w→X.K=K→X.calm=true→∀ (i:Nat) (pins:List (Addr × Obj)) (s:Shared) (σ:St) (H:Hp) (E:Value→Shared→Prop),Inv X pins σ H s→(∀ b∈fp,FpOk X pins H b)→tn i s.heap→J.stop i H→
  wpAny (model P w) X.A (pyNext (.ref it)) (fun r s1=>r=none∧Inv X pins σ H s1) E s
 self:∀ (A:Around) (i:Nat) (s:Shared) (Q:Value→Shared→Prop) (E:Value→Shared→Prop),tn i s.heap→Q (.ref it) s→wpAny (model P w) A (pyIter (.ref it)) Q E s
abbrev TI:=St→Hp→(It→Hp→Prop)→Prop
def PIE (X:Cx) (pins:List (Addr × Obj)) (σ:St) (tg:Expr) (R:It→Hp→Prop) (itv:Value) (s2:Shared):Prop :=
 ∃ (it:Addr) (fp:List Addr) (tn:Nat→Heap→Prop) (J:It) (H':Hp),itv=.ref it∧Inv X pins σ H' s2∧Turn X.prog X.w X.K tg J fp it tn∧tn 0 s2.heap∧(∀ b∈fp,FpOk X pins H' b)∧R J H'
def PI (X:Cx) (tg iter:Expr) (wi:TI):Prop :=
 ∀ (pins:List (Addr × Obj)) (s:Shared) (σ:St) (H:Hp) (R:It→Hp→Prop),Inv X pins σ H s→wi σ H R→
  wpAny (model X.prog X.w) X.A (eval iter X.env) (fun v s1=>wpAny (model X.prog X.w) X.A (pyIter v) (PIE X pins σ tg R) X.xe s1) X.xe s
theorem go_of {M : Model} {A : Around} {E : Value → Shared → Prop} {s : Shared} {tg : Expr} {it : Addr} {u : Value} {o : Obj} {n : String} {vs : Array Value} {Q : Unit → Shared → Prop} (ho : s.heap.get? it = some o) (hc : o.cls = .type n) (hd : o.data = .fields vs)
    (hn : ["enumerate", "zip", "dict_itemiterator", "dict_reverseitemiterator", "odict_iterator", "itertools.zip_longest", "itertools.pairwise"].contains n = false) (hQ : Q () s) : wpAny M A (letOwnedTupleGo tg (.ref it) u) Q E s := by
  unfold letOwnedTupleGo
  cases tg <;> first
    | exact wpAny_pure hQ
    | (cases u <;> first
        | exact wpAny_pure hQ
        | (refine wpAny_bind (wpAny_load ho ?_)
           rw [hc, hd]
           show wpAny M A (if (["enumerate", "zip", "dict_itemiterator", "dict_reverseitemiterator", "odict_iterator", "itertools.zip_longest", "itertools.pairwise"].contains n && vs[0]? == some (rawInt _)) = true then _ else _) Q E s
           rw [if_neg (by intro h; rw [hn, Bool.false_and] at h; cases h)]
           exact wpAny_pure hQ))
def Itl (K:PySem.W.Frag) (a:Addr):It :=
 ⟨fun i H=>∃ xs x,SqL K H a xs∧xs[i]?=some x,fun i H x H'=>H'=H∧∀ xs,SqL K H a xs→xs[i]?=some x,fun i H=>∃ xs,SqL K H a xs∧xs.length≤i⟩
def Itt (K:PySem.W.Frag) (a:Addr):It :=
 ⟨fun i H=>∃ xs x,SqT K H a xs∧xs[i]?=some x,fun i H x H'=>H'=H∧∀ xs,SqT K H a xs→xs[i]?=some x,fun i H=>∃ xs,SqT K H a xs∧xs.length≤i⟩
def Itr (lo:Int) (n:Nat):It:=⟨fun i _=>i < n,fun i H x H'=>H'=H∧x=.int (lo + i),fun i _=>n≤i⟩
theorem turn_list {P:Program} {w:World} {K:PySem.W.Frag} {tg:Expr} (a it:Addr):Turn P w K tg (Itl K a) [it] it (fun i h=>h.IsListIter it a i) where
 mem:=by simp
 obj:=fun i h st b hb=>by
  have e:b=it:=by simpa using hb
  subst e
  obtain ⟨o,e,c,d⟩:=st
  exact ⟨o,e,fun v z=>by rw [d] at z;cases z⟩
 keep:=fun i h h' st k=>st.at fun o e=>k it (by simp) o e
 item:=by
  intro X hP hw hK hc i pins s σ H E I hf st hg
  subst hP hw hK
  obtain ⟨xs,x,hq,hx⟩:=hg
  obtain ⟨its,rv,p,hz⟩:=I.list hq
  obtain ⟨u,hu,ru⟩:=rv.get hx
  obtain ⟨f0,f1,f2,f3,f4,f5⟩:=hf it (by simp)
  refine wpAny_pyNext_list_item st p.isList (x:=u) (by simpa using hu) fun h' st' sb=>?_
  have I1:Inv X pins σ H { s with heap:=h' }:=I.turned (t':=s.toks) (fun b o hb e=>(sb.2 b hb).trans e) f0 f1 f3 f4 f5
  obtain ⟨o,e,c,d⟩:=id st'
  exact ⟨u,rfl,go_of (s:={ s with heap:=h' }) e c d (by decide) ⟨x,H,I1,ru,⟨rfl,fun ys hy=>by rw [I.list_inj hy hq];exact hx⟩,st',fun b hb=>(hf b hb).1⟩⟩
 done:=by
  intro X hP hw hK hc i pins s σ H E I hf st hg
  subst hP hw hK
  obtain ⟨xs,hq,hx⟩:=hg
  obtain ⟨its,rv,p,hz⟩:=I.list hq
  obtain ⟨f0,f1,f2,f3,f4,f5⟩:=hf it (by simp)
  have hl:=rv.length
  exact wpAny_pyNext_list_end (I.ok.hd hc) st p.isList (by simp;omega) fun h' eb=>⟨rfl,I.turned (t':=s.toks) (fun b o hb e=>eb b o hb e) f0 f1 f3 f4 f5⟩
 self:=fun _ _ _ _ _ st h=>wpAny_pyIter_listiter st h
theorem turn_tuple {P:Program} {w:World} {K:PySem.W.Frag} {tg:Expr} (a it:Addr):Turn P w K tg (Itt K a) [it] it (fun i h=>h.IsTupleIter it a i) where
 mem:=by simp
 obj:=fun i h st b hb=>by
  have e:b=it:=by simpa using hb
  subst e
  obtain ⟨o,e,c,d⟩:=st
  exact ⟨o,e,fun v z=>by rw [d] at z;cases z⟩
 keep:=fun i h h' st k=>st.at fun o e=>k it (by simp) o e
 item:=by
  intro X hP hw hK hc i pins s σ H E I hf st hg
  subst hP hw hK
  obtain ⟨xs,x,hq,hx⟩:=hg
  obtain ⟨its,rv,p,hz⟩:=I.tuple hq
  obtain ⟨u,hu,ru⟩:=rv.get hx
  obtain ⟨f0,f1,f2,f3,f4,f5⟩:=hf it (by simp)
  refine wpAny_pyNext_tuple_item st (show s.heap.IsTuple a its.toArray from p) (x:=u) (by simpa using hu) fun h' st' sb=>?_
  have I1:Inv X pins σ H { s with heap:=h' }:=I.turned (t':=s.toks) (fun b o hb e=>(sb.2 b hb).trans e) f0 f1 f3 f4 f5
  obtain ⟨o,e,c,d⟩:=id st'
  exact ⟨u,rfl,go_of (s:={ s with heap:=h' }) e c d (by decide) ⟨x,H,I1,ru,⟨rfl,fun ys hy=>by rw [I.tuple_inj hy hq];exact hx⟩,st',fun b hb=>(hf b hb).1⟩⟩
 done:=by
  intro X hP hw hK hc i pins s σ H E I hf st hg
  subst hP hw hK
  obtain ⟨xs,hq,hx⟩:=hg
  obtain ⟨its,rv,p,hz⟩:=I.tuple hq
  obtain ⟨f0,f1,f2,f3,f4,f5⟩:=hf it (by simp)
  have hl:=rv.length
  exact wpAny_pyNext_tuple_end (I.ok.hd hc) st (show s.heap.IsTuple a its.toArray from p) (by simp;omega) fun h' eb=>⟨rfl,I.turned (t':=s.toks) (fun b o hb e=>eb b o hb e) f0 f1 f3 f4 f5⟩
 self:=fun _ _ _ _ _ st h=>wpAny_pyIter_tupleiter st h
theorem turn_range {P:Program} {w:World} {K:PySem.W.Frag} {tg:Expr} (it:Addr) (lo:Int) (n:Nat):Turn P w K tg (Itr lo n) [it] it (fun i h=>IsRangeIter h it (lo + (i:Nat) * 1) ((n:Int) - (i:Nat)) 1) where
 mem:=by simp
 obj:=fun i h st b hb=>by
  have e:b=it:=by simpa using hb
  subst e
  exact ⟨_,st,fun v z=>by
   have z':Data.fields _=Data.cell v:=z
   cases z'⟩
 keep:=fun i h h' st k=>k it (by simp) _ st
 item:=by
  intro X hP hw hK hc i pins s σ H E I hf st hg
  subst hP hw hK
  obtain ⟨f0,f1,f2,f3,f4,f5⟩:=hf it (by simp)
  have W:=Walks.range (prog:=X.prog) (w:=X.w) (I.ok.hd hc) it lo 1 n
  refine W.item i s _ _ hg st fun v h' tk hv st' kk=>?_
  obtain ⟨t,rfl⟩:=hv
  have I1:Inv X pins σ H { s with heap:=h',toks:=tk }:=I.turned (fun b o hb e=>kk b o (by simpa using hb) e) f0 f1 f3 f4 f5
  refine ⟨_,rfl,go_of (s:={ s with heap:=h',toks:=tk }) (n:="range_iterator") st' rfl rfl (by decide) ⟨.int (lo + i),H,I1,⟨t,?_⟩,⟨rfl,rfl⟩,st',fun b hb=>(hf b hb).1⟩⟩
  rw [Int.mul_one]
 done:=by
  intro X hP hw hK hc i pins s σ H E I hf st hg
  subst hP hw hK
  obtain ⟨f0,f1,f2,f3,f4,f5⟩:=hf it (by simp)
  exact wpAny_pyNext_range_end (I.ok.hd hc) st (by have:n≤i:=hg;omega) fun h' eb=>⟨rfl,I.turned (t':=s.toks) (fun b o hb e=>eb b o hb e) f0 f1 f3 f4 f5⟩
 self:=fun _ _ _ _ _ st h=>wpAny_pyIter_rangeiter st h
end L2
namespace L2
open PySem PySem.Spec PyProof.Rows
section
variable {X:Cx} {tg:Expr}
def iList (K:PySem.W.Frag) (tl:TE):TI:=fun σ H R=>tl σ H fun x H1=>∃ a,x=.ref a∧(∃ xs,SqL K H1 a xs)∧R (Itl K a) H1
def iTup (K:PySem.W.Frag) (tl:TE):TI:=fun σ H R=>tl σ H fun x H1=>∃ a,x=.ref a∧(∃ xs,SqT K H1 a xs)∧R (Itt K a) H1
theorem J3q {l:Expr} {tl:TE} (hl:PE X l tl):PI X tg l (iList X.K tl):=by
 intro pins s σ H R I h
 refine thn (hl pins s σ H _ I h) fun v s1 ⟨x,H1,I1,r1,q1⟩=>?_
 obtain ⟨a,e,⟨xs,hq⟩,q⟩:=q1
 subst e
 cases r1
 obtain ⟨its,rv,p,hz⟩:=I1.list hq
 refine wpAny_pyIter_list p.isList ?_
 refine ⟨s1.heap.objs.size,[s1.heap.objs.size],_,_,H1,rfl,I1.kept (t':=s1.toks) fun b o e=>Heap.get?_push_of_some _ e,turn_list a _,⟨_,Heap.get?_push_size _ rfl,rfl,rfl⟩,fun b hb=>?_,q⟩
 have e:b=s1.heap.objs.size:=by simpa using hb
 subst e
 exact I1.fpOk (Nat.le_refl _) (I1.hok.fresh (Nat.le_refl _))
theorem pi_tup {l:Expr} {tl:TE} (hl:PE X l tl):PI X tg l (iTup X.K tl):=by
 intro pins s σ H R I h
 refine thn (hl pins s σ H _ I h) fun v s1 ⟨x,H1,I1,r1,q1⟩=>?_
 obtain ⟨a,e,⟨xs,hq⟩,q⟩:=q1
 subst e
 cases r1
 obtain ⟨its,rv,p,hz⟩:=I1.tuple hq
 refine wpAny_pyIter_tuple (show s1.heap.IsTuple a its.toArray from p) ?_
 refine ⟨s1.heap.objs.size,[s1.heap.objs.size],_,_,H1,rfl,I1.kept (t':=s1.toks) fun b o e=>Heap.get?_push_of_some _ e,turn_tuple a _,⟨_,Heap.get?_push_size _ rfl,rfl,rfl⟩,fun b hb=>?_,q⟩
 have e:b=s1.heap.objs.size:=by simpa using hb
 subst e
 exact I1.fpOk (Nat.le_refl _) (I1.hok.fresh (Nat.le_refl _))
theorem range_it {pins:List (Addr × Obj)} {σ:St} {H:Hp} {s:Shared} {R:It→Hp→Prop} {E:Value→Shared→Prop} {lo hi:Int} {t u v:Tok} {tk:Nat} (I:Inv X pins σ H s) (h1:-(2 ^ 62)≤lo) (h2:lo < 2 ^ 62) (h3:-(2 ^ 62)≤hi) (h4:hi < 2 ^ 62)
  (q:R (Itr lo (hi - lo).toNat) H):wpAny (model X.prog X.w) X.A (pyIter (.ref s.heap.objs.size)) (PIE X pins σ tg R) E { s with heap:=s.heap.push { cls:=.type "range",data:=.fields #[.int lo t,.int hi u,.int 1 v] },toks:=tk }:=by
 refine wpAny_pyIter_range (IsRange.new ..) (small_one h1 h2 h3 h4) ?_
 have I1:Inv X pins σ H { s with heap:=s.heap.push { cls:=.type "range",data:=.fields #[.int lo t,.int hi u,.int 1 v] },toks:=tk }:=I.kept fun b o e=>Heap.get?_push_of_some _ e
 refine ⟨(s.heap.push { cls:=.type "range",data:=.fields #[.int lo t,.int hi u,.int 1 v] }).objs.size,[(s.heap.push { cls:=.type "range",data:=.fields #[.int lo t,.int hi u,.int 1 v] }).objs.size],_,_,H,rfl,
  I1.kept (t':=tk) fun b o e=>Heap.get?_push_of_some _ e,turn_range _ lo (hi - lo).toNat,?_,fun b hb=>?_,q⟩
 ·have e1:lo + ((0:Nat):Int) * 1=lo:=by simp
  have e2:(((hi - lo).toNat:Nat):Int) - ((0:Nat):Int)=Builtin.Range.rangeSize lo hi 1:=by rw [rangeSize_one];split <;> omega
  show IsRangeIter _ _ (lo + ((0:Nat):Int) * 1) ((((hi - lo).toNat:Nat):Int) - ((0:Nat):Int)) 1
  rw [e1,e2]
  exact Heap.get?_push_size _ rfl
 ·have e:b=(s.heap.push { cls:=.type "range",data:=.fields #[.int lo t,.int hi u,.int 1 v] }).objs.size:=by simpa using hb
  subst e
  exact I1.fpOk (Nat.le_refl _) (I1.hok.fresh (Nat.le_refl _))
def iRng1 (ta:TA):TI:=fun σ H R=>ta σ H fun vs H1=>∃ j:Int,vs=[.int j]∧-(2 ^ 62)≤j∧j < 2 ^ 62∧R (Itr 0 j.toNat) H1
def iRng2 (ta:TA):TI:=fun σ H R=>ta σ H fun vs H1=>∃ i j:Int,vs=[.int i,.int j]∧(-(2 ^ 62)≤i∧i < 2 ^ 62∧-(2 ^ 62)≤j∧j < 2 ^ 62)∧R (Itr i (j - i).toNat) H1
theorem J3c {a:Expr} {ta:TA} {p pos:Pos} (hg:Gl X "range") (hm:X.mg "range"=none) (ha:PA X [a] ta) (hs:starEach [a] X.env=[(false,eval a X.env)]:=by rfl):PI X tg (.Call (.Name "range" p) [a] [] pos) (iRng1 ta):=by
 intro pins s σ H R I h
 refine Call_ (J4h I hg hm boot_range (PyProof.Rows.callWith_type1 (thn (ha pos pins s σ H _ I h) fun us s1 ⟨vs,H1,I1,r1,q1⟩=>?_) hs rfl))
 obtain ⟨j,e,q1,q2,q⟩:=q1
 subst e
 cases r1 with
 | cons r rr =>
  cases rr
  obtain ⟨t,rfl⟩:=r
  exact call_range_1 (range_it I1 (by omega) (by omega) q1 q2 (by simpa using q))
theorem pi_range2 {a b:Expr} {ta:TA} {p pos:Pos} (hg:Gl X "range") (hm:X.mg "range"=none) (ha:PA X [a,b] ta) (hs:starEach [a,b] X.env=[(false,eval a X.env),(false,eval b X.env)]:=by rfl) (hs2:starEach [b] X.env=[(false,eval b X.env)]:=by rfl) :
  PI X tg (.Call (.Name "range" p) [a,b] [] pos) (iRng2 ta):=by
 intro pins s σ H R I h
 refine Call_ (J4h I hg hm boot_range (PyProof.Rows.callWith_type1 (thn (ha pos pins s σ H _ I h) fun us s1 ⟨vs,H1,I1,r1,q1⟩=>?_) (by rw [hs,hs2]) (by rw [hs2];rfl)))
 obtain ⟨i,j,e,⟨q1,q2,q3,q4⟩,q⟩:=q1
 subst e
 cases r1 with
 | cons r rr =>
  cases rr with
  | cons r' rr =>
   cases rr
   obtain ⟨t,rfl⟩:=r
   obtain ⟨t',rfl⟩:=r'
   exact call_range_2 (range_it I1 q1 q2 q3 q4 q)
def tFor (wi:TI) (g:TG) (tb:TS):TS:=fun D σ H=>wi σ H fun J H1=>∃ W:Nat→Nat→St→Hp→Prop,(∃ m,W 0 m σ H1)∧∀ i m σ H,W i m σ H→
 (J.stop i H∧D.nx σ H)∨(J.go i H∧∃ N:St→Hp→Prop,(∀ σ' H',N σ' H'→∃ m',m' < m∧W (i + 1) m' σ' H')∧∀ x H',J.yld i H x H'→g x σ H' fun σ2 H2=>tb { D with nx:=N,ct:=N,bk:=D.nx } σ2 H2)
def pinsAt (fp:List Addr) (h:Heap):List (Addr × Obj):=fp.filterMap fun b=>(h.get? b).map fun o=>(b,o)
theorem J1p {fp:List Addr} {h:Heap} {b:Addr} {o:Obj} (hb:b∈fp) (e:h.get? b=some o):(b,o)∈pinsAt fp h:=List.mem_filterMap.mpr ⟨b,hb,by rw [e];rfl⟩
theorem of_pinsAt {fp:List Addr} {h:Heap} {p:Addr × Obj} (hp:p∈pinsAt fp h):p.1∈fp∧h.get? p.1=some p.2:=by
 obtain ⟨b,hb,e⟩:=List.mem_filterMap.mp hp
 cases q:h.get? b with
 | none=>rw [q] at e;cases e
 | some o =>
  rw [q] at e
  have e':(b,o)=p:=Option.some.inj e
  subst e'
  exact ⟨hb,q⟩
theorem Inv.pinned {pins:List (Addr × Obj)} {σ:St} {H:Hp} {s:Shared} {fp:List Addr} (I:Inv X pins σ H s) (hf:∀ b∈fp,FpOk X pins H b) (ho:∀ b∈fp,∃ o,s.heap.get? b=some o∧∀ v,o.data≠.cell v):Inv X (pins ++ pinsAt fp s.heap) σ H s :=
 I.pins_of fun p hp=>(List.mem_append.mp hp).elim (fun z=>I.pin p (List.mem_append_right _ z)) fun z=>by
  obtain ⟨hb,e⟩:=of_pinsAt z
  obtain ⟨f0,f1,f2,_⟩:=hf p.1 hb
  obtain ⟨o,e',d⟩:=ho p.1 hb
  rw [e] at e';cases e'
  exact ⟨e,f0,f1,f2,d⟩
theorem Inv.unpinned {pins pl:List (Addr × Obj)} {σ:St} {H:Hp} {s:Shared} (I:Inv X (pins ++ pl) σ H s):Inv X pins σ H s:=I.pins_of fun p hp=>I.pin p (List.mem_append_right _ (List.mem_append_left _ hp))
theorem J49 {iter:Expr} {body:List Stmt} {wi:TI} {g:TG} {tb:TS} {pos:Pos} (hp:PassesOwn (model X.prog X.w) X.A X.env X.xe) (hc:X.calm=true) (hi:PI X tg iter wi) (hg:PG X tg g) (hb:PSs X body tb)
  (hs:∀ x,foldedSetIterable iter X.env x=pure x:=by intro _;rfl):PS X (.For tg iter body [] pos) (tFor wi g tb):=by
 intro pins s σ H D I h
 refine wpAny_For (thn (hi pins s σ H _ I h) fun v s1 h1=>thn h1 fun itv s2 h2=>?_) hs
 obtain ⟨it,fp,tn,J,H2,e,I2,T,st2,f2,W,⟨m0,w0⟩,turn⟩:=h2
 subst e
 have stat:∀ {H':Hp},(∀ b∈fp,H' b=none)→∀ b∈fp,FpOk X pins H' b:=fun hn b hb=>⟨hn b hb,(f2 b hb).2⟩
 refine codeAny_forLoop_any (fun n s'=>∃ i σ' H',Inv X pins σ' H' s'∧tn i s'.heap∧(∀ b∈fp,H' b=none)∧W i n σ' H') ?_ m0 ⟨0,σ,H2,I2,st2,fun b hb=>(f2 b hb).1,w0⟩
 rintro n s3 ⟨i,σ3,H3,I3,st3,fr3,w3⟩
 rcases turn i n σ3 H3 w3 with ⟨stop,qn⟩ | ⟨go,N,hN,step⟩
 ·refine wpAny_passesOwn hp (thn (T.done X rfl rfl rfl hc i pins s3 σ3 H3 X.xe I3 (stat fr3) st3 stop) fun r s4 ⟨hr,I4⟩=>?_)
  subst hr
  exact wpAny_execs_nil ⟨σ3,H3,I4,qn⟩
 ·refine wpAny_passesOwn hp (thn (T.item X rfl rfl rfl hc i pins s3 σ3 H3 X.xe I3 (stat fr3) st3 go) fun r s4 ⟨u,hr,h4⟩=>?_)
  subst hr
  refine wpAny_passesOwn hp (thn h4 fun _ s5 ⟨x,H5,I5,r5,y5,st5,fr5⟩=>?_)
  have I5':=I5.pinned (stat fr5) (T.obj _ _ st5)
  refine wpAny_passesOwn hp (thn (hg _ s5 σ3 H5 x u _ I5' r5 (step x H5 y5)) fun _ s6 ⟨σ6,H6,I6,q6⟩=>?_)
  refine wpAny_passesOwn hp (thn (hb _ s6 σ6 H6 _ I6 q6) fun f s7 q7=>?_)
  have again:∀ {σ7:St} {H7:Hp},Inv X (pins ++ pinsAt fp s5.heap) σ7 H7 s7→N σ7 H7→∃ m,m < n∧∃ i σ' H',Inv X pins σ' H' s7∧tn i s7.heap∧(∀ b∈fp,H' b=none)∧W i m σ' H':=fun {σ7 H7} I7 n7=>by
   obtain ⟨m',hm,w7⟩:=hN σ7 H7 n7
   refine ⟨m',hm,i + 1,σ7,H7,I7.unpinned,T.keep _ _ _ st5 fun b hb o e=>(I7.pin (b,o) (List.mem_append_right _ (List.mem_append_right _ (J1p hb e)))).1,fun b hb=>?_,w7⟩
   obtain ⟨o,e,d⟩:=T.obj _ _ st5 b hb
   exact (I7.pin (b,o) (List.mem_append_right _ (List.mem_append_right _ (J1p hb e)))).2.1
  cases f with
  | next=>obtain ⟨σ7,H7,I7,n7⟩:=q7;exact again I7 n7
  | cont=>obtain ⟨σ7,H7,I7,n7⟩:=q7;exact again I7 n7
  | brk=>obtain ⟨σ7,H7,I7,q7⟩:=q7;exact ⟨σ7,H7,I7.unpinned,q7⟩
  | ret v=>obtain ⟨x7,σ7,H7,I7,r7,q7⟩:=q7;exact ⟨x7,σ7,H7,I7.unpinned,r7,q7⟩
end
theorem J3h {K:PySem.W.Frag} {a:Addr} {xs:List V} {g:TG} {tb:TS} {D:Ends} {σ:St} {H:Hp} (Pv:Nat→St→Hp→Prop) (h0:Pv 0 σ H) (hl:∀ i σ H,i≤xs.length→Pv i σ H→SqL K H a xs)
  (hs:∀ i x σ H,xs[i]?=some x→Pv i σ H→g x σ H fun σ2 H2=>tb { D with nx:=Pv (i + 1),ct:=Pv (i + 1),bk:=D.nx } σ2 H2) (hd:∀ σ H,Pv xs.length σ H→D.nx σ H) :
  ∃ W:Nat→Nat→St→Hp→Prop,(∃ m,W 0 m σ H)∧∀ i m σ H,W i m σ H→
   ((Itl K a).stop i H∧D.nx σ H)∨((Itl K a).go i H∧∃ N:St→Hp→Prop,(∀ σ' H',N σ' H'→∃ m',m' < m∧W (i + 1) m' σ' H')∧∀ x H',(Itl K a).yld i H x H'→g x σ H' fun σ2 H2=>tb { D with nx:=N,ct:=N,bk:=D.nx } σ2 H2):=by
 refine ⟨fun i m σ H=>m=xs.length - i∧i≤xs.length∧Pv i σ H,⟨xs.length,by simp,Nat.zero_le _,h0⟩,?_⟩
 rintro i m σ H ⟨rfl,hi,p⟩
 have q:=hl i σ H hi p
 by_cases hlt:i < xs.length
 ·refine .inr ⟨⟨xs,xs[i],q,by simp [hlt]⟩,Pv (i + 1),fun σ' H' p'=>⟨xs.length - (i + 1),by omega,rfl,hlt,p'⟩,fun x H' y=>?_⟩
  obtain ⟨e,y⟩:=y
  subst e
  exact hs i x σ _ (y xs q) p
 ·have e:i=xs.length:=by omega
  subst e
  exact .inl ⟨⟨xs,q,Nat.le_refl _⟩,hd σ H p⟩
theorem for_tup {K:PySem.W.Frag} {a:Addr} {xs:List V} {g:TG} {tb:TS} {D:Ends} {σ:St} {H:Hp} (Pv:Nat→St→Hp→Prop) (h0:Pv 0 σ H) (hl:∀ i σ H,i≤xs.length→Pv i σ H→SqT K H a xs)
  (hs:∀ i x σ H,xs[i]?=some x→Pv i σ H→g x σ H fun σ2 H2=>tb { D with nx:=Pv (i + 1),ct:=Pv (i + 1),bk:=D.nx } σ2 H2) (hd:∀ σ H,Pv xs.length σ H→D.nx σ H) :
  ∃ W:Nat→Nat→St→Hp→Prop,(∃ m,W 0 m σ H)∧∀ i m σ H,W i m σ H→
   ((Itt K a).stop i H∧D.nx σ H)∨((Itt K a).go i H∧∃ N:St→Hp→Prop,(∀ σ' H',N σ' H'→∃ m',m' < m∧W (i + 1) m' σ' H')∧∀ x H',(Itt K a).yld i H x H'→g x σ H' fun σ2 H2=>tb { D with nx:=N,ct:=N,bk:=D.nx } σ2 H2):=by
 refine ⟨fun i m σ H=>m=xs.length - i∧i≤xs.length∧Pv i σ H,⟨xs.length,by simp,Nat.zero_le _,h0⟩,?_⟩
 rintro i m σ H ⟨rfl,hi,p⟩
 have q:=hl i σ H hi p
 by_cases hlt:i < xs.length
 ·refine .inr ⟨⟨xs,xs[i],q,by simp [hlt]⟩,Pv (i + 1),fun σ' H' p'=>⟨xs.length - (i + 1),by omega,rfl,hlt,p'⟩,fun x H' y=>?_⟩
  obtain ⟨e,y⟩:=y
  subst e
  exact hs i x σ _ (y xs q) p
 ·have e:i=xs.length:=by omega
  subst e
  exact .inl ⟨⟨xs,q,Nat.le_refl _⟩,hd σ H p⟩
theorem for_range {lo:Int} {n:Nat} {g:TG} {tb:TS} {D:Ends} {σ:St} {H:Hp} (Pv:Nat→St→Hp→Prop) (h0:Pv 0 σ H)
  (hs:∀ i σ H,i < n→Pv i σ H→g (.int (lo + i)) σ H fun σ2 H2=>tb { D with nx:=Pv (i + 1),ct:=Pv (i + 1),bk:=D.nx } σ2 H2) (hd:∀ σ H,Pv n σ H→D.nx σ H) :
  ∃ W:Nat→Nat→St→Hp→Prop,(∃ m,W 0 m σ H)∧∀ i m σ H,W i m σ H→
   ((Itr lo n).stop i H∧D.nx σ H)∨((Itr lo n).go i H∧∃ N:St→Hp→Prop,(∀ σ' H',N σ' H'→∃ m',m' < m∧W (i + 1) m' σ' H')∧∀ x H',(Itr lo n).yld i H x H'→g x σ H' fun σ2 H2=>tb { D with nx:=N,ct:=N,bk:=D.nx } σ2 H2):=by
 refine ⟨fun i m σ H=>m=n - i∧i≤n∧Pv i σ H,⟨n,by simp,Nat.zero_le _,h0⟩,?_⟩
 rintro i m σ H ⟨rfl,hi,p⟩
 by_cases hlt:i < n
 ·refine .inr ⟨hlt,Pv (i + 1),fun σ' H' p'=>⟨n - (i + 1),by omega,rfl,hlt,p'⟩,fun x H' y=>?_⟩
  obtain ⟨e,y⟩:=y
  subst e y
  exact hs i σ _ hlt p
 ·have e:i=n:=by omega
  subst e
  exact .inl ⟨Nat.le_refl _,hd σ H p⟩
end L2
namespace L2
open PySem PySem.Spec PyProof.Rows
abbrev R2:=V→V→Hp→VK→Prop
def OpR (X:Cx) (f:Value→Value→Sem Value) (r:R2):Prop :=
 ∀ (pins:List (Addr × Obj)) (s:Shared) (σ:St) (H:Hp) (x y:V) (v u:Value) (Q:VK),Inv X pins σ H s→RelV x v→RelV y u→r x y H Q→
  wpAny (model X.prog X.w) X.A (f v u) (EP X pins σ Q) X.xe s
def UnR (X:Cx) (f:Value→Sem Value) (r:V→Hp→VK→Prop):Prop :=
 ∀ (pins:List (Addr × Obj)) (s:Shared) (σ:St) (H:Hp) (x:V) (v:Value) (Q:VK),Inv X pins σ H s→RelV x v→r x H Q→
  wpAny (model X.prog X.w) X.A (f v) (EP X pins σ Q) X.xe s
def CallR (X:Cx) (f:Value) (r:List V→Hp→VK→Prop):Prop :=
 ∀ (pins:List (Addr × Obj)) (s:Shared) (σ:St) (H:Hp) (xs:List V) (us:List Value) (Q:VK),Inv X pins σ H s→Vals xs us→r xs H Q→
  wpAny (model X.prog X.w) X.A (call f us) (EP X pins σ Q) X.xe s
def TruR (X:Cx) (r:V→Hp→(Bool→Hp→Prop)→Prop):Prop :=
 ∀ (pins:List (Addr × Obj)) (s:Shared) (σ:St) (H:Hp) (x:V) (v:Value) (Q:Bool→Hp→Prop),Inv X pins σ H s→RelV x v→r x H Q→
  wpAny (model X.prog X.w) X.A (truthy v) (TP X pins σ Q) X.xe s
def tOp (r:R2) (ta tb:TE):TE:=fun σ H Q=>ta σ H fun x H1=>tb σ H1 fun y H2=>r x y H2 Q
def tUn (r:V→Hp→VK→Prop) (ta:TE):TE:=fun σ H Q=>ta σ H fun x H1=>r x H1 Q
def rI (C:Int→Int→Prop) (g:Int→Int→V):R2:=fun x y H Q=>∃ i j,x=.int i∧y=.int j∧C i j∧Q (g i j) H
def rI0 (g:Int→Int→V):R2:=fun x y H Q=>∃ i j,x=.int i∧y=.int j∧Q (g i j) H
def rU (g:Int→V):V→Hp→VK→Prop:=fun x H Q=>∃ i,x=.int i∧Q (g i) H
section
variable {X:Cx} {a b c:Expr} {ta tb tc:TE} {pos:Pos}
theorem binT (ha:PE X a ta) (hb:PE X b tb) {pins:List (Addr × Obj)} {s:Shared} {σ:St} {H:Hp} {R:V→V→Hp→Prop} (I:Inv X pins σ H s)
  (h:ta σ H fun x H1=>tb σ H1 fun y H2=>R x y H2) {Q:Value→Shared→Prop} {f:Value→Value→Sem Value}
  (hf:∀ v u s2 x y H2,Inv X pins σ H2 s2→RelV x v→RelV y u→R x y H2→wpAny (model X.prog X.w) X.A (f v u) Q X.xe s2) :
  wpAny (model X.prog X.w) X.A (eval a X.env) (fun v s₁=>wpAny (model X.prog X.w) X.A (eval b X.env) (fun u s₂=>wpAny (model X.prog X.w) X.A (f v u) Q X.xe s₂) X.xe s₁) X.xe s:=by
 refine thn (ha pins s σ H _ I h) fun v s1 ⟨x,H1,I1,r1,q1⟩=>?_
 refine thn (hb pins s1 σ H1 _ I1 q1) fun u s2 ⟨y,H2,I2,r2,q2⟩=>?_
 exact hf v u s2 x y H2 I2 r1 r2 q2
theorem pe_op {op:Operator} {r:R2} (ho:OpR X (binaryOp op) r) (ha:PE X a ta) (hb:PE X b tb):PE X (.BinOp a op b pos) (tOp r ta tb):=by
 intro pins s σ H Q I h
 exact wpAny_BinOp (binT ha hb I h fun v u s2 x y H2 I2 rx ry q=>ho pins s2 σ H2 x y v u Q I2 rx ry q)
theorem pe_un {op:UnaryOp} {r:V→Hp→VK→Prop} (ho:UnR X (unaryOp op) r) (ha:PE X a ta):PE X (.UnaryOp op a pos) (tUn r ta):=by
 intro pins s σ H Q I h
 exact UnaryOp_ (thn (ha pins s σ H _ I h) fun v s1 ⟨x,H1,I1,r1,q1⟩=>ho pins s1 σ H1 x v Q I1 r1 q1)
theorem opI {f:Value→Value→Sem Value} {C:Int→Int→Prop} {g:Int→Int→Int}
  (rule:∀ (i j:Int) (t u:Tok) (s:Shared) (Q:Value→Shared→Prop) (E:Value→Shared→Prop),C i j→Q (.int (g i j) s.toks) { s with toks:=s.toks + 1 }→wpAny (model X.prog X.w) X.A (f (.int i t) (.int j u)) Q E s) :
  OpR X f (rI C fun i j=>.int (g i j)):=by
 intro pins s σ H x y v u Q I rx ry h
 obtain ⟨i,j,rfl,rfl,hc,q⟩:=h
 obtain ⟨t,rfl⟩:=rx
 obtain ⟨t',rfl⟩:=ry
 exact rule i j t t' s _ _ hc ⟨.int (g i j),H,I.tok _,⟨_,rfl⟩,q⟩
theorem opI0 {f:Value→Value→Sem Value} {g:Int→Int→Int}
  (rule:∀ (i j:Int) (t u:Tok) (s:Shared) (Q:Value→Shared→Prop) (E:Value→Shared→Prop),Q (.int (g i j) s.toks) { s with toks:=s.toks + 1 }→wpAny (model X.prog X.w) X.A (f (.int i t) (.int j u)) Q E s) :
  OpR X f (rI0 fun i j=>.int (g i j)):=by
 intro pins s σ H x y v u Q I rx ry h
 obtain ⟨i,j,rfl,rfl,q⟩:=h
 obtain ⟨t,rfl⟩:=rx
 obtain ⟨t',rfl⟩:=ry
 exact rule i j t t' s _ _ ⟨.int (g i j),H,I.tok _,⟨_,rfl⟩,q⟩
theorem opB0 {f:Value→Value→Sem Value} {g:Int→Int→Bool}
  (rule:∀ (i j:Int) (t u:Tok) (s:Shared) (Q:Value→Shared→Prop) (E:Value→Shared→Prop),Q (.bool (g i j)) s→wpAny (model X.prog X.w) X.A (f (.int i t) (.int j u)) Q E s) :
  OpR X f (rI0 fun i j=>.bl (g i j)):=by
 intro pins s σ H x y v u Q I rx ry h
 obtain ⟨i,j,rfl,rfl,q⟩:=h
 obtain ⟨t,rfl⟩:=rx
 obtain ⟨t',rfl⟩:=ry
 exact rule i j t t' s _ _ ⟨.bl (g i j),H,I,rfl,q⟩
def CDiv (i j:Int):Prop:=0 < j∧j < 1073741824
def CMul (i j:Int):Prop:=(-(2 ^ 64) < i∧i < 2 ^ 64)∨(-(2 ^ 64) < j∧j < 2 ^ 64)
theorem CMul.ok {i j:Int} (h:CMul i j):IntMulOk i j:=by
 rcases h with ⟨h1,h2⟩ | ⟨h1,h2⟩
 ·exact .of_left (intBits_le_64 h1 h2)
 ·exact .of_right (intBits_le_64 h1 h2)
theorem J2v:OpR X (binaryOp .Add) (rI0 fun i j=>.int (i + j)):=opI0 fun _ _ _ _ _ _ _ q=>add_int q
theorem J3d:OpR X (binaryOp .Sub) (rI0 fun i j=>.int (i - j)):=opI0 fun _ _ _ _ _ _ _ q=>sub_int q
theorem op_fdiv:OpR X (binaryOp .FloorDiv) (rI CDiv fun i j=>.int (i / j)):=opI fun i j _ _ _ _ _ hc q=>by
 have h1:(0:Int) < j:=hc.1
 have h2:j < 1073741824:=hc.2
 exact floordiv_int (by omega) (by rw [Int.fdiv_eq_ediv_of_nonneg i (by omega)];exact q) (.inl (PyProof.noPylong_small (by omega)))
theorem op_mod:OpR X (binaryOp .Mod) (rI (fun _ j=>0 < j) fun i j=>.int (i % j)):=opI fun i j _ _ _ _ _ hc q=>by
 have h1:(0:Int) < j:=hc
 exact mod_int' (by omega) (by rw [Int.fmod_eq_emod_of_nonneg i (by omega)];exact q)
theorem unI {f:Value→Sem Value} {g:Int→Int}
  (rule:∀ (i:Int) (t:Tok) (s:Shared) (Q:Value→Shared→Prop) (E:Value→Shared→Prop),Q (.int (g i) s.toks) { s with toks:=s.toks + 1 }→wpAny (model X.prog X.w) X.A (f (.int i t)) Q E s) :
  UnR X f (rU fun i=>.int (g i)):=by
 intro pins s σ H x v Q I rx h
 obtain ⟨i,rfl,q⟩:=h
 obtain ⟨t,rfl⟩:=rx
 exact rule i t s _ _ ⟨.int (g i),H,I.tok _,⟨_,rfl⟩,q⟩
theorem J39:UnR X (unaryOp .USub) (rU fun i=>.int (-i)):=unI fun _ _ _ _ _ q=>neg_int q
end
def scal:V→V→Bool
 | .non,.non=>true | .non,.int _=>true | .int _,.non=>true | .non,.bl _=>true | .bl _,.non=>true | .non,.str _=>true | .str _,.non=>true
 | .int _,.int _=>true | .bl _,.bl _=>true | .str _,.str _=>true | .byt _,.byt _=>true
 | .int _,.str _=>true | .str _,.int _=>true | .bl _,.str _=>true | .str _,.bl _=>true
 | _,_=>false
def rEq:R2:=fun x y H Q=>scal x y=true∧Q (.bl (decide (x=y))) H
def rNe:R2:=fun x y H Q=>scal x y=true∧Q (.bl (!decide (x=y))) H
theorem dec_int {i j:Int}:decide (V.int i=V.int j)=(i == j):=by
 rw [Bool.eq_iff_iff]
 simp
theorem dec_bl {i j:Bool}:decide (V.bl i=V.bl j)=(i == j):=by
 rw [Bool.eq_iff_iff]
 simp
theorem dec_str {i j:Str}:decide (V.str i=V.str j)=(i == j):=by
 rw [Bool.eq_iff_iff]
 simp
theorem dec_byt {i j:Array UInt8}:decide (V.byt i=V.byt j)=(i.toList == j.toList):=by
 rw [Bool.eq_iff_iff]
 cases i
 cases j
 simp
section
variable {X:Cx} {a b c:Expr} {ta tb tc:TE} {pos:Pos}
theorem Jo {pins:List (Addr × Obj)} {σ:St} {H:Hp} {s:Shared} {Q:VK} {k k':Bool} (I:Inv X pins σ H s) (q:Q (.bl k) H) (e:k=k'):EP X pins σ Q (.bool k') s:=by
 subst e
 exact ⟨.bl k,H,I,rfl,q⟩
theorem op_eq:OpR X (compareOp .Eq) rEq:=by
 intro pins s σ H x y v u Q I rx ry h
 obtain ⟨hs,q⟩:=h
 cases x with
 | non =>
  cases rx
  cases y with
  | non=>cases ry;exact PySem.EqNone.eq_none_none (Jo I q (by simp))
  | bl j=>cases ry;exact PySem.EqNone.eq_none_bool (Jo I q (by simp))
  | int j=>obtain ⟨t',rfl⟩:=ry;exact PySem.EqNone.eq_none_int (Jo I q (by simp))
  | str j=>obtain ⟨t',rfl⟩:=ry;exact PySem.EqNone.eq_none_str (Jo I q (by simp))
  | _=>exact absurd (show false=true from hs) Bool.false_ne_true
 | bl i =>
  cases rx
  cases y with
  | non=>cases ry;exact PySem.EqNone.eq_bool_none (Jo I q (by simp))
  | bl j=>cases ry;exact eq_bool (Jo I q dec_bl)
  | str j=>obtain ⟨t',rfl⟩:=ry;exact PySem.EqMixed.eq_bool_str (Jo I q (by simp))
  | _=>exact absurd (show false=true from hs) Bool.false_ne_true
 | int i =>
  obtain ⟨t,rfl⟩:=rx
  cases y with
  | non=>cases ry;exact PySem.EqNone.eq_int_none (Jo I q (by simp))
  | int j=>obtain ⟨t',rfl⟩:=ry;exact eq_int (Jo I q dec_int)
  | str j=>obtain ⟨t',rfl⟩:=ry;exact PySem.EqMixed.eq_int_str (Jo I q (by simp))
  | _=>exact absurd (show false=true from hs) Bool.false_ne_true
 | str i =>
  obtain ⟨t,rfl⟩:=rx
  cases y with
  | non=>cases ry;exact PySem.EqNone.eq_str_none (Jo I q (by simp))
  | bl j=>cases ry;exact PySem.EqMixed.eq_str_bool (Jo I q (by simp))
  | int j=>obtain ⟨t',rfl⟩:=ry;exact PySem.EqMixed.eq_str_int (Jo I q (by simp))
  | str j=>obtain ⟨t',rfl⟩:=ry;exact eq_str (Jo I q dec_str)
  | _=>exact absurd (show false=true from hs) Bool.false_ne_true
 | byt i =>
  obtain ⟨t,rfl⟩:=rx
  cases y with
  | byt j=>obtain ⟨t',rfl⟩:=ry;exact PySem.W.eq_bytes (Jo I q dec_byt)
  | _=>exact absurd (show false=true from hs) Bool.false_ne_true
 | _=>cases y <;> exact absurd (show false=true from hs) Bool.false_ne_true
theorem op_ne:OpR X (compareOp .NotEq) rNe:=by
 intro pins s σ H x y v u Q I rx ry h
 obtain ⟨hs,q⟩:=h
 cases x with
 | non =>
  cases rx
  cases y with
  | non=>cases ry;exact PySem.EqNone.ne_none_none (Jo I q (by simp))
  | bl j=>cases ry;exact PySem.EqNone.ne_none_bool (Jo I q (by simp))
  | int j=>obtain ⟨t',rfl⟩:=ry;exact PySem.EqNone.ne_none_int (Jo I q (by simp))
  | str j=>obtain ⟨t',rfl⟩:=ry;exact PySem.EqNone.ne_none_str (Jo I q (by simp))
  | _=>exact absurd (show false=true from hs) Bool.false_ne_true
 | bl i =>
  cases rx
  cases y with
  | non=>cases ry;exact PySem.EqNone.ne_bool_none (Jo I q (by simp))
  | bl j=>cases ry;exact ne_bool (Jo I q (congrArg not dec_bl))
  | str j=>obtain ⟨t',rfl⟩:=ry;exact PySem.EqMixed.ne_bool_str (Jo I q (by simp))
  | _=>exact absurd (show false=true from hs) Bool.false_ne_true
 | int i =>
  obtain ⟨t,rfl⟩:=rx
  cases y with
  | non=>cases ry;exact PySem.EqNone.ne_int_none (Jo I q (by simp))
  | int j=>obtain ⟨t',rfl⟩:=ry;exact ne_int (Jo I q (congrArg not dec_int))
  | str j=>obtain ⟨t',rfl⟩:=ry;exact PySem.EqMixed.ne_int_str (Jo I q (by simp))
  | _=>exact absurd (show false=true from hs) Bool.false_ne_true
 | str i =>
  obtain ⟨t,rfl⟩:=rx
  cases y with
  | non=>cases ry;exact PySem.EqNone.ne_str_none (Jo I q (by simp))
  | bl j=>cases ry;exact PySem.EqMixed.ne_str_bool (Jo I q (by simp))
  | int j=>obtain ⟨t',rfl⟩:=ry;exact PySem.EqMixed.ne_str_int (Jo I q (by simp))
  | str j=>obtain ⟨t',rfl⟩:=ry;exact ne_str (Jo I q (congrArg not dec_str))
  | _=>exact absurd (show false=true from hs) Bool.false_ne_true
 | byt i =>
  obtain ⟨t,rfl⟩:=rx
  cases y with
  | byt j=>obtain ⟨t',rfl⟩:=ry;exact PySem.W.ne_bytes (Jo I q (congrArg not dec_byt))
  | _=>exact absurd (show false=true from hs) Bool.false_ne_true
 | _=>cases y <;> exact absurd (show false=true from hs) Bool.false_ne_true
theorem op_lt:OpR X (compareOp .Lt) (rI0 fun i j=>.bl (decide (i < j))):=opB0 fun _ _ _ _ _ _ _ q=>lt_int q
theorem op_le:OpR X (compareOp .LtE) (rI0 fun i j=>.bl (decide (i≤j))):=opB0 fun _ _ _ _ _ _ _ q=>le_int q
theorem op_gt:OpR X (compareOp .Gt) (rI0 fun i j=>.bl (decide (j < i))):=opB0 fun _ _ _ _ _ _ _ q=>gt_int q
theorem op_isN:OpR X (compareOp .Is) (fun x y H Q=>y=.non∧Q (.bl (decide (x=.non))) H):=by
 intro pins s σ H x y v u Q I rx ry h
 obtain ⟨rfl,q⟩:=h
 cases ry
 refine is_none_gen (Jo I q ?_)
 cases x <;> first
  | (cases rx;rfl)
  | (obtain ⟨t,rfl⟩:=rx;rfl)
theorem Jw (b:Expr) {op:CmpOp} (h:op≠.In:=by decide) (h2:op≠.NotIn:=by decide):behindInMarks op b=false:=by
 have e1:(op == CmpOp.In)=false:=by cases op <;> first | rfl | exact absurd rfl h
 have e2:(op == CmpOp.NotIn)=false:=by cases op <;> first | rfl | exact absurd rfl h2
 cases b <;> simp [behindInMarks,e1,e2]
theorem pe_cmpR {op:CmpOp} {r:R2} (ho:OpR X (compareOp op) r) (ha:PE X a ta) (hb:PE X b tb) (hm:behindInMarks op b=false):PE X (.Compare a [op] [b] pos) (tOp r ta tb):=by
 intro pins s σ H Q I h
 exact wpAny_Compare1 (binT ha hb I h fun v u s2 x y H2 I2 rx ry q=>ho pins s2 σ H2 x y v u Q I2 rx ry q) hm
def tTest (t:TE):TT:=fun σ H Q=>t σ H fun x H'=>∃ k,x=.bl k∧Q k H'
theorem Jp {op:CmpOp} {r:R2} (ho:OpR X (compareOp op) r) (ha:PE X a ta) (hb:PE X b tb) (hm:behindInMarks op b=false):PT X (.Compare a [op] [b] pos) (tTest (tOp r ta tb)):=by
 intro pins s σ H Q I h
 refine wpAny_isTrue_Compare1 (thn (ha pins s σ H _ I h) fun v s1 ⟨x,H1,I1,r1,q1⟩=>thn (hb pins s1 σ H1 _ I1 q1) fun u s2 ⟨y,H2,I2,r2,q2⟩ =>
  thn (ho pins s2 σ H2 x y v u _ I2 r1 r2 q2) fun c s3 ⟨z,H3,I3,r3,k,e,q3⟩=>?_) hm
 subst e
 cases r3
 exact wpAny_truthy_bool ⟨H3,I3,q3⟩
def TruV (K:PySem.W.Frag) (x:V) (H:Hp) (k:Bool):Prop :=
 match x with
 | .non=>k=false
 | .bl b=>k=b
 | .int i=>k=(i != 0)
 | .str y=>y.length≤sizeLine∧k=((y.length:Int) != 0)
 | .byt y=>y.size≤sizeLine∧k=((y.size:Int) != 0)
 | .ref p=>(∃ xs,SqL K H p xs∧k=!xs.isEmpty)∨(∃ xs,SqT K H p xs∧k=!xs.isEmpty)∨∃ kvs,H p=some (.dK kvs)∧k=!kvs.isEmpty
 | _=>False
theorem isEmpty_kv {κ:Type} {kvs:List (κ × V)} {vs:List (κ × Value)} (r:KV kvs vs):(!vs.isEmpty)=!kvs.isEmpty:=by
 cases r <;> rfl
theorem J3v {xs:List V} {its:List Value} (r:Vals xs its):(!its.toArray.isEmpty)=!xs.isEmpty:=by
 cases r <;> simp
theorem J4f:(sizeLine:Nat) < 2 ^ 63:=by rw [sizeLine_eq];decide
theorem tru_ok:TruR X (fun x H Q=>∃ k,TruV X.K x H k∧Q k H):=by
 intro pins s σ H x v Q I rx h
 obtain ⟨k,e,q⟩:=h
 have hl:=J4f
 have hs:sizeLine=16777216:=sizeLine_eq
 cases x with
 | non =>
  cases rx
  have e':k=false:=e
  subst e'
  exact truthy_none ⟨H,I,q⟩
 | bl b =>
  cases rx
  have e':k=b:=e
  subst e'
  exact wpAny_truthy_bool ⟨H,I,q⟩
 | int i =>
  obtain ⟨t,rfl⟩:=rx
  have e':k=(i != 0):=e
  subst e'
  exact PySem.P.truthy_int ⟨H,I,q⟩
 | str y =>
  obtain ⟨t,rfl⟩:=rx
  obtain ⟨hy,e'⟩:y.length≤sizeLine∧k=((y.length:Int) != 0):=e
  subst e'
  exact PySem.P.truthy_str (by omega) ⟨H,I.tok _,q⟩
 | byt y =>
  obtain ⟨t,rfl⟩:=rx
  obtain ⟨hy,e'⟩:y.size≤sizeLine∧k=((y.size:Int) != 0):=e
  subst e'
  exact PySem.W.truthy_bytes (by omega) ⟨H,I.tok _,q⟩
 | ref p =>
  cases rx
  have e':(∃ xs,SqL X.K H p xs∧k=!xs.isEmpty)∨(∃ xs,SqT X.K H p xs∧k=!xs.isEmpty)∨∃ kvs,H p=some (.dK kvs)∧k=!kvs.isEmpty:=e
  rcases e' with ⟨xs,hx,e'⟩ | ⟨xs,hx,e'⟩ | ⟨kvs,hx,e'⟩
  ·subst e'
   obtain ⟨its,r,pl,hz⟩:=I.list hx
   have hlen:=r.length
   exact wpAny_truthy_list pl.isList (by simp only [List.size_toArray];omega) ⟨H,I.tok _,by rw [J3v r];exact q⟩
  ·subst e'
   obtain ⟨its,r,pl,hz⟩:=I.tuple hx
   have hlen:=r.length
   exact truthy_tuple pl (by simp only [List.size_toArray];omega) ⟨H,I.tok _,by rw [J3v r];exact q⟩
  ·subst e'
   obtain ⟨hz,hS,vs,r,m⟩:kvs.length≤sizeLine∧(p == sysModules)=false∧∃ vs,KV kvs vs∧s.heap.DictOf (Jx X.prog X.w) p vs:=I.hok p _ hx
   have hlen:kvs.length=vs.length:=Paired.length r
   exact wpAny_truthy_dict hS m (by omega) ⟨H,I.tok _,by rw [isEmpty_kv r];exact q⟩
 | _=>exact (show False from e).elim
theorem pt_truth (ha:PE X a ta) (he:∀ whole,isTrue a X.env whole=(do let v ← whole;standAt a.pos;holding [v] (truthy v))) :
  PT X a (fun σ H Q=>ta σ H fun x H'=>∃ k,TruV X.K x H' k∧Q k H'):=by
 intro pins s σ H Q I h
 exact isTrue_plain (thn (ha pins s σ H _ I h) fun v s1 ⟨x,H1,I1,r1,q1⟩=>tru_ok pins s1 σ H1 x v Q I1 r1 q1) (he _)
theorem vals1 {x:V} {us:List Value} (r:Vals [x] us):∃ u,us=[u]∧RelV x u:=by
 cases r with
 | cons r1 r2=>cases r2;exact ⟨_,rfl,r1⟩
theorem vals2 {x y:V} {us:List Value} (r:Vals [x,y] us):∃ u w',us=[u,w']∧RelV x u∧RelV y w':=by
 cases r with
 | cons r1 r2 =>
  cases r2 with
  | cons r3 r4=>cases r4;exact ⟨_,_,rfl,r1,r3⟩
end
end L2
namespace L2
open PySem PySem.Spec PyProof.Rows
structure ObjM (h:Heap) (x dx C:Addr) (mA:Str→Option Value):Prop where
 obj:h.get? x=some (PySem.W.instObj C dx)
 ns:h.Ns1 dx mA
 ne:dx≠x
theorem lookIn_ns {h:Heap} {dx:Addr} {mA:Str→Option Value} (n:h.Ns1 dx mA):∃ od,h.get? dx=some od∧∀ name,PySem.W.lookIn name od=some (mA name):=by
 obtain ⟨o,es,ep,ho,hd,hk,_,hm⟩:=n
 refine ⟨o,ho,fun name=>?_⟩
 have e:=hm name
 unfold nsFind findBy at e
 rw [← Array.find?_toList] at e
 unfold PySem.W.lookIn
 rw [hd]
 dsimp only
 split
 ·rename_i y q
  rw [q] at e
  exact congrArg some e
 ·rename_i q
  rw [q] at e
  have a:es.toList.any (·.refKey)=false:=by
   rw [List.any_eq_false]
   intro y hy
   obtain ⟨z,t,hkey⟩:=hk y (Array.mem_toList_iff.mp hy)
   simp [DictEntry.refKey,hkey]
  have a':¬ es.toList.any (·.refKey)=true:=by rw [a];exact Bool.false_ne_true
  rw [if_neg a']
  exact congrArg some e
theorem ObjM.look {h:Heap} {x dx C:Addr} {mA:Str→Option Value} (I:ObjM h x dx C mA):∃ od,PySem.W.InstAt h x (PySem.W.instObj C dx) C (some od)∧∀ name,PySem.W.lookIn name od=some (mA name) :=
 let ⟨od,ho,hl⟩:=lookIn_ns I.ns
 ⟨od,⟨I.obj,rfl,rfl,ho⟩,hl⟩
theorem RelO.some_of {v:V} {o:Option Value} (r:RelO (some v) o):∃ u,o=some u∧RelV v u:=by
 cases o with
 | none=>exact (show False from r).elim
 | some u=>exact ⟨u,rfl,r⟩
section
variable {P:Program} {w:World} {H H':Hp} {h h':Heap} {a C dx:Addr} {fs fs':List (Str × V)}
theorem ins_get (hok:HOk P w H h) (e:H a=some (.ins C dx fs)):∃ mA,ObjM h a dx C mA∧(∀ f,RelO (fs.lookup f) (mA f))∧PySem.Within mA (fs.map (·.1))∧fs.length≤1000∧H dx=some (.own a):=by
 obtain ⟨d,z,ne,ob,mA,n,r,q⟩:=(show ObjOk P w H h a (.ins C dx fs) from hok a _ e)
 exact ⟨mA,⟨ob,n,ne⟩,r,q,z,d⟩
end
structure Cls (K:PySem.W.Frag) (C:Addr):Prop where
 pg:PySem.W.plainGet K C Str.empty=true
 hd:PySem.W.hasDictIn K C=true
 po:PySem.W.plainOver K C=true
 sa:PySem.W.findIn K (.ref C) "__setattr__"=some (some (.builtin "object.__setattr__"))
theorem Cls.get {K:PySem.W.Frag} {C:Addr} (c:Cls K C) (f:Str):PySem.W.plainGet K C f=true:=c.pg
section
variable {X:Cx} {pins:List (Addr × Obj)} {σ:St} {H:Hp} {s:Shared} {a C dx:Addr} {fs:List (Str × V)} {f:Str} {v:V} {A:Around} {E:Value→Shared→Prop}
theorem Inv.made (I:Inv X pins σ H s):Inv X pins σ (upd (upd H s.heap.objs.size (.own (s.heap.objs.size + 1))) (s.heap.objs.size + 1) (.ins C s.heap.objs.size []))
  { s with heap:=(s.heap.push PySem.W.emptyDict).push (PySem.W.instObj C s.heap.objs.size) }:=by
 have e1:(s.heap.push PySem.W.emptyDict).get? s.heap.objs.size=some PySem.W.emptyDict:=Heap.get?_push_size s.heap rfl
 have e2:((s.heap.push PySem.W.emptyDict).push (PySem.W.instObj C s.heap.objs.size)).get? (s.heap.objs.size + 1)=some (PySem.W.instObj C s.heap.objs.size):=by
  have:=Heap.get?_push_size (s.heap.push PySem.W.emptyDict) (o:=PySem.W.instObj C s.heap.objs.size) rfl
  rwa [Heap.size_push] at this
 have e3:(s.heap.push PySem.W.emptyDict).Ns s.heap.objs.size (fun _=>none):=⟨PySem.W.emptyDict,#[],_,e1,rfl,(fun e he=>absurd he (by simp)),fun _=>rfl⟩
 have I1:=I.laid (a:=s.heap.objs.size) (o:=.own (s.heap.objs.size + 1)) (h':=s.heap.push PySem.W.emptyDict) (t':=s.toks) (fun b u q=>Heap.get?_push_of_some _ q) (Nat.le_refl _) ⟨_,e1⟩
 refine I1.laid (a:=s.heap.objs.size + 1) (o:=.ins C s.heap.objs.size []) (t':=s.toks) (fun b u q=>Heap.get?_push_of_some _ q) (Nat.le_of_eq (Heap.size_push _ _)) ?_
 have ne:s.heap.objs.size≠s.heap.objs.size + 1:=Nat.ne_of_lt (Nat.lt_succ_self _)
 refine ⟨by rw [Jd ne,upd_same],Nat.zero_le _,ne,e2,fun _=>none,(Heap.Ns1.of_empty e3).at fun o q=>Heap.get?_push_of_some _ q,fun _=>True.intro,fun y hy=>absurd rfl hy⟩
end
section
variable {X:Cx} {pins:List (Addr × Obj)} {σ:St} {H:Hp} {s:Shared} {A:Around} {E:Value→Shared→Prop} {Q:Value→Shared→Prop} {c:Value} {b:Bool}
inductive TyOf (K:PySem.W.Frag) (H:Hp):V→Value→Prop where
 | non:TyOf K H .non (.type "NoneType")
 | bl (x:Bool):TyOf K H (.bl x) (.type "bool")
 | int (i:Int):TyOf K H (.int i) (.type "int")
 | str (x:Str):TyOf K H (.str x) (.type "str")
 | flt (x:UInt64):TyOf K H (.flt x) (.type "float")
 | lst {a:Addr} {xs:List V} (e:H a=some (.lst xs)):TyOf K H (.ref a) (.type "list")
 | frz {a:Addr} {o:Obj} {xs:List V} (e:H a=some (.frz o (.lst xs))):TyOf K H (.ref a) (.type "list")
 | tup {a:Addr} {xs:List V} (e:H a=some (.tup xs)):TyOf K H (.ref a) (.type "tuple")
 | dK {a:Addr} {kvs:List (Key × V)} (e:H a=some (.dK kvs)):TyOf K H (.ref a) (.type "dict")
 | dT {a:Addr} {kvs:List (List Key × V)} (e:H a=some (.dT kvs)):TyOf K H (.ref a) (.type "dict")
 | ins {a C dx:Addr} {fs:List (Str × V)} (e:H a=some (.ins C dx fs)) (cl:Cls K C) (ha:PySem.W.findIn K (.ref C) "__class__"=some (some (.builtin "object.__class__")))
   (hn:PySem.W.specialIn K (.builtin "object.__class__") "__get__"=some (some (.builtin "getset_descriptor.__get__"))) (htk:PySem.W.takesIn K (.builtin "object.__class__")=some true)
   (hm:PySem.W.mroIn K C (.type "object")=some true):TyOf K H (.ref a) (.ref C)
theorem isinst_ok {x:V} {u t:Value} (I:Inv X pins σ H s) (rx:RelV x u) (ty:TyOf X.K H x t) (e:PySem.W.kitOne X.K t c=some b) (h:∀ tk,Q (.bool b) { s with toks:=tk }) :
  wpAny (model X.prog X.w) A (call (.builtin "isinstance") [u,c]) Q E s:=by
 cases ty with
 | non=>cases (show u=Value.none from rx);exact PySem.W.kia_one PySem.W.kitx_none I.kIn True.intro e (fun z=>nomatch z) h
 | bl y=>cases (show u=Value.bool y from rx);exact PySem.W.kia_one PySem.W.kitx_bool I.kIn True.intro e (fun z=>nomatch z) h
 | int i=>obtain ⟨t,q⟩:=(show ∃ t,u=Value.int i t from rx);cases q;exact PySem.W.kia_one PySem.W.kitx_int I.kIn True.intro e (fun z=>nomatch z) h
 | str y=>obtain ⟨t,q⟩:=(show ∃ t,u=Value.str y t from rx);cases q;exact PySem.W.kia_one PySem.W.kitx_str I.kIn True.intro e (fun z=>nomatch z) h
 | flt y=>obtain ⟨t,q⟩:=(show ∃ t,u=Value.float y t from rx);cases q;exact PySem.W.kia_one PySem.W.kitx_float I.kIn True.intro e (fun z=>nomatch z) h
 | @lst a xs ea =>
  cases (show u=Value.ref a from rx)
  obtain ⟨_,_,n,_,h1⟩:=(show ObjOk X.prog X.w H s.heap a (.lst xs) from I.hok a _ ea)
  exact PySem.W.kia_one PySem.W.kitx_list I.kIn ⟨_,h1,rfl⟩ e (fun z=>nomatch z) h
 | @frz a ob xs ea =>
  cases (show u=Value.ref a from rx)
  obtain ⟨_,_,_,n,_,h1⟩:=(show ObjOk X.prog X.w H s.heap a (.frz ob (.lst xs)) from I.hok a _ ea)
  exact PySem.W.kia_one PySem.W.kitx_list I.kIn ⟨_,h1,rfl⟩ e (fun z=>nomatch z) h
 | @tup a xs ea =>
  cases (show u=Value.ref a from rx)
  obtain ⟨_,_,_,p⟩:=(show ObjOk X.prog X.w H s.heap a (.tup xs) from I.hok a _ ea)
  obtain ⟨o,h1,h2,_⟩:=p
  exact PySem.W.kia_one PySem.W.kitx_tuple I.kIn ⟨o,h1,h2.1⟩ e (fun z=>nomatch z) h
 | @dK a kvs ea =>
  cases (show u=Value.ref a from rx)
  obtain ⟨_,_,vs,_,p⟩:=(show ObjOk X.prog X.w H s.heap a (.dK kvs) from I.hok a _ ea)
  obtain ⟨o,es,ep,h1,h2,_⟩:=p
  exact PySem.W.kia_one PySem.W.kitx_dict I.kIn ⟨o,h1,h2.1⟩ e (fun z=>nomatch z) h
 | @dT a kvs ea =>
  cases (show u=Value.ref a from rx)
  obtain ⟨_,_,xs,_,o,es,ep,h1,h2,_⟩:=(show ObjOk X.prog X.w H s.heap a (.dT kvs) from I.hok a _ ea)
  exact PySem.W.kia_one PySem.W.kitx_dict I.kIn ⟨o,h1,h2.1⟩ e (fun z=>nomatch z) h
 | @ins a C dx fs ea cl ha hn htk hm =>
  cases (show u=Value.ref a from rx)
  obtain ⟨mA,O,_⟩:=ins_get I.hok ea
  obtain ⟨od,J,_⟩:=O.look
  exact PySem.W.kia_one (PySem.W.kitx_own (cl.get _) cl.hd ha hn htk hm) I.kIn J e (fun z=>nomatch z) h
end
end L2
namespace L2
open PySem PySem.Spec PyProof.Rows
structure Room (k:Nat) (A:Around):Prop where
 hd:A.handled=none
 dp:A.depth + 3 * k + 5 < recursionLimit
 un:A.units + 16 * k + 200 < cLine
theorem Room.mono {j k:Nat} {A:Around} (r:Room k A) (h:j≤k):Room j A:=⟨r.hd,by have:=r.dp;omega,by have:=r.un;omega⟩
theorem Room.deeper {k:Nat} {A:Around} (r:Room (k + 1) A) (env:Env):Room k (A.deeper env) :=
 ⟨r.hd,by have:=r.dp;show A.depth + 1 + 3 * k + 5 < _;omega,by have:=r.un;show A.units + 3 + 16 * k + 200 < _;omega⟩
theorem Room.depth {k:Nat} {A:Around} (r:Room k A):A.depth < recursionLimit:=by have:=r.dp;omega
theorem Room.units {k:Nat} {A:Around} (r:Room k A):A.units + 64 < cLine:=by have:=r.un;omega
theorem Room.units0 {k:Nat} {A:Around} (r:Room k A):A.units < cLine:=by have:=r.un;omega
def tNil:TA:=fun _ H Q=>Q [] H
def tCons (ta:TE) (tr:TA):TA:=fun σ H Q=>ta σ H fun x H1=>tr σ H1 fun xs H2=>Q (x :: xs) H2
section
variable {X:Cx} {e:Expr} {es:List Expr} {te:TE} {t:TA} {pos:Pos}
theorem J6:PA X [] tNil:=fun _ _ _ _ H Q I h=>Calls.spliced_nil ⟨[],H,I,.nil,h⟩
theorem J0 (ha:PE X e te) (hr:PA X es t) (hs:starEach (e :: es) X.env=(false,eval e X.env) :: starEach es X.env:=by rfl):PA X (e :: es) (tCons te t):=by
 intro pos pins s σ H Q I h
 rw [hs]
 show wpAny _ _ (spliced ((false,eval e X.env) :: backTo pos (starEach es X.env))) _ _ s
 refine Calls.spliced_cons (thn (ha pins s σ H _ I h) fun u s1 ⟨x,H1,I1,r1,q1⟩=>?_)
 exact thn (hr pos pins s1 σ H1 _ I1 q1) fun us s2 ⟨xs,H2,I2,r2,q2⟩=>⟨x :: xs,H2,I2,.cons r1 r2,q2⟩
def tTup (t:TA):TE:=fun σ H Q=>t σ H fun xs H1=>xs.length≤sizeLine∧∀ p,H1 p=none→Q (.ref p) (upd H1 p (.tup xs))
def tLst (t:TA):TE:=fun σ H Q=>t σ H fun xs H1=>xs.length≤sizeLine∧∀ p,H1 p=none→Q (.ref p) (upd H1 p (.lst xs))
theorem pe_tup {x1} (h:PA X es t):PE X (.Tuple es x1 pos) (tTup t):=by
 intro pins s σ H Q I hq
 refine wpAny_Tuple_spliced (thn (h pos pins s σ H _ I hq) fun us s1 ⟨xs,H1,I1,r,z,q⟩=>⟨by rw [← r.length];exact z,?_⟩)
 have hf:H1 s1.heap.objs.size=none:=I1.hok.fresh (Nat.le_refl _)
 refine ⟨.ref s1.heap.objs.size,upd H1 s1.heap.objs.size (.tup xs),I1.laid (t':=s1.toks) (fun b u e=>Heap.get?_push_of_some _ e) (Nat.le_refl _) ?_,rfl,q _ hf⟩
 exact ⟨z,us,r,⟨_,Heap.get?_push_size _ rfl,⟨rfl,rfl⟩,_,rfl⟩⟩
theorem J2j (h:PA X es t):PE X (.List es pos) (tLst t):=by
 intro pins s σ H Q I hq
 refine wpAny_List_spliced (thn (h pos pins s σ H _ I hq) fun us s1 ⟨xs,H1,I1,r,z,q⟩=>⟨by rw [← r.length];exact z,?_⟩)
 have hf:H1 s1.heap.objs.size=none:=I1.hok.fresh (Nat.le_refl _)
 refine ⟨.ref s1.heap.objs.size,upd H1 s1.heap.objs.size (.lst xs),I1.laid (t':=s1.toks) (fun b u e=>Heap.get?_push_of_some _ e) (Nat.le_refl _) ?_,rfl,q _ hf⟩
 exact ⟨z,us,0,r,Heap.get?_push_size _ rfl⟩
end
abbrev Sp:=List V→Hp→VK→XK→Prop
abbrev CXT:=List Env→Hp→Shared→XK→Value→Shared→Prop
structure Env0 (P:Program) (w:World) (K:PySem.W.Frag) (mg:Str→Option Value) (base:Heap) (A:Around) (outer:List Env) (s:Shared) (H:Hp):Prop where
 frames:A.frames=some outer
 mod:Mod K mg base
 bs:∀ b o,base.get? b=some o→s.heap.get? b=some o∧H b=none
 bsz:base.objs.size≤s.heap.objs.size
 funs:s.heap.FunFrames base outer
 frf:∀ b∈frs outer,H b=none
 hok:HOk P w H s.heap
 bare:AllBare s.gens
def CE (outer:List Env) (P:Program) (w:World) (H:Hp) (s:Shared) (Q:VK) (u:Value) (s':Shared):Prop :=
 ∃ v H',s'.os=s.os∧AllBare s'.gens∧Un (frs outer) [] H H' s.heap s'.heap∧HOk P w H' s'.heap∧RelV v u∧Q v H'
def CR (CX:CXT) (outer:List Env) (P:Program) (w:World) (H:Hp) (s:Shared) (Q:VK) (E:XK) (r:Result) (s':Shared):Prop :=
 match r with
 | .ok (.ret u)=>CE outer P w H s Q u s'
 | .ok _=>False
 | .error e=>CX outer H s E e s'
structure FnOk (P:Program) (w:World) (K:PySem.W.Frag) (mg:Str→Option Value) (base:Heap) (CX:CXT) (k:Nat) (f:Addr) (fd:FuncData) (ps:List Str) (sp:Sp):Prop where
 len:∀ vs H Q E,sp vs H Q E→vs.length=ps.length
 run:∀ (A:Around) (outer:List Env) (s:Shared) (H:Hp) (args:Args) (us:List Value) (vs:List V) (Q:VK) (E:XK),Room k A→Env0 P w K mg base A outer s H→BindsTo s fd args (ps.zip us)→Vals vs us→sp vs H Q E→
  codeAny (model P w) A (.call (.ref f) args) (CR CX outer P w H s Q E) s
theorem FnOk.mono {P:Program} {w:World} {K:PySem.W.Frag} {mg:Str→Option Value} {base:Heap} {CX:CXT} {j k:Nat} {f:Addr} {fd:FuncData} {ps:List Str} {sp:Sp} (F:FnOk P w K mg base CX j f fd ps sp) (h:j≤k) :
  FnOk P w K mg base CX k f fd ps sp:=⟨F.len,fun A outer s H args us vs Q E hr=>F.run A outer s H args us vs Q E (hr.mono h)⟩
section
variable {X:Cx} {pins:List (Addr × Obj)} {σ:St} {H:Hp} {s s':Shared}
theorem Inv.env0 (I:Inv X pins σ H s):Env0 X.prog X.w X.K X.mg X.base X.A X.stack s H :=
 ⟨I.ok.frames,I.ok.mod,I.bs,Nat.le_trans I.ok.bsz I.sz,I.stack,I.stkFree,I.hok,I.bare⟩
theorem Inv.after {Q:VK} {u:Value} (I:Inv X pins σ H s) (h:CE X.stack X.prog X.w H s Q u s'):EP X pins σ Q u s':=by
 obtain ⟨v,H',os,bare,un,hok,r,q⟩:=h
 obtain ⟨hh,g,d,t,os'⟩:=s'
 obtain rfl:os'=s.os:=os
 exact ⟨v,H',I.call (h':=hh) (g':=g) (d':=d) (t':=t) (ch:=[]) un hok bare (fun b z=>absurd z (by simp)),r,q⟩
end
def tCall (sp:Sp) (dvs:List V) (E:XK) (t:TA):TE:=fun σ H Q=>t σ H fun vs H1=>sp (vs ++ dvs) H1 Q E
def Binds (K:PySem.W.Frag) (fd:FuncData) (ps:List Str) (ds:List Value):Prop :=
 ∀ (s:Shared) (us:List Value),K.In s.heap→(us ++ ds).length=ps.length→BindsTo s fd ⟨us,[]⟩ (ps.zip (us ++ ds))
theorem Binds.all {K:PySem.W.Frag} {fd:FuncData} {ps:List Str} (h:∀ us:List Value,us.length=ps.length→bindArgs fd ⟨us,[]⟩=pure (ps.zip us)):Binds K fd ps []:=fun s us _ hl=>by
 rw [List.append_nil] at hl ⊢
 exact .of_eq (h us hl)
def Passes (CX:CXT) (X:Cx) (E:XK):Prop:=∀ (pins:List (Addr × Obj)) (σ:St) (H:Hp) (s:Shared) (e:Value) (s':Shared),Inv X pins σ H s→CX X.stack H s E e s'→X.xe e s'
section
variable {X:Cx} {CX:CXT} {k:Nat} {f C:Addr} {fd:FuncData} {ps:List Str} {sp:Sp} {dvs:List V} {ds:List Value} {E:XK} {x m:Str} {p pos apos:Pos} {e o:Expr} {es:List Expr} {ta:TE} {t:TA}
theorem run_fn {pins:List (Addr × Obj)} {σ:St} {H:Hp} {s:Shared} {Q:VK} {us:List Value} {vs:List V} (F:FnOk X.prog X.w X.K X.mg X.base CX k f fd ps sp) (hr:Room k X.A) (hb:Binds X.K fd ps ds) (hd:Vals dvs ds) (hx:Passes CX X E)
  (I:Inv X pins σ H s) (r:Vals vs us) (h:sp (vs ++ dvs) H Q E):wpAny (model X.prog X.w) X.A (call (.ref f) us) (EP X pins σ Q) X.xe s:=by
 have r2:Vals (vs ++ dvs) (us ++ ds):=r.append hd
 have hl:(us ++ ds).length=ps.length:=by rw [← r2.length];exact F.len _ _ _ _ h
 refine wpAny_call (codeAny_mono (F.run X.A X.stack s H ⟨us,[]⟩ (us ++ ds) (vs ++ dvs) Q E hr I.env0 (hb s us I.kIn hl) r2 h) fun r s' hq=>?_)
 cases r with
 | error e=>exact hx pins σ H s e s' I hq
 | ok fl =>
  cases fl with
  | ret u=>exact I.after hq
  | next=>exact False.elim hq
  | brk=>exact False.elim hq
  | cont=>exact False.elim hq
theorem Jh (F:FnOk X.prog X.w X.K X.mg X.base CX k f fd ps sp) (hr:Room k X.A) (hg:Gl X x) (hm:X.mg x=some (.ref f)) (hk:PySem.W.keepIn X.K (.ref f)=true) (hb:Binds X.K fd ps ds) (hd:Vals dvs ds) (hx:Passes CX X E)
  (ha:PA X (e :: es) t) (hdb:(x == ("__debug__":Str))=false:=by decide) (he:starEach (e :: es) X.env=(false,eval e X.env) :: starEach es X.env:=by rfl) (hpl:(backTo pos (starEach es X.env)).any (·.1)=false:=by rfl) :
  PE X (.Call (.Name x p) (e :: es) [] pos) (tCall sp dvs E t):=by
 intro pins s σ H Q I h
 refine wpAny_Call_Name_kw (ld_glob I hg hm ?_ hdb)
 refine PySem.W.callWith_K (h₀:=X.base) I.ok.mod.kin hk (thn (ha pos pins s σ H _ I h) fun us s1 ⟨vs,H1,I1,r,q⟩=>⟨I1.kIn,?_⟩) he hpl
 exact run_fn F hr hb hd hx I1 r q
end
structure FnScope (N P:List Str) (sc:Scope):Prop where
 kind:sc.kind=.function
 co:sc.isCoroutine=false
 gen:sc.isGenerator=false
 nd:N.Nodup
 pre:N.take P.length=P
 par:∀ x∈P,sc.names.lookup x=some .local∨sc.names.lookup x=some .cell
 nofree:∀ y∈sc.names,y.2≠.free
theorem bindL_out {kindOf:Str→Option NameKind} {x:Str}:∀ {binds:List (Str × Value)} {m:Str→Option Value},(∀ v,(x,v) ∉ binds)→bindL kindOf binds m x=m x
 | [],_,_=>rfl
 | (n,v) :: r,m,h=>by
  unfold bindL
  rw [bindL_out fun w hw=>h w (List.mem_cons_of_mem _ hw)]
  split
  ·have:x≠n:=by rintro rfl;exact h v List.mem_cons_self
   simp [this]
  ·rfl
theorem bindC_out {kindOf:Str→Option NameKind} {x:Str}:∀ {binds:List (Str × Value)} {m:Str→Option Value},(∀ v,(x,v) ∉ binds)→bindC kindOf binds m x=m x
 | [],_,_=>rfl
 | (n,v) :: r,m,h=>by
  unfold bindC
  rw [bindC_out fun w hw=>h w (List.mem_cons_of_mem _ hw)]
  split
  ·rfl
  ·have:x≠n:=by rintro rfl;exact h v List.mem_cons_self
   simp [this]
theorem bindL_get {kindOf:Str→Option NameKind} {x:Str} {v:Value}:∀ {P:List Str} {vs:List Value} {i:Nat} {m:Str→Option Value},P.Nodup→P[i]?=some x→vs[i]?=some v→kindOf x=some .local→
  bindL kindOf (P.zip vs) m x=some v
 | [],_,_,_,_,h,_,_=>by simp at h
 | _ :: _,[],_,_,_,_,h,_=>by simp at h
 | p :: P,w :: vs,0,m,nd,h1,h2,hk=>by
  simp at h1 h2;subst h1;subst h2
  show bindL kindOf ((p,w) :: P.zip vs) m p=_
  unfold bindL
  rw [bindL_out fun v hv=>(List.nodup_cons.mp nd).1 (List.of_mem_zip hv).1,if_pos hk]
  simp
 | p :: P,w :: vs,i + 1,m,nd,h1,h2,hk=>by
  show bindL kindOf ((p,w) :: P.zip vs) m x=_
  unfold bindL
  exact bindL_get (i:=i) (List.nodup_cons.mp nd).2 (by simpa using h1) (by simpa using h2) hk
theorem bindC_get {kindOf:Str→Option NameKind} {x:Str} {v:Value}:∀ {P:List Str} {vs:List Value} {i:Nat} {m:Str→Option Value},P.Nodup→P[i]?=some x→vs[i]?=some v→kindOf x≠some .local→
  bindC kindOf (P.zip vs) m x=some v
 | [],_,_,_,_,h,_,_=>by simp at h
 | _ :: _,[],_,_,_,_,h,_=>by simp at h
 | p :: P,w :: vs,0,m,nd,h1,h2,hk=>by
  simp at h1 h2;subst h1;subst h2
  show bindC kindOf ((p,w) :: P.zip vs) m p=_
  unfold bindC
  rw [bindC_out fun v hv=>(List.nodup_cons.mp nd).1 (List.of_mem_zip hv).1,if_neg hk]
  simp
 | p :: P,w :: vs,i + 1,m,nd,h1,h2,hk=>by
  show bindC kindOf ((p,w) :: P.zip vs) m x=_
  unfold bindC
  exact bindC_get (i:=i) (List.nodup_cons.mp nd).2 (by simpa using h1) (by simpa using h2) hk
def start (N:List Str) (vs:List V):St:=vs.map some ++ List.replicate (N.length - vs.length) none
def cxOf (CX:CXT) (P:Program) (w:World) (K:PySem.W.Frag) (mg:Str→Option Value) (base:Heap) (N:List Str) (qual:Str) (scope:Scope) (f:Addr) (cd:Value) (A:Around) (outer:List Env) (s:Shared) (H:Hp) (E:XK):Cx where
 prog:=P
 w:=w
 K:=K
 mg:=mg
 base:=base
 A:=A.deeper (envOfC qual scope s.heap.objs.size f cd)
 N:=N
 s₀:=s
 H₀:=H
 env:=envOfC qual scope s.heap.objs.size f cd
 outer:=outer
 stack:=envOfC qual scope s.heap.objs.size f cd :: outer
 ex:=[]
 calm:=true
 fn:=fun _=>true
 pn:=[]
 xe:=fun e s'=>wpAny (model P w) (A.deeper (envOfC qual scope s.heap.objs.size f cd)) (leaving (envOfC qual scope s.heap.objs.size f cd) e) (fun _ s''=>CX outer H s E e s'') (fun e' s''=>CX outer H s E e' s'') s'
theorem cell_has {sc:Scope} {n:Nat} {x:Str} (h:sc.names.lookup x=some .cell):∃ c,(cellsFrom n sc.names []).lookup x=some c:=by
 have q:=PySem.W.cellsFrom_some sc.names n [] (.inl h)
 exact Option.isSome_iff_exists.mp q
theorem inv_start {CX:CXT} {P:Program} {w:World} {K:PySem.W.Frag} {mg:Str→Option Value} {base:Heap} {N ps:List Str} {qual:Str} {scope:Scope} {f:Addr} {cd:Value} {A:Around} {outer:List Env} {s s1:Shared} {H:Hp} {E:XK} {us:List Value} {vs:List V}
  (S:FnScope N ps scope) (hd:A.handled=none) (e0:Env0 P w K mg base A outer s H) (hl:vs.length=ps.length) (r:Vals vs us)
  (x:InCallC s s.heap.objs.size (bindL (envOfC qual scope s.heap.objs.size f cd).kindOf (ps.zip us) fun _=>none) (cellsFrom (s.heap.objs.size + 1) scope.names []) (bindC (envOfC qual scope s.heap.objs.size f cd).kindOf (ps.zip us) fun _=>none) s1) :
  Inv (cxOf CX P w K mg base N qual scope f cd A outer s H E) [] (start N vs) H s1:=by
 have hpl:ps.length≤N.length:=by have:=congrArg List.length S.pre;rw [List.length_take] at this;omega
 obtain ⟨h1,tk,rfl,hk⟩:=x.done
 have noA:∀ b:Addr,b ∉ (cxOf CX P w K mg base N qual scope f cd A outer s H E).ex:=fun b z=>absurd (show b∈([]:List Addr) from z) (by simp)
 refine ⟨⟨e0.mod,S.kind,rfl,rfl,Nat.le_refl _,fun y z c h1 h2=>?_,fun y hy=>?_,fun y c _ h=>?_,fun _=>hd,Around.frames_deeper e0.frames,.inr ⟨rfl,rfl⟩,fun b z=>absurd z (noA b),e0.bs,e0.bsz,fun b _ _=>noA b,fun b z=>absurd z (noA b),e0.funs,e0.frf⟩,
  rfl,e0.bare,Un.kept hk,⟨_,x.toInCall.ns,fun i y v h1 h2 h3=>?_⟩,fun y c h=>⟨_,x.cell y c h⟩,e0.hok.fresh (Nat.le_refl _),fun y c h=>?_,fun p hp=>absurd (show p∈([]:List (Addr × Obj)) from hp) (by simp),e0.hok.kept hk,?_⟩
 ·exact name_of_addr x.apart (PySem.mem_of_lookup h1) (PySem.mem_of_lookup h2)
 ·have hy:scope.names.lookup y=some .cell∨scope.names.lookup y=some .free:=hy
  rcases hy with hy | hy
  ·exact cell_has hy
  ·exact absurd rfl (S.nofree _ (PySem.mem_of_lookup hy))
 ·exact Nat.le_of_lt (x.above y c (PySem.mem_of_lookup h))
 ·have hi:i < vs.length:=by
   unfold start at h2
   by_cases hi:i < vs.length
   ·exact hi
   ·rw [List.getElem?_append_right (by simpa using hi)] at h2
    rw [List.getElem?_replicate] at h2
    split at h2 <;> cases h2
  have ha:vs[i]?=some v:=by
   unfold start at h2
   rw [List.getElem?_append_left (by simpa using hi),List.getElem?_map] at h2
   cases e:vs[i]? with
   | none=>rw [e] at h2;cases h2
   | some a=>rw [e] at h2;cases h2;rfl
  obtain ⟨u,hu,rv⟩:=r.get ha
  have hp:ps[i]?=some y:=by
   rw [← S.pre,List.getElem?_take_of_lt (by omega)];exact h1
  have ndP:ps.Nodup:=by rw [← S.pre];exact S.nd.sublist (List.take_sublist _ _)
  refine ⟨u,rv,?_⟩
  rcases S.par y (List.mem_of_getElem? hp) with k | k
  ·exact .inl ⟨k,bindL_get ndP hp hu k⟩
  ·obtain ⟨c,e⟩:=cell_has (n:=s.heap.objs.size + 1) k
   refine .inr ⟨.inl k,c,e,?_⟩
   have q:=x.cell y c e
   rw [bindC_get ndP hp hu (by show scope.names.lookup y≠_;rw [k];decide)] at q
   exact q
 ·exact e0.hok.fresh (Nat.le_of_lt (x.above y c (PySem.mem_of_lookup h)))
 ·unfold start
  show _=N.length
  rw [List.length_append,List.length_map,List.length_replicate]
  omega
theorem fn_of {CX:CXT} {P:Program} {w:World} {K:PySem.W.Frag} {mg:Str→Option Value} {base:Heap} {k:Nat} {f:Addr} {name qual:Str} {params:Arguments} {body:List Stmt} {scope:Scope} {dV kV doc pm cdv ct oc:Value} {an od:Option Addr}
  {osl:Array (Option Value)} {N ps:List Str} {sp:Sp} (lk:K.lookup f=some ⟨oc,od,.func (PySem.W.fnOf name qual params body scope dV kV doc pm an cdv ct),osl⟩) (hcd:PySem.W.codeIn K cdv qual=true) (S:FnScope N ps scope)
  (len:∀ vs H Q E,sp vs H Q E→vs.length=ps.length)
  (hbody:∀ (A:Around) (outer:List Env) (s:Shared) (H:Hp) (vs:List V) (Q:VK) (E:XK),Room k (A.deeper (envOfC qual scope s.heap.objs.size f cdv))→sp vs H Q E→
   ∃ t,PSs (cxOf CX P w K mg base N qual scope f cdv A outer s H E) body t∧t { nx:=fun _ H'=>Q .non H',rt:=Q } (start N vs) H) :
  FnOk P w K mg base CX (k + 1) f (PySem.W.fnOf name qual params body scope dV kV doc pm an cdv ct) ps sp:=by
 refine ⟨len,fun A outer s H args us vs Q E hr e0 hb r hsp=>?_⟩
 have hl:=len _ _ _ _ hsp
 have KX:K.In s.heap:=e0.mod.kin.keeps fun b o e=>(e0.bs b o e).1
 have lim:s.heap.NoLimit:=e0.mod.nolimit.keeps fun b o e=>(e0.bs b o e).1
 have hkind:∀ y∈ps.zip us,scope.names.lookup y.1=some .local∨(scope.names.lookup y.1=some .cell∧((cellsFrom (s.heap.objs.size + 1) scope.names []).lookup y.1).isSome=true):=fun ⟨n,v⟩ hy=>by
  rcases S.par n (List.of_mem_zip hy).1 with q | q
  ·exact .inl q
  ·exact .inr ⟨q,PySem.W.cellsFrom_some _ _ _ (.inl q)⟩
 refine codeAny_call_function hr.depth (KX _ _ lk) rfl S.co S.gen rfl (PySem.W.codeRec_of KX hcd) (hb _ _ _ _ ?_)
 refine wpAny_newFunctionEnv_cells S.kind hkind fun env he s1 x=>?_
 subst he
 refine ⟨lim.keeps x.toInCall.keep,codeAny_func ?_⟩
 obtain ⟨t,ht,hq⟩:=hbody A outer s H vs Q E (hr.deeper _) hsp
 have I:Inv (cxOf CX P w K mg base N qual scope f cdv A outer s H E) [] (start N vs) H s1:=inv_start S hr.hd e0 hl r x
 refine wpAny_mono (ht [] s1 (start N vs) H _ I hq) (fun fl s' hs=>?_) fun e s' hs=>hs
 have fin:∀ {σ':St} {H':Hp} {v:V} {u:Value},Inv (cxOf CX P w K mg base N qual scope f cdv A outer s H E) [] σ' H' s'→RelV v u→Q v H'→CE outer P w H s Q u s' :=
  fun {σ' H' v u} J rv q=>⟨v,H',J.os,J.bare,J.base,J.hok,rv,q⟩
 cases fl with
 | ret u =>
  obtain ⟨v,σ',H',J,rv,q⟩:=hs
  exact fin J rv q
 | next =>
  obtain ⟨σ',H',J,q⟩:=hs
  exact fin (v:=V.non) (u:=Value.none) J rfl q
 | brk =>
  obtain ⟨_,_,_,q⟩:=hs
  exact False.elim q
 | cont =>
  obtain ⟨_,_,_,q⟩:=hs
  exact False.elim q
end L2
namespace L2
open PySem PySem.Spec PyProof.Rows
section
variable {X:Cx} {x:Str} {p pos:Pos} {e:Expr} {es:List Expr} {t:TA} {id T:String} {r:List V→Hp→VK→Prop}
def tCB (r:List V→Hp→VK→Prop) (t:TA):TE:=fun σ H Q=>t σ H fun vs H1=>r vs H1 Q
theorem Je (hc:CallR X (.builtin id) r) (hg:Gl X x) (hm:X.mg x=none) (hv:bootBuiltins x=some (.builtin id)) (ha:PA X (e :: es) t) (hn:x≠"__name__":=by decide) (hdb:(x == ("__debug__":Str))=false:=by decide)
  (he:starEach (e :: es) X.env=(false,eval e X.env) :: starEach es X.env:=by rfl) (hpl:(backTo pos (starEach es X.env)).any (·.1)=false:=by rfl):PE X (.Call (.Name x p) (e :: es) [] pos) (tCB r t):=by
 intro pins s σ H Q I h
 refine wpAny_Call_Name_kw (J4h I hg hm hv ?_ hn hdb)
 exact PyProof.Rows.callWith_builtin1 (thn (ha pos pins s σ H _ I h) fun us s1 ⟨vs,H1,I1,r1,q1⟩=>hc pins s1 σ H1 vs us Q I1 r1 q1) he hpl
theorem Jg (hc:CallR X (.type T) r) (hg:Gl X x) (hm:X.mg x=none) (hv:bootBuiltins x=some (.type T)) (ha:PA X (e :: es) t) (hn:x≠"__name__":=by decide) (hdb:(x == ("__debug__":Str))=false:=by decide)
  (he:starEach (e :: es) X.env=(false,eval e X.env) :: starEach es X.env:=by rfl) (hpl:(backTo pos (starEach es X.env)).any (·.1)=false:=by rfl):PE X (.Call (.Name x p) (e :: es) [] pos) (tCB r t):=by
 intro pins s σ H Q I h
 refine wpAny_Call_Name_kw (J4h I hg hm hv ?_ hn hdb)
 exact PyProof.Rows.callWith_type1 (thn (ha pos pins s σ H _ I h) fun us s1 ⟨vs,H1,I1,r1,q1⟩=>hc pins s1 σ H1 vs us Q I1 r1 q1) he hpl
end
end L2
namespace HT
open PySem PyProof.Rows
section
variable {prog:Program} {w:World} {A:Around} {E:Value→Shared→Prop} {s:Shared}
theorem cat_tup {t b:Addr} {vs ws:List Value} {Q:Value→Shared→Prop} (ht:IsTup s.heap t vs.toArray) (hb:IsTup s.heap b ws.toArray) (hv:vs≠[])
  (h1:ws=[]→Q (.ref t) s) (h2:ws≠[]→Q (.ref s.heap.objs.size) { s with heap:=s.heap.push { cls:=.type "tuple",data:=.seq (vs ++ ws).toArray } })
  (hsz:vs.length + ws.length≤sizeLine):wpAny (model prog w) A (binaryOp .Add (.ref t) (.ref b)) Q E s:=by
 obtain ⟨⟨cls,dd,data,sl⟩,ho,hc,n,hd⟩:=id ht
 obtain ⟨⟨cls2,dd2,data2,sl2⟩,ho2,hc2,n2,hd2⟩:=id hb
 simp only at hc hd hc2 hd2
 subst hc hd hc2 hd2
 have e:vs.toArray ++ ws.toArray=(vs ++ ws).toArray:=by simp
 by_cases hw:ws=[]
 ·exact concat_meets ⟨_,ho,rfl⟩ ⟨_,ho2,rfl⟩ noFill_tuple_add seq_tuple_add PySem.F.slot_tuple_add PySem.F.entry_tuple_add (PySem.F.args_tuple_add_2 _ _)
   (tuple_addW1 t b vs.toArray ws.toArray n n2 dd dd2 sl sl2 (by simpa using hv) (by simp [hw])) ⟨ho,ho2,h1 hw⟩
 ·refine concat_meets ⟨_,ho,rfl⟩ ⟨_,ho2,rfl⟩ noFill_tuple_add seq_tuple_add PySem.F.slot_tuple_add PySem.F.entry_tuple_add (PySem.F.args_tuple_add_2 _ _)
   (tuple_addW2 t b vs.toArray ws.toArray n n2 dd dd2 sl sl2 (by simpa using hv) (by simpa using hw) (by rw [List.size_toArray,List.size_toArray];exact hsz)) ⟨ho,ho2,?_⟩
  rw [e]
  exact h2 hw
def sIx (n d:Nat):Option Int→Nat
 | none=>d
 | some v=>if v < 0 then (v + (n:Int)).toNat else min v.toNat n
theorem sIx_none (n d:Nat):sIx n d none=d:=rfl
theorem sIx_nat (n d k:Nat):sIx n d (some (k:Int))=min k n:=by
 show (if (k:Int) < 0 then ((k:Int) + (n:Int)).toNat else min (k:Int).toNat n)=min k n
 rw [if_neg (by omega),Int.toNat_natCast]
theorem sIx_le (n d:Nat) (hd:d≤n) (o:Option Int):sIx n d o≤n:=by
 cases o with
 | none=>exact hd
 | some v =>
  show (if v < 0 then (v + (n:Int)).toNat else min v.toNat n)≤n
  by_cases hv:v < 0
  ·rw [if_pos hv];omega
  ·rw [if_neg hv];exact Nat.min_le_right _ _
theorem clip_eq (v:Int) (n d:Nat):(if v < 0 then max (v + (n:Int)) 0 else min v (n:Int))=((sIx n d (some v):Nat):Int):=by
 show (if v < 0 then max (v + (n:Int)) 0 else min v (n:Int))=(((if v < 0 then (v + (n:Int)).toNat else min v.toNat n):Nat):Int)
 by_cases hv:v < 0
 ·simp only [if_pos hv];omega
 ·simp only [if_neg hv];omega
theorem adjust_gen (lo hi:Option Int) (n:Nat):Builtin.Slice.sliceAdjust lo hi 1 (n:Int)=(((sIx n 0 lo:Nat):Int),((sIx n n hi:Nat):Int)):=by
 have h1:¬ ((1:Int) < 0):=by omega
 unfold Builtin.Slice.sliceAdjust
 simp only [h1,if_false]
 refine Prod.ext ?_ ?_
 ·cases lo with
  | none=>rfl
  | some v=>exact clip_eq v n 0
 ·cases hi with
  | none=>rfl
  | some v=>exact clip_eq v n n
theorem places_gen (i j:Nat):Builtin.Slice.slicePlaces (i:Int) (j:Int) 1=j - i:=by
 unfold Builtin.Slice.slicePlaces
 have h1:(1:Int) > 0:=by omega
 simp only [h1,if_true,Int.ediv_one]
 split <;> omega
theorem J3o {v:Value} {o:Option Int} {Q:Option Int→Shared→Prop} (p:IsPart v o) (h:Q o s):wpAny (model prog w) A (Builtin.Slice.slicePartIndex v) Q E s:=by
 cases p with
 | none=>exact slicePart_none h
 | int i t=>exact slicePart_int h
theorem J2g {sl:Addr} {vl vu:Value} {lo hi:Option Int} {n:Nat} {Q:Int × Int × Nat→Shared→Prop} (hs:s.heap.IsSliceOf sl vl vu .none) (pl:IsPart vl lo) (pu:IsPart vu hi)
  (h:Q (((sIx n 0 lo:Nat):Int),1,sIx n n hi - sIx n 0 lo) s):wpAny (model prog w) A (Builtin.Slice.sliceApplied (.ref sl) (pure (n:Int))) Q E s:=by
 obtain ⟨os,hos,hcs,hds⟩:=id hs
 unfold Builtin.Slice.sliceApplied Builtin.Slice.sliceFields
 refine wpAny_bind (wpAny_bind (wpAny_field hos hds (x:=vl) rfl (wpAny_bind (wpAny_field hos hds (x:=vu) rfl (wpAny_bind (wpAny_field hos hds (x:=.none) rfl (wpAny_pure ?_)))))))
 refine wpAny_bind (slicePart_none ?_)
 show wpAny _ _ (if ((1:Int) == 0)=true then _ else _) _ _ s
 rw [if_neg (by decide)]
 refine wpAny_bind (J3o pl (wpAny_bind (J3o pu (wpAny_bind (wpAny_pure ?_)))))
 show wpAny _ _ (match Builtin.Slice.sliceAdjust lo hi 1 (n:Int) with | (lo,hi)=>pure (lo,(1:Int),Builtin.Slice.slicePlaces lo hi 1)) _ _ s
 rw [adjust_gen lo hi n]
 show wpAny _ _ (pure (((sIx n 0 lo:Nat):Int),(1:Int),Builtin.Slice.slicePlaces ((sIx n 0 lo:Nat):Int) ((sIx n n hi:Nat):Int) 1)) _ _ s
 rw [places_gen]
 exact wpAny_pure h
theorem pick_gen (xs:Array Value) (i k:Nat):((List.range k).filterMap fun (m:Nat)=>xs[((i:Int) + (m:Int) * 1).toNat]?).toArray=((xs.toList.drop i).take k).toArray:=by
 have e:(fun (m:Nat)=>xs[((i:Int) + (m:Int) * 1).toNat]?)=fun m=>xs[i + m]?:=by
  funext m
  have:((i:Int) + (m:Int) * 1).toNat=i + m:=by omega
  rw [this]
 rw [e]
 have:=pick_run xs i k
 rw [List.filterMap_map] at this
 have e2:((fun x=>xs[x]?) ∘ fun x=>i + x)=fun m=>xs[i + m]?:=rfl
 rw [e2] at this
 rw [this]
theorem getItem_tuple_cut {t sl:Addr} {items:Array Value} {vl vu:Value} {lo hi:Option Int} {Q:Value→Shared→Prop} (ht:IsTup s.heap t items) (hs:s.heap.IsSliceOf sl vl vu .none) (pl:IsPart vl lo) (pu:IsPart vu hi)
  (hw:¬ (sIx items.size 0 lo=0∧sIx items.size items.size hi=items.size))
  (h:Q (.ref s.heap.objs.size) { s with heap:=s.heap.push { cls:=.type "tuple",data:=.seq ((items.toList.drop (sIx items.size 0 lo)).take (sIx items.size items.size hi - sIx items.size 0 lo)).toArray } })
  (hsz:items.size≤sizeLine):wpAny (model prog w) A (getItem (.ref t) (.ref sl)) Q E s:=by
 have htake:sizeOk (.seq ((items.toList.drop (sIx items.size 0 lo)).take (sIx items.size items.size hi - sIx items.size 0 lo)).toArray):=by
  show ((items.toList.drop (sIx items.size 0 lo)).take (sIx items.size items.size hi - sIx items.size 0 lo)).toArray.size≤sizeLine
  rw [List.size_toArray,List.length_take,List.length_drop,Array.length_toList]
  omega
 have hj:sIx items.size items.size hi≤items.size:=sIx_le _ _ (Nat.le_refl _) hi
 obtain ⟨os,hos,hcs,hds⟩:=id hs
 have hTs:s.TypeIs (.ref sl) "slice":=⟨os,hos,hcs⟩
 unfold getItem
 try with_reducible refine wpAny_holding ?_
 first | refine wpAny_bind (wpAny_pure ?_) | skip
 refine wpAny_bind (wpAny_sequenceKey ht.typeIs (by decide) ?_)
 refine wpAny_bind (wpAny_callSpecial?_slot (name:=Str.ofString "__getitem__") ht.typeIs PyProof.Rows.slot_tuple_getitem
  (wpAny_call_entry PyProof.Rows.slot_tuple_getitem ht.typeIs entry_tuple_getitem ?_ (args_tuple_getitem _ _)))
 show wpAny _ _ (Builtin.Tuple.tupleItemsOf (.ref t) >>= _) _ _ s
 refine wpAny_bind (tupleItemsOf_ ht ?_)
 refine wpAny_bind (wpAny_typeOf hTs ?_)
 rw [if_pos (by decide)]
 refine wpAny_bind (J2g hs pl pu ?_)
 have hno:¬ ((((sIx items.size 0 lo:Nat):Int) == 0 && (1:Int) == 1 && (sIx items.size items.size hi - sIx items.size 0 lo) == items.size)=true):=by
  intro q
  rw [Bool.and_eq_true,Bool.and_eq_true] at q
  have q1:((sIx items.size 0 lo:Nat):Int)=0:=eq_of_beq q.1.1
  have q2:sIx items.size items.size hi - sIx items.size 0 lo=items.size:=eq_of_beq q.2
  exact hw ⟨by omega,by omega⟩
 show wpAny _ _ (if (((sIx items.size 0 lo:Nat):Int) == 0 && (1:Int) == 1 && (sIx items.size items.size hi - sIx items.size 0 lo) == items.size)=true then _ else _) _ _ s
 rw [if_neg hno,pick_gen]
 first
  | exact wpAny_bind (m:=Builtin.Tuple.tupleExact _) (wpAny_newObj_type (wpAny_pure ⟨_,rfl,wpAny_pure h⟩) htake)
  | exact wpAny_bind (m:=Builtin.Tuple.tupleExact _) (wpAny_newObj_type (wpAny_bind (wpAny_pure (wpAny_pure ⟨_,rfl,wpAny_pure h⟩))) htake)
  | exact wpAny_bind (wpAny_bind (m:=Builtin.Tuple.tupleExact _) (wpAny_newObj_type (wpAny_pure (wpAny_pure ⟨_,rfl,wpAny_pure h⟩)) htake))
  | exact wpAny_bind (wpAny_bind (m:=Builtin.Tuple.tupleExact _) (wpAny_newObj_type (wpAny_pure ⟨_,rfl,wpAny_pure h⟩) htake))
end
end HT
namespace L2
open PySem PySem.Spec PyProof.Rows
abbrev TO:=St→Hp→(Option Int→Hp→Prop)→Prop
def PO (X:Cx) (e:Option Expr) (t:TO):Prop :=
 ∀ (pins:List (Addr × Obj)) (s:Shared) (σ:St) (H:Hp) (Q:Option Int→Hp→Prop),Inv X pins σ H s→t σ H Q→
  wpAny (model X.prog X.w) X.A (evalPart e X.env) (fun u s'=>∃ o H',Inv X pins σ H' s'∧IsPart u o∧Q o H') X.xe s
def tNoPart:TO:=fun _ H Q=>Q none H
def tPart (t:TE):TO:=fun σ H Q=>t σ H fun x H1=>∃ i,x=.int i∧Q (some i) H1
theorem J15 {ns:List Int}:∀ {us:List Value},Vals (ns.map V.int) us→IntsAre us ns:=by
 induction ns with
 | nil=>intro us r;rw [List.map_nil] at r;cases r;exact .nil
 | cons n ns ih =>
  intro us r
  rw [List.map_cons] at r
  cases r with
  | cons r1 r2 =>
   obtain ⟨t,e⟩:=r1
   subst e
   exact .cons n t (ih r2)
section
variable {X:Cx} {e:Expr} {te:TE} {lo hi:Option Expr} {tl th:TO} {pos p2:Pos}
theorem J3p:PO X none tNoPart:=by
 intro pins s σ H Q I h
 rw [evalPart_none]
 exact wpAny_pure ⟨none,H,I,.none,h⟩
theorem J1n (h:PE X e te):PO X (some e) (tPart te):=by
 intro pins s σ H Q I hw
 rw [evalPart_some]
 refine thn (h pins s σ H _ I hw) fun u s1 ⟨x,H1,I1,r1,q1⟩=>?_
 obtain ⟨i,rfl,q⟩:=q1
 obtain ⟨t,rfl⟩:=r1
 exact ⟨some i,H1,I1,.int i t,q⟩
def SlR (X:Cx) (r:V→Option Int→Option Int→Hp→VK→Prop):Prop :=
 ∀ (pins:List (Addr × Obj)) (s:Shared) (σ:St) (H:Hp) (x:V) (v vl vu:Value) (lo hi:Option Int) (sl:Addr) (Q:VK),Inv X pins σ H s→RelV x v→s.heap.IsSliceOf sl vl vu .none→IsPart vl lo→IsPart vu hi→r x lo hi H Q→
  ∃ T id,typeLookup (.type T) "__getitem__"=pure (some (.builtin id))∧s.TypeIs v T∧wpAny (model X.prog X.w) X.A (getItem v (.ref sl)) (EP X pins σ Q) X.xe s
theorem SlR.or {r r':V→Option Int→Option Int→Hp→VK→Prop} (h:SlR X r) (h':SlR X r'):SlR X (fun x lo hi H Q=>r x lo hi H Q∨r' x lo hi H Q):=by
 intro pins s σ H x v vl vu lo hi sl Q I rx hs pl pu q
 rcases q with q | q
 ·exact h pins s σ H x v vl vu lo hi sl Q I rx hs pl pu q
 ·exact h' pins s σ H x v vl vu lo hi sl Q I rx hs pl pu q
def tSl (r:V→Option Int→Option Int→Hp→VK→Prop) (te:TE) (tl th:TO):TE:=fun σ H Q=>te σ H fun x H1=>tl σ H1 fun l H2=>th σ H2 fun u H3=>r x l u H3 Q
theorem J1j {r:V→Option Int→Option Int→Hp→VK→Prop} (hr:SlR X r) (he:PE X e te) (hl:PO X lo tl) (hu:PO X hi th):PE X (.Subscript e (.Slice lo hi none p2) pos) (tSl r te tl th):=by
 intro pins s σ H Q I h
 refine Subscript_ (thn (he pins s σ H _ I h) fun v s1 ⟨x,H1,I1,r1,q1⟩=>?_)
 refine wpAny_Slice (thn (hl pins s1 σ H1 _ I1 q1) fun vl s2 ⟨l,H2,I2,pl,q2⟩=>thn (hu pins s2 σ H2 _ I2 q2) fun vu s3 ⟨u,H3,I3,pu,q3⟩=>?_)
 rw [evalPart_none]
 refine wpAny_pure ?_
 have I4:Inv X pins σ H3 { s3 with heap:=s3.heap.push { cls:=.type "slice",data:=.fields #[vl,vu,.none] } }:=I3.kept (t':=s3.toks) fun b ob q=>Heap.get?_push_of_some _ q
 obtain ⟨T,id,hT,ht,hg⟩:=hr pins { s3 with heap:=s3.heap.push { cls:=.type "slice",data:=.fields #[vl,vu,.none] } } σ H3 x v vl vu l u s3.heap.objs.size Q I4 r1 (Heap.IsSliceOf.new ..) pl pu q3
 show wpAny (model X.prog X.w) X.A (subscriptTail e (.Slice lo hi none p2) v (.ref s3.heap.objs.size)) (EP X pins σ Q) X.xe { s3 with heap:=s3.heap.push { cls:=.type "slice",data:=.fields #[vl,vu,.none] } }
 exact tail_any (ops:=[.ref s3.heap.objs.size,v]) ht hT hg (by with_unfolding_all rfl)
def cutV (xs:List V) (lo hi:Option Int):List V:=(xs.drop (HT.sIx xs.length 0 lo)).take (HT.sIx xs.length xs.length hi - HT.sIx xs.length 0 lo)
theorem J36 (xs:List V) (lo hi:Option Int):(cutV xs lo hi).length≤xs.length:=by
 unfold cutV
 rw [List.length_take,List.length_drop]
 omega
def rSlT (K:PySem.W.Frag):V→Option Int→Option Int→Hp→VK→Prop:=fun x lo hi H Q=>∃ a xs,x=.ref a∧SqT K H a xs∧
 ¬ (HT.sIx xs.length 0 lo=0∧HT.sIx xs.length xs.length hi=xs.length)∧∀ p,H p=none→Q (.ref p) (upd H p (.tup (cutV xs lo hi)))
theorem sl_tup:SlR X (rSlT X.K):=by
 intro pins s σ H x v vl vu lo hi sl Q I rx hs pl pu h
 obtain ⟨a,xs,rfl,hx,hw,q⟩:=h
 cases rx
 obtain ⟨its,r,ht,hz⟩:=I.tuple hx
 have hlen:its.toArray.size=xs.length:=by rw [List.size_toArray];exact r.length.symm
 refine ⟨"tuple",_,PyProof.Rows.slot_tuple_getitem.lookup,ht.typeIs,?_⟩
 refine HT.getItem_tuple_cut ht hs pl pu (by rw [hlen];exact hw) ?_ (by rw [hlen];exact hz)
 rw [hlen]
 refine ⟨.ref s.heap.objs.size,_,I.laid (t':=s.toks) (o:=.tup (cutV xs lo hi)) (fun b ob q=>Heap.get?_push_of_some _ q) (Nat.le_refl _) ?_,rfl,q _ (I.hok.fresh (Nat.le_refl _))⟩
 exact ⟨Nat.le_trans (J36 xs lo hi) hz,_,(r.drop (HT.sIx xs.length 0 lo)).take (HT.sIx xs.length xs.length hi - HT.sIx xs.length 0 lo),TupX.new _ _⟩
def rCatT (K:PySem.W.Frag):R2:=fun x y H Q=>∃ a b xs ys,x=.ref a∧y=.ref b∧SqT K H a xs∧SqT K H b ys∧xs≠[]∧xs.length + ys.length≤sizeLine∧
 (ys=[]→Q (.ref a) H)∧(ys≠[]→∀ p,H p=none→Q (.ref p) (upd H p (.tup (xs ++ ys))))
theorem Vals.nil_iff {xs:List V} {us:List Value} (r:Vals xs us):us=[]↔xs=[]:=by
 cases r with
 | nil=>simp
 | cons _ _=>simp
theorem op_catT:OpR X (binaryOp .Add) (rCatT X.K):=by
 intro pins s σ H x y v u Q I rx ry h
 obtain ⟨a,b,xs,ys,rfl,rfl,ha,hb,hx,hz,q1,q2⟩:=h
 cases rx
 cases ry
 obtain ⟨its,r1,p1,_⟩:=I.tuple ha
 obtain ⟨its2,r2,p2,_⟩:=I.tuple hb
 refine HT.cat_tup p1 p2 (fun z=>hx (r1.nil_iff.mp z)) (fun z=>⟨.ref a,H,I,rfl,q1 (r2.nil_iff.mp z)⟩) (fun z=>?_) (by rw [← r1.length,← r2.length];exact hz)
 refine ⟨.ref s.heap.objs.size,_,I.laid (t':=s.toks) (o:=.tup (xs ++ ys)) (fun b ob q=>Heap.get?_push_of_some _ q) (Nat.le_refl _) ?_,rfl,q2 (fun w=>z (r2.nil_iff.mpr w)) _ (I.hok.fresh (Nat.le_refl _))⟩
 exact ⟨by rw [List.length_append];exact hz,_,r1.append r2,TupX.new _ _⟩
end
end L2
namespace L2
open PySem PySem.Spec PyProof.Rows
def ixN (n:Nat) (i:Int):Option Nat:=if 0≤i then (if i < n then some i.toNat else none) else if -(n:Int)≤i then some (i + n).toNat else none
def atI {α:Type} (xs:List α) (i:Int):Option α:=(ixN xs.length i).bind fun j=>xs[j]?
theorem ixN_seq {n:Nat} {i:Int} {j:Nat} (h:ixN n i=some j):seqIndex? i n=some j∧j < n∧-(n:Int)≤i∧i < n:=by
 unfold ixN at h
 by_cases h0:0≤i
 ·rw [if_pos h0] at h
  by_cases h1:i < n
  ·rw [if_pos h1] at h
   have e:i.toNat=j:=Option.some.inj h
   exact ⟨by rw [seqIndex_of h0 h1,e],by omega,by omega,h1⟩
  ·rw [if_neg h1] at h;cases h
 ·rw [if_neg h0] at h
  by_cases h1:-(n:Int)≤i
  ·rw [if_pos h1] at h
   have e:(i + n).toNat=j:=Option.some.inj h
   exact ⟨by rw [seqIndex_neg (by omega) h1,e],by omega,h1,by omega⟩
  ·rw [if_neg h1] at h;cases h
theorem atI_get {α:Type} {xs:List α} {i:Int} {v:α} (h:atI xs i=some v):∃ j,seqIndex? i xs.length=some j∧xs[j]?=some v∧j < xs.length∧-(xs.length:Int)≤i∧i < xs.length:=by
 unfold atI at h
 cases e:ixN xs.length i with
 | none=>rw [e] at h;cases h
 | some j =>
  rw [e] at h
  obtain ⟨h1,h2,h3,h4⟩:=ixN_seq e
  exact ⟨j,h1,h,h2,h3,h4⟩
theorem J22 {α:Type} {xs:List α} {j:Nat} {v:α} (h:xs[j]?=some v):atI xs (j:Int)=some v:=by
 have hj:j < xs.length:=(List.getElem?_eq_some_iff.mp h).1
 have e:ixN xs.length (j:Int)=some j:=by
  unfold ixN
  rw [if_pos (by omega),if_pos (by omega)];simp
 unfold atI;rw [e];exact h
def PlainIx (b:Expr):Prop:=∀ o i,subscripted b false o i=operate [o,i] (getItem o i)
def IxR (X:Cx) (r:R2):Prop :=
 ∀ (value slice:Expr) (pins:List (Addr × Obj)) (s:Shared) (σ:St) (H:Hp) (x y:V) (v u:Value) (Q:VK),Inv X pins σ H s→RelV x v→RelV y u→r x y H Q→
  subscripted slice false v u=operate [v,u] (getItem v u)→wpAny (model X.prog X.w) X.A (subscriptTail value slice v u) (EP X pins σ Q) X.xe s
def MtR (X:Cx) (id:String) (r:V→List V→Hp→VK→Prop):Prop :=
 ∀ (pins:List (Addr × Obj)) (s:Shared) (σ:St) (H:Hp) (x:V) (xs:List V) (v:Value) (us:List Value) (Q:VK),Inv X pins σ H s→RelV x v→Vals xs us→r x xs H Q→
  wpAny (model X.prog X.w) X.A (call (.builtin id) (v :: us)) (EP X pins σ Q) X.xe s
section
variable {X:Cx} {a b:Expr} {ta tb:TE} {pos:Pos}
theorem pe_ix {r:R2} (hr:IxR X r) (ha:PE X a ta) (hb:PE X b tb) (hs:PlainIx b):PE X (.Subscript a b pos) (tOp r ta tb):=by
 intro pins s σ H Q I h
 exact Subscript_ (binT ha hb I h fun v u s2 x y H2 I2 rx ry q=>hr a b pins s2 σ H2 x y v u Q I2 rx ry q (hs _ _))
def rIxL (K:PySem.W.Frag):R2:=fun x y H Q=>∃ p xs i v,x=.ref p∧y=.int i∧SqL K H p xs∧atI xs i=some v∧Q v H
def rIxT (K:PySem.W.Frag):R2:=fun x y H Q=>∃ p xs i v,x=.ref p∧y=.int i∧SqT K H p xs∧atI xs i=some v∧Q v H
theorem J1s:IxR X (rIxL X.K):=by
 intro value slice pins s σ H x y v u Q I rx ry h hs
 obtain ⟨p,xs,i,z,rfl,rfl,hq,he,q⟩:=h
 cases rx
 obtain ⟨t,rfl⟩:=ry
 obtain ⟨its,r,pl,hz⟩:=I.list hq
 obtain ⟨j,h1,h2,h3,h4,h5⟩:=atI_get he
 obtain ⟨w,ew,rw'⟩:=r.get h2
 have hl:=r.length
 have hn:=J4f
 have fin:EP X pins σ Q w s:=⟨z,H,I,rw',q⟩
 by_cases h0:0≤i
 ·have hj:i.toNat=j:=by
   rw [seqIndex_of h0 h5] at h1
   exact Option.some.inj h1
  exact item_listR pl.isList h0 (by omega) (by rw [hj];simpa using ew) fin hs
 ·have hj:(i + (its.toArray.size:Int)).toNat=j:=by
   rw [seqIndex_neg (by omega) h4] at h1
   rw [List.size_toArray,← hl]
   exact Option.some.inj h1
  exact subscriptTail_builtinR (x:=w) pl.isList.typeIs slot_list_getitem.lookup
   (wpAny_getItem_list_neg (Q:=fun r s'=>r=w∧EP X pins σ Q r s') pl.isList (by omega) (by rw [List.size_toArray] <;> omega) (by omega) (by rw [hj];simpa using ew) ⟨rfl,fin⟩) hs
theorem ix_tup:IxR X (rIxT X.K):=by
 intro value slice pins s σ H x y v u Q I rx ry h hs
 obtain ⟨p,xs,i,z,rfl,rfl,hq,he,q⟩:=h
 cases rx
 obtain ⟨t,rfl⟩:=ry
 obtain ⟨its,r,pl,hz⟩:=I.tuple hq
 obtain ⟨j,h1,h2,h3,h4,h5⟩:=atI_get he
 obtain ⟨w,ew,rw'⟩:=r.get h2
 have hl:=r.length
 have hn:=J4f
 have fin:EP X pins σ Q w s:=⟨z,H,I,rw',q⟩
 exact subscriptTail_builtinR (x:=w) pl.typeIs slot_tuple_getitem.lookup
  (getItem_tuple (j:=j) (Q:=fun r s'=>r=w∧EP X pins σ Q r s') pl (by omega) (by omega) (by rw [List.size_toArray,← hl];exact h1) (by simpa using ew) ⟨rfl,fin⟩) hs
theorem mapSeq_set (its:List Value) (n j:Nat) (u:Value):Obj.mapSeq (·.setIfInBounds j u) { cls:=.type "list",data:=.seq its.toArray n }={ cls:=.type "list",data:=.seq (its.set j u).toArray n }:=by
 simp [Obj.mapSeq]
theorem Inv.lst {pins:List (Addr × Obj)} {σ:St} {H:Hp} {s:Shared} {p:Addr} {xs:List V} (I:Inv X pins σ H s) (h:H p=some (.lst xs)) :
  ∃ (its:List Value) (n:Nat),Vals xs its∧s.heap.get? p=some { cls:=.type "list",data:=.seq its.toArray n }∧xs.length≤sizeLine:=by
 obtain ⟨z,its,n,r,e⟩:=I.hok p _ h
 exact ⟨its,n,r,e,z⟩
theorem Inv.lstUpd {pins:List (Addr × Obj)} {σ:St} {H:Hp} {s:Shared} {p:Addr} {xs ys:List V} {its its':List Value} {n n':Nat} {f:Obj→Obj} (I:Inv X pins σ H s) (h:H p=some (.lst xs))
  (ho:s.heap.get? p=some { cls:=.type "list",data:=.seq its.toArray n }) (hf:f { cls:=.type "list",data:=.seq its.toArray n }={ cls:=.type "list",data:=.seq its'.toArray n' }) (r:Vals ys its') (hz:ys.length≤sizeLine) (t:Nat) :
  Inv X pins σ (upd H p (.lst ys)) { s with heap:=s.heap.update p f,toks:=t }:=by
 have e:(s.heap.update p f).get? p=some { cls:=.type "list",data:=.seq its'.toArray n' }:=by
  rw [Heap.get?_update_self f ho (by rw [hf] <;> rfl),hf]
 refine I.write (x:=p) (e:=p) (by rw [h];trivial) (.inl rfl) (fun b u hb q=>(Heap.get?_update_other _ _ (Ne.symm hb)).trans q) ⟨_,e⟩ ?_
 exact ⟨hz,its',n',r,e⟩
def rSetL:V→V→V→Hp→(Hp→Prop)→Prop:=fun o i v H Q=>∃ p xs k j,o=.ref p∧i=.int k∧H p=some (.lst xs)∧ixN xs.length k=some j∧Q (upd H p (.lst (xs.set j v)))
theorem set_list:PSet X rSetL:=by
 intro pins s σ H o i v ov iv u Q I ro ri rv h
 obtain ⟨p,xs,k,j,rfl,rfl,hp,hj,q⟩:=h
 cases ro
 obtain ⟨t,rfl⟩:=ri
 obtain ⟨its,n,r,ho,hz⟩:=I.lst hp
 obtain ⟨h1,h2,h3,h4⟩:=ixN_seq hj
 have hl:=r.length
 have hn:=J4f
 have I':Inv X pins σ (upd H p (.lst (xs.set j v))) { s with heap:=s.heap.update p (Obj.mapSeq (·.setIfInBounds j u)) } :=
  I.lstUpd hp ho (mapSeq_set its n j u) (r.set rv j) (by rw [List.length_set];exact hz) s.toks
 by_cases h0:0≤k
 ·have hk:k.toNat=j:=by
   rw [seqIndex_of h0 h4] at h1
   exact Option.some.inj h1
  exact PySem.W.ki_setAt ho h0 (by omega) (by rw [List.size_toArray,← hl];exact h4) (by rw [hk];exact ⟨_,I',q⟩)
 ·have hk:(k + (its.toArray.size:Int)).toNat=j:=by
   rw [seqIndex_neg (by omega) h3] at h1
   rw [List.size_toArray,← hl]
   exact Option.some.inj h1
  exact PySem.W.ki_setBack ho (by omega) (by rw [List.size_toArray,← hl];exact h3) (by omega) (by rw [hk];exact ⟨_,I',q⟩)
theorem J45 (lo hi:Option Int) (n:Nat):(sliceBounds lo hi none n).1=((HT.sIx n 0 lo:Nat):Int)∧(sliceBounds lo hi none n).2.1=((HT.sIx n n hi:Nat):Int)∧(sliceBounds lo hi none n).2.2=1:=by
 refine ⟨?_,?_,rfl⟩
 ·cases lo with
  | none=>simp [sliceBounds,HT.sIx]
  | some i =>
   simp only [sliceBounds,HT.sIx,Option.getD_none,show (1:Int) > 0 by decide,if_true]
   by_cases h:i < 0
   ·simp only [h,if_true] <;> omega
   ·simp only [h,if_false] <;> omega
 ·cases hi with
  | none=>simp [sliceBounds,HT.sIx]
  | some i =>
   simp only [sliceBounds,HT.sIx,Option.getD_none,show (1:Int) > 0 by decide,if_true]
   by_cases h:i < 0
   ·simp only [h,if_true] <;> omega
   ·simp only [h,if_false] <;> omega
theorem J3n (its:List Value) (lo hi:Option Int):slicePick its.toArray lo hi none=((its.drop (HT.sIx its.length 0 lo)).take (HT.sIx its.length its.length hi - HT.sIx its.length 0 lo)).toArray:=by
 obtain ⟨h1,h2,h3⟩:=J45 lo hi its.toArray.size
 unfold slicePick
 rw [h1,h2,h3]
 simp only [sliceRange_one,pick_run,List.size_toArray] <;> rfl
def rSlL (K:PySem.W.Frag):V→Option Int→Option Int→Hp→VK→Prop:=fun x lo hi H Q=>∃ a xs,x=.ref a∧SqL K H a xs∧∀ p,H p=none→Q (.ref p) (upd H p (.lst (cutV xs lo hi)))
theorem sl_list:SlR X (rSlL X.K):=by
 intro pins s σ H x v vl vu lo hi sl Q I rx hs pl pu h
 obtain ⟨a,xs,rfl,hx,q⟩:=h
 cases rx
 obtain ⟨its,r,ht,hz⟩:=I.list hx
 have hlen:=r.length
 refine ⟨"list",_,slot_list_getitem.lookup,ht.isList.typeIs,?_⟩
 refine wpAny_getItem_list_slice ht.isList hs pl pu .none (by simp) ?_ (by rw [List.size_toArray] <;> omega)
 rw [J3n,← hlen]
 refine ⟨.ref s.heap.objs.size,_,I.laid (t':=s.toks) (o:=.lst (cutV xs lo hi)) (fun b ob q=>Heap.get?_push_of_some _ q) (Nat.le_refl _) ?_,rfl,q _ (I.hok.fresh (Nat.le_refl _))⟩
 exact ⟨Nat.le_trans (J36 xs lo hi) hz,_,0,(r.drop (HT.sIx xs.length 0 lo)).take (HT.sIx xs.length xs.length hi - HT.sIx xs.length 0 lo),Heap.get?_push_size _ rfl⟩
def flatV:V→Bool
 | .non=>true
 | .bl _=>true
 | .int _=>true
 | .str _=>true
 | _=>false
def eqV:V→V→Bool
 | .non,.non=>true
 | .bl a,.bl b=>a == b
 | .bl a,.int b=>(if a then 1 else 0) == b
 | .int a,.bl b=>a == (if b then 1 else 0)
 | .int a,.int b=>a == b
 | .str a,.str b=>a == b
 | _,_=>false
theorem eqAt_V {A:Around} {s:Shared} {y x:V} {u v:Value} (ry:RelV y u) (rx:RelV x v) (fy:flatV y=true) (fx:flatV x=true):SeqAt.EqAt A s u v (eqV y x):=by
 cases y with
 | non =>
  cases ry
  cases x with
  | non=>cases rx;exact SeqAt.EqAt.same _
  | bl b=>cases rx;exact SeqAt.EqAt.none_bool b
  | int b=>obtain ⟨t,rfl⟩:=rx;exact SeqAt.EqAt.none_int b t
  | str b=>obtain ⟨t,rfl⟩:=rx;exact SeqAt.EqAt.none_str b t
  | _=>exact absurd (show false=true from fx) Bool.false_ne_true
 | bl a =>
  cases ry
  cases x with
  | non=>cases rx;exact SeqAt.EqAt.bool_none a
  | bl b=>cases rx;exact SeqAt.EqAt.bool_bool a b
  | int b=>obtain ⟨t,rfl⟩:=rx;exact SeqAt.EqAt.bool_int a b t
  | str b=>obtain ⟨t,rfl⟩:=rx;exact SeqAt.EqAt.bool_str a b t
  | _=>exact absurd (show false=true from fx) Bool.false_ne_true
 | int a =>
  obtain ⟨t',rfl⟩:=ry
  cases x with
  | non=>cases rx;exact SeqAt.EqAt.int_none a t'
  | bl b=>cases rx;exact SeqAt.EqAt.int_bool a t' b
  | int b=>obtain ⟨t,rfl⟩:=rx;exact SeqAt.EqAt.int_int a t' b t
  | str b=>obtain ⟨t,rfl⟩:=rx;exact SeqAt.EqAt.int_str a t' b t
  | _=>exact absurd (show false=true from fx) Bool.false_ne_true
 | str a =>
  obtain ⟨t',rfl⟩:=ry
  cases x with
  | non=>cases rx;exact SeqAt.EqAt.str_none a t'
  | bl b=>cases rx;exact SeqAt.EqAt.str_bool a t' b
  | int b=>obtain ⟨t,rfl⟩:=rx;exact SeqAt.EqAt.str_int a t' b t
  | str b=>obtain ⟨t,rfl⟩:=rx;exact SeqAt.EqAt.str_str a t' b t
  | _=>exact absurd (show false=true from fx) Bool.false_ne_true
 | _=>exact absurd (show false=true from fy) Bool.false_ne_true
theorem J7:CallR X (.builtin "len") (fun xs H Q=>∃ p ys,xs=[.ref p]∧(SqL X.K H p ys∨SqT X.K H p ys)∧Q (.int ys.length) H):=by
 intro pins s σ H xs us Q I r h
 obtain ⟨p,ys,rfl,hq,q⟩:=h
 obtain ⟨u,rfl,rx⟩:=vals1 r
 cases rx
 have hn:=J4f
 rcases hq with hq | hq
 ·obtain ⟨its,r',pl,hz⟩:=I.list hq
  have hlen:=r'.length
  exact Calls.call_len_list pl.isList (by simp only [List.size_toArray] <;> omega) ⟨.int ys.length,H,I.tok _,⟨s.toks + 1,by rw [List.size_toArray,hlen]⟩,q⟩
 ·obtain ⟨its,r',pl,hz⟩:=I.tuple hq
  have hlen:=r'.length
  exact len_tuple pl (by simp only [List.size_toArray] <;> omega) ⟨.int ys.length,H,I.tok _,⟨s.toks + 1,by rw [List.size_toArray,hlen]⟩,q⟩
theorem Jy:CallR X (.type "list") (fun xs H Q=>∃ p ys,xs=[.ref p]∧(SqL X.K H p ys∨SqT X.K H p ys)∧∀ l,H l=none→Q (.ref l) (upd H l (.lst ys))):=by
 intro pins s σ H xs us Q I r h
 obtain ⟨p,ys,rfl,hq,q⟩:=h
 obtain ⟨u,rfl,rx⟩:=vals1 r
 cases rx
 have fin:∀ (its:List Value),Vals ys its→ys.length≤sizeLine→∀ (h':Heap) (c':Nat),(∀ b o',s.heap.get? b=some o'→h'.get? b=some o')→
   h'.get? s.heap.objs.size=some { cls:=.type "list",dict:=none,data:=.seq its.toArray c',slots:=#[] }→EP X pins σ Q (.ref s.heap.objs.size) { s with heap:=h' }:=fun its r' hz h' c' kp e =>
  ⟨.ref s.heap.objs.size,_,I.laid (t':=s.toks) kp (Nat.le_refl _) (show ObjOk X.prog X.w _ h' _ (.lst ys) from ⟨hz,its,c',r',e⟩),rfl,q _ (I.hok.fresh (Nat.le_refl _))⟩
 rcases hq with hq | hq
 ·obtain ⟨its,r',pl,hz⟩:=I.list hq
  have hlen:=r'.length
  obtain ⟨o,ho,hc,n,hd⟩:=pl.isList
  exact call_list_seq p (.inl rfl) ho hc hd (fun h' c' kp e=>fin its r' hz h' c' kp e) (by simp only [List.size_toArray] <;> omega)
 ·obtain ⟨its,r',pl,hz⟩:=I.tuple hq
  have hlen:=r'.length
  obtain ⟨o,ho,hc,n,hd⟩:=pl
  exact call_list_seq p (.inr rfl) ho hc hd (fun h' c' kp e=>fin its r' hz h' c' kp e) (by simp only [List.size_toArray] <;> omega)
theorem J3z:CallR X (.type "tuple") (fun xs H Q=>∃ p ys,xs=[.ref p]∧((SqL X.K H p ys∧∀ l,H l=none→Q (.ref l) (upd H l (.tup ys)))∨(SqT X.K H p ys∧Q (.ref p) H))):=by
 intro pins s σ H xs us Q I r h
 obtain ⟨p,ys,rfl,h⟩:=h
 obtain ⟨u,rfl,rx⟩:=vals1 r
 cases rx
 rcases h with ⟨hq,q⟩ | ⟨hq,q⟩
 ·obtain ⟨its,r',pl,hz⟩:=I.list hq
  have hlen:=r'.length
  refine call_tuple_list pl.isList (fun h' kp=>?_) (by simp only [List.size_toArray] <;> omega)
  have I1:Inv X pins σ H { s with heap:=h' }:=I.kept (t':=s.toks) kp
  have I2:Inv X pins σ (upd H h'.objs.size (.tup ys)) { s with heap:=h'.push { cls:=.type "tuple",data:=.seq its.toArray } } :=
   I1.laid (t':=s.toks) (fun b o e=>Heap.get?_push_of_some _ e) (Nat.le_refl _) (show ObjOk X.prog X.w _ _ _ (.tup ys) from ⟨hz,its,r',TupX.new _ _⟩)
  exact ⟨.ref h'.objs.size,_,I2,rfl,q _ (I1.hok.fresh (Nat.le_refl _))⟩
 ·obtain ⟨its,r',pl,hz⟩:=I.tuple hq
  exact call_tuple_same pl ⟨.ref p,H,I,rfl,q⟩
def tyV (K:PySem.W.Frag) (T:String) (x:V) (H:Hp):Prop:=match x with
 | .str _=>T="str"
 | .int _=>T="int"
 | .ref p=>(T="list"∧∃ xs,SqL K H p xs)∨(T="tuple"∧∃ o,K.lookup p=some o∧o.cls=.type "tuple"∧o.dict=none)∨
   (T="dict"∧((∃ kvs,H p=some (.dK kvs))∨∃ kvs,H p=some (.dT kvs)))∨(T="set"∧∃ S n,H p=some (.set S n))
 | _=>False
theorem tyV_is {pins:List (Addr × Obj)} {σ:St} {H:Hp} {s:Shared} {T:String} {x:V} {v:Value} (I:Inv X pins σ H s) (r:RelV x v) (ty:tyV X.K T x H) :
  s.TypeIs v T∧∀ a,v=.ref a→∃ ob,s.heap.get? a=some ob∧ob.dict=none:=by
 cases x with
 | str z =>
  obtain ⟨t,rfl⟩:=r
  cases (show T="str" from ty)
  exact ⟨typeIs_str s z t,fun _ e=>nomatch e⟩
 | int i =>
  obtain ⟨t,rfl⟩:=r
  cases (show T="int" from ty)
  exact ⟨typeIs_int s i t,fun _ e=>nomatch e⟩
 | ref p =>
  cases r
  rcases ty with ⟨rfl,xs,hq⟩ | ⟨rfl,o,hk,hc,hd⟩ | ⟨rfl,hk⟩ | ⟨rfl,S,n,hk⟩
  ·obtain ⟨its,_,pl,_⟩:=I.list hq
   refine ⟨pl.isList.typeIs,fun a e=>?_⟩
   cases e
   obtain ⟨o,n,e,c,hd,_⟩:=pl
   exact ⟨o,e,hd⟩
  ·refine ⟨⟨o,I.kIn p o hk,hc⟩,fun a e=>?_⟩
   cases e
   exact ⟨o,I.kIn _ o hk,hd⟩
  ·have z:∃ o,s.heap.get? p=some o∧o.ExactDict:=by
    rcases hk with ⟨kvs,hk⟩ | ⟨kvs,hk⟩
    ·obtain ⟨_,_,_,_,o,_,_,e,ex,_⟩:=I.hok p _ hk
     exact ⟨o,e,ex⟩
    ·obtain ⟨_,_,_,_,o,_,_,e,ex,_⟩:=I.hok p _ hk
     exact ⟨o,e,ex⟩
   obtain ⟨o,e,ex⟩:=z
   refine ⟨⟨o,e,ex.1⟩,fun a e2=>?_⟩
   cases e2
   exact ⟨o,e,ex.2.1⟩
  ·obtain ⟨o,_,_,_,e,ex,_⟩:=I.hok p _ hk
   refine ⟨⟨o,e,ex.1⟩,fun a e2=>?_⟩
   cases e2
   exact ⟨o,e,ex.2.1⟩
 | _=>exact False.elim ty
def tBM (K:PySem.W.Frag) (T:String) (r:V→List V→Hp→VK→Prop) (to:TE) (t:TA):TE:=fun σ H Q=>to σ H fun x H1=>tyV K T x H1∧t σ H1 fun xs H2=>r x xs H2 Q
variable {o e:Expr} {es:List Expr} {to:TE} {t:TA} {name:Str} {apos cpos:Pos} {T id:String} {r:V→List V→Hp→VK→Prop}
theorem pe_bm (pa:PlainAttrs T) (slot:Slot T name id) (hty:typeOf (.builtin id)=pure (.type "method_descriptor")) (hm:MtR X id r) (ho:PE X o to) (ha:PA X (e :: es) t)
  (hbase:attributeBase o name X.env (eval o X.env)=eval o X.env:=by rfl)
  (hfew:((backTo cpos (starEach (e :: es) X.env)).all (fun x=>!x.1) && (backToKw cpos (keywordEach [] X.env)).all (fun x=>x.1.isSome)
   && decide ((e :: es).length + ([]:List Keyword).length + (if ([]:List Keyword).isEmpty then 0 else 1) < 30))=true:=by rfl)
  (hline:(apos.endLine == cpos.line)=true:=by rfl) (hs:starEach (e :: es) X.env=(false,eval e X.env) :: starEach es X.env:=by rfl) (hplain:(backTo cpos (starEach es X.env)).any (·.1)=false:=by rfl) :
  PE X (.Call (.Attribute o name apos) (e :: es) [] cpos) (tBM X.K T r to t):=by
 intro pins s σ H Q I h
 refine wpAny_Call_method_late hbase hfew hline rfl (thn (ho pins s σ H _ I h) fun v s1 ⟨x,H1,I1,r1,ty,q1⟩=>?_)
 obtain ⟨h1,h2⟩:=tyV_is I1 r1 ty
 refine ⟨T,id,pa,slot,hty,h1,h2,?_⟩
 have hA:=ha cpos pins s1 σ H1 _ I1 q1
 rw [hs] at hA ⊢
 refine Calls.callWith_builtin (by show (false || (backTo cpos (starEach es X.env)).any (·.1))=false;rw [hplain] <;> rfl) (Calls.evalArgs_plain ?_)
 exact thn hA fun us s2 ⟨vs,H2,I2,r2,q2⟩=>hm pins s2 σ H2 x vs v us Q I2 r1 r2 q2
end
end L2
namespace L2
open PySem PySem.Spec PyProof.Rows
def MtM (X:Cx) (id:String) (r:V→List V→Hp→VK→Prop):Prop :=
 ∀ (pins:List (Addr × Obj)) (s:Shared) (σ:St) (H:Hp) (x:V) (xs:List V) (v:Value) (us:List Value) (Q:VK),Inv X pins σ H s→RelV x v→Vals xs us→r x xs H Q→
  wpAny (model X.prog X.w) X.A (call (.builtin id) (v :: us)) (EP X pins σ Q) X.xe s
theorem Vals.one:∀ {x:V} {us:List Value},Vals [x] us→∃ u,us=[u]∧RelV x u
 | _,_,.cons r .nil=>⟨_,rfl,r⟩
theorem Vals.two:∀ {x y:V} {us:List Value},Vals [x,y] us→∃ u v,us=[u,v]∧RelV x u∧RelV y v
 | _,_,_,.cons r (.cons q .nil)=>⟨_,_,rfl,r,q⟩
theorem Vals.zero:∀ {us:List Value},Vals [] us→us=[]
 | _,.nil=>rfl
theorem Vals.dropLast {xs:List V} {us:List Value} (h:Vals xs us):Vals xs.dropLast us.dropLast:=by
 induction h with
 | nil=>exact .nil
 | cons r t ih =>
  cases t with
  | nil=>exact .nil
  | cons q t'=>exact .cons r ih
theorem Vals.reverse {xs:List V} {us:List Value} (h:Vals xs us):Vals xs.reverse us.reverse:=by
 induction h with
 | nil=>exact .nil
 | cons r t ih=>rw [List.reverse_cons,List.reverse_cons];exact Vals.append ih (.cons r .nil)
section
variable {X:Cx} {pins:List (Addr × Obj)} {σ:St} {H:Hp} {s:Shared} {l b:Addr} {xs ys zs:List V}
theorem Inv.lset {its its':List Value} {n:Nat} {f:Array Value→Array Value} {t':Nat} (I:Inv X pins σ H s) (hH:H l=some (.lst xs))
  (e:s.heap.get? l=some { cls:=.type "list",data:=.seq its.toArray n }) (hf:f its.toArray=its'.toArray) (hv:Vals ys its') (hz:ys.length≤sizeLine) :
  Inv X pins σ (upd H l (.lst ys)) { s with heap:=s.heap.update l (Obj.mapSeq f),toks:=t' }:=by
 have q:=PySem.IsL.update e f
 rw [hf] at q
 refine I.write (x:=l) (e:=l) (by rw [hH];exact trivial) (.inl rfl) (fun b' u hb hu=>(Heap.get?_update_other s.heap (Obj.mapSeq f) (Ne.symm hb)).trans hu) ⟨_,q⟩ ?_
 exact ⟨hz,its',_,hv,q⟩
theorem Inv.lnew {its:List Value} {t':Nat} (I:Inv X pins σ H s) (hv:Vals ys its) (hz:ys.length≤sizeLine) :
  Inv X pins σ (upd H s.heap.objs.size (.lst ys)) { s with heap:=s.heap.push { cls:=.type "list",data:=.seq its.toArray },toks:=t' } :=
 I.laid (fun _ _ q=>Heap.get?_push_of_some _ q) (Nat.le_refl _) ⟨hz,its,0,hv,Heap.get?_push_size _ rfl⟩
theorem Inv.fresh (I:Inv X pins σ H s):H s.heap.objs.size=none:=I.hok.fresh (Nat.le_refl _)
theorem Inv.lstM (I:Inv X pins σ H s) (hH:H l=some (.lst xs)):xs.length≤sizeLine∧∃ (its:List Value) (n:Nat),Vals xs its∧xs.length=its.length∧s.heap.get? l=some { cls:=.type "list",data:=.seq its.toArray n }:=by
 obtain ⟨z,its,n,r,e⟩:=I.hok l _ hH
 exact ⟨z,its,n,r,r.length,e⟩
end
section
variable {X:Cx}
def rAppend:V→List V→Hp→VK→Prop:=fun x vs H Q=>∃ l xs y,x=.ref l∧vs=[y]∧H l=some (.lst xs)∧xs.length < sizeLine∧Q .non (upd H l (.lst (xs ++ [y])))
theorem J28:MtM X "list.append" rAppend:=by
 intro pins s σ H x vs v us Q I rx rv h
 obtain ⟨l,xs,y,rfl,rfl,hH,hz,q⟩:=h
 cases rx
 obtain ⟨u,rfl,ru⟩:=rv.one
 obtain ⟨z,its,n,r,hl,e⟩:=I.lstM hH
 refine call_meets F.slot_list_append ⟨_,e,rfl⟩ F.entry_list_append (F.args_list_append_2 _ _) (PySem.list_append l its.toArray n u (by rw [List.size_toArray];omega)) ⟨e,?_⟩
 refine ⟨.non,_,I.lset (its':=its ++ [u]) hH e (by simp) (r.append (.cons ru .nil)) ?_,rfl,q⟩
 rw [List.length_append,List.length_singleton]
 omega
def rCat:R2:=fun x y H Q=>∃ l b xs zs,x=.ref l∧y=.ref b∧H l=some (.lst xs)∧H b=some (.lst zs)∧xs.length + zs.length≤sizeLine∧∀ p,H p=none→Q (.ref p) (upd H p (.lst (xs ++ zs)))
theorem op_cat:OpR X (binaryOp .Add) rCat:=by
 intro pins s σ H x y v u Q I rx ry h
 obtain ⟨l,b,xs,zs,rfl,rfl,hH,hB,hz,q⟩:=h
 cases rx
 cases ry
 obtain ⟨z,its,n,r,hl,e⟩:=I.lstM hH
 obtain ⟨z2,its2,n2,r2,hl2,e2⟩:=I.lstM hB
 refine PySem.P.add_list e e2 ?_ (by rw [List.size_toArray,List.size_toArray];omega)
 have ea:its.toArray ++ its2.toArray=(its ++ its2).toArray:=by simp
 rw [ea]
 exact ⟨.ref _,_,I.lnew (t':=s.toks) (r.append r2) (by rw [List.length_append];omega),rfl,q _ I.fresh⟩
end
section
variable {prog:Program} {w:World} {A:Around} {E:Value→Shared→Prop} {s:Shared}
set_option maxRecDepth 100000 in
end
end L2
namespace Att
open PySem PySem.W PySem.Calls PyProof.Rows
theorem J2w {P:Params} {h:Heap}:∀ (ns:List Int) (vs:List Value),WellAll P h vs (ns.map WData.int)→IntsAre vs ns:=by
 intro ns
 induction ns with
 | nil =>
  intro vs w
  rw [List.map_nil] at w
  cases w
  exact .nil
 | cons n ns ih =>
  intro vs w
  rw [List.map_cons] at w
  cases w with
  | cons a b =>
   cases a
   exact .cons _ _ (ih _ b)
theorem script_of {l:OpenLaw} {n:Nat} (hn:l.most=some n) {P:Params} {h:Heap} {args:List WData} {vals:List Value}
  (hpre:l.row.toRowW.claim.pre args=true) (hwl:WellAll P h vals args) :
  ∃ a vs ns,vals=[Value.ref a]∧args=[WData.list (ns.map WData.int)]∧h.get? a=some { cls:=.type "list",data:=.seq vs.toArray }∧IntsAre vs ns∧ns.length≤n:=by
 have hsh:WShape.hasAll [] args [.list .int]=true:=(pre_splitW hpre).1
 have hc:l.pre.holds [] { args:=args }=true:=(pre_splitW hpre).2
 obtain ⟨d,r,rfl,h1,h2⟩:=hasAllW_cons hsh
 obtain rfl:=hasAllW_nil h2
 obtain ⟨xs,rfl,h3⟩:=hasW_list h1
 obtain ⟨ns,rfl⟩:=items_int h3
 have hlen:ns.length≤n:=by
  unfold OpenLaw.pre at hc
  have h4:(WTm.not (.lt (.lit (.int (n:Int))) (.len (.arg 0)))).holds [] { args:=[.list (ns.map .int)] }=true:=by
   have h4:=(holds_andW hc).1
   rw [hn] at h4
   exact h4
  have h5:=condW_of h4 (w_not (w_lt w_lit (w_len_list (w_arg rfl))))
  rw [List.length_map] at h5
  refine Nat.le_of_not_lt fun q=>?_
  have q':(n:Int) < ((ns.length:Nat):Int):=by omega
  first
   | (rw [decide_eq_true q'] at h5;exact absurd h5 (by decide))
   | (simp at h5;omega)
 cases hwl with
 | cons w1 w2 =>
  cases w2
  cases w1 with
  | list ho hall=>exact ⟨_,_,ns,rfl,rfl,ho,J2w ns _ hall,hlen⟩
theorem post_true (l:OpenLaw) (args:List WData):l.row.toRowW.claim.post args (.bool true) args=true :=
 postW_of (r:=l.row.toRowW) (X:=(true == true))
  (show WShape.has [] (.bool true) .bool=true by first | rfl | decide | simp [WShape.has,WShape.arms,WShape.armsAll])
  (show (WTm.eq .res (.lit (.bool true))).value [] { args:=args,res:=some (.bool true),after:=args }=some (.bool (true == true)) from w_eq_bool (w_res rfl) w_lit) rfl
theorem attach_call {l:OpenLaw} {n:Nat} {q:Program} {loose:List Str} {XP:(Str→Option Value)→Heap→Prop} {YP:World→Heap→Prop} {d:DefRec}
  (hn:l.most=some n) (hdf:d.params.defaults=[])
  (call:∀ (w:World) (s₀ s₁:Shared) (mg mb:Str→Option Value) (fa:Addr) (o:Obj) (pm cd doc:Value) (a:Addr) (vs:List Value) (ns:List Int),
   Ground q loose [] XP w s₀ mg mb s₁.heap→YP w s₁.heap→
   s₁.heap.get? fa=some o→o.data=.func (docDef d.name d.params d.body d.scope pm cd doc)→s₁.heap.CodeRec cd d.name→mg d.name=some (.ref fa)→
   s₁.heap.get? a=some { cls:=.type "list",data:=.seq vs.toArray }→IntsAre vs ns→ns.length≤n→s₁.gens=#[]→
   codeAny (model l.prog w) callerA (.call (.ref fa) ⟨[.ref a],[]⟩) (fun r s'=>r=.ok (.ret (.bool true))∧OldK s₁.heap s'.heap∧s'.os=s₁.os∧AllBare s'.gens) s₁) :
  WalkO q loose XP YP l.row.toRowW d [] (fun f vs=>PySem.call f vs):=by
 intro w s₀ s₁ mg mb G Y fa o pm cd doc dV kV ho hd hcd hD hmg hg args vals as hpre hlay hrd hwl hlo
 obtain rfl:dV=.none:=Dflts.none hD hdf
 obtain rfl:kV=.none:=Dflts.noKw hD
 obtain ⟨a,vs,ns,rfl,rfl,hobj,hints,hlen⟩:=script_of hn hpre hwl
 refine enter_call (codeAny_mono (call w s₀ s₁ mg mb fa o pm cd doc a vs ns G Y ho (fd_plain hd) hcd hmg hobj hints hlen hg) fun r s' hq=>?_)
 obtain ⟨rfl,h2,h3,h4⟩:=hq
 exact ⟨.inl ⟨.bool true,.bool true,[],rfl,fun _=>rfl,.bool true,post_true l _,fun _=>⟨List.Pairwise.nil,fun _ hm=>(nomatch hm)⟩⟩,h2,h3,h4⟩
end Att
namespace L2
open PySem PySem.Spec PyProof.Rows
theorem J37:∀ {vs:List Value} {ns:List Int},IntsAre vs ns→Vals (ns.map V.int) vs
 | _,_,.nil=>.nil
 | _,_,.cons n t h=>.cons ⟨t,rfl⟩ (J37 h)
def Only (H:Hp):Prop:=∀ b,H b=none∨∃ o xs,H b=some (.frz o (.lst xs))
theorem law_call {P:Program} {w:World} {K:PySem.W.Frag} {mg mb:Str→Option Value} {CX:CXT} {k:Nat} {fa a:Addr} {fd:FuncData} {x:Str} {sp:Sp} {s₁:Shared} {vs:List Value} {ns:List Int}
  (KX:K.In s₁.heap) (hns:s₁.heap.Ns mainGlobals mg) (hb:s₁.heap.Ns builtinsNs mb) (hbb:∀ x:Str,x≠"__name__"→mb x=bootBuiltins x) (hlim:s₁.heap.NoLimit) (hg:s₁.gens=#[])
  (ha:s₁.heap.get? a=some { cls:=.type "list",data:=.seq vs.toArray }) (hi:IntsAre vs ns) (hl:ns.length≤sizeLine) (hr:Room k callerA)
  (F:∀ base:Heap,K.In base→base.Ns mainGlobals mg→FnOk P w K mg base CX k fa fd [x] sp) (hbind:∀ (s:Shared) (u:Value),BindsTo s fd ⟨[u],[]⟩ [(x,u)])
  (hsp:∀ H:Hp,Only H→SqL K H a (ns.map V.int)→sp [.ref a] H (fun v _=>v=.bl true) fun _ _ _=>False)
  (hCX:∀ H e s',CX [] H s₁ (fun _ _ _=>False) e s'→False) :
  codeAny (model P w) callerA (.call (.ref fa) ⟨[.ref a],[]⟩) (fun r s'=>r=.ok (.ret (.bool true))∧OldK s₁.heap s'.heap∧s'.os=s₁.os∧AllBare s'.gens) s₁:=by
 have rv:=J37 hi
 have lenV:=hi.length
 have core:∀ H:Hp,Only H→SqL K H a (ns.map V.int)→HOk P w H s₁.heap→(∀ b,H b≠none→b=a)→(H a≠none→K.lookup a=none)→
   codeAny (model P w) callerA (.call (.ref fa) ⟨[.ref a],[]⟩) (fun r s'=>r=.ok (.ret (.bool true))∧OldK s₁.heap s'.heap∧s'.os=s₁.os∧AllBare s'.gens) s₁:=by
  intro H hO hS hok hA hK
  have base_of:∀ {b:Addr} {o:Obj},s₁.heap.get? b=some o→H b=none→(hidT s₁.heap H).get? b=some o:=fun e n=>hidT_get e n
  have noA:∀ {b:Addr} {o:Obj} {es:Array DictEntry} {ep:Nat},s₁.heap.get? b=some o→o.data=.dict es ep→H b=none:=fun {b o es ep} e d=>by
   cases q:H b with
   | none=>rfl
   | some u =>
    have e':b=a:=hA b (by rw [q];simp)
    subst e'
    rw [ha] at e;cases e
    have d':Data.seq vs.toArray _=Data.dict es ep:=d
    cases d'
  have nsK:∀ {b:Addr} {m:Str→Option Value},s₁.heap.Ns b m→(hidT s₁.heap H).Ns b m:=fun {b m} ⟨o,es,ep,e,d,r⟩=>⟨o,es,ep,base_of e (noA e d),d,r⟩
  have hKb:K.In (hidT s₁.heap H):=fun b o e=>base_of (KX b o e) (by
   cases q:H b with
   | none=>rfl
   | some u =>
    have e':b=a:=hA b (by rw [q];simp)
    subst e'
    rw [hK (by rw [q];simp)] at e;cases e)
  have hM:Mod K mg (hidT s₁.heap H):=⟨hKb,nsK hns,⟨mb,nsK hb,hbb⟩,let ⟨mc,h1,h2⟩:=hlim;⟨mc,nsK h1,h2⟩⟩
  have e0:Env0 P w K mg (hidT s₁.heap H) callerA [] s₁ H:=⟨rfl,hM,fun b o e=>of_hidT e,Nat.le_of_eq (hidT_size _ _),trivial,fun b hb=>absurd (show b∈([]:List Addr) from hb) (by simp),hok,.of_eq hg⟩
  refine codeAny_mono ((F _ hKb (nsK hns)).run callerA [] s₁ H ⟨[.ref a],[]⟩ [.ref a] [.ref a] _ _ hr e0 (hbind s₁ (.ref a)) (.cons rfl .nil) (hsp H hO hS)) fun r s' h=>?_
  cases r with
  | error e=>exact (hCX H e s' h).elim
  | ok fl =>
   cases fl with
   | next=>exact False.elim h
   | brk=>exact False.elim h
   | cont=>exact False.elim h
   | ret u =>
    obtain ⟨v,H',os,bare,un,hok',r',q⟩:=h
    have q':v=.bl true:=q
    subst q'
    obtain rfl:u=Value.bool true:=r'
    refine ⟨rfl,OldK.of_keep fun b o e=>?_,os,bare⟩
    cases q:H b with
    | none=>exact un.keep b o e q (by intro z;exact absurd (show b∈([]:List Addr) from z) (by simp)) (by simp)
    | some u =>
     rcases hO b with z | ⟨ob,xs,z⟩
     ·rw [q] at z;cases z
     ·have z2:=un.frzs b ob _ z
      obtain ⟨e1,_⟩:=hok b _ z
      obtain ⟨e2,_⟩:=hok' b _ z2
      rw [e] at e1;cases e1
      exact e2
 cases hk:K.lookup a with
 | some o =>
  have e:=KX a o hk
  rw [ha] at e
  cases e
  refine core (fun _=>none) (fun _=>.inl rfl) (.inr ⟨_,vs.toArray,_,hk,rfl,rfl,rfl,by rw [List.size_toArray,lenV];exact hl,by simpa using rv⟩) (fun b u z=>by have z':(none:Option HO)=some u:=z;cases z') (fun b z=>absurd rfl z) fun z=>absurd rfl z
 | none =>
  refine core (fun b=>if b=a then some (.frz { cls:=.type "list",data:=.seq vs.toArray } (.lst (ns.map V.int))) else none) (fun b=>?_) (.inl (.inr ⟨{ cls:=.type "list",data:=.seq vs.toArray },if_pos rfl⟩)) (fun b u z=>?_) (fun b z=>?_) fun _=>hk
  ·by_cases hb:b=a
   ·exact .inr ⟨_,_,if_pos hb⟩
   ·exact .inl (if_neg hb)
  ·by_cases hb:b=a
   ·have z':=(if_pos hb).symm.trans z
    cases z'
    subst hb
    exact ⟨ha,by rw [List.length_map];exact hl,vs,_,rv,ha⟩
   ·have z':=(if_neg hb).symm.trans z
    cases z'
  ·by_cases hb:b=a
   ·exact hb
   ·exact absurd (if_neg hb) z
end L2
namespace L2
open PySem PySem.Spec PyProof.Rows
theorem walk_of {l:PySem.W.OpenLaw} {n k:Nat} {q:Program} {loose:List Str} {XP:(Str→Option Value)→Heap→Prop} {YP:World→Heap→Prop} {d:DefRec} {K:Params→PySem.W.Frag} {CX:World→CXT} {sp:World→Sp} {x:Str}
  (hn:l.most=some n) (hn2:n≤sizeLine) (hdf:d.params.defaults=[]) (hr:Room k callerA)
  (hY:∀ (w:World) (h:Heap),YP w h→(K w.params).In h)
  (F:∀ (w:World) (mg:Str→Option Value) (fa:Addr) (h:Heap),(K w.params).In h→h.Ns mainGlobals mg→mg d.name=some (.ref fa)→
   ∃ fd:FuncData,(∀ (s:Shared) (u:Value),BindsTo s fd ⟨[u],[]⟩ [(x,u)])∧
    ∀ base:Heap,(K w.params).In base→base.Ns mainGlobals mg→FnOk l.prog w (K w.params) mg base (CX w) k fa fd [x] (sp w))
  (hsp:∀ (w:World) (H:Hp) (a:Addr) (ns:List Int),ns.length≤n→Only H→SqL (K w.params) H a (ns.map V.int)→sp w [.ref a] H (fun v _=>v=.bl true) fun _ _ _=>False)
  (hCX:∀ (w:World) (H:Hp) (s:Shared) (e:Value) (s':Shared),CX w [] H s (fun _ _ _=>False) e s'→False) :
  PySem.W.WalkO q loose XP YP l.row.toRowW d [] (fun f vs=>PySem.call f vs):=by
 refine Att.attach_call hn hdf fun w s₀ s₁ mg mb fa o pm cd doc a vs ns G Y ho hd hcd hmg hobj hints hlen hg=>?_
 have KX:=hY w _ Y
 obtain ⟨fd,hb,hF⟩:=F w mg fa _ KX G.T.g hmg
 exact law_call KX G.T.g G.T.b G.T.builtins G.T.nolimit hg hobj hints (Nat.le_trans hlen hn2) hr hF hb (fun H hO hS=>hsp w H a ns hlen hO hS) fun H e s'=>hCX w H s₁ e s'
end L2
namespace L2
open PySem PySem.Spec PyProof.Rows
def J2r (s:Stmt):Arguments:=match s with
 | .FunctionDef _ a _ _ _ _ _ _ _ _=>a
 | _=>{ posonlyargs:=[],args:=[],vararg:=none,kwonlyargs:=[],kw_defaults:=[],kwarg:=none,defaults:=[] }
def J1t (s:Stmt):List Stmt:=match s with
 | .FunctionDef _ _ b _ _ _ _ _ _ _=>b
 | _=>[]
def Ja (s:Stmt):Scope:=match s with
 | .FunctionDef _ _ _ _ _ _ sc _ _ _=>sc
 | _=>{ kind:=.function,names:=[],isGenerator:=false,isCoroutine:=false }
abbrev CX0:CXT:=fun _ _ _ _ _ _=>False
abbrev E0:XK:=fun _ _ _=>False
theorem pass0 {X:Cx}:Passes CX0 X E0:=fun _ _ _ _ _ _ _ h=>h.elim
structure Fun (K:PySem.W.Frag) (x qual:Str) (st:Stmt) (f:Addr) (fd:FuncData):Prop where
 ex:∃ (oc:Value) (od:Option Addr) (kV doc pm:Value) (an:Option Addr) (cdv ct:Value) (osl:Array (Option Value)),
  fd=PySem.W.fnOf x qual (J2r st) (J1t st) (Ja st) .none kV doc pm an cdv ct∧K.lookup f=some ⟨oc,od,.func fd,osl⟩∧PySem.W.codeIn K cdv qual=true
 kp:PySem.W.keepIn K (.ref f)=true
section
variable {P:Program} {w:World} {K:PySem.W.Frag} {mg:Str→Option Value} {base:Heap}
theorem Fun.ok {x qual:Str} {st:Stmt} {f:Addr} {fd:FuncData} {N ps:List Str} {k:Nat} {sp:Sp} (F:Fun K x qual st f fd) (S:FnScope N ps (Ja st)) (len:∀ vs H Q E,sp vs H Q E→vs.length=ps.length)
  (hbody:∀ (cdv:Value) (A:Around) (outer:List Env) (s:Shared) (H:Hp) (vs:List V) (Q:VK) (E:XK),Room k (A.deeper (envOfC qual (Ja st) s.heap.objs.size f cdv))→sp vs H Q E→
   ∃ t,PSs (cxOf CX0 P w K mg base N qual (Ja st) f cdv A outer s H E).nox (J1t st) t∧t { nx:=fun _ H'=>Q .non H',rt:=Q } (start N vs) H):FnOk P w K mg base CX0 (k + 1) f fd ps sp:=by
 obtain ⟨oc,od,kV,doc,pm,an,cdv,ct,osl,rfl,lk,hcd⟩:=F.ex
 refine fn_of lk hcd S len fun A outer s H vs Q E hr hsp=>?_
 obtain ⟨t,h,q⟩:=hbody cdv A outer s H vs Q E hr hsp
 exact ⟨t,h.nox,q⟩
theorem Fun.binds {x qual:Str} {st:Stmt} {f:Addr} {fd:FuncData} {ps:List Str} (F:Fun K x qual st f fd)
  (h:∀ (kV doc pm:Value) (an:Option Addr) (cdv ct:Value) (us:List Value),us.length=ps.length→bindArgs (PySem.W.fnOf x qual (J2r st) (J1t st) (Ja st) .none kV doc pm an cdv ct) ⟨us,[]⟩=pure (ps.zip us)):Binds K fd ps []:=by
 obtain ⟨oc,od,kV,doc,pm,an,cdv,ct,osl,rfl,lk,hcd⟩:=F.ex
 exact .all (h kV doc pm an cdv ct)
theorem fun_mk {x qual:Str} {st:Stmt} {f:Addr} {oc:Value} {od an:Option Addr} {osl:Array (Option Value)} {kV doc pm cdv ct:Value} (l:K.lookup f=some ⟨oc,od,.func (PySem.W.fnOf x qual (J2r st) (J1t st) (Ja st) .none kV doc pm an cdv ct),osl⟩)
  (c:PySem.W.codeIn K cdv qual=true) (k:PySem.W.keepIn K (.ref f)=true):Fun K x qual st f (PySem.W.fnOf x qual (J2r st) (J1t st) (Ja st) .none kV doc pm an cdv ct):=⟨⟨oc,od,kV,doc,pm,an,cdv,ct,osl,rfl,l,c⟩,k⟩
end
theorem Jz {n:Nat} (h:n≤1000):n < sizeLine:=Nat.lt_of_le_of_lt h (by decide)
section
variable {X:Cx}
theorem pv (i:Nat) {x:Str} {pos:Pos} (hN:X.N[i]?=some x:=by rfl) (hv:Vis X.env.scope x:=by first | exact Or.inl rfl | exact Or.inr (Or.inl rfl) | exact Or.inr (Or.inr rfl)) (hd:(x == ("__debug__":Str))=false:=by decide)
  (hcd:(x == ("__classdict__":Str))=false:=by decide):PE X (.Name x pos) (tVar i):=pe_var hN hv hd hcd
end
theorem iteF {A B:Prop} (h:B):if false=true then A else B:=by
 rw [if_neg Bool.false_ne_true]
 exact h
theorem iteT {A B:Prop} (h:A):if true=true then A else B:=by
 rw [if_pos rfl]
 exact h
theorem iteNS {c A B:Prop} [Decidable c] (hc:c) (h:B):if (!decide c)=true then A else B:=by
 rw [decide_eq_true hc]
 exact iteF h
def Same (H H':Hp):Prop:=∀ b o,H b=some o→H' b=some o
theorem Same.refl (H:Hp):Same H H:=fun _ _ h=>h
theorem Same.trans {H H1 H2:Hp} (a:Same H H1) (b:Same H1 H2):Same H H2:=fun c o h=>b c o (a c o h)
theorem Same.free {H H':Hp} (e:Same H H') {l:Addr} (h:H' l=Option.none):H l=Option.none:=by
 cases q:H l with
 | none=>rfl
 | some o =>
  rw [e l o q] at h
  cases h
theorem Same.seq {K:PySem.W.Frag} {H H':Hp} {a:Addr} {xs:List V} (e:Same H H') (h:SqL K H a xs):SqL K H' a xs:=by
 rcases h with (h | ⟨o,h⟩) | h
 ·exact .inl (.inl (e _ _ h))
 ·exact .inl (.inr ⟨o,e _ _ h⟩)
 ·exact .inr h
end L2
namespace L2
open PySem PySem.Spec PyProof.Rows
abbrev Cx.block (X:Cx) (N:List Str) (scope:Scope) (cl:List (Str × Addr)) (C:Addr) (fp:List Addr) (s:Shared) (H:Hp):Cx :=
 { X with N:=N,s₀:=s,H₀:=H,env:=compEnvC scope cl C X.env,outer:=X.stack,stack:=X.stack,ex:=fp,fn:=fun _=>false,pn:=[],xe:=fun _ _=>False }
theorem J30 {env:Env}:∀ {names:List (Str × NameKind)} {x:Str} {k:NameKind},(names.map fun (n,k)=>if (k == NameKind.free && env.scope.kind == .function && env.kindOf n == some .cell) then (n,NameKind.cell) else (n,k)).lookup x=some k→
  k=.cell∨k=.free→(∀ p∈names,p.2≠.cell)→∃ p∈names,p.1=x∧p.2=.free
 | [],_,_,h,_,_=>by simp at h
 | (n,q) :: r,x,k,h,hk,hc=>by
  have ih:=@J30 env r x k
  have hq:q≠.cell:=hc (n,q) List.mem_cons_self
  rw [List.map_cons] at h
  by_cases hx:x=n
  ·subst hx
   by_cases e:(q == NameKind.free && env.scope.kind == .function && env.kindOf x == some .cell)=true
   ·simp only [Bool.and_eq_true] at e
    exact ⟨(x,q),List.mem_cons_self,rfl,by simpa using e.1.1⟩
   ·have e2:List.lookup x ((x,q) :: List.map (fun (n,k)=>if (k == NameKind.free && env.scope.kind == .function && env.kindOf n == some .cell) then (n,NameKind.cell) else (n,k)) r)=some k:=by
     simpa only [e,if_false,Bool.false_eq_true] using h
    rw [List.lookup_cons_self] at e2
    cases e2
    rcases hk with hk | hk
    ·exact absurd hk hq
    ·exact ⟨(x,q),List.mem_cons_self,rfl,hk⟩
  ·have hb:(x == n)=false:=by simpa using hx
   have h':(List.map (fun (n,k)=>if (k == NameKind.free && env.scope.kind == .function && env.kindOf n == some .cell) then (n,NameKind.cell) else (n,k)) r).lookup x=some k:=by
    by_cases e:(q == NameKind.free && env.scope.kind == .function && env.kindOf n == some .cell)=true
    ·simp only [e,if_true,List.lookup_cons,hb] at h;exact h
    ·simp only [e,if_false,Bool.false_eq_true,List.lookup_cons,hb] at h;exact h
   obtain ⟨p,hp,e1,e2⟩:=ih h' hk fun p hp=>hc p (List.mem_cons_of_mem _ hp)
   exact ⟨p,List.mem_cons_of_mem _ hp,e1,e2⟩
def capv (σ:St) (js:List Nat):St:=js.map fun j=>(σ[j]?).join
theorem capv_get {σ:St} {js:List Nat} {k:Nat} {v:V} (h:(capv σ js)[k]?=some (some v)):∃ j,js[k]?=some j∧σ[j]?=some (some v):=by
 unfold capv at h
 rw [List.getElem?_map] at h
 cases e:js[k]? with
 | none=>rw [e] at h;cases h
 | some j =>
  rw [e] at h
  refine ⟨j,rfl,?_⟩
  cases e2:σ[j]? with
  | none=>rw [Option.map_some,e2] at h;cases h
  | some o=>rw [Option.map_some,e2] at h;exact congrArg some (Option.some.inj h)
section
variable {X:Cx} {elt iter:Expr} {x y:Str} {px py:Pos} {scope:Scope} {cl:List (Str × Addr)} {pos spos:Pos} {wi:TI} {te:TE} {caps:List Str} {js:List Nat} {i:Nat}
theorem block_ok {pins:List (Addr × Obj)} {σ:St} {H:Hp} {s:Shared} {C:Addr} {fp:List Addr} (I:Inv X pins σ H s) (hC:s.heap.objs.size≤C) (f2:∀ b∈fp,FpOk X pins H b) (fl:∀ b∈fp,b < s.heap.objs.size)
  (hkind:scope.kind=.function) (hcell:∀ p∈scope.names,p.2≠.cell) (hsub:∀ p∈cl,X.env.cells.lookup p.1=some p.2) (hhas:∀ p∈scope.names,p.2=.free→∃ c,cl.lookup p.1=some c) :
  (X.block (x :: caps) scope cl C fp s H).Ok where
 mod:=I.ok.mod
 kind:=hkind
 glob:=I.ok.glob
 blt:=I.ok.blt
 above:=hC
 inj:=fun a b c h1 h2=>I.ok.inj a b c (hsub _ (PySem.mem_of_lookup h1)) (hsub _ (PySem.mem_of_lookup h2))
 has:=fun a h=>by
  have h':(∃ k,(relabel scope X.env).names.lookup a=some k∧(k=.cell∨k=.free)):=by
   rcases h with h | h
   ·exact ⟨_,h,.inl rfl⟩
   ·exact ⟨_,h,.inr rfl⟩
  obtain ⟨k,h1,hk⟩:=h'
  obtain ⟨p,hp,e1,e2⟩:=J30 h1 hk hcell
  rw [← e1]
  exact hhas p hp e2
 cab:=fun _ _ h=>nomatch h
 hd:=I.ok.hd
 frames:=I.ok.frames
 stk:=.inl rfl
 exf:=fun b hb=>⟨Nat.ne_of_lt (Nat.lt_of_lt_of_le (fl b hb) hC),fun a c e=>(f2 b hb).2.2.2.2.1 a c (hsub _ (PySem.mem_of_lookup e))⟩
 bs:=I.bs
 bsz:=Nat.le_trans I.ok.bsz I.sz
 noex:=fun b o e hb=>by
  rcases (f2 b hb).2.2.2.1 with z | z
  ·exact I.ok.noex b o e z
  ·exact absurd (Nat.lt_of_lt_of_le (Heap.lt_size e) (Nat.le_trans I.ok.bsz z)) (Nat.lt_irrefl _)
 exfs:=fun b hb z=>by
  rcases List.mem_cons.mp (I.stkSub b z) with e | e
  ·exact (f2 b hb).2.1 e
  ·exact (f2 b hb).2.2.1 e
 funs:=I.stack
 frf:=I.stkFree
end
section
variable {X:Cx}
def rInsert:V→List V→Hp→VK→Prop:=fun x vs H Q=>∃ (l:Addr) (xs:List V) (k:Nat) (y:V),x=.ref l∧vs=[.int k,y]∧H l=some (.lst xs)∧k≤xs.length∧xs.length < sizeLine∧Q .non (upd H l (.lst (xs.take k ++ y :: xs.drop k)))
theorem mt_insert:MtM X "list.insert" rInsert:=by
 intro pins s σ H x vs v us Q I rx rv h
 obtain ⟨l,xs,k,y,rfl,rfl,hH,hk,hz,q⟩:=h
 cases rx
 obtain ⟨u1,u2,rfl,⟨t,rfl⟩,r2⟩:=rv.two
 obtain ⟨z,its,n,r,hl,e⟩:=I.lstM hH
 have hn:=J4f
 obtain ⟨x,hx⟩:∃ x:Int,x=(k:Int):=⟨_,rfl⟩
 rw [← hx]
 have hfit:¬ (!Builtin.List.listFitsIndex x)=true:=by
  rw [fitsIndex_both (by omega) (by omega)]
  exact Bool.false_ne_true
 have hsz:its.toArray.size≤sizeLine:=by rw [List.size_toArray,← hl];exact z
 refine call_meets F.slot_list_insert ⟨_,e,rfl⟩ F.entry_list_insert (F.args_list_insert_3 _ _ _) (PySem.AutoSeq1.list_insert_list_int_val_1 l its.toArray n x t u2 hfit hsz) ⟨e,?_⟩
 refine ⟨.non,_,I.lset (its':=its.take k ++ u2 :: its.drop k) hH e ?_ ((r.take k).append (.cons r2 (r.drop k))) ?_,rfl,q⟩
 ·have e1:(if x < 0 then (x + (its.toArray.size:Int)).toNat else min x.toNat its.toArray.size)=k:=by
   rw [if_neg (by omega),List.size_toArray]
   omega
  dsimp only
  rw [e1]
  apply Array.ext'
  simp
  rw [List.take_of_length_le (by rw [List.length_drop];exact Nat.le_refl _)]
 ·rw [List.length_append,List.length_cons,List.length_take,List.length_drop]
  omega
end
section
variable {X:Cx}
abbrev SqI (K:PySem.W.Frag) (H:Hp) (p:Addr) (xs:List V):Prop:=SqL K H p xs∨SqT K H p xs
theorem ints_sum {its:List Value} {ns:List Int} (hi:IntsAre its ns):∃ xs:Array (Int × Tok),its.toArray=intItems xs∧preSum (numAt xs) xs.size=ns.sum∧ns=xs.toList.map (·.1):=by
 obtain ⟨xs,hx⟩:=hi.allInts.items
 have e1:ns=xs.toList.map (·.1):=by
  rw [← nums_intItems,← hx]
  exact (show numsOf its.toArray.toList=ns from hi.numsOf).symm
 refine ⟨xs,hx,?_,e1⟩
 rw [preSum_eq,List.take_of_length_le (by simp),e1]
end
end L2
namespace L2
open PySem PySem.Spec PyProof.Rows
section
variable {prog:Program} {w:World} {A:Around} {E:Value→Shared→Prop} {s:Shared}
theorem J3y {l:Addr} {vs:List Value} {Q:List Value→Shared→Prop} (hl:s.heap.IsTuple l vs.toArray)
  (h:Q vs { s with heap:=(s.heap.push (seqObj "list" #[] 0)).update s.heap.objs.size (Obj.mapSeq (· ++ vs.toArray)) }) (hsz:vs.length≤sizeLine) :
  wpAny (model prog w) A (collect (.ref l)) Q E s:=by
 obtain ⟨o,ho,hc,n,hd⟩:=id hl
 unfold collect
 refine wpAny_bind (wpAny_runValue (codeAny_builtin entry_proto_collect' ?_))
 show wpAny _ _ (do again (.builtin "list.__iadd__" ⟨[← newList [],.ref l],[]⟩)) _ _ s
 refine wpAny_bind (wpAny_newList (wpAny_pure ⟨Code.quiet_builtin _ (by decide +kernel),codeAny_builtin entry_list_iadd' ?_⟩))
 show wpAny _ _ (Builtin.List.listExtendWith (.ref s.heap.objs.size) (.ref l) (.ref s.heap.objs.size)) _ _ { s with heap:=s.heap.push (seqObj "list" #[] 0) }
 unfold Builtin.List.listExtendWith
 have ho':(s.heap.push (seqObj "list" #[] 0)).get? l=some o:=Heap.get?_push_of_some _ ho
 refine wpAny_bind (wpAny_typeOf (T:="tuple") ⟨o,ho',hc⟩ ?_)
 have ht:(Value.type "tuple" == Value.type "tuple")=true:=by rfl
 rw [if_pos (by rw [ht];simp)]
 refine wpAny_bind (listItems_at ho' hd ?_)
 refine wpAny_bind (listItems_at (xs:=#[]) (n:=0) (Heap.get?_push_size _ rfl) rfl ?_)
 rw [if_neg (by simp)]
 refine wpAny_bind (listUpdate_at (xs:=#[]) (n:=0) (Heap.get?_push_size _ rfl) rfl ?_ (Nat.zero_le _) (by show (#[] ++ vs.toArray).size≤sizeLine + 1;simp only [Array.size_append,List.size_toArray,List.length_nil];omega))
 refine wpAny_pure ?_
 show wpAny (model prog w) A (do
   let o ← load s.heap.objs.size
   match o.data with
   | .seq xs _=>pure xs.toList
   | _=>unsupported "internal:collect") Q E { s with heap:=(s.heap.push (seqObj "list" #[] 0)).update s.heap.objs.size (Obj.mapSeq (· ++ vs.toArray)) }
 refine wpAny_bind (wpAny_load (get?_update_seq (Heap.get?_push_size _ rfl) _) ?_)
 show wpAny _ _ (pure ((#[]:Array Value) ++ vs.toArray).toList) Q E _
 rw [show ((#[]:Array Value) ++ vs.toArray).toList=vs by simp]
 exact wpAny_pure h
theorem J44 {l:Addr} {vs:List Value} {ns:List Int} {Q:Value→Shared→Prop} (hl:s.heap.IsTuple l vs.toArray) (hI:IntsAre vs ns) (h64:vs.length < 64)
  (h:∀ (out:Array Value) (ns':List Int),IntsAre out.toList ns'→ns'.Perm ns→ns'.Pairwise (·≤·)→Q (.ref (s.heap.objs.size + 1)) { s with heap:=sortedAll s.heap vs out }) :
  wpAny (model prog w) A (call (.builtin "sorted") [.ref l]) Q E s:=by
 refine Calls.call_function_entry kind_sorted plain_sorted entry_sorted (args_sorted1 _) ?_
 unfold Builtin.«sorted»
 refine wpAny_bind (m:=checkCount "sorted" 1 1 _) (wpAny_pure ?_)
 refine wpAny_bind (J3y hl ?_ (Nat.le_of_lt (Nat.lt_of_lt_of_le h64 (by rw [sizeLine_eq];decide))))
 refine wpAny_bind (wpAny_newList ?_)
 have hsz:((s.heap.push (seqObj "list" #[] 0)).update s.heap.objs.size (Obj.mapSeq (· ++ vs.toArray))).objs.size=s.heap.objs.size + 1:=by
  rw [Heap.size_update,size_push']
 have hoL:(((s.heap.push (seqObj "list" #[] 0)).update s.heap.objs.size (Obj.mapSeq (· ++ vs.toArray))).push (seqObj "list" vs.toArray 0)).get? (s.heap.objs.size + 1)=some (seqObj "list" vs.toArray 0):=by
  rw [← hsz];exact Heap.get?_push_size _ rfl
 show wpAny _ _ _ _ _ { s with heap:=((s.heap.push (seqObj "list" #[] 0)).update s.heap.objs.size (Obj.mapSeq (· ++ vs.toArray))).push (seqObj "list" vs.toArray 0) }
 rw [hsz]
 refine wpAny_bind (wpAny_holding (wpAny_call_entry slot_list_sort ⟨_,hoL,rfl⟩ entry_list_sort (list_sort_tree hoL hI h64 fun out ns' a1 a2 a3=>⟨_,rfl,?_⟩) (args_list_sort _)))
 exact wpAny_pure ⟨_,rfl,h out ns' a1 a2 a3⟩
end
section
variable {X:Cx}
theorem call_sorted:CallR X (.builtin "sorted") (fun xs H Q=>∃ (p:Addr) (ns:List Int),xs=[.ref p]∧SqI X.K H p (ns.map V.int)∧ns.length < 64∧∀ l (ns':List Int),H l=none→ns'.Perm ns→ns'.Pairwise (·≤·)→Q (.ref l) (upd H l (.lst (ns'.map V.int)))):=by
 intro pins s σ H xs us Q I r h
 obtain ⟨p,ns,rfl,hq,h64,q⟩:=h
 obtain ⟨u,rfl,rx⟩:=vals1 r
 cases rx
 have fin:∀ (its:List Value) (out:Array Value) (ns':List Int),IntsAre out.toList ns'→ns'.Perm ns→ns'.Pairwise (·≤·)→EP X pins σ Q (.ref (s.heap.objs.size + 1)) { s with heap:=sortedAll s.heap its out }:=fun its out ns' a1 a2 a3=>by
  obtain ⟨e,he⟩:=sortedAll_at s.heap its out
  have hz:(ns'.map V.int).length≤sizeLine:=by
   rw [List.length_map,a2.length_eq]
   exact Nat.le_of_lt (Jz (by omega))
  refine ⟨.ref _,_,I.laid (t':=s.toks) (a:=s.heap.objs.size + 1) (o:=.lst (ns'.map V.int)) (fun b o e=>sortedAll_old e) (Nat.le_succ _) ⟨hz,out.toList,e,J37 a1,he⟩,rfl,q _ ns' (I.hok.fresh (Nat.le_succ _)) a2 a3⟩
 rcases hq with hq | hq
 ·obtain ⟨its,r',pl,hz⟩:=I.list hq
  have hl:=r'.length
  rw [List.length_map] at hl
  exact sorted_ints pl.isList (J15 r') (by omega) (fin its)
 ·obtain ⟨its,r',pl,hz⟩:=I.tuple hq
  have hl:=r'.length
  rw [List.length_map] at hl
  exact J44 (show s.heap.IsTuple p its.toArray from pl) (J15 r') (by omega) (fin its)
theorem call_rng:CallR X (.type "range") (fun xs H Q=>∃ j:Int,xs=[.int j]∧∀ r,H r=none→Q (.ref r) (upd H r (.rng 0 j))):=by
 intro pins s σ H xs us Q I r h
 obtain ⟨j,rfl,q⟩:=h
 obtain ⟨u,rfl,t,rfl⟩:=vals1 r
 refine call_range_1 ?_
 exact ⟨.ref s.heap.objs.size,_,I.laid (o:=.rng 0 j) (fun b o e=>Heap.get?_push_of_some _ e) (Nat.le_refl _) ⟨_,_,_,Heap.get?_push_size _ rfl⟩,rfl,q _ (I.hok.fresh (Nat.le_refl _))⟩
theorem J20 {f:Nat→Int}:∀ {n:Nat} {us:List Value},us.length=n→(∀ (i:Nat) (v:Value),us[i]?=some v→∃ t,v=Value.int (f i) t)→Vals ((List.range n).map fun i=>V.int (f i)) us:=by
 intro n us hl h
 induction n generalizing f us with
 | zero=>cases us with
  | nil=>exact .nil
  | cons a r=>simp at hl
 | succ n ih=>cases us with
  | nil=>simp at hl
  | cons a r =>
   obtain ⟨t,e⟩:=h 0 a rfl
   subst e
   rw [List.range_succ_eq_map,List.map_cons,List.map_map]
   exact .cons ⟨t,rfl⟩ (ih (f:=fun i=>f (i + 1)) (by simpa using hl) fun i v e=>h (i + 1) v (by simpa using e))
theorem J40 (hc:X.calm=true):CallR X (.type "list") (fun xs H Q=>∃ (r:Addr) (n:Nat),xs=[.ref r]∧H r=some (.rng 0 (n:Int))∧n≤1000∧∀ l,H l=none→Q (.ref l) (upd H l (.lst (((List.range n).map fun (i:Nat)=>(i:Int)).map V.int)))):=by
 intro pins s σ H xs us Q I r h
 obtain ⟨p,n,rfl,hq,hn,q⟩:=h
 simp only [List.map_map,Function.comp_def] at q
 obtain ⟨u,rfl,rx⟩:=vals1 r
 cases rx
 obtain ⟨t,u,v,e⟩:=I.hok p _ hq
 refine call_list_range (I.ok.hd hc) (show IsRange s.heap p 0 (n:Int) 1 t u v from e) (small_one (by omega) (by omega) (by omega) (by omega)) (by rw [rangeSize_one];split <;> omega) (n:=n) (by omega) fun h' tk acc' c' hk hS' hacc=>?_
 have hv:Vals ((List.range n).map fun (i:Nat)=>V.int (i:Int)) acc'.toList:=J20 (by rw [Array.length_toList];exact hacc.1) fun i v e=>by
  obtain ⟨t,rfl⟩:=hacc.2 i v (by simpa using e)
  exact ⟨t,by simp⟩
 refine ⟨.ref s.heap.objs.size,_,I.laid (o:=.lst ((List.range n).map fun (i:Nat)=>V.int (i:Int))) hk (Nat.le_refl _) ⟨?_,acc'.toList,c',hv,by simpa using hS'⟩,rfl,q _ (I.hok.fresh (Nat.le_refl _))⟩
 rw [List.length_map,List.length_range]
 exact Nat.le_of_lt (Jz hn)
def Kin (xs ys:List V):Prop:=∀ a∈xs,∀ b∈ys,flatV a=true∧flatV b=true∧eqV a b=decide (a=b)
theorem Kin.ints (ns ms:List Int):Kin (ns.map V.int) (ms.map V.int):=fun a ha b hb=>by
 obtain ⟨i,_,rfl⟩:=List.mem_map.mp ha
 obtain ⟨j,_,rfl⟩:=List.mem_map.mp hb
 refine ⟨rfl,rfl,?_⟩
 show (i == j)=decide (V.int i=V.int j)
 by_cases e:i=j
 ·subst e;simp
 ·rw [decide_eq_false (fun h=>e (V.int.inj h))];simpa using e
def eAt (xs ys:List V) (j:Nat):Bool:=match xs[j]?,ys[j]? with
 | some a,some b=>eqV a b
 | _,_=>true
theorem all_eAt {xs ys:List V} (hl:xs.length=ys.length) (hk:Kin xs ys):((List.range xs.length).all (eAt xs ys))=decide (xs=ys):=by
 rw [Bool.eq_iff_iff,List.all_eq_true,decide_eq_true_iff]
 constructor
 ·intro h
  apply List.ext_getElem?
  intro j
  by_cases hj:j < xs.length
  ·have h1:xs[j]?=some xs[j]:=List.getElem?_eq_getElem hj
   have h2:ys[j]?=some (ys[j]'(hl ▸ hj)):=List.getElem?_eq_getElem (hl ▸ hj)
   have:=h j (List.mem_range.mpr hj)
   unfold eAt at this
   rw [h1,h2] at this
   have k:=(hk _ (List.getElem_mem hj) _ (List.getElem_mem (hl ▸ hj))).2.2
   have this:eqV xs[j] (ys[j]'(hl ▸ hj))=true:=this
   rw [k,decide_eq_true_iff] at this
   rw [h1,h2,this]
  ·rw [List.getElem?_eq_none (by omega),List.getElem?_eq_none (by omega)]
 ·rintro rfl j hj
  have hj':=List.mem_range.mp hj
  unfold eAt
  rw [List.getElem?_eq_getElem hj']
  have k:=(hk _ (List.getElem_mem hj') _ (List.getElem_mem hj')).2.2
  show eqV _ _=true
  rw [k];simp
theorem eAt_at {A:Around} {s:Shared} {xs ys:List V} {its its2:List Value} (r:Vals xs its) (r2:Vals ys its2) (hk:Kin xs ys) (j:Nat) (h1:j < its.toArray.size) (h2:j < its2.toArray.size):SeqAt.EqAt A s its.toArray[j] its2.toArray[j] (eAt xs ys j):=by
 have l1:=r.length
 have l2:=r2.length
 rw [List.size_toArray] at h1 h2
 have g1:xs[j]?=some (xs[j]'(by omega)):=List.getElem?_eq_getElem (by omega)
 have g2:ys[j]?=some (ys[j]'(by omega)):=List.getElem?_eq_getElem (by omega)
 obtain ⟨u,e1,ru⟩:=r.get g1
 obtain ⟨v,e2,rv⟩:=r2.get g2
 have e1':its.toArray[j]=u:=by
  have:=List.getElem?_eq_getElem h1
  rw [e1] at this
  simpa using (Option.some.inj this).symm
 have e2':its2.toArray[j]=v:=by
  have:=List.getElem?_eq_getElem h2
  rw [e2] at this
  simpa using (Option.some.inj this).symm
 obtain ⟨f1,f2,_⟩:=hk _ (List.getElem_mem (by omega:j < xs.length)) _ (List.getElem_mem (by omega:j < ys.length))
 unfold eAt
 rw [g1,g2,e1',e2']
 exact eqAt_V ru rv f1 f2
def rEqL (K:PySem.W.Frag):R2:=fun x y H Q=>∃ p q xs ys,x=.ref p∧y=.ref q∧SqL K H p xs∧SqL K H q ys∧Kin xs ys∧Q (.bl (decide (xs=ys))) H
def rNeL (K:PySem.W.Frag):R2:=fun x y H Q=>∃ p q xs ys,x=.ref p∧y=.ref q∧SqL K H p xs∧SqL K H q ys∧Kin xs ys∧Q (.bl (!decide (xs=ys))) H
theorem op_eqL (hu:X.A.units < cLine):OpR X (compareOp .Eq) (rEqL X.K):=by
 intro pins s σ H x y v u Q I rx ry h
 obtain ⟨p,q,xs,ys,rfl,rfl,hp,hq,hk,hQ⟩:=h
 cases rx
 cases ry
 obtain ⟨its,r,pl,_⟩:=I.list hp
 obtain ⟨its2,r2,pl2,_⟩:=I.list hq
 have l1:=r.length
 have l2:=r2.length
 by_cases hl:xs.length=ys.length
 ·refine SeqAt.eq_listAt pl.isList pl2.isList (by rw [List.size_toArray,List.size_toArray];omega) hu (fun j h1 h2=>eAt_at r r2 hk j h1 h2) ?_
  rw [List.size_toArray,← l1,all_eAt hl hk]
  exact ⟨.bl _,H,I,rfl,hQ⟩
 ·refine SeqAt.eq_list_lengthsAt pl.isList pl2.isList (by rw [List.size_toArray,List.size_toArray];simp;omega) hu ?_
  rw [decide_eq_false (fun e=>hl (congrArg List.length e))] at hQ
  exact ⟨.bl false,H,I,rfl,hQ⟩
theorem op_neL (hu:X.A.units < cLine):OpR X (compareOp .NotEq) (rNeL X.K):=by
 intro pins s σ H x y v u Q I rx ry h
 obtain ⟨p,q,xs,ys,rfl,rfl,hp,hq,hk,hQ⟩:=h
 cases rx
 cases ry
 obtain ⟨its,r,pl,_⟩:=I.list hp
 obtain ⟨its2,r2,pl2,_⟩:=I.list hq
 have l1:=r.length
 have l2:=r2.length
 by_cases hl:xs.length=ys.length
 ·refine SeqAt.RcNeAt.lists pl.isList pl2.isList (by rw [List.size_toArray,List.size_toArray];omega) hu (fun j h1 h2=>eAt_at r r2 hk j h1 h2) _ _ _ _ ?_
  rw [List.size_toArray,← l1,all_eAt hl hk]
  exact ⟨.bl _,H,I,rfl,hQ⟩
 ·refine SeqAt.RcNeAt.lists_lengths pl.isList pl2.isList (by rw [List.size_toArray,List.size_toArray];simp;omega) hu _ _ _ _ ?_
  rw [decide_eq_false (fun e=>hl (congrArg List.length e))] at hQ
  exact ⟨.bl true,H,I,rfl,hQ⟩
theorem call_isinst {f:Value} (hf:f=.builtin "isinstance"):CallR X f (fun xs H Q=>∃ (x c:V) (t cv:Value) (b:Bool),xs=[x,c]∧RelV c cv∧(∀ v,RelV c v→v=cv)∧TyOf X.K H x t∧PySem.W.kitOne X.K t cv=some b∧Q (.bl b) H):=by
 subst hf
 intro pins s σ H xs us Q I r h
 obtain ⟨x,c,t,cv,b,rfl,rc,uc,ty,e,q⟩:=h
 obtain ⟨u,v,rfl,ru,rv⟩:=vals2 r
 obtain rfl:=uc v rv
 exact isinst_ok I ru ty e fun tk=>⟨.bl b,H,I.tok tk,rfl,q⟩
end
end L2
namespace L2
open PySem PySem.Spec PyProof.Rows
section
variable {X:Cx}
@[irreducible] def rTup (K:PySem.W.Frag):List V→Hp→VK→Prop:=fun xs H Q=>∃ p ys,xs=[.ref p]∧((SqL K H p ys∧∀ l,H l=none→Q (.ref l) (upd H l (.tup ys)))∨(SqT K H p ys∧Q (.ref p) H))
theorem J1a:CallR X (.type "tuple") (rTup X.K):=by
 unfold rTup
 exact J3z
end
end L2
namespace L2
open PySem PySem.Spec PyProof.Rows
end L2
namespace L2
open PySem PySem.Spec PyProof.Rows
end L2
namespace L2
open PySem PySem.Spec PyProof.Rows
def bmV:List Value:=[.type "ValueError",.type "Exception",.type "BaseException",.type "object"]
theorem ObjOk.has {P:Program} {w:World} {H:Hp} {h:Heap} {a:Addr} {o:HO} (x:ObjOk P w H h a o):∃ u,h.get? a=some u:=by
 cases o with
 | lst xs=>obtain ⟨_,_,_,_,e⟩:=x;exact ⟨_,e⟩
 | tup xs=>obtain ⟨_,_,_,ob,e,_⟩:=x;exact ⟨_,e⟩
 | dK kvs=>obtain ⟨_,_,_,_,o,_,_,e,_⟩:=x;exact ⟨_,e⟩
 | dT kvs=>obtain ⟨_,_,_,_,o,_,_,e,_⟩:=x;exact ⟨_,e⟩
 | set S n=>obtain ⟨o,_,_,_,e,_⟩:=x;exact ⟨_,e⟩
 | ins C dx fs=>obtain ⟨_,_,_,e,_⟩:=x;exact ⟨_,e⟩
 | own y=>exact x
 | xd fs=>obtain ⟨_,⟨_,_,_,e,_⟩,_⟩:=x;exact ⟨_,e⟩
 | rng lo hi=>obtain ⟨_,_,_,e⟩:=x;exact ⟨_,e⟩
 | frz ob u=>obtain ⟨e,_⟩:=x;exact ⟨_,e⟩
 | tbl ps=>exact ⟨_,(show h.get? a=some _ from x)⟩
 | met f y=>exact ⟨_,(show h.get? a=some _ from x)⟩
 | ext φ=>obtain ⟨_,e,_⟩:=x;exact e
theorem HOk.over {P:Program} {w:World} {H:Hp} {h h' B:Heap} (ok:HOk P w H h) (t:∀ b o,H b=some o→∃ u,B.get? b=some u) (k:B.StaysIn h) (k':B.StaysIn h'):HOk P w H h':=fun b u e=>by
 refine (ok b u e).stay (fun c v hc q=>?_) (fun _ q=>q) fun _ _ q=>q
 have hc':∃ x,B.get? c=some x:=by
  rcases hc with z | z
  ·rw [z];exact t b u e
  ·exact t c _ z
 obtain ⟨x,hx⟩:=hc'
 have:=k c x hx
 rw [q] at this
 cases this
 exact k' c _ hx
def Exc1 (P:Program) (w:World):CXT:=fun outer H s E e s'=>∃ (ea:Addr) (cls:Value) (H':Hp) (B:Heap) (a0:Value),e=.ref ea∧s'.os=s.os∧AllBare s'.gens∧Heap.FlyingW B outer ea cls a0 s'.heap∧
 Un (frs outer) [] H H' s.heap s'.heap∧HOk P w H' s'.heap∧H' ea=none∧s.heap.get? ea=none∧(∀ b o,H' b=some o→∃ u,B.get? b=some u)∧(∀ b u,s.heap.get? b=some u→b ∉ frs outer→∃ v,B.get? b=some v)∧E cls none H'
section
variable {P:Program} {w:World} {K:PySem.W.Frag} {mg:Str→Option Value} {base:Heap} {N:List Str} {qual:Str} {scope:Scope} {f:Addr} {cd:Value} {A:Around} {outer:List Env} {s0:Shared} {H0:Hp} {E:XK} {pins:List (Addr × Obj)} {σ:St} {H:Hp} {s:Shared}
theorem noFlds {h B:Heap} {l:List Env} (x:h.FunFrames B l) {b:Addr} (hb:b∈frs l):∃ o,h.get? b=some o∧∀ vs,o.data≠.fields vs:=(x.mem hb).2
theorem frs_cons {b:Addr} {env:Env} {L:Addr} (hf:env.frame=some L) {l:List Env}:b∈frs (env :: l)↔b=L∨b∈frs l:=by
 unfold frs
 rw [List.filterMap_cons,hf]
 simp
theorem xe_made {ea:Addr} {cls:Value} {args:List Value} {h':Heap} (I:Inv (cxOf (Exc1 P w) P w K mg base N qual scope f cd A outer s0 H0 E) pins σ H s) (hx:Heap.MadeExcOf s.heap h' ea cls args) (q:E cls none H) :
  (cxOf (Exc1 P w) P w K mg base N qual scope f cd A outer s0 H0 E).xe (.ref ea) { s with heap:=h' }:=by
 have fr:s.heap.FunFrames base (envOfC qual scope s0.heap.objs.size f cd :: outer):=I.stack
 have hin:∀ env∈(envOfC qual scope s0.heap.objs.size f cd :: outer),∀ b,env.frame=some b→b∈frs (envOfC qual scope s0.heap.objs.size f cd :: outer):=fun env he b hb=>List.mem_filterMap.mpr ⟨env,he,hb⟩
 have fl:∀ {b:Addr},b∈frs (envOfC qual scope s0.heap.objs.size f cd :: outer)↔b=s0.heap.objs.size∨b∈frs outer:=frs_cons rfl
 have inB:∀ b u,s.heap.get? b=some u→b ∉ frs (envOfC qual scope s0.heap.objs.size f cd :: outer)→(PySem.W.hideAll s.heap (frs (envOfC qual scope s0.heap.objs.size f cd :: outer))).get? b=some u:=fun b u e n=>PySem.W.hideAll_get _ e n
 have nL:∀ b u,s0.heap.get? b=some u→b≠s0.heap.objs.size:=fun b u e=>Nat.ne_of_lt (Heap.lt_size e)
 have nf:∀ b u,s0.heap.get? b=some u→b ∉ frs outer→b ∉ frs (envOfC qual scope s0.heap.objs.size f cd :: outer):=fun b u e n z=>(fl.mp z).elim (nL b u e) n
 refine wpAny_leaves_madeW (base:=PySem.W.hideAll s.heap (frs (envOfC qual scope s0.heap.objs.size f cd :: outer))) (h:=s.heap) (L:=s0.heap.objs.size) I.ok.frames rfl (fun b o z=>PySem.W.of_hideAll _ z) (PySem.W.funFrames_hide fr hin) hx fun h'' t fly tup nt ups=>?_
 have up:∀ b o,s.heap.get? b=some o→b∈frs (envOfC qual scope s0.heap.objs.size f cd :: outer)→∃ sl,h''.get? b=some { o with slots:=sl }:=fun b o e hb=>by
  obtain ⟨o',e',nd⟩:=noFlds fr hb
  rw [e] at e';cases e'
  exact ups b o (hx.keeps b o e) nd
 have there:∀ b o,s.heap.get? b=some o→∃ o',h''.get? b=some o':=fun b o e=>by
  by_cases hb:b∈frs (envOfC qual scope s0.heap.objs.size f cd :: outer)
  ·obtain ⟨sl,z⟩:=up b o e hb;exact ⟨_,z⟩
  ·exact ⟨o,fly.1 b o (inB b o e hb)⟩
 have trk:∀ b o,H b=some o→∃ u,(PySem.W.hideAll s.heap (frs (envOfC qual scope s0.heap.objs.size f cd :: outer))).get? b=some u:=fun b o e=>by
  obtain ⟨u,hu⟩:=(I.hok b o e).has
  refine ⟨u,inB b u hu fun z=>?_⟩
  have:=I.stkFree b z
  rw [e] at this;cases this
 refine ⟨ea,cls,H,_,_,rfl,I.os,I.bare,fly,⟨fun b o e n hb _=>?_,fun b o e n hb _=>?_,fun b o e n hb=>I.base.free b o e n hb,fun b o e _=>?_,I.base.tups,I.base.frzs,I.base.tbls⟩,I.hok.over trk (fun b o z=>PySem.W.of_hideAll _ z) fly.1,?_,?_,trk,fun b u e n=>?_,q⟩
 ·exact fly.1 b o (inB b o (I.base.keep b o e n hb (by simp [cxOf])) (nf b o e hb))
 ·obtain ⟨sl,e1⟩:=I.base.slot b o e n hb (by simp [cxOf])
  obtain ⟨sl',e2⟩:=up b _ e1 (fl.mpr (.inr hb))
  exact ⟨sl',e2⟩
 ·obtain ⟨o',e1⟩:=I.base.there b o e (by simp [cxOf])
  exact there b o' e1
 ·cases z:H ea with
  | none=>rfl
  | some o =>
   obtain ⟨u,hu⟩:=(I.hok ea o z).has
   have hnew:=hx.new
   rw [hu] at hnew;cases hnew
 ·cases z:s0.heap.get? ea with
  | none=>rfl
  | some o =>
   obtain ⟨o',e1⟩:=I.base.there ea o z (by simp [cxOf])
   have hnew:=hx.new
   rw [e1] at hnew;cases hnew
 ·obtain ⟨o',e1⟩:=I.base.there b u e (by simp [cxOf])
  exact ⟨o',inB b o' e1 (nf b u e n)⟩
theorem pass1:Passes (Exc1 P w) (cxOf (Exc1 P w) P w K mg base N qual scope f cd A outer s0 H0 E) E:=by
 rintro pins σ H s e s' I ⟨ea,cls,H',B,a0,rfl,os,bare,fly,un,hok,hea,new,trk,inB,q⟩
 have fl:∀ {b:Addr},b∈frs (envOfC qual scope s0.heap.objs.size f cd :: outer)↔b=s0.heap.objs.size∨b∈frs outer:=frs_cons rfl
 have nf:∀ b u,s0.heap.get? b=some u→b ∉ frs outer→b ∉ frs (envOfC qual scope s0.heap.objs.size f cd :: outer):=fun b u e n z=>(fl.mp z).elim (Nat.ne_of_lt (Heap.lt_size e)) n
 have fly0:Heap.FlyingW B (envOfC qual scope s0.heap.objs.size f cd :: outer) ea cls a0 s'.heap:=fly
 have un:Un (frs (envOfC qual scope s0.heap.objs.size f cd :: outer)) [] H H' s.heap s'.heap:=un
 have inB:∀ b u,s.heap.get? b=some u→b ∉ frs (envOfC qual scope s0.heap.objs.size f cd :: outer)→∃ v,B.get? b=some v:=inB
 refine wpAny_leaves_onW (L:=s0.heap.objs.size) I.ok.frames rfl fly0 fun h'' fly2 ups=>?_
 have stay:∀ b o,s.heap.get? b=some o→b ∉ frs (envOfC qual scope s0.heap.objs.size f cd :: outer)→∀ o',s'.heap.get? b=some o'→h''.get? b=some o':=fun b o e n o' e'=>by
  obtain ⟨v,hv⟩:=inB b o e n
  have:=fly0.1 b v hv
  rw [e'] at this;cases this
  exact fly2.1 b _ hv
 refine ⟨ea,cls,H',B,a0,rfl,os.trans I.os,bare,fly2,⟨fun b o e n hb _=>?_,fun b o e n hb _=>?_,fun b o e n _=>?_,fun b o e _=>?_,fun b xs e=>un.tups b xs (I.base.tups b xs e),fun b o u e=>un.frzs b o u (I.base.frzs b o u e),fun b ps e=>?_⟩,hok.over trk fly0.1 fly2.1,hea,?_,trk,fun b u e n=>?_,q⟩
 ·have e1:=I.base.keep b o e n hb (by simp [cxOf])
  have n1:=I.base.free b o e n (by simp [cxOf])
  exact stay b o e1 (nf b o e hb) o (un.keep b o e1 n1 (nf b o e hb) (by simp))
 ·obtain ⟨sl,e1⟩:=I.base.slot b o e n hb (by simp [cxOf])
  have n1:=I.base.free b o e n (by simp [cxOf])
  obtain ⟨sl',e2⟩:=un.slot b _ e1 n1 (fl.mpr (.inr hb)) (by simp)
  obtain ⟨o',e3,nd⟩:=noFlds fly0.2.2.1 (fl.mpr (.inr hb))
  rw [e2] at e3;cases e3
  obtain ⟨sl'',e4⟩:=ups b _ e2 nd
  exact ⟨sl'',e4⟩
 ·obtain ⟨o',e1⟩:=I.base.there b o e (by simp [cxOf])
  exact un.free b o' e1 (I.base.free b o e n (by simp [cxOf])) (by simp)
 ·obtain ⟨o',e1⟩:=I.base.there b o e (by simp [cxOf])
  obtain ⟨o2,e2⟩:=un.there b o' e1 (by simp)
  by_cases hb:b∈frs outer
  ·obtain ⟨o3,e3,nd⟩:=noFlds fly0.2.2.1 (fl.mpr (.inr hb))
   obtain ⟨sl,e4⟩:=ups b o3 e3 nd
   exact ⟨_,e4⟩
  ·exact ⟨o2,stay b o' e1 (nf b o e hb) o2 e2⟩
 ·obtain ⟨m1,e1⟩:=I.base.tbls b ps e
  obtain ⟨m2,e2⟩:=un.tbls b _ e1
  exact ⟨m1 ++ m2,by rw [e2,Array.append_assoc]⟩
 ·cases z:s0.heap.get? ea with
  | none=>rfl
  | some o =>
   obtain ⟨o',e1⟩:=I.base.there ea o z (by simp [cxOf])
   rw [e1] at new;cases new
 ·obtain ⟨o',e1⟩:=I.base.there b u e (by simp [cxOf])
  exact inB b o' e1 (nf b u e n)
theorem passF {X:Cx}:Passes (Exc1 P w) X E0:=by
 rintro pins σ H s e s' I ⟨_,_,_,_,_,_,_,_,_,_,_,_,_,_,_,q⟩
 exact False.elim q
theorem exc_obj {h:Heap} {C:Addr} {bmB:List Value} {nid:String} (X:K.In h) (q:PySem.W.excIn K C bmB nid=true) :
  ∃ bm N nm qn bs hdct sn sub ab col dd k0 k1 k2 k3 k5 mN,h.get? C=some (excClassObj nm qn C N bs bm hdct sn sub ab col dd k0 k1 k2 k3 k5 nid)∧h.Ns N mN∧mN "__init__"=none∧OwnTail h bmB bm:=by
 unfold PySem.W.excIn at q
 split at q
 ·rename_i dd cdd sl ho
  split at q
  ·rename_i C' bm k0 k1 k2 k3 n k5 hm hs
   simp only [Bool.and_eq_true,beq_iff_eq,Bool.not_eq_true'] at q
   obtain ⟨⟨⟨⟨⟨rfl,rfl⟩,q1⟩,q2⟩,q3⟩,q4⟩:=q
   obtain ⟨nm,bs,mro,ns,qn,hd,sn,sub,ab,col,del⟩:=cdd
   dsimp only at hm q1 q3 q4
   subst hm q1
   obtain ⟨l⟩:=sl
   simp only at hs
   subst hs
   exact ⟨bm,ns,nm,qn,bs,hd,sn,sub,ab,col,dd,k0,k1,k2,k3,k5,_,X _ _ ho,.of_isNs (PySem.W.isNs_of_in X q3),PySem.W.nsMap_none_of_in X q3 q4,PySem.W.tail_of_in X q2⟩
  ·cases q
 ·cases q
theorem J48 {x:Str} {C:Addr} {msg:Str} {j:Nat} {p1 np cpos pos:Pos} (hg:Gl (cxOf (Exc1 P w) P w K mg base N qual scope f cd A outer s0 H0 E) x) (hm:mg x=some (.ref C)) (q:PySem.W.excIn K C bmV "ValueError.__new__"=true) (hdb:(x == ("__debug__":Str))=false:=by decide) :
  PS (cxOf (Exc1 P w) P w K mg base N qual scope f cd A outer s0 H0 E) (.Raise (some (.Call (.Name x np) [.Constant (.str msg) j p1] [] cpos)) none pos) (fun D σ H=>E (.ref C) none H):=by
 intro pins s σ H D I h
 obtain ⟨bm,NN,nm,qn,bs,hdct,sn,sub,ab,col,dd,k0,k1,k2,k3,k5,mN,hC,hN,hni,T⟩:=exc_obj (I.ok.mod.kin) q
 refine wpAny_Raise_call_subT (C:=C) (nm:=nm) (q:=qn) (N:=NN) (bs:=bs) (bm:=bm) (hdct:=hdct) (sn:=sn) (sub:=sub) (ab:=ab) (col:=col) (dd:=dd) (k0:=k0) (k1:=k1) (k2:=k2) (k3:=k3) (k5:=k5)
  PySem.F.excBase_ValueError (mN:=mN) (T.hasType PySem.F.excBase_ValueError.hasBase) (I.ok.hd rfl) rfl hni (ld_glob I hg hm ⟨rfl,?_⟩ hdb)
 refine Calls.evalArgs_plain (thn ((J0 (pe_str (X:=cxOf (Exc1 P w) P w K mg base N qual scope f cd A outer s0 H0 E)) J6) cpos pins s σ H (fun vs H'=>H'=H∧vs.length=1) I ⟨rfl,rfl⟩) fun us s2 ⟨vs,H2,I2,r,e2,e3⟩=>?_)
 subst e2
 have hl:us.length≤sizeLine:=by rw [← r.length,e3];decide
 exact ⟨rfl,hl,I2.bk _ _ hC,hN.keeps I2.bk,T.keeps I2.bk,fun h' e hm=>xe_made I2 hm h⟩
end
theorem ps_nox {X:Cx} {st:Stmt} {t:TS} (h:PS X.nox st t):PS X st t:=fun pins s σ H D I hw =>
 wpAny_mono (h pins s σ H D (I.wish _) hw) (fun _ _ z=>z.unwish) fun _ _ z=>False.elim z
end L2
namespace L2
open PySem PySem.Spec PyProof.Rows
theorem Fun.okX {P:Program} {w:World} {K:PySem.W.Frag} {mg:Str→Option Value} {base:Heap} {x qual:Str} {st:Stmt} {f:Addr} {fd:FuncData} {N ps:List Str} {k:Nat} {sp:Sp} (F:Fun K x qual st f fd) (S:FnScope N ps (Ja st)) (len:∀ vs H Q E,sp vs H Q E→vs.length=ps.length)
  (hbody:∀ (cdv:Value) (A:Around) (outer:List Env) (s:Shared) (H:Hp) (vs:List V) (Q:VK) (E:XK),Room k (A.deeper (envOfC qual (Ja st) s.heap.objs.size f cdv))→sp vs H Q E→
   ∃ t,PSs (cxOf (Exc1 P w) P w K mg base N qual (Ja st) f cdv A outer s H E) (J1t st) t∧t { nx:=fun _ H'=>Q .non H',rt:=Q } (start N vs) H):FnOk P w K mg base (Exc1 P w) (k + 1) f fd ps sp:=by
 obtain ⟨oc,od,kV,doc,pm,an,cdv,ct,osl,rfl,lk,hcd⟩:=F.ex
 exact fn_of lk hcd S len fun A outer s H vs Q E hr hsp=>hbody cdv A outer s H vs Q E hr hsp
end L2
namespace L2
open PySem PySem.Spec PyProof.Rows
theorem boolsAre:∀ {bs:List Bool} {us:List Value},Vals (bs.map V.bl) us→us=bs.map Value.bool
 | [],us,r=>by cases r;rfl
 | b :: bs,us,r=>by
  cases r with
  | cons r1 r2 =>
   cases (show _=Value.bool b from r1)
   rw [boolsAre r2];rfl
structure RoomC (k:Nat) (A:Around):Prop where
 dp:A.depth + 3 * k + 5 < recursionLimit
 un:A.units + 16 * k + 200 < cLine
theorem RoomC.mono {j k:Nat} {A:Around} (r:RoomC k A) (h:j≤k):RoomC j A:=⟨by have:=r.dp;omega,by have:=r.un;omega⟩
end L2
namespace L2
open PySem PySem.Spec PyProof.Rows
theorem refsAre:∀ {as:List Addr} {us:List Value},Vals (as.map V.ref) us→us=as.map Value.ref
 | [],us,r=>by cases r;rfl
 | a :: as,us,r=>by
  cases r with
  | cons r1 r2 =>
   cases (show _=Value.ref a from r1)
   rw [refsAre r2];rfl
def rNeLL (K:PySem.W.Frag):R2:=fun x y H Q=>∃ (p q:Addr) (as bs:List Addr),x=.ref p∧y=.ref q∧SqL K H p (as.map V.ref)∧SqL K H q (bs.map V.ref)∧as.length=bs.length∧
 (∀ (j:Nat) (a b:Addr),as[j]?=some a→bs[j]?=some b→∃ zs:List V,SqL K H a zs∧SqL K H b zs∧Kin zs zs)∧Q (.bl false) H
theorem op_neLL {X:Cx} (hu:X.A.units + 1 < cLine):OpR X (compareOp .NotEq) (rNeLL X.K):=by
 intro pins s σ H x y v u Q I rx ry h
 obtain ⟨p,q,as,bs,rfl,rfl,hp,hq,hlen,all,hQ⟩:=h
 cases rx
 cases ry
 obtain ⟨its,r,pl,_⟩:=I.list hp
 obtain ⟨its2,r2,pl2,_⟩:=I.list hq
 have e1:=refsAre r
 have e2:=refsAre r2
 subst e1 e2
 refine SeqAt.RcNeAt.lists (e:=fun _=>true) pl.isList pl2.isList (by simp [hlen]) (by omega) (fun j h1 h2=>?_) _ _ _ _ ?_
 ·have h1':j < as.length:=by simpa using h1
  have h2':j < bs.length:=by simpa using h2
  have g1:as[j]?=some as[j]:=List.getElem?_eq_getElem h1'
  have g2:bs[j]?=some bs[j]:=List.getElem?_eq_getElem h2'
  obtain ⟨zs,z1,z2,kz⟩:=all j _ _ g1 g2
  have w1:(as.map Value.ref).toArray[j]=Value.ref as[j]:=by simp
  have w2:(bs.map Value.ref).toArray[j]=Value.ref bs[j]:=by simp
  rw [w1,w2]
  by_cases hne:as[j]=bs[j]
  ·rw [hne];exact SeqAt.EqAt.same _
  ·obtain ⟨i1,t1,l1,_⟩:=I.list z1
   obtain ⟨i2,t2,l2,_⟩:=I.list z2
   have n1:=t1.length
   have n2:=t2.length
   refine SeqAt.EqAt.of_refs hne ?_
   have:=SeqAt.RcAt.lists (A:=X.A.in1) (s:=s) (e:=eAt zs zs) l1.isList l2.isList (by rw [List.size_toArray,List.size_toArray];omega) hu (fun j h1 h2=>eAt_at t1 t2 kz j h1 h2)
   rw [List.size_toArray,← n1,all_eAt rfl kz,decide_eq_true rfl] at this
   exact this
 ·have ea:(List.range (as.map Value.ref).toArray.size).all (fun _=>true)=true:=by simp
  rw [ea]
  exact ⟨.bl false,H,I,rfl,hQ⟩
end L2
namespace L2
open PySem PySem.Spec PyProof.Rows
def PTs (X:Cx) (ifs:List Expr) (t:TT):Prop :=
 ∀ (pins:List (Addr × Obj)) (s:Shared) (σ:St) (H:Hp) (Q:Bool→Hp→Prop),Inv X pins σ H s→t σ H Q→
  wpAny (model X.prog X.w) X.A (forIn ifs true fun c r=>if r=true then do let ok ← isTrue c X.env (eval c X.env);pure (ForInStep.yield ok) else pure (ForInStep.yield r)) (TP X pins σ Q) X.xe s
def tYes:TT:=fun _ H Q=>Q true H
theorem pts_nil {X:Cx}:PTs X [] tYes:=fun _ s σ H Q I h=>wpAny_tests_nil ⟨H,I,h⟩
theorem pts_one {X:Cx} {c:Expr} {t:TT} (h:PT X c t):PTs X [c] t:=fun pins s σ H Q I q=>wpAny_tests_one (h pins s σ H Q I q)
theorem J1m {prog:Program} {w:World} {A:Around} {R:Result→Shared→Prop} {s:Shared} {elt target iter:Expr} {ifs:List Expr} {scope:Scope} {pos:Pos} {it acc:Value} {env:Env} (J:Nat→Shared→Prop)
  (turn:∀ n s,J n s→wpAny (model prog w) A (pyNext it) (fun r s₁=>match r with
   | none=>R (.ok .next) s₁
   | some v=>wpAny (model prog w) A (letOwnedTupleGo target it v) (fun _ s₁'=>wpAny (model prog w) A (assign target env v) (fun _ s₂ =>
     wpAny (model prog w) A (forIn ifs true fun c r=>if r=true then do let ok ← isTrue c env (eval c env);pure (ForInStep.yield ok) else pure (ForInStep.yield r)) (fun ok s₃ =>
      if ok=true then wpAny (model prog w) A (eval elt env) (fun x s₄ =>
       wpAny (model prog w) A (call (.builtin "list.append") [acc,x]) (fun _ s₅=>∃ m,m < n∧J m s₅) (fun _ _=>False) s₄) (fun _ _=>False) s₃
      else ∃ m,m < n∧J m s₃) (fun _ _=>False) s₂) (fun _ _=>False) s₁') (fun _ _=>False) s₁) (fun _ _=>False) s)
  (n:Nat) (h:J n s):codeAny (model prog w) A (.compLoop (.ListComp elt [⟨target,iter,ifs,0⟩] scope pos) 0 it acc env) R s:=by
 refine codeAny_loop rfl J (fun n s hI=>?_) n h
 show wpAny _ _ ((compTurn (.ListComp elt [⟨target,iter,ifs,0⟩] scope pos) 0 it acc env).onRaise (fun x=>do noteFrame x env;theTreesLotGoes x)) _ _ s
 refine wpAny_noted ?_
 rw [compTurn_list]
 refine wpAny_bind (wpAny_standAt (wpAny_bind (wpAny_mono (turn n s hI) (fun r s₁ h₁=>?_) fun _ _ h'=>False.elim h')))
 cases r with
 | none=>exact wpAny_pure h₁
 | some v =>
  refine wpAny_bind (wpAny_mono h₁ (fun _ s₁' h₁'=>?_) fun _ _ h'=>False.elim h')
  refine wpAny_bind (wpAny_mono h₁' (fun _ s₂ h₂=>wpAny_bind (wpAny_mono h₂ (fun ok s₃ h₃=>?_) fun _ _ h'=>False.elim h')) fun _ _ h'=>False.elim h')
  cases ok with
  | false=>exact wpAny_pure ⟨rfl,h₃⟩
  | true =>
   exact wpAny_bind (wpAny_bind (wpAny_mono h₃ (fun x s₄ h₄=>wpAny_bind (wpAny_mono h₄ (fun _ s₅ h₅=>wpAny_pure (wpAny_pure ⟨rfl,h₅⟩)) fun _ _ h'=>False.elim h')) fun _ _ h'=>False.elim h'))
def LCW (J:It) (tc:TT) (te:TE) (σ:St) (js:List Nat) (Q:VK) (H1:Hp) (d:Addr):Prop:=∃ W:Nat→Nat→List V→Hp→Prop,(∃ m,W 0 m [] (upd H1 d (.lst [])))∧
 ∀ i m ys H2,W i m ys H2→H2 d=some (.lst ys)∧((J.stop i H2∧Q (.ref d) H2)∨(J.go i H2∧ys.length < sizeLine∧∀ v H3,J.yld i H2 v H3→
  tc (some v :: capv σ js) H3 fun b H4=>if b=true then te (some v :: capv σ js) H4 fun y H5=>H5 d=some (.lst ys)∧∃ m',m' < m∧W (i + 1) m' (ys ++ [y]) (upd H5 d (.lst (ys ++ [y])))
   else ∃ m',m' < m∧W (i + 1) m' ys H4))
def tLC (wi:TI) (tc:TT) (te:TE) (js:List Nat):TE:=fun σ H Q=>wi σ H fun J H1=>∀ d,H1 d=none→LCW J tc te σ js Q H1 d
section
variable {X:Cx} {elt iter:Expr} {ifs:List Expr} {x y:Str} {px py:Pos} {scope:Scope} {cl:List (Str × Addr)} {pos spos:Pos} {wi:TI} {tc:TT} {te:TE} {caps:List Str} {js:List Nat} {i:Nat}
theorem comp_core {p0:Pos} {use:Option (Value→Sem Unit)} {QV:Value→Shared→Prop} {Q:VK} {pins:List (Addr × Obj)} {s:Shared} {σ:St} {H:Hp} (hc:X.calm=true) (hp:PI X (.Name x px) iter wi)
  (he:∀ (C:Addr) (fp:List Addr) (s:Shared) (H:Hp),PE (X.block (x :: caps) scope cl C fp s H) elt te)
  (ht:∀ (C:Addr) (fp:List Addr) (s:Shared) (H:Hp),PTs (X.block (x :: caps) scope cl C fp s H) ifs tc)
  (hcell:∀ p∈scope.names,p.2≠.cell) (hnames:∀ p∈scope.names,p.2=.local→scope.names.lookup p.1=some .local) (hnd:(x :: caps).Nodup)
  (hsub:∀ p∈cl,X.env.cells.lookup p.1=some p.2) (hhas:∀ p∈scope.names,p.2=.free→∃ c,cl.lookup p.1=some c) (hlen:caps.length=js.length)
  (hcaps:∀ (k:Nat) (c:Str),caps[k]?=some c→∃ (j:Nat) (a:Addr),js[k]?=some j∧X.N[j]?=some c∧X.env.scope.names.lookup c=some .cell∧cl.lookup c=some a∧(relabel scope X.env).names.lookup c=some .cell)
  (hclos:closureFor scope X.env=pure cl) (hkind:scope.kind=.function) (hx:scope.names.lookup x=some .local) (hs:∀ v,foldedSetIterable iter X.env v=pure v)
  (I:Inv X pins σ H s) (h:tLC wi tc te js σ H Q)
  (fin:∀ (d:Addr) (H':Hp) (s5:Shared) (C:Addr),Inv X pins σ H' s5→Q (.ref d) H'→(∃ m,s5.heap.Ns C m)→FpOk X pins H' C→compPost (model X.prog X.w) X.A X.xe use QV (.ref d) C (.ok .next) s5) :
  wpAny (model X.prog X.w) X.A (comprehension (.ListComp elt [⟨.Name x px,iter,ifs,0⟩] scope pos) scope X.env p0 (newList []) false (eval iter X.env) use) QV X.xe s:=by
 refine wpAny_comprehension_free (cl:=cl) (use:=use) (Q:=QV) rfl hs hclos hkind hnames (thn (hp pins s σ H _ I h) fun v s1 h1=>thn h1 fun itv s2 h2=>?_)
 obtain ⟨it,fp,tn,J,H2,e,I2,T,st2,f2,h3⟩:=h2
 subst e
 have hfr:H2 s2.heap.objs.size=none:=I2.hok.fresh (Nat.le_refl _)
 obtain ⟨W,⟨m0,w0⟩,hW⟩:=h3 s2.heap.objs.size hfr
 refine wpAny_newObj_type (wpAny_newFunctionEnv hcell (by intro y hy;simp at hy) (fun h₁ hns₁ hsb₁=>?_) hkind)
 dsimp only at hns₁ hsb₁ ⊢
 generalize hH2:s2.heap.push { cls:=.type "list",dict:=none,data:=.seq ([]:List Value).toArray }=G at hns₁ hsb₁ ⊢
 have hC:G.objs.size=s2.heap.objs.size + 1:=by rw [← hH2,Heap.size_push]
 have hDC:s2.heap.objs.size≠G.objs.size:=by rw [hC];exact Nat.ne_of_lt (Nat.lt_succ_self _)
 have hCle:s2.heap.objs.size≤G.objs.size:=by rw [hC];exact Nat.le_succ _
 have old:∀ b o,s2.heap.get? b=some o→h₁.get? b=some o:=fun b o e=>hsb₁.extBut b o (by rw [hC];exact Nat.ne_of_lt (Nat.lt_succ_of_lt (Heap.lt_size e))) (Heap.get?_push_of_some _ (hH2 ▸ Heap.get?_push_of_some _ e))
 have hacc:h₁.get? s2.heap.objs.size=some { cls:=.type "list",dict:=none,data:=.seq ([]:List Value).toArray }:=hsb₁.extBut _ _ hDC (Heap.get?_push_of_some _ (hH2 ▸ Heap.get?_push_size _ rfl))
 have fl:∀ b∈fp,b < s2.heap.objs.size:=fun b hb=>by
  obtain ⟨o,e,_⟩:=T.obj _ _ st2 b hb
  exact Heap.lt_size e
 have hDf:s2.heap.objs.size ∉ fp:=fun hm=>Nat.lt_irrefl _ (fl _ hm)
 have hok1:HOk X.prog X.w (upd H2 s2.heap.objs.size (.lst [])) h₁:=I2.hok.laid old (Nat.le_refl _) ⟨Nat.zero_le _,[],0,.nil,hacc⟩
 have IY0:∀ tk,Inv (X.block (x :: caps) scope cl G.objs.size fp s2 H2) [] (none :: capv σ js) (upd H2 s2.heap.objs.size (.lst [])) { s2 with heap:=h₁,toks:=tk }:=fun tk=>by
  refine ⟨block_ok I2 hCle f2 fl hkind hcell hsub hhas,rfl,I2.bare,Un.laid old (Nat.le_refl _) hfr,⟨_,hns₁,fun k z v e1 e2 e3=>?_⟩,fun z c e=>?_,?_,fun z c e=>?_,fun p hp=>absurd hp (by simp),hok1,?_⟩
  ·cases k with
   | zero=>simp at e2
   | succ k =>
    have e1':caps[k]?=some z:=by simpa using e1
    have e2':(capv σ js)[k]?=some (some v):=by simpa using e2
    obtain ⟨j,a,q1,q2,q3,q4,q5⟩:=hcaps k z e1'
    obtain ⟨j',r1,r2⟩:=capv_get e2'
    rw [q1] at r1;cases r1
    obtain ⟨m,hm,hl⟩:=I2.loc
    obtain ⟨u,ru,lu⟩:=hl j z v q2 r2 (.inr (.inl q3))
    refine ⟨u,ru,.inr ⟨.inl q5,a,q4,?_⟩⟩
    rcases lu with ⟨k1,_⟩ | ⟨_,c,ec,o,ho,hd⟩
    ·have k1':X.env.scope.names.lookup z=some .local:=k1
     rw [q3] at k1';cases k1'
    ·have:=hsub _ (PySem.mem_of_lookup q4)
     rw [ec] at this;cases this
     exact ⟨o,old _ _ ho,hd⟩
  ·obtain ⟨v,o,ho,hd⟩:=I2.cell z c (hsub _ (PySem.mem_of_lookup e))
   exact ⟨v,o,old _ _ ho,hd⟩
  ·show upd H2 s2.heap.objs.size (.lst []) G.objs.size=none
   rw [Jd hDC.symm]
   exact I2.hok.fresh hCle
  ·have ec:=hsub _ (PySem.mem_of_lookup e)
   obtain ⟨v,o,ho,hd⟩:=I2.cell z c ec
   rw [Jd (Nat.ne_of_lt (Heap.lt_size ho))]
   exact I2.freeC z c ec
  ·show (none :: capv σ js).length=(x :: caps).length
   unfold capv
   simp [hlen]
 have stat:∀ {H':Hp},(∀ b∈fp,H' b=none)→∀ b∈fp,FpOk (X.block (x :: caps) scope cl G.objs.size fp s2 H2) [] H' b:=fun hn b hb =>
  ⟨hn b hb,Nat.ne_of_lt (Nat.lt_of_lt_of_le (fl b hb) hCle),(block_ok (x:=x) (caps:=caps) I2 hCle f2 fl hkind hcell hsub hhas).exfs b hb,.inl hb,fun z c e=>(f2 b hb).2.2.2.2.1 z c (hsub _ (PySem.mem_of_lookup e)),fun p hp=>absurd hp (by simp)⟩
 have hxl:(relabel scope X.env).names.lookup x=some .local:=lookup_relabel_local hx
 have loop:∀ tk,codeAny (model X.prog X.w) X.A (.compLoop (.ListComp elt [⟨.Name x px,iter,ifs,0⟩] scope pos) 0 (.ref it) (.ref s2.heap.objs.size) (compEnvC scope cl G.objs.size X.env))
   (compPost (model X.prog X.w) X.A X.xe use QV (.ref s2.heap.objs.size) G.objs.size) { s2 with heap:=h₁,toks:=tk }:=fun tk=>by
  refine J1m (fun m s'=>∃ (k:Nat) (o:Option V) (ys:List V) (H':Hp),Inv (X.block (x :: caps) scope cl G.objs.size fp s2 H2) [] (o :: capv σ js) H' s'∧tn k s'.heap∧(∀ b∈fp,H' b=none)∧W k m ys H') ?_ m0
   ⟨0,none,[],_,IY0 tk,T.keep _ _ _ st2 fun b hb o e=>old b o e,fun b hb=>by
    rw [Jd (show b≠s2.heap.objs.size from fun e=>hDf (by rw [← e];exact hb))]
    exact (f2 b hb).1,w0⟩
  rintro m s3 ⟨k,o,ys,H',I3,st3,fr3,w3⟩
  obtain ⟨hd,hW3⟩:=hW k m ys H' w3
  rcases hW3 with ⟨stop,q⟩ | ⟨go,hz,step⟩
  ·refine thn (T.done (X.block (x :: caps) scope cl G.objs.size fp s2 H2) rfl rfl rfl hc k [] s3 _ _ (fun _ _=>False) I3 (stat fr3) st3 stop) fun r s4 ⟨hr,I4⟩=>?_
   subst hr
   have J5:Inv X pins σ H' s4:=I2.call' (ch:=fp) I4.os I4.base I4.hok I4.bare fun b hb=>⟨(f2 b hb).2.2.2.1,(f2 b hb).2.1,(f2 b hb).2.2.2.2.1,(f2 b hb).2.2.2.2.2⟩
   exact fin _ H' s4 _ J5 q (let ⟨m,q,_⟩:=I4.loc;⟨m,q⟩) (I2.fpOk hCle I4.free)
  ·refine thn (T.item (X.block (x :: caps) scope cl G.objs.size fp s2 H2) rfl rfl rfl hc k [] s3 _ _ (fun _ _=>False) I3 (stat fr3) st3 go) fun r s4 ⟨u,hr,h4⟩=>?_
   subst hr
   refine thn h4 fun _ s5 ⟨v,H5,I5,r5,y5,st5,fr5⟩=>?_
   have I5':=I5.pinned (stat fr5) (T.obj _ _ st5)
   have stp:=step v H5 y5
   refine thn (J1o (X:=X.block (x :: caps) scope cl G.objs.size fp s2 H2) (i:=0) (pos:=px) hnd rfl (.inl hxl) (.inr hxl) _ s5 _ _ _ u
    (fun σ' H'=>σ'=some v :: capv σ js∧H'=H5) I5' r5 ⟨rfl,rfl⟩) fun _ s6 ⟨σ6,H6,I6,q6⟩=>?_
   obtain ⟨rfl,rfl⟩:=q6
   refine thn (ht _ _ _ _ _ s6 _ _ _ I6 stp) fun ok s7 ⟨H7,I7,q7⟩=>?_
   have back:∀ {s8:Shared} {H8:Hp} {o8:Option V} {ys8:List V} {m':Nat},Inv (X.block (x :: caps) scope cl G.objs.size fp s2 H2) ([] ++ pinsAt fp s5.heap) (o8 :: capv σ js) H8 s8→m' < m→W (k + 1) m' ys8 H8→
     ∃ m',m' < m∧∃ (k:Nat) (o:Option V) (ys:List V) (H':Hp),Inv (X.block (x :: caps) scope cl G.objs.size fp s2 H2) [] (o :: capv σ js) H' s8∧tn k s8.heap∧(∀ b∈fp,H' b=none)∧W k m' ys H':=fun {s8 H8 o8 ys8 m'} I8 hm w8=>by
    refine ⟨m',hm,k + 1,o8,ys8,H8,I8.unpinned,T.keep _ _ _ st5 fun b hb o e=>(I8.pin (b,o) (List.mem_append_right _ (List.mem_append_right _ (J1p hb e)))).1,fun b hb=>?_,w8⟩
    obtain ⟨o,e,d⟩:=T.obj _ _ st5 b hb
    exact (I8.pin (b,o) (List.mem_append_right _ (List.mem_append_right _ (J1p hb e)))).2.1
   cases ok with
   | false =>
    have q7':∃ m',m' < m∧W (k + 1) m' ys H7:=by
     have:=q7
     rwa [if_neg (by decide)] at this
    obtain ⟨m',hm,w8⟩:=q7'
    exact back I7 hm w8
   | true =>
    have q7':te (some v :: capv σ js) H7 fun y H5=>H5 s2.heap.objs.size=some (.lst ys)∧∃ m',m' < m∧W (k + 1) m' (ys ++ [y]) (upd H5 s2.heap.objs.size (.lst (ys ++ [y]))):=by
     have:=q7
     rwa [if_pos rfl] at this
    refine (show wpAny _ _ _ _ _ _ from thn (he _ _ _ _ _ s7 _ _ _ I7 q7') fun u8 s8 ⟨v8,H8,I8,r8,hd8,m',hm,w8⟩=>?_)
    refine thn (J28 (X:=X.block (x :: caps) scope cl G.objs.size fp s2 H2) _ s8 _ _ (.ref s2.heap.objs.size) [v8] (.ref s2.heap.objs.size) [u8]
     (fun _ H'=>H'=upd H8 s2.heap.objs.size (.lst (ys ++ [v8]))) I8 rfl (.cons r8 .nil) ⟨s2.heap.objs.size,_,v8,rfl,rfl,hd8,hz,rfl⟩) fun _ s9 ⟨_,H9,I9,_,q9⟩=>?_
    subst q9
    exact back I9 hm w8
 have st1:tn 0 h₁:=T.keep _ _ _ st2 fun b hb o e=>old b o e
 exact codeAny_compStart_list (loop _) (T.self X.A 0 _ _ _ st1 (loop _))
def capsOk (X:Cx) (scope:Scope) (cl:List (Str × Addr)) (caps:List Str) (js:List Nat):Bool :=
 (caps.zip js).all fun q=>X.N[q.2]? == some q.1 && X.env.scope.names.lookup q.1 == some .cell && (cl.lookup q.1).isSome && (relabel scope X.env).names.lookup q.1 == some .cell
theorem capsOk.get (hlen:caps.length=js.length) (h:capsOk X scope cl caps js=true):∀ (k:Nat) (c:Str),caps[k]?=some c→∃ (j:Nat) (a:Addr),js[k]?=some j∧X.N[j]?=some c∧X.env.scope.names.lookup c=some .cell∧cl.lookup c=some a∧(relabel scope X.env).names.lookup c=some .cell:=fun k c hk=>by
 have hkl:k < caps.length:=(List.getElem?_eq_some_iff.mp hk).1
 have hj:js[k]?=some (js[k]'(hlen ▸ hkl)):=List.getElem?_eq_getElem (hlen ▸ hkl)
 have hm:(c,js[k]'(hlen ▸ hkl))∈caps.zip js:=by
  refine List.mem_iff_getElem?.mpr ⟨k,?_⟩
  rw [List.getElem?_zip_eq_some]
  exact ⟨hk,hj⟩
 have:=List.all_eq_true.mp h _ hm
 simp only [Bool.and_eq_true,beq_iff_eq] at this
 obtain ⟨⟨⟨q1,q2⟩,q3⟩,q4⟩:=this
 obtain ⟨a,ha⟩:=Option.isSome_iff_exists.mp q3
 exact ⟨_,a,hj,q1,q2,ha,q4⟩
def freeOk (scope:Scope) (cl:List (Str × Addr)):Bool:=scope.names.all fun p=>p.2 != .free || (cl.lookup p.1).isSome
theorem freeOk.get (h:freeOk scope cl=true):∀ p∈scope.names,p.2=.free→∃ c,cl.lookup p.1=some c:=fun p hp' e=>by
 have:=List.all_eq_true.mp h p hp'
 rw [e] at this
 exact Option.isSome_iff_exists.mp (by simpa using this)
theorem pe_lc (hc:X.calm=true) (hp:PI X (.Name x px) iter wi) (hclos:closureFor scope X.env=pure cl)
  (ht:∀ (C:Addr) (fp:List Addr) (s:Shared) (H:Hp),PTs (X.block (x :: caps) scope cl C fp s H) ifs tc)
  (he:∀ (C:Addr) (fp:List Addr) (s:Shared) (H:Hp),PE (X.block (x :: caps) scope cl C fp s H) elt te)
  (hcell:∀ p∈scope.names,p.2≠.cell) (hnames:∀ p∈scope.names,p.2=.local→scope.names.lookup p.1=some .local) (hnd:(x :: caps).Nodup)
  (hsub:∀ p∈cl,X.env.cells.lookup p.1=some p.2)
  (hhas:freeOk scope cl=true:=by rfl) (hlen:caps.length=js.length:=by rfl) (hcaps:capsOk X scope cl caps js=true:=by rfl)
  (hkind:scope.kind=.function:=by rfl) (hx:scope.names.lookup x=some .local:=by rfl) (hs:∀ v,foldedSetIterable iter X.env v=pure v:=by intro _;rfl) :
  PE X (.ListComp elt [⟨.Name x px,iter,ifs,0⟩] scope pos) (tLC wi tc te js):=by
 intro pins s σ H Q I h
 rw [eval_ListComp]
 refine comp_core (use:=none) hc hp he ht hcell hnames hnd hsub (freeOk.get hhas) hlen (capsOk.get hlen hcaps) hclos hkind hx hs I h fun d H' s5 C J5 q hC fp=>?_
 obtain ⟨m,nsC⟩:=hC
 exact ⟨m,nsC,fun h' hs'=>⟨.ref d,H',J5.turned (h':=h') (t':=s5.toks) (it:=C) (fun b o hb e=>(hs'.2 b hb).trans e) fp.1 fp.2.1 fp.2.2.2.1 fp.2.2.2.2.1 fp.2.2.2.2.2,rfl,q⟩⟩
end
theorem lc_over {J:It} {H1:Hp} {tc:TT} {te:TE} {σ:St} {js:List Nat} {Q:VK} {d:Addr} (n:Nat) (g:Nat→Bool) (f:Nat→V) (hd:H1 d=none) (hn:n≤1000)
  (hgo:∀ i H,i < n→Same H1 H→J.go i H) (hst:∀ H,Same H1 H→J.stop n H) (vv:Nat→V) (hy:∀ i H v H',i < n→Same H1 H→J.yld i H v H'→H'=H∧v=vv i)
  (hs:∀ i H Qt,i < n→Same H1 H→(∀ H',Same H H'→Qt (g i) H')→tc (some (vv i) :: capv σ js) H Qt)
  (he:∀ i H Qe,i < n→g i=true→Same H1 H→(∀ H',Same H H'→Qe (f i) H')→te (some (vv i) :: capv σ js) H Qe)
  (hq:∀ H',Same H1 H'→H' d=some (.lst (((List.range n).filter g).map f))→Q (.ref d) H') :
  ∃ W:Nat→Nat→List V→Hp→Prop,(∃ m,W 0 m [] (upd H1 d (.lst [])))∧
   ∀ i m ys H2,W i m ys H2→H2 d=some (.lst ys)∧((J.stop i H2∧Q (.ref d) H2)∨(J.go i H2∧ys.length < sizeLine∧∀ v H3,J.yld i H2 v H3→
    tc (some v :: capv σ js) H3 fun b H4=>if b=true then te (some v :: capv σ js) H4 fun y H5=>H5 d=some (.lst ys)∧∃ m',m' < m∧W (i + 1) m' (ys ++ [y]) (upd H5 d (.lst (ys ++ [y])))
     else ∃ m',m' < m∧W (i + 1) m' ys H4)):=by
 have s0:∀ o,Same H1 (upd H1 d o):=fun o b u e=>by rw [Jd (J9 e hd)];exact e
 refine ⟨fun i m ys H=>m=n - i∧i≤n∧ys=((List.range i).filter g).map f∧Same H1 H∧H d=some (.lst ys),⟨n,rfl,Nat.zero_le _,rfl,s0 _,upd_same⟩,?_⟩
 rintro i m ys H2 ⟨rfl,hi,rfl,sm,h2⟩
 refine ⟨h2,?_⟩
 by_cases hlt:i < n
 ·refine .inr ⟨hgo i H2 hlt sm,?_,fun v H3 y3=>?_⟩
  ·have h1:(((List.range i).filter g).map f).length≤i:=by
    rw [List.length_map]
    exact Nat.le_trans (List.length_filter_le _ _) (by rw [List.length_range];exact Nat.le_refl _)
   exact Jz (by omega)
  ·obtain ⟨rfl,rfl⟩:=hy i H2 v H3 hlt sm y3
   refine hs i H3 _ hlt sm fun H4 s4=>?_
   cases hg:g i with
   | false =>
    rw [if_neg (by decide)]
    refine ⟨n - (i + 1),by omega,rfl,hlt,?_,sm.trans s4,s4 _ _ h2⟩
    rw [List.range_succ,List.filter_append,List.map_append]
    simp [hg]
   | true =>
    rw [if_pos rfl]
    refine he i H4 _ hlt hg (sm.trans s4) fun H5 s5=>⟨s5 _ _ (s4 _ _ h2),n - (i + 1),by omega,rfl,hlt,?_,?_,upd_same⟩
    ·rw [List.range_succ,List.filter_append,List.map_append]
     simp [hg]
    ·intro b u e
     rw [Jd (J9 e hd)]
     exact s5 _ _ (s4 _ _ (sm _ _ e))
 ·have e:i=n:=by omega
  subst e
  exact .inl ⟨hst H2 sm,hq H2 sm h2⟩
theorem Same.tup {K:PySem.W.Frag} {H H':Hp} {a:Addr} {xs:List V} (e:Same H H') (h:SqT K H a xs):SqT K H' a xs:=by
 rcases h with (h | ⟨o,h⟩) | h
 ·exact .inl (.inl (e _ _ h))
 ·exact .inl (.inr ⟨o,e _ _ h⟩)
 ·exact .inr h
theorem pick_all {α:Type} (G:α→Bool) (F:α→V):∀ xs:List α,
  ((List.range xs.length).filter fun i=>match xs[i]? with | some v=>G v | none=>false).map (fun i=>match xs[i]? with | some v=>F v | none=>V.non)=(xs.filter G).map F
 | []=>rfl
 | a :: r=>by
  have ih:=pick_all G F r
  rw [List.length_cons,List.range_succ_eq_map,List.filter_cons,List.filter_map,List.filter_cons]
  have e:(fun i=>match (a :: r)[i]? with | some v=>G v | none=>false) ∘ Nat.succ=fun i=>match r[i]? with | some v=>G v | none=>false:=by
   funext i;simp
  have e2:(fun i=>match (a :: r)[i]? with | some v=>F v | none=>V.non) ∘ Nat.succ=fun i=>match r[i]? with | some v=>F v | none=>V.non:=by
   funext i;simp
  rw [e]
  cases hg:G a with
  | true =>
   simp only [List.getElem?_cons_zero,hg,if_true,List.map_cons,List.map_map]
   rw [e2,ih]
  | false =>
   simp only [List.getElem?_cons_zero,hg,Bool.false_eq_true,if_false,List.map_map]
   rw [e2,ih]
section
variable {α:Type} {K:PySem.W.Frag} {a:Addr} {H1:Hp} {tc:TT} {te:TE} {σ:St} {js:List Nat} {Q:VK} {d:Addr}
theorem lc_seq {J:It} (e:α→V) (xs:List α) (G:α→Bool) (F:α→V) (hn:xs.length≤1000) (hd:H1 d=none)
  (hgo:∀ i H,i < xs.length→Same H1 H→J.go i H) (hst:∀ H,Same H1 H→J.stop xs.length H) (hy:∀ i H v H',i < xs.length→Same H1 H→J.yld i H v H'→H'=H∧(xs.map e)[i]?=some v)
  (hs:∀ v∈xs,∀ H Qt,Same H1 H→(∀ H',Same H H'→Qt (G v) H')→tc (some (e v) :: capv σ js) H Qt)
  (he:∀ v∈xs,∀ H Qe,G v=true→Same H1 H→(∀ H',Same H H'→Qe (F v) H')→te (some (e v) :: capv σ js) H Qe)
  (hq:∀ H',Same H1 H'→H' d=some (.lst ((xs.filter G).map F))→Q (.ref d) H'):LCW J tc te σ js Q H1 d:=by
 have at_:∀ i,i < xs.length→∃ v,xs[i]?=some v∧v∈xs:=fun i hi=>⟨_,List.getElem?_eq_getElem hi,List.getElem_mem hi⟩
 refine lc_over xs.length (fun i=>match xs[i]? with | some v=>G v | none=>false) (fun i=>match xs[i]? with | some v=>F v | none=>V.non) hd hn hgo hst (fun i=>((xs.map e)[i]?).getD .non)
  (fun i H v H' hi s y=>?_) (fun i H Qt hi s k=>?_) (fun i H Qe hi hg s k=>?_) (fun H' s h=>?_)
 ·obtain ⟨e1,e2⟩:=hy i H v H' hi s y
  exact ⟨e1,by rw [e2];rfl⟩
 ·obtain ⟨v,e1,hv⟩:=at_ i hi
  rw [List.getElem?_map,e1]
  refine hs v hv H Qt s fun H' s'=>?_
  have:=k H' s'
  rw [e1] at this
  exact this
 ·obtain ⟨v,e1,hv⟩:=at_ i hi
  rw [e1] at hg
  rw [List.getElem?_map,e1]
  refine he v hv H Qe hg s fun H' s'=>?_
  have:=k H' s'
  rw [e1] at this
  exact this
 ·rw [pick_all] at h
  exact hq H' s h
theorem lc_tup (e:α→V) (xs:List α) (G:α→Bool) (F:α→V) (hx:SqT K H1 a (xs.map e)) (hn:xs.length≤1000) (hd:H1 d=none)
  (hs:∀ v∈xs,∀ H Qt,Same H1 H→(∀ H',Same H H'→Qt (G v) H')→tc (some (e v) :: capv σ js) H Qt)
  (he:∀ v∈xs,∀ H Qe,G v=true→Same H1 H→(∀ H',Same H H'→Qe (F v) H')→te (some (e v) :: capv σ js) H Qe)
  (hq:∀ H',Same H1 H'→H' d=some (.lst ((xs.filter G).map F))→Q (.ref d) H'):LCW (Itt K a) tc te σ js Q H1 d :=
 lc_seq e xs G F hn hd (fun i H hi s=>⟨_,_,s.tup hx,by rw [List.getElem?_map,List.getElem?_eq_getElem hi];rfl⟩) (fun H s=>⟨_,s.tup hx,by rw [List.length_map];exact Nat.le_refl _⟩)
  (fun i H v H' hi s y=>⟨y.1,y.2 _ (s.tup hx)⟩) hs he hq
theorem lc_lst (e:α→V) (xs:List α) (G:α→Bool) (F:α→V) (hx:SqL K H1 a (xs.map e)) (hn:xs.length≤1000) (hd:H1 d=none)
  (hs:∀ v∈xs,∀ H Qt,Same H1 H→(∀ H',Same H H'→Qt (G v) H')→tc (some (e v) :: capv σ js) H Qt)
  (he:∀ v∈xs,∀ H Qe,G v=true→Same H1 H→(∀ H',Same H H'→Qe (F v) H')→te (some (e v) :: capv σ js) H Qe)
  (hq:∀ H',Same H1 H'→H' d=some (.lst ((xs.filter G).map F))→Q (.ref d) H'):LCW (Itl K a) tc te σ js Q H1 d :=
 lc_seq e xs G F hn hd (fun i H hi s=>⟨_,_,s.seq hx,by rw [List.getElem?_map,List.getElem?_eq_getElem hi];rfl⟩) (fun H s=>⟨_,s.seq hx,by rw [List.length_map];exact Nat.le_refl _⟩)
  (fun i H v H' hi s y=>⟨y.1,y.2 _ (s.seq hx)⟩) hs he hq
theorem lc_rng (lo:Int) (n:Nat) (G:Nat→Bool) (F:Nat→V) (hn:n≤1000) (hd:H1 d=none)
  (hs:∀ i,i < n→∀ H Qt,Same H1 H→(∀ H',Same H H'→Qt (G i) H')→tc (some (.int (lo + i)) :: capv σ js) H Qt)
  (he:∀ i,i < n→∀ H Qe,G i=true→Same H1 H→(∀ H',Same H H'→Qe (F i) H')→te (some (.int (lo + i)) :: capv σ js) H Qe)
  (hq:∀ H',Same H1 H'→H' d=some (.lst (((List.range n).filter G).map F))→Q (.ref d) H'):LCW (Itr lo n) tc te σ js Q H1 d :=
 lc_over n G F hd hn (fun i H hi _=>hi) (fun H _=>Nat.le_refl _) (fun i=>.int (lo + i)) (fun i H v H' hi _ y=>y) (fun i H Qt hi s k=>hs i hi H Qt s k) (fun i H Qe hi hg s k=>he i hi H Qe hg s k) hq
end
theorem J2p {α:Type} (xs:List α):xs.filter (fun _=>true)=xs:=List.filter_eq_self.mpr fun _ _=>rfl
end L2
namespace L2
open PySem PySem.Spec PyProof.Rows
section
variable {X:Cx}
def rNeT (K:PySem.W.Frag):R2:=fun x y H Q=>∃ p q xs ys,x=.ref p∧y=.ref q∧SqT K H p xs∧SqT K H q ys∧Kin xs ys∧Q (.bl (!decide (xs=ys))) H
theorem tup_all {xs ys:List V} {its its2:List Value} (l1:xs.length=its.length) (l2:ys.length=its2.length) (hk:Kin xs ys) :
  ((List.range (min its.toArray.size its2.toArray.size)).all (eAt xs ys) && its.toArray.size == its2.toArray.size)=decide (xs=ys):=by
 rw [List.size_toArray,List.size_toArray,← l1,← l2]
 by_cases hl:xs.length=ys.length
 ·rw [hl,Nat.min_self,← hl,all_eAt hl hk]
  simp
 ·rw [decide_eq_false (fun e=>hl (congrArg List.length e)),show (xs.length == ys.length)=false from by simpa using hl,Bool.and_false]
theorem op_neT (hu:X.A.units < cLine):OpR X (compareOp .NotEq) (rNeT X.K):=by
 intro pins s σ H x y v u Q I rx ry h
 obtain ⟨p,q,xs,ys,rfl,rfl,hp,hq,hk,hQ⟩:=h
 cases rx
 cases ry
 obtain ⟨its,r,pl,_⟩:=I.tuple hp
 obtain ⟨its2,r2,pl2,_⟩:=I.tuple hq
 refine SeqAt.RcNeAt.tuples (show s.heap.IsTuple p its.toArray from pl) (show s.heap.IsTuple q its2.toArray from pl2) hu (fun j h1 h2=>eAt_at r r2 hk j h1 h2) _ _ _ _ ?_
 rw [tup_all r.length r2.length hk]
 exact ⟨.bl _,H,I,rfl,hQ⟩
theorem bools_at {bs:List Bool} {i:Nat} {v:Value} (h:((bs.map Value.bool).toArray)[i]?=some v):v=Value.bool (bs.getD i false):=by
 rw [List.getElem?_toArray,List.getElem?_map] at h
 cases e:bs[i]? with
 | none=>rw [e] at h;cases h
 | some b =>
  rw [e] at h
  rw [List.getD_eq_getElem?_getD,e]
  exact (Option.some.inj h).symm
theorem truth_bools {prog:Program} {w:World} {A:Around} (bs:List Bool):TruthOf prog w A (fun i v=>((bs.map Value.bool).toArray)[i]?=some v) (fun i=>bs.getD i false):=by
 intro i v s Q E hP h
 rw [bools_at hP]
 exact wpAny_truthy_bool h
theorem range_any (bs:List Bool):((List.range bs.length).any fun i=>bs.getD i false)=bs.any id:=by
 have e:(List.range bs.length).map (fun i=>bs.getD i false)=bs:=by
  apply List.ext_getElem
  ·simp
  ·intro n h1 h2
   simp [List.getElem?_eq_getElem h2]
 conv=>rhs;rw [← e]
 rw [List.any_map]
 rfl
theorem call_any (hc:X.calm=true):CallR X (.builtin "any") (fun xs H Q=>∃ (p:Addr) (bs:List Bool),xs=[.ref p]∧SqL X.K H p (bs.map V.bl)∧Q (.bl (bs.any id)) H):=by
 intro pins s σ H xs us Q I r h
 obtain ⟨p,bs,rfl,hq,q⟩:=h
 obtain ⟨u,rfl,rx⟩:=vals1 r
 cases rx
 obtain ⟨its,r',pl,hz⟩:=I.list hq
 obtain rfl:=boolsAre r'
 have hl:=pl.isList
 obtain ⟨o,ho,_⟩:=id hl
 have hne':p≠s.heap.objs.size:=Nat.ne_of_lt (Heap.lt_size ho)
 refine call_any_walk (wpAny_pyIter_list hl ⟨s.heap.objs.size,_,_,_,_,_,_,rfl,Walks.list (A:=X.A.in1) (I.ok.hd hc) _ p hne' _,⟨⟨_,Heap.get?_push_size _ rfl,rfl,rfl⟩,hl.at fun o e=>Heap.get?_push_of_some _ e⟩,truth_bools bs,fun h' tk hk=>?_⟩)
 rw [List.size_toArray,List.length_map,range_any]
 exact ⟨.bl _,H,I.kept (fun b o e=>hk b o (fun hb=>absurd (Heap.lt_size e) ((List.mem_singleton.mp hb) ▸ Nat.lt_irrefl _)) (Heap.get?_push_of_some _ e)),rfl,q⟩
def rIndexL (K:PySem.W.Frag):V→List V→Hp→VK→Prop:=fun x vs H Q=>∃ (l:Addr) (ns:List Int) (k:Int),x=.ref l∧vs=[.int k]∧SqL K H l (ns.map V.int)∧k∈ns∧Q (.int (ns.idxOf k:Nat)) H
theorem mt_indexL:MtM X "list.index" (rIndexL X.K):=by
 intro pins s σ H x vs v us Q I rx rv h
 obtain ⟨l,ns,k,rfl,rfl,hH,hk,q⟩:=h
 cases rx
 obtain ⟨u1,rfl,⟨t,rfl⟩⟩:=rv.one
 obtain ⟨its,r',pl,hz⟩:=I.list hH
 have hi:=J15 r'
 have hlen:=hi.length
 obtain ⟨⟨cls,dd,data,sl⟩,ho,hc,n,hd⟩:=id pl.isList
 simp only at hc hd
 subst hc hd
 have hj:ns.idxOf k < ns.length:=List.idxOf_lt_length_iff.mpr hk
 have h63:=J4f
 rw [List.length_map] at hz
 refine call_meets PySem.F.slot_list_index ⟨_,ho,rfl⟩ PySem.F.entry_list_index (PySem.F.args_list_index_2 _ _)
  (SeqAt.list_indexAt l its.toArray n dd sl (.int k t) (isInt k) (ns.idxOf k) (by simpa [hlen] using hj) (by omega) ?_ ?_) ⟨ho,fun y hy=>(eq_isInt k t hi y (by simpa using hy)).at _ _,⟨.int _,H,I.tok _,⟨_,rfl⟩,q⟩⟩
 ·show isInt k its[ns.idxOf k]=true
  rw [isInt_at k hi _ (by omega) hj]
  simpa using List.getElem_idxOf hj
 ·intro j hjs hlt
  show isInt k its[j]=false
  rw [isInt_at k hi j (by simpa using hjs) (by omega)]
  exact ne_of_lt_idxOf hlt _
end
end L2
namespace L2
open PySem PySem.Spec PyProof.Rows
theorem J2u {M:Model} {A:Around} {E:Value→Shared→Prop} {s:Shared} {β:Type} (k:Nat) (f:Nat→β→Sem (ForInStep β)) (I:Nat→β→Shared→Prop) (Q:β→Shared→Prop)
  (turn:∀ i b s,i < k→I i b s→wpAny M A (f i b) (fun r s'=>match r with | .yield b'=>I (i + 1) b' s' | .done b'=>Q b' s') E s)
  (fin:∀ b s,I k b s→Q b s) (b:β) (h:I 0 b s):wpAny M A (forIn ([0:k]:Std.Legacy.Range) b f) Q E s:=by
 rw [Std.Legacy.Range.forIn_eq_forIn_range']
 simp only [Std.Legacy.Range.size,Nat.sub_zero,Nat.add_sub_cancel,Nat.div_one]
 refine wpAny_forIn_list _ (fun rest b s'=>∃ i,rest=List.range' i (k - i)∧i≤k∧I i b s') _ ?_ ?_ _ _ ⟨0,by simp,Nat.zero_le _,h⟩
 ·rintro x rest b s' ⟨i,hr,hi,hI⟩
  have hlt:i < k:=by
   rcases Nat.lt_or_ge i k with q | q
   ·exact q
   ·rw [Nat.sub_eq_zero_of_le q] at hr;simp at hr
  obtain ⟨rfl,hrest⟩:x=i∧rest=List.range' (i + 1) (k - (i + 1)):=by
   have e:k - i=(k - (i + 1)) + 1:=by omega
   rw [e,List.range'_succ] at hr
   injection hr with h1 h2
   exact ⟨h1,h2⟩
  refine wpAny_mono (turn x b s' hlt hI) (fun r s2 hr2=>?_) fun _ _ z=>z
  cases r with
  | done b'=>exact hr2
  | yield b'=>exact ⟨x + 1,hrest,hlt,hr2⟩
 ·rintro b s' ⟨i,hr,hi,hI⟩
  have:i=k:=by
   have:=congrArg List.length hr
   simp at this
   omega
  subst this
  exact fin b s' hI
theorem J3k (l:Addr) (items:Array Value) (n:Nat) (dd:Option Addr) (sl:Array (Option Value)) (x:Value) (e:Value→Bool) (j:Nat) (hj:j < items.size)
  (hit:e items[j]=true) (hno:∀ m (hm:m < items.size),m < j→e items[m]=false) :
  Meets (Builtin.«tuple.index» ⟨[.ref l,x],[]⟩)
   (fun A R s=>s.heap.get? l=some { cls:=.type "tuple",dict:=dd,data:=.seq items n,slots:=sl }∧(∀ y,y∈items→SeqAt.EqAt A.in1 s y x (e y))∧R (.ok (.ret (.int j s.toks))) { s with toks:=s.toks + 1 }) :=
 .of_wp fun prog w A R s h=>by
  obtain ⟨hp,g,d,tk,os⟩:=s;obtain ⟨hl,he,h⟩:=h
  wp_walk using AutoSeq1.wpAny_loadPart' hl,J2u _ _ (fun i b s'=>b=(none,())∧s'=⟨hp,g,d,tk,os⟩∧i≤j) _
  case turn =>
   rintro i b s' hi ⟨rfl,rfl,hij⟩
   have hi':i < items.size:=by simpa using hi
   dsimp only
   rw [Array.getElem?_eq_getElem hi']
   refine wpAny_bind (he _ (Array.getElem_mem hi') prog w _ _ ?_)
   rcases Nat.lt_or_ge i j with q | q
   ·rw [hno i hi' q]
    wp_walk
    exact ⟨rfl,rfl,q⟩
   ·have:i=j:=by omega
    subst this
    rw [hit]
    wp_walk
    exact ⟨_,rfl,h⟩
  case fin =>
   rintro b s' ⟨rfl,rfl,hij⟩
   exfalso
   simp at hij
   omega
  case h=>exact ⟨rfl,rfl,Nat.zero_le _⟩
def rIndexT:V→List V→Hp→VK→Prop:=fun x vs H Q=>∃ (l:Addr) (ns:List Int) (k:Int),x=.ref l∧vs=[.int k]∧H l=some (.tup (ns.map V.int))∧k∈ns∧Q (.int (ns.idxOf k:Nat)) H
theorem mt_indexT {X:Cx}:MtM X "tuple.index" rIndexT:=by
 intro pins s σ H x vs v us Q I rx rv h
 obtain ⟨l,ns,k,rfl,rfl,hH,hk,q⟩:=h
 cases rx
 obtain ⟨u1,rfl,⟨t,rfl⟩⟩:=rv.one
 obtain ⟨its,r',pl,hz⟩:=I.tuple (SqT.of hH)
 have hi:=J15 r'
 have hlen:=hi.length
 obtain ⟨⟨cls,dd,data,sl⟩,ho,hc,n,hd⟩:=id pl
 simp only at hc hd
 subst hc hd
 have hj:ns.idxOf k < ns.length:=List.idxOf_lt_length_iff.mpr hk
 refine call_meets PySem.F.slot_tuple_index ⟨_,ho,rfl⟩ PySem.F.entry_tuple_index (PySem.F.args_tuple_index_2 _ _)
  (J3k l its.toArray n dd sl (.int k t) (isInt k) (ns.idxOf k) (by simpa [hlen] using hj) ?_ ?_) ⟨ho,fun y hy=>(eq_isInt k t hi y (by simpa using hy)).at _ _,⟨.int _,H,I.tok _,⟨_,rfl⟩,q⟩⟩
 ·show isInt k its[ns.idxOf k]=true
  rw [isInt_at k hi _ (by omega) hj]
  simpa using List.getElem_idxOf hj
 ·intro j hjs hlt
  show isInt k its[j]=false
  rw [isInt_at k hi j (by simpa using hjs) (by omega)]
  exact ne_of_lt_idxOf hlt _
def tBMT (r:V→List V→Hp→VK→Prop) (to:TE) (t:TA):TE:=fun σ H Q=>to σ H fun x H1=>(∃ p xs,x=.ref p∧H1 p=some (.tup xs))∧t σ H1 fun xs H2=>r x xs H2 Q
theorem pe_bmT {X:Cx} {o e:Expr} {es:List Expr} {to:TE} {t:TA} {name:Str} {apos cpos:Pos} {id:String} {r:V→List V→Hp→VK→Prop} (slot:Slot "tuple" name id) (hty:typeOf (.builtin id)=pure (.type "method_descriptor")) (hm:MtR X id r) (ho:PE X o to) (ha:PA X (e :: es) t)
  (hbase:attributeBase o name X.env (eval o X.env)=eval o X.env:=by rfl)
  (hfew:((backTo cpos (starEach (e :: es) X.env)).all (fun x=>!x.1) && (backToKw cpos (keywordEach [] X.env)).all (fun x=>x.1.isSome)
   && decide ((e :: es).length + ([]:List Keyword).length + (if ([]:List Keyword).isEmpty then 0 else 1) < 30))=true:=by rfl)
  (hline:(apos.endLine == cpos.line)=true:=by rfl) (hs:starEach (e :: es) X.env=(false,eval e X.env) :: starEach es X.env:=by rfl) (hplain:(backTo cpos (starEach es X.env)).any (·.1)=false:=by rfl) :
  PE X (.Call (.Attribute o name apos) (e :: es) [] cpos) (tBMT r to t):=by
 intro pins s σ H Q I h
 refine wpAny_Call_method_late hbase hfew hline rfl (thn (ho pins s σ H _ I h) fun v s1 ⟨x,H1,I1,r1,ty,q1⟩=>?_)
 obtain ⟨p,xs,rfl,hp⟩:=ty
 obtain rfl:v=Value.ref p:=r1
 obtain ⟨_,its,_,o,e1,⟨c1,c2⟩,_⟩:=(show ObjOk X.prog X.w H1 s1.heap p (.tup xs) from I1.hok p _ hp)
 refine ⟨"tuple",id,PySem.F.plainAttrs_tuple,slot,hty,⟨o,e1,c1⟩,fun a e2=>by cases e2;exact ⟨o,e1,c2⟩,?_⟩
 have hA:=ha cpos pins s1 σ H1 _ I1 q1
 rw [hs] at hA ⊢
 refine Calls.callWith_builtin (by show (false || (backTo cpos (starEach es X.env)).any (·.1))=false;rw [hplain] <;> rfl) (Calls.evalArgs_plain ?_)
 exact thn hA fun us s2 ⟨vs,H2,I2,r2,q2⟩=>hm pins s2 σ H2 (.ref p) vs (.ref p) us Q I2 rfl r2 q2
end L2
namespace L2
open PySem PySem.Spec PyProof.Rows
end L2
namespace L2
open PySem PySem.Spec PyProof.Rows
structure Refs (Pr:Addr→Nat→Prop) (xs:List V) (n:Nat):Prop where
 len:xs.length=n
 at_:∀ i,i < n→∃ q,xs[i]?=some (.ref q)∧Pr q i
theorem Refs.nil {Pr:Addr→Nat→Prop}:Refs Pr [] 0:=⟨rfl,fun i h=>absurd h (Nat.not_lt_zero _)⟩
theorem Refs.mono {Pr Pr':Addr→Nat→Prop} {xs:List V} {n:Nat} (h:Refs Pr xs n) (m:∀ q i,i < n→Pr q i→Pr' q i):Refs Pr' xs n :=
 ⟨h.len,fun i hi=>let ⟨q,e,p⟩:=h.at_ i hi;⟨q,e,m q i hi p⟩⟩
theorem pe_bmK {X:Cx} {T:String} {name:Str} {id:String} {r:V→List V→Hp→VK→Prop} {o e:Expr} {es:List Expr} {to:TE} {t:TA} {apos cpos:Pos} (K:PySem.W.Frag) (pa:PlainAttrs T) (slot:Slot T name id) (hty:typeOf (.builtin id)=pure (.type "method_descriptor")) (hm:MtR X id r) (ho:PE X o to) (ha:PA X (e :: es) t)
  (h:X.K=K:=by rfl) (hbase:attributeBase o name X.env (eval o X.env)=eval o X.env:=by rfl)
  (hfew:((backTo cpos (starEach (e :: es) X.env)).all (fun x=>!x.1) && (backToKw cpos (keywordEach [] X.env)).all (fun x=>x.1.isSome)
   && decide ((e :: es).length + ([]:List Keyword).length + (if ([]:List Keyword).isEmpty then 0 else 1) < 30))=true:=by rfl)
  (hline:(apos.endLine == cpos.line)=true:=by rfl) (hs:starEach (e :: es) X.env=(false,eval e X.env) :: starEach es X.env:=by rfl) (hplain:(backTo cpos (starEach es X.env)).any (·.1)=false:=by rfl) :
  PE X (.Call (.Attribute o name apos) (e :: es) [] cpos) (tBM K T r to t):=by
 subst h
 exact pe_bm pa slot hty hm ho ha hbase hfew hline hs hplain
theorem mt_indexLK {X:Cx} (K:PySem.W.Frag) (h:X.K=K:=by rfl):MtM X "list.index" (rIndexL K):=by subst h;exact mt_indexL
end L2
namespace L2
open PySem PySem.Spec PyProof.Rows
section
variable {κ:Type} [DecidableEq κ]
def valV (kvs:List (κ × V)) (k:κ):Option V:=(kvs.find? fun kv=>decide (kv.1=k)).map (·.2)
def putK (kvs:List (κ × V)) (k:κ) (v:V):List (κ × V) :=
 if (kvs.any fun kv=>decide (kv.1=k))=true then kvs.map (fun kv=>if kv.1=k then (kv.1,v) else kv) else kvs ++ [(k,v)]
def dropK (kvs:List (κ × V)) (k:κ):List (κ × V):=kvs.filter fun kv=>decide (kv.1≠k)
theorem Js {p:κ × V} {r:List (κ × V)} {k:κ} (e:p.1=k):valV (p :: r) k=some p.2:=by simp [valV,List.find?_cons,e]
theorem Jt {p:κ × V} {r:List (κ × V)} {k:κ} (e:¬ p.1=k):valV (p :: r) k=valV r k:=by simp [valV,List.find?_cons,e]
theorem J2b (k:κ):∀ kvs:List (κ × V),(kvs.any fun kv=>decide (kv.1=k))=(valV kvs k).isSome
 | []=>rfl
 | p :: r=>by
  rw [List.any_cons]
  by_cases e:p.1=k
  ·simp only [Js e,decide_eq_true e,Bool.true_or,Option.isSome_some]
  ·rw [Jt e,decide_eq_false e,Bool.false_or];exact J2b k r
theorem valV_map (k j:κ) (y:V):∀ kvs:List (κ × V),valV (kvs.map fun kv=>if kv.1=k then (kv.1,y) else kv) j=(valV kvs j).map fun x=>if j=k then y else x
 | []=>rfl
 | p :: r=>by
  have ih:=valV_map k j y r
  rw [List.map_cons]
  by_cases h:p.1=k
  ·rw [if_pos h]
   by_cases e:p.1=j
   ·rw [Js (p:=(p.1,y)) e,Js e,Option.map_some,if_pos (e.symm.trans h)]
   ·rw [Jt (p:=(p.1,y)) e,Jt e,ih]
  ·rw [if_neg h]
   by_cases e:p.1=j
   ·rw [Js (p:=p) e,Js e,Option.map_some,if_neg (fun z=>h (e.trans z))]
   ·rw [Jt (p:=p) e,Jt e,ih]
theorem valV_snoc (k j:κ) (y:V):∀ kvs:List (κ × V),valV kvs k=none→valV (kvs ++ [(k,y)]) j=if j=k then some y else valV kvs j
 | [],_=>by
  by_cases e:k=j
  ·rw [if_pos e.symm];exact Js (p:=(k,y)) e
  ·rw [if_neg (fun z=>e z.symm)];exact Jt (p:=(k,y)) e
 | p :: r,hn=>by
  rw [List.cons_append]
  have hk:¬ p.1=k:=fun z=>by rw [Js z] at hn;cases hn
  rw [Jt hk] at hn
  have ih:=valV_snoc k j y r hn
  by_cases e:p.1=j
  ·rw [Js e,Js e,if_neg (fun z=>hk (e.trans z))]
  ·rw [Jt e,Jt e,ih]
theorem J38 (kvs:List (κ × V)) (k j:κ) (y:V):valV (putK kvs k y) j=if j=k then some y else valV kvs j:=by
 unfold putK
 by_cases a:(kvs.any fun kv=>decide (kv.1=k))=true
 ·rw [if_pos a,valV_map]
  rw [J2b] at a
  by_cases e:j=k
  ·obtain ⟨x,hx⟩:=Option.isSome_iff_exists.mp a
   rw [if_pos e,e,hx,Option.map_some,if_pos rfl]
  ·rw [if_neg e]
   cases valV kvs j with
   | none=>rfl
   | some x=>rw [Option.map_some,if_neg e]
 ·rw [if_neg a]
  refine valV_snoc k j y kvs ?_
  rw [J2b] at a
  cases q:valV kvs k with
  | none=>rfl
  | some x=>rw [q] at a;exact (a rfl).elim
theorem J34 (kvs:List (κ × V)) (k:κ) (v:V):(putK kvs k v).length≤kvs.length + 1:=by
 unfold putK
 split
 ·rw [List.length_map];omega
 ·rw [List.length_append,List.length_cons,List.length_nil];omega
theorem putK_new {kvs:List (κ × V)} {k:κ} (v:V) (h:valV kvs k=none):putK kvs k v=kvs ++ [(k,v)]:=by
 unfold putK
 rw [J2b,h]
 exact if_neg (by decide)
theorem RelO.isSome_eq {o:Option V} {u:Option Value} (r:RelO o u):o.isSome=u.isSome:=by
 cases o with
 | none=>cases u with
  | none=>rfl
  | some _=>exact (show False from r).elim
 | some _=>cases u with
  | none=>exact (show False from r).elim
  | some _=>rfl
theorem RelO.getD {o:Option V} {u:Option Value} {d:V} {d':Value} (r:RelO o u) (rd:RelV d d'):RelV (o.getD d) (u.getD d'):=by
 cases o with
 | none=>cases u with
  | none=>exact rd
  | some _=>exact (show False from r).elim
 | some _=>cases u with
  | none=>exact (show False from r).elim
  | some _=>exact r
theorem KV.val {kvs:List (κ × V)} {vs:List (κ × Value)} (r:KV kvs vs) (k:κ):RelO (valV kvs k) (valueAt vs k):=by
 unfold KV at r
 induction r with
 | nil=>exact True.intro
 | @cons p q ps qs h t ih =>
  obtain ⟨h1,h2⟩:=h
  by_cases e:p.1=k
  ·have e':q.1=k:=h1.symm.trans e
   have b:valueAt (q :: qs) k=some q.2:=by simp [valueAt,List.find?_cons,e']
   rw [Js e,b];exact h2
  ·have e':¬ q.1=k:=fun z=>e (h1.trans z)
   have b:valueAt (q :: qs) k=valueAt qs k:=by simp [valueAt,List.find?_cons,e']
   rw [Jt e,b];exact ih
theorem KV.any {kvs:List (κ × V)} {vs:List (κ × Value)} (r:KV kvs vs) (k:κ):(kvs.any fun kv=>decide (kv.1=k))=vs.any fun kv=>decide (kv.1=k):=by
 unfold KV at r
 induction r with
 | nil=>rfl
 | cons h t ih=>rw [List.any_cons,List.any_cons,ih,h.1]
theorem KV.repl {kvs:List (κ × V)} {vs:List (κ × Value)} (r:KV kvs vs) (k:κ) {y:V} {u:Value} (ry:RelV y u) :
  KV (kvs.map fun kv=>if kv.1=k then (kv.1,y) else kv) (vs.map fun kv=>if kv.1=k then (kv.1,u) else kv):=by
 unfold KV at r ⊢
 induction r with
 | nil=>exact .nil
 | @cons p q ps qs h t ih =>
  rw [List.map_cons,List.map_cons]
  refine .cons ?_ ih
  obtain ⟨h1,h2⟩:=h
  by_cases e:p.1=k
  ·rw [if_pos e,if_pos (h1.symm.trans e)];exact ⟨h1,ry⟩
  ·rw [if_neg e,if_neg (fun z=>e (h1.trans z))];exact ⟨h1,h2⟩
theorem KV.put {kvs:List (κ × V)} {vs:List (κ × Value)} (r:KV kvs vs) (k:κ) {y:V} {u:Value} (ry:RelV y u):KV (putK kvs k y) (stored vs k u):=by
 unfold putK stored
 rw [r.any k]
 by_cases e:(vs.any fun kv=>decide (kv.1=k))=true
 ·rw [if_pos e,if_pos e];exact r.repl k ry
 ·rw [if_neg e,if_neg e];exact Paired.snoc r ⟨rfl,ry⟩
theorem KV.drop {kvs:List (κ × V)} {vs:List (κ × Value)} (r:KV kvs vs) (k:κ):KV (dropK kvs k) (without vs k):=by
 unfold KV at r ⊢
 unfold dropK without
 induction r with
 | nil=>exact .nil
 | @cons p q ps qs h t ih =>
  obtain ⟨h1,h2⟩:=h
  rw [List.filter_cons,List.filter_cons]
  by_cases e:p.1=k
  ·have a:¬ decide (p.1≠k)=true:=by simp [e]
   have b:¬ decide (q.1≠k)=true:=by simp [h1.symm.trans e]
   rw [if_neg a,if_neg b];exact ih
  ·have e':¬ q.1=k:=fun z=>e (h1.trans z)
   have a:decide (p.1≠k)=true:=by simp [e]
   have b:decide (q.1≠k)=true:=by simp [e']
   rw [if_pos a,if_pos b];exact .cons ⟨h1,h2⟩ ih
theorem KV.length {kvs:List (κ × V)} {vs:List (κ × Value)} (r:KV kvs vs):kvs.length=vs.length:=Paired.length r
end
theorem kV_is {P:Program} {w:World} {k:Key} {u:Value} (r:RelV (kV k) u):(Jx P w).is k u=true:=by
 cases k with
 | inl i=>obtain ⟨t,e⟩:=(show ∃ t,u=Value.int i t from r);subst e;exact mixKind_int P w i t
 | inr x=>obtain ⟨t,e⟩:=(show ∃ t,u=Value.str x t from r);subst e;exact mixKind_str P w x t
theorem items_are {P:Program} {w:World}:∀ {ks:List Key} {us:List Value},Vals (ks.map kV) us→ItemsAre (Jx P w) ks us
 | [],_,r=>by rw [List.map_nil] at r;cases r;exact .nil
 | k :: ks,_,r=>by
  rw [List.map_cons] at r
  cases r with
  | cons h t=>exact .cons (kV_is h) (items_are t)
abbrev KT (H:Hp):List (List Key × V)→List (List Key × Addr × Value)→Prop:=Paired fun p q=>p.1=q.1∧H q.2.1=some (.tup (p.1.map kV))∧RelV p.2 q.2.2
theorem KT.val {H:Hp} {kvs:List (List Key × V)} {xs:List (List Key × Addr × Value)} (r:KT H kvs xs) (k:List Key):RelO (valV kvs k) ((atKey xs k).map (·.2)):=by
 induction r with
 | nil=>exact True.intro
 | @cons p q ps qs h t ih =>
  obtain ⟨h1,_,h2⟩:=h
  by_cases e:p.1=k
  ·have e':q.1=k:=h1.symm.trans e
   have b:atKey (q :: qs) k=some q.2:=by simp [atKey,List.find?_cons,e']
   rw [Js e,b];exact h2
  ·have e':¬ q.1=k:=fun z=>e (h1.trans z)
   have b:atKey (q :: qs) k=atKey qs k:=by simp [atKey,List.find?_cons,e']
   rw [Jt e,b];exact ih
theorem KT.repl {H:Hp} {kvs:List (List Key × V)} {xs:List (List Key × Addr × Value)} (r:KT H kvs xs) (k:List Key) {y:V} {u:Value} (ry:RelV y u) :
  KT H (kvs.map fun kv=>if kv.1=k then (kv.1,y) else kv) (xs.map (putAt k u)):=by
 induction r with
 | nil=>exact .nil
 | @cons p q ps qs h t ih =>
  rw [List.map_cons,List.map_cons]
  refine .cons ?_ ih
  obtain ⟨h1,h2,h3⟩:=h
  unfold putAt
  by_cases e:p.1=k
  ·rw [if_pos e,if_pos (h1.symm.trans e)];exact ⟨h1,h2,ry⟩
  ·rw [if_neg e,if_neg (fun z=>e (h1.trans z))];exact ⟨h1,h2,h3⟩
theorem KT.put {H:Hp} {kvs:List (List Key × V)} {xs:List (List Key × Addr × Value)} (r:KT H kvs xs) (k:List Key) {b:Addr} {y:V} {u:Value} (hb:H b=some (.tup (k.map kV))) (ry:RelV y u) :
  KT H (putK kvs k y) (storedH xs k b u):=by
 have e:(kvs.any fun kv=>decide (kv.1=k))=(atKey xs k).isSome:=by
  rw [J2b,(r.val k).isSome_eq,Option.isSome_map]
 unfold putK storedH
 rw [e]
 by_cases q:(atKey xs k).isSome=true
 ·rw [if_pos q,if_pos q];exact r.repl k ry
 ·rw [if_neg q,if_neg q];exact Paired.snoc r ⟨rfl,hb,ry⟩
theorem KT.keeps {H H':Hp} {kvs:List (List Key × V)} {xs:List (List Key × Addr × Value)} (r:KT H kvs xs) (ht:∀ b ys,H b=some (.tup ys)→H' b=some (.tup ys)):KT H' kvs xs :=
 Paired.mapP r fun _ _ z=>⟨z.1,ht _ _ z.2.1,z.2.2⟩
section
variable {P:Program} {w:World} {H:Hp} {h:Heap} {a:Addr}
theorem rd_of {u:HO} (ok:HOk P w H h) (e:Rd H a u):ObjOk P w H h a u:=e.ok ok
theorem dk_rd {kvs:List (Key × V)} (ok:HOk P w H h) (e:Rd H a (.dK kvs)):kvs.length≤sizeLine∧(a == sysModules)=false∧∃ vs,KV kvs vs∧h.DictOf (Jx P w) a vs :=
 show ObjOk P w H h a (.dK kvs) from rd_of ok e
theorem dk_of {kvs:List (Key × V)} (ok:HOk P w H h) (e:H a=some (.dK kvs)):kvs.length≤sizeLine∧(a == sysModules)=false∧∃ vs,KV kvs vs∧h.DictOf (Jx P w) a vs:=dk_rd ok (.inl e)
theorem key_of {ks:List Key} (ok:HOk P w H h) (e:H a=some (.tup (ks.map kV))):(tupleKind (Jx P w)).is h ks a:=by
 obtain ⟨_,its,r,o,h1,h2,n,h3⟩:=(show ObjOk P w H h a (.tup (ks.map kV)) from ok a _ e)
 exact ⟨o,its.toArray,n,h1,h2.1,h3,by simpa using items_are r⟩
theorem dt_rd {kvs:List (List Key × V)} (ok:HOk P w H h) (e:Rd H a (.dT kvs)):kvs.length≤sizeLine∧(a == sysModules)=false∧
  ∃ xs,KT H kvs xs∧h.DictOfH (tupleKind (Jx P w)) a xs:=by
 obtain ⟨z,y,xs,r,o,es,ep,h1,h2,h3,h4,h5⟩:=(show ObjOk P w H h a (.dT kvs) from rd_of ok e)
 refine ⟨z,y,xs,r,o,es,ep,h1,h2,h3,h4,fun x hx=>?_,h5⟩
 have all:∀ {l:List (List Key × V)} {m:List (List Key × Addr × Value)},KT H l m→∀ x∈m,(tupleKind (Jx P w)).is h x.1 x.2.1:=by
  intro l m q
  induction q with
  | nil=>intro x hx;exact nomatch hx
  | @cons p q ps qs hq t ih =>
   intro x hx
   rcases List.mem_cons.mp hx with e | hx
   ·subst e
    exact key_of ok (by rw [← hq.1];exact hq.2.1)
   ·exact ih x hx
 exact all r x hx
theorem dt_of {kvs:List (List Key × V)} (ok:HOk P w H h) (e:H a=some (.dT kvs)):kvs.length≤sizeLine∧(a == sysModules)=false∧
  ∃ xs,KT H kvs xs∧h.DictOfH (tupleKind (Jx P w)) a xs:=dt_rd ok (.inl e)
end
def DGet (H:Hp) (a:Addr) (y:V) (r:Option V):Prop :=
 (∃ kvs k,Rd H a (.dK kvs)∧y=kV k∧r=valV kvs k)∨∃ kvs k b,Rd H a (.dT kvs)∧y=.ref b∧H b=some (.tup (k.map kV))∧r=valV kvs k
def DPut (H:Hp) (a:Addr) (y v:V) (H':Hp):Prop :=
 (∃ kvs k,H a=some (.dK kvs)∧y=kV k∧kvs.length < sizeLine∧H'=upd H a (.dK (putK kvs k v)))∨
 ∃ kvs k b,H a=some (.dT kvs)∧y=.ref b∧H b=some (.tup (k.map kV))∧kvs.length < sizeLine∧H'=upd H a (.dT (putK kvs k v))
theorem DGet.k {H:Hp} {a:Addr} {kvs:List (Key × V)} {k:Key} (e:H a=some (.dK kvs)):DGet H a (kV k) (valV kvs k):=.inl ⟨kvs,k,.inl e,rfl,rfl⟩
theorem DGet.t {H:Hp} {a b:Addr} {kvs:List (List Key × V)} {k:List Key} (e:H a=some (.dT kvs)) (eb:H b=some (.tup (k.map kV))):DGet H a (.ref b) (valV kvs k):=.inr ⟨kvs,k,b,.inl e,rfl,eb,rfl⟩
theorem DPut.k {H:Hp} {a:Addr} {kvs:List (Key × V)} {k:Key} {v:V} (e:H a=some (.dK kvs)) (hl:kvs.length < sizeLine):DPut H a (kV k) v (upd H a (.dK (putK kvs k v))):=.inl ⟨kvs,k,e,rfl,hl,rfl⟩
theorem DPut.t {H:Hp} {a b:Addr} {kvs:List (List Key × V)} {k:List Key} {v:V} (e:H a=some (.dT kvs)) (eb:H b=some (.tup (k.map kV))) (hl:kvs.length < sizeLine) :
  DPut H a (.ref b) v (upd H a (.dT (putK kvs k v))):=.inr ⟨kvs,k,b,e,rfl,eb,hl,rfl⟩
section
variable {X:Cx} {pins:List (Addr × Obj)} {σ:St} {H:Hp} {s:Shared} {a:Addr} {y v:V} {u r:Value} {o:Option V} {A:Around} {E:Value→Shared→Prop}
theorem Inv.big (I:Inv X pins σ H s):sysModules < s.heap.objs.size:=by
 have h:mainGlobals < s.heap.objs.size:=(I.mod.glob.keeps I.bk).lt
 exact Nat.lt_trans (by decide) h
theorem d_getItem {Q:Value→Shared→Prop} (hu:A.units + 1 < cLine) (I:Inv X pins σ H s) (g:DGet H a y (some v)) (ry:RelV y u) (h:∀ w' s',Inv X pins σ H s'→RelV v w'→Q w' s') :
  wpAny (model X.prog X.w) A (getItem (.ref a) u) Q E s:=by
 rcases g with ⟨kvs,k,e,ey,l⟩ | ⟨kvs,k,b,e,ey,eb,l⟩
 ·subst ey
  obtain ⟨z,hd,vs,rel,dd⟩:=dk_rd I.hok e
  obtain ⟨w',hw,rw'⟩:=RelO.some_of (v:=v) (o:=valueAt vs k) (by rw [l];exact rel.val k)
  exact wpAny_getItem_of (kV_is ry) dd.mapOf hw (h w' _ (I.tok _) rw')
 ·subst ey
  cases (show u=Value.ref b from ry)
  obtain ⟨z,hd,xs,rel,dd⟩:=dt_rd I.hok e
  obtain ⟨w',hw,rw'⟩:=RelO.some_of (v:=v) (o:=(atKey xs k).map (·.2)) (by rw [l];exact rel.val k)
  obtain ⟨p,hp,hp2⟩:=Option.map_eq_some_iff.mp hw
  refine wpAny_getItem_heap (tupleKind_room_in1 hu) (key_of I.hok eb) dd hp ?_
  rw [hp2]
  exact h w' _ (I.tok _) rw'
theorem d_notIn {Q:Value→Shared→Prop} (hu:A.units + 1 < cLine) (I:Inv X pins σ H s) (g:DGet H a y o) (ry:RelV y u) (h:∀ s',Inv X pins σ H s'→Q (.bool (!o.isSome)) s') :
  wpAny (model X.prog X.w) A (compareOp .NotIn u (.ref a)) Q E s:=by
 rcases g with ⟨kvs,k,e,ey,l⟩ | ⟨kvs,k,b,e,ey,eb,l⟩
 ·subst ey
  obtain ⟨z,hd,vs,rel,dd⟩:=dk_rd I.hok e
  refine wpAny_notIn_of (kV_is ry) hd dd.mapOf ?_
  rw [← (rel.val k).isSome_eq,← l]
  exact h _ (I.tok _)
 ·subst ey
  cases (show u=Value.ref b from ry)
  obtain ⟨z,hd,xs,rel,dd⟩:=dt_rd I.hok e
  refine wpAny_notIn_heap (tupleKind_room_in1 hu) (key_of I.hok eb) hd dd ?_
  have q:=(rel.val k).isSome_eq
  rw [Option.isSome_map] at q
  rw [← q,← l]
  exact h _ (I.tok _)
theorem d_write {h':Heap} {t':Nat} {ob:HO} (I:Inv X pins σ H s) (mu:Mut (H a)) (hs:Heap.SameBut a s.heap h') (he:∃ q,h'.get? a=some q) (new:ObjOk X.prog X.w (upd H a ob) h' a ob) :
  Inv X pins σ (upd H a ob) { s with heap:=h',toks:=t' } :=
 I.write (x:=a) (e:=a) mu (.inl rfl) (fun b q hb z=>(hs.2 b hb).trans z) he new
theorem dk_new {P:Program} {w:World} {H':Hp} {h':Heap} {kvs:List (Key × V)} {vs:List (Key × Value)} (z:kvs.length≤sizeLine) (hd:(a == sysModules)=false) (rel:KV kvs vs) (dd:h'.DictOf (Jx P w) a vs) :
  ObjOk P w H' h' a (.dK kvs):=⟨z,hd,vs,rel,dd⟩
theorem d_setItem {H':Hp} {Q:Unit→Shared→Prop} (hu:A.units + 1 < cLine) (I:Inv X pins σ H s) (g:DPut H a y v H') (ry:RelV y u) (rv:RelV v r) (h:∀ s',Inv X pins σ H' s'→Q () s') :
  wpAny (model X.prog X.w) A (setItem (.ref a) u r) Q E s:=by
 rcases g with ⟨kvs,k,e,ey,l,eH⟩ | ⟨kvs,k,b,e,ey,eb,l,eH⟩
 ·subst ey eH
  obtain ⟨z,hd,vs,rel,dd⟩:=dk_of I.hok e
  have hz:vs.length≤sizeLine:=by rw [← rel.length];exact z
  have hl:(putK kvs k v).length≤sizeLine:=by have:=J34 kvs k v;omega
  refine wpAny_setItem_pairs (hsz:=hz) (kV_is ry) dd fun h' dd' hs=>h _ ?_
  have he:∃ q,h'.get? a=some q:=let ⟨q,_,_,hq,_⟩:=dd';⟨q,hq⟩
  exact d_write I (by rw [e];exact True.intro) hs he (dk_new hl hd (rel.put k rv) dd')
 ·subst ey eH
  cases (show u=Value.ref b from ry)
  obtain ⟨z,hd,xs,rel,dd⟩:=dt_of I.hok e
  have hz:xs.length≤sizeLine:=by rw [← Paired.length rel];exact z
  have hl:(putK kvs k v).length≤sizeLine:=by have:=J34 kvs k v;omega
  refine wpAny_setItem_heap (hsz:=hz) (tupleKind_room_in1 hu) (key_of I.hok eb) dd fun h' dd' hs=>h _ ?_
  obtain ⟨q,es,ep,hq,h2,h3,h4,_,h5⟩:=dd'
  refine d_write I (by rw [e];exact True.intro) hs ⟨q,hq⟩ ⟨hl,hd,_,(rel.put k eb rv).keeps fun c ys ec=>?_,q,es,ep,hq,h2,h3,h4,h5⟩
  rw [Jd (ne_of ec e (fun z=>nomatch z))]
  exact ec
end
def NoSl (i:Expr):Prop:=∀ ov iv,subscripted i false ov iv=operate [ov,iv] (getItem ov iv)
theorem subD_of {prog:Program} {w:World} {A:Around} {E:Value→Shared→Prop} {s:Shared} {env:Env} {value slice:Expr} {pos:Pos} {T id:String} {Q:Value→Shared→Prop}
  (hl:typeLookup (.type T) "__getitem__"=pure (some (.builtin id))) (hs:NoSl slice)
  (h:wpAny (model prog w) A (eval value env) (fun o s₁=>wpAny (model prog w) A (eval slice env) (fun i s₂=>s₂.TypeIs o T∧wpAny (model prog w) A (getItem o i) Q E s₂) E s₁) E s) :
  wpAny (model prog w) A (eval (.Subscript value slice pos) env) Q E s:=by
 refine Subscript_ (wpAny_mono h (fun o s₁ h₁=>wpAny_mono h₁ (fun i s₂ h₂=>?_) fun _ _ x=>x) fun _ _ x=>x)
 obtain ⟨hT,h₂⟩:=h₂
 unfold subscriptTail
 refine wpAny_bind ?_
 rw [getitemInPython_of_ne hT.not_modules]
 refine wpAny_bind (wpAny_specialOf hT hl ?_)
 have fin:wpAny (model prog w) A (subscripted slice false o i) (fun r s₃=>wpAny (model prog w) A (letTemporaryGo value o r >>= fun _=>pure r) Q E s₃) E s₂:=by
  rw [hs o i]
  exact wpAny_operating (wpAny_mono h₂ (fun r s₃ h₃=>wpAny_bind (wpAny_letTemporaryGo (wpAny_pure h₃))) fun _ _ x=>x)
 first
  | exact wpAny_pure (wpAny_bind fin)
  | exact wpAny_bind (wpAny_pure (wpAny_bind fin))
  | exact wpAny_bind fin
theorem dict_typeIs {X:Cx} {pins:List (Addr × Obj)} {σ:St} {H:Hp} {s:Shared} {a:Addr} {y:V} {o:Option V} (I:Inv X pins σ H s) (g:DGet H a y o):s.TypeIs (.ref a) "dict":=by
 rcases g with ⟨kvs,k,e,_,_⟩ | ⟨kvs,k,b,e,_,_,_⟩
 ·obtain ⟨_,_,vs,_,dd⟩:=dk_rd I.hok e
  exact dd.typeIs
 ·obtain ⟨_,_,xs,_,dd⟩:=dt_rd I.hok e
  exact dd.typeIs
def tDGet (td ty:TE):TE:=fun σ H Q=>td σ H fun x H1=>ty σ H1 fun y H2=>∃ a v,x=.ref a∧DGet H2 a y (some v)∧Q v H2
def tDNotIn (ty td:TE):TE:=fun σ H Q=>ty σ H fun y H1=>td σ H1 fun x H2=>∃ a o,x=.ref a∧DGet H2 a y o∧Q (.bl (!o.isSome)) H2
def sDPut (td ty tv:TE):TS:=fun D σ H=>tv σ H fun v H1=>td σ H1 fun x H2=>ty σ H2 fun y H3=>∃ a H4,x=.ref a∧DPut H3 a y v H4∧D.nx σ H4
section
variable {X:Cx} {o i e value:Expr} {pos pos' tpos:Pos} {td ty tv:TE}
theorem pe_dget (hu:X.A.units + 1 < cLine) (ho:PE X o td) (hi:PE X i ty) (hs:NoSl i):PE X (.Subscript o i pos) (tDGet td ty):=by
 intro pins s σ H Q I h
 refine subD_of PySem.F.slot_dict_getitem.lookup hs (thn (ho pins s σ H _ I h) fun u s1 ⟨x,H1,I1,rx,q1⟩=>thn (hi pins s1 σ H1 _ I1 q1) fun iv s2 ⟨y,H2,I2,ry,a,v,ex,g,q2⟩=>?_)
 subst ex
 obtain rfl:u=Value.ref a:=rx
 exact ⟨dict_typeIs I2 g,d_getItem hu I2 g ry fun w' s3 I3 rw'=>⟨v,H2,I3,rw',q2⟩⟩
theorem J26 (hu:X.A.units + 1 < cLine) (hi:PE X i ty) (ho:PE X o td):PC X .NotIn i o (tDNotIn ty td):=by
 intro pins s σ H Q I h
 refine thn (hi pins s σ H _ I h) fun iv s1 ⟨y,H1,I1,ry,q1⟩=>thn (ho pins s1 σ H1 _ I1 q1) fun u s2 ⟨x,H2,I2,rx,a,ov,ex,g,q2⟩=>?_
 subst ex
 obtain rfl:u=Value.ref a:=rx
 exact d_notIn hu I2 g ry fun s3 I3=>⟨.bl (!ov.isSome),H2,I3,rfl,q2⟩
theorem ps_dput (hu:X.A.units + 1 < cLine) (ho:PE X o td) (hi:PE X i ty) (hv:PE X value tv) (hs:swapsWith value (some (.Subscript o i pos')) pos.line X.env=pure false) :
  PS X (.Assign [.Subscript o i pos'] value pos) (sDPut td ty tv):=by
 intro pins s σ H D I h
 refine wpAny_Assign_Subscript (thn (hv pins s σ H _ I h) fun r s1 ⟨v,H1,I1,rv,q1⟩=>thn (ho pins s1 σ H1 _ I1 q1) fun u s2 ⟨x,H2,I2,rx,q2⟩=>thn (hi pins s2 σ H2 _ I2 q2) fun iv s3 ⟨y,H3,I3,ry,a,H4,ex,g,q3⟩=>?_) hs
 subst ex
 obtain rfl:u=Value.ref a:=rx
 exact d_setItem hu I3 g ry rv fun s4 I4=>⟨σ,H4,I4,q3⟩
end
theorem dt_empty {P:Program} {w:World} {H:Hp} (h:Heap) (hb:sysModules < h.objs.size):ObjOk P w H (h.push { cls:=.type "dict",data:=.dict #[] }) h.objs.size (.dT []) :=
 ⟨Nat.zero_le _,beq_eq_false_iff_ne.mpr (Ne.symm (Nat.ne_of_lt hb)),[],.nil,_,#[],0,Heap.get?_push_size _ rfl,⟨rfl,rfl,rfl⟩,rfl,rfl,List.nodup_nil⟩
end L2
namespace L2
open PySem PySem.Spec PyProof.Rows
end L2
namespace PySem
namespace F
end F
end PySem
namespace L2
open PySem PyProof.Rows
section
variable {X:Cx} {e:Expr} {te:TE} {p p' pos pos':Pos}
theorem vals_rev {xs:List V} {its:List Value} (r:Vals xs its):Vals xs.reverse its.reverse:=by
 induction r with
 | nil=>exact .nil
 | cons a b ih=>rw [List.reverse_cons,List.reverse_cons];exact ih.append (.cons a .nil)
end
end L2
namespace L2
open PySem PySem.Spec PyProof.Rows
section
variable {X:Cx}
theorem J4e {prog:Program} {w:World} {A:Around} {E:Value→Shared→Prop} {s:Shared} {l:Addr} {xs:Array (Int × Tok)} {Q:Value→Shared→Prop} (hh:A.handled=none) (ht:s.heap.IsTuple l (intItems xs)) (hne:0 < xs.size)
  (h:∀ v h' tk,(intItems xs)[argBest (fun i j=>decide (numAt xs i > numAt xs j)) (xs.size - 1)]?=some v→(∀ b o,s.heap.get? b=some o→h'.get? b=some o)→Q v { s with heap:=h',toks:=tk }) :
  wpAny (model prog w) A (call (.builtin "max") [.ref l]) Q E s:=by
 obtain ⟨o,ho,hc,n,hd⟩:=id ht
 have hne':l≠s.heap.objs.size:=Nat.ne_of_lt (Heap.lt_size ho)
 refine call_max_walk (wpAny_pyIter_tuple ht ?_)
 refine ⟨s.heap.objs.size,_,_,_,_,_,_,rfl,Walks.tuple (A:=A.in1) hh _ l hne' (intItems xs),⟨⟨_,Heap.get?_push_size _ rfl,rfl,rfl⟩,ht.at fun o e=>Heap.get?_push_of_some _ e⟩,fun b hb=>?_,by simpa [intItems] using hne,CmpOf.ints_gt (numAt xs) (fun _ _=>intItems_at),fun v h' tk hP hk=>?_⟩
 ·rcases List.mem_cons.mp hb with rfl | hb
  ·exact Heap.lt_size (Heap.get?_push_size _ rfl)
  ·obtain rfl:=List.mem_singleton.mp hb
   exact Heap.lt_size (Heap.get?_push_of_some _ ho)
 ·refine h v h' tk (by simpa [intItems] using hP) fun b o e=>hk b o (fun hb=>absurd (Heap.lt_size e) ((List.mem_singleton.mp hb) ▸ Nat.lt_irrefl _)) (Heap.get?_push_of_some _ e)
theorem best_max {ns:List Int} {xs:Array (Int × Tok)} (hns:ns=xs.toList.map (·.1)) (hsz:0 < xs.size) :
  numAt xs (argBest (fun i j=>decide (numAt xs i > numAt xs j)) (xs.size - 1))∈ns∧∀ a∈ns,a≤numAt xs (argBest (fun i j=>decide (numAt xs i > numAt xs j)) (xs.size - 1)):=by
 obtain ⟨h1,h2⟩:=argBest_gt (numAt xs) (xs.size - 1)
 refine ⟨?_,fun a ha=>?_⟩
 ·rw [hns,numAt_eq];exact getD_mem (by rw [List.length_map,Array.length_toList];omega)
 ·rw [hns] at ha
  obtain ⟨j,hj,rfl⟩:=mem_getD ha
  rw [List.length_map,Array.length_toList] at hj
  rw [← numAt_eq];exact h2 j (by omega)
theorem call_max (hc:X.calm=true):CallR X (.builtin "max") (fun xs H Q=>∃ (p:Addr) (ns:List Int),xs=[.ref p]∧SqI X.K H p (ns.map V.int)∧0 < ns.length∧∀ M,M∈ns→(∀ a∈ns,a≤M)→Q (.int M) H):=by
 intro pins s σ H xs us Q I r h
 obtain ⟨p,ns,rfl,hq,hne,q⟩:=h
 obtain ⟨u,rfl,rx⟩:=vals1 r
 cases rx
 have hh:=I.ok.hd hc
 rcases hq with hq | hq
 ·obtain ⟨its,r',pl,hz⟩:=I.list hq
  obtain ⟨xs,hx,_,e1⟩:=ints_sum (J15 r')
  have hsz:0 < xs.size:=by rw [e1,List.length_map,Array.length_toList] at hne;exact hne
  refine max_intList hh (hx ▸ pl.isList) hsz fun v h' tk hv hk=>?_
  obtain ⟨t,rfl⟩:=intItems_at hv
  obtain ⟨b1,b2⟩:=best_max e1 hsz
  exact ⟨.int _,H,I.kept hk,⟨t,rfl⟩,q _ b1 b2⟩
 ·obtain ⟨its,r',pl,hz⟩:=I.tuple hq
  obtain ⟨xs,hx,_,e1⟩:=ints_sum (J15 r')
  have hsz:0 < xs.size:=by rw [e1,List.length_map,Array.length_toList] at hne;exact hne
  refine J4e hh (hx ▸ (show s.heap.IsTuple p its.toArray from pl)) hsz fun v h' tk hv hk=>?_
  obtain ⟨t,rfl⟩:=intItems_at hv
  obtain ⟨b1,b2⟩:=best_max e1 hsz
  exact ⟨.int _,H,I.kept hk,⟨t,rfl⟩,q _ b1 b2⟩
theorem call_maxK (K:PySem.W.Frag) (hc:X.calm=true:=by rfl) (h:X.K=K:=by rfl):CallR X (.builtin "max") (fun xs H Q=>∃ (p:Addr) (ns:List Int),xs=[.ref p]∧SqI K H p (ns.map V.int)∧0 < ns.length∧∀ M,M∈ns→(∀ a∈ns,a≤M)→Q (.int M) H):=by subst h;exact call_max hc
def rSlS (K:PySem.W.Frag):V→Option Int→Option Int→Hp→VK→Prop:=fun x lo hi H Q=>rSlL K x lo hi H Q∨rSlT K x lo hi H Q
theorem sl_seq:SlR X (rSlS X.K):=sl_list.or sl_tup
theorem sl_seqK (K:PySem.W.Frag) (h:X.K=K:=by rfl):SlR X (rSlS K):=by subst h;exact sl_seq
end
end L2
namespace L2
open PySem PySem.Spec PyProof.Rows
section
variable {X:Cx}
variable {e1 e2 e3 e:Expr} {p p' pos pos' p2:Pos} {ta:TA} {te tk:TE}
def tLRng (ta:TA):TE:=fun σ H Q=>ta σ H fun vs H1=>∃ (a b c:Int) (n:Nat),vs=[.int a,.int b,.int c]∧c≠0∧Builtin.divisionGoesByPylong (b - a) c=false∧Builtin.Range.small a b c=true∧Builtin.Range.rangeSize a b c=n∧n≤1000∧
 ∀ l,H1 l=none→Q (.ref l) (upd H1 l (.lst (((List.range n).map fun (i:Nat)=>a + (i:Int) * c).map V.int)))
theorem pe_lrng (hc:X.calm=true) (hg:Gl X "list") (hm:X.mg "list"=none) (hg':Gl X "range") (hm':X.mg "range"=none) (ha:PA X [e1,e2,e3] ta)
  (he:starEach [e1,e2,e3] X.env=(false,eval e1 X.env) :: starEach [e2,e3] X.env:=by rfl) (hpl:(backTo pos' (starEach [e2,e3] X.env)).any (·.1)=false:=by rfl)
  (he':starEach [Expr.Call (.Name "range" p') [e1,e2,e3] [] pos'] X.env=[(false,eval (Expr.Call (.Name "range" p') [e1,e2,e3] [] pos') X.env)]:=by rfl) :
  PE X (.Call (.Name "list" p) [.Call (.Name "range" p') [e1,e2,e3] [] pos'] [] pos) (tLRng ta):=by
 intro pins s σ H Q I h
 refine wpAny_Call_Name_kw (J4h I hg hm PyProof.Rows.boot_list ?_ (by decide) (by decide))
 refine PyProof.Rows.callWith_type1 (rest:=[]) ?_ (by rw [he'];rfl) rfl
 rw [he']
 show wpAny _ _ (spliced [(false,eval (Expr.Call (.Name "range" p') [e1,e2,e3] [] pos') X.env)]) _ _ s
 refine Calls.spliced_cons ?_
 refine wpAny_Call_Name_kw (J4h I hg' hm' PyProof.Rows.boot_range ?_ (by decide) (by decide))
 refine PyProof.Rows.callWith_type1 (thn (ha pos' pins s σ H _ I h) fun us s1 ⟨vs,H1,I1,r1,q1⟩=>?_) he hpl
 obtain ⟨a,b,c,n,rfl,c0,hp,hsm,hrs,hn,k⟩:=q1
 cases r1 with
 | cons r rr =>
  cases rr with
  | cons r' rr =>
   cases rr with
   | cons r'' rr =>
    cases rr
    obtain ⟨t,rfl⟩:=r
    obtain ⟨t',rfl⟩:=r'
    obtain ⟨t'',rfl⟩:=r''
    refine call_range_3 c0 (Calls.spliced_nil ?_) (.inl hp)
    have hsz:(s1.heap.push { cls:=.type "range",data:=.fields #[.int a t,.int b t',.int c t''] }).objs.size=s1.heap.objs.size + 1:=by simp [Heap.push]
    refine call_list_range (s:={ s1 with heap:=s1.heap.push { cls:=.type "range",data:=.fields #[.int a t,.int b t',.int c t''] },toks:=s1.toks }) (I1.ok.hd hc) (show IsRange (s1.heap.push { cls:=.type "range",data:=.fields #[.int a t,.int b t',.int c t''] }) s1.heap.objs.size a b c t t' t'' from Heap.get?_push_size _ rfl) hsm hrs (by omega) fun h' tk acc' c' hk hS' hacc=>?_
    have kp:∀ b o,s1.heap.get? b=some o→h'.get? b=some o:=fun b o eb=>hk b o (Heap.get?_push_of_some _ eb)
    have hv:Vals ((List.range n).map fun (i:Nat)=>V.int (a + (i:Int) * c)) acc'.toList:=J20 (f:=fun i=>a + (i:Int) * c) (by rw [Array.length_toList];exact hacc.1) fun i v e=>by
     obtain ⟨t,rfl⟩:=hacc.2 i v (by simpa using e)
     exact ⟨t,rfl⟩
    simp only [List.map_map,Function.comp_def] at k
    refine ⟨.ref (s1.heap.push { cls:=.type "range",data:=.fields #[.int a t,.int b t',.int c t''] }).objs.size,_,I1.laid (o:=.lst ((List.range n).map fun (i:Nat)=>V.int (a + (i:Int) * c))) kp (by omega) ⟨?_,acc'.toList,c',hv,by simpa using hS'⟩,rfl,k _ (I1.hok.fresh (by omega))⟩
    rw [List.length_map,List.length_range]
    exact Nat.le_of_lt (Jz hn)
theorem rev_range (n:Nat):(List.range n).map (fun k=>n - 1 - k)=(List.range n).reverse:=by
 apply List.ext_getElem
 ·simp
 ·intro i h1 h2
  rw [List.getElem_map,List.getElem_reverse];simp
theorem rev_all {α:Type} (xs:Array α):(List.range xs.size).filterMap (xs[·]?)=xs.toList:=by
 have h:=pick_run xs 0 xs.size
 have e:(List.range xs.size).map (0 + ·)=List.range xs.size:=by
  rw [show ((0 + ·):Nat→Nat)=id from funext fun k=>Nat.zero_add k,List.map_id]
 rw [e,List.drop_zero,List.take_of_length_le (by rw [Array.length_toList];exact Nat.le_refl _)] at h
 exact h
theorem rev_slice (n:Nat):sliceRange ((n:Int) - 1) (-1) (-1)=(List.range n).map fun k=>n - 1 - k:=by
 unfold sliceRange
 have h1:¬ ((-1:Int) > 0):=by decide
 by_cases h:(n:Int) - 1 > -1
 ·have e:((n:Int) - 1 - -1 - -1 - 1) / (- -1)=(n:Int):=by
   rw [show (- -1:Int)=1 by decide,Int.ediv_one]
   omega
  simp only [h1,if_false,h,if_true,e,Int.toNat_natCast]
  apply List.map_congr_left
  intro k hk
  have:=List.mem_range.mp hk
  omega
 ·have e:n=0:=by omega
  subst e
  simp
theorem rev_pick (items:Array Value):slicePick items none none (some (-1))=items.toList.reverse.toArray:=by
 unfold slicePick
 rw [show sliceBounds none none (some (-1)) items.size=((items.size:Int) - 1,-1,-1) from by first | rfl | simp [sliceBounds]]
 show ((sliceRange ((items.size:Int) - 1) (-1) (-1)).filterMap (items[·]?)).toArray=_
 rw [rev_slice,rev_range,List.filterMap_reverse,rev_all]
def tRev (K:PySem.W.Frag) (te tk:TE):TE:=fun σ H Q=>te σ H fun x H1=>tk σ H1 fun z H2=>z=.int (-1)∧∃ a xs,x=.ref a∧SqL K H2 a xs∧∀ p,H2 p=none→Q (.ref p) (upd H2 p (.lst xs.reverse))
theorem pe_rev (he:PE X e te) (hk:PE X e1 tk):PE X (.Subscript e (.Slice none none (some e1) p2) pos) (tRev X.K te tk):=by
 intro pins s σ H Q I h
 refine Subscript_ (thn (he pins s σ H _ I h) fun v s1 ⟨x,H1,I1,r1,q1⟩=>?_)
 refine wpAny_Slice ?_
 rw [evalPart_none]
 refine wpAny_pure (wpAny_pure ?_)
 rw [evalPart_some]
 refine thn (hk pins s1 σ H1 _ I1 q1) fun vk s3 ⟨z,H3,I3,r3,q3⟩=>?_
 obtain ⟨rfl,a,xs,rfl,hx,q⟩:=q3
 obtain ⟨t,rfl⟩:=r3
 cases r1
 have I4:Inv X pins σ H3 { s3 with heap:=s3.heap.push { cls:=.type "slice",data:=.fields #[.none,.none,.int (-1) t] } }:=I3.kept (t':=s3.toks) fun b ob q=>Heap.get?_push_of_some _ q
 show wpAny (model X.prog X.w) X.A (subscriptTail e (.Slice none none (some e1) p2) (.ref a) (.ref s3.heap.objs.size)) (EP X pins σ Q) X.xe { s3 with heap:=s3.heap.push { cls:=.type "slice",data:=.fields #[.none,.none,.int (-1) t] } }
 obtain ⟨its,r,ht,hz⟩:=I4.list hx
 have hlen:=r.length
 refine tail_any (T:="list") (ops:=[.ref a,.ref s3.heap.objs.size]) ht.isList.typeIs slot_list_getitem.lookup ?_ (by with_unfolding_all rfl)
 refine wpAny_getItem_list_slice ht.isList (Heap.IsSliceOf.new ..) .none .none (.int (-1) t) (by simp) ?_ (by rw [List.size_toArray] <;> omega)
 rw [rev_pick]
 refine ⟨.ref _,_,I4.laid (t':=s3.toks) (o:=.lst xs.reverse) (fun b ob q=>Heap.get?_push_of_some _ q) (Nat.le_refl _) ?_,rfl,q _ (I4.hok.fresh (Nat.le_refl _))⟩
 exact ⟨by rw [List.length_reverse];exact hz,_,0,vals_rev r,Heap.get?_push_size _ rfl⟩
def tDisp1 (tk tv:TE):TE:=fun σ H Q=>∀ p,H p=none→tk σ (upd H p (.dT [])) fun x H1=>tv σ H1 fun y H2=>∃ (b:Addr) (k:List Key),x=.ref b∧H2 b=some (.tup (k.map kV))∧H2 p=some (.dT [])∧Q (.ref p) (upd H2 p (.dT (putK [] k y)))
theorem pe_disp1 {tv:TE} (hu:X.A.units + 1 < cLine) (hk:PE X e tk) (hv:PE X e1 tv):PE X (.Dict [some e] [e1] pos) (tDisp1 tk tv):=by
 intro pins s σ H Q I q
 have hn:=I.hok.fresh (Nat.le_refl s.heap.objs.size)
 have I1:=I.laid (a:=s.heap.objs.size) (o:=.dT []) (h':=s.heap.push { cls:=.type "dict",data:=.dict #[] }) (t':=s.toks) (fun _ _ q=>Heap.get?_push_of_some _ q) (Nat.le_refl _) (dt_empty s.heap I.big)
 rw [arm_eval_Dict,zip_pairTrees [some e] [e1] X.env pos rfl rfl,dictDisplay_pairs (pairTrees [some e] [e1] X.env pos) (by simp [pairTrees]) (by simp [pairTrees])]
 refine wpAny_bind (wpAny_standAt (wpAny_bind ?_))
 unfold subDict
 refine wpAny_bind (wpAny_alloc ?_)
 refine wpAny_bind (wpAny_holding ?_)
 rw [if_pos (by simp [pairTrees])]
 refine wpAny_bind (pairTrees_cons_walk (thn (hk pins _ σ _ _ I1 (q _ hn)) fun u s1 ⟨x,H1,I2,rx,q1⟩=>thn (hv pins s1 σ H1 _ I2 q1) fun w2 s2 ⟨y,H2,I3,ry,q2⟩=>pairTrees_nil_walk ?_))
 obtain ⟨b,k,rfl,eb,ep,q3⟩:=q2
 cases rx
 refine wpAny_holding ?_
 show wpAny _ _ (forIn [((Value.ref b),w2)] _ _ >>= _) _ _ s2
 rw [List.forIn_cons]
 obtain ⟨z,hd,xs,rel,dd⟩:=dt_of I3.hok ep
 have hz:xs.length≤sizeLine:=by rw [← Paired.length rel];exact z
 have hl:(putK [] k y).length≤sizeLine:=by show 1≤sizeLine;decide
 dsimp only
 refine wpAny_bind (wpAny_bind (wpAny_bind (wpAny_dictSet_heap (hsz:=hz) (show (tupleKind (Jx X.prog X.w)).room X.A from (show X.A.units < cLine by omega)) (key_of I3.hok eb) dd fun h' dd' hs=>wpAny_pure ?_)))
 dsimp only
 rw [List.forIn_nil]
 refine wpAny_pure (wpAny_pure (wpAny_pure (wpAny_pure ?_)))
 obtain ⟨q',es,epp,hq,h2,h3,h4,_,h5⟩:=dd'
 refine ⟨.ref s.heap.objs.size,_,?_,rfl,q3⟩
 refine d_write I3 (by rw [ep];exact True.intro) hs ⟨q',hq⟩ ⟨hl,hd,_,(rel.put k eb ry).keeps fun c ys ec=>?_,q',es,epp,hq,h2,h3,h4,h5⟩
 rw [Jd (ne_of ec ep (fun z=>nomatch z))]
 exact ec
end
end L2
namespace Rl
def cellN (ns:List Int) (k:Nat):Int:=ns.getD k 0
def insAt (xs:List Nat) (i y:Nat):List Nat:=xs.take i ++ y :: xs.drop i
theorem J3w (xs:List Nat) (i y:Nat):(insAt xs i y).Perm (y :: xs):=by
 unfold insAt
 have h:(xs.take i ++ y :: xs.drop i).Perm (y :: (xs.take i ++ xs.drop i)):=List.perm_middle
 rwa [List.take_append_drop] at h
def sumsF (ls:List Int) (os:List Nat):Nat→List Int × Int
 | 0=>(List.replicate ls.length 0,0)
 | i + 1=>((sumsF ls os i).1.set (os.getD i 0) (sumsF ls os i).2,(sumsF ls os i).2 + ls.getD (os.getD i 0) 0)
theorem J3a (ls:List Int) (os:List Nat):∀ i,(sumsF ls os i).1.length=ls.length
 | 0=>by simp [sumsF]
 | i + 1=>by
  show ((sumsF ls os i).1.set _ _).length=_
  rw [List.length_set]
  exact J3a ls os i
def J3i (ls:List Int) (os:List Nat):List Int:=(sumsF ls os os.length).1
theorem J2z:∀ {xs ys:List Int},xs.Perm ys→xs.Pairwise (·≤·)→ys.Pairwise (·≤·)→xs=ys
 | [],ys,h,_,_=>(List.Perm.nil_eq h)
 | x :: xs,[],h,_,_=>absurd h.length_eq (by simp)
 | x :: xs,y :: ys,h,hx,hy=>by
  have hx':=List.pairwise_cons.mp hx
  have hy':=List.pairwise_cons.mp hy
  have m1:x∈y :: ys:=h.mem_iff.mp List.mem_cons_self
  have m2:y∈x :: xs:=h.mem_iff.mpr List.mem_cons_self
  have e:x=y:=by
   rcases List.mem_cons.mp m1 with e | m1
   ·exact e
   ·rcases List.mem_cons.mp m2 with e | m2
    ·exact e.symm
    ·have a:=hx'.1 y m2
     have b:=hy'.1 x m1
     omega
  subst e
  rw [J2z h.cons_inv hx'.2 hy'.2]
def natI (os:List Nat):List Int:=os.map fun (n:Nat)=>(n:Int)
theorem J46 (n:Nat):(natI (List.range n)).Pairwise (·≤·):=by
 unfold natI
 rw [List.pairwise_map]
 exact List.pairwise_lt_range.imp fun h=>by omega
theorem J43 {os:List Nat} {n:Nat} {ns':List Int} (hp:os.Perm (List.range n)) (h1:ns'.Perm (natI os)) (h2:ns'.Pairwise (·≤·)):ns'=natI (List.range n) :=
 J2z (h1.trans (hp.map _)) h2 (J46 n)
end Rl
namespace Rl
def Jn (ls:List Int) (os:List Nat) (i:Nat):Int:=(sumsF ls os i).2
theorem J1z (ls:List Int) (os:List Nat):Jn ls os 0=0:=rfl
theorem Jl (ls:List Int) (os:List Nat) (i:Nat):Jn ls os (i + 1)=Jn ls os i + ls.getD (os.getD i 0) 0:=rfl
structure Ord (ls:List Int) (os:List Nat):Prop where
 pos:∀ a∈ls,1≤a
 perm:os.Perm (List.range ls.length)
theorem Ord.range {ls:List Int} {os:List Nat} (h:Ord ls os):Ord ls (List.range ls.length):=⟨h.pos,List.Perm.refl _⟩
theorem Ord.len {ls:List Int} {os:List Nat} (h:Ord ls os):os.length=ls.length:=by rw [h.perm.length_eq,List.length_range]
theorem Ord.nodup {ls:List Int} {os:List Nat} (h:Ord ls os):os.Nodup:=h.perm.nodup_iff.mpr List.nodup_range
theorem J11 {os:List Nat} {i:Nat} (h:i < os.length):os.getD i 0∈os:=by
 rw [List.getD_eq_getElem?_getD,List.getElem?_eq_getElem h];exact List.getElem_mem h
theorem getD_memI {ls:List Int} {i:Nat} (h:i < ls.length):ls.getD i 0∈ls:=by
 rw [List.getD_eq_getElem?_getD,List.getElem?_eq_getElem h];exact List.getElem_mem h
theorem Ord.lt {ls:List Int} {os:List Nat} (h:Ord ls os) {i:Nat} (hi:i < ls.length):os.getD i 0 < ls.length :=
 List.mem_range.mp (h.perm.mem_iff.mp (J11 (by rw [h.len];exact hi)))
theorem Ord.one {ls:List Int} {os:List Nat} (h:Ord ls os) {j:Nat} (hj:j < ls.length):1≤ls.getD j 0:=h.pos _ (getD_memI hj)
theorem Ord.inj {ls:List Int} {os:List Nat} (h:Ord ls os) {i j:Nat} (hi:i < ls.length) (hj:j < ls.length) (e:os.getD i 0=os.getD j 0):i=j:=by
 rw [List.getD_eq_getElem?_getD,List.getD_eq_getElem?_getD,List.getElem?_eq_getElem (by rw [h.len];exact hi),List.getElem?_eq_getElem (by rw [h.len];exact hj)] at e
 exact (List.getElem_inj h.nodup).mp e
theorem Ord.onto {ls:List Int} {os:List Nat} (h:Ord ls os) {j:Nat} (hj:j < ls.length):∃ i,i < ls.length∧os.getD i 0=j:=by
 obtain ⟨i,hi,e⟩:=List.getElem_of_mem (h.perm.mem_iff.mpr (List.mem_range.mpr hj))
 refine ⟨i,by rw [← h.len];exact hi,?_⟩
 rw [List.getD_eq_getElem?_getD,List.getElem?_eq_getElem hi];exact e
theorem Ord.step {ls:List Int} {os:List Nat} (h:Ord ls os) {i:Nat} (hi:i < ls.length):Jn ls os i < Jn ls os (i + 1):=by
 have:=h.one (h.lt hi)
 rw [Jl];lia
theorem Ord.mono {ls:List Int} {os:List Nat} (h:Ord ls os) {i:Nat}:∀ {k:Nat},i≤k→k≤ls.length→Jn ls os i≤Jn ls os k
 | 0,h1,_=>by rw [Nat.le_zero.mp h1];exact Int.le_refl _
 | k + 1,h1,h2=>by
  by_cases e:i=k + 1
  ·rw [e];exact Int.le_refl _
  ·have a:=h.mono (i:=i) (k:=k) (by lia) (by lia)
   have b:=h.step (i:=k) (by lia)
   lia
theorem set_get (f:List Int) (p q:Nat) (v:Int) (hp:p < f.length):(f.set p v).getD q 0=if q=p then v else f.getD q 0:=by
 rw [List.getD_eq_getElem?_getD,List.getD_eq_getElem?_getD]
 by_cases e:q=p
 ·subst e;rw [List.getElem?_set_self hp,if_pos rfl];rfl
 ·rw [List.getElem?_set_ne (Ne.symm e),if_neg e]
theorem Ord.at {ls:List Int} {os:List Nat} (h:Ord ls os) {i:Nat}:∀ {k:Nat},i < k→k≤ls.length→(sumsF ls os k).1.getD (os.getD i 0) 0=Jn ls os i
 | 0,h1,_=>absurd h1 (Nat.not_lt_zero _)
 | k + 1,h1,h2=>by
  show ((sumsF ls os k).1.set (os.getD k 0) (sumsF ls os k).2).getD (os.getD i 0) 0=_
  rw [set_get _ _ _ _ (by rw [J3a];exact h.lt (by lia))]
  by_cases e:i=k
  ·subst e;rw [if_pos rfl];rfl
  ·rw [if_neg (fun q=>e (h.inj (by lia) (by lia) q))]
   exact h.at (by lia) (by lia)
theorem Ord.first {ls:List Int} {os:List Nat} (h:Ord ls os) {i:Nat} (hi:i < ls.length):(J3i ls os).getD (os.getD i 0) 0=Jn ls os i:=by
 unfold J3i
 rw [h.len]
 exact h.at hi (Nat.le_refl _)
theorem J3g (ls:List Int):(List.range ls.length).map (fun j=>ls.getD j 0)=ls:=by
 apply List.ext_getElem?
 intro k
 rw [List.getElem?_map]
 by_cases hk:k < ls.length
 ·rw [List.getElem?_range hk,List.getElem?_eq_getElem hk]
  show some (ls.getD k 0)=_
  rw [List.getD_eq_getElem?_getD,List.getElem?_eq_getElem hk];rfl
 ·rw [List.getElem?_eq_none (by simpa using hk),List.getElem?_eq_none (by lia)];rfl
theorem J1d (ls:List Int) (os:List Nat):∀ i,i≤os.length→Jn ls os i=((os.take i).map fun j=>ls.getD j 0).sum
 | 0,_=>by simp [J1z]
 | i + 1,h=>by
  rw [Jl,J1d ls os i (by lia),List.take_succ,List.getElem?_eq_getElem (by lia)]
  simp only [Option.toList_some,List.map_append,List.map_cons,List.map_nil,List.sum_append,List.sum_cons,List.sum_nil]
  rw [List.getD_eq_getElem?_getD (l:=os),List.getElem?_eq_getElem (by lia)]
  simp
theorem J4a {xs ys:List Int} (h:xs.Perm ys):xs.sum=ys.sum:=by
 induction h with
 | nil=>rfl
 | cons x _ ih=>rw [List.sum_cons,List.sum_cons,ih]
 | swap x y l=>rw [List.sum_cons,List.sum_cons,List.sum_cons,List.sum_cons];lia
 | trans _ _ a b=>exact a.trans b
theorem Ord.whole {ls:List Int} {os:List Nat} (h:Ord ls os):Jn ls os ls.length=ls.sum:=by
 rw [J1d ls os _ (by rw [h.len];exact Nat.le_refl _),List.take_of_length_le (by rw [h.len];exact Nat.le_refl _)]
 have p:(os.map fun j=>ls.getD j 0).Perm ((List.range ls.length).map fun j=>ls.getD j 0):=h.perm.map _
 rw [J4a p,J3g]
def Lies (fs ls:List Int) (x:Int) (j:Nat):Prop:=j < ls.length∧fs.getD j 0≤x∧x < fs.getD j 0 + ls.getD j 0
theorem J1l {S:Nat→Int} {x:Int}:∀ (k:Nat),S 0≤x→x < S k→∃ i,i < k∧S i≤x∧x < S (i + 1)
 | 0,h0,h1=>by lia
 | k + 1,h0,h1=>by
  by_cases e:x < S k
  ·obtain ⟨i,hi,q⟩:=J1l k h0 e
   exact ⟨i,by lia,q⟩
  ·exact ⟨k,by lia,by lia,h1⟩
theorem Ord.lies {ls:List Int} {os:List Nat} (h:Ord ls os) {i:Nat} {x:Int} (hi:i < ls.length) (h1:Jn ls os i≤x) (h2:x < Jn ls os (i + 1)):Lies (J3i ls os) ls x (os.getD i 0):=by
 refine ⟨h.lt hi,?_,?_⟩
 ·rw [h.first hi];exact h1
 ·rw [h.first hi];rw [Jl] at h2;exact h2
theorem Ord.lies_of {ls:List Int} {os:List Nat} (h:Ord ls os) {j:Nat} {x:Int} (q:Lies (J3i ls os) ls x j):∃ i,i < ls.length∧os.getD i 0=j∧Jn ls os i≤x∧x < Jn ls os (i + 1):=by
 obtain ⟨hj,q1,q2⟩:=q
 obtain ⟨i,hi,e⟩:=h.onto hj
 subst e
 rw [h.first hi] at q1 q2
 exact ⟨i,hi,rfl,q1,by rw [Jl];exact q2⟩
theorem Ord.exists {ls:List Int} {os:List Nat} (h:Ord ls os) {x:Int} (h0:0≤x) (h1:x < ls.sum):∃ j,Lies (J3i ls os) ls x j:=by
 obtain ⟨i,hi,a,b⟩:=J1l (S:=Jn ls os) ls.length (by rw [J1z];exact h0) (by rw [h.whole];exact h1)
 exact ⟨_,h.lies hi a b⟩
theorem Ord.unique {ls:List Int} {os:List Nat} (h:Ord ls os) {x:Int} {j k:Nat} (a:Lies (J3i ls os) ls x j) (b:Lies (J3i ls os) ls x k):j=k:=by
 obtain ⟨i,hi,rfl,a1,a2⟩:=h.lies_of a
 obtain ⟨i',hi',rfl,b1,b2⟩:=h.lies_of b
 have:i=i':=by
  by_cases e:i < i'
  ·have:=h.mono (i:=i + 1) (k:=i') e (by lia);lia
  ·by_cases e':i' < i
   ·have:=h.mono (i:=i' + 1) (k:=i) e' (by lia);lia
   ·lia
 rw [this]
def moveN (ls:List Int) (ts:List Bool) (j:Nat) (off:Int) (fs:List Int):Int:=if ts.getD j false=true then fs.getD j 0 + ls.getD j 0 - 1 - off else fs.getD j 0 + off
end Rl
namespace Rl
def lenOf (ls:List Int) (row:List Nat):Int:=(row.map fun j=>ls.getD j 0).sum
theorem lenOf_ahead (ls:List Int) (os:List Nat):Jn ls os os.length=lenOf ls os:=by
 rw [J1d ls os _ (Nat.le_refl _),List.take_length];rfl
theorem J10 (ls:List Int):lenOf ls []=0:=rfl
theorem Jc (ls:List Int) (j:Nat) (os:List Nat):lenOf ls (j :: os)=ls.getD j 0 + lenOf ls os:=by
 unfold lenOf;rw [List.map_cons,List.sum_cons]
theorem J4g (ls:List Int) (xs ys:List Nat):lenOf ls (xs ++ ys)=lenOf ls xs + lenOf ls ys:=by
 unfold lenOf;rw [List.map_append,List.sum_append]
theorem J1r {ls:List Int} {xs ys:List Nat} (h:xs.Perm ys):lenOf ls xs=lenOf ls ys:=J4a (h.map _)
theorem J2n {ls:List Int} {os:List Nat} (h:∀ j∈os,0≤ls.getD j 0):0≤lenOf ls os:=by
 induction os with
 | nil=>exact Int.le_refl _
 | cons a r ih =>
  rw [Jc]
  have:=h a List.mem_cons_self
  have:=ih fun j hj=>h j (List.mem_cons_of_mem _ hj)
  lia
theorem lenOf_pos {ls:List Int} {os:List Nat} (h:∀ j∈os,1≤ls.getD j 0) (hn:os≠[]):1≤lenOf ls os:=by
 cases os with
 | nil=>exact absurd rfl hn
 | cons a r =>
  rw [Jc]
  have:=h a List.mem_cons_self
  have:=J2n (ls:=ls) (os:=r) fun j hj=>by have:=h j (List.mem_cons_of_mem _ hj);lia
  lia
theorem lenOf_mem {ls:List Int} {os:List Nat} (h:∀ j∈os,0≤ls.getD j 0) {j:Nat} (hj:j∈os):ls.getD j 0≤lenOf ls os:=by
 induction os with
 | nil=>cases hj
 | cons a r ih =>
  rw [Jc]
  have h1:=h a List.mem_cons_self
  have h2:=J2n (ls:=ls) (os:=r) fun j hj=>h j (List.mem_cons_of_mem _ hj)
  rcases List.mem_cons.mp hj with rfl | hj
  ·lia
  ·have:=ih (fun j hj=>h j (List.mem_cons_of_mem _ hj)) hj
   lia
structure Row (ls:List Int) (os:List Nat):Prop where
 nd:os.Nodup
 lt:∀ j∈os,j < ls.length
 pos:∀ j∈os,1≤ls.getD j 0
theorem Row.inj {ls:List Int} {os:List Nat} (h:Row ls os) {i j:Nat} (hi:i < os.length) (hj:j < os.length) (e:os.getD i 0=os.getD j 0):i=j:=by
 rw [List.getD_eq_getElem?_getD,List.getD_eq_getElem?_getD,List.getElem?_eq_getElem hi,List.getElem?_eq_getElem hj] at e
 exact (List.getElem_inj h.nd).mp e
theorem Row.at {ls:List Int} {os:List Nat} (h:Row ls os) {i:Nat}:∀ {k:Nat},i < k→k≤os.length→(sumsF ls os k).1.getD (os.getD i 0) 0=Jn ls os i
 | 0,h1,_=>absurd h1 (Nat.not_lt_zero _)
 | k + 1,h1,h2=>by
  show ((sumsF ls os k).1.set (os.getD k 0) (sumsF ls os k).2).getD (os.getD i 0) 0=_
  rw [set_get _ _ _ _ (by rw [J3a];exact h.lt _ (J11 (by lia)))]
  by_cases e:i=k
  ·subst e;rw [if_pos rfl];rfl
  ·rw [if_neg (fun q=>e (h.inj (by lia) (by lia) q))]
   exact h.at (by lia) (by lia)
theorem Row.first {ls:List Int} {os:List Nat} (h:Row ls os) {i:Nat} (hi:i < os.length):(J3i ls os).getD (os.getD i 0) 0=Jn ls os i:=h.at hi (Nat.le_refl _)
theorem Row.step {ls:List Int} {os:List Nat} (h:Row ls os) {i:Nat} (hi:i < os.length):Jn ls os i < Jn ls os (i + 1):=by
 rw [Jl]
 have:=h.pos _ (J11 hi)
 lia
theorem Row.mono {ls:List Int} {os:List Nat} (h:Row ls os) {i:Nat}:∀ {k:Nat},i≤k→k≤os.length→Jn ls os i≤Jn ls os k
 | 0,h1,_=>by
  have e:i=0:=Nat.le_zero.mp h1
  rw [e]
  exact Int.le_refl _
 | k + 1,h1,h2=>by
  by_cases e:i=k + 1
  ·subst e;exact Int.le_refl _
  ·have a:=Row.mono h (i:=i) (k:=k) (by lia) (by lia)
   have b:=h.step (i:=k) (by lia)
   lia
def AtR (ls:List Int) (os:List Nat) (y:Int) (i:Nat):Prop:=i < os.length∧Jn ls os i≤y∧y < Jn ls os (i + 1)
theorem Row.exists {ls:List Int} {os:List Nat} (h:Row ls os) {y:Int} (h0:0≤y) (h1:y < lenOf ls os):∃ i,AtR ls os y i:=by
 rw [← lenOf_ahead] at h1
 obtain ⟨i,hi,a,b⟩:=J1l (S:=Jn ls os) os.length (by rw [J1z];exact h0) h1
 exact ⟨i,hi,a,b⟩
theorem Row.unique {ls:List Int} {os:List Nat} (h:Row ls os) {y:Int} {i k:Nat} (a:AtR ls os y i) (b:AtR ls os y k):i=k:=by
 obtain ⟨a1,a2,a3⟩:=a
 obtain ⟨b1,b2,b3⟩:=b
 rcases Nat.lt_trichotomy i k with q | q | q
 ·have:=h.mono (i:=i + 1) (k:=k) (by lia) (by lia)
  lia
 ·exact q
 ·have:=h.mono (i:=k + 1) (k:=i) (by lia) (by lia)
  lia
structure Rst where
 top:List Nat
 bot:List Nat
 ls:List Int
 ts:List Bool
structure Rst.Ok (r:Rst):Prop where
 row:Row r.ls r.top
 perm:r.bot.Perm r.top
 zl:∀ j,j ∉ r.top→r.ls.getD j 0=0
 zt:∀ j,j ∉ r.top→r.ts.getD j false=false
 len:r.ts.length=r.ls.length
 few:r.ls.length≤24
def Rst.size (r:Rst):Int:=lenOf r.ls r.top
theorem Rst.Ok.rowB {r:Rst} (h:r.Ok):Row r.ls r.bot:=⟨h.perm.nodup_iff.mpr h.row.nd,fun j hj=>h.row.lt j (h.perm.mem_iff.mp hj),fun j hj=>h.row.pos j (h.perm.mem_iff.mp hj)⟩
def J41 (r:Rst) (y z:Int):Prop:=∃ i,AtR r.ls r.top y i∧z=moveN r.ls r.ts (r.top.getD i 0) (y - Jn r.ls r.top i) (J3i r.ls r.bot)
theorem mem_at {os:List Nat} {j:Nat} (h:j∈os):∃ k,k < os.length∧os.getD k 0=j:=by
 obtain ⟨k,hk,e⟩:=List.getElem_of_mem h
 exact ⟨k,hk,by rw [List.getD_eq_getElem?_getD,List.getElem?_eq_getElem hk];exact e⟩
theorem Rst.Ok.goes {r:Rst} (h:r.Ok) {y z:Int} (g:J41 r y z):∃ i k,AtR r.ls r.top y i∧AtR r.ls r.bot z k∧r.bot.getD k 0=r.top.getD i 0∧
  z - Jn r.ls r.bot k=(if r.ts.getD (r.top.getD i 0) false=true then r.ls.getD (r.top.getD i 0) 0 - 1 - (y - Jn r.ls r.top i) else y - Jn r.ls r.top i):=by
 obtain ⟨i,⟨i1,i2,i3⟩,rfl⟩:=g
 obtain ⟨k,hk,ek⟩:=mem_at (h.perm.mem_iff.mpr (J11 i1))
 have f:=h.rowB.first hk
 rw [ek] at f
 rw [Jl] at i3
 refine ⟨i,k,⟨i1,i2,by rw [Jl];exact i3⟩,?_,ek,?_⟩
 ·unfold moveN
  refine ⟨hk,?_,?_⟩
  ·rw [f];split <;> lia
  ·rw [Jl,ek,f];split <;> lia
 ·unfold moveN
  rw [f];split <;> lia
theorem Rst.Ok.fun_ {r:Rst} (h:r.Ok) {y z z':Int} (a:J41 r y z) (b:J41 r y z'):z=z':=by
 obtain ⟨i,hi,rfl⟩:=a
 obtain ⟨k,hk,rfl⟩:=b
 obtain rfl:=h.row.unique hi hk
 rfl
theorem Rst.Ok.inj {r:Rst} (h:r.Ok) {y y' z:Int} (a:J41 r y z) (b:J41 r y' z):y=y':=by
 obtain ⟨i,k,hi,hk,e1,o1⟩:=h.goes a
 obtain ⟨i',k',hi',hk',e2,o2⟩:=h.goes b
 obtain rfl:=h.rowB.unique hk hk'
 rw [e1] at e2
 obtain rfl:=h.row.inj hi.1 hi'.1 e2
 rw [o1] at o2
 split at o2 <;> lia
theorem Rst.Ok.there {r:Rst} (h:r.Ok) {y:Int} (h0:0≤y) (h1:y < r.size):∃ z,J41 r y z:=by
 obtain ⟨i,hi⟩:=h.row.exists h0 h1
 exact ⟨_,i,hi,rfl⟩
end Rl
namespace Rl
end Rl
namespace Rl
def J1 (row:List Nat) (a:Nat):List Nat:=row.drop (row.idxOf a + 1)
def J3 (row:List Nat) (x:Nat):List Nat:=row.filter fun j=>decide (j≠x)
def putR (row:List Nat) (w l:Nat) (ahead:Bool):List Nat :=
 (J3 row l).take (if ahead=true then (J3 row l).idxOf w else (J3 row l).idxOf w + 1) ++ [l] ++ (J3 row l).drop (if ahead=true then (J3 row l).idxOf w else (J3 row l).idxOf w + 1)
theorem mem_without {row:List Nat} {x j:Nat}:j∈J3 row x↔j∈row∧j≠x:=by
 unfold J3
 rw [List.mem_filter,decide_eq_true_iff]
theorem J19 {row:List Nat} (h:row.Nodup) (x:Nat):(J3 row x).Nodup:=h.filter _
theorem J1u {row:List Nat} (h:row.Nodup) {x:Nat} (hx:x∈row):(J3 row x).length + 1=row.length:=by
 induction row with
 | nil=>cases hx
 | cons a r ih =>
  obtain ⟨h1,h2⟩:=List.nodup_cons.mp h
  unfold J3
  rw [List.filter_cons]
  by_cases e:a=x
  ·subst e
   have:r.filter (fun j=>decide (j≠a))=r:=List.filter_eq_self.mpr fun j hj=>decide_eq_true (fun q=>h1 (q ▸ hj))
   rw [if_neg (by simp),this];rfl
  ·rw [if_pos (by simpa using e)]
   have hx':x∈r:=(List.mem_cons.mp hx).resolve_left (fun q=>e q.symm)
   have:=ih h2 hx'
   unfold J3 at this
   simp only [List.length_cons]
   omega
theorem J16 {row:List Nat} (h:row.Nodup) {x:Nat} (hx:x∈row):(x :: J3 row x).Perm row:=by
 refine (List.perm_ext_iff_of_nodup (List.nodup_cons.mpr ⟨fun q=>(mem_without.mp q).2 rfl,J19 h x⟩) h).mpr fun j=>?_
 rw [List.mem_cons,mem_without]
 constructor
 ·rintro (rfl | q)
  ·exact hx
  ·exact q.1
 ·intro q
  by_cases e:j=x
  ·exact .inl e
  ·exact .inr ⟨q,e⟩
theorem J1w {row:List Nat} (h:row.Nodup) {w l:Nat} (hl:l∈row) (ahead:Bool):(putR row w l ahead).Perm row:=by
 unfold putR
 generalize (if ahead=true then (J3 row l).idxOf w else (J3 row l).idxOf w + 1)=n
 refine List.Perm.trans ?_ (J16 h hl)
 have e:l :: J3 row l=[l] ++ ((J3 row l).take n ++ (J3 row l).drop n):=by rw [List.take_append_drop];rfl
 rw [e,← List.append_assoc]
 exact List.Perm.append_right _ List.perm_append_comm
theorem J1i {xs ys:List Nat} (h:xs.Perm ys) (x:Nat):(J3 xs x).Perm (J3 ys x):=h.filter _
theorem Jq (f:List Int) (p q:Nat) (v:Int) (hp:p < f.length):(f.set p v).getD q 0=if q=p then v else f.getD q 0:=set_get f p q v hp
theorem J1h (f:List Bool) (p q:Nat) (v:Bool) (hp:p < f.length):(f.set p v).getD q false=if q=p then v else f.getD q false:=by
 rw [List.getD_eq_getElem?_getD,List.getD_eq_getElem?_getD]
 by_cases e:q=p
 ·subst e;rw [List.getElem?_set_self hp,if_pos rfl];rfl
 ·rw [List.getElem?_set_ne (Ne.symm e),if_neg e]
inductive Stp where
 | home (a:Nat) | even (a b:Nat) | over (a b:Nat) | under (a b:Nat) | overs (a:Nat) (t:Int) | unders (a:Nat) (t:Int)
def Stp.winner:Stp→Nat
 | .home a=>a | .even a _=>a | .over a _=>a | .under a _=>a | .overs a _=>a | .unders a _=>a
def Stp.times:Stp→Int
 | .overs _ t=>t | .unders _ t=>t | _=>1
def Stp.losers (r:Rst):Stp→List Nat
 | .home _=>[] | .even _ b=>[b] | .over _ b=>[b] | .under _ b=>[b] | .overs a _=>J1 r.bot a | .unders a _=>J1 r.top a
def Stp.own:Stp→Bool
 | .even _ _=>true | .over _ _=>true | .overs _ _=>true | _=>false
def J1v (r:Rst) (w l:Nat):List Bool:=r.ts.set l (r.ts.getD w false != r.ts.getD l false)
def Stp.behind (r:Rst):Stp→Rst
 | .home a=>⟨J3 r.top a,J3 r.bot a,r.ls.set a 0,r.ts.set a false⟩
 | .even a b=>⟨J3 r.top a,J3 (putR r.bot a b false) a,r.ls.set a 0,(J1v r a b).set a false⟩
 | .over a b=>⟨r.top,putR r.bot a b (r.ts.getD a false),r.ls.set a (r.ls.getD a 0 - r.ls.getD b 0),J1v r a b⟩
 | .under a b=>⟨putR r.top a b (r.ts.getD a false),r.bot,r.ls.set a (r.ls.getD a 0 - r.ls.getD b 0),J1v r a b⟩
 | .overs a t=>⟨r.top,r.bot,r.ls.set a (r.ls.getD a 0 - t * lenOf r.ls (J1 r.bot a)),r.ts⟩
 | .unders a t=>⟨r.top,r.bot,r.ls.set a (r.ls.getD a 0 - t * lenOf r.ls (J1 r.top a)),r.ts⟩
def J1e (r:Rst) (a:Nat) (row:List Nat):Int:=if r.ts.getD a false=true then 0 else (r.ls.getD a 0 - 1) / lenOf r.ls (J1 row a)
abbrev lastT (r:Rst):Nat:=r.top.getD (r.top.length - 1) 0
abbrev lastB (r:Rst):Nat:=r.bot.getD (r.bot.length - 1) 0
def nextN (r:Rst):Stp :=
 if lastT r=lastB r then .home (lastT r)
 else if r.ls.getD (lastT r) 0=r.ls.getD (lastB r) 0 then .even (lastT r) (lastB r)
 else if r.ls.getD (lastB r) 0 < r.ls.getD (lastT r) 0 then
  (if 0 < J1e r (lastT r) r.bot then .overs (lastT r) (J1e r (lastT r) r.bot) else .over (lastT r) (lastB r))
 else (if 0 < J1e r (lastB r) r.top then .unders (lastB r) (J1e r (lastB r) r.top) else .under (lastB r) (lastT r))
theorem Rst.Ok.lens {r:Rst} (h:r.Ok):r.bot.length=r.top.length:=h.perm.length_eq
theorem Rst.Ok.mT {r:Rst} (h:r.Ok) (ne:r.top≠[]):lastT r∈r.top:=J11 (by have:=List.length_pos_iff.mpr ne;omega)
theorem Rst.Ok.mB {r:Rst} (h:r.Ok) (ne:r.top≠[]):lastB r∈r.top:=h.perm.mem_iff.mp (J11 (by have:=List.length_pos_iff.mpr ne;have:=h.lens;omega))
theorem J14 {row:List Nat} {n j:Nat} (h:j∈row.drop n):j∈row:=List.mem_of_mem_drop h
theorem behind_ne {row:List Nat} {a:Nat} (ha:a∈row) (h:row.getD (row.length - 1) 0≠a):J1 row a≠[]:=by
 unfold J1
 have h1:row.idxOf a < row.length:=List.idxOf_lt_length_iff.mpr ha
 intro e
 have h2:=List.drop_eq_nil_iff.mp e
 have h3:row.idxOf a=row.length - 1:=by omega
 apply h
 rw [← h3,List.getD_eq_getElem?_getD,List.getElem?_eq_getElem h1]
 exact List.getElem_idxOf h1
theorem Rst.Ok.of_rows {r:Rst} (h:r.Ok) {top bot:List Nat} {ls:List Int} {ts:List Bool} (ht:top.Perm r.top) (hb:bot.Perm r.top) (hl:ls.length=r.ls.length) (htl:ts.length=r.ts.length)
  (pos:∀ j∈r.top,1≤ls.getD j 0) (zl:∀ j,j ∉ r.top→ls.getD j 0=0) (zt:∀ j,j ∉ r.top→ts.getD j false=false):(Rst.mk top bot ls ts).Ok where
 row:=⟨ht.nodup_iff.mpr h.row.nd,fun j hj=>by rw [hl];exact h.row.lt j (ht.mem_iff.mp hj),fun j hj=>pos j (ht.mem_iff.mp hj)⟩
 perm:=hb.trans ht.symm
 zl:=fun j hj=>zl j fun q=>hj (ht.mem_iff.mpr q)
 zt:=fun j hj=>zt j fun q=>hj (ht.mem_iff.mpr q)
 len:=by show ts.length=ls.length;rw [hl,htl];exact h.len
 few:=by show ls.length≤24;rw [hl];exact h.few
theorem J2e {r:Rst} (h:r.Ok) {w l:Nat} (hl:l∈r.top):∀ j,j ∉ r.top→(J1v r w l).getD j false=false:=fun j hj=>by
 unfold J1v
 rw [J1h _ _ _ _ (by rw [h.len];exact h.row.lt l hl),if_neg (show ¬ j=l from fun e=>hj (by rw [e];exact hl))]
 exact h.zt j hj
theorem set_out {r:Rst} (h:r.Ok) {a:Nat} {v:Int} (ha:a∈r.top):∀ j,j ∉ r.top→(r.ls.set a v).getD j 0=0:=fun j hj=>by
 rw [Jq _ _ _ _ (h.row.lt a ha),if_neg (show ¬ j=a from fun e=>hj (by rw [e];exact ha))]
 exact h.zl j hj
theorem set_pos {r:Rst} (h:r.Ok) {a:Nat} {v:Int} (ha:a∈r.top) (hv:1≤v):∀ j∈r.top,1≤(r.ls.set a v).getD j 0:=fun j hj=>by
 rw [Jq _ _ _ _ (h.row.lt a ha)]
 split
 ·exact hv
 ·exact h.row.pos j hj
theorem J17 (r:Rst) (w l:Nat):(J1v r w l).length=r.ts.length:=by unfold J1v;rw [List.length_set]
theorem Rst.Ok.less {r:Rst} (h:r.Ok) {a:Nat} (ha:a∈r.top) {bot:List Nat} {ts:List Bool} (hb:bot.Perm (J3 r.top a)) (htl:ts.length=r.ts.length) (zt:∀ j,j ∉ r.top→ts.getD j false=false) (za:ts.getD a false=false):(Rst.mk (J3 r.top a) bot (r.ls.set a 0) ts).Ok where
 row:=⟨J19 h.row.nd a,fun j hj=>by rw [List.length_set];exact h.row.lt j (mem_without.mp hj).1,fun j hj=>by
  rw [Jq _ _ _ _ (h.row.lt a ha),if_neg (mem_without.mp hj).2]
  exact h.row.pos j (mem_without.mp hj).1⟩
 perm:=hb
 zl:=fun j hj=>by
  show (r.ls.set a 0).getD j 0=0
  rw [Jq _ _ _ _ (h.row.lt a ha)]
  split
  ·rfl
  ·rename_i e
   exact h.zl j fun q=>hj (mem_without.mpr ⟨q,e⟩)
 zt:=fun j hj=>by
  by_cases e:j=a
  ·subst e;exact za
  ·exact zt j fun q=>hj (mem_without.mpr ⟨q,e⟩)
 len:=by show ts.length=(r.ls.set a 0).length;rw [List.length_set,htl];exact h.len
 few:=by show (r.ls.set a 0).length≤24;rw [List.length_set];exact h.few
theorem times_fit {la s:Int} (hs:1≤s):(la - 1) / s * s≤la - 1:=Int.ediv_mul_le _ (by omega)
theorem Jr {r:Rst} (h:r.Ok) (ne:r.top≠[]) {p:Stp→Prop}
  (hh:lastT r=lastB r→p (.home (lastT r)))
  (he:lastT r≠lastB r→r.ls.getD (lastT r) 0=r.ls.getD (lastB r) 0→p (.even (lastT r) (lastB r)))
  (hov:lastT r≠lastB r→r.ls.getD (lastB r) 0 < r.ls.getD (lastT r) 0→(r.ts.getD (lastT r) false=true∨r.ls.getD (lastT r) 0≤lenOf r.ls (J1 r.bot (lastT r)))→p (.over (lastT r) (lastB r)))
  (hun:lastT r≠lastB r→r.ls.getD (lastT r) 0 < r.ls.getD (lastB r) 0→(r.ts.getD (lastB r) false=true∨r.ls.getD (lastB r) 0≤lenOf r.ls (J1 r.top (lastB r)))→p (.under (lastB r) (lastT r)))
  (hos:∀ t,lastT r≠lastB r→r.ls.getD (lastB r) 0 < r.ls.getD (lastT r) 0→r.ts.getD (lastT r) false=false→1≤t→1≤lenOf r.ls (J1 r.bot (lastT r))→lenOf r.ls (J1 r.bot (lastT r)) < r.ls.getD (lastT r) 0→t=(r.ls.getD (lastT r) 0 - 1) / lenOf r.ls (J1 r.bot (lastT r))→t * lenOf r.ls (J1 r.bot (lastT r)) < r.ls.getD (lastT r) 0→p (.overs (lastT r) t))
  (hus:∀ t,lastT r≠lastB r→r.ls.getD (lastT r) 0 < r.ls.getD (lastB r) 0→r.ts.getD (lastB r) false=false→1≤t→1≤lenOf r.ls (J1 r.top (lastB r))→lenOf r.ls (J1 r.top (lastB r)) < r.ls.getD (lastB r) 0→t=(r.ls.getD (lastB r) 0 - 1) / lenOf r.ls (J1 r.top (lastB r))→t * lenOf r.ls (J1 r.top (lastB r)) < r.ls.getD (lastB r) 0→p (.unders (lastB r) t)):p (nextN r):=by
 unfold nextN
 have mT:=h.mT ne
 have mB:=h.mB ne
 by_cases c1:lastT r=lastB r
 ·rw [if_pos c1];exact hh c1
 rw [if_neg c1]
 by_cases c2:r.ls.getD (lastT r) 0=r.ls.getD (lastB r) 0
 ·rw [if_pos c2];exact he c1 c2
 rw [if_neg c2]
 have key:∀ (row:List Nat) (a:Nat),a∈row→(∀ j∈row,1≤r.ls.getD j 0)→row.getD (row.length - 1) 0≠a→
   1≤lenOf r.ls (J1 row a)∧(0 < J1e r a row→r.ts.getD a false=false∧1≤J1e r a row∧lenOf r.ls (J1 row a) < r.ls.getD a 0∧J1e r a row=(r.ls.getD a 0 - 1) / lenOf r.ls (J1 row a)∧J1e r a row * lenOf r.ls (J1 row a) < r.ls.getD a 0)∧
   (¬ 0 < J1e r a row→r.ts.getD a false=true∨r.ls.getD a 0≤lenOf r.ls (J1 row a)):=fun row a ha hp hl=>by
  have hs:1≤lenOf r.ls (J1 row a):=lenOf_pos (fun j hj=>hp j (J14 hj)) (behind_ne ha hl)
  refine ⟨hs,fun hw=>?_,fun hw=>?_⟩
  ·by_cases ct:r.ts.getD a false=true
   ·unfold J1e at hw;rw [if_pos ct] at hw;omega
   ·have e:J1e r a row=(r.ls.getD a 0 - 1) / lenOf r.ls (J1 row a):=by unfold J1e;rw [if_neg ct]
    have h1:=times_fit (la:=r.ls.getD a 0) hs
    rw [e] at hw ⊢
    refine ⟨by simpa using ct,by omega,?_,rfl,by omega⟩
    have h2:lenOf r.ls (J1 row a) * 1≤lenOf r.ls (J1 row a) * ((r.ls.getD a 0 - 1) / lenOf r.ls (J1 row a)):=Int.mul_le_mul_of_nonneg_left (by omega) (by omega)
    rw [Int.mul_comm (lenOf r.ls (J1 row a)) ((r.ls.getD a 0 - 1) / lenOf r.ls (J1 row a))] at h2
    omega
  ·by_cases ct:r.ts.getD a false=true
   ·exact .inl ct
   ·right
    have e:J1e r a row=(r.ls.getD a 0 - 1) / lenOf r.ls (J1 row a):=by unfold J1e;rw [if_neg ct]
    rw [e] at hw
    by_cases q:r.ls.getD a 0≤lenOf r.ls (J1 row a)
    ·exact q
    ·have:=(Int.le_ediv_iff_mul_le (a:=1) (b:=r.ls.getD a 0 - 1) (c:=lenOf r.ls (J1 row a)) (by omega)).mpr (by omega)
     omega
 by_cases c3:r.ls.getD (lastB r) 0 < r.ls.getD (lastT r) 0
 ·rw [if_pos c3]
  obtain ⟨hs,k1,k2⟩:=key r.bot (lastT r) (h.perm.mem_iff.mpr mT) (fun j hj=>h.rowB.pos j hj) (fun e=>c1 e.symm)
  by_cases c4:0 < J1e r (lastT r) r.bot
  ·rw [if_pos c4]
   obtain ⟨q1,q2,q3,q4,q5⟩:=k1 c4
   exact hos _ c1 c3 q1 q2 hs q3 q4 q5
  ·rw [if_neg c4];exact hov c1 c3 (k2 c4)
 ·rw [if_neg c3]
  have c3':r.ls.getD (lastT r) 0 < r.ls.getD (lastB r) 0:=by omega
  obtain ⟨hs,k1,k2⟩:=key r.top (lastB r) mB (fun j hj=>h.row.pos j hj) c1
  by_cases c4:0 < J1e r (lastB r) r.top
  ·rw [if_pos c4]
   obtain ⟨q1,q2,q3,q4,q5⟩:=k1 c4
   exact hus _ c1 c3' q1 q2 hs q3 q4 q5
  ·rw [if_neg c4];exact hun c1 c3' (k2 c4)
theorem Rst.Ok.next {r:Rst} (h:r.Ok) (ne:r.top≠[]):((nextN r).behind r).Ok:=by
 have mT:=h.mT ne
 have mB:=h.mB ne
 have mTb:=h.perm.mem_iff.mpr mT
 have mBb:=h.perm.mem_iff.mpr mB
 have ndB:=h.rowB.nd
 refine Jr h ne (p:=fun s=>(s.behind r).Ok) (fun _=>?_) (fun c1 c2=>?_) (fun c1 c2 _=>?_) (fun c1 c2 _=>?_) (fun t c1 c2 c3 c4 c5 _ c6 c7=>?_) (fun t c1 c2 c3 c4 c5 _ c6 c7=>?_)
 ·refine h.less mT (J1i h.perm _) (by rw [List.length_set]) (fun j hj=>?_) ?_
  ·rw [J1h _ _ _ _ (by rw [h.len];exact h.row.lt _ mT)]
   split
   ·rfl
   ·exact h.zt j hj
  ·rw [J1h _ _ _ _ (by rw [h.len];exact h.row.lt _ mT),if_pos rfl]
 ·refine h.less mT ((J1i (J1w ndB mBb false) _).trans (J1i h.perm _)) (by rw [List.length_set,J17]) (fun j hj=>?_) ?_
  ·rw [J1h _ _ _ _ (by rw [J17,h.len];exact h.row.lt _ mT)]
   split
   ·rfl
   ·exact J2e h mB j hj
  ·rw [J1h _ _ _ _ (by rw [J17,h.len];exact h.row.lt _ mT),if_pos rfl]
 ·exact h.of_rows (List.Perm.refl _) ((J1w ndB mBb _).trans h.perm) (by rw [List.length_set]) (J17 _ _ _) (set_pos h mT (by omega)) (set_out h mT) (J2e h mB)
 ·exact h.of_rows (J1w h.row.nd mT _) h.perm (by rw [List.length_set]) (J17 _ _ _) (set_pos h mB (by omega)) (set_out h mB) (J2e h mT)
 ·exact h.of_rows (List.Perm.refl _) h.perm (by rw [List.length_set]) rfl (set_pos h mT (by omega)) (set_out h mT) h.zt
 ·exact h.of_rows (List.Perm.refl _) h.perm (by rw [List.length_set]) rfl (set_pos h mB (by omega)) (set_out h mB) h.zt
theorem J4d:∀ (n:Nat) (row:List Nat),row.Nodup→(∀ j∈row,j < n)→row.length≤n
 | 0,row,_,h=>by
  cases row with
  | nil=>exact Nat.le_refl _
  | cons a r=>exact absurd (h a List.mem_cons_self) (Nat.not_lt_zero _)
 | n + 1,row,nd,h=>by
  by_cases c:n∈row
  ·have h1:=J1u nd c
   have h2:=J4d n (J3 row n) (J19 nd n) fun j hj=>by
    have:=h j (mem_without.mp hj).1
    have:=(mem_without.mp hj).2
    omega
   omega
  ·have:=J4d n row nd fun j hj=>by
    have h1:=h j hj
    have h2:j≠n:=fun e=>c (e ▸ hj)
    omega
   omega
theorem Row.len_le {ls:List Int} {row:List Nat} (h:Row ls row):row.length≤ls.length:=J4d _ _ h.nd h.lt
end Rl
namespace Rl
theorem split_last {row:List Nat} (h:row≠[]):row=row.dropLast ++ [row.getD (row.length - 1) 0]:=by
 have hl:=List.length_pos_iff.mpr h
 have e:row.getD (row.length - 1) 0=row.getLast h:=by
  rw [List.getD_eq_getElem?_getD,List.getElem?_eq_getElem (by omega),List.getLast_eq_getElem];rfl
 rw [e]
 exact (List.dropLast_concat_getLast h).symm
theorem without_app (xs ys:List Nat) (x:Nat):J3 (xs ++ ys) x=J3 xs x ++ J3 ys x:=by unfold J3;rw [List.filter_append]
theorem without_not {xs:List Nat} {x:Nat} (h:x ∉ xs):J3 xs x=xs:=List.filter_eq_self.mpr fun j hj=>decide_eq_true (fun e=>h (e ▸ hj))
theorem J42 (x:Nat):J3 [x] x=[]:=by unfold J3;simp
theorem idx_app {s:List Nat} {a:Nat} (t:List Nat) (h:a ∉ s):(s ++ a :: t).idxOf a=s.length:=by
 induction s with
 | nil=>simp
 | cons x s ih =>
  have hx:(x == a)=false:=by
   have:x≠a:=fun e=>h (by rw [e];exact List.mem_cons_self)
   simpa using this
  rw [List.cons_append,List.idxOf_cons,hx,ih fun q=>h (List.mem_cons_of_mem _ q)]
  rfl
def NextP (r:Rst):Stp→Prop
 | .home a=>a=lastT r∧a=lastB r
 | .even a b=>a=lastT r∧b=lastB r∧a≠b∧r.ls.getD a 0=r.ls.getD b 0
 | .over a b=>a=lastT r∧b=lastB r∧a≠b∧r.ls.getD b 0 < r.ls.getD a 0
 | .under a b=>a=lastB r∧b=lastT r∧a≠b∧r.ls.getD b 0 < r.ls.getD a 0
 | .overs a t=>a=lastT r∧a≠lastB r∧r.ts.getD a false=false∧1≤t∧1≤lenOf r.ls (J1 r.bot a)∧t * lenOf r.ls (J1 r.bot a) < r.ls.getD a 0
 | .unders a t=>a=lastB r∧a≠lastT r∧r.ts.getD a false=false∧1≤t∧1≤lenOf r.ls (J1 r.top a)∧t * lenOf r.ls (J1 r.top a) < r.ls.getD a 0
theorem nextP {r:Rst} (h:r.Ok) (ne:r.top≠[]):NextP r (nextN r) :=
 Jr h ne (p:=NextP r) (fun c=>⟨rfl,c⟩) (fun c1 c2=>⟨rfl,rfl,c1,c2⟩) (fun c1 c2 _=>⟨rfl,rfl,c1,c2⟩) (fun c1 c2 _=>⟨rfl,rfl,fun e=>c1 e.symm,c2⟩)
  (fun t c1 c2 c3 c4 c5 _ _ c6=>⟨rfl,c1,c3,c4,c5,c6⟩) (fun t c1 c2 c3 c4 c5 _ _ c6=>⟨rfl,fun e=>c1 e.symm,c3,c4,c5,c6⟩)
theorem NextP.win {r:Rst} (h:r.Ok) (ne:r.top≠[]) {s:Stp} (n:NextP r s):s.winner∈r.top:=by
 have mT:=h.mT ne
 have mB:=h.mB ne
 cases s with
 | home a=>rw [show (Stp.home a).winner=a from rfl,n.1];exact mT
 | even a b=>rw [show (Stp.even a b).winner=a from rfl,n.1];exact mT
 | over a b=>rw [show (Stp.over a b).winner=a from rfl,n.1];exact mT
 | under a b=>rw [show (Stp.under a b).winner=a from rfl,n.1];exact mB
 | overs a t=>rw [show (Stp.overs a t).winner=a from rfl,n.1];exact mT
 | unders a t=>rw [show (Stp.unders a t).winner=a from rfl,n.1];exact mB
theorem Rst.Ok.le_size {r:Rst} (h:r.Ok) {j:Nat} (hj:j∈r.top):r.ls.getD j 0≤r.size:=lenOf_mem (fun j hj=>by have:=h.row.pos j hj;omega) hj
theorem NextP.times {r:Rst} (h:r.Ok) (ne:r.top≠[]) {s:Stp} (n:NextP r s) (hz:r.size≤10 ^ 30):s.times.natAbs≤10 ^ 30:=by
 have hw:=h.le_size (n.win h ne)
 have key:∀ {t l s:Int},1≤t→1≤s→t * s < l→t≤l:=fun {t l s} h1 h2 h3=>by
  have:t * 1≤t * s:=Int.mul_le_mul_of_nonneg_left h2 (by omega)
  omega
 cases s with
 | overs a t =>
  obtain ⟨_,_,_,h4,h5,h6⟩:=n
  have:=key h4 h5 h6
  show t.natAbs≤10 ^ 30
  have hw:r.ls.getD a 0≤r.size:=hw
  omega
 | unders a t =>
  obtain ⟨_,_,_,h4,h5,h6⟩:=n
  have:=key h4 h5 h6
  show t.natAbs≤10 ^ 30
  have hw:r.ls.getD a 0≤r.size:=hw
  omega
 | home a=>show (1:Int).natAbs≤10 ^ 30;decide
 | even a b=>show (1:Int).natAbs≤10 ^ 30;decide
 | over a b=>show (1:Int).natAbs≤10 ^ 30;decide
 | under a b=>show (1:Int).natAbs≤10 ^ 30;decide
theorem NextP.losers_nd {r:Rst} (h:r.Ok) {s:Stp}:(s.losers r).Nodup:=by
 cases s with
 | home a=>exact List.nodup_nil
 | even a b=>exact (by simp:[b].Nodup)
 | over a b=>exact (by simp:[b].Nodup)
 | under a b=>exact (by simp:[b].Nodup)
 | overs a t=>exact List.Sublist.nodup (List.drop_sublist _ _) h.rowB.nd
 | unders a t=>exact List.Sublist.nodup (List.drop_sublist _ _) h.row.nd
end Rl
namespace Rl
theorem Jf (ls:List Int) {a:Nat} (v:Int):∀ {row:List Nat},a ∉ row→lenOf (ls.set a v) row=lenOf ls row
 | [],_=>rfl
 | b :: row,h=>by
  have h1:a≠b:=fun e=>h (e ▸ List.mem_cons_self ..)
  rw [Jc,Jc,Jf ls v (row:=row) fun q=>h (List.mem_cons_of_mem _ q)]
  rw [List.getD_eq_getElem?_getD,List.getD_eq_getElem?_getD,List.getElem?_set_ne h1]
theorem J1q (ls:List Int) {a:Nat} (v:Int) (ha:a < ls.length):∀ {row:List Nat},row.Nodup→a∈row→lenOf (ls.set a v) row=lenOf ls row - ls.getD a 0 + v
 | b :: row,nd,h=>by
  rw [List.nodup_cons] at nd
  rw [Jc,Jc]
  by_cases e:a=b
  ·subst e
   rw [Jf ls v nd.1,Jq _ _ _ _ ha,if_pos rfl]
   lia
  ·have h2:a∈row:=(List.mem_cons.mp h).resolve_left e
   rw [J1q ls v ha nd.2 h2,Jq _ _ _ _ ha,if_neg (fun q=>e q.symm)]
   lia
theorem J21 {ls:List Int} {row:List Nat} (nd:row.Nodup) {a:Nat} (ha:a∈row):lenOf ls (J3 row a) + ls.getD a 0=lenOf ls row:=by
 rw [← J1r (J16 nd ha),Jc]
 lia
theorem J32 (row:List Nat) (a:Nat):a ∉ J3 row a:=fun h=>(mem_without.mp h).2 rfl
def madeS (ls:List Int) (los:List Nat) (t:Int) (row:List Nat):Int:=(row.map fun j=>if j∈los then ls.getD j 0 * (1 + t) else ls.getD j 0).sum
theorem madeS_cons (ls:List Int) (los:List Nat) (t:Int) (j:Nat) (row:List Nat):madeS ls los t (j :: row)=(if j∈los then ls.getD j 0 * (1 + t) else ls.getD j 0) + madeS ls los t row:=by
 unfold madeS;rw [List.map_cons,List.sum_cons]
theorem madeS_eq (ls:List Int) (los:List Nat) (t:Int):∀ row:List Nat,madeS ls los t row=lenOf ls row + t * lenOf ls (row.filter fun j=>decide (j∈los))
 | []=>by unfold madeS;simp [J10]
 | j :: row=>by
  rw [madeS_cons,Jc,madeS_eq ls los t row,List.filter_cons]
  by_cases c:j∈los
  ·rw [if_pos c,if_pos (decide_eq_true c),Jc,Int.mul_add,Int.mul_add,Int.mul_one,Int.mul_comm (ls.getD j 0) t]
   lia
  ·rw [if_neg c,if_neg (by simpa using c)]
   lia
theorem J35 {row los:List Nat} (nd:row.Nodup) (nl:los.Nodup) (hs:∀ j∈los,j∈row):(row.filter fun j=>decide (j∈los)).Perm los:=by
 refine (List.perm_ext_iff_of_nodup (nd.filter _) nl).mpr fun j=>?_
 rw [List.mem_filter,decide_eq_true_iff]
 exact ⟨fun q=>q.2,fun q=>⟨hs j q,q⟩⟩
def Stp.isHome:Stp→Bool
 | .home _=>true | _=>false
def Stp.drops:Stp→Bool
 | .home _=>true | .even _ _=>true | _=>false
theorem Ji {row:List Nat} (nd:row.Nodup) {a:Nat} (ha:a∈row):a ∉ J1 row a:=fun h=>by
 unfold J1 at h
 obtain ⟨i,hi,e⟩:=List.getElem_of_mem h
 rw [List.getElem_drop] at e
 have h1:row.idxOf a < row.length:=List.idxOf_lt_length_iff.mpr ha
 have h2:row[row.idxOf a]=a:=List.getElem_idxOf h1
 have h3:=(List.getElem_inj nd).mp (e.trans h2.symm)
 lia
structure Down (r:Rst) (s:Stp):Prop where
 size:(s.behind r).size + s.times * lenOf r.ls (s.losers r) + (if s.isHome=true then r.ls.getD s.winner 0 else 0)=r.size
 less:(s.behind r).size < r.size
 made:madeS (s.behind r).ls (s.losers r) s.times (s.behind r).top=(s.behind r).size + s.times * lenOf r.ls (s.losers r)
 sub:∀ j∈(s.behind r).top,j∈r.top
 len:(s.behind r).top.length + (if s.drops=true then 1 else 0)=r.top.length
theorem J1c {r l:Rst} {los:List Nat} {t:Int} {a:Nat} {v:Int} (nd:l.top.Nodup) (nl:los.Nodup) (hs:∀ j∈los,j∈l.top) (hl:l.ls=r.ls.set a v) (ha:a ∉ los) :
  madeS l.ls los t l.top=l.size + t * lenOf r.ls los:=by
 rw [madeS_eq,J1r (J35 nd nl hs)]
 rw [hl,Jf _ _ ha,← hl]
 rfl
theorem Rst.Ok.down {r:Rst} (h:r.Ok) (ne:r.top≠[]):Down r (nextN r):=by
 have n:=nextP h ne
 have ok:=h.next ne
 have w:=n.win h ne
 have mT:=h.mT ne
 have mB:=h.mB ne
 have nd:=h.row.nd
 have ndB:=h.rowB.nd
 have nl:=NextP.losers_nd h (s:=nextN r)
 have hlt:=h.row.lt
 have pos:=h.row.pos
 generalize nextN r=s at *
 cases s with
 | home a =>
  have wa:a∈r.top:=w
  have sz:((Stp.home a).behind r).size=lenOf r.ls (J3 r.top a):=Jf _ _ (J32 _ _)
  have e:=J21 (ls:=r.ls) nd wa
  have p:=pos a wa
  have e2:r.size=lenOf r.ls r.top:=rfl
  refine ⟨?_,by lia,?_,fun j hj=>(mem_without.mp hj).1,J1u nd wa⟩
  ·show ((Stp.home a).behind r).size + 1 * lenOf r.ls [] + (if true=true then r.ls.getD a 0 else 0)=r.size
   rw [if_pos rfl,J10];lia
  ·exact J1c (a:=a) (v:=0) ok.row.nd nl (fun j hj=>nomatch hj) rfl (fun q=>nomatch q)
 | even a b =>
  obtain ⟨n1,n2,n3,n4⟩:=n
  have wa:a∈r.top:=w
  have wb:b∈r.top:=by rw [n2];exact mB
  have sz:((Stp.even a b).behind r).size=lenOf r.ls (J3 r.top a):=Jf _ _ (J32 _ _)
  have e:=J21 (ls:=r.ls) nd wa
  have p:=pos a wa
  have e2:r.size=lenOf r.ls r.top:=rfl
  have eb:lenOf r.ls [b]=r.ls.getD b 0:=by rw [Jc,J10,Int.add_zero]
  refine ⟨?_,by lia,?_,fun j hj=>(mem_without.mp hj).1,J1u nd wa⟩
  ·show ((Stp.even a b).behind r).size + 1 * lenOf r.ls [b] + (if false=true then r.ls.getD a 0 else 0)=r.size
   rw [if_neg (by decide),eb];lia
  ·refine J1c (a:=a) (v:=0) ok.row.nd nl (fun j hj=>?_) rfl (fun q=>?_)
   ·cases List.mem_singleton.mp hj
    exact mem_without.mpr ⟨wb,fun e=>n3 e.symm⟩
   ·exact n3 (List.mem_singleton.mp q)
 | over a b =>
  obtain ⟨n1,n2,n3,n4⟩:=n
  have wa:a∈r.top:=w
  have wb:b∈r.top:=by rw [n2];exact mB
  have sz:((Stp.over a b).behind r).size=lenOf r.ls r.top - r.ls.getD a 0 + (r.ls.getD a 0 - r.ls.getD b 0):=J1q _ _ (hlt a wa) nd wa
  have p:=pos b wb
  have e2:r.size=lenOf r.ls r.top:=rfl
  have eb:lenOf r.ls [b]=r.ls.getD b 0:=by rw [Jc,J10,Int.add_zero]
  refine ⟨?_,by lia,?_,fun j hj=>hj,rfl⟩
  ·show ((Stp.over a b).behind r).size + 1 * lenOf r.ls [b] + (if false=true then r.ls.getD a 0 else 0)=r.size
   rw [if_neg (by decide),eb];lia
  ·refine J1c (a:=a) (v:=r.ls.getD a 0 - r.ls.getD b 0) ok.row.nd nl (fun j hj=>?_) rfl (fun q=>?_)
   ·cases List.mem_singleton.mp hj
    exact wb
   ·exact n3 (List.mem_singleton.mp q)
 | under a b =>
  obtain ⟨n1,n2,n3,n4⟩:=n
  have wa:a∈r.top:=w
  have wb:b∈r.top:=by rw [n2];exact mT
  have pp:=J1w nd (w:=a) wb (r.ts.getD a false)
  have sz:((Stp.under a b).behind r).size=lenOf r.ls r.top - r.ls.getD a 0 + (r.ls.getD a 0 - r.ls.getD b 0):=(J1r pp).trans (J1q _ _ (hlt a wa) nd wa)
  have p:=pos b wb
  have e2:r.size=lenOf r.ls r.top:=rfl
  have eb:lenOf r.ls [b]=r.ls.getD b 0:=by rw [Jc,J10,Int.add_zero]
  refine ⟨?_,by lia,?_,fun j hj=>pp.mem_iff.mp hj,pp.length_eq⟩
  ·show ((Stp.under a b).behind r).size + 1 * lenOf r.ls [b] + (if false=true then r.ls.getD a 0 else 0)=r.size
   rw [if_neg (by decide),eb];lia
  ·refine J1c (a:=a) (v:=r.ls.getD a 0 - r.ls.getD b 0) ok.row.nd nl (fun j hj=>?_) rfl (fun q=>?_)
   ·cases List.mem_singleton.mp hj
    exact pp.mem_iff.mpr wb
   ·exact n3 (List.mem_singleton.mp q)
 | overs a t =>
  obtain ⟨n1,n2,n3,n4,n5,n6⟩:=n
  have wa:a∈r.top:=w
  have wab:a∈r.bot:=h.perm.mem_iff.mpr wa
  have sz:((Stp.overs a t).behind r).size=lenOf r.ls r.top - r.ls.getD a 0 + (r.ls.getD a 0 - t * lenOf r.ls (J1 r.bot a)):=J1q _ _ (hlt a wa) nd wa
  have e2:r.size=lenOf r.ls r.top:=rfl
  have p:1≤t * lenOf r.ls (J1 r.bot a):=by
   have:=Int.mul_le_mul n4 n5 (by decide) (by lia)
   lia
  refine ⟨?_,by lia,?_,fun j hj=>hj,rfl⟩
  ·show ((Stp.overs a t).behind r).size + t * lenOf r.ls (J1 r.bot a) + (if false=true then r.ls.getD a 0 else 0)=r.size
   rw [if_neg (by decide)];lia
  ·exact J1c (a:=a) ok.row.nd nl (fun j hj=>h.perm.mem_iff.mp (J14 hj)) rfl (Ji ndB wab)
 | unders a t =>
  obtain ⟨n1,n2,n3,n4,n5,n6⟩:=n
  have wa:a∈r.top:=w
  have sz:((Stp.unders a t).behind r).size=lenOf r.ls r.top - r.ls.getD a 0 + (r.ls.getD a 0 - t * lenOf r.ls (J1 r.top a)):=J1q _ _ (hlt a wa) nd wa
  have e2:r.size=lenOf r.ls r.top:=rfl
  have p:1≤t * lenOf r.ls (J1 r.top a):=by
   have:=Int.mul_le_mul n4 n5 (by decide) (by lia)
   lia
  refine ⟨?_,by lia,?_,fun j hj=>hj,rfl⟩
  ·show ((Stp.unders a t).behind r).size + t * lenOf r.ls (J1 r.top a) + (if false=true then r.ls.getD a 0 else 0)=r.size
   rw [if_neg (by decide)];lia
  ·exact J1c (a:=a) ok.row.nd nl (fun j hj=>J14 hj) rfl (Ji nd wa)
end Rl
namespace Rl
def fS (f:Nat→Int) (row:List Nat):Int:=(row.map f).sum
theorem fS_nil (f:Nat→Int):fS f []=0:=rfl
theorem J1g (f:Nat→Int) (j:Nat) (row:List Nat):fS f (j :: row)=f j + fS f row:=by unfold fS;rw [List.map_cons,List.sum_cons]
theorem fS_perm {f:Nat→Int} {xs ys:List Nat} (h:xs.Perm ys):fS f xs=fS f ys:=J4a (h.map _)
theorem J4k {f g:Nat→Int}:∀ {row:List Nat},(∀ j∈row,f j=g j)→fS f row=fS g row
 | [],_=>rfl
 | j :: row,h=>by
  rw [J1g,J1g,h j List.mem_cons_self,J4k fun i hi=>h i (List.mem_cons_of_mem _ hi)]
theorem fS_add (f g:Nat→Int):∀ row:List Nat,fS (fun j=>f j + g j) row=fS f row + fS g row
 | []=>rfl
 | j :: row=>by
  rw [J1g,J1g,J1g,fS_add f g row]
  lia
theorem J3x {f:Nat→Int} {row:List Nat} (nd:row.Nodup) {a:Nat} (ha:a∈row):fS f (J3 row a) + f a=fS f row:=by
 rw [← fS_perm (J16 nd ha),J1g]
 lia
theorem fS_if (c:Int) (f:Nat→Int) (los:List Nat):∀ row:List Nat,fS (fun j=>if j∈los then c * f j else 0) row=c * fS f (row.filter fun j=>decide (j∈los))
 | []=>by simp [fS_nil]
 | j :: row=>by
  rw [J1g,fS_if c f los row,List.filter_cons]
  by_cases q:j∈los
  ·rw [if_pos q,if_pos (decide_eq_true q),J1g,Int.mul_add]
  ·rw [if_neg q,if_neg (by simpa using q)]
   lia
theorem fS_nonneg {f:Nat→Int}:∀ {row:List Nat},(∀ j∈row,0≤f j)→0≤fS f row
 | [],_=>Int.le_refl _
 | j :: row,h=>by
  rw [J1g]
  have:=h j List.mem_cons_self
  have:=fS_nonneg fun i hi=>h i (List.mem_cons_of_mem _ hi)
  lia
theorem fS_mem {f:Nat→Int}:∀ {row:List Nat},(∀ j∈row,0≤f j)→∀ {j:Nat},j∈row→f j≤fS f row
 | a :: row,h,j,hj=>by
  rw [J1g]
  have h1:=h a List.mem_cons_self
  have h2:=fS_nonneg fun i hi=>h i (List.mem_cons_of_mem _ hi)
  rcases List.mem_cons.mp hj with rfl | hj
  ·lia
  ·have:=fS_mem (fun i hi=>h i (List.mem_cons_of_mem _ hi)) hj
   lia
def towB (s:Stp) (r:Rst) (T:List Int):List Int:=(List.range T.length).map fun j=>if j∈(s.behind r).top then (if j∈s.losers r then T.getD j 0 + T.getD s.winner 0 * s.times else T.getD j 0) else 0
theorem towB_len (s:Stp) (r:Rst) (T:List Int):(towB s r T).length=T.length:=by unfold towB;rw [List.length_map,List.length_range]
theorem towB_get (s:Stp) (r:Rst) (T:List Int) {j:Nat} (h:j < T.length):(towB s r T).getD j 0=if j∈(s.behind r).top then (if j∈s.losers r then T.getD j 0 + T.getD s.winner 0 * s.times else T.getD j 0) else 0:=by
 unfold towB
 rw [List.getD_eq_getElem?_getD,List.getElem?_map,List.getElem?_range h];rfl
def wS (ls T:List Int) (row:List Nat):Int:=fS (fun j=>ls.getD j 0 * T.getD j 0) row
theorem stays_aux {r l:Rst} {los:List Nat} {t v:Int} {a:Nat} {T T':List Int} (nd:r.top.Nodup) (wa:a∈r.top) (ha:a < r.ls.length) (nl:los.Nodup) (hs:∀ j∈los,j∈l.top) (al:a ∉ los) (hl:l.ls=r.ls.set a v) (ndl:l.top.Nodup)
  (hT:∀ j∈l.top,T'.getD j 0=T.getD j 0 + (if j∈los then T.getD a 0 * t else 0)) (htop:l.top.Perm r.top∨(l.top.Perm (J3 r.top a)∧v=0)) :
  wS l.ls T' l.top=wS r.ls T r.top - r.ls.getD a 0 * T.getD a 0 + v * T.getD a 0 + T.getD a 0 * t * lenOf r.ls los:=by
 have e1:wS l.ls T' l.top=wS l.ls T l.top + T.getD a 0 * t * lenOf r.ls los:=by
  have c:wS l.ls T' l.top=fS (fun j=>l.ls.getD j 0 * T.getD j 0 + (if j∈los then (T.getD a 0 * t) * l.ls.getD j 0 else 0)) l.top:=J4k fun j hj=>by
   rw [hT j hj,Int.mul_add]
   by_cases q:j∈los
   ·rw [if_pos q,if_pos q,Int.mul_comm (l.ls.getD j 0) (T.getD a 0 * t)]
   ·rw [if_neg q,if_neg q,Int.mul_zero]
  rw [c,fS_add,fS_if]
  have e:fS (fun j=>l.ls.getD j 0) (l.top.filter fun j=>decide (j∈los))=lenOf r.ls los:=by
   rw [fS_perm (J35 ndl nl hs)]
   show lenOf l.ls los=_
   rw [hl,Jf _ _ al]
  rw [e];rfl
 have ca:l.ls.getD a 0=v:=by rw [hl,Jq _ _ _ _ ha,if_pos rfl]
 have cw:fS (fun j=>l.ls.getD j 0 * T.getD j 0) (J3 r.top a)=fS (fun j=>r.ls.getD j 0 * T.getD j 0) (J3 r.top a):=J4k fun j hj=>by
  have q:=(mem_without.mp hj).2
  show l.ls.getD j 0 * _=_
  rw [hl,Jq _ _ _ _ ha,if_neg q]
 have full:=J3x (f:=fun j=>r.ls.getD j 0 * T.getD j 0) nd wa
 have e2:wS l.ls T l.top=wS r.ls T r.top - r.ls.getD a 0 * T.getD a 0 + v * T.getD a 0:=by
  rcases htop with p | ⟨p,rfl⟩
  ·have e:=J3x (f:=fun j=>l.ls.getD j 0 * T.getD j 0) nd wa
   unfold wS
   rw [fS_perm p,← e,cw]
   simp only [ca] at *
   lia
  ·unfold wS
   rw [fS_perm p,cw]
   simp only [Int.zero_mul] at *
   lia
 rw [e1,e2]
theorem J3f {r:Rst} (h:r.Ok) (ne:r.top≠[]):if (nextN r).drops=true then ((nextN r).behind r).top=J3 r.top (nextN r).winner else ((nextN r).behind r).top.Perm r.top:=by
 refine Jr h ne (p:=fun s=>if s.drops=true then (s.behind r).top=J3 r.top s.winner else (s.behind r).top.Perm r.top) (fun _=>?_) (fun _ _=>?_) (fun _ _ _=>?_) (fun _ _ _=>?_) (fun t _ _ _ _ _ _ _ _=>?_) (fun t _ _ _ _ _ _ _ _=>?_)
 ·show J3 r.top (lastT r)=J3 r.top (lastT r);rfl
 ·show J3 r.top (lastT r)=J3 r.top (lastT r);rfl
 ·show List.Perm r.top r.top;exact List.Perm.refl _
 ·show List.Perm (putR r.top (lastB r) (lastT r) (r.ts.getD (lastB r) false)) r.top;exact J1w h.row.nd (h.mT ne) _
 ·show List.Perm r.top r.top;exact List.Perm.refl _
 ·show List.Perm r.top r.top;exact List.Perm.refl _
structure LosP (r:Rst) (s:Stp):Prop where
 sub:∀ j∈s.losers r,j∈(s.behind r).top
 no:s.winner ∉ s.losers r
 one:1≤s.times
 tl:s.isHome=false→r.ls.getD s.winner 0 - s.times * lenOf r.ls (s.losers r)=(s.behind r).ls.getD s.winner 0
 ls:(s.behind r).ls=r.ls.set s.winner ((s.behind r).ls.getD s.winner 0)
 zero:s.drops=true→(s.behind r).ls.getD s.winner 0=0
theorem nextL {r:Rst} (h:r.Ok) (ne:r.top≠[]):LosP r (nextN r):=by
 have n:=nextP h ne
 have w:=n.win h ne
 have mT:=h.mT ne
 have mB:=h.mB ne
 have nd:=h.row.nd
 have ndB:=h.rowB.nd
 have hlt:=h.row.lt
 generalize nextN r=s at *
 have sg:∀ (v:Int),(r.ls.set s.winner v).getD s.winner 0=v:=fun v=>by rw [Jq _ _ _ _ (hlt _ w),if_pos rfl]
 have one1:∀ b,lenOf r.ls [b]=r.ls.getD b 0:=fun b=>by rw [Jc,J10,Int.add_zero]
 cases s with
 | home a =>
  have sg:∀ (v:Int),(r.ls.set a v).getD a 0=v:=sg
  refine ⟨fun j hj=>(nomatch hj),fun q=>(nomatch q),Int.le_refl _,fun q=>(nomatch q),?_,fun _=>sg 0⟩
  show r.ls.set a 0=r.ls.set a ((r.ls.set a 0).getD a 0)
  rw [sg]
 | even a b =>
  obtain ⟨n1,n2,n3,n4⟩:=n
  have sg:∀ (v:Int),(r.ls.set a v).getD a 0=v:=sg
  have wb:b∈r.top:=by rw [n2];exact mB
  refine ⟨fun j hj=>?_,fun q=>n3 (List.mem_singleton.mp q),Int.le_refl _,fun _=>?_,?_,fun _=>sg 0⟩
  ·cases List.mem_singleton.mp hj
   exact mem_without.mpr ⟨wb,fun e=>n3 e.symm⟩
  ·show r.ls.getD a 0 - 1 * lenOf r.ls [b]=(r.ls.set a 0).getD a 0
   rw [sg,one1];lia
  ·show r.ls.set a 0=r.ls.set a ((r.ls.set a 0).getD a 0)
   rw [sg]
 | over a b =>
  obtain ⟨n1,n2,n3,n4⟩:=n
  have sg:∀ (v:Int),(r.ls.set a v).getD a 0=v:=sg
  have wb:b∈r.top:=by rw [n2];exact mB
  refine ⟨fun j hj=>?_,fun q=>n3 (List.mem_singleton.mp q),Int.le_refl _,fun _=>?_,?_,fun q=>nomatch q⟩
  ·cases List.mem_singleton.mp hj
   exact wb
  ·show r.ls.getD a 0 - 1 * lenOf r.ls [b]=(r.ls.set a (r.ls.getD a 0 - r.ls.getD b 0)).getD a 0
   rw [sg,one1];lia
  ·show r.ls.set a _=r.ls.set a ((r.ls.set a (r.ls.getD a 0 - r.ls.getD b 0)).getD a 0)
   rw [sg]
 | under a b =>
  obtain ⟨n1,n2,n3,n4⟩:=n
  have sg:∀ (v:Int),(r.ls.set a v).getD a 0=v:=sg
  have wb:b∈r.top:=by rw [n2];exact mT
  have pp:=J1w nd (w:=a) wb (r.ts.getD a false)
  refine ⟨fun j hj=>?_,fun q=>n3 (List.mem_singleton.mp q),Int.le_refl _,fun _=>?_,?_,fun q=>nomatch q⟩
  ·cases List.mem_singleton.mp hj
   exact pp.mem_iff.mpr wb
  ·show r.ls.getD a 0 - 1 * lenOf r.ls [b]=(r.ls.set a (r.ls.getD a 0 - r.ls.getD b 0)).getD a 0
   rw [sg,one1];lia
  ·show r.ls.set a _=r.ls.set a ((r.ls.set a (r.ls.getD a 0 - r.ls.getD b 0)).getD a 0)
   rw [sg]
 | overs a t =>
  obtain ⟨n1,n2,n3,n4,n5,n6⟩:=n
  have sg:∀ (v:Int),(r.ls.set a v).getD a 0=v:=sg
  have wab:a∈r.bot:=h.perm.mem_iff.mpr w
  refine ⟨fun j hj=>h.perm.mem_iff.mp (J14 hj),Ji ndB wab,n4,fun _=>?_,?_,fun q=>nomatch q⟩
  ·show r.ls.getD a 0 - t * lenOf r.ls (J1 r.bot a)=(r.ls.set a (r.ls.getD a 0 - t * lenOf r.ls (J1 r.bot a))).getD a 0
   rw [sg]
  ·show r.ls.set a _=r.ls.set a ((r.ls.set a (r.ls.getD a 0 - t * lenOf r.ls (J1 r.bot a))).getD a 0)
   rw [sg]
 | unders a t =>
  obtain ⟨n1,n2,n3,n4,n5,n6⟩:=n
  have sg:∀ (v:Int),(r.ls.set a v).getD a 0=v:=sg
  refine ⟨fun j hj=>J14 hj,Ji nd w,n4,fun _=>?_,?_,fun q=>nomatch q⟩
  ·show r.ls.getD a 0 - t * lenOf r.ls (J1 r.top a)=(r.ls.set a (r.ls.getD a 0 - t * lenOf r.ls (J1 r.top a))).getD a 0
   rw [sg]
  ·show r.ls.set a _=r.ls.set a ((r.ls.set a (r.ls.getD a 0 - t * lenOf r.ls (J1 r.top a))).getD a 0)
   rw [sg]
structure Tow (r:Rst) (T:List Int):Prop where
 len:T.length=r.ls.length
 pos:∀ j∈r.top,1≤T.getD j 0
 sum:wS r.ls T r.top≤10 ^ 30
theorem Tow.le {r:Rst} {T:List Int} (h:r.Ok) (t:Tow r T) {j:Nat} (hj:j∈r.top):T.getD j 0≤10 ^ 30:=by
 have h1:r.ls.getD j 0 * T.getD j 0≤wS r.ls T r.top:=fS_mem (f:=fun j=>r.ls.getD j 0 * T.getD j 0) (fun i hi=>Int.mul_nonneg (by have:=h.row.pos i hi;lia) (by have:=t.pos i hi;lia)) hj
 have h2:1 * T.getD j 0≤r.ls.getD j 0 * T.getD j 0:=Int.mul_le_mul_of_nonneg_right (h.row.pos j hj) (by have:=t.pos j hj;lia)
 have:=t.sum
 lia
theorem tow_in {r:Rst} (h:r.Ok) (ne:r.top≠[]) {T:List Int} (hT:T.length=r.ls.length) {j:Nat} (hj:j∈((nextN r).behind r).top) :
  (towB (nextN r) r T).getD j 0=T.getD j 0 + (if j∈(nextN r).losers r then T.getD (nextN r).winner 0 * (nextN r).times else 0):=by
 rw [towB_get _ _ _ (by rw [hT];exact h.row.lt j ((h.down ne).sub j hj)),if_pos hj]
 split <;> lia
theorem Rst.Ok.stay {r:Rst} (h:r.Ok) (ne:r.top≠[]) {T:List Int} (hT:T.length=r.ls.length) :
  wS ((nextN r).behind r).ls (towB (nextN r) r T) ((nextN r).behind r).top + (if (nextN r).isHome=true then r.ls.getD (nextN r).winner 0 * T.getD (nextN r).winner 0 else 0)=wS r.ls T r.top:=by
 have n:=nextP h ne
 have w:=n.win h ne
 have L:=nextL h ne
 have okl:=h.next ne
 have nl:=NextP.losers_nd h (s:=nextN r)
 have tp:=J3f h ne
 have tin:=fun j=>@tow_in r h ne T hT j
 have e:=stays_aux (T:=T) (T':=towB (nextN r) r T) (t:=(nextN r).times) h.row.nd w (h.row.lt _ w) nl L.sub L.no L.ls okl.row.nd (fun j hj=>tin j hj) (by
  by_cases c:(nextN r).drops=true
  ·rw [if_pos c] at tp
   exact .inr ⟨by rw [tp],L.zero c⟩
  ·rw [if_neg c] at tp
   exact .inl tp)
 rw [e]
 by_cases c:(nextN r).isHome=true
 ·have d:(nextN r).drops=true:=by
   generalize nextN r=s at *
   cases s <;> first | rfl | exact absurd c Bool.false_ne_true
  have l0:lenOf r.ls ((nextN r).losers r)=0:=by
   generalize nextN r=s at *
   cases s <;> first | rfl | exact absurd c Bool.false_ne_true
  rw [if_pos c,L.zero d,l0]
  lia
 ·rw [if_neg c]
  have t:=L.tl (by simpa using c)
  rw [← t,Int.sub_mul,Int.mul_comm (T.getD (nextN r).winner 0) (nextN r).times,Int.mul_assoc,Int.mul_assoc,Int.mul_comm (T.getD (nextN r).winner 0) (lenOf r.ls ((nextN r).losers r))]
  lia
theorem Tow.next {r:Rst} {T:List Int} (h:r.Ok) (ne:r.top≠[]) (t:Tow r T):Tow ((nextN r).behind r) (towB (nextN r) r T):=by
 have L:=nextL h ne
 have w:=(nextP h ne).win h ne
 have pw:=t.pos _ w
 have st:=h.stay ne t.len
 refine ⟨?_,fun j hj=>?_,?_⟩
 ·rw [towB_len,t.len,L.ls,List.length_set]
 ·rw [tow_in h ne t.len hj]
  have:=t.pos j ((h.down ne).sub j hj)
  have m:1 * 1≤T.getD (nextN r).winner 0 * (nextN r).times:=Int.mul_le_mul pw L.one (by decide) (by lia)
  split <;> lia
 ·have:=t.sum
  have z:0≤r.ls.getD (nextN r).winner 0 * T.getD (nextN r).winner 0:=Int.mul_nonneg (by have:=h.row.pos _ w;lia) (by lia)
  by_cases c:(nextN r).isHome=true
  ·rw [if_pos c] at st;lia
  ·rw [if_neg c] at st;lia
def lg (x:Int):Nat:=Nat.log2 x.toNat
theorem lg_le {x y:Int} (h1:1≤x) (h:x≤y):lg x≤lg y:=by
 unfold lg
 have hx:x.toNat≠0:=by lia
 have hy:y.toNat≠0:=by lia
 have a:=(Nat.le_log2 hx (k:=x.toNat.log2)).mp (Nat.le_refl _)
 exact (Nat.le_log2 hy).mpr (by lia)
theorem lg_dbl {x y z:Int} (h1:1≤x) (h2:1≤y) (h:lg x≤lg y) (hz:x + y≤z):lg x + 1≤lg z:=by
 unfold lg at *
 have hx:x.toNat≠0:=by lia
 have hy:y.toNat≠0:=by lia
 have hz':z.toNat≠0:=by lia
 have a:=(Nat.le_log2 hx (k:=x.toNat.log2)).mp (Nat.le_refl _)
 have b:=(Nat.le_log2 hy (k:=x.toNat.log2)).mp h
 refine (Nat.le_log2 hz').mpr ?_
 rw [Nat.pow_succ]
 lia
theorem lg_small {x:Int} (h1:1≤x) (h:x≤10 ^ 30):lg x≤99:=by
 unfold lg
 have hx:x.toNat≠0:=by lia
 have:=(Nat.log2_lt hx (k:=100)).mpr (by lia)
 lia
def nS (f:Nat→Nat) (row:List Nat):Nat:=(row.map f).sum
theorem J33 (f:Nat→Nat) (j:Nat) (row:List Nat):nS f (j :: row)=f j + nS f row:=by unfold nS;rw [List.map_cons,List.sum_cons]
theorem nS_perm {f:Nat→Nat} {xs ys:List Nat} (h:xs.Perm ys):nS f xs=nS f ys:=by
 unfold nS
 induction h with
 | nil=>rfl
 | cons x _ ih=>rw [List.map_cons,List.map_cons,List.sum_cons,List.sum_cons,ih]
 | swap x y l=>simp only [List.map_cons,List.sum_cons];lia
 | trans _ _ ih1 ih2=>exact ih1.trans ih2
theorem nS_le {f g:Nat→Nat}:∀ {row:List Nat},(∀ j∈row,f j≤g j)→nS f row≤nS g row
 | [],_=>Nat.le_refl _
 | j :: row,h=>by
  rw [J33,J33]
  have:=h j List.mem_cons_self
  have:=nS_le fun i hi=>h i (List.mem_cons_of_mem _ hi)
  lia
theorem nS_lt {f g:Nat→Nat}:∀ {row:List Nat},(∀ j∈row,f j≤g j)→∀ {b:Nat},b∈row→f b < g b→nS f row < nS g row
 | j :: row,h,b,hb,hlt=>by
  rw [J33,J33]
  have h1:=h j List.mem_cons_self
  have h2:=nS_le fun i hi=>h i (List.mem_cons_of_mem _ hi)
  rcases List.mem_cons.mp hb with rfl | hb
  ·lia
  ·have:=nS_lt (fun i hi=>h i (List.mem_cons_of_mem _ hi)) hb hlt
   lia
theorem J3t {f:Nat→Nat} {row:List Nat} (nd:row.Nodup) {a:Nat} (ha:a∈row):nS f (J3 row a) + f a=nS f row:=by
 rw [← nS_perm (J16 nd ha),J33]
 lia
theorem nS_max {f:Nat→Nat} {c:Nat}:∀ {row:List Nat},(∀ j∈row,f j≤c)→nS f row≤row.length * c
 | [],_=>Nat.zero_le _
 | j :: row,h=>by
  rw [J33,List.length_cons,Nat.succ_mul]
  have:=h j List.mem_cons_self
  have:=nS_max fun i hi=>h i (List.mem_cons_of_mem _ hi)
  lia
abbrev fE (T:List Int) (row:List Nat):Nat:=nS (fun j=>100 - lg (T.getD j 0)) row
def need (ls:List Int):Int→List Nat→Nat
 | _,[]=>0
 | x,b :: bs=>if x≤ls.getD b 0 then 1 else 1 + need ls (x - ls.getD b 0) bs
theorem need_len (ls:List Int):∀ (x:Int) (bs:List Nat),need ls x bs≤bs.length
 | _,[]=>Nat.le_refl _
 | x,b :: bs=>by
  unfold need
  have:=need_len ls (x - ls.getD b 0) bs
  rw [List.length_cons]
  split <;> lia
theorem need_app (ls:List Int) (ys:List Nat):∀ (x:Int) (bs:List Nat),1≤x→x≤lenOf ls bs→need ls x (bs ++ ys)=need ls x bs
 | x,[],h1,h2=>by rw [J10] at h2;lia
 | x,b :: bs,h1,h2=>by
  rw [Jc] at h2
  rw [List.cons_append]
  unfold need
  by_cases c:x≤ls.getD b 0
  ·rw [if_pos c,if_pos c]
  ·rw [if_neg c,if_neg c,need_app ls ys (x - ls.getD b 0) bs (by lia) (by lia)]
theorem J3s {ls ls':List Int}:∀ (x:Int) {bs:List Nat},(∀ j∈bs,ls.getD j 0=ls'.getD j 0)→need ls x bs=need ls' x bs
 | _,[],_=>rfl
 | x,b :: bs,h=>by
  unfold need
  rw [h b List.mem_cons_self,J3s (x - ls'.getD b 0) fun j hj=>h j (List.mem_cons_of_mem _ hj)]
def mu (r:Rst):Stp→Nat
 | .over a _=>if r.ts.getD a false=true then (J1 r.bot a).length else need r.ls (r.ls.getD a 0) (J1 r.bot a).reverse
 | .under a _=>if r.ts.getD a false=true then (J1 r.top a).length else need r.ls (r.ls.getD a 0) (J1 r.top a).reverse
 | .overs _ _=>25
 | .unders _ _=>25
 | _=>0
theorem behind_len (row:List Nat) (a:Nat):(J1 row a).length≤row.length:=by unfold J1;rw [List.length_drop];lia
theorem J27 {ls:List Int} {ts:List Bool} {row:List Nat} {a:Nat} (h:row.length≤24):(if ts.getD a false=true then (J1 row a).length else need ls (ls.getD a 0) (J1 row a).reverse)≤24:=by
 have h1:=behind_len row a
 have h2:=need_len ls (ls.getD a 0) (J1 row a).reverse
 rw [List.length_reverse] at h2
 split <;> lia
theorem Rst.Ok.len24 {r:Rst} (h:r.Ok):r.top.length≤24∧r.bot.length≤24:=⟨Nat.le_trans h.row.len_le h.few,Nat.le_trans h.rowB.len_le h.few⟩
theorem mu_le {r:Rst} (h:r.Ok) (s:Stp):mu r s≤25:=by
 obtain ⟨h1,h2⟩:=h.len24
 cases s with
 | over a b=>exact Nat.le_succ_of_le (J27 h2)
 | under a b=>exact Nat.le_succ_of_le (J27 h1)
 | _=>first | exact Nat.le_refl _ | exact Nat.zero_le _
theorem J2t {s:List Nat} {a:Nat} (t:List Nat) (h:a ∉ s):J1 (s ++ a :: t) a=t:=by
 unfold J1
 rw [idx_app t h,show s ++ a :: t=(s ++ [a]) ++ t by simp,show s.length + 1=(s ++ [a]).length by simp,List.drop_left]
theorem behind_put {row:List Nat} (nd:row.Nodup) {a b:Nat} (ha:a∈row) (hb:row.getD (row.length - 1) 0=b) (hab:a≠b) :
  ∃ q,J1 row a=q ++ [b]∧J1 (putR row a b false) a=b :: q∧J1 (putR row a b true) a=q∧a ∉ q:=by
 have hne:row≠[]:=fun e=>by rw [e] at ha;cases ha
 have e:=split_last hne
 rw [hb] at e
 generalize row.dropLast=d at e
 subst e
 have had:a∈d:=(List.mem_append.mp ha).resolve_right fun q=>hab (List.mem_singleton.mp q)
 obtain ⟨s,t,rfl⟩:=List.append_of_mem had
 have n1:=List.nodup_append.mp nd
 have n2:=List.nodup_append.mp n1.1
 have n3:=List.nodup_cons.mp n2.2.1
 have as:a ∉ s:=fun q=>n2.2.2 a q a List.mem_cons_self rfl
 have bd:b ∉ s ++ a :: t:=fun q=>n1.2.2 b q b (by simp) rfl
 have at_:a ∉ t:=n3.1
 have w1:J3 (s ++ a :: t ++ [b]) b=s ++ a :: t:=by
  rw [without_app,J42,List.append_nil]
  exact without_not bd
 have t1:(s ++ a :: t).take (s.length + 1)=s ++ [a]:=by
  rw [show s ++ a :: t=(s ++ [a]) ++ t by simp,show s.length + 1=(s ++ [a]).length by simp,List.take_left]
 have t2:(s ++ a :: t).drop (s.length + 1)=t:=by
  rw [show s ++ a :: t=(s ++ [a]) ++ t by simp,show s.length + 1=(s ++ [a]).length by simp,List.drop_left]
 refine ⟨t,?_,?_,?_,at_⟩
 ·rw [show s ++ a :: t ++ [b]=s ++ a :: (t ++ [b]) by simp]
  exact J2t _ as
 ·unfold putR
  rw [w1,idx_app t as,if_neg (by decide),t1,t2]
  rw [show s ++ [a] ++ [b] ++ t=s ++ a :: (b :: t) by simp]
  exact J2t _ as
 ·unfold putR
  rw [w1,idx_app t as,if_pos rfl,List.take_left,List.drop_left]
  rw [show s ++ [b] ++ a :: t=(s ++ [b]) ++ a :: t by simp]
  refine J2t _ fun q=>?_
  rcases List.mem_append.mp q with q | q
  ·exact as q
  ·exact hab (List.mem_singleton.mp q)
theorem J1b {row:List Nat} {a:Nat} (ha:a∈row) (h:row.getD (row.length - 1) 0≠a):row.getD (row.length - 1) 0∈J1 row a:=by
 have hne:row≠[]:=fun e=>by rw [e] at ha;cases ha
 have h1:row.idxOf a < row.length:=List.idxOf_lt_length_iff.mpr ha
 have h2:row[row.idxOf a]=a:=List.getElem_idxOf h1
 have hl:row.length - 1 < row.length:=by lia
 have e:row.getD (row.length - 1) 0=row[row.length - 1]:=by rw [List.getD_eq_getElem?_getD,List.getElem?_eq_getElem hl];rfl
 rw [e] at h ⊢
 have h3:row.idxOf a≠row.length - 1:=fun q=>h (by simp only [← q];exact h2)
 unfold J1
 refine List.mem_iff_getElem.mpr ⟨row.length - 1 - (row.idxOf a + 1),by rw [List.length_drop];lia,?_⟩
 rw [List.getElem_drop]
 congr 1
 lia
end Rl
namespace Rl
theorem J3u (ls:List Int) (row:List Nat):lenOf ls row.reverse=lenOf ls row:=J1r (List.reverse_perm row)
theorem mu_down {ls:List Int} {ts ts':List Bool} {row:List Nat} {a b:Nat} (nd:row.Nodup) (ha:a∈row) (hb:row.getD (row.length - 1) 0=b) (hab:a≠b) (hal:a < ls.length) (hb0:1≤ls.getD b 0)
  (hgt:ls.getD b 0 < ls.getD a 0) (hc:ts.getD a false=true∨ls.getD a 0≤lenOf ls (J1 row a)) (ht:ts'.getD a false=ts.getD a false) :
  ((if ts'.getD a false=true then (J1 (putR row a b (ts.getD a false)) a).length else need (ls.set a (ls.getD a 0 - ls.getD b 0)) ((ls.set a (ls.getD a 0 - ls.getD b 0)).getD a 0) (J1 (putR row a b (ts.getD a false)) a).reverse) <
  (if ts.getD a false=true then (J1 row a).length else need ls (ls.getD a 0) (J1 row a).reverse))∧
  (ts'.getD a false=false→¬ lenOf (ls.set a (ls.getD a 0 - ls.getD b 0)) (J1 (putR row a b (ts.getD a false)) a) < (ls.set a (ls.getD a 0 - ls.getD b 0)).getD a 0):=by
 obtain ⟨q,q1,q2,q3,q4⟩:=behind_put nd ha hb hab
 have sg:(ls.set a (ls.getD a 0 - ls.getD b 0)).getD a 0=ls.getD a 0 - ls.getD b 0:=by rw [Jq _ _ _ _ hal,if_pos rfl]
 rw [ht,sg]
 by_cases c:ts.getD a false=true
 ·rw [c,if_pos rfl,if_pos rfl,q3,q1]
  exact ⟨by simp,fun e=>nomatch e⟩
 ·have c':ts.getD a false=false:=by simpa using c
  have hS:=hc.resolve_left c
  rw [c',if_neg (by decide),if_neg (by decide),q2,q1]
  rw [q1,J4g,Jc,J10] at hS
  constructor
  ·rw [List.reverse_cons,List.reverse_append,List.reverse_cons,List.reverse_nil,List.nil_append,List.cons_append,List.nil_append]
   have e1:need ls (ls.getD a 0) (b :: q.reverse)=1 + need ls (ls.getD a 0 - ls.getD b 0) q.reverse:=by
    rw [need,if_neg (by lia)]
   have e2:need (ls.set a (ls.getD a 0 - ls.getD b 0)) (ls.getD a 0 - ls.getD b 0) (q.reverse ++ [b])=need ls (ls.getD a 0 - ls.getD b 0) (q.reverse ++ [b]):=J3s _ fun j hj=>by
    have:j≠a:=fun e=>by
     subst e
     rcases List.mem_append.mp hj with x | x
     ·exact q4 (List.mem_reverse.mp x)
     ·exact hab (List.mem_singleton.mp x)
    rw [Jq _ _ _ _ hal,if_neg this]
   rw [e1,e2,need_app _ _ _ _ (by lia) (by rw [J3u];lia)]
   lia
  ·intro _
   rw [Jf _ _ (fun x=>by
    rcases List.mem_cons.mp x with x | x
    ·exact hab x
    ·exact q4 x),Jc]
   lia
theorem J3l {x S t:Int} (hS:1≤S) (ht:t=(x - 1) / S):x - t * S≤S:=by
 subst ht
 have h1:=Int.emod_lt_of_pos (x - 1) (show 0 < S by lia)
 have h2:=Int.mul_ediv_add_emod (x - 1) S
 rw [Int.mul_comm] at h2
 lia
theorem run_down {r:Rst} (h:r.Ok) (ne:r.top≠[]):(nextN r).drops=false→(nextN ((nextN r).behind r)).drops=false→
  ((nextN ((nextN r).behind r)).winner=(nextN r).winner∧mu ((nextN r).behind r) (nextN ((nextN r).behind r)) < mu r (nextN r))∨(nextN r).winner∈(nextN ((nextN r).behind r)).losers ((nextN r).behind r):=by
 have okl:=h.next ne
 have tp:=J3f h ne
 have mT:=h.mT ne
 have mB:=h.mB ne
 have mTb:=h.perm.mem_iff.mpr mT
 have mBb:=h.perm.mem_iff.mpr mB
 have nd:=h.row.nd
 have ndB:=h.rowB.nd
 have hlt:=h.row.lt
 revert okl tp
 refine Jr h ne (p:=fun s=>(s.behind r).Ok→(if s.drops=true then (s.behind r).top=J3 r.top s.winner else (s.behind r).top.Perm r.top)→s.drops=false→(nextN (s.behind r)).drops=false→
  ((nextN (s.behind r)).winner=s.winner∧mu (s.behind r) (nextN (s.behind r)) < mu r s)∨s.winner∈(nextN (s.behind r)).losers (s.behind r))
  (fun _ _ _ e=>nomatch e) (fun _ _ _ _ e=>nomatch e) ?_ ?_ ?_ ?_
 ·intro c1 c2 c3 okl tp _
  have tp:List.Perm ((Stp.over (lastT r) (lastB r)).behind r).top r.top:=tp
  have nel:((Stp.over (lastT r) (lastB r)).behind r).top≠[]:=fun e=>ne (by rw [e] at tp;exact tp.symm.eq_nil)
  have et:(J1v r (lastT r) (lastB r)).getD (lastT r) false=r.ts.getD (lastT r) false:=by
   unfold J1v;rw [J1h _ _ _ _ (by rw [h.len];exact hlt _ mB),if_neg c1]
  have md:=mu_down (ts':=J1v r (lastT r) (lastB r)) ndB mTb rfl c1 (hlt _ mT) (h.row.pos _ mB) c2 c3 et
  refine Jr okl nel (p:=fun s'=>s'.drops=false→(s'.winner=lastT r∧mu ((Stp.over (lastT r) (lastB r)).behind r) s' < mu r (.over (lastT r) (lastB r)))∨lastT r∈s'.losers ((Stp.over (lastT r) (lastB r)).behind r))
   (fun _ e=>nomatch e) (fun _ _ e=>nomatch e) ?_ ?_ ?_ ?_
  ·intro d1 d2 d3 _
   exact .inl ⟨rfl,md.1⟩
  ·intro d1 d2 d3 _
   exact .inr (List.mem_singleton.mpr rfl)
  ·intro t d1 d2 d3 d4 d5 d6 _ _ _
   exact absurd d6 (md.2 d3)
  ·intro t d1 d2 d3 d4 d5 d6 _ _ _
   exact .inr (J1b (okl.mB nel) d1)
 ·intro c1 c2 c3 okl tp _
  have tp:List.Perm ((Stp.under (lastB r) (lastT r)).behind r).top r.top:=tp
  have nel:((Stp.under (lastB r) (lastT r)).behind r).top≠[]:=fun e=>ne (by rw [e] at tp;exact tp.symm.eq_nil)
  have et:(J1v r (lastB r) (lastT r)).getD (lastB r) false=r.ts.getD (lastB r) false:=by
   unfold J1v;rw [J1h _ _ _ _ (by rw [h.len];exact hlt _ mT),if_neg (fun e=>c1 e.symm)]
  have md:=mu_down (ts':=J1v r (lastB r) (lastT r)) nd mB rfl (fun e=>c1 e.symm) (hlt _ mB) (h.row.pos _ mT) c2 c3 et
  refine Jr okl nel (p:=fun s'=>s'.drops=false→(s'.winner=lastB r∧mu ((Stp.under (lastB r) (lastT r)).behind r) s' < mu r (.under (lastB r) (lastT r)))∨lastB r∈s'.losers ((Stp.under (lastB r) (lastT r)).behind r))
   (fun _ e=>nomatch e) (fun _ _ e=>nomatch e) ?_ ?_ ?_ ?_
  ·intro d1 d2 d3 _
   exact .inr (List.mem_singleton.mpr rfl)
  ·intro d1 d2 d3 _
   exact .inl ⟨rfl,md.1⟩
  ·intro t d1 d2 d3 d4 d5 d6 _ _ _
   exact .inr (J1b (okl.perm.mem_iff.mpr (okl.mT nel)) (fun e=>d1 e.symm))
  ·intro t d1 d2 d3 d4 d5 d6 _ _ _
   exact absurd d6 (md.2 d3)
 ·intro t c1 c2 c3 c4 c5 c6 c7 c8 okl tp _
  have tp:List.Perm ((Stp.overs (lastT r) t).behind r).top r.top:=tp
  have nel:((Stp.overs (lastT r) t).behind r).top≠[]:=fun e=>ne (by rw [e] at tp;exact tp.symm.eq_nil)
  have hx:=J3l c5 c7
  have sg:((Stp.overs (lastT r) t).behind r).ls.getD (lastT r) 0=r.ls.getD (lastT r) 0 - t * lenOf r.ls (J1 r.bot (lastT r)):=by
   show (r.ls.set (lastT r) _).getD (lastT r) 0=_
   rw [Jq _ _ _ _ (hlt _ mT),if_pos rfl]
  have so:lenOf ((Stp.overs (lastT r) t).behind r).ls (J1 r.bot (lastT r))=lenOf r.ls (J1 r.bot (lastT r)):=Jf _ _ (Ji ndB mTb)
  refine Jr okl nel (p:=fun s'=>s'.drops=false→(s'.winner=lastT r∧mu ((Stp.overs (lastT r) t).behind r) s' < mu r (.overs (lastT r) t))∨lastT r∈s'.losers ((Stp.overs (lastT r) t).behind r))
   (fun _ e=>nomatch e) (fun _ _ e=>nomatch e) ?_ ?_ ?_ ?_
  ·intro d1 d2 d3 _
   refine .inl ⟨rfl,Nat.lt_succ_of_le ?_⟩
   exact J27 (ls:=((Stp.overs (lastT r) t).behind r).ls) (ts:=r.ts) (a:=lastT r) h.len24.2
  ·intro d1 d2 d3 _
   exact .inr (List.mem_singleton.mpr rfl)
  ·intro t' d1 d2 d3 d4 d5 d6 _ _ _
   have d6:lenOf ((Stp.overs (lastT r) t).behind r).ls (J1 r.bot (lastT r)) < ((Stp.overs (lastT r) t).behind r).ls.getD (lastT r) 0:=d6
   rw [so,sg] at d6
   lia
  ·intro t' d1 d2 d3 d4 d5 d6 _ _ _
   exact .inr (J1b (okl.mB nel) d1)
 ·intro t c1 c2 c3 c4 c5 c6 c7 c8 okl tp _
  have tp:List.Perm ((Stp.unders (lastB r) t).behind r).top r.top:=tp
  have nel:((Stp.unders (lastB r) t).behind r).top≠[]:=fun e=>ne (by rw [e] at tp;exact tp.symm.eq_nil)
  have hx:=J3l c5 c7
  have sg:((Stp.unders (lastB r) t).behind r).ls.getD (lastB r) 0=r.ls.getD (lastB r) 0 - t * lenOf r.ls (J1 r.top (lastB r)):=by
   show (r.ls.set (lastB r) _).getD (lastB r) 0=_
   rw [Jq _ _ _ _ (hlt _ mB),if_pos rfl]
  have so:lenOf ((Stp.unders (lastB r) t).behind r).ls (J1 r.top (lastB r))=lenOf r.ls (J1 r.top (lastB r)):=Jf _ _ (Ji nd mB)
  refine Jr okl nel (p:=fun s'=>s'.drops=false→(s'.winner=lastB r∧mu ((Stp.unders (lastB r) t).behind r) s' < mu r (.unders (lastB r) t))∨lastB r∈s'.losers ((Stp.unders (lastB r) t).behind r))
   (fun _ e=>nomatch e) (fun _ _ e=>nomatch e) ?_ ?_ ?_ ?_
  ·intro d1 d2 d3 _
   exact .inr (List.mem_singleton.mpr rfl)
  ·intro d1 d2 d3 _
   refine .inl ⟨rfl,Nat.lt_succ_of_le ?_⟩
   exact J27 (ls:=((Stp.unders (lastB r) t).behind r).ls) (ts:=r.ts) (a:=lastB r) h.len24.1
  ·intro t' d1 d2 d3 d4 d5 d6 _ _ _
   exact .inr (J1b (okl.perm.mem_iff.mpr (okl.mT nel)) (fun e=>d1 e.symm))
  ·intro t' d1 d2 d3 d4 d5 d6 _ _ _
   have d6:lenOf ((Stp.unders (lastB r) t).behind r).ls (J1 r.top (lastB r)) < ((Stp.unders (lastB r) t).behind r).ls.getD (lastB r) 0:=d6
   rw [so,sg] at d6
   lia
def Up (r:Rst) (T:List Int) (s:Stp):Prop:=s.drops=true∨∃ b∈s.losers r,lg (T.getD b 0)≤lg (T.getD s.winner 0)
open Classical in
noncomputable def pot (r:Rst) (T:List Int):Nat :=
 if r.top=[] then 0 else (fE T r.top * 102 + (if Up r T (nextN r) then 0 else lg (T.getD (nextN r).winner 0) + 1)) * 26 + (if Up r T (nextN r) then 0 else mu r (nextN r))
theorem Tow.lg99 {r:Rst} {T:List Int} (h:r.Ok) (t:Tow r T) {j:Nat} (hj:j∈r.top):lg (T.getD j 0)≤99:=lg_small (t.pos j hj) (t.le h hj)
theorem pot_le {r:Rst} {T:List Int} (h:r.Ok) (t:Tow r T):pot r T≤6367451:=by
 unfold pot
 by_cases c:r.top=[]
 ·rw [if_pos c];lia
 rw [if_neg c]
 have h1:fE T r.top≤r.top.length * 100:=nS_max fun j _=>by lia
 have h2:=h.len24.1
 have h3:=t.lg99 h ((nextP h c).win h c)
 have h4:=mu_le h (nextN r)
 split <;> lia
theorem up_lt {r:Rst} {T:List Int} (h:r.Ok) (ne:r.top≠[]) (t:Tow r T):fE (towB (nextN r) r T) ((nextN r).behind r).top≤fE T r.top∧(Up r T (nextN r)→fE (towB (nextN r) r T) ((nextN r).behind r).top < fE T r.top):=by
 have L:=nextL h ne
 have w:=(nextP h ne).win h ne
 have pw:=t.pos _ w
 have tp:=J3f h ne
 have okl:=h.next ne
 have tl:=t.next h ne
 have sub:=(h.down ne).sub
 have one:T.getD (nextN r).winner 0≤T.getD (nextN r).winner 0 * (nextN r).times:=by
  have:T.getD (nextN r).winner 0 * 1≤T.getD (nextN r).winner 0 * (nextN r).times:=Int.mul_le_mul_of_nonneg_left L.one (by lia)
  lia
 have le:∀ j∈((nextN r).behind r).top,T.getD j 0≤(towB (nextN r) r T).getD j 0:=fun j hj=>by
  rw [tow_in h ne t.len hj];split <;> lia
 have mono:∀ j∈((nextN r).behind r).top,100 - lg ((towB (nextN r) r T).getD j 0)≤100 - lg (T.getD j 0):=fun j hj=>by
  have:=lg_le (t.pos j (sub j hj)) (le j hj)
  lia
 have m:=nS_le (f:=fun j=>100 - lg ((towB (nextN r) r T).getD j 0)) (g:=fun j=>100 - lg (T.getD j 0)) mono
 by_cases c:(nextN r).drops=true
 ·rw [if_pos c] at tp
  have e:=J3t (f:=fun j=>100 - lg (T.getD j 0)) h.row.nd w
  have g:=t.lg99 h w
  rw [← tp] at e
  have:fE (towB (nextN r) r T) ((nextN r).behind r).top < fE T r.top:=by
   show nS _ _ < nS _ _
   rw [← e]
   lia
  exact ⟨Nat.le_of_lt this,fun _=>this⟩
 ·rw [if_neg c] at tp
  have e:fE T ((nextN r).behind r).top=fE T r.top:=nS_perm tp
  refine ⟨by rw [← e];exact m,fun u=>?_⟩
  rcases u with u | ⟨b,hb,hg⟩
  ·exact absurd u c
  rw [← e]
  have bl:=L.sub b hb
  refine nS_lt mono bl ?_
  have e2:=tow_in h ne t.len bl
  rw [if_pos hb] at e2
  have d:=lg_dbl (z:=(towB (nextN r) r T).getD b 0) (t.pos b (sub b bl)) pw hg (by lia)
  have g:=tl.lg99 okl bl
  lia
theorem pot_lt {r:Rst} {T:List Int} (h:r.Ok) (ne:r.top≠[]) (t:Tow r T):pot ((nextN r).behind r) (towB (nextN r) r T) < pot r T:=by
 obtain ⟨f1,f2⟩:=up_lt h ne t
 have okl:=h.next ne
 have tl:=t.next h ne
 have L:=nextL h ne
 have w:=(nextP h ne).win h ne
 unfold pot
 rw [if_neg ne]
 have fpos:1≤fE T r.top:=by
  have e:=J3t (f:=fun j=>100 - lg (T.getD j 0)) h.row.nd w
  have g:=t.lg99 h w
  show 1≤nS _ _
  rw [← e]
  lia
 by_cases c:((nextN r).behind r).top=[]
 ·rw [if_pos c];lia
 rw [if_neg c]
 have w':=(nextP okl c).win okl c
 have g':=tl.lg99 okl w'
 have m':=mu_le okl (nextN ((nextN r).behind r))
 by_cases u:Up r T (nextN r)
 ·rw [if_pos u,if_pos u]
  have:=f2 u
  split <;> lia
 rw [if_neg u,if_neg u]
 by_cases u':Up ((nextN r).behind r) (towB (nextN r) r T) (nextN ((nextN r).behind r))
 ·rw [if_pos u',if_pos u']
  lia
 rw [if_neg u',if_neg u']
 have d1:(nextN r).drops=false:=by
  cases q:(nextN r).drops
  ·rfl
  ·exact absurd (.inl q) u
 have d2:(nextN ((nextN r).behind r)).drops=false:=by
  cases q:(nextN ((nextN r).behind r)).drops
  ·rfl
  ·exact absurd (.inl q) u'
 have tp:=J3f h ne
 rw [if_neg (by rw [d1];decide)] at tp
 have wl:(nextN r).winner∈((nextN r).behind r).top:=tp.mem_iff.mpr w
 have ew:(towB (nextN r) r T).getD (nextN r).winner 0=T.getD (nextN r).winner 0:=by
  rw [tow_in h ne t.len wl,if_neg L.no];lia
 rcases run_down h ne d1 d2 with ⟨e,m⟩ | q
 ·rw [e,ew]
  lia
 ·have hg:¬ lg ((towB (nextN r) r T).getD (nextN r).winner 0)≤lg ((towB (nextN r) r T).getD (nextN ((nextN r).behind r)).winner 0):=fun x=>u' (.inr ⟨_,q,x⟩)
  rw [ew] at hg
  lia
abbrev Cst:=Rst × List Int
def chS (p:Cst):Cst:=((nextN p.1).behind p.1,towB (nextN p.1) p.1 p.2)
def chN (p:Cst):Nat→Cst
 | 0=>p
 | k + 1=>chS (chN p k)
def Long (p:Cst) (k:Nat):Prop:=∀ i < k,(chN p i).1.top≠[]
structure Cok (p:Cst):Prop where
 ok:p.1.Ok
 tow:Tow p.1 p.2
theorem Cok.next {p:Cst} (h:Cok p) (ne:p.1.top≠[]):Cok (chS p):=⟨h.ok.next ne,h.tow.next h.ok ne⟩
theorem Cok.at_ {p:Cst} (h:Cok p):∀ {k:Nat},Long p k→Cok (chN p k)
 | 0,_=>h
 | k + 1,l=>(h.at_ fun i hi=>l i (by lia)).next (l k (by lia))
theorem Cok.short {p:Cst} (h:Cok p):∀ {k:Nat},Long p k→k + pot (chN p k).1 (chN p k).2≤pot p.1 p.2
 | 0,_=>by rw [Nat.zero_add];exact Nat.le_refl _
 | k + 1,l=>by
  have h1:=h.short (k:=k) fun i hi=>l i (by lia)
  have c:=h.at_ (k:=k) fun i hi=>l i (by lia)
  have h2:pot (chS (chN p k)).1 (chS (chN p k)).2 < _:=pot_lt c.ok (l k (by lia)) c.tow
  show k + 1 + pot (chS (chN p k)).1 (chS (chN p k)).2≤_
  lia
theorem Cok.few {p:Cst} (h:Cok p) {k:Nat} (l:Long p k):k≤6367451:=by
 have h1:=h.short l
 have h2:=pot_le h.ok h.tow
 lia
end Rl
namespace Rl
def posR (ls:List Int) (row:List Nat) (j:Nat):Int:=lenOf ls (row.take (row.idxOf j))
theorem posR_getD (ls:List Int) {row:List Nat} (nd:row.Nodup) {i:Nat} (hi:i < row.length):posR ls row (row.getD i 0)=Jn ls row i:=by
 have e:row.idxOf (row.getD i 0)=i:=by
  have h1:row.getD i 0=row[i]:=by rw [List.getD_eq_getElem?_getD,List.getElem?_eq_getElem hi];rfl
  have h2:row.idxOf (row.getD i 0) < row.length:=List.idxOf_lt_length_iff.mpr (J11 hi)
  have h3:row[row.idxOf (row.getD i 0)]=row.getD i 0:=List.getElem_idxOf h2
  exact (List.getElem_inj nd).mp (h3.trans h1)
 unfold posR
 rw [e,J1d ls row i (by omega)];rfl
def LetAt (r:Rst) (y:Int) (j:Nat) (o:Int):Prop:=j∈r.top∧0≤o∧o < r.ls.getD j 0∧y=posR r.ls r.top j + o
def offT (r:Rst) (j:Nat) (o:Int):Int:=if r.ts.getD j false=true then r.ls.getD j 0 - 1 - o else o
theorem LetAt.off {r:Rst} {y o:Int} {j:Nat} (h:LetAt r y j o):0≤offT r j o∧offT r j o < r.ls.getD j 0:=by
 obtain ⟨_,h1,h2,_⟩:=h
 unfold offT;split <;> omega
theorem LetAt.at_ {r:Rst} (h:r.Ok) {y o:Int} {j:Nat} (a:LetAt r y j o):∃ i,AtR r.ls r.top y i∧r.top.getD i 0=j∧y - Jn r.ls r.top i=o:=by
 obtain ⟨hj,h1,h2,rfl⟩:=a
 obtain ⟨i,hi,rfl⟩:=mem_at hj
 rw [posR_getD _ h.row.nd hi]
 refine ⟨i,⟨hi,by omega,by rw [Jl];omega⟩,rfl,by omega⟩
open Classical in
noncomputable def go (r:Rst) (y:Int):Int:=if h:∃ z,J41 r y z then Classical.choose h else y
theorem go_of {r:Rst} (h:r.Ok) {y z:Int} (g:J41 r y z):go r y=z:=by
 unfold go
 rw [dif_pos ⟨z,g⟩]
 exact h.fun_ (Classical.choose_spec ⟨z,g⟩) g
def Walk (r:Rst) (lo y:Int):List Nat→Int→Prop
 | [],z=>False
 | [j],z=>(∃ o,LetAt r y j o)∧go r y=z
 | j :: j' :: js,z=>(∃ o,LetAt r y j o)∧lo≤go r y∧Walk r lo (go r y) (j' :: js) z
theorem Walk.one {r:Rst} {lo y z o:Int} {j:Nat} (a:LetAt r y j o) (e:go r y=z):Walk r lo y [j] z:=⟨⟨o,a⟩,e⟩
end Rl
namespace Rl
theorem J3e:∀ {l m:List Nat},l.Nodup→(∀ x∈l,x∈m)→l.length≤m.length
 | [],m,_,_=>Nat.zero_le _
 | a :: l,m,hn,hs=>by
  have ha:=hs a (List.mem_cons_self ..)
  have h1:=J3e (l:=l) (m:=m.erase a) (List.nodup_cons.mp hn).2 fun x hx=>(List.mem_erase_of_ne (fun (e:x=a)=>(List.nodup_cons.mp hn).1 (e ▸ hx))).mpr (hs x (List.mem_cons_of_mem _ hx))
  rw [List.length_erase_of_mem ha] at h1
  have:=List.length_pos_of_mem ha
  rw [List.length_cons]
  omega
theorem J4c {l:List Nat} {n:Nat} (hn:l.Nodup) (h:∀ x∈l,x < n):l.length≤n:=by
 have:=J3e (m:=List.range n) hn fun x hx=>List.mem_range.mpr (h x hx)
 rwa [List.length_range] at this
theorem J2k {l:List Nat} {n y:Nat} (hn:l.Nodup) (h:∀ x∈l,x < n) (hl:n≤l.length) (hy:y < n):y∈l:=by
 apply Classical.byContradiction
 intro hy'
 have:=J4c (l:=y :: l) (n:=n) (List.nodup_cons.mpr ⟨hy',hn⟩) (fun x hx=>by
  rcases List.mem_cons.mp hx with rfl | hx
  ·exact hy
  ·exact h x hx)
 rw [List.length_cons] at this
 omega
def IsO (os:List Nat):Prop:=os.Perm (List.range os.length)
theorem IsO.nd {os:List Nat} (h:IsO os):os.Nodup:=h.nodup_iff.mpr List.nodup_range
theorem IsO.lt {os:List Nat} (h:IsO os):∀ x∈os,x < os.length:=fun x hx=>List.mem_range.mp (h.mem_iff.mp hx)
theorem IsO.mem {os:List Nat} (h:IsO os) {x:Nat} (hx:x < os.length):x∈os:=h.mem_iff.mpr (List.mem_range.mpr hx)
theorem IsO.perm {os qs:List Nat} (h:IsO os) (p:qs.Perm os):IsO qs:=by
 unfold IsO
 rw [p.length_eq]
 exact p.trans h
def TightTo (os:List Nat) (j:Nat):Prop:=∀ k,1≤k→k≤j→k < os.length→∃ x∈os.take k,k≤x
def Tight (os:List Nat):Prop:=∀ k,1≤k→k < os.length→∃ x∈os.take k,k≤x
theorem TightTo.tight {os:List Nat} (h:TightTo os (os.length - 1)):Tight os:=fun k h1 h2=>h k h1 (by omega) h2
theorem take_nd {os:List Nat} (h:os.Nodup) (k:Nat):(os.take k).Nodup:=List.Nodup.sublist (List.take_sublist ..) h
theorem take_hi {os:List Nat} (h:os.Nodup) {k:Nat} (h1:1≤k) (h2:k≤os.length):∃ x∈os.take k,k - 1≤x:=by
 apply Classical.byContradiction
 intro c
 have hl:(os.take k).length=k:=by rw [List.length_take];omega
 have:=J4c (n:=k - 1) (take_nd h k) fun x hx=>by
  apply Classical.byContradiction
  intro q
  exact c ⟨x,hx,by omega⟩
 omega
theorem next_hi {os:List Nat} (h:os.Nodup) {k:Nat} (h2:k < os.length) (hx:∀ x∈os.take k,x < k):k≤os.getD k 0:=by
 apply Classical.byContradiction
 intro c
 have hl:(os.take k).length=k:=by rw [List.length_take];omega
 have hm:=J2k (take_nd h k) hx (by omega) (show os.getD k 0 < k by omega)
 have hd:os.drop k=os.getD k 0 :: os.drop (k + 1):=by
  rw [List.drop_eq_getElem_cons h2,List.getD_eq_getElem?_getD,List.getElem?_eq_getElem h2];rfl
 have hn:(os.take k ++ os.drop k).Nodup:=by rw [List.take_append_drop];exact h
 rw [hd] at hn
 exact (List.nodup_append.mp hn).2.2 _ hm _ (List.mem_cons_self ..) rfl
theorem cut2 {os:List Nat} {k:Nat} (h1:1≤k) (h2:k < os.length):os=os.take (k - 1) ++ os.getD (k - 1) 0 :: os.getD k 0 :: os.drop (k + 1):=by
 have e1:os.drop (k - 1)=os.getD (k - 1) 0 :: os.drop (k - 1 + 1):=by
  rw [List.drop_eq_getElem_cons (show k - 1 < os.length by omega),List.getD_eq_getElem?_getD,List.getElem?_eq_getElem (show k - 1 < os.length by omega)];rfl
 have e2:os.drop k=os.getD k 0 :: os.drop (k + 1):=by
  rw [List.drop_eq_getElem_cons h2,List.getD_eq_getElem?_getD,List.getElem?_eq_getElem h2];rfl
 rw [show k - 1 + 1=k by omega,e2] at e1
 rw [← e1,List.take_append_drop]
def swapO (os:List Nat) (k:Nat):List Nat:=os.take (k - 1) ++ os.getD k 0 :: os.getD (k - 1) 0 :: os.drop (k + 1)
theorem J2f {os:List Nat} {k:Nat} (h1:1≤k) (h2:k < os.length):(swapO os k).Perm os:=by
 have e:=cut2 h1 h2
 have p:(swapO os k).Perm (os.take (k - 1) ++ os.getD (k - 1) 0 :: os.getD k 0 :: os.drop (k + 1)):=List.Perm.append_left _ (List.Perm.swap ..)
 rw [← e] at p
 exact p
theorem swapO_take {os:List Nat} {k i:Nat} (h1:i≤k - 1) (h2:k < os.length):(swapO os k).take i=os.take i:=by
 unfold swapO
 rw [List.take_append_of_le_length (by rw [List.length_take];omega),List.take_take]
 congr 1
 omega
theorem swapO_in {os:List Nat} {k:Nat} (h1:1≤k) (h2:k < os.length):os.getD k 0∈(swapO os k).take k:=by
 unfold swapO
 have hl:(os.take (k - 1)).length=k - 1:=by rw [List.length_take];omega
 rw [List.take_append,hl,show k - (k - 1)=1 by omega]
 exact List.mem_append_right _ (List.mem_cons_self ..)
theorem swapO_set {os:List Nat} {k:Nat} (h1:1≤k) (h2:k < os.length):((natI os).set (k - 1) ((os.getD k 0:Nat):Int)).set k ((os.getD (k - 1) 0:Nat):Int)=natI (swapO os k):=by
 have e:=cut2 h1 h2
 have hl:(os.take (k - 1)).length=k - 1:=by rw [List.length_take];omega
 unfold swapO
 generalize os.take (k - 1)=A at *
 generalize os.getD (k - 1) 0=a at *
 generalize os.getD k 0=b at *
 generalize os.drop (k + 1)=B at *
 subst e
 unfold natI
 rw [← List.map_set,← List.map_set]
 congr 1
 rw [List.set_append_right _ _ (by omega),hl,Nat.sub_self]
 rw [List.set_append_right _ _ (by omega),hl,show k - (k - 1)=1 by omega]
 rfl
theorem tight_swap {os:List Nat} {k:Nat} (h:IsO os) (h1:1≤k) (h2:k < os.length) (hx:∀ x∈os.take k,x≤k - 1) (t:TightTo os (k - 1)):TightTo (swapO os k) k:=by
 have hn:=next_hi h.nd h2 fun x q=>by have:=hx x q;omega
 intro i i1 i2 i3
 have hl:(swapO os k).length=os.length:=(J2f h1 h2).length_eq
 by_cases c:i=k
 ·subst c
  exact ⟨_,swapO_in h1 h2,hn⟩
 ·rw [swapO_take (by omega) h2]
  exact t i i1 (by omega) (by omega)
theorem tight_stay {os:List Nat} {k:Nat} (h1:1≤k) {m:Nat} (hm:m∈os.take k) (hk:k≤m) (t:TightTo os (k - 1)):TightTo os k:=by
 intro i i1 i2 i3
 by_cases c:i=k
 ·subst c
  exact ⟨_,hm,hk⟩
 ·exact t i i1 (by omega) i3
def overO (os:List Nat):List Nat:=os.take (os.idxOf (os.length - 1) + 1) ++ [os.getD (os.length - 1) 0] ++ (os.drop (os.idxOf (os.length - 1) + 1)).take (os.length - 1 - (os.idxOf (os.length - 1) + 1))
theorem J1x {os:List Nat} (h:IsO os) (t:Tight os) (h2:2≤os.length):os.idxOf (os.length - 1) + 1≤os.length - 1:=by
 obtain ⟨x,hx,hk⟩:=t (os.length - 1) (by omega) (by omega)
 have hx':=h.lt x (List.mem_of_mem_take hx)
 obtain rfl:x=os.length - 1:=by omega
 have h3:(os.take (os.length - 1)).idxOf (os.length - 1) < (os.take (os.length - 1)).length:=List.idxOf_lt_length_of_mem hx
 have h4:os.idxOf (os.length - 1)=(os.take (os.length - 1)).idxOf (os.length - 1):=by
  conv=>lhs;rw [← List.take_append_drop (os.length - 1) os]
  rw [List.length_append,List.length_take,List.length_drop]
  rw [show min (os.length - 1) os.length + (os.length - (os.length - 1)) - 1=os.length - 1 by omega]
  rw [List.idxOf_append,if_pos hx]
 rw [List.length_take] at h3
 omega
theorem over_back {os:List Nat} (h2:2≤os.length) {s:Nat} (hs:s + 1≤os.length - 1):os.take (s + 1) ++ (os.drop (s + 1)).take (os.length - 1 - (s + 1)) ++ [os.getD (os.length - 1) 0]=os:=by
 rw [← List.take_add,show s + 1 + (os.length - 1 - (s + 1))=os.length - 1 by omega]
 have e:os.drop (os.length - 1)=[os.getD (os.length - 1) 0]:=by
  rw [List.drop_eq_getElem_cons (show os.length - 1 < os.length by omega),List.getD_eq_getElem?_getD,List.getElem?_eq_getElem (show os.length - 1 < os.length by omega),List.drop_eq_nil_of_le (by omega)];rfl
 rw [← e,List.take_append_drop]
end Rl
namespace Rl
def spotA (ns:List Int) (a k:Nat):Nat:=(cellN ns (a + k) % ((k:Int) + 1)).toNat
def drawA (ns:List Int) (a:Nat):Nat→List Nat
 | 0=>[]
 | k + 1=>insAt (drawA ns a k) (spotA ns a k) k
theorem spotA_le (ns:List Int) (a k:Nat):spotA ns a k≤k∧((spotA ns a k:Nat):Int)=cellN ns (a + k) % ((k:Int) + 1):=by
 have h0:0≤cellN ns (a + k) % ((k:Int) + 1):=Int.emod_nonneg _ (by omega)
 have h1:cellN ns (a + k) % ((k:Int) + 1) < (k:Int) + 1:=Int.emod_lt_of_pos _ (by omega)
 unfold spotA
 omega
theorem J2q (ns:List Int) (a:Nat):∀ k,(drawA ns a k).Perm (List.range k)
 | 0=>List.Perm.refl _
 | k + 1=>by
  have h1:=J3w (drawA ns a k) (spotA ns a k) k
  have h2:(k :: drawA ns a k).Perm (k :: List.range k):=(J2q ns a k).cons k
  have h3:(k :: List.range k).Perm (List.range (k + 1)):=by
   rw [List.range_succ]
   exact (List.perm_append_singleton k (List.range k)).symm
  exact h1.trans (h2.trans h3)
theorem J3j (ns:List Int) (a k:Nat):(drawA ns a k).length=k:=by
 rw [(J2q ns a k).length_eq,List.length_range]
theorem drawA_isO (ns:List Int) (a k:Nat):IsO (drawA ns a k):=by
 unfold IsO
 rw [J3j]
 exact J2q ns a k
def OrdX (xs:List Int) (n:Nat):Prop:=∃ os:List Nat,xs=natI os∧os.Perm (List.range n)
theorem J12 (os:List Nat):(natI os).length=os.length:=List.length_map ..
theorem ordX_of {xs:List Int} {n:Nat} (h:(natI (List.range n)).Perm xs):OrdX xs n:=by
 refine ⟨xs.map Int.toNat,?_,?_⟩
 ·unfold natI
  rw [List.map_map]
  conv=>lhs;rw [← List.map_id xs]
  apply List.map_congr_left
  intro x hx
  obtain ⟨k,_,rfl⟩:=List.mem_map.mp (h.symm.mem_iff.mp hx)
  simp
 ·have e:(natI (List.range n)).map Int.toNat=List.range n:=by
   unfold natI
   rw [List.map_map]
   conv=>rhs;rw [← List.map_id (List.range n)]
   apply List.map_congr_left
   intro x _
   simp
  have:=(h.map Int.toNat).symm
  rwa [e] at this
theorem OrdX.isO {xs:List Int} (h:OrdX xs xs.length):∃ os,xs=natI os∧IsO os:=by
 obtain ⟨os,rfl,p⟩:=h
 rw [J12] at p
 exact ⟨os,rfl,p⟩
theorem J2l {a b:List Nat} (h:natI a=natI b):a=b:=by
 have:=congrArg (List.map Int.toNat) h
 unfold natI at this
 rw [List.map_map,List.map_map] at this
 have e:(Int.toNat ∘ fun (n:Nat)=>(n:Int))=id:=by funext x;simp
 rwa [e,List.map_id,List.map_id] at this
def J2m (os:List Nat) (k:Nat):Bool:=(os.take k).all fun x=>decide (x < k)
theorem looseB_max {os:List Nat} {k:Nat} {M:Int} (hM:M∈natI (os.take k)) (ha:∀ a∈natI (os.take k),a≤M):decide (M < (k:Int))=J2m os k:=by
 obtain ⟨m,hm,rfl⟩:=List.mem_map.mp hM
 unfold J2m
 by_cases c:m < k
 ·rw [decide_eq_true (by omega),eq_comm,List.all_eq_true]
  intro x hx
  have:=ha _ (List.mem_map.mpr ⟨x,hx,rfl⟩)
  exact decide_eq_true (by omega)
 ·rw [decide_eq_false (by omega),eq_comm,← Bool.not_eq_true,List.all_eq_true]
  intro h
  exact c (of_decide_eq_true (h m hm))
theorem loose_any {os:List Nat}:((List.range (os.length - 1)).map fun i=>J2m os (i + 1)).any id=true↔¬ Tight os:=by
 rw [List.any_eq_true]
 constructor
 ·rintro ⟨b,hb,h1⟩ t
  obtain ⟨i,hi,rfl⟩:=List.mem_map.mp hb
  have hi:=List.mem_range.mp hi
  obtain ⟨x,hx,hk⟩:=t (i + 1) (by omega) (by omega)
  have h2:J2m os (i + 1)=true:=h1
  unfold J2m at h2
  rw [List.all_eq_true] at h2
  have:=of_decide_eq_true (h2 x hx)
  omega
 ·intro h
  apply Classical.byContradiction
  intro c
  apply h
  intro k h1 h2
  apply Classical.byContradiction
  intro q
  apply c
  refine ⟨J2m os k,List.mem_map.mpr ⟨k - 1,List.mem_range.mpr (by omega),by rw [show k - 1 + 1=k by omega]⟩,?_⟩
  show J2m os k=true
  unfold J2m
  rw [List.all_eq_true]
  intro x hx
  apply decide_eq_true
  apply Classical.byContradiction
  intro z
  exact q ⟨x,hx,by omega⟩
theorem overO_len {os:List Nat} (h:IsO os) (t:Tight os) (h2:2≤os.length):(overO os).length=os.length:=by
 have:=J1x h t h2
 unfold overO
 simp only [List.length_append,List.length_take,List.length_drop,List.length_cons,List.length_nil]
 omega
end Rl
namespace Rl
def numU (n b p:Nat):Nat:=if p≤b then p else if p=n - 1 then b + 1 else p + 1
def J2d (os:List Nat):List Nat:=os.map (numU os.length (os.getD (os.length - 1) 0))
def J2i (n b:Nat):List Nat:=insAt (List.range (n - 1)) (b + 1) (n - 1)
theorem idx_get {l:List Nat} (nd:l.Nodup) {j p:Nat} (h:l[j]?=some p):l.idxOf p=j:=by
 have hj:j < l.length:=(List.getElem?_eq_some_iff.mp h).1
 have e:l[j]=p:=(List.getElem?_eq_some_iff.mp h).2
 have hm:p∈l:=e ▸ List.getElem_mem hj
 have h1:=List.idxOf_lt_length_of_mem hm
 have h2:l[l.idxOf p]=p:=List.getElem_idxOf h1
 exact (List.getElem_inj nd).mp (h2.trans e.symm)
theorem placesU_nd {n b:Nat} (hn:1≤n):(J2i n b).Nodup:=by
 unfold J2i
 rw [(J3w _ _ _).nodup_iff,List.nodup_cons]
 exact ⟨fun h=>by have:=List.mem_range.mp h;omega,List.nodup_range⟩
theorem J2h {n b p:Nat} (hb:b + 1≤n - 1) (hp:p < n):(J2i n b)[numU n b p]?=some p:=by
 unfold J2i insAt numU
 have hl:((List.range (n - 1)).take (b + 1)).length=b + 1:=by rw [List.length_take,List.length_range];omega
 by_cases c:p≤b
 ·rw [if_pos c,List.getElem?_append_left (by omega),List.getElem?_take_of_lt (by omega),List.getElem?_range (by omega)]
 ·rw [if_neg c]
  by_cases c2:p=n - 1
  ·rw [if_pos c2,List.getElem?_append_right (by omega),hl,Nat.sub_self]
   simp [c2]
  ·rw [if_neg c2,List.getElem?_append_right (by omega),hl,show p + 1 - (b + 1)=(p - (b + 1)) + 1 by omega,List.getElem?_cons_succ,List.getElem?_drop,List.getElem?_range (by omega)]
   congr 1
   omega
theorem last_lt {os:List Nat} (h:IsO os) (t:Tight os) (h2:2≤os.length):os.getD (os.length - 1) 0 + 1≤os.length - 1:=by
 have hm:os.getD (os.length - 1) 0∈os:=J11 (by omega)
 have h1:=h.lt _ hm
 have h3:=J1x h t h2
 apply Classical.byContradiction
 intro c
 have e:os.getD (os.length - 1) 0=os.length - 1:=by omega
 have h4:os[os.length - 1]?=some (os.length - 1):=by
  rw [List.getD_eq_getElem?_getD,List.getElem?_eq_getElem (show os.length - 1 < os.length by omega)] at e
  rw [List.getElem?_eq_getElem (show os.length - 1 < os.length by omega)]
  exact congrArg some e
 have:=idx_get h.nd h4
 omega
theorem numU_lt {n b p:Nat} (hb:b + 1≤n - 1) (hp:p < n):numU n b p < n:=by
 unfold numU
 by_cases c:p≤b
 ·rw [if_pos c];omega
 ·rw [if_neg c]
  by_cases c2:p=n - 1
  ·rw [if_pos c2];omega
  ·rw [if_neg c2];omega
theorem J2c (os:List Nat):(J2d os).length=os.length:=List.length_map ..
end Rl
namespace Rl
structure OvU (ls:List Int) (os:List Nat) (n:Nat):Prop where
 io:IsO os
 lo:os.length=n
 ll:ls.length=n
 two:2≤n
 pos:∀ j,j < n→1≤ls.getD j 0
 tight:Tight os
theorem OvU.split {ls:List Int} {os:List Nat} {n:Nat} (h:OvU ls os n):∃ A B,os=A ++ (n - 1) :: (B ++ [os.getD (n - 1) 0])∧overO os=A ++ (n - 1) :: os.getD (n - 1) 0 :: B:=by
 have hb:=J1x h.io h.tight (by rw [h.lo];exact h.two)
 have e:=over_back (os:=os) (by rw [h.lo];exact h.two) hb
 rw [h.lo] at e hb
 obtain ⟨s,es⟩:∃ s,s=os.idxOf (n - 1):=⟨_,rfl⟩
 have hs:s < os.length:=by rw [← es] at hb;rw [h.lo];have:=h.two;omega
 have e1:os.take (s + 1)=os.take s ++ [n - 1]:=by
  rw [List.take_succ,List.getElem?_eq_getElem hs]
  have:os[s]=n - 1:=by
   have h2:os.idxOf (n - 1) < os.length:=by rw [← es];exact hs
   have:=List.getElem_idxOf h2
   simp only [← es] at this
   exact this
  rw [this];rfl
 refine ⟨os.take s,(os.drop (s + 1)).take (n - 1 - (s + 1)),?_,?_⟩
 ·conv=>lhs;rw [← e,← es,e1]
  simp only [List.append_assoc,List.cons_append,List.nil_append,List.singleton_append]
 ·unfold overO
  rw [h.lo,← es,e1]
  simp only [List.append_assoc,List.cons_append,List.nil_append,List.singleton_append]
theorem J4b {n b p q:Nat} (hb:b + 1≤n - 1) (hp:p < n) (hq:q < n) (e:numU n b p=numU n b q):p=q:=by
 have h1:=J2h hb hp
 rw [e,J2h hb hq] at h1
 exact (Option.some.inj h1).symm
theorem isO_of {l:List Nat} (nd:l.Nodup) (h:∀ x∈l,x < l.length):IsO l :=
 (List.perm_ext_iff_of_nodup nd List.nodup_range).mpr fun j=>⟨fun q=>List.mem_range.mpr (h j q),fun q=>J2k nd h (Nat.le_refl _) (List.mem_range.mp q)⟩
theorem OvU.over_isO {ls:List Int} {os:List Nat} {n:Nat} (h:OvU ls os n):IsO (overO os):=by
 obtain ⟨A,B,e1,e2⟩:=h.split
 refine h.io.perm ?_
 rw [e2]
 conv=>rhs;rw [e1]
 refine List.Perm.append_left _ (List.Perm.cons _ ?_)
 exact (List.perm_append_singleton _ _).symm
theorem J1k {f:Nat→Nat}:∀ {l:List Nat},l.Nodup→(∀ x∈l,∀ y∈l,f x=f y→x=y)→(l.map f).Nodup
 | [],_,_=>List.nodup_nil
 | a :: l,h,hi=>by
  rw [List.map_cons,List.nodup_cons]
  refine ⟨fun q=>?_,J1k (List.nodup_cons.mp h).2 fun x hx y hy=>hi x (List.mem_cons_of_mem _ hx) y (List.mem_cons_of_mem _ hy)⟩
  obtain ⟨x,hx,e⟩:=List.mem_map.mp q
  have:=hi x (List.mem_cons_of_mem _ hx) a (List.mem_cons_self ..) e
  exact (List.nodup_cons.mp h).1 (this ▸ hx)
theorem underO_isO {os:List Nat} (io:IsO os) (t:Tight os) (h2:2≤os.length):IsO (J2d os):=by
 have hb:=last_lt io t h2
 refine isO_of (J1k io.nd fun x hx y hy e=>J4b hb (io.lt x hx) (io.lt y hy) e) fun x hx=>?_
 rw [J2c]
 obtain ⟨p,hp,rfl⟩:=List.mem_map.mp hx
 exact numU_lt hb (io.lt p hp)
end Rl
namespace Rl
theorem tight_over {os:List Nat} (io:IsO os) (t:Tight os) (h2:2≤os.length):Tight (overO os):=by
 have hs:=J1x io t h2
 have ol:=overO_len io t h2
 intro k k1 k2
 rw [ol] at k2
 generalize hs':os.idxOf (os.length - 1)=s at *
 have lA:(os.take (s + 1)).length=s + 1:=by rw [List.length_take];omega
 have eo:overO os=os.take (s + 1) ++ ([os.getD (os.length - 1) 0] ++ (os.drop (s + 1)).take (os.length - 1 - (s + 1))):=by
  unfold overO
  rw [hs',List.append_assoc]
 by_cases c:k≤s + 1
 ·have e:(overO os).take k=os.take k:=by
   rw [eo,List.take_append_of_le_length (by omega),List.take_take]
   congr 1
   omega
  rw [e]
  exact t k k1 k2
 ·refine ⟨os.length - 1,?_,by omega⟩
  rw [eo,List.take_append,List.take_of_length_le (by omega)]
  refine List.mem_append_left _ ?_
  have hlt:s < os.length:=by omega
  have h4:os[s]=os.length - 1:=by
   have h3:os.idxOf (os.length - 1) < os.length:=by rw [hs'];exact hlt
   have:=List.getElem_idxOf h3
   simp only [hs'] at this
   exact this
  rw [← h4]
  exact List.mem_take_iff_getElem.mpr ⟨s,by omega,rfl⟩
theorem J3m {os:List Nat} {k:Nat} (h:k≤os.length - 1):∀ x∈os.take k,x∈os.take (os.length - 1):=fun x hx=>by
 have e:os.take k=(os.take (os.length - 1)).take k:=by rw [List.take_take];congr 1;omega
 rw [e] at hx
 exact List.mem_of_mem_take hx
theorem last_notin {os:List Nat} (nd:os.Nodup) (h:1≤os.length):os.getD (os.length - 1) 0 ∉ os.take (os.length - 1):=fun q=>by
 have e:os.drop (os.length - 1)=[os.getD (os.length - 1) 0]:=by
  rw [List.drop_eq_getElem_cons (show os.length - 1 < os.length by omega),List.getD_eq_getElem?_getD,List.getElem?_eq_getElem (show os.length - 1 < os.length by omega),List.drop_eq_nil_of_le (by omega)];rfl
 have hn:(os.take (os.length - 1) ++ os.drop (os.length - 1)).Nodup:=by rw [List.take_append_drop];exact nd
 rw [e] at hn
 exact (List.nodup_append.mp hn).2.2 _ q _ (List.mem_singleton_self _) rfl
theorem tight_under {os:List Nat} (io:IsO os) (t:Tight os) (h2:2≤os.length):Tight (J2d os):=by
 have hb:=last_lt io t h2
 intro k k1 k2
 rw [J2c] at k2
 have e:(J2d os).take k=(os.take k).map (numU os.length (os.getD (os.length - 1) 0)):=by unfold J2d;rw [List.map_take]
 rw [e]
 have ni:=last_notin io.nd (by omega)
 generalize os.getD (os.length - 1) 0=b at *
 apply Classical.byContradiction
 intro c
 have all:∀ x∈os.take k,numU os.length b x < k:=fun x hx=>by
  apply Classical.byContradiction
  intro q
  exact c ⟨_,List.mem_map.mpr ⟨x,hx,rfl⟩,by omega⟩
 obtain ⟨x,hx,hk⟩:=t k k1 k2
 have hx1:=all x hx
 have hbk:b < k:=by
  unfold numU at hx1
  split at hx1
  ·omega
  ·split at hx1 <;> omega
 have lt_:∀ y∈os.take k,y < os.length:=fun y hy=>io.lt y (List.mem_of_mem_take hy)
 have nd:((os.take k).map (numU os.length b)).Nodup:=J1k (take_nd io.nd k) fun x hx y hy e=>J4b hb (lt_ x hx) (lt_ y hy) e
 have hl:((os.take k).map (numU os.length b)).length=k:=by rw [List.length_map,List.length_take];omega
 have hm:=J2k (n:=k) nd (fun y hy=>by obtain ⟨z,hz,rfl⟩:=List.mem_map.mp hy;exact all z hz) (by omega) hbk
 obtain ⟨z,hz,ez⟩:=List.mem_map.mp hm
 have eb:numU os.length b b=b:=by unfold numU;rw [if_pos (Nat.le_refl _)]
 have:=J4b hb (lt_ z hz) (show b < os.length by omega) (ez.trans eb.symm)
 subst this
 exact ni (J3m (by omega) _ hz)
structure OkO (n:Nat) (o:List Nat):Prop where
 io:IsO o
 t:Tight o
 len:o.length=n
theorem OkO.over {n:Nat} {o:List Nat} (h:OkO n o) (h2:2≤n):OkO n (overO o):=by
 have h3:2≤o.length:=by rw [h.len];exact h2
 refine ⟨?_,tight_over h.io h.t h3,(overO_len h.io h.t h3).trans h.len⟩
 exact (OvU.mk (ls:=List.replicate o.length 1) h.io rfl List.length_replicate h3 (fun j hj=>by rw [List.getD_eq_getElem?_getD,List.getElem?_replicate,if_pos hj];exact Int.le_refl _) h.t).over_isO
theorem OkO.under {n:Nat} {o:List Nat} (h:OkO n o) (h2:2≤n):OkO n (J2d o):=by
 have h3:2≤o.length:=by rw [h.len];exact h2
 exact ⟨underO_isO h.io h.t h3,tight_under h.io h.t h3,(J2c o).trans h.len⟩
def encO:List Nat→Nat
 | []=>0
 | x :: r=>x + 7 * encO r
theorem encO_lt:∀ {l:List Nat},(∀ x∈l,x < 7)→encO l < 7 ^ l.length
 | [],_=>by decide
 | x :: r,h=>by
  have h1:=encO_lt (l:=r) fun y hy=>h y (List.mem_cons_of_mem _ hy)
  have h2:=h x (List.mem_cons_self ..)
  show x + 7 * encO r < 7 ^ (r.length + 1)
  rw [Nat.pow_succ]
  omega
theorem encO_inj:∀ {l m:List Nat},l.length=m.length→(∀ x∈l,x < 7)→(∀ x∈m,x < 7)→encO l=encO m→l=m
 | [],[],_,_,_,_=>rfl
 | [],_ :: _,h,_,_,_=>by simp at h
 | _ :: _,[],h,_,_,_=>by simp at h
 | x :: r,y :: q,h,h1,h2,e=>by
  have e:x + 7 * encO r=y + 7 * encO q:=e
  have a:=h1 x (List.mem_cons_self ..)
  have b:=h2 y (List.mem_cons_self ..)
  have exy:x=y:=by omega
  have er:encO r=encO q:=by omega
  rw [exy,encO_inj (by simpa using h) (fun z hz=>h1 z (List.mem_cons_of_mem _ hz)) (fun z hz=>h2 z (List.mem_cons_of_mem _ hz)) er]
theorem J3r {α:Type} {f:α→Nat}:∀ {l:List α},l.Nodup→(∀ x∈l,∀ y∈l,f x=f y→x=y)→(l.map f).Nodup
 | [],_,_=>List.nodup_nil
 | a :: l,h,hi=>by
  rw [List.map_cons,List.nodup_cons]
  refine ⟨fun q=>?_,J3r (List.nodup_cons.mp h).2 fun x hx y hy=>hi x (List.mem_cons_of_mem _ hx) y (List.mem_cons_of_mem _ hy)⟩
  obtain ⟨x,hx,e⟩:=List.mem_map.mp q
  have:=hi x (List.mem_cons_of_mem _ hx) a (List.mem_cons_self ..) e
  exact (List.nodup_cons.mp h).1 (this ▸ hx)
theorem J2o {n:Nat} {ks:List (List Nat)} (hn:n≤7) (nd:ks.Nodup) (h:∀ o∈ks,OkO n o):ks.length≤823543:=by
 have lt:∀ o∈ks,∀ x∈o,x < 7:=fun o ho x hx=>by have:=(h o ho).io.lt x hx;rw [(h o ho).len] at this;omega
 have h1:=J4c (l:=ks.map encO) (n:=823543) (J3r nd fun x hx y hy e=>encO_inj (by rw [(h x hx).len,(h y hy).len]) (lt x hx) (lt y hy) e) fun z hz=>by
  obtain ⟨o,ho,rfl⟩:=List.mem_map.mp hz
  have h2:=encO_lt (lt o ho)
  have h3:7 ^ o.length≤7 ^ 7:=Nat.pow_le_pow_right (by decide) (by rw [(h o ho).len];exact hn)
  have h4:(7:Nat) ^ 7=823543:=by decide
  omega
 rwa [List.length_map] at h1
end Rl
namespace Rl
def BadX (xs:List Int):Prop:=¬ (OrdX xs xs.length∧(2:Int)≤xs.length∧(xs.length:Int)≤7)
def LooseX (xs:List Int):Prop:=∃ os:List Nat,xs=natI os∧IsO os∧2≤os.length∧os.length≤7∧¬ Tight os
def GoodX (xs:List Int) (os:List Nat):Prop:=xs=natI os∧IsO os∧2≤os.length∧os.length≤7∧Tight os
theorem GoodX.notBad {xs:List Int} {os:List Nat} (h:GoodX xs os):¬ BadX xs:=fun b=>by
 obtain ⟨rfl,io,h2,h7,_⟩:=h
 exact b ⟨⟨os,rfl,by rw [J12];exact io⟩,by rw [J12];omega,by rw [J12];omega⟩
theorem GoodX.notLoose {xs:List Int} {os:List Nat} (h:GoodX xs os):¬ LooseX xs:=fun ⟨o,e,_,_,_,nt⟩=>by
 have:=J2l (h.1.symm.trans e)
 exact nt (this ▸ h.2.2.2.2)
theorem okDown:OkO 7 [6,5,4,3,2,1,0]:=by
 refine ⟨?_,?_,rfl⟩
 ·unfold IsO
  exact (List.perm_ext_iff_of_nodup (by decide) List.nodup_range).mpr fun j=>by
   constructor
   ·intro h
    have:∀ x∈[6,5,4,3,2,1,0],x < 7:=by decide
    exact List.mem_range.mpr (this j h)
   ·intro h
    have h:=List.mem_range.mp h
    have:∀ x,x < 7→x∈[6,5,4,3,2,1,0]:=by decide
    exact this j h
 ·intro k k1 k2
  refine ⟨6,?_,by simp at k2;omega⟩
  cases k with
  | zero=>omega
  | succ k=>simp
end Rl
namespace Rl
def stepO (w:Bool) (o:List Nat):List Nat:=if w=true then overO o else J2d o
def Clo (ks:List (List Nat)) (d:List Nat→Nat) (o:List Nat):Prop:=∀ w,stepO w o∈ks∧d (stepO w o)≤d o + 1
structure Fam (s:List Nat) (ks:List (List Nat)) (d:List Nat→Nat):Prop where
 st:s∈ks
 d0:d s=0
 clo:∀ o∈ks,Clo ks d o
 pre:∀ o∈ks,o≠s→∃ p∈ks,∃ w,o=stepO w p∧d o=d p + 1
theorem Fam.le {s:List Nat} {ks ls:List (List Nat)} {d e:List Nat→Nat} (a:Fam s ks d) (b:Fam s ls e):∀ (m:Nat) (o:List Nat),o∈ks→d o=m→o∈ls∧e o≤m
 | m,o,ho,hm=>by
  by_cases c:o=s
  ·subst c
   exact ⟨b.st,by rw [b.d0];exact Nat.zero_le _⟩
  ·obtain ⟨p,hp,w,e1,e2⟩:=a.pre o ho c
   obtain ⟨h1,h2⟩:=Fam.le a b (d p) p hp rfl
   obtain ⟨h3,h4⟩:=b.clo p h1 w
   rw [← e1] at h3 h4
   exact ⟨h3,by omega⟩
 termination_by m=>m
 decreasing_by omega
theorem Fam.same {s:List Nat} {ks ls:List (List Nat)} {d e:List Nat→Nat} (a:Fam s ks d) (b:Fam s ls e) (o:List Nat):(o∈ks↔o∈ls)∧(o∈ks→d o=e o):=by
 refine ⟨⟨fun h=>(a.le b _ o h rfl).1,fun h=>(b.le a _ o h rfl).1⟩,fun h=>?_⟩
 obtain ⟨h1,h2⟩:=a.le b _ o h rfl
 obtain ⟨h3,h4⟩:=b.le a _ o h1 rfl
 omega
theorem OkO.step {n:Nat} {o:List Nat} (h:OkO n o) (h2:2≤n) (w:Bool):OkO n (stepO w o):=by
 unfold stepO
 cases w with
 | true=>exact h.over h2
 | false=>exact h.under h2
def setD (d:List Nat→Nat) (o:List Nat) (m:Nat):List Nat→Nat:=fun x=>if x=o then m else d x
theorem setD_ne {d:List Nat→Nat} {o x:List Nat} {m:Nat} (h:x≠o):setD d o m x=d x:=if_neg h
theorem J1f {d:List Nat→Nat} {o:List Nat} {m:Nat}:setD d o m o=m:=if_pos rfl
theorem Jm {d:List Nat→Nat} {o x:List Nat} {m:Nat} {ks:List (List Nat)} (ho:o ∉ ks) (hx:x∈ks):setD d o m x=d x:=setD_ne fun e=>ho (e ▸ hx)
theorem Clo.add {ks:List (List Nat)} {d:List Nat→Nat} {o x:List Nat} {m:Nat} (h:Clo ks d x) (hx:x∈ks) (ho:o ∉ ks):Clo (ks ++ [o]) (setD d o m) x:=fun w=>by
 obtain ⟨h1,h2⟩:=h w
 exact ⟨List.mem_append_left _ h1,by rw [Jm ho h1,Jm ho hx];exact h2⟩
def Pre (s:List Nat) (ks:List (List Nat)) (d:List Nat→Nat):Prop:=∀ o∈ks,o≠s→∃ p∈ks,∃ w,o=stepO w p∧d o=d p + 1
theorem Pre.add {s:List Nat} {ks:List (List Nat)} {d:List Nat→Nat} {o q:List Nat} {w:Bool} (h:Pre s ks d) (ho:o ∉ ks) (hq:q∈ks) (e:o=stepO w q):Pre s (ks ++ [o]) (setD d o (d q + 1)):=fun x hx hn=>by
 rcases List.mem_append.mp hx with z | z
 ·obtain ⟨p,hp,v,e1,e2⟩:=h x z hn
  exact ⟨p,List.mem_append_left _ hp,v,e1,by rw [Jm ho z,Jm ho hp];exact e2⟩
 ·obtain rfl:=List.mem_singleton.mp z
  exact ⟨q,List.mem_append_left _ hq,w,e,by rw [J1f,Jm ho hq]⟩
def appW (ws:List Bool) (o:List Nat):List Nat:=ws.foldl (fun x w=>stepO w x) o
theorem appW_cons (w:Bool) (ws:List Bool) (o:List Nat):appW (w :: ws) o=appW ws (stepO w o):=rfl
theorem appW_snoc (ws:List Bool) (w:Bool) (o:List Nat):appW (ws ++ [w]) o=stepO w (appW ws o):=by unfold appW;rw [List.foldl_append];rfl
theorem J2x {n b:Nat} (h:b + 1≤n):(List.range n).filter (fun x=>decide (x≤b))=(List.range n).take (b + 1):=by
 conv=>lhs;rw [← List.take_append_drop (b + 1) (List.range n)]
 rw [List.filter_append,List.filter_eq_self.mpr,List.filter_eq_nil_iff.mpr,List.append_nil]
 ·intro x hx
  obtain ⟨i,hi,e⟩:=List.getElem_of_mem hx
  rw [List.getElem_drop,List.getElem_range] at e
  simp;omega
 ·intro x hx
  rw [List.take_range,Nat.min_eq_left (by omega)] at hx
  have:=List.mem_range.mp hx
  exact decide_eq_true (by omega)
theorem J2y {n b:Nat} (h:b + 1≤n):(List.range n).filter (fun x=>decide (b < x))=(List.range n).drop (b + 1):=by
 conv=>lhs;rw [← List.take_append_drop (b + 1) (List.range n)]
 rw [List.filter_append,List.filter_eq_nil_iff.mpr,List.filter_eq_self.mpr,List.nil_append]
 ·intro x hx
  obtain ⟨i,hi,e⟩:=List.getElem_of_mem hx
  rw [List.getElem_drop,List.getElem_range] at e
  exact decide_eq_true (by omega)
 ·intro x hx
  rw [List.take_range,Nat.min_eq_left (by omega)] at hx
  have:=List.mem_range.mp hx
  simp;omega
theorem Fam.levels {s:List Nat} {ks:List (List Nat)} {d:List Nat→Nat} (a:Fam s ks d):∀ (m:Nat) (o:List Nat),o∈ks→d o=m→∀ j,j≤m→∃ x∈ks,d x=j
 | 0,o,ho,hm,j,hj=>⟨o,ho,by omega⟩
 | m + 1,o,ho,hm,j,hj=>by
  by_cases c:j=m + 1
  ·exact ⟨o,ho,by omega⟩
  ·have ne:o≠s:=fun e=>by subst e;have:=a.d0;omega
   obtain ⟨p,hp,w,e1,e2⟩:=a.pre o ho ne
   exact Fam.levels a m p hp (by omega) j (by omega)
theorem Fam.dlt {s:List Nat} {ks:List (List Nat)} {d:List Nat→Nat} (a:Fam s ks d) {o:List Nat} (ho:o∈ks):d o < ks.length:=by
 have:=J3e (l:=List.range (d o + 1)) (m:=ks.map d) List.nodup_range fun j hj=>by
  obtain ⟨x,hx,e⟩:=a.levels (d o) o ho rfl j (by have:=List.mem_range.mp hj;omega)
  exact List.mem_map.mpr ⟨x,hx,e⟩
 rw [List.length_range,List.length_map] at this
 omega
end Rl
namespace L2
open PySem PyProof.Rows
end L2
namespace L2
open PySem PyProof.Rows
end L2
namespace R62
open PySem L2 Rl
def top (i:Nat):Stmt:=PySem.Challenge.pw_relaid_k62_whole_ways_led.main.body.getD i (.Pass ⟨0,0,0,0⟩)
abbrev sRefO:Stmt:=top 5
abbrev sRefOf:Stmt:=top 6
abbrev sFalls:Stmt:=top 10
abbrev sToldO:Stmt:=top 11
abbrev sLedO:Stmt:=top 12
abbrev sNumU:Stmt:=top 13
abbrev sLedU:Stmt:=top 14
abbrev sWordsF:Stmt:=top 15
abbrev sLed:Stmt:=top 16
abbrev sCell:Stmt:=top 18
abbrev sOrder:Stmt:=top 19
abbrev sOverL:Stmt:=top 20
abbrev sUnderL:Stmt:=top 21
abbrev sStepsL:Stmt:=top 22
abbrev sSecond:Stmt:=top 23
abbrev sLaw:Stmt:=top 24
abbrev iV (ns:List Int):List V:=ns.map V.int
abbrev nV (os:List Nat):List V:=(natI os).map V.int
def SqH (H:Hp) (p:Addr) (xs:List V):Prop:=H p=some (.lst xs)∨H p=some (.tup xs)
theorem SqH.sq {K:PySem.W.Frag} {H:Hp} {p:Addr} {xs:List V} (h:SqH H p xs):SqL K H p xs∨SqT K H p xs:=h.elim (fun h=>.inl (SqL.of h)) fun h=>.inr (SqT.of h)
theorem SqH.same {H H':Hp} {p:Addr} {xs:List V} (h:SqH H p xs) (s:Same H H'):SqH H' p xs:=h.elim (fun h=>.inl (s _ _ h)) fun h=>.inr (s _ _ h)
theorem J4 {H:Hp} {l:Addr} {o:HO} (h:H l=none):Same H (upd H l o):=fun b u e=>by rw [Jd (J9 e h)];exact e
theorem iteD {c A B:Prop} [Decidable c] (hc:¬ c) (h:B):if decide c=true then A else B:=by
 rw [decide_eq_false hc];exact iteF h
theorem iteDT {c A B:Prop} [Decidable c] (hc:c) (h:A):if decide c=true then A else B:=by
 rw [decide_eq_true hc];exact iteT h
theorem iteND {c A B:Prop} [Decidable c] (hc:¬ c) (h:A):if (!decide c)=true then A else B:=by
 rw [decide_eq_false hc];exact iteT h
theorem J18 {K:PySem.W.Frag} {H:Hp} {p:Addr} {xs:List V} {Q:VK} (h:SqH H p xs) (k:∀ l H',Same H H'→H' l=some (.tup xs)→Q (.ref l) H'):rTup K [V.ref p] H Q:=by
 unfold rTup
 rcases h with h | h
 ·exact ⟨p,xs,rfl,.inl ⟨SqL.of h,fun l hl=>k l _ (J4 hl) upd_same⟩⟩
 ·exact ⟨p,xs,rfl,.inr ⟨SqT.of h,k p H (Same.refl _) h⟩⟩
theorem vint_ne {i j:Int} (h:i≠j):¬ V.int i=V.int j:=fun e=>h (V.int.inj e)
theorem ixN_nat {n o:Nat} (h:o < n):ixN n (o:Int)=some o:=by
 unfold ixN
 rw [if_pos (by omega),if_pos (by omega)]
 simp
theorem iV_get {ns:List Int} {j:Nat} (h:j < ns.length):(iV ns)[j]?=some (V.int (ns.getD j 0)):=by
 rw [List.getElem?_map,List.getElem?_eq_getElem h,List.getD_eq_getElem?_getD,List.getElem?_eq_getElem h];rfl
def KeepX (x:Addr) (H H':Hp):Prop:=∀ b o,H b=some o→b≠x→H' b=some o
theorem KeepX.of {x:Addr} {H H':Hp} (s:Same H H'):KeepX x H H':=fun b o e _=>s b o e
theorem KeepX.trans {x:Addr} {H H1 H2:Hp} (a:KeepX x H H1) (b:KeepX x H1 H2):KeepX x H H2:=fun c o e n=>b c o (a c o e n) n
theorem KeepX.upd {x:Addr} {H:Hp} {o:HO}:KeepX x H (upd H x o):=fun b u e n=>by rw [Jd n];exact e
theorem SqH.ne {H:Hp} {p x C dx:Addr} {xs:List V} {fs:List (Str × V)} (h:SqH H p xs) (hx:H x=some (.ins C dx fs)):p≠x:=h.elim (fun h=>ne_of h hx (by intro z;cases z)) fun h=>ne_of h hx (by intro z;cases z)
structure TxtX (K:PySem.W.Frag) (mg:Str→Option Value) (x:Str) (CO:Addr):Prop where
 mg:mg x=some (.ref CO)
 ex:PySem.W.excIn K CO bmV "ValueError.__new__"=true
structure TxtR (mg:Str→Option Value):Prop where
 len:mg "len"=none
 sum:mg "sum"=none
 tuple:mg "tuple"=none
 list:mg "list"=none
 range:mg "range"=none
theorem nV_eq (row:List Nat):nV row=row.map fun (j:Nat)=>V.int (j:Int):=by
 show (row.map fun (n:Nat)=>(n:Int)).map V.int=_
 rw [List.map_map];rfl
theorem J13 (row:List Nat):(nV row).length=row.length:=by rw [nV_eq,List.length_map]
theorem nV_at {row:List Nat} {i:Nat} (h:i < row.length):(nV row)[i]?=some (V.int (row.getD i 0:Nat)):=by
 rw [nV_eq,List.getElem?_map,List.getD_eq_getElem?_getD,List.getElem?_eq_getElem h];rfl
theorem KeepX.ins {x p:Addr} {H H':Hp} {xs:List V} (k:KeepX x H H') (h:H p=some (.tup xs)) {C dx:Addr} {fs:List (Str × V)} (hx:H x=some (.ins C dx fs)):H' p=some (.tup xs):=k _ _ h (ne_of h hx (by intro z;cases z))
section
def tCut (t:TS):TS:=fun D σ H=>∃ post:St→Hp→Prop,t { D with nx:=post } σ H∧∀ σ' H',post σ' H'→D.nx σ' H'
theorem ps_cut {X:Cx} {st:Stmt} {t:TS} (h:PS X st t):PS X st (tCut t):=by
 intro pins s σ H D I ⟨post,q,m⟩
 refine thn (h pins s σ H _ I q) fun f s' z=>?_
 cases f with
 | next=>obtain ⟨σ',H',I',z⟩:=z;exact ⟨σ',H',I',m σ' H' z⟩
 | brk=>exact z
 | cont=>exact z
 | ret u=>exact z
end
end R62
namespace R62
open PySem L2 Rl
section
variable {P:Program} {w:World} {K:PySem.W.Frag} {mg:Str→Option Value} {base:Heap}
theorem J2s (row:List Nat) (n:Nat) (h:n≤row.length):cutV (nV row) none (some (n:Int))=nV (row.take n):=by
 unfold cutV
 rw [J13,HT.sIx_nat,HT.sIx_none,Nat.min_eq_left h,nV_eq,nV_eq,List.map_take,List.drop_zero,Nat.sub_zero]
theorem sIx_m1 (n d:Nat) (h:1≤n):HT.sIx n d (some (-1))=n - 1:=by
 show (if (-1:Int) < 0 then ((-1:Int) + (n:Int)).toNat else min (-1:Int).toNat n)=n - 1
 rw [if_pos (by decide)]
 omega
theorem cut_mid (row:List Nat) (n:Nat) (h:n≤row.length) (h1:1≤row.length):cutV (nV row) (some (n:Int)) (some (-1))=nV ((row.drop n).take (row.length - 1 - n)):=by
 unfold cutV
 rw [J13,HT.sIx_nat,sIx_m1 _ _ h1,Nat.min_eq_left h,nV_eq,nV_eq,List.map_take,List.map_drop]
theorem nV_app (xs ys:List Nat):nV (xs ++ ys)=nV xs ++ nV ys:=by rw [nV_eq,nV_eq,nV_eq,List.map_append]
theorem nV_ne {xs:List Nat} (h:xs≠[]):nV xs≠[]:=by rw [nV_eq];exact fun e=>h (List.map_eq_nil_iff.mp e)
theorem nV_nil {xs:List Nat} (h:nV xs=[]):xs=[]:=by rw [nV_eq] at h;exact List.map_eq_nil_iff.mp h
theorem J2a {row:List Nat} (h:1≤row.length):atI (nV row) (-1)=some (V.int (row.getD (row.length - 1) 0:Nat)):=by
 have e:ixN (nV row).length (-1)=some (row.length - 1):=by
  unfold ixN
  rw [J13,if_neg (by decide),if_pos (by omega)]
  congr 1
  omega
 unfold atI
 rw [e]
 exact nV_at (by omega)
theorem idx_nat (row:List Nat) (a:Nat):(natI row).idxOf (a:Int)=row.idxOf a:=by
 unfold natI
 induction row with
 | nil=>rfl
 | cons x r ih =>
  rw [List.map_cons,List.idxOf_cons,List.idxOf_cons,ih]
  have e:((x:Int) == (a:Int))=(x == a):=by
   rw [Bool.eq_iff_iff,beq_iff_eq,beq_iff_eq]
   exact Int.ofNat_inj
  rw [e]
theorem mem_nat {row:List Nat} {a:Nat} (h:a∈row):(a:Int)∈natI row:=List.mem_map.mpr ⟨a,h,rfl⟩
theorem insV (os:List Nat) (i y:Nat):(nV os).take i ++ V.int (y:Int) :: (nV os).drop i=nV (insAt os i y):=by
 show ((os.map fun (n:Nat)=>(n:Int)).map V.int).take i ++ V.int (y:Int) :: ((os.map fun (n:Nat)=>(n:Int)).map V.int).drop i=((insAt os i y).map fun (n:Nat)=>(n:Int)).map V.int
 unfold insAt
 simp only [List.map_append,List.map_cons,List.map_take,List.map_drop]
theorem J4j {a b:List Int} (h:iV a=iV b):a=b:=(List.map_inj_right fun x y e=>V.int.inj e).mp h
def spRefOE (CB:Addr):Sp:=fun vs H Q E=>∃ (q:Addr) (xs:List Int) (n:Nat),vs=[.ref q,.int n]∧SqH H q (iV xs)∧xs.length < 64∧n≤100∧(OrdX xs n→∀ H',Same H H'→Q .non H')∧(¬ OrdX xs n→∀ H',Same H H'→E (.ref CB) none H')
theorem scRefOE:FnScope ["order","pieces"] ["order","pieces"] (Ja sRefO):=⟨rfl,rfl,rfl,by decide +kernel,rfl,by decide +kernel,by decide +kernel⟩
theorem ok_refOE {f  CB : Addr} {fd  : FuncData}  (F : Fun K "refuse_order" "refuse_order" sRefO f fd) (T : TxtR mg) (hsorted : mg "sorted" = none) (TB : TxtX K mg "BadOrder" CB)
 :
    FnOk P w K mg base (Exc1 P w) 1 f fd ["order", "pieces"] (spRefOE CB) := by
  refine F.okX scRefOE (fun vs H Q E h => ?_) (fun cdv A outer s H vs Q E hr h => ?_)
  · obtain ⟨q, xs, n, rfl, _⟩ := h
    rfl
  · obtain ⟨q, xs, n, rfl, hq, hx, hn, kg, kb⟩ := h
    have hu := hr.units0
    refine ⟨_, (J8 (ps_if (Jp (op_neL hu) (Je call_sorted (by rfl) hsorted PyProof.Rows.boot_sorted (J0 (pv 0) J6)) (Jg (J40 rfl) (by rfl) T.list PyProof.Rows.boot_list (J0 (Jg call_rng (by rfl) T.range PyProof.Rows.boot_range (J0 (pv 1) J6)) J6)) (Jw _)) (J8 (J48 rfl TB.mg TB.ex)) Ju)), ?_⟩
    refine ⟨_, rfl, q, xs, rfl, hq.sq, hx, fun l ns' hl h1 h2 => ?_⟩
    refine ⟨_, rfl, (n : Int), rfl, fun r hr' => ⟨r, n, rfl, upd_same, by omega, fun l2 hl2 => ?_⟩⟩
    have n1 : l ≠ r := J9 (H := upd H l (.lst (ns'.map V.int))) upd_same hr'
    have s1 : Same (upd H l (.lst (ns'.map V.int))) (upd (upd (upd H l (.lst (ns'.map V.int))) r (.rng 0 n)) l2 (.lst (((List.range n).map fun (i : Nat) => (i : Int)).map V.int))) := (J4 hr').trans (J4 hl2)
    refine ⟨l, l2, _, _, rfl, rfl, SqL.of (s1 _ _ upd_same), SqL.of upd_same, Kin.ints _ _, _, rfl, ?_⟩
    by_cases c : OrdX xs n
    · obtain ⟨os, rfl, hp⟩ := c
      have e := J43 hp h1 h2
      exact iteNS (by rw [e]; rfl) (kg ⟨os, rfl, hp⟩ _ ((J4 hl).trans s1))
    · refine iteND (fun e => c ?_) (kb c _ ((J4 hl).trans s1))
      have e2 : ns' = natI (List.range n) := J4j e
      rw [e2] at h1
      exact ordX_of h1
def spRefOf (CB:Addr):Sp:=fun vs H Q E=>∃ (q:Addr) (xs:List Int) (a b:Int),vs=[.ref q,.int a,.int b]∧SqH H q (iV xs)∧xs.length < 64∧(OrdX xs xs.length∧a≤xs.length∧(xs.length:Int)≤b→∀ H',Same H H'→Q .non H')∧(¬ (OrdX xs xs.length∧a≤xs.length∧(xs.length:Int)≤b)→∀ H',Same H H'→E (.ref CB) none H')
theorem scRefOf:FnScope ["order","fewest","most"] ["order","fewest","most"] (Ja sRefOf):=⟨rfl,rfl,rfl,by decide +kernel,rfl,by decide +kernel,by decide +kernel⟩
theorem ok_refOf {f fRO CB:Addr} {fd fdRO:FuncData}  (F:Fun K "refuse_order_of" "refuse_order_of" sRefOf f fd) (T:TxtR mg) (TB:TxtX K mg "BadOrder" CB)
  (GRO:FnOk P w K mg base (Exc1 P w) 1 fRO fdRO ["order","pieces"] (spRefOE CB)) (bRO:Binds K fdRO ["order","pieces"] []) (mRO:mg "refuse_order"=some (.ref fRO)) (kRO:PySem.W.keepIn K (.ref fRO)=true) :
  FnOk P w K mg base (Exc1 P w) 2 f fd ["order","fewest","most"] (spRefOf CB):=by
 refine F.okX scRefOf (fun vs H Q E h=>?_) (fun cdv A outer s H vs Q E hr h=>?_)
 ·obtain ⟨q,xs,a,b,rfl,_⟩:=h
  rfl
 ·obtain ⟨q,xs,a,b,rfl,hq,hx,kg,kb⟩:=h
  have hr1:Room 1 _:=hr.mono (by decide)
  refine ⟨_,(J2 (ps_if (PW.pt (pw_or (Jp op_lt (Je J7 (by rfl) T.len PySem.boot_len (J0 (pv 0) J6)) (pv 1) (Jw _)) (pw_or1 (Jp op_gt (Je J7 (by rfl) T.len PySem.boot_len (J0 (pv 0) J6)) (pv 2) (Jw _))))) (J8 (J48 rfl TB.mg TB.ex)) Ju)
   (J8 (J31 (Jh GRO hr1 rfl mRO kRO bRO .nil pass1 (J0 (pv 0) (J0 (Je J7 (by rfl) T.len PySem.boot_len (J0 (pv 0) J6)) J6)))))),?_⟩
  have ll:(iV xs).length=xs.length:=List.length_map ..
  refine ⟨_,rfl,q,_,rfl,hq.sq,_,rfl,_,_,rfl,rfl,_,rfl,?_⟩
  by_cases c1:(xs.length:Int) < a
  ·refine iteDT (by rw [ll];exact c1) ?_
   exact kb (fun z=>by omega) _ (Same.refl _)
  refine iteD (by rw [ll];exact c1) ?_
  refine ⟨_,rfl,q,_,rfl,hq.sq,_,rfl,_,_,rfl,rfl,_,rfl,?_⟩
  by_cases c2:b < (xs.length:Int)
  ·refine iteDT (by rw [ll];exact c2) ?_
   exact kb (fun z=>by omega) _ (Same.refl _)
  refine iteD (by rw [ll];exact c2) ?_
  refine ⟨_,rfl,_,rfl,q,_,rfl,hq.sq,q,xs,xs.length,(by rw [ll];rfl),hq,hx,by omega,fun c H' s'=>kg ⟨c,by omega,by omega⟩ H' s',fun c H' s'=>kb (fun z=>c z.1) H' s'⟩
def spFalls:Sp:=fun vs H Q _=>∃ (q:Addr) (os:List Nat),vs=[.ref q]∧SqH H q (nV os)∧1≤os.length∧os.length≤24∧(Tight os→∀ H',Same H H'→Q (.bl false) H')∧(¬ Tight os→∀ H',Same H H'→Q (.bl true) H')
theorem scFalls:FnScope ["order"] ["order"] (Ja sFalls):=⟨rfl,rfl,rfl,by decide +kernel,rfl,by decide +kernel,by decide +kernel⟩
theorem ok_falls {f   : Addr} {fd  : FuncData}  (F : Fun K "falls_apart" "falls_apart" sFalls f fd) (T : TxtR mg) (hany : mg "any" = none) (hmax : mg "max" = none)
 :
    FnOk P w K mg base CX0 1 f fd ["order"] spFalls := by
  refine F.ok scFalls (fun vs H Q E h => ?_) (fun cdv A outer s H vs Q E hr h => ?_)
  · obtain ⟨q, os, rfl, _⟩ := h
    rfl
  · obtain ⟨q, os, rfl, hq, h1, h2, kt, kl⟩ := h
    refine ⟨_, (J8 (Jv (Je (call_any rfl) (by rfl) hany PyProof.Rows.boot_any (J0 (pe_lc (caps := ["order"]) (js := [0]) rfl (pi_range2 rfl T.range (J0 Jb (J0 (Je J7 (by rfl) T.len PySem.boot_len (J0 (pv 0) J6)) J6))) rfl (fun _ _ _ _ => pts_nil) (fun C fp s H => (pe_cmpR op_lt (Je (call_maxK K) (by rfl) hmax PyProof.Rows.boot_max (J0 (J1j (sl_seqK K) (pv 1) J3p (J1n (pv 0))) J6)) (pv 0) (Jw _))) (by decide +kernel) (by decide +kernel) (by decide +kernel) (by intro p hp; simp only [List.mem_cons, List.not_mem_nil, or_false] at hp; rcases hp with rfl; rfl)) J6)))), ?_⟩
    refine ⟨_, rfl, q, _, rfl, hq.sq, _, _, rfl, ⟨by decide, by decide, by omega, by rw [J13]; omega⟩, fun d hd => ?_⟩
    have en : (((nV os).length : Int) - 1).toNat = os.length - 1 := by rw [J13]; omega
    rw [en]
    refine lc_rng 1 (os.length - 1) (fun _ => true) (fun i => V.bl (J2m os (i + 1))) (by omega) hd (fun i hi H Qt s kt => kt H (Same.refl _)) (fun i hi H3 Qe _ s3 ke => ?_) (fun H3 s3 hd' => ?_)
    · have e1 : (1 : Int) + (i : Nat) = ((i + 1 : Nat) : Int) := by omega
      have hlt : (os.take (i + 1)).length = i + 1 := by rw [List.length_take]; omega
      rw [e1]
      have fin : ∀ (p : Addr) (H4 : Hp), Same H3 H4 → SqH H4 p (nV (os.take (i + 1))) → ∀ M, M ∈ natI (os.take (i + 1)) → (∀ a ∈ natI (os.take (i + 1)), a ≤ M) → Qe (.bl (decide (M < ((i + 1 : Nat) : Int)))) H4 := fun p H4 s4 _ M hM hA => by
        rw [looseB_max hM hA]; exact ke H4 s4
      rcases hq.same s3 with hL | hT
      · refine ⟨_, rfl, _, rfl, _, rfl, .inl ⟨q, _, rfl, SqL.of hL, fun p hp => ?_⟩⟩
        rw [J2s _ _ (by omega)]
        refine ⟨p, natI (os.take (i + 1)), rfl, .inl (SqL.of upd_same), by rw [J12]; omega, fun M hM hA => ⟨_, rfl, _, _, rfl, rfl, ?_⟩⟩
        exact fin p _ (J4 hp) (.inl upd_same) M hM hA
      · refine ⟨_, rfl, _, rfl, _, rfl, .inr ⟨q, _, rfl, SqT.of hT, ?_, fun p hp => ?_⟩⟩
        · rw [J13, HT.sIx_nat]
          omega
        rw [J2s _ _ (by omega)]
        refine ⟨p, natI (os.take (i + 1)), rfl, .inr (SqT.of upd_same), by rw [J12]; omega, fun M hM hA => ⟨_, rfl, _, _, rfl, rfl, ?_⟩⟩
        exact fin p _ (J4 hp) (.inr upd_same) M hM hA
    · rw [J2p] at hd'
      refine ⟨d, (List.range (os.length - 1)).map fun i => J2m os (i + 1), rfl, SqL.of (by rw [hd', List.map_map]; rfl), ?_⟩
      by_cases c : Tight os
      · have e : ((List.range (os.length - 1)).map fun i => J2m os (i + 1)).any id = false := by
          rw [← Bool.not_eq_true]
          exact fun z => loose_any.mp z c
        rw [e]; exact kt c _ s3
      · rw [loose_any.mpr c]; exact kl c _ s3
def spToldO (CB CLo:Addr):Sp:=fun vs H Q E=>∃ (q:Addr) (xs:List Int),vs=[.ref q]∧SqH H q (iV xs)∧xs.length < 64∧
 (∀ os,xs=natI os→IsO os→2≤os.length→os.length≤7→Tight os→∀ l H',Same H H'→H' l=some (.tup (nV os))→Q (.ref l) H')∧
 (¬ (OrdX xs xs.length∧(2:Int)≤xs.length∧(xs.length:Int)≤7)→∀ H',Same H H'→E (.ref CB) none H')∧
 (∀ os,xs=natI os→IsO os→2≤os.length→os.length≤7→¬ Tight os→∀ H',Same H H'→E (.ref CLo) none H')
theorem scToldO:FnScope ["order"] ["order"] (Ja sToldO):=⟨rfl,rfl,rfl,by decide +kernel,rfl,by decide +kernel,by decide +kernel⟩
theorem ok_toldO {f fRF fFA CB CLo:Addr} {fd fdRF fdFA:FuncData}  (F:Fun K "order_told" "order_told" sToldO f fd) (T:TxtR mg) (TLo:TxtX K mg "Loose" CLo) {t2 t7:Tok} (hfew:mg "FEWEST"=some (.int 2 t2)) (hmost:mg "MOST"=some (.int 7 t7))
  (GRF:FnOk P w K mg base (Exc1 P w) 2 fRF fdRF ["order","fewest","most"] (spRefOf CB)) (bRF:Binds K fdRF ["order","fewest","most"] []) (mRF:mg "refuse_order_of"=some (.ref fRF)) (kRF:PySem.W.keepIn K (.ref fRF)=true)
  (GFA:FnOk P w K mg base CX0 1 fFA fdFA ["order"] spFalls) (bFA:Binds K fdFA ["order"] []) (mFA:mg "falls_apart"=some (.ref fFA)) (kFA:PySem.W.keepIn K (.ref fFA)=true) :
  FnOk P w K mg base (Exc1 P w) 3 f fd ["order"] (spToldO CB CLo):=by
 refine F.okX scToldO (fun vs H Q E h=>?_) (fun cdv A outer s H vs Q E hr h=>?_)
 ·obtain ⟨q,xs,rfl,_⟩:=h
  rfl
 ·obtain ⟨q,xs,rfl,hq,hx,kt,kb,kl⟩:=h
  have hr1:Room 1 _:=hr.mono (by decide)
  have hr2:Room 2 _:=hr.mono (by decide)
  refine ⟨_,(J2 (J31 (Jh GRF hr2 rfl mRF kRF bRF .nil pass1 (J0 (pv 0) (J0 (pe_glob (v:=.int 2) rfl hfew ⟨_,rfl⟩) (J0 (pe_glob (v:=.int 7) rfl hmost ⟨_,rfl⟩) J6)))))
   (J2 (ps_if (pt_val (Jh GFA hr1 rfl mFA kFA bFA .nil pass0 (J0 (pv 0) J6))) (J8 (J48 rfl TLo.mg TLo.ex)) Ju)
   (J8 (Jv (Jg J1a (by rfl) T.tuple PyProof.Rows.boot_tuple (J0 (pv 0) J6)))))),?_⟩
  refine ⟨_,rfl,q,xs,2,7,rfl,hq,hx,fun c H1 s1=>?_,fun c H1 s1=>kb c H1 s1⟩
  obtain ⟨c0,c1,c2⟩:=c
  obtain ⟨os,rfl,io⟩:=c0.isO
  rw [J12] at c1 c2
  have hq1:=hq.same s1
  refine ⟨_,rfl,q,os,rfl,hq1,by omega,by omega,fun t H2 s2=>⟨_,rfl,iteF ?_⟩,fun t H2 s2=>⟨_,rfl,iteT ?_⟩⟩
  ·exact ⟨_,rfl,J18 (hq1.same s2) fun l H3 s3 hl=>kt os rfl io (by omega) (by omega) t l H3 (s1.trans (s2.trans s3)) hl⟩
  ·exact kl os rfl io (by omega) (by omega) t _ (s1.trans s2)
def spLedO:Sp:=fun vs H Q _=>∃ (p:Addr) (os:List Nat),vs=[.ref p]∧H p=some (.tup (nV os))∧IsO os∧2≤os.length∧os.length≤24∧Tight os∧∀ l H',Same H H'→H' l=some (.tup (nV (overO os)))→Q (.ref l) H'
theorem scLedO:FnScope ["order","last","behind"] ["order"] (Ja sLedO):=⟨rfl,rfl,rfl,by decide +kernel,rfl,by decide +kernel,by decide +kernel⟩
theorem ok_ledO {f   : Addr} {fd  : FuncData}  (F : Fun K "led_over" "led_over" sLedO f fd) (T : TxtR mg)
 :
    FnOk P w K mg base CX0 1 f fd ["order"] spLedO := by
  refine F.ok scLedO (fun vs H Q E h => ?_) (fun cdv A outer s H vs Q E hr h => ?_)
  · obtain ⟨p, os, rfl, _⟩ := h
    rfl
  · obtain ⟨p, os, rfl, hp, io, h2, h24, t, k⟩ := h
    refine ⟨_, (J2 (Jj (i := 1) scLedO.nd rfl (Or.inl rfl) (pe_ix ix_tup (pv 0) (pe_un J39 Jb) (fun _ _ => rfl)))
      (J2 (Jj (i := 2) scLedO.nd rfl (Or.inl rfl) (pe_op J2v (pe_bmT PySem.F.slot_tuple_index PySem.F.type_tuple_index mt_indexT (pv 0) (J0 (pe_op J3d (Je J7 (by rfl) T.len PySem.boot_len (J0 (pv 0) J6)) Jb) J6)) Jb))
      (J8 (Jv (pe_op op_catT (pe_op op_catT (J1j sl_tup (pv 0) J3p (J1n (pv 2))) (pe_tup (J0 (pv 1) J6))) (J1j sl_tup (pv 0) (J1n (pv 2)) (J1n (pe_un J39 Jb)))))))), ?_⟩
    have ll := J13 os
    have hb := J1x io t h2
    have hz : ∀ n : Nat, n ≤ 100 → n ≤ sizeLine := fun n h => Nat.le_of_lt (Jz (by omega))
    have e1 : ((nV os).length : Int) - 1 = ((os.length - 1 : Nat) : Int) := by rw [ll]; omega
    refine ⟨_, rfl, _, rfl, p, _, _, _, rfl, rfl, SqT.of hp, J2a (by omega), ?_⟩
    refine ⟨_, rfl, ⟨p, _, rfl, hp⟩, _, rfl, p, _, rfl, .inr (SqT.of hp), _, _, rfl, rfl, p, natI os, ((nV os).length : Int) - 1, rfl, rfl, hp, (by rw [e1]; exact mem_nat (io.mem (by omega))), _, _, rfl, rfl, ?_⟩
    rw [e1, idx_nat]
    obtain ⟨s, es⟩ : ∃ s, s = os.idxOf (os.length - 1) := ⟨_, rfl⟩
    unfold overO at k
    rw [← es] at hb k ⊢
    have e2 : (s : Int) + 1 = ((s + 1 : Nat) : Int) := by omega
    have ct : cutV (nV os) none (some ((s : Int) + 1)) = nV (os.take (s + 1)) := by rw [e2]; exact J2s _ _ (by omega)
    have cm : cutV (nV os) (some ((s : Int) + 1)) (some (-1)) = nV ((os.drop (s + 1)).take (os.length - 1 - (s + 1))) := by rw [e2]; exact cut_mid _ _ (by omega) (by omega)
    refine ⟨_, rfl, _, rfl, _, rfl, p, _, rfl, SqT.of hp, ?_, fun a ha => ?_⟩
    · rw [ll, e2, HT.sIx_nat]; omega
    rw [ct]
    have s1 := J4 (o := .tup (nV (os.take (s + 1)))) ha
    refine ⟨_, rfl, (by show 1 ≤ sizeLine; decide), fun b hb' => ?_⟩
    have s2 := s1.trans (J4 (o := .tup [V.int ((os.getD (os.length - 1) 0 : Nat) : Int)]) hb')
    have ha2 := J4 (o := .tup [V.int ((os.getD (os.length - 1) 0 : Nat) : Int)]) hb' a _ upd_same
    refine ⟨a, b, _, _, rfl, rfl, SqT.of ha2, SqT.of upd_same, nV_ne ?_, ?_, fun z => ?_, fun _ c hc => ?_⟩
    · intro z
      have := congrArg List.length z
      rw [List.length_take, List.length_nil] at this
      omega
    · rw [J13, List.length_take]; exact hz _ (by show min (s + 1) os.length + 1 ≤ 100; omega)
    · cases z
    have s3 := s2.trans (J4 (o := .tup (nV (os.take (s + 1)) ++ [V.int ((os.getD (os.length - 1) 0 : Nat) : Int)])) hc)
    refine ⟨_, rfl, _, rfl, _, rfl, _, rfl, _, rfl, p, _, rfl, SqT.of (s3 _ _ hp), ?_, fun e he => ?_⟩
    · rw [ll, e2, HT.sIx_nat]; omega
    rw [cm]
    have s4 := s3.trans (J4 (o := .tup (nV ((os.drop (s + 1)).take (os.length - 1 - (s + 1))))) he)
    have hc4 := J4 (o := .tup (nV ((os.drop (s + 1)).take (os.length - 1 - (s + 1))))) he c _ upd_same
    have eo : nV (os.take (s + 1)) ++ [V.int ((os.getD (os.length - 1) 0 : Nat) : Int)] = nV (os.take (s + 1) ++ [os.getD (os.length - 1) 0]) := by rw [nV_app]; rfl
    have hc5 := hc4.trans (congrArg (fun z => some (HO.tup z)) eo)
    refine ⟨c, e, _, _, rfl, rfl, SqT.of hc5, SqT.of upd_same, nV_ne (by simp), ?_, fun z => ?_, fun _ g hg => ?_⟩
    · rw [J13, J13, List.length_append, List.length_take, List.length_take, List.length_drop]
      exact hz _ (by show min (s + 1) os.length + 1 + min (os.length - 1 - (s + 1)) (os.length - (s + 1)) ≤ 100; omega)
    · refine k c _ s4 (hc5.trans ?_)
      rw [nV_nil z, List.append_nil]
    · refine k g _ (s4.trans (J4 hg)) ?_
      rw [upd_same, nV_app (_ ++ _)]
def spNumU:Sp:=fun vs H Q _=>∃ (p:Addr) (os:List Nat) (j:Nat),vs=[.ref p,.int (j:Nat)]∧H p=some (.tup (nV os))∧1≤os.length∧Q (.int (numU os.length (os.getD (os.length - 1) 0) j:Nat)) H
theorem scNumU:FnScope ["order","piece","last"] ["order","piece"] (Ja sNumU):=⟨rfl,rfl,rfl,by decide +kernel,rfl,by decide +kernel,by decide +kernel⟩
theorem ok_numU {f   : Addr} {fd  : FuncData}  (F : Fun K "number_under" "number_under" sNumU f fd) (T : TxtR mg)
 :
    FnOk P w K mg base CX0 1 f fd ["order", "piece"] spNumU := by
  refine F.ok scNumU (fun vs H Q E h => ?_) (fun cdv A outer s H vs Q E hr h => ?_)
  · obtain ⟨p, os, j, rfl, _⟩ := h
    rfl
  · obtain ⟨p, os, j, rfl, hp, h1, k⟩ := h
    refine ⟨_, (J2 (Jj (i := 2) scNumU.nd rfl (Or.inl rfl) (pe_ix ix_tup (pv 0) (pe_un J39 Jb) (fun _ _ => rfl)))
      (J2 (ps_if (Jp op_le (pv 1) (pv 2) (Jw _)) (J8 (Jv (pv 1))) Ju)
      (J8 (Jv (pe_ifExp (Jp op_eq (pv 1) (pe_op J3d (Je J7 (by rfl) T.len PySem.boot_len (J0 (pv 0) J6)) Jb) (Jw _)) (pe_op J2v (pv 2) Jb) (pe_op J2v (pv 1) Jb)))))), ?_⟩
    have ll := J13 os
    refine ⟨_, rfl, _, rfl, p, _, _, _, rfl, rfl, SqT.of hp, J2a h1, ?_⟩
    unfold numU at k
    refine ⟨_, rfl, _, rfl, _, _, rfl, rfl, _, rfl, ?_⟩
    by_cases c : j ≤ os.getD (os.length - 1) 0
    · rw [if_pos c] at k
      exact iteDT (by omega) ⟨_, rfl, k⟩
    rw [if_neg c] at k
    refine iteD (by omega) ?_
    refine ⟨_, rfl, _, rfl, p, _, rfl, .inr (SqT.of hp), _, _, rfl, rfl, rfl, _, rfl, ?_⟩
    by_cases c2 : j = os.length - 1
    · rw [if_pos c2] at k
      refine iteDT (by rw [ll]; congr 1; omega) ?_
      exact ⟨_, rfl, _, _, rfl, rfl, k⟩
    · rw [if_neg c2] at k
      refine iteD (vint_ne (by rw [ll]; omega)) ?_
      exact ⟨_, rfl, _, _, rfl, rfl, k⟩
def spLedU:Sp:=fun vs H Q _=>∃ (p:Addr) (os:List Nat),vs=[.ref p]∧H p=some (.tup (nV os))∧IsO os∧2≤os.length∧os.length≤24∧Tight os∧∀ l H',Same H H'→H' l=some (.tup (nV (J2d os)))→Q (.ref l) H'
theorem scLedU:FnScope ["order"] ["order"] (Ja sLedU):=⟨rfl,rfl,rfl,by decide +kernel,rfl,by decide +kernel,by decide +kernel⟩
theorem ok_ledU {f fNU :Addr} {fd fdNU:FuncData}  (F:Fun K "led_under" "led_under" sLedU f fd) (T:TxtR mg)
  (GNU:FnOk P w K mg base CX0 1 fNU fdNU ["order","piece"] spNumU) (bNU:Binds K fdNU ["order","piece"] []) (mNU:mg "number_under"=some (.ref fNU)) (kNU:PySem.W.keepIn K (.ref fNU)=true) :
  FnOk P w K mg base CX0 2 f fd ["order"] spLedU:=by
 refine F.ok scLedU (fun vs H Q E h=>?_) (fun cdv A outer s H vs Q E hr h=>?_)
 ·obtain ⟨p,os,rfl,_⟩:=h
  rfl
 ·obtain ⟨p,os,rfl,hp,io,h2,h24,t,k⟩:=h
  have hr1:Room 1 _:=hr.mono (by decide)
  refine ⟨_,(J8 (Jv (Jg J1a (by rfl) T.tuple PyProof.Rows.boot_tuple (J0 (pe_lc (caps:=["order"]) (js:=[0]) rfl (pi_tup (pv 0)) rfl (fun _ _ _ _=>pts_nil) (fun C fp s H=>(Jh GNU hr1 rfl mNU kNU bNU .nil pass0 (J0 (pv 1) (J0 (pv 0) J6)))) (by decide +kernel) (by decide +kernel) (by decide +kernel) (by intro p hp;simp only [List.mem_cons,List.not_mem_nil,or_false] at hp;rcases hp with rfl;rfl)) J6)))),?_⟩
  refine ⟨_,rfl,p,rfl,⟨_,SqT.of hp⟩,fun d hd=>lc_tup (fun (j:Nat)=>V.int (j:Int)) os (fun _=>true) (fun (j:Nat)=>V.int (numU os.length (os.getD (os.length - 1) 0) j:Nat)) (by rw [← nV_eq];exact SqT.of hp) (by omega) hd
    (fun j _ H2 Qt _ k=>k H2 (Same.refl _)) (fun j hj H2 Qe _ s2 ke=>?_) (fun H2 s2 hd2=>?_)⟩
  ·exact ⟨_,rfl,_,rfl,p,os,j,rfl,s2 _ _ hp,by omega,ke _ (Same.refl _)⟩
  ·rw [J2p] at hd2
   refine J18 (.inl hd2) fun l H3 s3 hl=>k l _ (s2.trans s3) ?_
   rw [hl]
   unfold J2d
   rw [nV_eq,List.map_map];rfl
end
end R62
namespace R62
open PySem L2 Rl
section
variable {P:Program} {w:World} {K:PySem.W.Frag} {mg:Str→Option Value} {base:Heap}
def keyO (o:List Nat):List Key:=o.map fun (x:Nat)=>(Sum.inl (x:Int):Key)
theorem J23 (o:List Nat):(keyO o).map kV=nV o:=by rw [nV_eq];unfold keyO;rw [List.map_map];rfl
theorem J4i {a b:List Nat} (h:keyO a=keyO b):a=b:=by
 unfold keyO at h
 exact (List.map_inj_right fun x y e=>by cases e;rfl).mp h
structure KeysO (n:Nat) (kvs:List (List Key × V)) (ks:List (List Nat)):Prop where
 eq:kvs.map (·.1)=ks.map keyO
 nd:ks.Nodup
 ok:∀ o∈ks,OkO n o
theorem J25 {kvs:List (List Key × V)} {k:List Key} (h:k ∉ kvs.map (·.1)):valV kvs k=none:=by
 unfold valV
 rw [List.find?_eq_none.mpr fun p hp q=>h (List.mem_map.mpr ⟨p,hp,of_decide_eq_true q⟩)];rfl
theorem J24 {kvs:List (List Key × V)} {k:List Key} (h:k∈kvs.map (·.1)):(valV kvs k).isSome=true:=by
 unfold valV
 rw [Option.isSome_map,List.find?_isSome]
 obtain ⟨p,hp,e⟩:=List.mem_map.mp h
 exact ⟨p,hp,decide_eq_true e⟩
theorem putK_new {kvs:List (List Key × V)} {k:List Key} {v:V} (h:k ∉ kvs.map (·.1)):putK kvs k v=kvs ++ [(k,v)]:=by
 unfold putK
 rw [if_neg]
 intro q
 rw [List.any_eq_true] at q
 obtain ⟨p,hp,e⟩:=q
 exact h (List.mem_map.mpr ⟨p,hp,of_decide_eq_true e⟩)
theorem KeysO.in_ {n:Nat} {kvs:List (List Key × V)} {ks:List (List Nat)} (h:KeysO n kvs ks) {o:List Nat}:keyO o∈kvs.map (·.1)↔o∈ks:=by
 rw [h.eq]
 constructor
 ·intro q
  obtain ⟨z,hz,e⟩:=List.mem_map.mp q
  exact J4i e ▸ hz
 ·intro q
  exact List.mem_map.mpr ⟨o,q,rfl⟩
theorem KeysO.len {n:Nat} {kvs:List (List Key × V)} {ks:List (List Nat)} (h:KeysO n kvs ks):kvs.length=ks.length:=by
 have:=congrArg List.length h.eq
 rwa [List.length_map,List.length_map] at this
theorem KeysO.put {n:Nat} {kvs:List (List Key × V)} {ks:List (List Nat)} (h:KeysO n kvs ks) {o:List Nat} (ho:OkO n o) (hn:o ∉ ks) (v:V):KeysO n (putK kvs (keyO o) v) (ks ++ [o]):=by
 rw [putK_new fun q=>hn (h.in_.mp q)]
 refine ⟨by rw [List.map_append,List.map_append,h.eq];rfl,?_,fun z hz=>?_⟩
 ·rw [List.nodup_append]
  refine ⟨h.nd,by simp,fun a ha b hb e=>?_⟩
  rw [List.mem_singleton.mp hb] at e
  exact hn (e ▸ ha)
 ·rcases List.mem_append.mp hz with q | q
  ·exact h.ok z q
  ·rw [List.mem_singleton.mp q];exact ho
def TupKeep (H H':Hp):Prop:=∀ b xs,H b=some (.tup xs)→H' b=some (.tup xs)
theorem TupKeep.of {H H':Hp} (s:Same H H'):TupKeep H H':=fun b xs e=>s _ _ e
theorem TupKeep.trans {H H1 H2:Hp} (a:TupKeep H H1) (b:TupKeep H1 H2):TupKeep H H2:=fun c xs e=>b _ _ (a _ _ e)
theorem TupKeep.lst {H:Hp} {l:Addr} {xs:List V} {o:HO} (h:H l=some (.lst xs)):TupKeep H (upd H l o):=fun b ys e=>by rw [Jd (ne_of e h (by intro z;cases z))];exact e
theorem TupKeep.dict {H:Hp} {l:Addr} {kvs:List (List Key × V)} {o:HO} (h:H l=some (.dT kvs)):TupKeep H (upd H l o):=fun b ys e=>by rw [Jd (ne_of e h (by intro z;cases z))];exact e
def RefsO (n:Nat) (H:Hp) (cs:List V):Prop:=∀ v∈cs,∃ c o,v=.ref c∧H c=some (.tup (nV o))∧OkO n o
theorem RefsO.keep {n:Nat} {H H':Hp} {cs:List V} (h:RefsO n H cs) (k:TupKeep H H'):RefsO n H' cs:=fun v hv=>by
 obtain ⟨c,o,e,hc,ok⟩:=h v hv
 exact ⟨c,o,e,k _ _ hc,ok⟩
def wS (w:Bool):Str:=if w=true then Str.ofString "over" else Str.ofString "under"
def PathV (Hx:Hp) (kvs:List (List Key × V)) (ks:List (List Nat)) (os:List Nat) (d:List Nat→Nat):Prop:=∀ o∈ks,o≠os→∃ (t c:Addr) (w:Bool) (p:List Nat),valV kvs (keyO o)=some (.ref t)∧Hx t=some (.tup [.str (wS w),.ref c])∧Hx c=some (.tup (nV p))∧p∈ks∧o=stepO w p∧d o=d p + 1
structure LvI (n L i:Nat) (os:List Nat) (Hx:Hp) (fs cs:List V) (kvs:List (List Key × V)) (ks:List (List Nat)) (d:List Nat→Nat):Prop where
 K:KeysO n kvs ks
 o:os∈ks
 d0:d os=0
 A:∀ o∈ks,d o≤L + 1
 B:∀ o∈ks,d o < L→Clo ks d o
 C:∀ o∈ks,d o=L→Clo ks d o∨∃ j c,i≤j∧fs[j]?=some (.ref c)∧Hx c=some (.tup (nV o))
 D:∀ o∈ks,d o=L + 1→∃ c,V.ref c∈cs∧Hx c=some (.tup (nV o))
 F:∀ v∈fs,∃ c o,v=.ref c∧Hx c=some (.tup (nV o))∧OkO n o∧o∈ks∧d o=L
 G:∀ v∈cs,∃ c o,v=.ref c∧Hx c=some (.tup (nV o))∧OkO n o∧o∈ks∧d o=L + 1
 P:PathV Hx kvs ks os d
theorem LvI.keep {n L i:Nat} {os:List Nat} {Hx Hy:Hp} {fs cs:List V} {kvs:List (List Key × V)} {ks:List (List Nat)} {d:List Nat→Nat} (h:LvI n L i os Hx fs cs kvs ks d) (tk:TupKeep Hx Hy):LvI n L i os Hy fs cs kvs ks d where
 K:=h.K
 o:=h.o
 d0:=h.d0
 A:=h.A
 B:=h.B
 C o ho e:=(h.C o ho e).elim .inl fun ⟨j,c,h1,h2,h3⟩=>.inr ⟨j,c,h1,h2,tk _ _ h3⟩
 D o ho e:=let ⟨c,h1,h2⟩:=h.D o ho e;⟨c,h1,tk _ _ h2⟩
 F v hv:=let ⟨c,o,h1,h2,h3⟩:=h.F v hv;⟨c,o,h1,tk _ _ h2,h3⟩
 G v hv:=let ⟨c,o,h1,h2,h3⟩:=h.G v hv;⟨c,o,h1,tk _ _ h2,h3⟩
 P o ho e:=let ⟨t,c,w,p,h1,h2,h3,h4⟩:=h.P o ho e;⟨t,c,w,p,h1,tk _ _ h2,tk _ _ h3,h4⟩
theorem LvI.add {n L i:Nat} {os o oo:List Nat} {Hx:Hp} {fs cs:List V} {kvs:List (List Key × V)} {ks:List (List Nat)} {d:List Nat→Nat} {c aa vt:Addr} {w:Bool} (h:LvI n L i os Hx fs cs kvs ks d) (hn:oo ∉ ks) (ho:o∈ks) (hL:d o=L) (e:oo=stepO w o) (ok:OkO n oo)
  (hc:Hx c=some (.tup (nV o))) (ha:Hx aa=some (.tup (nV oo))) (hv:Hx vt=some (.tup [.str (wS w),.ref c])):LvI n L i os Hx fs (cs ++ [.ref aa]) (putK kvs (keyO oo) (.ref vt)) (ks ++ [oo]) (setD d oo (L + 1)):=by
 have sp:∀ x,x∈ks ++ [oo]→x∈ks∨x=oo:=fun x hx=>(List.mem_append.mp hx).imp id List.mem_singleton.mp
 refine ⟨h.K.put ok hn _,List.mem_append_left _ h.o,by rw [Jm hn h.o];exact h.d0,fun x hx=>?_,fun x hx hd=>?_,fun x hx hd=>?_,fun x hx hd=>?_,fun v hv'=>?_,fun v hv'=>?_,fun x hx ne=>?_⟩
 ·rcases sp x hx with z | rfl
  ·rw [Jm hn z];exact h.A x z
  ·rw [J1f];exact Nat.le_refl _
 ·rcases sp x hx with z | rfl
  ·rw [Jm hn z] at hd;exact (h.B x z hd).add z hn
  ·rw [J1f] at hd;omega
 ·rcases sp x hx with z | rfl
  ·rw [Jm hn z] at hd
   exact (h.C x z hd).imp (fun q=>q.add z hn) id
  ·rw [J1f] at hd;omega
 ·rcases sp x hx with z | rfl
  ·rw [Jm hn z] at hd
   obtain ⟨c',q1,q2⟩:=h.D x z hd
   exact ⟨c',List.mem_append_left _ q1,q2⟩
  ·exact ⟨aa,List.mem_append_right _ (List.mem_singleton_self _),ha⟩
 ·obtain ⟨c',x,e1,e2,e3,e4,e5⟩:=h.F v hv'
  exact ⟨c',x,e1,e2,e3,List.mem_append_left _ e4,by rw [Jm hn e4];exact e5⟩
 ·rcases List.mem_append.mp hv' with q | q
  ·obtain ⟨c',x,e1,e2,e3,e4,e5⟩:=h.G v q
   exact ⟨c',x,e1,e2,e3,List.mem_append_left _ e4,by rw [Jm hn e4];exact e5⟩
  ·exact ⟨aa,oo,List.mem_singleton.mp q,ha,ok,List.mem_append_right _ (List.mem_singleton_self _),J1f⟩
 ·rcases sp x hx with z | rfl
  ·obtain ⟨t,c',v,p,e1,e2,e3,e4,e5,e6⟩:=h.P x z ne
   refine ⟨t,c',v,p,?_,e2,e3,List.mem_append_left _ e4,e5,by rw [Jm hn z,Jm hn e4];exact e6⟩
   rw [J38,if_neg (fun q=>hn ((show x=oo from J4i q) ▸ z))]
   exact e1
  ·exact ⟨vt,c,w,o,by rw [J38,if_pos rfl],hv,hc,List.mem_append_left _ ho,e,by rw [J1f,Jm hn ho,hL]⟩
structure WSg (H:Hp) (d cl:Addr) (c0:Nat) (Hx:Hp) (cs:List V) (kvs:List (List Key × V)) (ks:List (List Nat)):Prop where
 hd:Hx d=some (.dT kvs)
 hc:Hx cl=some (.lst cs)
 l:ks.length=c0 + cs.length
 s:Same H Hx
theorem WSg.same {H Hx Hy:Hp} {c0:Nat} {d cl:Addr} {cs:List V} {kvs:List (List Key × V)} {ks:List (List Nat)} (h:WSg H d cl c0 Hx cs kvs ks) (s:Same Hx Hy):WSg H d cl c0 Hy cs kvs ks:=⟨s _ _ h.hd,s _ _ h.hc,h.l,h.s.trans s⟩
theorem WSg.add {H Hx:Hp} {c0:Nat} {oo:List Nat} {d cl aa:Addr} {cs:List V} {kvs:List (List Key × V)} {ks:List (List Nat)} (h:WSg H d cl c0 Hx cs kvs ks) (nd:H d=none) (nc:H cl=none) (v:V) :
  WSg H d cl c0 (upd (upd Hx d (.dT (putK kvs (keyO oo) v))) cl (.lst (cs ++ [.ref aa]))) (cs ++ [.ref aa]) (putK kvs (keyO oo) v) (ks ++ [oo])∧TupKeep Hx (upd (upd Hx d (.dT (putK kvs (keyO oo) v))) cl (.lst (cs ++ [.ref aa]))):=by
 have ne:d≠cl:=ne_of h.hd h.hc (by intro z;cases z)
 have hc1:upd Hx d (.dT (putK kvs (keyO oo) v)) cl=some (.lst cs):=by rw [Jd ne.symm];exact h.hc
 refine ⟨⟨by rw [Jd ne];exact upd_same,upd_same,by rw [List.length_append,List.length_append,h.l];simp only [List.length_cons,List.length_nil];omega,fun b o e=>?_⟩,(TupKeep.dict h.hd).trans (TupKeep.lst hc1)⟩
 rw [Jd (J9 e nc),Jd (J9 e nd)]
 exact h.s _ _ e
def spWordsG:Sp:=fun vs H Q _=>∃ (p:Addr) (os:List Nat) (n:Nat),vs=[.ref p]∧H p=some (.tup (nV os))∧OkO n os∧2≤n∧n≤7∧
 ∀ d H' kvs ks dist,Same H H'→H' d=some (.dT kvs)→KeysO n kvs ks→Fam os ks dist→PathV H' kvs ks os dist→Q (.ref d) H'
theorem scWordsF:FnScope ["order","found","fresh","coming","one","word","reached"] ["order"] (Ja sWordsF):=⟨rfl,rfl,rfl,by decide +kernel,rfl,by decide +kernel,by decide +kernel⟩
theorem ok_wordsG {f fLO fLU :Addr} {fd fdLO fdLU:FuncData}  (F:Fun K "words_from" "words_from" sWordsF f fd)
  (GLO:FnOk P w K mg base CX0 1 fLO fdLO ["order"] spLedO) (bLO:Binds K fdLO ["order"] []) (mLO:mg "led_over"=some (.ref fLO)) (kLO:PySem.W.keepIn K (.ref fLO)=true)
  (GLU:FnOk P w K mg base CX0 2 fLU fdLU ["order"] spLedU) (bLU:Binds K fdLU ["order"] []) (mLU:mg "led_under"=some (.ref fLU)) (kLU:PySem.W.keepIn K (.ref fLU)=true) :
  FnOk P w K mg base CX0 3 f fd ["order"] spWordsG:=by
 refine F.ok scWordsF (fun vs H Q E h=>?_) (fun cdv A outer s H vs Q E hr h=>?_)
 ·obtain ⟨p,os,n,rfl,_⟩:=h
  rfl
 ·obtain ⟨p,os,n,rfl,hp,ok,n2,n7,k⟩:=h
  have hr1:Room 1 _:=hr.mono (by decide)
  have hr2:Room 2 _:=hr.mono (by decide)
  have hu1:=Nat.lt_of_le_of_lt (Nat.add_le_add_left (by decide:1≤64) _) hr.units
  refine ⟨_,(J2 (Jj (i:=1) scWordsF.nd rfl (Or.inl rfl) (pe_disp1 hu1 (pv 0) pe_non))
   (J2 (Jj (i:=2) scWordsF.nd rfl (Or.inl rfl) (J2j (J0 (pv 0) J6)))
   (J2 (J47 PassesOwn.never (pt_truth (pv 2) (fun _=>rfl))
    (J2 (Jj (i:=3) scWordsF.nd rfl (Or.inl rfl) (J2j J6))
    (J2 (J49 PassesOwn.never rfl (J3q (pv 2)) (J1o (i:=4) scWordsF.nd rfl (Or.inl rfl))
     (J8 (J49 PassesOwn.never rfl (pi_tup (pe_tup (J0 (pe_tup (J0 pe_str (J0 (Jh GLO hr1 rfl mLO kLO bLO .nil pass0 (J0 (pv 4) J6)) J6))) (J0 (pe_tup (J0 pe_str (J0 (Jh GLU hr2 rfl mLU kLU bLU .nil pass0 (J0 (pv 4) J6)) J6))) J6)))) (pg_tup rfl (pgs_cons (J1o (i:=5) scWordsF.nd rfl (Or.inl rfl)) (pgs_cons (J1o (i:=6) scWordsF.nd rfl (Or.inl rfl)) pgs_nil)))
      (J8 (ps_if (pt_cmp (J26 hu1 (pv 6) (pv 1))) (J2 (ps_dput hu1 (pv 1) (pv 6) (pe_tup (J0 (pv 5) (J0 (pv 4) J6))) rfl)
       (J8 (J31 (pe_bm PySem.F.plainAttrs_list PySem.F.slot_list_append PySem.F.type_list_append J28 (pv 3) (J0 (pv 6) J6))))) Ju)))))
    (J8 (Jj (i:=2) scWordsF.nd rfl (Or.inl rfl) (pv 3))))))
   (J8 (Jv (pv 1)))))),?_⟩
  have hz:∀ m:Nat,m≤2000000→m < sizeLine:=fun m h=>by rw [sizeLine_eq];omega
  intro d hd
  have s1:=J4 (o:=.dT []) hd
  refine ⟨_,rfl,p,keyO os,rfl,(by rw [J23];exact s1 _ _ hp),upd_same,?_⟩
  have sd:Same H (upd (upd H d (.dT [])) d (.dT (putK [] (keyO os) .non))):=fun b o e=>by rw [Jd (J9 e hd)];exact s1 _ _ e
  have hd2:upd (upd H d (.dT [])) d (.dT (putK [] (keyO os) .non)) d=some (.dT (putK [] (keyO os) .non)):=upd_same
  generalize upd (upd H d (.dT [])) d (.dT (putK [] (keyO os) .non))=H2 at *
  have K0:KeysO n (putK [] (keyO os) .non) [os]:=⟨rfl,by simp,fun o ho=>by rw [List.mem_singleton.mp ho];exact ok⟩
  refine ⟨_,rfl,(by show 1≤sizeLine;decide),fun fr hfr=>?_⟩
  have s3:=J4 (o:=.lst [V.ref p]) hfr
  have hp3:=s3 _ _ (sd _ _ hp)
  refine ⟨fun m σ Hw=>∃ (v3 v4 v5 v6:Option V) (fr:Addr) (fs:List V) (kvs:List (List Key × V)) (ks:List (List Nat)) (dist:List Nat→Nat) (L:Nat),σ=[some (.ref p),some (.ref d),some (.ref fr),v3,v4,v5,v6]∧Hw d=some (.dT kvs)∧Hw fr=some (.lst fs)∧LvI n L 0 os Hw fs [] kvs ks dist∧Same H Hw∧m=2 * (823544 - ks.length) + (if fs.isEmpty=true then 0 else 1),
   ⟨_,none,none,none,none,fr,[.ref p],_,[os],fun _=>0,0,rfl,s3 _ _ hd2,upd_same,⟨K0,List.mem_singleton_self _,rfl,fun _ _=>Nat.zero_le _,fun _ _ q=>(Nat.not_lt_zero _ q).elim,fun o ho _=>.inr ⟨0,p,Nat.le_refl _,rfl,(by rw [List.mem_singleton.mp ho];exact hp3)⟩,fun _ _ q=>(by cases q),fun v hv=>⟨p,os,List.mem_singleton.mp hv,hp3,ok,List.mem_singleton_self _,rfl⟩,fun v hv=>(by cases hv),fun o ho ne=>(ne (List.mem_singleton.mp ho)).elim⟩,sd.trans s3,rfl⟩,?_⟩
  rintro m σ Hw ⟨v3,v4,v5,v6,fr,fs,kvs,ks,dist,L,rfl,hd1,hf,LI,sw,rfl⟩
  refine ⟨_,rfl,!fs.isEmpty,.inl ⟨fs,SqL.of hf,rfl⟩,?_⟩
  cases hfs:fs.isEmpty with
  | true =>
   refine iteF ?_
   have fs0:fs=[]:=List.isEmpty_iff.mp hfs
   refine ⟨_,rfl,k d Hw kvs ks dist sw hd1 LI.K ⟨LI.o,LI.d0,fun o ho=>?_,fun o ho ne=>?_⟩ LI.P⟩
   ·have hA:dist o < L∨dist o=L∨dist o=L + 1:=by have:=LI.A o ho;omega
    rcases hA with q | q | q
    ·exact LI.B o ho q
    ·rcases LI.C o ho q with z | ⟨j,c,_,z,_⟩
     ·exact z
     ·rw [fs0] at z;cases z
    ·obtain ⟨c,z,_⟩:=LI.D o ho q
     cases z
   ·obtain ⟨t,c,w,p',_,_,_,e4,e5,e6⟩:=LI.P o ho ne
    exact ⟨p',e4,w,e5,e6⟩
  | false =>
   refine iteT ?_
   refine ⟨fun σ' H'=>∃ (v4 v5 v6:Option V) (cl:Addr) (cs:List V) (kvs':List (List Key × V)) (ks':List (List Nat)) (dist':List Nat→Nat),σ'=[some (.ref p),some (.ref d),some (.ref cl),some (.ref cl),v4,v5,v6]∧WSg H d cl ks.length H' cs kvs' ks'∧LvI n L fs.length os H' fs cs kvs' ks' dist',?_,?_⟩
   ·rintro σ' H' ⟨v4,v5,v6,cl,cs,kvs',ks',dist',rfl,W,I⟩
    refine ⟨_,?_,_,v4,v5,v6,cl,cs,kvs',ks',dist',L + 1,rfl,W.hd,W.hc,⟨I.K,I.o,I.d0,fun o ho=>Nat.le_succ_of_le (I.A o ho),fun o ho q=>?_,fun o ho q=>?_,fun o ho q=>?_,I.G,fun v hv=>(by cases hv),I.P⟩,W.s,rfl⟩
    ·have few:=J2o n7 I.K.nd I.K.ok
     have hl:=W.l
     cases hcs:cs.isEmpty with
     | true =>
      have:cs.length=0:=by rw [List.isEmpty_iff.mp hcs];rfl
      rw [if_pos rfl,if_neg Bool.false_ne_true]
      omega
     | false =>
      have:cs.length≠0:=fun z=>by rw [List.length_eq_zero_iff.mp z] at hcs;cases hcs
      rw [if_neg Bool.false_ne_true]
      omega
    ·by_cases z:dist' o=L
     ·rcases I.C o ho z with q' | ⟨j,c,h1,h2,_⟩
      ·exact q'
      ·rw [List.getElem?_eq_none h1] at h2;cases h2
     ·exact I.B o ho (by omega)
    ·obtain ⟨c,h1,h2⟩:=I.D o ho q
     obtain ⟨j,hj,e⟩:=List.getElem_of_mem h1
     exact .inr ⟨j,c,Nat.zero_le _,by rw [List.getElem?_eq_getElem hj,e],h2⟩
    ·have:=I.A o ho;omega
   refine ⟨Nat.zero_le _,fun cl hcl=>?_⟩
   have s4:=J4 (o:=.lst []) hcl
   have nc:H cl=none:=by
    cases e:H cl with
    | none=>rfl
    | some o=>rw [sw _ _ e] at hcl;cases hcl
   have W0:WSg H d cl ks.length (upd Hw cl (.lst [])) [] kvs ks:=⟨s4 _ _ hd1,upd_same,by simp,sw.trans s4⟩
   have hf4:=s4 _ _ hf
   have hcf:cl≠fr:=(J9 hf hcl).symm
   refine ⟨_,rfl,fr,rfl,⟨_,SqL.of hf4⟩,J3h (K:=K) (a:=fr) (xs:=fs) (fun i σ Hx=>∃ (v4 v5 v6:Option V) (cs:List V) (kvs':List (List Key × V)) (ks':List (List Nat)) (dist':List Nat→Nat),σ=[some (.ref p),some (.ref d),some (.ref fr),some (.ref cl),v4,v5,v6]∧WSg H d cl ks.length Hx cs kvs' ks'∧LvI n L i os Hx fs cs kvs' ks' dist'∧Hx fr=some (.lst fs))
    ⟨_,_,_,[],kvs,ks,dist,rfl,W0,LI.keep (TupKeep.of s4),hf4⟩ (fun i σ Hx _ ⟨_,_,_,_,_,_,_,_,_,_,e⟩=>SqL.of e) ?_ ?_⟩
   ·rintro i v σ Hx hv ⟨v4,v5,v6,cs,kvs',ks',dist',rfl,W,I,hfx⟩
    obtain ⟨c,o,rfl,hc,oko,ho,hoL⟩:=I.F _ (List.mem_of_getElem? hv)
    have lo:=oko.len
    refine ⟨_,rfl,c,o,rfl,hc,oko.io,by omega,by omega,oko.t,fun a1 H5 s5 ha1=>?_⟩
    refine ⟨(by show 2≤sizeLine;decide),fun t1 ht1=>?_⟩
    have s6:=J4 (o:=.tup [.str (Str.ofString "over"),.ref a1]) ht1
    have s56:=s5.trans s6
    refine ⟨_,rfl,c,o,rfl,s56 _ _ hc,oko.io,by omega,by omega,oko.t,fun a2 H7 s7 ha2=>?_⟩
    refine ⟨(by show 2≤sizeLine;decide),fun t2 ht2=>?_⟩
    have s8:=J4 (o:=.tup [.str (Str.ofString "under"),.ref a2]) ht2
    refine ⟨(by show 2≤sizeLine;decide),fun tt htt=>?_⟩
    have s9:=J4 (o:=.tup [.ref t1,.ref t2]) htt
    have s59:=s56.trans (s7.trans (s8.trans s9))
    have s79:=s7.trans (s8.trans s9)
    have e1:=s79 t1 _ upd_same
    have e2:=s9 t2 _ upd_same
    have f1:=s79 _ _ (s6 _ _ ha1)
    have f2:=s9 _ _ (s8 _ _ ha2)
    have et:upd (upd H7 t2 (.tup [.str (Str.ofString "under"),.ref a2])) tt (.tup [.ref t1,.ref t2]) tt=some (.tup [.ref t1,.ref t2]):=upd_same
    have Wz:=W.same s59
    have Iz:=I.keep (TupKeep.of s59)
    have hfz:=s59 _ _ hfx
    have hcz:=s59 _ _ hc
    generalize upd (upd H7 t2 (.tup [.str (Str.ofString "under"),.ref a2])) tt (.tup [.ref t1,.ref t2])=Hz at *
    refine ⟨tt,rfl,⟨_,SqT.of et⟩,for_tup (K:=K) (a:=tt) (xs:=[.ref t1,.ref t2]) (fun j σ Hy=>∃ (v5 v6:Option V) (cs:List V) (kvs':List (List Key × V)) (ks':List (List Nat)) (dist':List Nat→Nat),σ=[some (.ref p),some (.ref d),some (.ref fr),some (.ref cl),some (.ref c),v5,v6]∧WSg H d cl ks.length Hy cs kvs' ks'∧LvI n L i os Hy fs cs kvs' ks' dist'∧Hy fr=some (.lst fs)∧TupKeep Hz Hy∧(o∈ks'∧dist' o=L)∧∀ w:Bool,(if w=true then 1 else 2)≤j→stepO w o∈ks'∧dist' (stepO w o)≤L + 1)
     ⟨_,_,cs,kvs',ks',dist',rfl,Wz,Iz,hfz,fun _ _ e=>e,⟨ho,hoL⟩,fun w hw=>by cases w <;> simp at hw⟩ (fun j σ Hy _ ⟨_,_,_,_,_,_,_,_,_,_,q,_⟩=>SqT.of (q _ _ et)) ?_ ?_⟩
    ·rintro j v σ Hy hv ⟨v5,v6,cs,kvs',ks',dist',rfl,Wy,Iy,hfy,tk,⟨hoy,hdy⟩,don⟩
     obtain ⟨t0,w0,aa,oo,rfl,ht0,haa,okk,eoo,hjw⟩:∃ t0 w0 aa oo,v=.ref t0∧Hy t0=some (.tup [.str (wS w0),.ref aa])∧Hy aa=some (.tup (nV oo))∧OkO n oo∧oo=stepO w0 o∧j + 1=(if w0=true then 1 else 2):=by
      rcases j with _ | _ | j
      ·cases hv
       exact ⟨t1,true,a1,_,rfl,tk _ _ e1,tk _ _ f1,oko.over n2,rfl,rfl⟩
      ·cases hv
       exact ⟨t2,false,a2,_,rfl,tk _ _ e2,tk _ _ f2,oko.under n2,rfl,rfl⟩
      ·cases hv
     have don':∀ {ks'':List (List Nat)} {d'':List Nat→Nat},(∀ x∈ks',x∈ks''∧d'' x=dist' x)→(oo∈ks''∧d'' oo≤L + 1)→∀ w:Bool,(if w=true then 1 else 2)≤j + 1→stepO w o∈ks''∧d'' (stepO w o)≤L + 1:=fun {ks'' d''} mono hoo w hw=>by
      by_cases z:w=w0
      ·subst z;rw [← eoo];exact hoo
      ·have:(if w=true then 1 else 2)≤j:=by
        cases w <;> cases w0 <;> simp at hw hjw z ⊢ <;> omega
       obtain ⟨q1,q2⟩:=don w this
       obtain ⟨q3,q4⟩:=mono _ q1
       exact ⟨q3,by rw [q4];exact q2⟩
     refine ⟨t0,_,rfl,SqT.of ht0,rfl,_,_,rfl,_,_,rfl,rfl,?_⟩
     refine ⟨_,rfl,_,rfl,d,_,rfl,DGet.t Wy.hd (by rw [J23];exact haa),_,rfl,?_⟩
     by_cases hin:oo∈ks'
     ·rw [J24 (Iy.K.in_.mpr hin)]
      exact iteF ⟨_,_,cs,kvs',ks',dist',rfl,Wy,Iy,hfy,tk,⟨hoy,hdy⟩,don' (fun x hx=>⟨hx,rfl⟩) ⟨hin,Iy.A _ hin⟩⟩
     ·rw [J25 fun q=>hin (Iy.K.in_.mp q)]
      refine iteT ?_
      refine ⟨_,rfl,_,rfl,(by show 2≤sizeLine;decide),fun vt hvt=>?_⟩
      have s10:=J4 (o:=.tup [.str (wS w0),.ref c]) hvt
      have W10:=Wy.same s10
      have I10:=Iy.keep (TupKeep.of s10)
      have few:=J2o n7 I10.K.nd I10.K.ok
      have kl:=I10.K.len
      have cl_:=W10.l
      have I11:=I10.add hin hoy hdy eoo okk (s10 _ _ (tk _ _ hcz)) (s10 _ _ haa) upd_same
      obtain ⟨W11,t11⟩:=W10.add (oo:=oo) (aa:=aa) hd nc (.ref vt)
      have ndc:d≠cl:=ne_of W10.hd W10.hc (by intro z;cases z)
      have nfd:fr≠d:=ne_of (s10 _ _ hfy) W10.hd (by intro z;cases z)
      refine ⟨_,rfl,_,rfl,d,_,rfl,DPut.t W10.hd (by rw [J23];exact s10 _ _ haa) (hz _ (by omega)),?_⟩
      have hc12:upd (upd Hy vt (.tup [.str (wS w0),.ref c])) d (.dT (putK kvs' (keyO oo) (.ref vt))) cl=some (.lst cs):=by rw [Jd ndc.symm];exact W10.hc
      refine ⟨_,rfl,.inl ⟨rfl,_,SqL.of hc12⟩,_,rfl,cl,cs,.ref aa,rfl,rfl,hc12,hz _ (by omega),?_⟩
      refine ⟨_,_,_,_,_,_,rfl,W11,I11.keep t11,?_,(tk.trans (TupKeep.of s10)).trans t11,⟨List.mem_append_left _ hoy,by rw [Jm hin hoy];exact hdy⟩,don' (fun x hx=>⟨List.mem_append_left _ hx,Jm hin hx⟩) ⟨List.mem_append_right _ (List.mem_singleton_self _),by rw [J1f];exact Nat.le_refl _⟩⟩
      rw [Jd hcf.symm,Jd nfd]
      exact s10 _ _ hfy
    ·rintro σ Hy ⟨v5,v6,cs,kvs',ks',dist',rfl,Wy,Iy,hfy,tk,⟨hoy,hdy⟩,don⟩
     refine ⟨_,_,_,cs,kvs',ks',dist',rfl,Wy,⟨Iy.K,Iy.o,Iy.d0,Iy.A,Iy.B,fun x hx hd=>?_,Iy.D,Iy.F,Iy.G,Iy.P⟩,hfy⟩
     rcases Iy.C x hx hd with q | ⟨j,c',h1,h2,h3⟩
     ·exact .inl q
     ·by_cases z:j=i
      ·left
       subst z
       have ec:c'=c:=by
        rw [hv] at h2
        cases h2;rfl
       subst ec
       have ex:nV x=nV o:=by
        rw [tk _ _ hcz] at h3
        exact (HO.tup.inj (Option.some.inj h3)).symm
       have ex:x=o:=J2l (J4j ex)
       subst ex
       intro w
       have:=don w (by cases w <;> simp)
       rw [hdy]
       exact this
      ·exact .inr ⟨j,c',by omega,h2,h3⟩
   ·rintro σ Hx ⟨v4,v5,v6,cs,kvs',ks',dist',rfl,W,I,hfx⟩
    exact ⟨_,rfl,_,_,_,cl,cs,kvs',ks',dist',rfl,W,I⟩
end
end R62
namespace R62
open PySem L2 Rl
section
variable {P:Program} {w:World} {K:PySem.W.Frag} {mg:Str→Option Value} {base:Heap}
theorem PathV.keep {Hx Hy:Hp} {kvs:List (List Key × V)} {ks:List (List Nat)} {os:List Nat} {d:List Nat→Nat} (h:PathV Hx kvs ks os d) (tk:TupKeep Hx Hy):PathV Hy kvs ks os d:=fun o ho e=>let ⟨t,c,w,p,h1,h2,h3,h4⟩:=h o ho e;⟨t,c,w,p,h1,tk _ _ h2,tk _ _ h3,h4⟩
abbrev sV (ws:List Bool):List V:=ws.map fun w=>V.str (wS w)
def spLedG (CB CLo:Addr):Sp:=fun vs H Q E=>∃ (p q:Addr) (os ot:List Nat) (n m:Nat),vs=[.ref p,.ref q]∧SqH H p (nV os)∧SqH H q (nV ot)∧OkO n os∧OkO m ot∧(2≤n∧n≤7)∧(2≤m∧m≤7)∧
 ∀ ks dist,Fam os ks dist→(ot ∉ ks→∀ H',Same H H'→Q .non H')∧(ot∈ks→∀ l H' ws,Same H H'→H' l=some (.lst (sV ws))→appW ws os=ot→ws.length=dist ot→Q (.ref l) H')
theorem scLed:FnScope ["one","two","start","reached","found","words"] ["one","two"] (Ja sLed):=⟨rfl,rfl,rfl,by decide +kernel,rfl,by decide +kernel,by decide +kernel⟩
theorem ok_ledG {f fOT fWF CB CLo:Addr} {fd fdOT fdWF:FuncData}  (F:Fun K "led" "led" sLed f fd)
  (GOT:FnOk P w K mg base (Exc1 P w) 3 fOT fdOT ["order"] (spToldO CB CLo)) (bOT:Binds K fdOT ["order"] []) (mOT:mg "order_told"=some (.ref fOT)) (kOT:PySem.W.keepIn K (.ref fOT)=true)
  (GWF:FnOk P w K mg base CX0 3 fWF fdWF ["order"] spWordsG) (bWF:Binds K fdWF ["order"] []) (mWF:mg "words_from"=some (.ref fWF)) (kWF:PySem.W.keepIn K (.ref fWF)=true) :
  FnOk P w K mg base (Exc1 P w) 4 f fd ["one","two"] (spLedG CB CLo):=by
 refine F.okX scLed (fun vs H Q E h=>?_) (fun cdv A outer s H vs Q E hr h=>?_)
 ·obtain ⟨p,q,os,ot,n,m,rfl,_⟩:=h
  rfl
 ·obtain ⟨p,q,os,ot,n,m,rfl,hp,hq,ok,okt,⟨n2,n7⟩,⟨m2,m7⟩,k⟩:=h
  have hr3:Room 3 _:=hr.mono (by decide)
  have hu:=hr.units0
  have hu1:=Nat.lt_of_le_of_lt (Nat.add_le_add_left (by decide:1≤64) _) hr.units
  refine ⟨_,(J2 (Jj (i:=2) scLed.nd rfl (Or.inl rfl) (Jh GOT hr3 rfl mOT kOT bOT .nil pass1 (J0 (pv 0) J6)))
   (J2 (Jj (i:=3) scLed.nd rfl (Or.inl rfl) (Jh GOT hr3 rfl mOT kOT bOT .nil pass1 (J0 (pv 1) J6)))
   (J2 (Jj (i:=4) scLed.nd rfl (Or.inl rfl) (Jh GWF hr3 rfl mWF kWF bWF .nil pass0 (J0 (pv 2) J6)))
   (J2 (ps_if (pt_cmp (J26 hu1 (pv 3) (pv 4))) (J8 (Jv pe_non)) Ju)
   (J2 (Jj (i:=5) scLed.nd rfl (Or.inl rfl) (J2j J6))
   (J2 (ps_nox (J47 PassesOwn.never (Jp (op_neT hu) (pv 3) (pv 2) (Jw _))
    (J2 (J31 (pe_bm PySem.F.plainAttrs_list PySem.F.slot_list_append PySem.F.type_list_append J28 (pv 5) (J0 (pe_ix ix_tup (pe_dget hu1 (pv 4) (pv 3) (fun _ _=>rfl)) Jb (fun _ _=>rfl)) J6)))
    (J8 (Jj (i:=3) scLed.nd rfl (Or.inl rfl) (pe_ix ix_tup (pe_dget hu1 (pv 4) (pv 3) (fun _ _=>rfl)) Jb (fun _ _=>rfl)))))))
   (J8 (Jv (pe_rev (pv 5) (pe_un J39 Jb)))))))))),?_⟩
  have ln:=ok.len
  have lm:=okt.len
  have g1:GoodX (natI os) os:=⟨rfl,ok.io,by omega,by omega,ok.t⟩
  have g2:GoodX (natI ot) ot:=⟨rfl,okt.io,by omega,by omega,okt.t⟩
  have hz:∀ m:Nat,m≤2000000→m < sizeLine:=fun m h=>by rw [sizeLine_eq];omega
  refine ⟨_,rfl,p,natI os,rfl,hp,by rw [J12];omega,fun os' e _ _ _ _ a1 H1 s1 ha1=>?_,fun z=>(g1.notBad z).elim,fun os' e io h2 h7 nt=>(g1.notLoose ⟨os',e,io,h2,h7,nt⟩).elim⟩
  obtain rfl:=J2l e
  refine ⟨_,rfl,q,natI ot,rfl,hq.same s1,by rw [J12];omega,fun ot' e _ _ _ _ a2 H2 s2 ha2=>?_,fun z=>(g2.notBad z).elim,fun os' e io h2 h7 nt=>(g2.notLoose ⟨os',e,io,h2,h7,nt⟩).elim⟩
  obtain rfl:=J2l e
  have s12:=s1.trans s2
  have ha1':=s2 _ _ ha1
  refine ⟨_,rfl,a1,os,n,rfl,ha1',ok,n2,n7,fun d H3 kvs ks dist s3 hd K3 Fm P3=>?_⟩
  have b1:=s3 _ _ ha1'
  have b2:=s3 _ _ ha2
  have s13:=s12.trans s3
  obtain ⟨kn,ky⟩:=k ks dist Fm
  refine ⟨_,rfl,_,rfl,d,_,rfl,DGet.t hd (by rw [J23];exact b2),_,rfl,?_⟩
  by_cases hin:ot ∉ ks
  ·rw [J25 fun z=>hin (K3.in_.mp z)]
   exact iteT (kn hin _ s13)
  have hin:ot∈ks:=Classical.not_not.mp hin
  rw [J24 (K3.in_.mpr hin)]
  refine iteF ?_
  have ky:=ky hin
  have few:=J2o n7 K3.nd K3.ok
  refine ⟨Nat.zero_le _,fun w hw=>?_⟩
  have s4:=J4 (o:=.lst []) hw
  refine ⟨fun μ σ Hw=>∃ (c:Addr) (o:List Nat) (ws:List Bool),σ=[some (.ref p),some (.ref q),some (.ref a1),some (.ref c),some (.ref d),some (.ref w)]∧H3 c=some (.tup (nV o))∧o∈ks∧Hw w=some (.lst (sV ws))∧appW ws.reverse o=ot∧ws.length + dist o=dist ot∧Same H3 Hw∧μ=dist o,⟨_,a2,ot,[],rfl,b2,hin,upd_same,rfl,by simp,s4,rfl⟩,?_⟩
  rintro μ σ Hw ⟨c,o,ws,rfl,hc,ho,hws,eap,el,sw,rfl⟩
  refine ⟨_,rfl,_,rfl,c,a1,_,_,rfl,rfl,SqT.of (sw _ _ hc),SqT.of (sw _ _ b1),Kin.ints _ _,_,rfl,?_⟩
  by_cases e:o=os
  ·subst e
   refine iteNS rfl ?_
   refine ⟨_,rfl,_,rfl,rfl,w,_,rfl,SqL.of hws,fun l hl=>?_⟩
   refine ky l _ ws.reverse (s13.trans (sw.trans (J4 hl))) ?_ eap (by rw [List.length_reverse];have:=Fm.d0;omega)
   rw [upd_same]
   exact congrArg (fun z=>some (HO.lst z)) (List.map_reverse ..).symm
  ·refine iteND (fun z=>e (J2l (J4j z))) ?_
   obtain ⟨t,c2,wd,pr,v1,v2,v3,v4,v5,v6⟩:=P3 o ho e
   have dg:DGet Hw d (.ref c) (some (.ref t)):=by rw [← v1];exact DGet.t (sw _ _ hd) (by rw [J23];exact sw _ _ hc)
   refine ⟨fun σ' H'=>∃ (c:Addr) (o':List Nat) (ws:List Bool),σ'=[some (.ref p),some (.ref q),some (.ref a1),some (.ref c),some (.ref d),some (.ref w)]∧H3 c=some (.tup (nV o'))∧o'∈ks∧H' w=some (.lst (sV ws))∧appW ws.reverse o'=ot∧ws.length + dist o'=dist ot∧Same H3 H'∧dist o' < dist o,?_,?_⟩
   ·rintro σ' H' ⟨c,o',ws,h1,h2,h3,h4,h5,h6,h7,h8⟩
    exact ⟨_,h8,c,o',ws,h1,h2,h3,h4,h5,h6,h7,rfl⟩
   refine ⟨_,rfl,.inl ⟨rfl,_,SqL.of hws⟩,_,rfl,_,rfl,d,_,rfl,dg,t,_,_,_,rfl,rfl,SqT.of (sw _ _ v2),J22 (j:=0) rfl,w,_,_,rfl,rfl,hws,?_,?_⟩
   ·have:=Fm.dlt hin
    show (sV ws).length < sizeLine
    rw [List.length_map]
    exact hz _ (by omega)
   have sw2:Same H3 (upd Hw w (.lst (sV ws ++ [V.str (wS wd)]))):=fun b u z=>by rw [Jd (J9 z hw)];exact sw _ _ z
   have dg2:DGet (upd Hw w (.lst (sV ws ++ [V.str (wS wd)]))) d (.ref c) (some (.ref t)):=by rw [← v1];exact DGet.t (sw2 _ _ hd) (by rw [J23];exact sw2 _ _ hc)
   refine ⟨_,rfl,_,rfl,d,_,rfl,dg2,t,_,_,_,rfl,rfl,SqT.of (sw2 _ _ v2),J22 (j:=1) rfl,?_⟩
   refine ⟨c2,pr,ws ++ [wd],rfl,v3,v4,?_,?_,?_,sw2,by omega⟩
   ·rw [upd_same]
    show some (HO.lst (sV ws ++ [V.str (wS wd)]))=some (HO.lst (List.map (fun w=>V.str (wS w)) (ws ++ [wd])))
    rw [List.map_append];rfl
   ·rw [List.reverse_append]
    show appW (wd :: ws.reverse) pr=ot
    rw [appW_cons,← v5];exact eap
   ·rw [List.length_append]
    show ws.length + 1 + dist pr=dist ot
    omega
end
end R62
namespace R62
open PySem L2 Rl
section
variable {P:Program} {w:World} {K:PySem.W.Frag} {mg:Str→Option Value} {base:Heap}
def spCell (K:PySem.W.Frag):Sp:=fun vs H Q _=>∃ (a:Addr) (ns:List Int) (j:Nat),vs=[.ref a,.int j]∧SqL K H a (iV ns)∧Q (.int (cellN ns j)) H
theorem scCell:FnScope ["script","k"] ["script","k"] (Ja sCell):=⟨rfl,rfl,rfl,by decide +kernel,rfl,by decide +kernel,by decide +kernel⟩
theorem ok_cell {f:Addr} {fd:FuncData} (F:Fun K "_law_cell" "_law_cell" sCell f fd) (T:TxtR mg):FnOk P w K mg base CX0 1 f fd ["script","k"] (spCell K):=by
 refine F.ok scCell (fun vs H Q E h=>?_) (fun cdv A outer s H vs Q E hr h=>?_)
 ·obtain ⟨a,ns,j,rfl,_⟩:=h
  rfl
 ·obtain ⟨a,ns,j,rfl,hS,k⟩:=h
  refine ⟨_,J2 (ps_if (Jp op_lt (pv 1) (Je J7 (by rfl) T.len PySem.boot_len (J0 (pv 0) J6)) (Jw _)) (J8 (Jv (pe_ix J1s (pv 0) (pv 1) (fun _ _=>rfl)))) Ju) (J8 (Jv Jb)),?_⟩
  refine ⟨_,rfl,_,rfl,a,_,rfl,.inl hS,_,_,rfl,rfl,_,rfl,?_⟩
  have hl:(iV ns).length=ns.length:=List.length_map ..
  by_cases hj:j < ns.length
  ·refine iteDT (by rw [hl];omega) ?_
   exact ⟨_,rfl,_,rfl,a,_,_,_,rfl,rfl,hS,J22 (iV_get hj),k⟩
  ·refine iteD (by rw [hl];omega) ?_
   have e:cellN ns j=0:=by
    unfold cellN
    rw [List.getD_eq_getElem?_getD,List.getElem?_eq_none (by omega)];rfl
   rw [e] at k
   exact k
end
section
variable {P:Program} {w:World} {K:PySem.W.Frag} {mg:Str→Option Value} {base:Heap}
def spOrder (K:PySem.W.Frag):Sp:=fun vs H Q _=>∃ (a:Addr) (ns:List Int) (at_ many:Nat),vs=[.ref a,.int (at_:Nat),.int (many:Nat)]∧SqL K H a (iV ns)∧2≤many∧many≤7∧
 ∀ l H' (os:List Nat),Same H H'→H' l=some (.lst (nV os))→H l=none→IsO os→Tight os→os.length=many→Q (.ref l) H'
theorem scOrder:FnScope ["script","at","many","order","k","kept"] ["script","at","many"] (Ja sOrder):=⟨rfl,rfl,rfl,by decide +kernel,rfl,by decide +kernel,by decide +kernel⟩
theorem ok_orderT {f fC :Addr} {fd fdC:FuncData}  (F:Fun K "_law_order" "_law_order" sOrder f fd) (T:TxtR mg) (hmax:mg "max"=none)
  (GC:FnOk P w K mg base CX0 1 fC fdC ["script","k"] (spCell K)) (bC:Binds K fdC ["script","k"] []) (mC:mg "_law_cell"=some (.ref fC)) (kC:PySem.W.keepIn K (.ref fC)=true) :
  FnOk P w K mg base CX0 2 f fd ["script","at","many"] (spOrder K):=by
 refine F.ok scOrder (fun vs H Q E h=>?_) (fun cdv A outer s H vs Q E hr h=>?_)
 ·obtain ⟨a,ns,at_,many,rfl,_⟩:=h
  rfl
 ·obtain ⟨a,ns,at_,many,rfl,hS,h2,h7,k⟩:=h
  have hr1:Room 1 _:=hr.mono (by decide)
  refine ⟨_,(J2 (Jj (i:=3) scOrder.nd rfl (Or.inl rfl) (J2j J6))
   (J2 (J49 PassesOwn.never rfl (J3c rfl T.range (J0 (pv 2) J6)) (J1o (i:=4) scOrder.nd rfl (Or.inl rfl))
    (J8 (J31 (pe_bm PySem.F.plainAttrs_list PySem.F.slot_list_insert PySem.F.type_list_insert mt_insert (pv 3) (J0 (pe_op op_mod (Jh GC hr1 rfl mC kC bC .nil pass0 (J0 (pv 0) (J0 (pe_op J2v (pv 1) (pv 4)) J6))) (pe_op J2v (pv 4) Jb)) (J0 (pv 4) J6))))))
   (J2 (J49 PassesOwn.never rfl (pi_range2 rfl T.range (J0 Jb (J0 (pv 2) J6))) (J1o (i:=4) scOrder.nd rfl (Or.inl rfl))
    (J8 (ps_if (Jp op_eq (Je (call_max rfl) (by rfl) hmax PyProof.Rows.boot_max (J0 (J1j sl_list (pv 3) J3p (J1n (pv 4))) J6)) (pe_op J3d (pv 4) Jb) (Jw _)) (J2 (Jj (i:=5) scOrder.nd rfl (Or.inl rfl) (pe_ix J1s (pv 3) (pe_op J3d (pv 4) Jb) (fun _ _=>rfl)))
     (J2 (ps_asg (pe_ix J1s (pv 3) (pv 4) (fun _ _=>rfl)) (pg_sub (pv 3) (pe_op J3d (pv 4) Jb) set_list))
     (J8 (ps_asg (pv 5) (pg_sub (pv 3) (pv 4) set_list))))) Ju)))
   (J8 (Jv (pv 3)))))),?_⟩
  refine ⟨Nat.zero_le _,fun ol hol=>?_⟩
  refine ⟨_,rfl,(many:Int),rfl,by omega,by omega,for_range (lo:=0) (n:=many) (fun i σ H2=>∃ v,σ=[some (.ref a),some (.int at_),some (.int many),some (.ref ol),v,none]∧H2 ol=some (.lst (nV (drawA ns at_ i)))∧Same H H2)
   ⟨none,rfl,upd_same,J4 hol⟩ ?_ ?_⟩
  ·rintro i σ H2 hi ⟨v,rfl,ho,s2⟩
   rw [Int.zero_add]
   obtain ⟨q1,q2⟩:=spotA_le ns at_ i
   have e:((at_:Nat):Int) + (i:Int)=((at_ + i:Nat):Int):=by omega
   have hlen:(nV (drawA ns at_ i)).length=i:=by rw [J13,J3j]
   refine ⟨_,rfl,.inl ⟨rfl,_,SqL.of ho⟩,_,rfl,_,rfl,_,rfl,_,_,rfl,rfl,a,ns,at_ + i,(by rw [← e];rfl),s2.seq hS,_,rfl,_,_,rfl,rfl,_,_,rfl,rfl,(by omega),_,rfl,
    ol,_,spotA ns at_ i,V.int (i:Int),rfl,(by rw [q2]),ho,(by rw [hlen];exact q1),(by rw [hlen];exact Jz (by omega)),?_⟩
   refine ⟨_,rfl,?_,fun b o z=>?_⟩
   ·rw [upd_same,insV];rfl
   ·rw [Jd (J9 z hol)]
    exact s2 _ _ z
  rintro σ H2 ⟨v,rfl,ho,s2⟩
  have em:((many:Int) - 1).toNat=many - 1:=by omega
  refine ⟨_,rfl,_,_,rfl,⟨by decide,by decide,by omega,by omega⟩,?_⟩
  rw [em]
  refine for_range (lo:=1) (n:=many - 1) (fun i σ H3=>∃ (v v5:Option V) (os:List Nat),σ=[some (.ref a),some (.int at_),some (.int many),some (.ref ol),v,v5]∧H3 ol=some (.lst (nV os))∧IsO os∧os.length=many∧TightTo os i∧Same H H3)
   ⟨_,_,drawA ns at_ many,rfl,ho,drawA_isO _ _ _,J3j _ _ _,fun k h1 h2 _=>by omega,s2⟩ ?_ ?_
  ·rintro i σ H3 hi ⟨v,v5,os,rfl,ho3,io,lo,tt,s3⟩
   have e1:(1:Int) + (i:Nat)=((i + 1:Nat):Int):=by omega
   rw [e1]
   have hlt:(os.take (i + 1)).length=i + 1:=by rw [List.length_take];omega
   refine ⟨_,rfl,_,rfl,_,rfl,ol,_,rfl,SqL.of ho3,fun p hp=>?_⟩
   rw [J2s _ _ (by omega)]
   refine ⟨p,natI (os.take (i + 1)),rfl,.inl (SqL.of upd_same),by rw [J12];omega,fun M hM hA=>?_⟩
   have s4:=J4 (o:=.lst (nV (os.take (i + 1)))) hp
   have ho4:=s4 _ _ ho3
   have np:H ol=none:=hol
   have sK:Same H _:=s3.trans s4
   obtain ⟨m,hm,rfl⟩:=List.mem_map.mp hM
   refine ⟨_,rfl,_,_,rfl,rfl,rfl,_,rfl,?_⟩
   by_cases c:m=i
   ·refine iteDT (by congr 1;omega) ?_
    have e2:((i + 1:Nat):Int) - 1=((i:Nat):Int):=by omega
    refine ⟨_,rfl,_,rfl,_,_,rfl,rfl,ol,_,_,_,rfl,rfl,SqL.of ho4,(by rw [e2];exact J22 (nV_at (by omega))),?_⟩
    refine ⟨_,rfl,_,rfl,ol,_,_,_,rfl,rfl,SqL.of ho4,J22 (nV_at (by omega)),_,rfl,_,rfl,_,_,rfl,rfl,ol,_,_,i,rfl,rfl,ho4,(by rw [e2];exact ixN_nat (by rw [J13];omega)),?_⟩
    refine ⟨_,rfl,_,rfl,_,rfl,ol,_,_,i + 1,rfl,rfl,upd_same,ixN_nat (by rw [List.length_set,J13];omega),?_⟩
    refine ⟨_,_,swapO os (i + 1),rfl,?_,io.perm (J2f (by omega) (by omega)),((J2f (by omega) (by omega)).length_eq).trans lo,tight_swap io (by omega) (by omega) (fun x hx=>?_) (by simpa using tt),fun b o z=>?_⟩
    ·rw [upd_same]
     have:=swapO_set (os:=os) (k:=i + 1) (by omega) (by omega)
     rw [Nat.add_sub_cancel] at this
     have w:=congrArg (List.map V.int) this
     rw [List.map_set,List.map_set] at w
     exact congrArg (fun z=>some (HO.lst z)) w
    ·have:=hA _ (List.mem_map.mpr ⟨x,hx,rfl⟩)
     omega
    ·rw [Jd (J9 z np),Jd (J9 z np)]
     exact sK _ _ z
   ·refine iteD (vint_ne (by omega)) ?_
    have hm':m∈os.take (i + 1):=hm
    obtain ⟨x,hx,hxk⟩:=take_hi io.nd (k:=i + 1) (by omega) (by omega)
    have:=hA _ (List.mem_map.mpr ⟨x,hx,rfl⟩)
    exact ⟨_,_,os,rfl,ho4,io,lo,tight_stay (by omega) hm' (by omega) (by simpa using tt),sK⟩
  ·rintro σ H3 ⟨v,v5,os,rfl,ho3,io,lo,tt,s3⟩
   refine ⟨_,rfl,k ol H3 os s3 ho3 hol io (TightTo.tight (by rw [lo];exact tt)) lo⟩
end
section
variable {P:Program} {w:World} {K:PySem.W.Frag} {mg:Str→Option Value} {base:Heap}
def spOverL (K:PySem.W.Frag):Sp:=fun vs H Q _=>∃ (l:Addr) (os:List Nat) (n:Nat),vs=[.ref l]∧H l=some (.lst (nV os))∧OkO n os∧2≤n∧n≤7∧∀ b H',Same H H'→H' b=some (.lst (nV (stepO true os)))→Q (.ref b) H'
def J3b (K:PySem.W.Frag):Sp:=fun vs H Q _=>∃ (l:Addr) (os:List Nat) (n:Nat),vs=[.ref l]∧H l=some (.lst (nV os))∧OkO n os∧2≤n∧n≤7∧∀ b H',Same H H'→H' b=some (.lst (nV (stepO false os)))→Q (.ref b) H'
theorem scOverL:FnScope ["order","at"] ["order"] (Ja sOverL):=⟨rfl,rfl,rfl,by decide +kernel,rfl,by decide +kernel,by decide +kernel⟩
theorem ok_overL {f   : Addr} {fd  : FuncData}  (F : Fun K "_law_over" "_law_over" sOverL f fd) (T : TxtR mg)
 :
    FnOk P w K mg base CX0 1 f fd ["order"] (spOverL K) := by
  refine F.ok scOverL (fun vs H Q E h => ?_) (fun cdv A outer s H vs Q E hr h => ?_)
  · obtain ⟨l, os, n, rfl, _⟩ := h
    rfl
  · obtain ⟨l, os, n, rfl, hl, ok, n2, n7, k⟩ := h
    refine ⟨_, (J2 (Jj (i := 1) scOverL.nd rfl (Or.inl rfl) (pe_op J2v (pe_bm PySem.F.plainAttrs_list PySem.F.slot_list_index PySem.F.type_list_index mt_indexL (pv 0) (J0 (pe_op J3d (Je J7 (by rfl) T.len PySem.boot_len (J0 (pv 0) J6)) Jb) J6)) Jb))
      (J8 (Jv (pe_op op_cat (pe_op op_cat (J1j sl_list (pv 0) J3p (J1n (pv 1))) (J2j (J0 (pe_ix J1s (pv 0) (pe_un J39 Jb) (fun _ _ => rfl)) J6))) (J1j sl_list (pv 0) (J1n (pv 1)) (J1n (pe_un J39 Jb))))))), ?_⟩
    have lo := ok.len
    have ll := J13 os
    have hb := J1x ok.io ok.t (by omega)
    have hz : ∀ n : Nat, n ≤ 100 → n ≤ sizeLine := fun n h => Nat.le_of_lt (Jz (by omega))
    have e1 : ((nV os).length : Int) - 1 = ((os.length - 1 : Nat) : Int) := by rw [ll]; omega
    refine ⟨_, rfl, .inl ⟨rfl, _, SqL.of hl⟩, _, rfl, l, _, rfl, .inl (SqL.of hl), _, _, rfl, rfl, l, natI os, ((nV os).length : Int) - 1, rfl, rfl, SqL.of hl, (by rw [e1]; exact mem_nat (ok.io.mem (by omega))), _, _, rfl, rfl, ?_⟩
    rw [e1, idx_nat]
    have k' : ∀ b H', Same H H' → H' b = some (.lst (nV (overO os))) → Q (.ref b) H' := k
    unfold overO at k'
    obtain ⟨s, es⟩ : ∃ s, s = os.idxOf (os.length - 1) := ⟨_, rfl⟩
    rw [← es] at hb k' ⊢
    have e2 : (s : Int) + 1 = ((s + 1 : Nat) : Int) := by omega
    have ct : cutV (nV os) none (some ((s : Int) + 1)) = nV (os.take (s + 1)) := by rw [e2]; exact J2s _ _ (by omega)
    have cm : cutV (nV os) (some ((s : Int) + 1)) (some (-1)) = nV ((os.drop (s + 1)).take (os.length - 1 - (s + 1))) := by rw [e2]; exact cut_mid _ _ (by omega) (by omega)
    refine ⟨_, rfl, _, rfl, _, rfl, l, _, rfl, SqL.of hl, fun d1 hd1 => ?_⟩
    rw [ct]
    have u1 := J4 (o := .lst (nV (os.take (s + 1)))) hd1
    refine ⟨_, rfl, _, rfl, l, _, _, _, rfl, rfl, SqL.of (u1 _ _ hl), J2a (by omega), (by show 1 ≤ sizeLine; decide), fun d2 hd2 => ?_⟩
    have u2 := J4 (o := .lst [V.int ((os.getD (os.length - 1) 0 : Nat) : Int)]) hd2
    refine ⟨d1, d2, _, _, rfl, rfl, u2 _ _ upd_same, upd_same, ?_, fun d3 hd3 => ?_⟩
    · rw [J13, List.length_take]; exact hz _ (by show min (s + 1) os.length + 1 ≤ 100; omega)
    have u3 := J4 (o := .lst (nV (os.take (s + 1)) ++ [V.int ((os.getD (os.length - 1) 0 : Nat) : Int)])) hd3
    have u123 := u1.trans (u2.trans u3)
    refine ⟨_, rfl, _, rfl, _, rfl, _, rfl, _, rfl, l, _, rfl, SqL.of (u123 _ _ hl), fun d4 hd4 => ?_⟩
    rw [cm]
    have u4 := J4 (o := .lst (nV ((os.drop (s + 1)).take (os.length - 1 - (s + 1))))) hd4
    have eo : nV (os.take (s + 1)) ++ [V.int ((os.getD (os.length - 1) 0 : Nat) : Int)] = nV (os.take (s + 1) ++ [os.getD (os.length - 1) 0]) := by rw [nV_app]; rfl
    refine ⟨d3, d4, _, _, rfl, rfl, u4 _ _ upd_same, upd_same, ?_, fun d5 hd5 => ?_⟩
    · rw [eo, J13, J13, List.length_append, List.length_take, List.length_take, List.length_drop]
      exact hz _ (by show min (s + 1) os.length + 1 + min (os.length - 1 - (s + 1)) (os.length - (s + 1)) ≤ 100; omega)
    refine k' d5 _ (u123.trans (u4.trans (J4 hd5))) (upd_same.trans (congrArg (fun z => some (HO.lst z)) ?_))
    rw [eo, ← nV_app]
theorem scUnderL:FnScope ["order","last","places"] ["order"] (Ja sUnderL):=⟨rfl,rfl,rfl,by decide +kernel,rfl,by decide +kernel,by decide +kernel⟩
theorem ok_underL {f   : Addr} {fd  : FuncData}  (F : Fun K "_law_under" "_law_under" sUnderL f fd) (T : TxtR mg)
 :
    FnOk P w K mg base CX0 1 f fd ["order"] (J3b K) := by
  refine F.ok scUnderL (fun vs H Q E h => ?_) (fun cdv A outer s H vs Q E hr h => ?_)
  · obtain ⟨l, os, n, rfl, _⟩ := h
    rfl
  · obtain ⟨l, os, n, rfl, hl, ok, n2, n7, k⟩ := h
    refine ⟨_, (J2 (Jj (i := 1) scUnderL.nd rfl (Or.inr rfl) (pe_ix J1s (pv 0) (pe_un J39 Jb) (fun _ _ => rfl)))
      (J2 (Jj (i := 2) scUnderL.nd rfl (Or.inr rfl) (pe_op op_cat (pe_lc (caps := ["last"]) (js := [1]) rfl (J3c rfl T.range (J0 (pe_op J3d (Je J7 (by rfl) T.len PySem.boot_len (J0 (pv 0) J6)) Jb) J6)) rfl (fun _ _ _ _ => (pts_one (Jp op_le (pv 0) (pv 1) (Jw _)))) (fun C fp s H => (pv 0)) (by decide +kernel) (by decide +kernel) (by decide +kernel) (by intro p hp; simp only [List.mem_cons, List.not_mem_nil, or_false] at hp; rcases hp with rfl; rfl)) (J2j (J0 (pe_op J3d (Je J7 (by rfl) T.len PySem.boot_len (J0 (pv 0) J6)) Jb) J6))))
      (J2 (Jj (i := 2) scUnderL.nd rfl (Or.inr rfl) (pe_op op_cat (pv 2) (pe_lc (caps := ["last"]) (js := [1]) rfl (J3c rfl T.range (J0 (pe_op J3d (Je J7 (by rfl) T.len PySem.boot_len (J0 (pv 0) J6)) Jb) J6)) rfl (fun _ _ _ _ => (pts_one (Jp op_gt (pv 0) (pv 1) (Jw _)))) (fun C fp s H => (pv 0)) (by decide +kernel) (by decide +kernel) (by decide +kernel) (by intro p hp; simp only [List.mem_cons, List.not_mem_nil, or_false] at hp; rcases hp with rfl; rfl))))
      (J8 (Jv (pe_lc (caps := ["places"]) (js := [2]) rfl (J3q (pv 0)) rfl (fun _ _ _ _ => pts_nil) (fun C fp s H => (pe_bmK K PySem.F.plainAttrs_list PySem.F.slot_list_index PySem.F.type_list_index (mt_indexLK K) (pv 1) (J0 (pv 0) J6))) (by decide +kernel) (by decide +kernel) (by decide +kernel) (by intro p hp; simp only [List.mem_cons, List.not_mem_nil, or_false] at hp; rcases hp with rfl; rfl))))))), ?_⟩
    have lo := ok.len
    have ll := J13 os
    have hb := last_lt ok.io ok.t (by omega)
    have hz : ∀ n : Nat, n ≤ 100 → n ≤ sizeLine := fun n h => Nat.le_of_lt (Jz (by omega))
    have e1 : ((nV os).length : Int) - 1 = ((os.length - 1 : Nat) : Int) := by rw [ll]; omega
    have en : (((nV os).length : Int) - 1).toNat = os.length - 1 := by rw [e1]; omega
    refine ⟨_, rfl, _, rfl, l, _, _, _, rfl, rfl, SqL.of hl, J2a (by omega), ?_⟩
    have k' : ∀ b H', Same H H' → H' b = some (.lst (nV (J2d os))) → Q (.ref b) H' := k
    unfold J2d at k'
    obtain ⟨b, eb⟩ : ∃ b, b = os.getD (os.length - 1) 0 := ⟨_, rfl⟩
    rw [← eb] at hb k' ⊢
    refine ⟨_, rfl, l, _, rfl, .inl (SqL.of hl), _, _, rfl, rfl, _, rfl, by omega, by omega, ?_⟩
    rw [en]
    refine fun d hd => lc_rng 0 (os.length - 1) (fun j => decide (j ≤ b)) (fun (j : Nat) => V.int (j : Int)) (by omega) hd (fun j _ H2 Qt _ k => ?_) (fun j hj H2 Qe _ s2 ke => ⟨_, rfl, (by rw [Int.zero_add]; exact ke _ (Same.refl _))⟩) (fun H2 s2 hd2 => ?_)
    · refine ⟨_, rfl, _, rfl, _, _, rfl, rfl, _, rfl, ?_⟩
      have e : decide ((0 : Int) + (j : Int) ≤ (b : Int)) = decide (j ≤ b) := decide_eq_decide.mpr (by omega)
      rw [e]
      exact k H2 (Same.refl _)
    rw [J2x hb] at hd2
    have hl2 := s2 _ _ hl
    refine ⟨_, rfl, l, _, rfl, .inl (SqL.of hl2), _, _, rfl, rfl, (by show 1 ≤ sizeLine; decide), fun d3 hd3 => ?_⟩
    have u3 := J4 (o := .lst [V.int (((nV os).length : Int) - 1)]) hd3
    have lA : ((List.range (os.length - 1)).take (b + 1)).length = b + 1 := by rw [List.length_take, List.length_range]; omega
    refine ⟨d, d3, _, _, rfl, rfl, u3 _ _ hd2, upd_same, ?_, fun d4 hd4 => ?_⟩
    · rw [List.length_map, lA]; exact hz _ (by show b + 1 + 1 ≤ 100; omega)
    have u4 := J4 (o := .lst (((List.range (os.length - 1)).take (b + 1)).map (fun (j : Nat) => V.int (j : Int)) ++ [V.int (((nV os).length : Int) - 1)])) hd4
    have h4 : upd (upd H2 d3 (.lst [V.int (((nV os).length : Int) - 1)])) d4 (.lst (((List.range (os.length - 1)).take (b + 1)).map (fun (j : Nat) => V.int (j : Int)) ++ [V.int (((nV os).length : Int) - 1)])) d4 = some (.lst (nV ((List.range (os.length - 1)).take (b + 1) ++ [os.length - 1]))) := by
      rw [upd_same, e1, nV_app, nV_eq]; rfl
    have s24 := s2.trans (u3.trans u4)
    have hl4 := s24 _ _ hl
    generalize upd (upd H2 d3 (.lst [V.int (((nV os).length : Int) - 1)])) d4 (.lst (((List.range (os.length - 1)).take (b + 1)).map (fun (j : Nat) => V.int (j : Int)) ++ [V.int (((nV os).length : Int) - 1)])) = H4 at *
    refine ⟨_, rfl, _, rfl, l, _, rfl, .inl (SqL.of hl4), _, _, rfl, rfl, _, rfl, by omega, by omega, ?_⟩
    rw [en]
    refine fun d5 hd5 => lc_rng 0 (os.length - 1) (fun j => decide (b < j)) (fun (j : Nat) => V.int (j : Int)) (by omega) hd5 (fun j _ H2 Qt _ k => ?_) (fun j hj H2 Qe _ s2 ke => ⟨_, rfl, (by rw [Int.zero_add]; exact ke _ (Same.refl _))⟩) (fun H6 s6 hd6 => ?_)
    · refine ⟨_, rfl, _, rfl, _, _, rfl, rfl, _, rfl, ?_⟩
      have e : decide ((b : Int) < (0 : Int) + (j : Int)) = decide (b < j) := decide_eq_decide.mpr (by omega)
      rw [e]
      exact k H2 (Same.refl _)
    rw [J2y hb] at hd6
    refine ⟨d4, d5, _, _, rfl, rfl, s6 _ _ h4, hd6, ?_, fun d7 hd7 => ?_⟩
    · rw [J13, List.length_append, lA, List.length_map, List.length_drop, List.length_range]
      exact hz _ (by show b + 1 + 1 + (os.length - 1 - (b + 1)) ≤ 100; omega)
    have u7 := J4 (o := .lst (nV ((List.range (os.length - 1)).take (b + 1) ++ [os.length - 1]) ++ ((List.range (os.length - 1)).drop (b + 1)).map (fun (j : Nat) => V.int (j : Int)))) hd7
    have h7 : upd H6 d7 (.lst (nV ((List.range (os.length - 1)).take (b + 1) ++ [os.length - 1]) ++ ((List.range (os.length - 1)).drop (b + 1)).map (fun (j : Nat) => V.int (j : Int)))) d7 = some (.lst (nV (J2i os.length b))) := by
      rw [upd_same, ← nV_eq, ← nV_app]
      unfold J2i insAt
      rw [List.append_assoc]; rfl
    have s27 := s24.trans (s6.trans u7)
    have hl7 := s27 _ _ hl
    generalize upd H6 d7 (.lst (nV ((List.range (os.length - 1)).take (b + 1) ++ [os.length - 1]) ++ ((List.range (os.length - 1)).drop (b + 1)).map (fun (j : Nat) => V.int (j : Int)))) = H7 at *
    refine ⟨_, rfl, l, rfl, ⟨_, SqL.of hl7⟩, fun d8 hd8 => lc_lst (fun (j : Nat) => V.int (j : Int)) os (fun _ => true) (fun j => V.int (numU os.length b j : Nat)) (by rw [← nV_eq]; exact SqL.of hl7) (by omega) hd8 (fun j _ H2 Qt _ k => k H2 (Same.refl _)) (fun j hj H8 Qe _ s8 ke => ?_) (fun H8 s8 hd9 => ?_)⟩
    · have at_ := J2h hb (ok.io.lt j hj)
      refine ⟨_, rfl, .inl ⟨rfl, _, SqL.of (s8 _ _ h7)⟩, _, rfl, d7, natI (J2i os.length b), (j : Int), rfl, rfl, SqL.of (s8 _ _ h7), mem_nat (List.mem_of_getElem? at_), ?_⟩
      rw [idx_nat, idx_get (placesU_nd (by omega)) at_]
      exact ke _ (Same.refl _)
    rw [J2p] at hd9
    refine k' d8 H8 (s27.trans s8) ?_
    rw [hd9, nV_eq, List.map_map]; rfl
end
end R62
namespace R62
open PySem L2 Rl
section
variable {P:Program} {w:World} {K:PySem.W.Frag} {mg:Str→Option Value} {base:Heap}
structure QI (n:Nat) (os:List Nat) (Hx:Hp) (ws:List V) (kvs:List (List Key × V)) (wo:List (List Nat)) (d:List Nat→Nat) (kk:Nat):Prop where
 K:KeysO n kvs wo
 o:os∈wo
 d0:d os=0
 len:ws.length=wo.length
 R:∀ i,i < wo.length→∃ c,ws[i]?=some (.ref c)∧Hx c=some (.lst (nV (wo.getD i [])))
 Vv:∀ o∈wo,valV kvs (keyO o)=some (.int (d o:Nat))
 S:∀ i j,i≤j→j < wo.length→d (wo.getD i [])≤d (wo.getD j [])
 T:∀ j,j < wo.length→kk < wo.length→d (wo.getD j [])≤d (wo.getD kk []) + 1
 C:∀ i,i < kk→i < wo.length→Clo wo d (wo.getD i [])
 P:Pre os wo d
 ke:kk≤wo.length
def LstKeep (H H':Hp):Prop:=∀ b (o:List Nat),H b=some (.lst (nV o))→H' b=some (.lst (nV o))
theorem LstKeep.of {H H':Hp} (s:Same H H'):LstKeep H H':=fun b o e=>s _ _ e
theorem LstKeep.trans {H H1 H2:Hp} (a:LstKeep H H1) (b:LstKeep H1 H2):LstKeep H H2:=fun c o e=>b _ _ (a _ _ e)
theorem LstKeep.dict {H:Hp} {l:Addr} {kvs:List (List Key × V)} {o:HO} (h:H l=some (.dT kvs)):LstKeep H (upd H l o):=fun b ys e=>by rw [Jd (ne_of e h (by intro z;cases z))];exact e
theorem no_refs {ws:List V} {c:Addr} {o:List Nat} (h:ws[0]?=some (.ref c)):ws≠nV o:=fun e=>by
 rw [e,nV_eq,List.getElem?_map] at h
 cases z:o[0]? with
 | none=>rw [z] at h;cases h
 | some x=>rw [z] at h;cases h
theorem LstKeep.lst {H:Hp} {l c:Addr} {ws:List V} {o:HO} (h:H l=some (.lst ws)) (h0:ws[0]?=some (.ref c)):LstKeep H (upd H l o):=fun b ys e=>by
 rw [Jd fun z=>?_]
 ·exact e
 ·subst z
  rw [h] at e
  exact no_refs h0 (HO.lst.inj (Option.some.inj e))
theorem QI.keep {n:Nat} {os:List Nat} {Hx Hy:Hp} {ws:List V} {kvs:List (List Key × V)} {wo:List (List Nat)} {d:List Nat→Nat} {kk:Nat} (h:QI n os Hx ws kvs wo d kk) (k:LstKeep Hx Hy):QI n os Hy ws kvs wo d kk :=
 ⟨h.K,h.o,h.d0,h.len,fun i hi=>let ⟨c,h1,h2⟩:=h.R i hi;⟨c,h1,k _ _ h2⟩,h.Vv,h.S,h.T,h.C,h.P,h.ke⟩
theorem J29 {wo:List (List Nat)} {oo:List Nat} {i:Nat} (h:i < wo.length):(wo ++ [oo]).getD i []=wo.getD i []:=by
 rw [List.getD_eq_getElem?_getD,List.getD_eq_getElem?_getD,List.getElem?_append_left h]
theorem getD_end (wo:List (List Nat)) (oo:List Nat):(wo ++ [oo]).getD wo.length []=oo:=by
 rw [List.getD_eq_getElem?_getD,List.getElem?_append_right (Nat.le_refl _),Nat.sub_self];rfl
theorem J1y {wo:List (List Nat)} {i:Nat} (h:i < wo.length):wo.getD i []∈wo:=by
 rw [List.getD_eq_getElem?_getD,List.getElem?_eq_getElem h]
 exact List.getElem_mem h
theorem QI.add {n:Nat} {os oo:List Nat} {Hx:Hp} {ws:List V} {kvs:List (List Key × V)} {wo:List (List Nat)} {d:List Nat→Nat} {kk:Nat} {b0:Addr} {w:Bool} (h:QI n os Hx ws kvs wo d kk) (hk:kk < wo.length) (hn:oo ∉ wo) (e:oo=stepO w (wo.getD kk [])) (ok:OkO n oo) (hb:Hx b0=some (.lst (nV oo))) :
  QI n os Hx (ws ++ [.ref b0]) (putK kvs (keyO oo) (.int ((d (wo.getD kk []) + 1:Nat):Int))) (wo ++ [oo]) (setD d oo (d (wo.getD kk []) + 1)) kk:=by
 have ll:(wo ++ [oo]).length=wo.length + 1:=by rw [List.length_append];rfl
 have dl:∀ i,i < wo.length→setD d oo (d (wo.getD kk []) + 1) ((wo ++ [oo]).getD i [])=d (wo.getD i []):=fun i hi=>by rw [J29 hi,Jm hn (J1y hi)]
 have de:setD d oo (d (wo.getD kk []) + 1) ((wo ++ [oo]).getD wo.length [])=d (wo.getD kk []) + 1:=by rw [getD_end,J1f]
 refine ⟨h.K.put ok hn _,List.mem_append_left _ h.o,by rw [Jm hn h.o];exact h.d0,by rw [ll,List.length_append,h.len];rfl,fun i hi=>?_,fun x hx=>?_,fun i j hij hj=>?_,fun j hj _=>?_,fun i hi hl=>?_,h.P.add hn (J1y hk) e,by rw [ll];omega⟩
 ·rw [ll] at hi
  by_cases z:i < wo.length
  ·obtain ⟨c,h1,h2⟩:=h.R i z
   exact ⟨c,by rw [List.getElem?_append_left (by rw [h.len];exact z)];exact h1,by rw [J29 z];exact h2⟩
  ·obtain rfl:i=wo.length:=by omega
   refine ⟨b0,?_,by rw [getD_end];exact hb⟩
   rw [List.getElem?_append_right (by rw [h.len];exact Nat.le_refl _),h.len,Nat.sub_self];rfl
 ·rw [J38]
  rcases List.mem_append.mp hx with z | z
  ·rw [if_neg (fun q=>hn ((show x=oo from J4i q) ▸ z)),Jm hn z]
   exact h.Vv x z
  ·obtain rfl:=List.mem_singleton.mp z
   rw [if_pos rfl,J1f]
 ·rw [ll] at hj
  by_cases z:j < wo.length
  ·rw [dl i (by omega),dl j z];exact h.S i j hij z
  ·obtain rfl:j=wo.length:=by omega
   rw [de]
   by_cases y:i < wo.length
   ·rw [dl i y];exact h.T i y hk
   ·obtain rfl:i=wo.length:=by omega
    rw [de];exact Nat.le_refl _
 ·rw [ll] at hj
  rw [dl kk hk]
  by_cases z:j < wo.length
  ·rw [dl j z];exact h.T j z hk
  ·obtain rfl:j=wo.length:=by omega
   rw [de];exact Nat.le_refl _
 ·have z:i < wo.length:=by omega
  rw [J29 z]
  exact (h.C i hi z).add (J1y z) hn
def spStepsL (K:PySem.W.Frag):Sp:=fun vs H Q _=>∃ (l:Addr) (os:List Nat) (n:Nat),vs=[.ref l]∧H l=some (.lst (nV os))∧OkO n os∧2≤n∧n≤7∧
 ∀ d H' kvs ks dist,Same H H'→H' d=some (.dT kvs)→KeysO n kvs ks→Fam os ks dist→(∀ o∈ks,valV kvs (keyO o)=some (.int (dist o:Nat)))→Q (.ref d) H'
theorem scStepsL:FnScope ["order","told","waiting","k","here","there"] ["order"] (Ja sStepsL):=⟨rfl,rfl,rfl,by decide +kernel,rfl,by decide +kernel,by decide +kernel⟩
theorem ok_stepsL {f fOL fUL :Addr} {fd fdOL fdUL:FuncData}  (F:Fun K "_law_steps" "_law_steps" sStepsL f fd) (T:TxtR mg)
  (GOL:FnOk P w K mg base CX0 1 fOL fdOL ["order"] (spOverL K)) (bOL:Binds K fdOL ["order"] []) (mOL:mg "_law_over"=some (.ref fOL)) (kOL:PySem.W.keepIn K (.ref fOL)=true)
  (GUL:FnOk P w K mg base CX0 1 fUL fdUL ["order"] (J3b K)) (bUL:Binds K fdUL ["order"] []) (mUL:mg "_law_under"=some (.ref fUL)) (kUL:PySem.W.keepIn K (.ref fUL)=true) :
  FnOk P w K mg base CX0 2 f fd ["order"] (spStepsL K):=by
 refine F.ok scStepsL (fun vs H Q E h=>?_) (fun cdv A outer s H vs Q E hr h=>?_)
 ·obtain ⟨l,os,n,rfl,_⟩:=h
  rfl
 ·obtain ⟨l,os,n,rfl,hl,ok,n2,n7,k⟩:=h
  have hr1:Room 1 _:=hr.mono (by decide)
  have hu1:=Nat.lt_of_le_of_lt (Nat.add_le_add_left (by decide:1≤64) _) hr.units
  refine ⟨_,(J2 (Jj (i:=1) scStepsL.nd rfl (Or.inl rfl) (pe_disp1 hu1 (Jg J1a (by rfl) T.tuple PyProof.Rows.boot_tuple (J0 (pv 0) J6)) Jb))
   (J2 (Jj (i:=2) scStepsL.nd rfl (Or.inl rfl) (J2j (J0 (Jg Jy (by rfl) T.list PyProof.Rows.boot_list (J0 (pv 0) J6)) J6)))
   (J2 (Jj (i:=3) scStepsL.nd rfl (Or.inl rfl) Jb)
   (J2 (J47 PassesOwn.never (Jp op_lt (pv 3) (Je J7 (by rfl) T.len PySem.boot_len (J0 (pv 2) J6)) (Jw _))
    (J2 (Jj (i:=4) scStepsL.nd rfl (Or.inl rfl) (pe_ix J1s (pv 2) (pv 3) (fun _ _=>rfl)))
    (J2 (Jj (i:=3) scStepsL.nd rfl (Or.inl rfl) (pe_op J2v (pv 3) Jb))
    (J8 (J49 PassesOwn.never rfl (J3q (J2j (J0 (Jh GOL hr1 rfl mOL kOL bOL .nil pass0 (J0 (pv 4) J6)) (J0 (Jh GUL hr1 rfl mUL kUL bUL .nil pass0 (J0 (pv 4) J6)) J6)))) (J1o (i:=5) scStepsL.nd rfl (Or.inl rfl))
     (J8 (ps_if (pt_cmp (J26 hu1 (Jg J1a (by rfl) T.tuple PyProof.Rows.boot_tuple (J0 (pv 5) J6)) (pv 1))) (J2 (ps_dput hu1 (pv 1) (Jg J1a (by rfl) T.tuple PyProof.Rows.boot_tuple (J0 (pv 5) J6)) (pe_op J2v (pe_dget hu1 (pv 1) (Jg J1a (by rfl) T.tuple PyProof.Rows.boot_tuple (J0 (pv 4) J6)) (fun _ _=>rfl)) Jb) rfl)
      (J8 (J31 (pe_bm PySem.F.plainAttrs_list PySem.F.slot_list_append PySem.F.type_list_append J28 (pv 2) (J0 (pv 5) J6))))) Ju)))))))
   (J8 (Jv (pv 1))))))),?_⟩
  have hz:∀ m:Nat,m≤2000000→m < sizeLine:=fun m h=>by rw [sizeLine_eq];omega
  intro d hd
  have s1:=J4 (o:=.dT []) hd
  refine ⟨_,rfl,J18 (.inl (s1 _ _ hl)) fun tq H1 s1' ht=>?_⟩
  refine ⟨tq,keyO os,rfl,(by rw [J23];exact ht),s1' _ _ upd_same,?_⟩
  have sd:Same H (upd H1 d (.dT (putK [] (keyO os) (.int 0)))):=fun b o e=>by rw [Jd (J9 e hd)];exact s1' _ _ (s1 _ _ e)
  have hd2:upd H1 d (.dT (putK [] (keyO os) (.int 0))) d=some (.dT (putK [] (keyO os) (.int 0))):=upd_same
  generalize upd H1 d (.dT (putK [] (keyO os) (.int 0)))=H2 at *
  have K0:KeysO n (putK [] (keyO os) (.int 0)) [os]:=⟨rfl,by simp,fun o ho=>by rw [List.mem_singleton.mp ho];exact ok⟩
  refine ⟨_,rfl,l,_,rfl,.inl (SqL.of (sd _ _ hl)),fun c0 hc0=>?_⟩
  have s3:=J4 (o:=.lst (nV os)) hc0
  refine ⟨(by show 1≤sizeLine;decide),fun w hw=>?_⟩
  have s4:=J4 (o:=.lst [V.ref c0]) hw
  have s24:=s3.trans s4
  have nw:H w=none:=by
   cases e:H w with
   | none=>rfl
   | some o=>rw [s3 _ _ (sd _ _ e)] at hw;cases hw
  have Q0:QI n os (upd (upd H2 c0 (.lst (nV os))) w (.lst [V.ref c0])) [.ref c0] (putK [] (keyO os) (.int 0)) [os] (fun _=>0) 0:=by
   refine ⟨K0,List.mem_singleton_self _,rfl,rfl,fun i hi=>?_,fun o ho=>?_,fun _ _ _ _=>Nat.le_refl _,fun _ _ _=>Nat.le_succ _,fun i hi=>(Nat.not_lt_zero _ hi).elim,fun o ho ne=>(ne (List.mem_singleton.mp ho)).elim,Nat.zero_le _⟩
   ·obtain rfl:i=0:=by simp at hi;omega
    exact ⟨c0,rfl,s4 _ _ upd_same⟩
   ·rw [List.mem_singleton.mp ho,J38,if_pos rfl];rfl
  refine ⟨fun m σ Hw=>∃ (v4 v5:Option V) (kk:Nat) (ws:List V) (kvs:List (List Key × V)) (wo:List (List Nat)) (dist:List Nat→Nat),σ=[some (.ref l),some (.ref d),some (.ref w),some (.int (kk:Nat)),v4,v5]∧Hw d=some (.dT kvs)∧Hw w=some (.lst ws)∧QI n os Hw ws kvs wo dist kk∧Same H Hw∧m=823544 - kk,
   ⟨_,none,none,0,_,_,_,_,rfl,s24 _ _ hd2,upd_same,Q0,sd.trans s24,rfl⟩,?_⟩
  rintro m σ Hw ⟨v4,v5,kk,ws,kvs,wo,dist,rfl,hd1,hw1,I,sw,rfl⟩
  refine ⟨_,rfl,_,rfl,w,_,rfl,.inl (SqL.of hw1),_,_,rfl,rfl,_,rfl,?_⟩
  have few:=J2o n7 I.K.nd I.K.ok
  have len_:=I.len
  by_cases hk:kk < wo.length
  ·refine iteDT (by rw [len_];omega) ?_
   obtain ⟨c,e1,e2⟩:=I.R kk hk
   have oko:=I.K.ok _ (J1y hk)
   refine ⟨fun σ' H'=>∃ (v4 v5:Option V) (ws:List V) (kvs:List (List Key × V)) (wo:List (List Nat)) (dist:List Nat→Nat),σ'=[some (.ref l),some (.ref d),some (.ref w),some (.int ((kk + 1:Nat):Int)),v4,v5]∧H' d=some (.dT kvs)∧H' w=some (.lst ws)∧QI n os H' ws kvs wo dist (kk + 1)∧Same H H',?_,?_⟩
   ·rintro σ' H' ⟨v4,v5,ws,kvs,wo,dist,h1,h2,h3,h4,h5⟩
    exact ⟨_,by omega,v4,v5,kk + 1,ws,kvs,wo,dist,h1,h2,h3,h4,h5,rfl⟩
   refine ⟨_,rfl,_,rfl,w,_,_,_,rfl,rfl,SqL.of hw1,J22 e1,?_⟩
   refine ⟨_,rfl,_,_,rfl,rfl,?_⟩
   obtain ⟨o,eo⟩:∃ o,o=wo.getD kk []:=⟨_,rfl⟩
   rw [← eo] at e2 oko
   refine ⟨_,rfl,c,o,n,rfl,e2,oko,n2,n7,fun b1 H5 s5 hb1=>?_⟩
   refine ⟨_,rfl,c,o,n,rfl,s5 _ _ e2,oko,n2,n7,fun b2 H6 s6 hb2=>?_⟩
   refine ⟨(by show 2≤sizeLine;decide),fun e he=>?_⟩
   have s7:=J4 (o:=.lst [V.ref b1,V.ref b2]) he
   have s57:=s5.trans (s6.trans s7)
   have he7:upd H6 e (.lst [V.ref b1,V.ref b2]) e=some (.lst [V.ref b1,V.ref b2]):=upd_same
   have g1:=s7 _ _ (s6 _ _ hb1)
   have g2:=s7 _ _ hb2
   have gc:=s57 _ _ e2
   have new:e≠w:=(J9 (s6 _ _ (s5 _ _ hw1)) he).symm
   have I7:=I.keep (LstKeep.of s57)
   have hd7:=s57 _ _ hd1
   have hw7:=s57 _ _ hw1
   have sw7:=sw.trans s57
   generalize upd H6 e (.lst [V.ref b1,V.ref b2])=Hz at *
   refine ⟨e,rfl,⟨_,SqL.of he7⟩,J3h (K:=K) (a:=e) (xs:=[.ref b1,.ref b2]) (fun j σ Hy=>∃ (v5:Option V) (ws:List V) (kvs:List (List Key × V)) (wo:List (List Nat)) (dist:List Nat→Nat),σ=[some (.ref l),some (.ref d),some (.ref w),some (.int ((kk:Nat) + 1:Int)),some (.ref c),v5]∧Hy d=some (.dT kvs)∧Hy w=some (.lst ws)∧QI n os Hy ws kvs wo dist kk∧Same H Hy∧Hy e=some (.lst [.ref b1,.ref b2])∧LstKeep Hz Hy∧(kk < wo.length∧wo.getD kk []=o)∧∀ w:Bool,(if w=true then 1 else 2)≤j→stepO w o∈wo∧dist (stepO w o)≤dist o + 1)
    ⟨_,ws,kvs,wo,dist,rfl,hd7,hw7,I7,sw7,he7,fun _ _ z=>z,⟨hk,eo.symm⟩,fun w hw=>by cases w <;> simp at hw⟩ (fun j σ Hy _ ⟨_,_,_,_,_,_,_,_,_,_,q,_⟩=>SqL.of q) ?_ ?_⟩
   ·rintro j v σ Hy hv ⟨v5,ws,kvs,wo,dist,rfl,hdy,hwy,Iy,swy,hey,tk,⟨hky,eoy⟩,don⟩
    obtain ⟨b0,w0,oo,rfl,hb0,okk,eoo,hjw⟩:∃ b0 w0 oo,v=.ref b0∧Hy b0=some (.lst (nV oo))∧OkO n oo∧oo=stepO w0 o∧j + 1=(if w0=true then 1 else 2):=by
     rcases j with _ | _ | j
     ·cases hv
      exact ⟨b1,true,_,rfl,tk _ _ g1,oko.step n2 true,rfl,rfl⟩
     ·cases hv
      exact ⟨b2,false,_,rfl,tk _ _ g2,oko.step n2 false,rfl,rfl⟩
     ·cases hv
    have don':∀ {ks'':List (List Nat)} {d'':List Nat→Nat},(∀ x∈wo,x∈ks''∧d'' x=dist x)→(oo∈ks''∧d'' oo≤dist o + 1)→∀ w:Bool,(if w=true then 1 else 2)≤j + 1→stepO w o∈ks''∧d'' (stepO w o)≤d'' o + 1:=fun {ks'' d''} mono hoo w hw=>by
     have ho:d'' o=dist o:=(mono o (by rw [← eoy];exact J1y hky)).2
     rw [ho]
     by_cases z:w=w0
     ·subst z;rw [← eoo];exact hoo
     ·have:(if w=true then 1 else 2)≤j:=by
       cases w <;> cases w0 <;> simp at hw hjw z ⊢ <;> omega
      obtain ⟨q1,q2⟩:=don w this
      obtain ⟨q3,q4⟩:=mono _ q1
      exact ⟨q3,by rw [q4];exact q2⟩
    refine ⟨_,rfl,J18 (.inl hb0) fun t1 H8 s8 ht1=>?_⟩
    refine ⟨_,rfl,d,_,rfl,DGet.t (s8 _ _ hdy) (by rw [J23];exact ht1),_,rfl,?_⟩
    by_cases hin:oo∈wo
    ·rw [J24 (Iy.K.in_.mpr hin)]
     obtain ⟨i,hi,ei⟩:=List.getElem_of_mem hin
     have ei':wo.getD i []=oo:=by rw [List.getD_eq_getElem?_getD,List.getElem?_eq_getElem hi];exact ei
     exact iteF ⟨_,ws,kvs,wo,dist,rfl,s8 _ _ hdy,s8 _ _ hwy,Iy.keep (LstKeep.of s8),swy.trans s8,s8 _ _ hey,tk.trans (LstKeep.of s8),⟨hky,eoy⟩,don' (fun x hx=>⟨hx,rfl⟩) ⟨hin,by have:=Iy.T i hi hky;rw [ei',eoy] at this;exact this⟩⟩
    ·rw [J25 fun q=>hin (Iy.K.in_.mp q)]
     refine iteT ?_
     have ho:o∈wo:=by rw [← eoy];exact J1y hky
     have gc8:=s8 _ _ (tk _ _ gc)
     refine ⟨_,rfl,_,rfl,J18 (.inl gc8) fun t2 H9 s9 ht2=>?_⟩
     have hd9:=s9 _ _ (s8 _ _ hdy)
     have dg:DGet H9 d (.ref t2) (some (.int (dist o:Nat))):=by rw [← Iy.Vv o ho];exact DGet.t hd9 (by rw [J23];exact ht2)
     refine ⟨d,_,rfl,dg,_,_,rfl,rfl,_,rfl,_,rfl,J18 (.inl (s9 _ _ (s8 _ _ hb0))) fun t3 H10 s10 ht3=>?_⟩
     have s810:=s8.trans (s9.trans s10)
     have hd10:=s10 _ _ hd9
     have hw10:=s810 _ _ hwy
     have I10:=Iy.keep (LstKeep.of s810)
     have few2:=J2o n7 I10.K.nd I10.K.ok
     have kl:=I10.K.len
     have wl:=I10.len
     have I11:=I10.add hky hin (by rw [eoy];exact eoo) okk (s810 _ _ hb0)
     rw [eoy] at I11
     refine ⟨d,_,rfl,DPut.t hd10 (by rw [J23];exact ht3) (hz _ (by omega)),?_⟩
     have dw:d≠w:=ne_of hd10 hw10 (by intro z;cases z)
     have hw11:upd H10 d (.dT (putK kvs (keyO oo) (.int ((dist o:Nat) + 1:Int)))) w=some (.lst ws):=by rw [Jd dw.symm];exact hw10
     refine ⟨_,rfl,.inl ⟨rfl,_,SqL.of hw11⟩,_,rfl,w,ws,.ref b0,rfl,rfl,hw11,hz _ (by omega),?_⟩
     obtain ⟨cz,ez,_⟩:=I10.R 0 (by omega)
     have lk:=(LstKeep.dict (o:=.dT (putK kvs (keyO oo) (.int ((dist o:Nat) + 1:Int)))) hd10).trans (LstKeep.lst (o:=.lst (ws ++ [.ref b0])) hw11 ez)
     refine ⟨_,_,_,_,_,rfl,?_,upd_same,I11.keep lk,fun b u z=>?_,?_,(tk.trans (LstKeep.of s810)).trans lk,⟨by rw [List.length_append];omega,by rw [J29 hky];exact eoy⟩,don' (fun x hx=>⟨List.mem_append_left _ hx,Jm hin hx⟩) ⟨List.mem_append_right _ (List.mem_singleton_self _),by rw [J1f];exact Nat.le_refl _⟩⟩
     ·rw [Jd dw];exact upd_same
     ·rw [Jd (J9 z nw),Jd (J9 z hd)]
      exact s810 _ _ (swy _ _ z)
     ·rw [Jd new,Jd (ne_of (s810 _ _ hey) hd10 (by intro z;cases z))]
      exact s810 _ _ hey
   ·rintro σ Hy ⟨v5,ws,kvs,wo,dist,rfl,hdy,hwy,Iy,swy,hey,tk,⟨hky,eoy⟩,don⟩
    refine ⟨_,_,ws,kvs,wo,dist,rfl,hdy,hwy,⟨Iy.K,Iy.o,Iy.d0,Iy.len,Iy.R,Iy.Vv,Iy.S,fun j hj h1=>?_,fun i hi hil=>?_,Iy.P,by omega⟩,swy⟩
    ·have a1:=Iy.T j hj hky
     have a2:=Iy.S kk (kk + 1) (Nat.le_succ _) h1
     omega
    ·by_cases z:i=kk
     ·subst z
      rw [eoy]
      intro w
      exact don w (by cases w <;> simp)
     ·exact Iy.C i (by omega) hil
  ·refine iteD (by rw [len_];omega) ?_
   refine ⟨_,rfl,k d Hw kvs wo dist sw hd1 I.K ⟨I.o,I.d0,fun o ho=>?_,I.P⟩ I.Vv⟩
   obtain ⟨i,hi,ei⟩:=List.getElem_of_mem ho
   have ei':wo.getD i []=o:=by rw [List.getD_eq_getElem?_getD,List.getElem?_eq_getElem hi];exact ei
   rw [← ei']
   exact I.C i (by omega) hi
end
end R62
namespace R62
open PySem L2 Rl
section
variable {P:Program} {w:World} {K:PySem.W.Frag} {mg:Str→Option Value} {base:Heap}
theorem cut_ints (ns:List Int) (lo hi:Option Int):∃ cs:List Int,cutV (iV ns) lo hi=iV cs∧cs.length≤ns.length:=by
 refine ⟨(ns.drop (HT.sIx (iV ns).length 0 lo)).take (HT.sIx (iV ns).length (iV ns).length hi - HT.sIx (iV ns).length 0 lo),?_,?_⟩
 ·unfold cutV
  simp only [List.map_take,List.map_drop]
 ·rw [List.length_take,List.length_drop];omega
def spSecond (K:PySem.W.Frag):Sp:=fun vs H Q _=>∃ (a l:Addr) (ns:List Int) (os:List Nat) (n:Nat),vs=[.ref a,.ref l]∧SqL K H a (iV ns)∧H l=some (.lst (nV os))∧OkO n os∧2≤n∧n≤7∧
 ∀ b H' ot m,Same H H'→H' b=some (.lst (nV ot))→OkO m ot→(2≤m∧m≤7)→Q (.ref b) H'
theorem scSecond:FnScope ["script","order","cell","word"] ["script","order"] (Ja sSecond):=⟨rfl,rfl,rfl,by decide +kernel,rfl,by decide +kernel,by decide +kernel⟩
theorem ok_second {f fC fLO2 fOL fUL :Addr} {fd fdC fdLO2 fdOL fdUL:FuncData}  (F:Fun K "_law_second" "_law_second" sSecond f fd) (T:TxtR mg)
  (GC:FnOk P w K mg base CX0 1 fC fdC ["script","k"] (spCell K)) (bC:Binds K fdC ["script","k"] []) (mC:mg "_law_cell"=some (.ref fC)) (kC:PySem.W.keepIn K (.ref fC)=true)
  (GLO2:FnOk P w K mg base CX0 2 fLO2 fdLO2 ["script","at","many"] (spOrder K)) (bLO2:Binds K fdLO2 ["script","at","many"] []) (mLO2:mg "_law_order"=some (.ref fLO2)) (kLO2:PySem.W.keepIn K (.ref fLO2)=true)
  (GOL:FnOk P w K mg base CX0 1 fOL fdOL ["order"] (spOverL K)) (bOL:Binds K fdOL ["order"] []) (mOL:mg "_law_over"=some (.ref fOL)) (kOL:PySem.W.keepIn K (.ref fOL)=true)
  (GUL:FnOk P w K mg base CX0 1 fUL fdUL ["order"] (J3b K)) (bUL:Binds K fdUL ["order"] []) (mUL:mg "_law_under"=some (.ref fUL)) (kUL:PySem.W.keepIn K (.ref fUL)=true) :
  FnOk P w K mg base CX0 3 f fd ["script","order"] (spSecond K):=by
 refine F.ok scSecond (fun vs H Q E h=>?_) (fun cdv A outer s H vs Q E hr h=>?_)
 ·obtain ⟨a,l,ns,os,n,rfl,_⟩:=h
  rfl
 ·obtain ⟨a,l,ns,os,n,rfl,hS,hl,ok,n2,n7,k⟩:=h
  have hr1:Room 1 _:=hr.mono (by decide)
  have hr2:Room 2 _:=hr.mono (by decide)
  refine ⟨_,(J2 (Jj (i:=2) scSecond.nd rfl (Or.inl rfl) (pe_op op_fdiv (Jh GC hr1 rfl mC kC bC .nil pass0 (J0 (pv 0) (J0 Jb J6))) Jb))
   (J2 (ps_cut (ps_if (PW.pt (pw_and (Jp op_eq (pe_op op_mod (pv 2) Jb) Jb (Jw _)) (pw_and1 (Jp op_lt (Je J7 (by rfl) T.len PySem.boot_len (J0 (pv 1) J6)) Jb (Jw _))))) (J8 (Jv (Jh GLO2 hr2 rfl mLO2 kLO2 bLO2 .nil pass0 (J0 (pv 0) (J0 Jb (J0 (Je J7 (by rfl) T.len PySem.boot_len (J0 (pv 1) J6)) J6)))))) Ju))
   (J2 (ps_cut (ps_if (PW.pt (pw_and (Jp op_eq (pe_op op_mod (pv 2) Jb) Jb (Jw _)) (pw_and1 (Jp op_lt (Je J7 (by rfl) T.len PySem.boot_len (J0 (pv 1) J6)) Jb (Jw _))))) (J8 (Jv (Jh GLO2 hr2 rfl mLO2 kLO2 bLO2 .nil pass0 (J0 (pv 0) (J0 Jb (J0 (pe_op J2v (Je J7 (by rfl) T.len PySem.boot_len (J0 (pv 1) J6)) Jb) J6)))))) Ju))
   (J2 (J49 PassesOwn.never rfl (J3q (J1j sl_list (pv 0) (J1n Jb) J3p)) (J1o (i:=3) scSecond.nd rfl (Or.inl rfl))
    (J8 (Jj (i:=1) scSecond.nd rfl (Or.inl rfl) (pe_ix J1s (J2j (J0 (Jh GOL hr1 rfl mOL kOL bOL .nil pass0 (J0 (pv 1) J6)) (J0 (Jh GUL hr1 rfl mUL kUL bUL .nil pass0 (J0 (pv 1) J6)) J6))) (pe_op op_mod (pv 3) Jb) (fun _ _=>rfl)))))
   (J8 (Jv (pv 1))))))),?_⟩
  have lo:=ok.len
  have ll:=J13 os
  refine ⟨_,rfl,a,ns,0,rfl,hS,_,_,rfl,rfl,⟨by decide,by decide⟩,?_⟩
  refine ⟨fun σ' H'=>σ'=[some (.ref a),some (.ref l),some (.int (cellN ns 0 / 5)),none]∧H=H',?_,?_⟩
  ·refine ⟨_,rfl,_,_,rfl,rfl,(by show (0:Int) < 3;decide),rfl,_,rfl,?_⟩
   by_cases c1:cellN ns 0 / 5 % 3=1
   ·refine iteDT (congrArg V.int c1) ?_
    refine ⟨_,rfl,l,_,rfl,.inl (SqL.of hl),_,_,rfl,rfl,_,rfl,?_⟩
    by_cases c2:((nV os).length:Int) < 7
    ·refine iteDT c2 ?_
     exact ⟨_,rfl,_,rfl,l,_,rfl,.inl (SqL.of hl),a,ns,7,n,(by rw [show ((nV os).length:Int)=((n:Nat):Int) by omega];rfl),hS,n2,n7,fun b H1 ot s1 hb _ io t lt=>k b H1 ot n s1 hb ⟨io,t,lt⟩ ⟨n2,n7⟩⟩
    ·exact iteD c2 ⟨rfl,rfl⟩
   ·exact iteD (fun z=>c1 (V.int.inj z)) (iteF ⟨rfl,rfl⟩)
  rintro σ _ ⟨rfl,rfl⟩
  refine ⟨fun σ' H'=>σ'=[some (.ref a),some (.ref l),some (.int (cellN ns 0 / 5)),none]∧H=H',?_,?_⟩
  ·refine ⟨_,rfl,_,_,rfl,rfl,(by show (0:Int) < 9;decide),rfl,_,rfl,?_⟩
   by_cases c1:cellN ns 0 / 5 % 9=2
   ·refine iteDT (congrArg V.int c1) ?_
    refine ⟨_,rfl,l,_,rfl,.inl (SqL.of hl),_,_,rfl,rfl,_,rfl,?_⟩
    by_cases c2:((nV os).length:Int) < 7
    ·refine iteDT c2 ?_
     exact ⟨_,rfl,_,rfl,l,_,rfl,.inl (SqL.of hl),_,_,rfl,rfl,a,ns,7,n + 1,(by show [V.ref a,V.int 7,V.int (((nV os).length:Int) + 1)]=_;rw [show ((nV os).length:Int) + 1=((n + 1:Nat):Int) by omega];rfl),hS,by omega,by omega,fun b H1 ot s1 hb _ io t lt=>k b H1 ot (n + 1) s1 hb ⟨io,t,lt⟩ ⟨by omega,by omega⟩⟩
    ·exact iteD c2 ⟨rfl,rfl⟩
   ·exact iteD (fun z=>c1 (V.int.inj z)) (iteF ⟨rfl,rfl⟩)
  rintro σ _ ⟨rfl,rfl⟩
  obtain ⟨cs,ec,lcs⟩:=cut_ints ns (some 7) none
  refine ⟨_,rfl,_,rfl,a,_,rfl,hS,fun q hq=>?_⟩
  rw [ec]
  have u1:=J4 (o:=.lst (iV cs)) hq
  refine ⟨q,rfl,⟨_,SqL.of upd_same⟩,J3h (K:=K) (a:=q) (xs:=iV cs) (fun i σ Hw=>∃ (v:Option V) (b:Addr) (ot:List Nat),σ=[some (.ref a),some (.ref b),some (.int (cellN ns 0 / 5)),v]∧Hw b=some (.lst (nV ot))∧OkO n ot∧Hw q=some (.lst (iV cs))∧Same H Hw)
   ⟨none,l,os,rfl,u1 _ _ hl,ok,upd_same,u1⟩ (fun i σ Hw _ ⟨_,_,_,_,_,_,e,_⟩=>SqL.of e) ?_ ?_⟩
  ·rintro i v σ Hw hv ⟨v3,b,ot,rfl,hb,okt,hqw,sw⟩
   obtain ⟨c,_,rfl⟩:=List.mem_map.mp (List.mem_of_getElem? hv)
   refine ⟨_,rfl,b,ot,n,rfl,hb,okt,n2,n7,fun b1 H1 s1 hb1=>?_⟩
   refine ⟨_,rfl,b,ot,n,rfl,s1 _ _ hb,okt,n2,n7,fun b2 H2 s2 hb2=>?_⟩
   refine ⟨(by show 2≤sizeLine;decide),fun e he=>?_⟩
   have s3:=J4 (o:=.lst [V.ref b1,V.ref b2]) he
   have s13:=s1.trans (s2.trans s3)
   have c0:=Int.emod_nonneg c (show (2:Int)≠0 by decide)
   have c1:=Int.emod_lt_of_pos c (show (0:Int) < 2 by decide)
   obtain ⟨b0,w0,eb,hb0⟩:∃ (b0:Addr) (w0:Bool),atI [V.ref b1,V.ref b2] (c % 2)=some (.ref b0)∧(upd H2 e (.lst [V.ref b1,V.ref b2])) b0=some (.lst (nV (stepO w0 ot))):=by
    obtain z | z:c % 2=0∨c % 2=1:=by omega
    ·exact ⟨b1,true,by rw [z];rfl,s3 _ _ (s2 _ _ hb1)⟩
    ·exact ⟨b2,false,by rw [z];rfl,s3 _ _ hb2⟩
   refine ⟨_,rfl,_,_,rfl,rfl,(by show (0:Int) < 2;decide),e,_,_,_,rfl,rfl,SqL.of upd_same,eb,?_⟩
   exact ⟨_,b0,_,rfl,hb0,okt.step n2 w0,s13 _ _ hqw,sw.trans s13⟩
  ·rintro σ Hw ⟨v3,b,ot,rfl,hb,okt,hqw,sw⟩
   exact ⟨_,rfl,k b Hw ot n sw hb okt ⟨n2,n7⟩⟩
end
end R62
namespace R62
open PySem L2 Rl
section
variable {P:Program} {w:World} {K:PySem.W.Frag} {mg:Str→Option Value} {base:Heap}
theorem downV:((List.range 7).map fun (i:Nat)=>(6:Int) + (i:Int) * (-1)).map V.int=nV [6,5,4,3,2,1,0]:=by rfl
def spLaw (K:PySem.W.Frag):Sp:=fun vs H Q _=>∃ (a:Addr) (ns:List Int),vs=[.ref a]∧SqL K H a (iV ns)∧ns.length≤63∧∀ H',Q (.bl true) H'
theorem scLaw:FnScope ["script","one","two","handed","found","steps","order","word"] ["script"] (Ja sLaw):=⟨rfl,rfl,rfl,by decide +kernel,rfl,by decide +kernel,by decide +kernel⟩
theorem ok_law {f fC fLO2 fSE fLD fST fOL fUL CB CLo:Addr} {fd fdC fdLO2 fdSE fdLD fdST fdOL fdUL:FuncData}  (F:Fun K "law" "law" sLaw f fd) (T:TxtR mg) (hisi:mg "isinstance"=none)
  (GC:FnOk P w K mg base CX0 1 fC fdC ["script","k"] (spCell K)) (bC:Binds K fdC ["script","k"] []) (mC:mg "_law_cell"=some (.ref fC)) (kC:PySem.W.keepIn K (.ref fC)=true)
  (GLO2:FnOk P w K mg base CX0 2 fLO2 fdLO2 ["script","at","many"] (spOrder K)) (bLO2:Binds K fdLO2 ["script","at","many"] []) (mLO2:mg "_law_order"=some (.ref fLO2)) (kLO2:PySem.W.keepIn K (.ref fLO2)=true)
  (GSE:FnOk P w K mg base CX0 3 fSE fdSE ["script","order"] (spSecond K)) (bSE:Binds K fdSE ["script","order"] []) (mSE:mg "_law_second"=some (.ref fSE)) (kSE:PySem.W.keepIn K (.ref fSE)=true)
  (GLD:FnOk P w K mg base (Exc1 P w) 4 fLD fdLD ["one","two"] (spLedG CB CLo)) (bLD:Binds K fdLD ["one","two"] []) (mLD:mg "led"=some (.ref fLD)) (kLD:PySem.W.keepIn K (.ref fLD)=true)
  (GST:FnOk P w K mg base CX0 2 fST fdST ["order"] (spStepsL K)) (bST:Binds K fdST ["order"] []) (mST:mg "_law_steps"=some (.ref fST)) (kST:PySem.W.keepIn K (.ref fST)=true)
  (GOL:FnOk P w K mg base CX0 1 fOL fdOL ["order"] (spOverL K)) (bOL:Binds K fdOL ["order"] []) (mOL:mg "_law_over"=some (.ref fOL)) (kOL:PySem.W.keepIn K (.ref fOL)=true)
  (GUL:FnOk P w K mg base CX0 1 fUL fdUL ["order"] (J3b K)) (bUL:Binds K fdUL ["order"] []) (mUL:mg "_law_under"=some (.ref fUL)) (kUL:PySem.W.keepIn K (.ref fUL)=true) :
  FnOk P w K mg base CX0 5 f fd ["script"] (spLaw K):=by
 refine F.ok scLaw (fun vs H Q E h=>?_) (fun cdv A outer s H vs Q E hr h=>?_)
 ·obtain ⟨a,ns,rfl,_⟩:=h
  rfl
 ·obtain ⟨a,ns,rfl,hS,hn,k⟩:=h
  have hr1:Room 1 _:=hr.mono (by decide)
  have hr2:Room 2 _:=hr.mono (by decide)
  have hr3:Room 3 _:=hr.mono (by decide)
  have hr4:Room 4 _:=hr.mono (by decide)
  have hu:=hr.units0
  have hu1:=Nat.lt_of_le_of_lt (Nat.add_le_add_left (by decide:1≤64) _) hr.units
  refine ⟨_,(J2 (Jj (i:=1) scLaw.nd rfl (Or.inl rfl) (Jh GLO2 hr2 rfl mLO2 kLO2 bLO2 .nil pass0 (J0 (pv 0) (J0 Jb (J0 (pe_op J2v Jb (pe_op op_mod (Jh GC hr1 rfl mC kC bC .nil pass0 (J0 (pv 0) (J0 Jb J6))) Jb)) J6)))))
   (J2 (ps_cut (ps_if (Jp op_eq (pe_op op_mod (Jh GC hr1 rfl mC kC bC .nil pass0 (J0 (pv 0) (J0 Jb J6))) Jb) Jb (Jw _)) (J8 (Jj (i:=1) scLaw.nd rfl (Or.inl rfl) (pe_lrng rfl rfl T.list rfl T.range (J0 Jb (J0 (pe_un J39 Jb) (J0 (pe_un J39 Jb) J6)))))) Ju))
   (J2 (Jj (i:=2) scLaw.nd rfl (Or.inl rfl) (Jh GSE hr3 rfl mSE kSE bSE .nil pass0 (J0 (pv 0) (J0 (Jg Jy (by rfl) T.list PyProof.Rows.boot_list (J0 (pv 1) J6)) J6))))
   (J2 (Jj (i:=3) scLaw.nd rfl (Or.inl rfl) (J2j (J0 (Jg Jy (by rfl) T.list PyProof.Rows.boot_list (J0 (pv 1) J6)) (J0 (Jg Jy (by rfl) T.list PyProof.Rows.boot_list (J0 (pv 2) J6)) J6))))
   (J2 (ps_cut (Jj (i:=4) scLaw.nd rfl (Or.inl rfl) (Jh GLD hr4 rfl mLD kLD bLD .nil passF (J0 (pe_ix J1s (pv 3) Jb (fun _ _=>rfl)) (J0 (pe_ix J1s (pv 3) Jb (fun _ _=>rfl)) J6)))))
   (J2 (Jj (i:=5) scLaw.nd rfl (Or.inl rfl) (Jh GST hr2 rfl mST kST bST .nil pass0 (J0 (pv 1) J6)))
   (J2 (ps_if (Jp (op_neLL hu1) (pv 3) (J2j (J0 (pv 1) (J0 (pv 2) J6))) (Jw _)) (J8 (Jv pe_bl)) Ju)
   (J2 (ps_if (pt_cmp (J26 hu1 (Jg J1a (by rfl) T.tuple PyProof.Rows.boot_tuple (J0 (pv 2) J6)) (pv 5))) (J8 (Jv (pe_cmpR op_isN (pv 4) pe_non (Jw _)))) Ju)
   (J2 (ps_if (PW.pt (pw_or (pt_not (pt_val (Je (call_isinst rfl) (by rfl) hisi PyProof.Rows.boot_isinstance (J0 (pv 4) (J0 (pe_bltn (v:=.ty "list") rfl T.list PyProof.Rows.boot_list rfl) J6))))) (pw_or1 (Jp op_ne (Je J7 (by rfl) T.len PySem.boot_len (J0 (pv 4) J6)) (pe_dget hu1 (pv 5) (Jg J1a (by rfl) T.tuple PyProof.Rows.boot_tuple (J0 (pv 2) J6)) (fun _ _=>rfl)) (Jw _))))) (J8 (Jv pe_bl)) Ju)
   (J2 (Jj (i:=6) scLaw.nd rfl (Or.inl rfl) (Jg Jy (by rfl) T.list PyProof.Rows.boot_list (J0 (pv 1) J6)))
   (J2 (J49 PassesOwn.never rfl (J3q (pv 4)) (J1o (i:=7) scLaw.nd rfl (Or.inl rfl))
    (J8 (ps_if (Jp op_eq (pv 7) pe_str (Jw _)) (J8 (Jj (i:=6) scLaw.nd rfl (Or.inl rfl) (Jh GOL hr1 rfl mOL kOL bOL .nil pass0 (J0 (pv 6) J6)))) (J8 (ps_if (Jp op_eq (pv 7) pe_str (Jw _)) (J8 (Jj (i:=6) scLaw.nd rfl (Or.inl rfl) (Jh GUL hr1 rfl mUL kUL bUL .nil pass0 (J0 (pv 6) J6)))) (J8 (Jv pe_bl)))))))
   (J8 (Jv (pe_cmpR (op_eqL hu) (pv 6) (pv 2) (Jw _))))))))))))))),?_⟩
  have c0:=Int.emod_nonneg (cellN ns 0) (show (5:Int)≠0 by decide)
  have c1:=Int.emod_lt_of_pos (cellN ns 0) (show (0:Int) < 5 by decide)
  obtain ⟨n0,em⟩:∃ n0:Nat,2 + cellN ns 0 % 5=(n0:Int):=⟨(2 + cellN ns 0 % 5).toNat,by omega⟩
  refine ⟨_,rfl,_,rfl,a,ns,0,rfl,hS,_,_,rfl,rfl,(by show (0:Int) < 5;decide),_,_,rfl,rfl,a,ns,1,n0,?_,hS,by omega,by omega,fun l0 H1 os0 s1 hl0 hln io t lo=>?_⟩
  ·rw [← em];rfl
  have hS1:=s1.seq hS
  refine ⟨fun σ' H'=>∃ (l:Addr) (os:List Nat) (n:Nat),σ'=[some (.ref a),some (.ref l),none,none,none,none,none,none]∧H' l=some (.lst (nV os))∧OkO n os∧2≤n∧n≤7∧Same H1 H',?_,?_⟩
  ·refine ⟨_,rfl,a,ns,0,rfl,hS1,_,_,rfl,rfl,(by show (0:Int) < 31;decide),rfl,_,rfl,?_⟩
   by_cases c:cellN ns 0 % 31=30
   ·refine iteDT (congrArg V.int c) ?_
    refine ⟨_,rfl,_,rfl,6,-1,-1,7,rfl,by decide,(by decide +kernel),(by decide +kernel),(by decide +kernel),by decide,fun l hl=>?_⟩
    exact ⟨l,[6,5,4,3,2,1,0],7,rfl,upd_same.trans (congrArg (fun z=>some (HO.lst z)) downV),okDown,by decide,by decide,J4 hl⟩
   ·refine iteD (fun z=>c (V.int.inj z)) ?_
    exact ⟨l0,os0,n0,rfl,hl0,⟨io,t,lo⟩,by omega,by omega,Same.refl _⟩
  rintro σ H2 ⟨l,os,n,rfl,hl,ok,n2,n7,s2⟩
  have hS2:=s2.seq hS1
  refine ⟨_,rfl,_,rfl,l,_,rfl,.inl (SqL.of hl),fun l2 hl2=>?_⟩
  have u1:=J4 (o:=.lst (nV os)) hl2
  refine ⟨a,l2,ns,os,n,rfl,u1.seq hS2,upd_same,ok,n2,n7,fun b H3 ot m s3 hb okt hm=>?_⟩
  have hl3:=s3 _ _ (u1 _ _ hl)
  refine ⟨_,rfl,l,_,rfl,.inl (SqL.of hl3),fun h1 hh1=>?_⟩
  have u2:=J4 (o:=.lst (nV os)) hh1
  refine ⟨_,rfl,b,_,rfl,.inl (SqL.of (u2 _ _ hb)),fun h2 hh2=>?_⟩
  have u3:=J4 (o:=.lst (nV ot)) hh2
  refine ⟨(by show 2≤sizeLine;decide),fun hd hhd=>?_⟩
  have u4:=J4 (o:=.lst [V.ref h1,V.ref h2]) hhd
  have u24:=u2.trans (u3.trans u4)
  have g0:upd (upd (upd H3 h1 (.lst (nV os))) h2 (.lst (nV ot))) hd (.lst [V.ref h1,V.ref h2]) hd=some (.lst [V.ref h1,V.ref h2]):=upd_same
  have g1:=u4 _ _ (u3 h1 _ upd_same)
  have g2:=u4 h2 _ upd_same
  have gl:=u24 _ _ hl3
  have gb:=u24 _ _ hb
  generalize upd (upd (upd H3 h1 (.lst (nV os))) h2 (.lst (nV ot))) hd (.lst [V.ref h1,V.ref h2])=H4 at *
  refine ⟨fun σ' H'=>∃ (fv:V) (ks:List (List Nat)) (dist:List Nat→Nat),σ'=[some (.ref a),some (.ref l),some (.ref b),some (.ref hd),some fv,none,none,none]∧Same H4 H'∧Fam os ks dist∧((ot ∉ ks∧fv=.non)∨(ot∈ks∧∃ r ws,fv=.ref r∧H' r=some (.lst (sV ws))∧appW ws os=ot∧ws.length=dist ot)),?_,?_⟩
  ·refine ⟨_,rfl,hd,_,_,_,rfl,rfl,SqL.of g0,J22 (j:=0) rfl,_,rfl,hd,_,_,_,rfl,rfl,SqL.of g0,J22 (j:=1) rfl,h1,h2,os,ot,n,m,rfl,.inl g1,.inl g2,ok,okt,⟨n2,n7⟩,hm,fun ks dist Fm=>⟨fun hin H5 s5=>?_,fun hin r H5 ws s5 hr eap el=>?_⟩⟩
   ·exact ⟨_,ks,dist,rfl,s5,Fm,.inl ⟨hin,rfl⟩⟩
   ·exact ⟨_,ks,dist,rfl,s5,Fm,.inr ⟨hin,r,ws,rfl,hr,eap,el⟩⟩
  rintro σ H5 ⟨fv,ks,dist,rfl,s5,Fm,hf⟩
  refine ⟨_,rfl,l,os,n,rfl,s5 _ _ gl,ok,n2,n7,fun d H6 kvs ks2 dist2 s6 hd6 K6 Fm2 V6=>?_⟩
  have s56:=s5.trans s6
  refine ⟨_,rfl,_,rfl,_,rfl,(by show 2≤sizeLine;decide),fun e he=>?_⟩
  have s7:=J4 (o:=.lst [V.ref l,V.ref b]) he
  have s57:=s56.trans s7
  refine ⟨hd,e,[h1,h2],[l,b],rfl,rfl,SqL.of (s57 _ _ g0),SqL.of upd_same,rfl,fun j x y hx hy=>?_,_,rfl,iteF ?_⟩
  ·rcases j with _ | _ | j
   ·cases hx;cases hy
    exact ⟨nV os,SqL.of (s57 _ _ g1),SqL.of (s57 _ _ gl),Kin.ints _ _⟩
   ·cases hx;cases hy
    exact ⟨nV ot,SqL.of (s57 _ _ g2),SqL.of (s57 _ _ gb),Kin.ints _ _⟩
   ·cases hx
  have hd7:=s7 _ _ hd6
  refine ⟨_,rfl,J18 (.inl (s57 _ _ gb)) fun tq H8 s8 ht=>?_⟩
  refine ⟨_,rfl,d,_,rfl,DGet.t (s8 _ _ hd7) (by rw [J23];exact ht),_,rfl,?_⟩
  obtain ⟨same1,same2⟩:=Fm.same Fm2 ot
  by_cases hin:ot ∉ ks2
  ·rw [J25 fun z=>hin (K6.in_.mp z)]
   refine iteT ?_
   have hn1:fv=.non:=by
    rcases hf with ⟨_,z⟩ | ⟨z,_⟩
    ·exact z
    ·exact (hin (same1.mp z)).elim
   subst hn1
   refine ⟨_,rfl,rfl,?_⟩
   rw [decide_eq_true rfl]
   exact k _
  have hin:ot∈ks2:=Classical.not_not.mp hin
  rw [J24 (K6.in_.mpr hin)]
  refine iteF ?_
  obtain ⟨hin1,r,ws,rfl,hr,eap,el⟩:ot∈ks∧∃ r ws,fv=.ref r∧H5 r=some (.lst (sV ws))∧appW ws os=ot∧ws.length=dist ot:=by
   rcases hf with ⟨z,_⟩ | z
   ·exact (z (same1.mpr hin)).elim
   ·exact z
  have hr8:=s8 _ _ (s7 _ _ (s6 _ _ hr))
  refine ⟨_,rfl,_,.ty "list",.type "list",.type "list",true,rfl,rfl,fun v h=>h,.lst hr8,rfl,true,rfl,iteF ?_⟩
  refine ⟨_,rfl,r,_,rfl,.inl (SqL.of hr8),_,rfl,_,rfl,J18 (.inl (s8 _ _ (s57 _ _ gb))) fun tq2 H9 s9 ht2=>?_⟩
  have dg:DGet H9 d (.ref tq2) (some (.int (dist2 ot:Nat))):=by rw [← V6 ot hin];exact DGet.t (s9 _ _ (s8 _ _ hd7)) (by rw [J23];exact ht2)
  have lws:(sV ws).length=ws.length:=List.length_map ..
  refine ⟨d,_,rfl,dg,rfl,_,rfl,iteNS (by rw [lws,el,same2 hin1]) ?_⟩
  have s89:=s8.trans s9
  have s59:=s57.trans s89
  have hr9:=s9 _ _ hr8
  refine ⟨_,rfl,l,_,rfl,.inl (SqL.of (s59 _ _ gl)),fun q hq=>?_⟩
  have s10:=J4 (o:=.lst (nV os)) hq
  refine ⟨_,rfl,r,rfl,⟨_,SqL.of (s10 _ _ hr9)⟩,J3h (K:=K) (a:=r) (xs:=sV ws) (fun i σ Hw=>∃ (v7:Option V) (b':Addr),σ=[some (.ref a),some (.ref l),some (.ref b),some (.ref hd),some (.ref r),some (.ref d),some (.ref b'),v7]∧Hw b'=some (.lst (nV (appW (ws.take i) os)))∧OkO n (appW (ws.take i) os)∧Same H9 Hw)
   ⟨none,q,rfl,upd_same,ok,s10⟩ (fun i σ Hw _ ⟨_,_,_,_,_,sw⟩=>SqL.of (sw _ _ hr9)) ?_ ?_⟩
  ·rintro i v σ Hw hv ⟨v7,b',rfl,hb',okb,sw⟩
   have hi:i < ws.length:=by have:=(List.getElem?_eq_some_iff.mp hv).1;rwa [lws] at this
   obtain ⟨w,ew,rfl⟩:∃ w,ws[i]?=some w∧v=V.str (wS w):=by
    rw [List.getElem?_map,List.getElem?_eq_getElem hi] at hv
    exact ⟨_,List.getElem?_eq_getElem hi,(Option.some.inj hv).symm⟩
   have et:appW (ws.take (i + 1)) os=stepO w (appW (ws.take i) os):=by rw [List.take_succ,ew];exact appW_snoc _ _ _
   cases w with
   | true =>
    refine ⟨_,rfl,rfl,_,rfl,iteDT rfl ?_⟩
    exact ⟨_,rfl,b',_,n,rfl,hb',okb,n2,n7,fun b2 Hn sn hb2=>⟨_,b2,rfl,by rw [et];exact hb2,by rw [et];exact okb.step n2 true,sw.trans sn⟩⟩
   | false =>
    refine ⟨_,rfl,rfl,_,rfl,iteD (fun z=>absurd (V.str.inj z) (by decide)) ?_⟩
    refine ⟨_,rfl,rfl,_,rfl,iteDT rfl ?_⟩
    exact ⟨_,rfl,b',_,n,rfl,hb',okb,n2,n7,fun b2 Hn sn hb2=>⟨_,b2,rfl,by rw [et];exact hb2,by rw [et];exact okb.step n2 false,sw.trans sn⟩⟩
  ·rintro σ Hw ⟨v7,b',rfl,hb',okb,sw⟩
   rw [lws,List.take_length,eap] at hb'
   refine ⟨_,rfl,_,rfl,b',b,_,_,rfl,rfl,SqL.of hb',SqL.of (sw _ _ (s59 _ _ gb)),Kin.ints _ _,?_⟩
   rw [decide_eq_true rfl]
   exact k _
end
end R62
namespace R62
open PySem L2 Rl
abbrev DfI (K:PySem.W.Frag) (x:Str) (st:Stmt) (f:Addr) (od an:Option Addr) (sl:Array (Option Value)) (oc kV dc pm cd ct:Value):Prop:=PySem.W.nsIn K mainGlobals x=some (some (.ref f))∧K.lookup f=some ⟨oc,od,.func (PySem.W.fnOf x x (J2r st) (J1t st) (Ja st) .none kV dc pm an cd ct),sl⟩∧PySem.W.codeIn K cd x=true∧PySem.W.keepIn K (.ref f)=true
abbrev NzI (K:PySem.W.Frag) (x:Str):Prop:=PySem.W.nsIn K mainGlobals x=some none
theorem dfn {K:PySem.W.Frag} {h:Heap} {mg:Str→Option Value} (X:K.In h) (G:h.Ns mainGlobals mg) {x:Str} {st:Stmt} {f:Addr} {od an:Option Addr} {sl:Array (Option Value)} {oc kV dc pm cd ct:Value} (d:DfI K x st f od an sl oc kV dc pm cd ct) :
  Fun K x x st f (PySem.W.fnOf x x (J2r st) (J1t st) (Ja st) .none kV dc pm an cd ct)∧mg x=some (.ref f)∧PySem.W.keepIn K (.ref f)=true:=⟨fun_mk d.2.1 d.2.2.1 d.2.2.2,PySem.W.mg_of X G d.1,d.2.2.2⟩
theorem all_mk {l : PySem.W.OpenLaw} {w : World} {K : PySem.W.Frag} {h : Heap} {mg : Str → Option Value} {fa  CBadOrder CLoose : Addr} (X : K.In h) (G : h.Ns mainGlobals mg) (hfa : mg "law" = some (.ref fa))
    {f0 f1 f2 f3 f4 f5 f6 f7 f8 f9 f10 f11 f12 f13 f14 f15 : Addr} {od0 an0 od1 an1 od2 an2 od3 an3 od4 an4 od5 an5 od6 an6 od7 an7 od8 an8 od9 an9 od10 an10 od11 an11 od12 an12 od13 an13 od14 an14 od15 an15 : Option Addr} {sl0 sl1 sl2 sl3 sl4 sl5 sl6 sl7 sl8 sl9 sl10 sl11 sl12 sl13 sl14 sl15 : Array (Option Value)} {oc0 kV0 dc0 pm0 cd0 ct0 oc1 kV1 dc1 pm1 cd1 ct1 oc2 kV2 dc2 pm2 cd2 ct2 oc3 kV3 dc3 pm3 cd3 ct3 oc4 kV4 dc4 pm4 cd4 ct4 oc5 kV5 dc5 pm5 cd5 ct5 oc6 kV6 dc6 pm6 cd6 ct6 oc7 kV7 dc7 pm7 cd7 ct7 oc8 kV8 dc8 pm8 cd8 ct8 oc9 kV9 dc9 pm9 cd9 ct9 oc10 kV10 dc10 pm10 cd10 ct10 oc11 kV11 dc11 pm11 cd11 ct11 oc12 kV12 dc12 pm12 cd12 ct12 oc13 kV13 dc13 pm13 cd13 ct13 oc14 kV14 dc14 pm14 cd14 ct14 oc15 kV15 dc15 pm15 cd15 ct15 : Value}
     {t_FEWEST : Tok} {t_MOST : Tok}
    (d0 : DfI K "refuse_order" sRefO f0 od0 an0 sl0 oc0 kV0 dc0 pm0 cd0 ct0) (d1 : DfI K "refuse_order_of" sRefOf f1 od1 an1 sl1 oc1 kV1 dc1 pm1 cd1 ct1) (d2 : DfI K "falls_apart" sFalls f2 od2 an2 sl2 oc2 kV2 dc2 pm2 cd2 ct2) (d3 : DfI K "order_told" sToldO f3 od3 an3 sl3 oc3 kV3 dc3 pm3 cd3 ct3) (d4 : DfI K "led_over" sLedO f4 od4 an4 sl4 oc4 kV4 dc4 pm4 cd4 ct4) (d5 : DfI K "number_under" sNumU f5 od5 an5 sl5 oc5 kV5 dc5 pm5 cd5 ct5) (d6 : DfI K "led_under" sLedU f6 od6 an6 sl6 oc6 kV6 dc6 pm6 cd6 ct6) (d7 : DfI K "words_from" sWordsF f7 od7 an7 sl7 oc7 kV7 dc7 pm7 cd7 ct7) (d8 : DfI K "led" sLed f8 od8 an8 sl8 oc8 kV8 dc8 pm8 cd8 ct8) (d9 : DfI K "_law_cell" sCell f9 od9 an9 sl9 oc9 kV9 dc9 pm9 cd9 ct9) (d10 : DfI K "_law_order" sOrder f10 od10 an10 sl10 oc10 kV10 dc10 pm10 cd10 ct10) (d11 : DfI K "_law_over" sOverL f11 od11 an11 sl11 oc11 kV11 dc11 pm11 cd11 ct11) (d12 : DfI K "_law_under" sUnderL f12 od12 an12 sl12 oc12 kV12 dc12 pm12 cd12 ct12) (d13 : DfI K "_law_steps" sStepsL f13 od13 an13 sl13 oc13 kV13 dc13 pm13 cd13 ct13) (d14 : DfI K "_law_second" sSecond f14 od14 an14 sl14 oc14 kV14 dc14 pm14 cd14 ct14) (d15 : DfI K "law" sLaw f15 od15 an15 sl15 oc15 kV15 dc15 pm15 cd15 ct15) (z_len : NzI K "len") (z_max : NzI K "max") (z_sorted : NzI K "sorted") (z_list : NzI K "list") (z_range : NzI K "range") (z_tuple : NzI K "tuple") (z_isinstance : NzI K "isinstance") (z_any : NzI K "any") (z_ValueError : NzI K "ValueError") (z_sum : NzI K "sum") (v_FEWEST : PySem.W.nsIn K mainGlobals "FEWEST" = some (some (.int 2 t_FEWEST))) (v_MOST : PySem.W.nsIn K mainGlobals "MOST" = some (some (.int 7 t_MOST))) (aBadOrder : PySem.W.nsIn K mainGlobals "BadOrder" = some (some (.ref CBadOrder))) (xBadOrder : PySem.W.excIn K CBadOrder bmV "ValueError.__new__" = true) (aLoose : PySem.W.nsIn K mainGlobals "Loose" = some (some (.ref CLoose))) (xLoose : PySem.W.excIn K CLoose bmV "ValueError.__new__" = true)
    : ∃ fd : FuncData, (∀ (s : Shared) (v : Value), BindsTo s fd ⟨[v], []⟩ [("script", v)]) ∧ ∀ base : Heap, K.In base → base.Ns mainGlobals mg → FnOk l.prog w K mg base CX0 5 fa fd ["script"] (spLaw K) := by
  have e := hfa.symm.trans (PySem.W.mg_of X G d15.1)
  cases e
  obtain ⟨F0, m0, k0⟩ := dfn X G d0
  have b0 := F0.binds (ps := ["order", "pieces"]) fun | _, _, _, _, _, _, [_, _], _ => rfl
  obtain ⟨F1, m1, k1⟩ := dfn X G d1
  have b1 := F1.binds (ps := ["order", "fewest", "most"]) fun | _, _, _, _, _, _, [_, _, _], _ => rfl
  obtain ⟨F2, m2, k2⟩ := dfn X G d2
  have b2 := F2.binds (ps := ["order"]) fun | _, _, _, _, _, _, [_], _ => rfl
  obtain ⟨F3, m3, k3⟩ := dfn X G d3
  have b3 := F3.binds (ps := ["order"]) fun | _, _, _, _, _, _, [_], _ => rfl
  obtain ⟨F4, m4, k4⟩ := dfn X G d4
  have b4 := F4.binds (ps := ["order"]) fun | _, _, _, _, _, _, [_], _ => rfl
  obtain ⟨F5, m5, k5⟩ := dfn X G d5
  have b5 := F5.binds (ps := ["order", "piece"]) fun | _, _, _, _, _, _, [_, _], _ => rfl
  obtain ⟨F6, m6, k6⟩ := dfn X G d6
  have b6 := F6.binds (ps := ["order"]) fun | _, _, _, _, _, _, [_], _ => rfl
  obtain ⟨F7, m7, k7⟩ := dfn X G d7
  have b7 := F7.binds (ps := ["order"]) fun | _, _, _, _, _, _, [_], _ => rfl
  obtain ⟨F8, m8, k8⟩ := dfn X G d8
  have b8 := F8.binds (ps := ["one", "two"]) fun | _, _, _, _, _, _, [_, _], _ => rfl
  obtain ⟨F9, m9, k9⟩ := dfn X G d9
  have b9 := F9.binds (ps := ["script", "k"]) fun | _, _, _, _, _, _, [_, _], _ => rfl
  obtain ⟨F10, m10, k10⟩ := dfn X G d10
  have b10 := F10.binds (ps := ["script", "at", "many"]) fun | _, _, _, _, _, _, [_, _, _], _ => rfl
  obtain ⟨F11, m11, k11⟩ := dfn X G d11
  have b11 := F11.binds (ps := ["order"]) fun | _, _, _, _, _, _, [_], _ => rfl
  obtain ⟨F12, m12, k12⟩ := dfn X G d12
  have b12 := F12.binds (ps := ["order"]) fun | _, _, _, _, _, _, [_], _ => rfl
  obtain ⟨F13, m13, k13⟩ := dfn X G d13
  have b13 := F13.binds (ps := ["order"]) fun | _, _, _, _, _, _, [_], _ => rfl
  obtain ⟨F14, m14, k14⟩ := dfn X G d14
  have b14 := F14.binds (ps := ["script", "order"]) fun | _, _, _, _, _, _, [_, _], _ => rfl
  obtain ⟨F15, m15, k15⟩ := dfn X G d15
  have b15 := F15.binds (ps := ["script"]) fun | _, _, _, _, _, _, [_], _ => rfl
  have T : TxtR mg := ⟨PySem.W.mg_none_of X G z_len, PySem.W.mg_none_of X G z_sum, PySem.W.mg_none_of X G z_tuple, PySem.W.mg_none_of X G z_list, PySem.W.mg_none_of X G z_range⟩
  have TBadOrder : TxtX K mg "BadOrder" CBadOrder := ⟨PySem.W.mg_of X G aBadOrder, xBadOrder⟩
  have TLoose : TxtX K mg "Loose" CLoose := ⟨PySem.W.mg_of X G aLoose, xLoose⟩
  refine ⟨PySem.W.fnOf "law" "law" (J2r sLaw) (J1t sLaw) (Ja sLaw) .none kV15 dc15 pm15 an15 cd15 ct15, fun s v => .of_eq rfl, fun base _ _ => ?_⟩
  have GC := ok_cell (P := l.prog) (w := w) (base := base) F9 T
  have GRO := ok_refOE (P := l.prog) (w := w) (base := base) F0 T (PySem.W.mg_none_of X G z_sorted) TBadOrder
  have GRF := ok_refOf F1 T TBadOrder GRO b0 m0 k0
  have GFA := ok_falls (P := l.prog) (w := w) (base := base) F2 T (PySem.W.mg_none_of X G z_any) (PySem.W.mg_none_of X G z_max)
  have GOT := ok_toldO F3 T TLoose (PySem.W.mg_of X G v_FEWEST) (PySem.W.mg_of X G v_MOST) GRF b1 m1 k1 GFA b2 m2 k2
  have GLO := ok_ledO (P := l.prog) (w := w) (base := base) F4 T
  have GNU := ok_numU (P := l.prog) (w := w) (base := base) F5 T
  have GLU := ok_ledU F6 T GNU b5 m5 k5
  have GWF := ok_wordsG F7 GLO b4 m4 k4 GLU b6 m6 k6
  have GLD := ok_ledG F8 GOT b3 m3 k3 GWF b7 m7 k7
  have GLR := ok_orderT F10 T (PySem.W.mg_none_of X G z_max) GC b9 m9 k9
  have GOL := ok_overL (P := l.prog) (w := w) (base := base) F11 T
  have GUL := ok_underL (P := l.prog) (w := w) (base := base) F12 T
  have GST := ok_stepsL F13 T GOL b11 m11 k11 GUL b12 m12 k12
  have GSE := ok_second F14 T GC b9 m9 k9 GLR b10 m10 k10 GOL b11 m11 k11 GUL b12 m12 k12
  exact ok_law F15 T (PySem.W.mg_none_of X G z_isinstance) GC b9 m9 k9 GLR b10 m10 k10 GSE b14 m14 k14 GLD b8 m8 k8 GST b13 m13 k13 GOL b11 m11 k11 GUL b12 m12 k12
theorem walk {l:PySem.W.OpenLaw} {q:Program} {loose:List Str} {XP:(Str→Option Value)→Heap→Prop} {YP:World→Heap→Prop} {d:DefRec} {K:Params→PySem.W.Frag} (hn:l.most=some 63) (hdf:d.params.defaults=[])
  (hY:∀ (w:World) (h:Heap),YP w h→(K w.params).In h)
  (F:∀ (w:World) (mg:Str→Option Value) (fa:Addr) (h:Heap),(K w.params).In h→h.Ns mainGlobals mg→mg d.name=some (.ref fa)→
   ∃ fd:FuncData,(∀ (s:Shared) (u:Value),BindsTo s fd ⟨[u],[]⟩ [("script",u)])∧∀ base:Heap,(K w.params).In base→base.Ns mainGlobals mg→FnOk l.prog w (K w.params) mg base CX0 5 fa fd ["script"] (spLaw (K w.params))) :
  PySem.W.WalkO q loose XP YP l.row.toRowW d [] (fun f vs=>PySem.call f vs) :=
 L2.walk_of (n:=63) (k:=5) (x:="script") (CX:=fun _=>CX0) (sp:=fun w=>spLaw (K w.params)) hn (by decide) hdf ⟨rfl,by decide,by decide⟩ hY F (fun _ _ a ns hl _ hS=>⟨a,ns,rfl,hS,hl,fun _=>rfl⟩) fun _ _ _ _ _ z=>z
end R62
open PySem PySem.W PyProof.Rows
namespace PySem.W.Fast
def tw7172610203226605764:=()
def tw5778129914989949289:=()
def tw15935550226012437654:=()
def tw239952799102697424:=()
def tw6757541960361900758:=()
def tw5026012852995469736:=()
end PySem.W.Fast
namespace PySem.W.Fast
def tw10983044078295308721:=()
def tw5102965598835288844:=()
def tw15294554332169309505:=()
def tw12564079940768401477:=()
def tw10949929784545605884:=()
def tw4387559674468615464:=()
def tw762558587115367716:=()
def tw8223171854831660628:=()
def tw2580121696698438493:=()
def tw12607929623749203302:=()
def tw5861048775475211551:=()
def tw16392709439179943514:=()
def tw3431163487300313959:=()
def tw16346880908827715881:=()
def tw1072511153492854998:=()
def tw1419615851500929500:=()
def tw1155214216737865111:=()
def tw7510690250713117352:=()
def tw1204456617824634209:=()
def tw9934051609452508680:=()
def tw12685115665960472357:=()
def tw3580976553859739231:=()
def tw13527101528861710178:=()
def tw14009766029935140639:=()
def tw8868411890040336400:=()
def tw8915544130686757153:=()
def tw1878912867170525652:=()
def tw11917138770763703551:=()
def tw6906543506726262961:=()
def tw11305210723650730278:=()
def tw119470677137438018:=()
def tw17912456783850952327:=()
def tw14425916163075359448:=()
def tw15315101839769188049:=()
def tw11289315117813651100:=()
def tw18008005981652991276:=()
def tw8359545065281817683:=()
def tw12425034696972655256:=()
def tw6482054639504384925:=()
def tw10185386847511137240:=()
def tw6142546193346153209:=()
def tw17454820603899842069:=()
def tw1476239709874880877:=()
def tw10042938001301368596:=()
def tw4129580246766126580:=()
def tw3042027977803417367:=()
def tw10305458863491873153:=()
def tw13191462579553945292:=()
def tw10053069647030116339:=()
def tw9672442429741320620:=()
def tw12833645717390021628:=()
def tw16633993828852411310:=()
def tw13317247022027657239:=()
def tw18263358268371845733:=()
def tw3783433912993881676:=()
def tw13423097109497252474:=()
def tw6114816751231851318:=()
def tw18297361065885101443:=()
def tw8349826133388266689:=()
def tw16535423039409549605:=()
def tw11972030825371606929:=()
def tw12711157820816520913:=()
def tw16638690522520792011:=()
def tw5169313065393122439:=()
def tw10972701350508343853:=()
def tw12881610518478124461:=()
def tw2548146933856994969:=()
def tw11835398234144348335:=()
def tw13272525096230551124:=()
def tw7339382431830127466:=()
def tw5842188553208846096:=()
end PySem.W.Fast
set_option maxRecDepth 100000 in
set_option maxHeartbeats 0 in
theorem PySem.Challenge.cw_relaid_k62_whole_ways_led_holds : PySem.Challenge.rw_relaid_k62_whole_ways_led.Holds := by
  w_on; o_law; k_head; (case hw => w_witness2)
  k_fill
  refine R62.walk (l := PySem.Challenge.rw_relaid_k62_whole_ways_led) rfl rfl (fun w h Y => PySem.W.kIn_of Y) ?F
  case F =>
    intro w mg fa h KX G hmg
    refine' R62.all_mk KX G hmg ?d0 ?d1 ?d2 ?d3 ?d4 ?d5 ?d6 ?d7 ?d8 ?d9 ?d10 ?d11 ?d12 ?d13 ?d14 ?d15 ?z_len ?z_max ?z_sorted ?z_list ?z_range ?z_tuple ?z_isinstance ?z_any ?z_ValueError ?z_sum ?v_FEWEST ?v_MOST ?aBadOrder ?xBadOrder ?aLoose ?xLoose
    case d0 | d1 | d2 | d3 | d4 | d5 | d6 | d7 | d8 | d9 | d10 | d11 | d12 | d13 | d14 | d15 => (refine ⟨?_, ?_, ?_, ?_⟩; k_is; k_is; k_is; k_is)
    case z_len | z_max | z_sorted | z_list | z_range | z_tuple | z_isinstance | z_any | z_ValueError | z_sum => (show _ = _; k_is)
    case v_FEWEST | v_MOST | aBadOrder => k_is
    case xBadOrder => k_exc
    case aLoose => k_is
    case xLoose => k_exc
#print axioms PySem.Challenge.cw_relaid_k62_whole_ways_led_holds
