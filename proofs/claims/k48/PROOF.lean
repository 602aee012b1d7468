import PyProof.Rows.All
import Wide.All
import OpenK.AllK
import Wide.FinOn
import Lean
import PyProof.EqAt
import PyProof.EqKinds
import PyProof.TupleCall
import KE.KSortKey
import KE.KLam
import KE.KNestM
import PySem.Challenge.RW_relaid_k48_joins_refused
set_option Elab.async false
set_option linter.all false
set_option maxRecDepth 100000
set_option maxHeartbeats 4000000
namespace L2
open PySem PySem.Spec PyProof.Rows
abbrev Key:=Sum Int Str
def keyIs:Key→Value→Bool
 | .inl k,v=>Value.isInt k v
 | .inr x,v=>Value.isStrOf x v
def keyH (w:World):Key→Int
 | .inl k=>hashInt k
 | .inr x=>hashStr w x
theorem J12:∀ {k:Key} {v:Value},keyIs k v=true→(∃ i t,k=Sum.inl i∧v=Value.int i t)∨(∃ x t,k=Sum.inr x∧v=Value.str x t)
 | .inl i,v,h=>by
  obtain ⟨t,e⟩:=Value.isInt_shape (k:=i) (v:=v) h
  exact .inl ⟨i,t,rfl,e⟩
 | .inr x,v,h=>by
  obtain ⟨t,e⟩:=Value.isStrOf_shape (x:=x) (v:=v) h
  exact .inr ⟨x,t,rfl,e⟩
theorem keyIs_int (i:Int) (t:Tok):keyIs (.inl i) (.int i t)=true:=by simp [keyIs,Value.isInt]
theorem keyIs_str (x:Str) (t:Tok):keyIs (.inr x) (.str x t)=true:=by simp [keyIs,Value.isStrOf]
theorem key_ll (a b:Int):decide ((Sum.inl a:Key)=Sum.inl b)=(a == b):=by
 by_cases e:a=b
 ·subst e;simp
 ·have h:¬ (Sum.inl a:Key)=Sum.inl b:=fun q=>e (Sum.inl.inj q)
  rw [decide_eq_false h]
  exact (beq_eq_false_iff_ne.mpr e).symm
theorem key_rr (a b:Str):decide ((Sum.inr a:Key)=Sum.inr b)=decide (a=b):=by
 by_cases e:a=b
 ·subst e;simp
 ·have h:¬ (Sum.inr a:Key)=Sum.inr b:=fun q=>e (Sum.inr.inj q)
  rw [decide_eq_false h,decide_eq_false e]
theorem key_lr (a:Int) (b:Str):decide ((Sum.inl a:Key)=Sum.inr b)=false:=decide_eq_false (fun q=>nomatch q)
theorem key_rl (a:Str) (b:Int):decide ((Sum.inr a:Key)=Sum.inl b)=false:=decide_eq_false (fun q=>nomatch q)
def J1t (prog:Program) (w:World):PySem.KeyKind prog w Key where
 is:=keyIs
 hash:=keyH w
 inj:=fun v a b ha hb=>by
  rcases J12 ha with ⟨i,t,rfl,rfl⟩ | ⟨x,t,rfl,rfl⟩
  ·rcases J12 hb with ⟨j,u,rfl,e⟩ | ⟨y,u,rfl,e⟩
   ·injection e with e1 _;rw [e1]
   ·exact nomatch e
  ·rcases J12 hb with ⟨j,u,rfl,e⟩ | ⟨y,u,rfl,e⟩
   ·exact nomatch e
   ·injection e with e1 _;rw [e1]
 byValue:=fun k v h=>by
  rcases J12 h with ⟨i,t,rfl,rfl⟩ | ⟨x,t,rfl,rfl⟩ <;> rfl
 pyHash:=fun hv h=>by
  rcases J12 hv with ⟨i,t,rfl,rfl⟩ | ⟨x,t,rfl,rfl⟩
  ·exact wpAny_pyHash_int h
  ·exact wpAny_pyHash_str h
 eqBool:=fun hu hv h=>by
  rcases J12 hu with ⟨i,t,rfl,rfl⟩ | ⟨x,t,rfl,rfl⟩
  ·rcases J12 hv with ⟨j,u,rfl,rfl⟩ | ⟨y,u,rfl,rfl⟩
   ·rw [key_ll] at h;exact wpAny_eqBool_int h
   ·rw [key_lr] at h;exact SeqAt.EqAt.int_str i t y u _ _ _ _ h
  ·rcases J12 hv with ⟨j,u,rfl,rfl⟩ | ⟨y,u,rfl,rfl⟩
   ·rw [key_rl] at h;exact SeqAt.EqAt.str_int x t j u _ _ _ _ h
   ·rw [key_rr] at h;exact wpAny_eqBool_str h
 «strs»:=fun k x t v h=>by
  rcases J12 h with ⟨i,u,rfl,e⟩ | ⟨y,u,rfl,e⟩
  ·exact nomatch e
  ·injection e with e1 _
   subst e1
   cases v <;> rfl
theorem mixKind_int (prog:Program) (w:World) (i:Int) (t:Tok):(J1t prog w).is (.inl i) (.int i t)=true:=keyIs_int i t
theorem mixKind_str (prog:Program) (w:World) (x:Str) (t:Tok):(J1t prog w).is (.inr x) (.str x t)=true:=keyIs_str x t
end L2
namespace L2
open PySem PySem.Spec PyProof.Rows
inductive V where
 | non | bl (b:Bool) | int (i:Int) | str (x:Str) | byt (b:Array UInt8) | flt (b:UInt64) | ref (a:Addr) | ty (n:String)
 deriving DecidableEq
def RelV:V→Value→Prop
 | .non,u=>u=Value.none
 | .bl b,u=>u=Value.bool b
 | .int i,u=>∃ t,u=Value.int i t
 | .str x,u=>∃ t,u=Value.str x t
 | .byt b,u=>∃ t,u=Value.bytes b t
 | .flt b,u=>∃ t,u=Value.float b t
 | .ref a,u=>u=Value.ref a
 | .ty n,u=>u=Value.type n
abbrev Vals:List V→List Value→Prop:=Paired RelV
theorem Vals.length {xs:List V} {us:List Value} (r:Vals xs us):xs.length=us.length:=Paired.length r
theorem Vals.get:∀ {xs:List V} {us:List Value} {i:Nat} {x:V},Vals xs us→xs[i]?=some x→∃ u,us[i]?=some u∧RelV x u
 | _,_,_,_,.nil,e=>by simp at e
 | _,_,0,_,.cons r _,e=>by simp at e;subst e;exact ⟨_,rfl,r⟩
 | _,_,i + 1,x,.cons _ t,e=>by
  obtain ⟨u,h1,h2⟩:=Vals.get (i:=i) (x:=x) t (by simpa using e)
  exact ⟨u,by simpa using h1,h2⟩
theorem Vals.set {x:V} {u:Value} (r:RelV x u):∀ {xs:List V} {us:List Value} (i:Nat),Vals xs us→Vals (xs.set i x) (us.set i u)
 | _,_,_,.nil=>.nil
 | _,_,0,.cons _ t=>.cons r t
 | _,_,i + 1,.cons q t=>.cons q (Vals.set r i t)
theorem Vals.append:∀ {xs ys:List V} {us ws:List Value},Vals xs us→Vals ys ws→Vals (xs ++ ys) (us ++ ws)
 | _,_,_,_,.nil,s=>s
 | _,_,_,_,.cons r t,s=>.cons r (Vals.append t s)
theorem Vals.take:∀ {xs:List V} {us:List Value} (n:Nat),Vals xs us→Vals (xs.take n) (us.take n)
 | _,_,0,_=>.nil
 | _,_,_ + 1,.nil=>.nil
 | _,_,n + 1,.cons r t=>.cons r (Vals.take n t)
theorem Vals.drop:∀ {xs:List V} {us:List Value} (n:Nat),Vals xs us→Vals (xs.drop n) (us.drop n)
 | _,_,0,r=>r
 | _,_,_ + 1,.nil=>.nil
 | _,_,n + 1,.cons _ t=>Vals.drop n t
def RelO:Option V→Option Value→Prop
 | some v,some u=>RelV v u
 | none,none=>True
 | _,_=>False
def KV {κ:Type}:List (κ × V)→List (κ × Value)→Prop:=Paired fun (p:κ × V) (q:κ × Value)=>p.1=q.1∧RelV p.2 q.2
def kV:Key→V
 | .inl i=>.int i
 | .inr x=>.str x
inductive HO where
  | lst (xs:List V)
  | tup (xs:List V)
  | dK (kvs:List (Key × V)) | dT (kvs:List (List Key × V))
  | set (S:Int→Bool) (n:Nat)
  | ins (C dx:Addr) (fs:List (Str × V))
  | own (x:Addr)
  | xd (fs:List (Str × V))
  | met (f x:Addr)
  | rng (lo hi:Int)
  | frz (o:Obj) (u:HO)
  | tbl (ps:Array Value)
  | ext (φ:Heap→Prop)
abbrev Hp:=Addr→Option HO
def upd (H:Hp) (a:Addr) (o:HO):Hp:=fun b=>if b=a then some o else H b
theorem J1 {H:Hp} {a:Addr} {o:HO}:upd H a o a=some o:=by unfold upd;rw [if_pos rfl]
theorem Jf {H:Hp} {a b:Addr} {o:HO} (h:b≠a):upd H a o b=H b:=by unfold upd;rw [if_neg h]
theorem upd_upd {H:Hp} {a:Addr} {o u:HO}:upd (upd H a o) a u=upd H a u:=by
 funext b;unfold upd;split <;> rfl
theorem ne_of {H:Hp} {a b:Addr} {o u:HO} (h:H a=some o) (h':H b=some u) (d:o≠u):a≠b:=by
 intro e;subst e;rw [h] at h';exact d (Option.some.inj h')
theorem J9 {H:Hp} {a b:Addr} {o:HO} (h:H a=some o) (h':H b=none):a≠b:=by
 intro e;subst e;rw [h] at h';cases h'
section
variable (P:Program) (w:World)
def TupX (h:Heap) (a:Addr) (items:Array Value):Prop:=∃ o,h.get? a=some o∧(o.cls=.type "tuple"∧o.dict=none)∧∃ n,o.data=.seq items n
theorem TupX.tup {h:Heap} {a:Addr} {items:Array Value} (x:TupX h a items):IsTup h a items:=let ⟨o,e,c,r⟩:=x;⟨o,e,c.1,r⟩
theorem TupX.lt {h:Heap} {a:Addr} {items:Array Value} (x:TupX h a items):a < h.objs.size:=let ⟨_,e,_⟩:=x;Heap.lt_size e
theorem TupX.new (h:Heap) (items:Array Value):TupX (h.push { cls:=.type "tuple",data:=.seq items }) h.objs.size items:=⟨_,Heap.get?_push_size _ rfl,⟨rfl,rfl⟩,_,rfl⟩
def ObjOk (H:Hp) (h:Heap) (a:Addr):HO→Prop
 | .lst xs=>xs.length≤sizeLine∧∃ (its:List Value) (n:Nat),Vals xs its∧h.get? a=some { cls:=.type "list",data:=.seq its.toArray n }
 | .tup xs=>xs.length≤sizeLine∧∃ its:List Value,Vals xs its∧TupX h a its.toArray
 | .dK kvs=>kvs.length≤sizeLine∧(a == sysModules)=false∧∃ vs,KV kvs vs∧h.DictOf (J1t P w) a vs
 | .dT kvs=>kvs.length≤sizeLine∧(a == sysModules)=false∧∃ xs:List (List Key × Addr × Value),
   Paired (fun (p:List Key × V) (q:List Key × Addr × Value)=>p.1=q.1∧H q.2.1=some (.tup (p.1.map kV))∧RelV p.2 q.2.2) kvs xs∧
   ∃ o es ep,h.get? a=some o∧o.ExactDict∧o.data=.dict es ep∧es.toList=xs.map (entryOfKey (tupleKind (J1t P w)))∧(xs.map (·.1)).Nodup
 | .set S n=>h.SetOf (intKind P w) a S n
 | .ins C dx fs=>H dx=some (.own a)∧fs.length≤1000∧dx≠a∧h.get? a=some (PySem.W.instObj C dx)∧
   ∃ mA,h.Ns1 dx mA∧(∀ f,RelO (fs.lookup f) (mA f))∧PySem.Within mA (fs.map (·.1))
 | .own _=>∃ o,h.get? a=some o
 | .xd fs=>∃ mA,h.Ns1 a mA∧∀ f,RelO (fs.lookup f) (mA f)
 | .rng lo hi=>∃ t u v,h.get? a=some { cls:=.type "range",data:=.fields #[.int lo t,.int hi u,.int 1 v] }
 | .frz o u=>h.get? a=some o∧ObjOk H h a u
 | .tbl ps=>h.get? a=some { cls:=.none,data:=.fields ps }
 | .met f x=>h.get? a=some (PySem.W.methodObj (.ref f) (.ref x))
 | .ext φ=>φ h∧(∃ o,h.get? a=some o)∧∀ h1 h2:Heap,φ h1→(∀ o,h1.get? a=some o→h2.get? a=some o)→φ h2
def HOk (H:Hp) (h:Heap):Prop:=∀ a o,H a=some o→ObjOk P w H h a o
end
section
variable {P:Program} {w:World} {H H':Hp} {h h':Heap} {a:Addr} {o:HO}
theorem ObjOk.lt (x:ObjOk P w H h a o):a < h.objs.size:=by
 cases o with
 | lst xs=>obtain ⟨_,_,_,_,e⟩:=x;exact Heap.lt_size e
 | tup xs=>obtain ⟨_,_,_,p⟩:=x;exact p.lt
 | dK kvs=>obtain ⟨_,_,_,_,o,_,_,e,_⟩:=x;exact Heap.lt_size e
 | dT kvs=>obtain ⟨_,_,_,_,o,_,_,e,_⟩:=x;exact Heap.lt_size e
 | set S n=>obtain ⟨o,_,_,_,e,_⟩:=x;exact Heap.lt_size e
 | ins C dx fs=>obtain ⟨_,_,_,e,_⟩:=x;exact Heap.lt_size e
 | own y=>obtain ⟨_,e⟩:=x;exact Heap.lt_size e
 | xd fs=>obtain ⟨_,⟨_,_,_,e,_⟩,_⟩:=x;exact Heap.lt_size e
 | rng lo hi=>obtain ⟨_,_,_,e⟩:=x;exact Heap.lt_size e
 | frz ob u=>obtain ⟨e,_⟩:=x;exact Heap.lt_size e
 | tbl ps=>exact Heap.lt_size (show h.get? a=some _ from x)
 | met f y=>exact Heap.lt_size (show h.get? a=some _ from x)
 | ext φ=>obtain ⟨_,⟨_,e⟩,_⟩:=x;exact Heap.lt_size e
theorem Paired.mapP {α β:Type} {F G:α→β→Prop}:∀ {l₁:List α} {l₂:List β},Paired F l₁ l₂→(∀ a b,F a b→G a b)→Paired G l₁ l₂
 | _,_,.nil,_=>.nil
 | _,_,.cons r t,f=>.cons (f _ _ r) (Paired.mapP t f)
theorem ObjOk.stay (x:ObjOk P w H h a o) (k:∀ b u,(b=a∨H b=some (.own a))→h.get? b=some u→h'.get? b=some u)
  (ho:∀ b,H b=some (.own a)→H' b=some (.own a)) (ht:∀ b xs,H b=some (.tup xs)→H' b=some (.tup xs)):ObjOk P w H' h' a o:=by
 induction o with
 | lst xs=>obtain ⟨z,its,n,r,e⟩:=x;exact ⟨z,its,n,r,k _ _ (.inl rfl) e⟩
 | tup xs=>obtain ⟨z,its,r,ob,e,c⟩:=x;exact ⟨z,its,r,ob,k _ _ (.inl rfl) e,c⟩
 | dK kvs=>obtain ⟨z,y,vs,r,ob,es,ep,e,c⟩:=x;exact ⟨z,y,vs,r,ob,es,ep,k _ _ (.inl rfl) e,c⟩
 | dT kvs =>
  obtain ⟨z,y,xs,r,ob,es,ep,e,c⟩:=x
  exact ⟨z,y,xs,Paired.mapP r fun p q z=>⟨z.1,ht _ _ z.2.1,z.2.2⟩,ob,es,ep,k _ _ (.inl rfl) e,c⟩
 | set S n=>obtain ⟨ob,es,ep,t,e,c⟩:=x;exact ⟨ob,es,ep,t,k _ _ (.inl rfl) e,c⟩
 | ins C dx fs =>
  obtain ⟨d,z,ne,e,mA,⟨od,es,ep,e2,c⟩,r⟩:=x
  exact ⟨ho _ d,z,ne,k _ _ (.inl rfl) e,mA,⟨od,es,ep,k _ _ (.inr d) e2,c⟩,r⟩
 | own y=>obtain ⟨ob,e⟩:=x;exact ⟨ob,k _ _ (.inl rfl) e⟩
 | xd fs=>obtain ⟨mA,⟨od,es,ep,e,c⟩,r⟩:=x;exact ⟨mA,⟨od,es,ep,k _ _ (.inl rfl) e,c⟩,r⟩
 | rng lo hi=>obtain ⟨t,u,v,e⟩:=x;exact ⟨t,u,v,k _ _ (.inl rfl) e⟩
 | frz ob u ih=>obtain ⟨e,q⟩:=x;exact ⟨k _ _ (.inl rfl) e,ih q⟩
 | tbl ps =>
  have e:h.get? a=some { cls:=.none,data:=.fields ps }:=x
  show h'.get? a=some { cls:=.none,data:=.fields ps }
  exact k a _ (.inl rfl) e
 | met f y =>
  have e:h.get? a=some (PySem.W.methodObj (.ref f) (.ref y)):=x
  show h'.get? a=some (PySem.W.methodObj (.ref f) (.ref y))
  exact k a _ (.inl rfl) e
 | ext φ=>obtain ⟨p,⟨o,e⟩,st⟩:=x;exact ⟨st _ _ p fun o q=>k _ _ (.inl rfl) q,⟨o,k _ _ (.inl rfl) e⟩,st⟩
theorem HOk.lt (x:HOk P w H h) (e:H a=some o):a < h.objs.size:=(x a o e).lt
theorem HOk.fresh (x:HOk P w H h) (e:h.objs.size≤a):H a=none:=by
 cases q:H a with
 | none=>rfl
 | some u=>exact absurd (Nat.lt_of_lt_of_le (x.lt q) e) (Nat.lt_irrefl _)
theorem HOk.kept (x:HOk P w H h) (k:∀ b u,h.get? b=some u→h'.get? b=some u):HOk P w H h':=fun a o e =>
 (x a o e).stay (fun b u _ q=>k b u q) (fun _ q=>q) fun _ _ q=>q
theorem HOk.laid (x:HOk P w H h) (k:∀ b u,h.get? b=some u→h'.get? b=some u) (hp:h.objs.size≤a) (new:ObjOk P w (upd H a o) h' a o):HOk P w (upd H a o) h':=fun b u e=>by
 have hn:=x.fresh hp
 by_cases hb:b=a
 ·subst hb;rw [J1] at e;cases e;exact new
 ·rw [Jf hb] at e
  exact (x b u e).stay (fun c v _ q=>k c v q) (fun c q=>by rw [Jf (J9 q hn)];exact q) fun c xs q=>by rw [Jf (J9 q hn)];exact q
end
def Rd (H:Hp) (a:Addr) (u:HO):Prop:=H a=some u∨∃ o,H a=some (.frz o u)
theorem Rd.of {H:Hp} {a:Addr} {u:HO} (h:H a=some u):Rd H a u:=.inl h
theorem Rd.ok {P:Program} {w:World} {H:Hp} {h:Heap} {a:Addr} {u:HO} (r:Rd H a u) (x:HOk P w H h):ObjOk P w H h a u:=by
 rcases r with r | ⟨o,r⟩
 ·exact x a u r
 ·obtain ⟨_,q⟩:=x a _ r
  exact q
def Mut:Option HO→Prop
 | some (.lst _)=>True
 | some (.dK _)=>True
 | some (.dT _)=>True
 | some (.set _ _)=>True
 | some (.ins _ _ _)=>True
 | some (.ext _)=>True
 | _=>False
section
variable {P:Program} {w:World} {H:Hp} {h h':Heap} {x e:Addr} {o':HO}
theorem HOk.write (ok:HOk P w H h) (mu:Mut (H x)) (he:e=x∨H e=some (.own x)) (k:∀ b u,b≠e→h.get? b=some u→h'.get? b=some u) (heo:∃ u,h'.get? e=some u)
  (new:ObjOk P w (upd H x o') h' x o'):HOk P w (upd H x o') h':=fun b u q=>by
 have nown:∀ c y,H c=some (.own y)→c≠x:=fun c y r z=>by subst z;rw [r] at mu;exact mu
 have ntup:∀ c xs,H c=some (.tup xs)→c≠x:=fun c xs r z=>by subst z;rw [r] at mu;exact mu
 by_cases hb:b=x
 ·subst hb;rw [J1] at q;cases q;exact new
 ·rw [Jf hb] at q
  by_cases hbe:b=e
  ·have q':H b=some (.own x):=by
    rcases he with z | z
    ·exact absurd (hbe.trans z) hb
    ·rw [hbe];exact z
   rw [q] at q';cases q'
   obtain ⟨v,hv⟩:=heo
   exact ⟨v,by rw [hbe];exact hv⟩
  ·refine (ok b u q).stay (fun c v hc r=>k c v ?_ r) (fun c r=>by rw [Jf (nown c b r)];exact r) fun c xs r=>by rw [Jf (ntup c xs r)];exact r
   rcases hc with rfl | hc
   ·exact hbe
   ·rintro rfl
    rcases he with z | z
    ·exact nown c b hc z
    ·rw [hc] at z;cases z;exact hb rfl
end
structure Un (fs ex:List Addr) (H H':Hp) (h h':Heap):Prop where
 keep:∀ b o,h.get? b=some o→H b=none→b ∉ fs→b ∉ ex→h'.get? b=some o
 slot:∀ b o,h.get? b=some o→H b=none→b∈fs→b ∉ ex→∃ sl,h'.get? b=some { o with slots:=sl }
 free:∀ b o,h.get? b=some o→H b=none→b ∉ ex→H' b=none
 there:∀ b o,h.get? b=some o→b ∉ ex→∃ o',h'.get? b=some o'
 tups:∀ b xs,H b=some (.tup xs)→H' b=some (.tup xs)
 frzs:∀ b o u,H b=some (.frz o u)→H' b=some (.frz o u)
 tbls:∀ b ps,H b=some (.tbl ps)→∃ more,H' b=some (.tbl (ps ++ more))
section
variable {fs fs' ex ex':List Addr} {H H1 H2:Hp} {h h1 h2 h':Heap} {a x e:Addr} {o:HO}
theorem Un.any (u:Un fs ex H H1 h h1) {b:Addr} {ob:Obj} (q:h.get? b=some ob) (n:H b=none) (hx:b ∉ ex):∃ sl,h1.get? b=some { ob with slots:=sl }:=by
 by_cases hb:b∈fs
 ·exact u.slot b ob q n hb hx
 ·exact ⟨ob.slots,u.keep b ob q n hb hx⟩
theorem Un.trans (a:Un fs ex H H1 h h1) (b:Un fs ex H1 H2 h1 h2):Un fs ex H H2 h h2 where
 keep:=fun c ob q n hc hx=>b.keep c ob (a.keep c ob q n hc hx) (a.free c ob q n hx) hc hx
 slot:=fun c ob q n hc hx=>by
  obtain ⟨sl,e1⟩:=a.slot c ob q n hc hx
  obtain ⟨sl',e2⟩:=b.slot c _ e1 (a.free c ob q n hx) hc hx
  exact ⟨sl',e2⟩
 free:=fun c ob q n hx=>by
  obtain ⟨o',e1⟩:=a.there c ob q hx
  exact b.free c o' e1 (a.free c ob q n hx) hx
 there:=fun c ob q hx=>by
  obtain ⟨o',e1⟩:=a.there c ob q hx
  exact b.there c o' e1 hx
 tups:=fun c xs q=>b.tups c xs (a.tups c xs q)
 frzs:=fun c ob xs q=>b.frzs c ob xs (a.frzs c ob xs q)
 tbls:=fun c ps q=>by
  obtain ⟨m1,e1⟩:=a.tbls c ps q
  obtain ⟨m2,e2⟩:=b.tbls c _ e1
  exact ⟨m1 ++ m2,by rw [e2,Array.append_assoc]⟩
theorem Un.kept (k:∀ b u,h.get? b=some u→h'.get? b=some u):Un fs ex H H h h' :=
 ⟨fun b ob q _ _ _=>k b ob q,fun b ob q _ _ _=>⟨ob.slots,k b ob q⟩,fun _ _ _ n _=>n,fun b ob q _=>⟨ob,k b ob q⟩,fun _ _ q=>q,fun _ _ _ q=>q,fun _ ps q=>⟨#[],by rw [q];simp⟩⟩
theorem Un.refl:Un fs ex H H h h:=Un.kept fun _ _ q=>q
theorem Un.laid (k:∀ b u,h.get? b=some u→h'.get? b=some u) (hp:h.objs.size≤a) (hn:H a=none):Un fs ex H (upd H a o) h h' where
 keep:=fun b u q _ _ _=>k b u q
 slot:=fun b u q _ _ _=>⟨u.slots,k b u q⟩
 free:=fun b u q n _=>by rw [Jf (Nat.ne_of_lt (Nat.lt_of_lt_of_le (Heap.lt_size q) hp))];exact n
 there:=fun b u q _=>⟨u,k b u q⟩
 tups:=fun b xs q=>by rw [Jf (J9 q hn)];exact q
 frzs:=fun b u xs q=>by rw [Jf (J9 q hn)];exact q
 tbls:=fun b ps q=>⟨#[],by rw [Jf (J9 q hn),q];simp⟩
theorem Un.write (mu:Mut (H x)) (he:e=x∨H e=some (.own x)) (k:∀ b u,b≠e→h.get? b=some u→h'.get? b=some u) (heo:∃ u,h'.get? e=some u):Un fs ex H (upd H x o) h h':=by
 have hx:∀ b,H b=none→b≠x:=fun b n z=>by subst z;rw [n] at mu;exact mu
 have hb:∀ b,H b=none→b≠e:=fun b n z=>by
  subst z
  rcases he with r | r
  ·exact hx b n r
  ·rw [n] at r;cases r
 have hm:∀ b u,H b=some u→¬ Mut (some u)→b≠x:=fun b u q nm z=>by subst z;rw [q] at mu;exact nm mu
 refine ⟨fun b u q n _ _=>k b u (hb b n) q,fun b u q n _ _=>⟨u.slots,k b u (hb b n) q⟩,fun b u q n _=>by rw [Jf (hx b n)];exact n,fun b u q _=>?_,
  fun b xs q=>by rw [Jf (hm b _ q fun z=>z)];exact q,fun b u xs q=>by rw [Jf (hm b _ q fun z=>z)];exact q,fun b ps q=>⟨#[],by rw [Jf (hm b _ q fun z=>z),q];simp⟩⟩
 by_cases hbe:b=e
 ·subst hbe;exact heo
 ·exact ⟨u,k b u hbe q⟩
theorem Un.mono (u:Un fs ex H H1 h h1) (hs:∀ b∈fs,b∈fs') (hx:∀ b∈ex,b∈ex'):Un fs' ex' H H1 h h1 :=
 ⟨fun b ob q n hb he=>u.keep b ob q n (fun z=>hb (hs b z)) fun z=>he (hx b z),fun _ _ q n _ he=>u.any q n fun z=>he (hx _ z),fun b ob q n he=>u.free b ob q n fun z=>he (hx b z),fun b ob q he=>u.there b ob q fun z=>he (hx b z),u.tups,u.frzs,u.tbls⟩
end
def trk (h:Heap) (H:Hp):List Addr:=(List.range h.objs.size).filter fun a=>(H a).isSome
def hidT (h:Heap) (H:Hp):Heap:=PySem.W.hideAll h (trk h H)
theorem hidT_size (h:Heap) (H:Hp):(hidT h H).objs.size=h.objs.size:=PySem.W.hideAll_size _ _
theorem J68 {h:Heap} {H:Hp} {b:Addr} {o:Obj} (e:h.get? b=some o) (n:H b=none):(hidT h H).get? b=some o :=
 PySem.W.hideAll_get _ e fun hm=>by
  have q:(H b).isSome=true:=(List.mem_filter.mp hm).2
  rw [n] at q;simp at q
theorem of_hidT {h:Heap} {H:Hp} {b:Addr} {o:Obj} (e:(hidT h H).get? b=some o):h.get? b=some o∧H b=none:=by
 have e':h.get? b=some o:=PySem.W.of_hideAll (trk h H) e
 refine ⟨e',?_⟩
 cases q:H b with
 | none=>rfl
 | some x =>
  have hm:b∈trk h H:=List.mem_filter.mpr ⟨List.mem_range.mpr (Heap.lt_size e'),by simp [q]⟩
  have z:(hidT h H).get? b=none:=PySem.W.hideAll_none (trk h H) hm
  rw [z] at e;cases e
def allNews (g h:Heap) (L:Addr):List (Addr × Obj):=(List.range h.objs.size).filterMap fun a=>if a=L∨(g.get? a).isSome=true then none else (h.get? a).map fun o=>(a,o)
def rest (g h:Heap) (L d:Addr):List (Addr × Obj):=(allNews g h L).filter fun p=>decide (p.1≠d)
end L2
namespace L2
open PySem PySem.Spec PyProof.Rows
structure Mod (K:PySem.W.Frag) (mg:Str→Option Value) (base:Heap):Prop where
 kin:K.In base
 glob:base.Ns mainGlobals mg
 blt:∃ mb,base.Ns builtinsNs mb∧∀ x:Str,x≠"__name__"→mb x=bootBuiltins x
 nolimit:base.NoLimit
structure Cx where
 prog:Program
 w:World
 K:PySem.W.Frag
 mg:Str→Option Value
 base:Heap
 A:Around
 N:List Str
 s₀:Shared
 H₀:Hp
 env:Env
 outer:List Env
 stack:List Env
 ex:List Addr
 fn:Str→Bool
 calm:Bool
 pn:List (Addr × Obj)
 xe:Value→Shared→Prop
def frs (l:List Env):List Addr:=l.filterMap (·.frame)
abbrev Cx.fs (X:Cx):List Addr:=frs X.outer
def Vis (sc:Scope) (x:Str):Prop:=sc.names.lookup x=some .local∨sc.names.lookup x=some .cell∨sc.names.lookup x=some .free
def Loc (sc:Scope) (x:Str):Prop:=sc.names.lookup x=some .local∨sc.names.lookup x=some .cell
def Look (env:Env) (h:Heap) (m:Str→Option Value) (x:Str) (u:Value):Prop :=
 (env.kindOf x=some .local∧m x=some u)∨((env.kindOf x=some .cell∨env.kindOf x=some .free)∧∃ c,env.cells.lookup x=some c∧h.IsCell c (some u))
structure Cx.Ok (X:Cx):Prop where
 mod:Mod X.K X.mg X.base
 kind:X.env.scope.kind=.function
 glob:X.env.globals=mainGlobals
 blt:X.env.builtins=builtinsNs
 above:X.s₀.heap.objs.size≤X.env.locals
 inj:∀ x y c,X.env.cells.lookup x=some c→X.env.cells.lookup y=some c→x=y
 has:∀ x,(X.env.kindOf x=some .cell∨X.env.kindOf x=some .free)→∃ c,X.env.cells.lookup x=some c
 cab:∀ x c,X.fn x=true→X.env.cells.lookup x=some c→X.s₀.heap.objs.size≤c
 hd:X.calm=true→X.A.handled=none
 frames:X.A.frames=some X.stack
 stk:X.stack=X.outer∨(X.stack=X.env :: X.outer∧X.env.frame=some X.env.locals)
 exf:∀ b∈X.ex,b≠X.env.locals∧∀ x c,X.env.cells.lookup x=some c→c≠b
 bs:∀ b o,X.base.get? b=some o→X.s₀.heap.get? b=some o∧X.H₀ b=none
 bsz:X.base.objs.size≤X.s₀.heap.objs.size
 noex:∀ b o,X.base.get? b=some o→b ∉ X.ex
 exfs:∀ b∈X.ex,b ∉ X.fs
 funs:X.s₀.heap.FunFrames X.base X.outer
 frf:∀ b∈X.fs,X.H₀ b=none
structure Inv (X:Cx) (pins:List (Addr × Obj)) (σ:List (Option V)) (H:Hp) (s:Shared):Prop where
 ok:X.Ok
 os:s.os=X.s₀.os
 bare:AllBare s.gens
 base:Un X.fs X.ex X.H₀ H X.s₀.heap s.heap
 loc:∃ m,s.heap.Ns X.env.locals m∧∀ (i:Nat) (x:Str) (v:V),X.N[i]?=some x→σ[i]?=some (some v)→Vis X.env.scope x→∃ u,RelV v u∧Look X.env s.heap m x u
 cell:∀ x c,X.env.cells.lookup x=some c→∃ v,s.heap.IsCell c v
 free:H X.env.locals=none
 freeC:∀ x c,X.env.cells.lookup x=some c→H c=none
 pin:∀ p∈X.pn ++ pins,s.heap.get? p.1=some p.2∧H p.1=none∧p.1≠X.env.locals∧p.1 ∉ X.fs∧∀ v,p.2.data≠.cell v
 hok:HOk X.prog X.w H s.heap
 len:σ.length=X.N.length
section
variable {X:Cx} {pins:List (Addr × Obj)} {σ:List (Option V)} {H H':Hp} {s:Shared} {h':Heap}
theorem Cx.Ok.nofr (ok:X.Ok) {b:Addr} {o:Obj} (e:X.base.get? b=some o):b ∉ X.fs:=fun hb=>by
 have:=(ok.funs.mem hb).1
 rw [e] at this;cases this
theorem Inv.bs (I:Inv X pins σ H s):∀ b o,X.base.get? b=some o→s.heap.get? b=some o∧H b=none:=fun b o e =>
 ⟨I.base.keep b o (I.ok.bs b o e).1 (I.ok.bs b o e).2 (I.ok.nofr e) (I.ok.noex b o e),I.base.free b o (I.ok.bs b o e).1 (I.ok.bs b o e).2 (I.ok.noex b o e)⟩
theorem Inv.bk (I:Inv X pins σ H s):∀ b o,X.base.get? b=some o→s.heap.get? b=some o:=fun b o e=>(I.bs b o e).1
theorem Inv.mod (I:Inv X pins σ H s):Mod X.K X.mg X.base:=I.ok.mod
theorem Inv.kIn (I:Inv X pins σ H s):X.K.In s.heap:=I.ok.mod.kin.keeps I.bk
theorem Inv.fr (I:Inv X pins σ H s):∃ m,Fr X.base X.env.locals s.heap m :=
 let ⟨m,hn,_⟩:=I.loc
 ⟨m,hn,I.bk,Nat.le_trans I.ok.bsz I.ok.above⟩
theorem Inv.lt (I:Inv X pins σ H s):X.env.locals < s.heap.objs.size:=let ⟨_,hn,_⟩:=I.loc;hn.lt
theorem Inv.sz (I:Inv X pins σ H s):X.s₀.heap.objs.size≤s.heap.objs.size:=Nat.le_trans I.ok.above (Nat.le_of_lt I.lt)
theorem Inv.nofs (I:Inv X pins σ H s) {a:Addr} (h:s.heap.objs.size≤a):a ∉ X.fs:=fun hb=>by
 obtain ⟨_,o,ho,_⟩:=I.ok.funs.mem hb
 exact absurd (Nat.lt_of_lt_of_le (Heap.lt_size ho) (Nat.le_trans I.sz h)) (Nat.lt_irrefl _)
theorem Inv.cne (I:Inv X pins σ H s):∀ x c,X.env.cells.lookup x=some c→c≠X.env.locals:=fun x c e z=>by
 obtain ⟨v,o,ho,hd⟩:=I.cell x c e
 obtain ⟨m,⟨o',es,ep,ho',hd',_⟩,_⟩:=I.loc
 rw [z,ho'] at ho;cases ho;rw [hd'] at hd;cases hd
theorem Inv.funs (I:Inv X pins σ H s):s.heap.FunFrames X.base X.outer:=by
 have all:∀ (l:List Env),(∀ b∈frs l,b∈X.fs)→X.s₀.heap.FunFrames X.base l→s.heap.FunFrames X.base l:=by
  intro l
  induction l with
  | nil=>intro _ _;trivial
  | cons env r ih =>
   intro hs hl
   obtain ⟨hk,⟨L,o,hf,hn,ho,hd⟩,hr⟩:=hl
   have hL:L∈X.fs:=hs L (by unfold frs;rw [List.filterMap_cons,hf];exact List.mem_cons_self)
   obtain ⟨sl,e⟩:=I.base.slot L o ho (I.ok.frf L hL) hL fun z=>I.ok.exfs L z hL
   exact ⟨hk,⟨L,_,hf,hn,e,hd⟩,ih (fun b hb=>hs b (by unfold frs;rw [List.filterMap_cons,hf];exact List.mem_cons_of_mem _ hb)) hr⟩
 exact all X.outer (fun _ hb=>hb) I.ok.funs
theorem Inv.stack (I:Inv X pins σ H s):s.heap.FunFrames X.base X.stack:=by
 rcases I.ok.stk with e | ⟨e,hf⟩
 ·rw [e];exact I.funs
 ·rw [e]
  obtain ⟨m,hn,_⟩:=I.loc
  refine .cons (by rw [I.ok.kind];decide) hf hn ?_ I.funs
  exact Heap.get?_none_of_le (Nat.le_trans I.ok.bsz I.ok.above)
theorem Inv.stkSub (I:Inv X pins σ H s):∀ b∈frs X.stack,b∈X.env.locals :: X.fs:=fun b hb=>by
 rcases I.ok.stk with e | ⟨e,hf⟩
 ·rw [e] at hb;exact List.mem_cons_of_mem _ hb
 ·rw [e] at hb
  unfold frs at hb
  rw [List.filterMap_cons,hf] at hb
  exact hb
theorem Inv.stkFree (I:Inv X pins σ H s):∀ b∈frs X.stack,H b=none:=fun b hb=>by
 rcases List.mem_cons.mp (I.stkSub b hb) with e | hb
 ·rw [e];exact I.free
 ·obtain ⟨_,o,ho,_⟩:=I.ok.funs.mem hb
  exact I.base.free b o ho (I.ok.frf b hb) fun z=>I.ok.exfs b z hb
theorem Inv.step {g':Array GenState} {t':Nat} {d':Drawn} {ch:List Addr} (I:Inv X pins σ H s)
  (hch:∀ b∈ch,(b∈X.ex∨X.s₀.heap.objs.size≤b)∧b≠X.env.locals∧(∀ x c,X.env.cells.lookup x=some c→c≠b)∧∀ p∈X.pn ++ pins,p.1≠b)
  (keep:∀ b o,b≠X.env.locals→b ∉ X.fs→b ∉ ch→s.heap.get? b=some o→H b=none→h'.get? b=some o)
  (slot:∀ b o,b≠X.env.locals→b∈X.fs→b ∉ ch→s.heap.get? b=some o→H b=none→∃ sl,h'.get? b=some { o with slots:=sl }) (free:∀ b o,b ∉ ch→s.heap.get? b=some o→H b=none→H' b=none)
  (there:∀ b o,b ∉ ch→s.heap.get? b=some o→∃ o',h'.get? b=some o')
  (tups:∀ b xs,H b=some (.tup xs)→H' b=some (.tup xs)) (frzs:∀ b o u,H b=some (.frz o u)→H' b=some (.frz o u)) (tbls:∀ b ps,H b=some (.tbl ps)→∃ more,H' b=some (.tbl (ps ++ more)))
  (ns:∀ m,s.heap.Ns X.env.locals m→h'.Ns X.env.locals m) (hok:HOk X.prog X.w H' h') (hg:AllBare g') :
  Inv X pins σ H' { s with heap:=h',gens:=g',drawn:=d',toks:=t' }:=by
 have neL:∀ b o,X.s₀.heap.get? b=some o→b≠X.env.locals:=fun b o e=>Nat.ne_of_lt (Nat.lt_of_lt_of_le (Heap.lt_size e) I.ok.above)
 have neC:∀ b o,X.s₀.heap.get? b=some o→b ∉ X.ex→b ∉ ch:=fun b o e hx hb=>by
  rcases (hch b hb).1 with z | z
  ·exact hx z
  ·exact absurd (Nat.lt_of_lt_of_le (Heap.lt_size e) z) (Nat.lt_irrefl _)
 have cellK:∀ x c,X.env.cells.lookup x=some c→∀ v,s.heap.IsCell c v→h'.IsCell c v:=fun x c e v ⟨o,ho,hd⟩=>by
  have nch:c ∉ ch:=fun z=>(hch c z).2.2.1 x c e rfl
  by_cases hc:c∈X.fs
  ·obtain ⟨sl,q⟩:=slot c o (I.cne x c e) hc nch ho (I.freeC x c e)
   exact ⟨_,q,hd⟩
  ·exact ⟨o,keep c o (I.cne x c e) hc nch ho (I.freeC x c e),hd⟩
 refine ⟨I.ok,I.os,hg,⟨fun b o e n hb hx=>?_,fun b o e n hb hx=>?_,fun b o e n hx=>?_,fun b o e hx=>?_,fun b xs e=>tups b xs (I.base.tups b xs e),fun b o xs e=>frzs b o xs (I.base.frzs b o xs e),fun b ps e=>?_⟩,?_,fun x c e=>?_,?_,fun x c e=>?_,fun p hp=>?_,hok,I.len⟩
 ·exact keep b o (neL b o e) hb (neC b o e hx) (I.base.keep b o e n hb hx) (I.base.free b o e n hx)
 ·obtain ⟨sl,e1⟩:=I.base.slot b o e n hb hx
  obtain ⟨sl',e2⟩:=slot b _ (neL b o e) hb (neC b o e hx) e1 (I.base.free b o e n hx)
  exact ⟨sl',e2⟩
 ·obtain ⟨o',e1⟩:=I.base.there b o e hx
  exact free b o' (neC b o e hx) e1 (I.base.free b o e n hx)
 ·obtain ⟨o',e1⟩:=I.base.there b o e hx
  exact there b o' (neC b o e hx) e1
 ·obtain ⟨m1,e1⟩:=I.base.tbls b ps e
  obtain ⟨m2,e2⟩:=tbls b _ e1
  exact ⟨m1 ++ m2,by rw [e2,Array.append_assoc]⟩
 ·obtain ⟨m,hn,hl⟩:=I.loc
  refine ⟨m,ns m hn,fun i x v e1 e2 e3=>?_⟩
  obtain ⟨u,r,l⟩:=hl i x v e1 e2 e3
  refine ⟨u,r,?_⟩
  rcases l with l | ⟨k,c,e,z⟩
  ·exact .inl l
  ·exact .inr ⟨k,c,e,cellK x c e _ z⟩
 ·obtain ⟨v,z⟩:=I.cell x c e
  exact ⟨v,cellK x c e v z⟩
 ·obtain ⟨m,⟨o,_,_,ho,_⟩,_⟩:=I.loc
  exact free _ o (fun z=>(hch _ z).2.1 rfl) ho I.free
 ·obtain ⟨v,o,ho,hd⟩:=I.cell x c e
  exact free c o (fun z=>(hch c z).2.2.1 x c e rfl) ho (I.freeC x c e)
 ·obtain ⟨e,n,ne,nf,d⟩:=I.pin p hp
  have nch:p.1 ∉ ch:=fun z=>(hch p.1 z).2.2.2 p hp rfl
  exact ⟨keep p.1 p.2 ne nf nch e n,free p.1 p.2 nch e n,ne,nf,d⟩
theorem Inv.un {t':Nat} (I:Inv X pins σ H s) (u:Un X.fs [] H H' s.heap h') (hok:HOk X.prog X.w H' h'):Inv X pins σ H' { s with heap:=h',toks:=t' }:=by
 obtain ⟨m,⟨o,es,ep,ho,r⟩,_⟩:=id I.loc
 obtain ⟨sl,hL⟩:=u.any ho I.free (by simp)
 exact I.step (g':=s.gens) (d':=s.drawn) (ch:=[]) (fun _ z=>nomatch z) (fun b o _ hb _ e n=>u.keep b o e n hb (by simp)) (fun b o _ hb _ e n=>u.slot b o e n hb (by simp)) (fun b o _ e n=>u.free b o e n (by simp)) (fun b o _ e=>u.there b o e (by simp)) u.tups u.frzs u.tbls (fun m' hm=>by
  obtain ⟨o',es',ep',ho',r'⟩:=hm
  rw [ho] at ho';cases ho'
  exact ⟨_,es',ep',hL,r'⟩) hok I.bare
theorem Inv.call {g':Array GenState} {t':Nat} {d':Drawn} {ch:List Addr} (I:Inv X pins σ H s) (u:Un (frs X.stack) ch H H' s.heap h') (hok:HOk X.prog X.w H' h') (hg:AllBare g')
  (hch:∀ b∈ch,(b∈X.ex∨X.s₀.heap.objs.size≤b)∧b≠X.env.locals∧(∀ x c,X.env.cells.lookup x=some c→c≠b)∧∀ p∈X.pn ++ pins,p.1≠b) :
  Inv X pins σ H' { s with heap:=h',gens:=g',drawn:=d',toks:=t' }:=by
 obtain ⟨m,⟨o,es,ep,ho,r⟩,_⟩:=id I.loc
 obtain ⟨sl,hL⟩:=u.any ho I.free fun z=>(hch _ z).2.1 rfl
 exact I.step (ch:=ch) hch (fun b o hL hb hc e n=>u.keep b o e n (fun z=>(List.mem_cons.mp (I.stkSub b z)).elim hL hb) hc) (fun b o _ _ hc e n=>u.any e n hc) (fun b o hc e n=>u.free b o e n hc) (fun b o hc e=>u.there b o e hc) u.tups u.frzs u.tbls (fun m' hm=>by
  obtain ⟨o',es',ep',ho',r'⟩:=hm
  rw [ho] at ho';cases ho'
  exact ⟨_,es',ep',hL,r'⟩) hok hg
theorem Inv.turned {t':Nat} {it:Addr} (I:Inv X pins σ H s) (k:∀ b o,b≠it→s.heap.get? b=some o→h'.get? b=some o) (hn:H it=none) (hL:it≠X.env.locals)
  (h1:it∈X.ex∨X.s₀.heap.objs.size≤it) (h2:∀ x c,X.env.cells.lookup x=some c→c≠it) (h3:∀ p∈X.pn ++ pins,p.1≠it):Inv X pins σ H { s with heap:=h',toks:=t' }:=by
 have nit:∀ b u,H b=some u→b≠it:=fun b u e z=>by rw [z,hn] at e;cases e
 refine I.step (g':=s.gens) (d':=s.drawn) (ch:=[it]) (fun b hb=>?_) (fun b o _ _ hc e _=>k b o (fun z=>hc (by simp [z])) e) (fun b o _ _ hc e _=>⟨o.slots,k b o (fun z=>hc (by simp [z])) e⟩) (fun _ _ _ _ n=>n)
  (fun b o hc e=>⟨o,k b o (fun z=>hc (by simp [z])) e⟩) (fun _ _ e=>e) (fun _ _ _ e=>e) (fun b ps e=>⟨#[],by rw [e];simp⟩) (fun m hm=>?_) (fun b u e=>?_) I.bare
 ·have e:b=it:=by simpa using hb
  subst e
  exact ⟨h1,hL,h2,h3⟩
 ·obtain ⟨o,es,ep,ho,r⟩:=hm
  exact ⟨o,es,ep,k _ o (Ne.symm hL) ho,r⟩
 ·refine (I.hok b u e).stay (fun c v hc q=>k c v ?_ q) (fun _ q=>q) fun _ _ q=>q
  rcases hc with z | z
  ·rw [z];exact nit b u e
  ·exact nit c _ z
theorem Inv.tok (I:Inv X pins σ H s) (t:Nat):Inv X pins σ H { s with toks:=t }:=I.un (h':=s.heap) (t':=t) Un.refl I.hok
theorem Inv.kept {t':Nat} (I:Inv X pins σ H s) (k:∀ b u,s.heap.get? b=some u→h'.get? b=some u):Inv X pins σ H { s with heap:=h',toks:=t' }:=I.un (Un.kept k) (I.hok.kept k)
theorem Inv.laid {a:Addr} {o:HO} {t':Nat} (I:Inv X pins σ H s) (k:∀ b u,s.heap.get? b=some u→h'.get? b=some u) (hp:s.heap.objs.size≤a) (new:ObjOk X.prog X.w (upd H a o) h' a o) :
  Inv X pins σ (upd H a o) { s with heap:=h',toks:=t' }:=I.un (Un.laid k hp (I.hok.fresh hp)) (I.hok.laid k hp new)
theorem Inv.write {x e:Addr} {o:HO} {t':Nat} (I:Inv X pins σ H s) (mu:Mut (H x)) (he:e=x∨H e=some (.own x)) (k:∀ b u,b≠e→s.heap.get? b=some u→h'.get? b=some u) (heo:∃ u,h'.get? e=some u)
  (new:ObjOk X.prog X.w (upd H x o) h' x o):Inv X pins σ (upd H x o) { s with heap:=h',toks:=t' }:=I.un (Un.write mu he k heo) (I.hok.write mu he k heo new)
theorem Inv.pins_of {pins':List (Addr × Obj)} (I:Inv X pins σ H s) (h:∀ p∈pins',s.heap.get? p.1=some p.2∧H p.1=none∧p.1≠X.env.locals∧p.1 ∉ X.fs∧∀ v,p.2.data≠.cell v):Inv X pins' σ H s :=
 ⟨I.ok,I.os,I.bare,I.base,I.loc,I.cell,I.free,I.freeC,fun p hp=>(List.mem_append.mp hp).elim (fun z=>I.pin p (List.mem_append_left _ z)) (h p),I.hok,I.len⟩
theorem J61 {N:List Str} (hN:N.Nodup) {i j:Nat} {x:Str} (a:N[i]?=some x) (b:N[j]?=some x):i=j:=by
 obtain ⟨h1,e1⟩:=List.getElem?_eq_some_iff.mp a
 obtain ⟨h2,e2⟩:=List.getElem?_eq_some_iff.mp b
 exact (List.getElem_inj hN).mp (e1.trans e2.symm)
theorem J4g {M:Model} {A:Around} {E:Value→Shared→Prop} {i:Nat} {x:Str} {v:V} {u:Value} {Q:Unit→Shared→Prop} (I:Inv X pins σ H s) (hN:X.N.Nodup) (hi:X.N[i]?=some x) (hx:Loc X.env.scope x) (r:RelV v u)
  (h:∀ s',Inv X pins (σ.set i (some v)) H s'→(∃ a,Heap.SameBut a s.heap s'.heap∧(a=X.env.locals∨X.env.cells.lookup x=some a))→Q () s') (hf:X.fn x=true∨X.env.scope.names.lookup x=some .local:=by first | exact .inl rfl | exact .inr rfl | assumption):wpAny M A (storeName X.env x u) Q E s:=by
 obtain ⟨m,hn,hl⟩:=id I.loc
 have hcls:(X.env.scope.kind == .class || (X.env.scope.kind == .module && X.env.locals != X.env.globals))=false:=by rw [I.ok.kind];rfl
 have hiσ:i < σ.length:=by rw [I.len];exact (List.getElem?_eq_some_iff.mp hi).1
 have cne:=I.cne
 have tracked:∀ {a:Addr} {h':Heap},(∃ o,s.heap.get? a=some o∧H a=none)→Heap.SameBut a s.heap h'→HOk X.prog X.w H h':=fun {a h'} ha hs b ob e=>by
  obtain ⟨_,_,hfree⟩:=ha
  refine (I.hok b ob e).stay (fun c w' hc q=>(hs.2 c ?_).trans q) (fun _ q=>q) fun _ _ q=>q
  rintro rfl
  rcases hc with rfl | hc
  ·rw [hfree] at e;cases e
  ·rw [hfree] at hc;cases hc
 rcases hx with hk | hk
 ·refine wpAny_storeName_local hk hn (fun h' hn' hs=>?_) hcls
  obtain ⟨oL,_,_,hoL,_⟩:=id hn
  refine h _ ⟨I.ok,I.os,I.bare,⟨fun b o e n hb hx=>?_,fun b o e n hb hx=>?_,I.base.free,fun b o e hx=>?_,I.base.tups,I.base.frzs,I.base.tbls⟩,⟨_,hn',fun j y v' e1 e2 e3=>?_⟩,fun y c e=>?_,I.free,I.freeC,fun p hp=>?_,tracked ⟨oL,hoL,I.free⟩ hs,by simpa using I.len⟩ ⟨_,hs,.inl rfl⟩
  ·exact (hs.2 b (Nat.ne_of_lt (Nat.lt_of_lt_of_le (Heap.lt_size e) I.ok.above))).trans (I.base.keep b o e n hb hx)
  ·obtain ⟨sl,e1⟩:=I.base.slot b o e n hb hx
   exact ⟨sl,(hs.2 b (Nat.ne_of_lt (Nat.lt_of_lt_of_le (Heap.lt_size e) I.ok.above))).trans e1⟩
  ·obtain ⟨o',e1⟩:=I.base.there b o e hx
   exact ⟨o',(hs.2 b (Nat.ne_of_lt (Nat.lt_of_lt_of_le (Heap.lt_size e) I.ok.above))).trans e1⟩
  ·by_cases hj:j=i
   ·subst hj
    rw [hi] at e1;cases e1
    rw [List.getElem?_set_self hiσ] at e2
    cases e2
    exact ⟨u,r,.inl ⟨hk,by simp⟩⟩
   ·rw [List.getElem?_set_ne (Ne.symm hj)] at e2
    obtain ⟨u',r',q⟩:=hl j y v' e1 e2 e3
    refine ⟨u',r',?_⟩
    rcases q with ⟨k,e⟩ | ⟨k,c,e,z⟩
    ·refine .inl ⟨k,?_⟩
     have:y≠x:=fun e=>hj (J61 hN e1 (e ▸ hi))
     simp [this,e]
    ·exact .inr ⟨k,c,e,z.sameBut hs (cne y c e)⟩
  ·obtain ⟨w',z⟩:=I.cell y c e
   exact ⟨w',z.sameBut hs (cne y c e)⟩
  ·obtain ⟨e,n,ne,nf,d⟩:=I.pin p hp
   exact ⟨(hs.2 p.1 ne).trans e,n,ne,nf,d⟩
 ·have hfn:X.fn x=true:=by
   rcases hf with z | z
   ·exact z
   ·rw [z] at hk;cases hk
  obtain ⟨c,hc⟩:=I.ok.has x (.inl hk)
  obtain ⟨w',z⟩:=I.cell x c hc
  refine wpAny_storeName_cell I.ok.kind hk hc z (fun h' hc' hs=>?_)
  obtain ⟨oc,hoc,hocd⟩:=id z
  refine h { s with heap:=h' } ⟨I.ok,I.os,I.bare,⟨fun b o e n hb hx=>?_,fun b o e n hb hx=>?_,I.base.free,fun b o e hx=>?_,I.base.tups,I.base.frzs,I.base.tbls⟩,⟨m,hn.sameBut hs (Ne.symm (cne x c hc)),fun j y v' e1 e2 e3=>?_⟩,fun y c' e=>?_,I.free,I.freeC,fun p hp=>?_,tracked ⟨oc,hoc,I.freeC x c hc⟩ hs,by simpa using I.len⟩ ⟨c,hs,.inr hc⟩
  ·exact (hs.2 b (Nat.ne_of_lt (Nat.lt_of_lt_of_le (Heap.lt_size e) (I.ok.cab x c hfn hc)))).trans (I.base.keep b o e n hb hx)
  ·obtain ⟨sl,e1⟩:=I.base.slot b o e n hb hx
   exact ⟨sl,(hs.2 b (Nat.ne_of_lt (Nat.lt_of_lt_of_le (Heap.lt_size e) (I.ok.cab x c hfn hc)))).trans e1⟩
  ·obtain ⟨o',e1⟩:=I.base.there b o e hx
   exact ⟨o',(hs.2 b (Nat.ne_of_lt (Nat.lt_of_lt_of_le (Heap.lt_size e) (I.ok.cab x c hfn hc)))).trans e1⟩
  ·by_cases hj:j=i
   ·subst hj
    rw [hi] at e1;cases e1
    rw [List.getElem?_set_self hiσ] at e2
    cases e2
    exact ⟨u,r,.inr ⟨.inl hk,c,hc,hc'⟩⟩
   ·rw [List.getElem?_set_ne (Ne.symm hj)] at e2
    obtain ⟨u',r',q⟩:=hl j y v' e1 e2 e3
    refine ⟨u',r',?_⟩
    rcases q with q | ⟨k,c',e,z'⟩
    ·exact .inl q
    ·refine .inr ⟨k,c',e,z'.sameBut hs ?_⟩
     rintro rfl
     exact hj (J61 hN e1 (I.ok.inj _ _ _ e hc ▸ hi))
  ·by_cases hcc:c'=c
   ·subst hcc;exact ⟨_,hc'⟩
   ·obtain ⟨w2,z2⟩:=I.cell y c' e
    exact ⟨w2,z2.sameBut hs hcc⟩
  ·obtain ⟨e,n,ne,nf,d⟩:=I.pin p hp
   refine ⟨(hs.2 p.1 ?_).trans e,n,ne,nf,d⟩
   intro q
   rw [q,hoc] at e
   have q':oc=p.2:=Option.some.inj e
   exact d w' (by rw [← q'];exact hocd)
theorem J4h {M:Model} {A:Around} {E:Value→Shared→Prop} {i:Nat} {x:Str} {v:V} {u:Value} {Q:Unit→Shared→Prop} (I:Inv X pins σ H s) (hN:X.N.Nodup) (hi:X.N[i]?=some x) (hx:Loc X.env.scope x) (r:RelV v u)
  (h:∀ s',Inv X pins (σ.set i (some v)) H s'→Q () s') (hf:X.fn x=true∨X.env.scope.names.lookup x=some .local:=by first | exact .inl rfl | exact .inr rfl | assumption):wpAny M A (storeName X.env x u) Q E s :=
 J4g I hN hi hx r (fun s' I' _=>h s' I') hf
theorem Inv.call' {s':Shared} {ch:List Addr} (I:Inv X pins σ H s) (ho:s'.os=s.os) (u:Un (frs X.stack) ch H H' s.heap s'.heap) (hok:HOk X.prog X.w H' s'.heap) (hg:AllBare s'.gens)
  (hch:∀ b∈ch,(b∈X.ex∨X.s₀.heap.objs.size≤b)∧b≠X.env.locals∧(∀ x c,X.env.cells.lookup x=some c→c≠b)∧∀ p∈X.pn ++ pins,p.1≠b):Inv X pins σ H' s':=by
 obtain ⟨h',g',d',t',o'⟩:=s'
 have e:o'=s.os:=ho
 subst e
 exact I.call (g':=g') (t':=t') (d':=d') u hok hg hch
end
abbrev XK:=Value→Option Addr→Hp→Prop
abbrev St:=List (Option V)
abbrev VK:=V→Hp→Prop
abbrev TE:=St→Hp→VK→Prop
abbrev TT:=St→Hp→(Bool→Hp→Prop)→Prop
abbrev TA:=St→Hp→(List V→Hp→Prop)→Prop
structure Ends where
 nx:St→Hp→Prop
 rt:VK
 bk:St→Hp→Prop:=fun _ _=>False
 ct:St→Hp→Prop:=fun _ _=>False
abbrev TS:=Ends→St→Hp→Prop
def EP (X:Cx) (pins:List (Addr × Obj)) (σ:St) (Q:VK) (u:Value) (s':Shared):Prop:=∃ v H',Inv X pins σ H' s'∧RelV v u∧Q v H'
def TP (X:Cx) (pins:List (Addr × Obj)) (σ:St) (Q:Bool→Hp→Prop) (b:Bool) (s':Shared):Prop:=∃ H',Inv X pins σ H' s'∧Q b H'
def AP (X:Cx) (pins:List (Addr × Obj)) (σ:St) (Q:List V→Hp→Prop) (us:List Value) (s':Shared):Prop:=∃ vs H',Inv X pins σ H' s'∧Vals vs us∧Q vs H'
def SP (X:Cx) (pins:List (Addr × Obj)) (D:Ends) (f:Flow) (s':Shared):Prop :=
 match f with
 | .next=>∃ σ' H',Inv X pins σ' H' s'∧D.nx σ' H'
 | .brk=>∃ σ' H',Inv X pins σ' H' s'∧D.bk σ' H'
 | .cont=>∃ σ' H',Inv X pins σ' H' s'∧D.ct σ' H'
 | .ret u=>∃ v σ' H',Inv X pins σ' H' s'∧RelV v u∧D.rt v H'
def PE (X:Cx) (e:Expr) (t:TE):Prop :=
 ∀ (pins:List (Addr × Obj)) (s:Shared) (σ:St) (H:Hp) (Q:VK),Inv X pins σ H s→t σ H Q→wpAny (model X.prog X.w) X.A (eval e X.env) (EP X pins σ Q) X.xe s
def PT (X:Cx) (e:Expr) (t:TT):Prop :=
 ∀ (pins:List (Addr × Obj)) (s:Shared) (σ:St) (H:Hp) (Q:Bool→Hp→Prop),Inv X pins σ H s→t σ H Q→wpAny (model X.prog X.w) X.A (isTrue e X.env (eval e X.env)) (TP X pins σ Q) X.xe s
def PW (X:Cx) (e:Expr) (t:TT):Prop :=
 ∀ (whole:Sem Value) (pins:List (Addr × Obj)) (s:Shared) (σ:St) (H:Hp) (Q:Bool→Hp→Prop),Inv X pins σ H s→t σ H Q→wpAny (model X.prog X.w) X.A (isTrue e X.env whole) (TP X pins σ Q) X.xe s
theorem PW.pt {X:Cx} {e:Expr} {t:TT} (h:PW X e t):PT X e t:=h _
def PA (X:Cx) (es:List Expr) (t:TA):Prop :=
 ∀ (pos:Pos) (pins:List (Addr × Obj)) (s:Shared) (σ:St) (H:Hp) (Q:List V→Hp→Prop),Inv X pins σ H s→t σ H Q→wpAny (model X.prog X.w) X.A (spliced (backTo pos (starEach es X.env))) (AP X pins σ Q) X.xe s
def PS (X:Cx) (st:Stmt) (t:TS):Prop :=
 ∀ (pins:List (Addr × Obj)) (s:Shared) (σ:St) (H:Hp) (D:Ends),Inv X pins σ H s→t D σ H→wpAny (model X.prog X.w) X.A (exec st X.env) (SP X pins D) X.xe s
def PSs (X:Cx) (st:List Stmt) (t:TS):Prop :=
 ∀ (pins:List (Addr × Obj)) (s:Shared) (σ:St) (H:Hp) (D:Ends),Inv X pins σ H s→t D σ H→wpAny (model X.prog X.w) X.A (execs st X.env) (SP X pins D) X.xe s
theorem thn {α:Type} {t:Sem α} {Q Q':α→Shared→Prop} {M:Model} {A:Around} {E:Value→Shared→Prop} {s:Shared} (h:wpAny M A t Q E s) (hQ:∀ a s,Q a s→Q' a s):wpAny M A t Q' E s:=wpAny_mono h hQ fun _ _ x=>x
end L2
namespace L2
open PySem PySem.Spec PyProof.Rows
section
variable {X:Cx}
def tVar (i:Nat):TE:=fun σ H Q=>∃ v,σ[i]?=some (some v)∧Q v H
def tC (v:V):TE:=fun _ H Q=>Q v H
theorem pe_var {i:Nat} {x:Str} {pos:Pos} (hN:X.N[i]?=some x) (hv:Vis X.env.scope x) (hd:(x == ("__debug__":Str))=false:=by decide) (hcd:(x == ("__classdict__":Str))=false:=by decide):PE X (.Name x pos) (tVar i):=by
 intro pins s σ H Q I h
 obtain ⟨v,e,h⟩:=h
 obtain ⟨m,hn,hl⟩:=I.loc
 obtain ⟨u,r,l⟩:=hl i x v hN e hv
 have fin:EP X pins σ Q u s:=⟨v,H,I,r,h⟩
 rcases l with ⟨hk,hm⟩ | ⟨hk,c,hc,hcell⟩
 ·exact wpAny_Name (wpAny_loadName_local I.ok.kind hk hn hm fin) hd
 ·rcases hk with hk | hk
  ·exact wpAny_Name (wpAny_loadName_cell I.ok.kind hk hc hcell fin) hd
  ·exact wpAny_Name (wpAny_loadName_free I.ok.kind hk hc hcell fin hcd) hd
theorem Je {i j pos}:PE X (.Constant (.int i) j pos) (tC (.int i)):=fun _ _ _ H _ I h=>wpAny_Constant_int ⟨.int i,H,I.tok _,⟨_,rfl⟩,h⟩
theorem pe_bl {b j pos}:PE X (.Constant (.bool b) j pos) (tC (.bl b)):=fun _ _ _ H _ I h=>Constant_bool ⟨.bl b,H,I,rfl,h⟩
theorem pe_non {j pos}:PE X (.Constant .none j pos) (tC .non):=fun _ _ _ H _ I h=>Constant_none ⟨.non,H,I,rfl,h⟩
theorem pe_str {x j pos}:PE X (.Constant (.str x) j pos) (tC (.str x)):=fun _ _ _ H _ I h=>Calls.Constant_str ⟨.str x,H,I.tok _,⟨_,rfl⟩,h⟩
def Gl (X:Cx) (x:Str):Prop:=X.env.kindOf x=some .globalImplicit
theorem J48 {E:Value→Shared→Prop} {pins:List (Addr × Obj)} {s:Shared} {σ:St} {H:Hp} {x:Str} {u:Value} {pos:Pos} {Q:Value→Shared→Prop} (I:Inv X pins σ H s) (hg:Gl X x) (hm:X.mg x=some u) (h:Q u s)
  (hd:(x == ("__debug__":Str))=false:=by decide):wpAny (model X.prog X.w) X.A (eval (.Name x pos) X.env) Q E s :=
 Calls.Name_function_global I.ok.kind hg (Calls.loadGlobal_global (by rw [I.ok.glob];exact I.mod.glob.keeps I.bk) hm h) hd
theorem J67 {E:Value→Shared→Prop} {pins:List (Addr × Obj)} {s:Shared} {σ:St} {H:Hp} {x:Str} {u:Value} {pos:Pos} {Q:Value→Shared→Prop} (I:Inv X pins σ H s) (hg:Gl X x) (hm:X.mg x=none) (hv:bootBuiltins x=some u) (h:Q u s)
  (hn:x≠"__name__":=by decide) (hd:(x == ("__debug__":Str))=false:=by decide):wpAny (model X.prog X.w) X.A (eval (.Name x pos) X.env) Q E s:=by
 obtain ⟨mb,h1,h2⟩:=I.mod.blt
 exact Calls.Name_function_global I.ok.kind hg (Calls.loadGlobal_builtin (by rw [I.ok.glob];exact I.mod.glob.keeps I.bk) hm (by rw [I.ok.blt];exact h1.keeps I.bk) ((h2 x hn).trans hv) h) hd
theorem Jw {x:Str} {v:V} {u:Value} {pos:Pos} (hg:Gl X x) (hm:X.mg x=some u) (r:RelV v u) (hd:(x == ("__debug__":Str))=false:=by decide):PE X (.Name x pos) (tC v) :=
 fun _ _ _ H _ I h=>J48 I hg hm ⟨v,H,I,r,h⟩ hd
theorem pe_bltn {x:Str} {v:V} {u:Value} {pos:Pos} (hg:Gl X x) (hm:X.mg x=none) (hv:bootBuiltins x=some u) (r:RelV v u) (hn:x≠"__name__":=by decide) (hd:(x == ("__debug__":Str))=false:=by decide):PE X (.Name x pos) (tC v) :=
 fun _ _ _ H _ I h=>J67 I hg hm hv ⟨v,H,I,r,h⟩ hn hd
variable {a b:Expr} {ta tb:TE} {pos:Pos}
def PC (X:Cx) (op:CmpOp) (a b:Expr) (t:TE):Prop :=
 ∀ (pins:List (Addr × Obj)) (s:Shared) (σ:St) (H:Hp) (Q:VK),Inv X pins σ H s→t σ H Q→
  wpAny (model X.prog X.w) X.A (eval a X.env) (fun v s₁=>wpAny (model X.prog X.w) X.A (eval b X.env) (fun u s₂=>wpAny (model X.prog X.w) X.A (compareOp op v u) (EP X pins σ Q) X.xe s₂) X.xe s₁) X.xe s
theorem nobehind (b:Expr) {op:CmpOp} (h:op≠.In) (h2:op≠.NotIn):behindInMarks op b=false:=by
 have e1:(op == CmpOp.In)=false:=by cases op <;> first | rfl | exact absurd rfl h
 have e2:(op == CmpOp.NotIn)=false:=by cases op <;> first | rfl | exact absurd rfl h2
 cases b <;> simp [behindInMarks,e1,e2]
def tIsN (ta:TE):TE:=fun σ H Q=>ta σ H fun x H1=>Q (.bl (decide (x=.non))) H1
theorem RelV.none_iff {x:V} {v:Value} (r:RelV x v):(v == Value.none)=decide (x=.non):=by
 cases x with
 | non=>cases r;rfl
 | bl _=>cases r;rfl
 | int _=>obtain ⟨t,rfl⟩:=r;rfl
 | str _=>obtain ⟨t,rfl⟩:=r;rfl
 | byt _=>obtain ⟨t,rfl⟩:=r;rfl
 | flt _=>obtain ⟨t,rfl⟩:=r;rfl
 | ref _=>cases r;rfl
 | ty _=>cases r;rfl
theorem pc_isN {j pos'} (ha:PE X a ta):PC X .Is a (.Constant .none j pos') (tIsN ta):=by
 intro pins s σ H Q I h
 refine thn (ha pins s σ H _ I h) fun v s1 ⟨x,H1,I1,r1,q1⟩=>?_
 exact Constant_none (is_none_gen ⟨.bl _,H1,I1,by rw [r1.none_iff];rfl,q1⟩)
def tB (t:TE):TT:=fun σ H Q=>t σ H fun x H1=>∃ c,x=.bl c∧Q c H1
theorem pt_cmp {op:CmpOp} {t:TE} (h:PC X op a b t) (h1:behindInMarks op b=false:=by first | exact nobehind _ (by decide) (by decide) | rfl):PT X (.Compare a [op] [b] pos) (tB t):=by
 intro pins s σ H Q I hw
 refine wpAny_isTrue_Compare1 (thn (h pins s σ H _ I hw) fun v s1 h1=>thn h1 fun u s2 h2=>thn h2 fun c s3 ⟨x,H1,I1,r1,q1⟩=>?_) h1
 obtain ⟨d,rfl,q⟩:=q1
 cases r1
 exact wpAny_truthy_bool ⟨H1,I1,q⟩
theorem J5w {e:Expr} {t:TE} (h:PE X e t) (he:∀ whole,isTrue e X.env whole=(do let v ← whole;standAt e.pos;holding [v] (truthy v)):=by intro _;rfl):PT X e (tB t):=by
 intro pins s σ H Q I hw
 refine isTrue_plain (thn (h pins s σ H _ I hw) fun v s1 ⟨x,H1,I1,r1,q1⟩=>?_) (he _)
 obtain ⟨d,rfl,q⟩:=q1
 cases r1
 exact wpAny_truthy_bool ⟨H1,I1,q⟩
variable {tA tB':TT} {rest:List Expr}
def tAnd (t u:TT):TT:=fun σ H Q=>t σ H fun c H1=>if c=true then u σ H1 Q else Q false H1
theorem pw_and1 (ha:PT X a tA):PW X (.BoolOp .And [a] pos) tA:=by
 intro wh pins s σ H Q I h
 refine isTrue_and (thn (ha pins s σ H Q I h) fun c s1 e=>?_)
 cases c with
 | true=>exact isTrue_and_nil e
 | false=>exact e
theorem pw_and (ha:PT X a tA) (hb:PW X (.BoolOp .And (b :: rest) pos) tB'):PW X (.BoolOp .And (a :: b :: rest) pos) (tAnd tA tB'):=by
 intro wh pins s σ H Q I h
 refine isTrue_and (thn (ha pins s σ H _ I h) fun c s1 ⟨H1,I1,q1⟩=>?_)
 cases c with
 | true=>exact hb wh pins s1 σ H1 Q I1 q1
 | false=>exact ⟨H1,I1,q1⟩
def tAndV (ta tb:TE):TE:=fun σ H Q=>ta σ H fun x H1=>∃ c,x=.bl c∧if c=true then tb σ H1 Q else Q (.bl false) H1
theorem pe_one {op} {t:TE} (h:PE X a t):PE X (.BoolOp op [a] pos) t:=fun pins s σ H Q I hw=>BoolOp_one (h pins s σ H Q I hw)
theorem pe_and (ha:PE X a ta) (hb:PE X (.BoolOp .And (b :: rest) pos) tb):PE X (.BoolOp .And (a :: b :: rest) pos) (tAndV ta tb):=by
 intro pins s σ H Q I h
 refine BoolOp_and (thn (ha pins s σ H _ I h) fun v s1 ⟨x,H1,I1,r1,q1⟩=>?_)
 obtain ⟨c,rfl,q1⟩:=q1
 cases r1
 refine wpAny_truthy_bool ?_
 cases c with
 | true=>exact hb pins s1 σ H1 Q I1 q1
 | false=>exact ⟨.bl false,H1,I1,rfl,q1⟩
def tIf (t:TT) (ta tb:TE):TE:=fun σ H Q=>t σ H fun c H1=>if c=true then ta σ H1 Q else tb σ H1 Q
theorem J4m {c:Expr} (hc:PT X c tA) (ha:PE X a ta) (hb:PE X b tb):PE X (.IfExp c a b pos) (tIf tA ta tb):=by
 intro pins s σ H Q I h
 refine wpAny_IfExp (thn (hc pins s σ H _ I h) fun d s1 ⟨H1,I1,q1⟩=>?_)
 cases d with
 | true=>exact ha pins s1 σ H1 Q I1 q1
 | false=>exact hb pins s1 σ H1 Q I1 q1
end
end L2
namespace L2
open PySem PySem.Spec PyProof.Rows
def SqL (K:PySem.W.Frag) (H:Hp) (a:Addr) (xs:List V):Prop :=
 Rd H a (.lst xs)∨
  ∃ (o:Obj) (its:Array Value) (n:Nat),K.lookup a=some o∧o.cls=.type "list"∧o.dict=none∧o.data=.seq its n∧its.size≤sizeLine∧Vals xs its.toList
def SqT (K:PySem.W.Frag) (H:Hp) (a:Addr) (xs:List V):Prop :=
 Rd H a (.tup xs)∨
  ∃ (o:Obj) (its:Array Value) (n:Nat),K.lookup a=some o∧o.cls=.type "tuple"∧o.data=.seq its n∧its.size≤sizeLine∧Vals xs its.toList
def absV:Value→Option V
 | .none=>some .non
 | .bool b=>some (.bl b)
 | .int i _=>some (.int i)
 | .str x _=>some (.str x)
 | .bytes b _=>some (.byt b)
 | .float b _=>some (.flt b)
 | .ref a=>some (.ref a)
 | .type n=>some (.ty n)
 | _=>none
theorem RelV.abs {x:V} {u:Value} (r:RelV x u):absV u=some x:=by
 cases x with
 | non=>cases r;rfl
 | bl _=>cases r;rfl
 | int _=>obtain ⟨t,rfl⟩:=r;rfl
 | str _=>obtain ⟨t,rfl⟩:=r;rfl
 | byt _=>obtain ⟨t,rfl⟩:=r;rfl
 | flt _=>obtain ⟨t,rfl⟩:=r;rfl
 | ref _=>cases r;rfl
 | ty _=>cases r;rfl
theorem RelV.inj {x y:V} {u:Value} (r:RelV x u) (q:RelV y u):x=y:=Option.some.inj (r.abs.symm.trans q.abs)
theorem Vals.inj:∀ {xs ys:List V} {us:List Value},Vals xs us→Vals ys us→xs=ys
 | _,_,_,.nil,.nil=>rfl
 | _,_,_,.cons r t,.cons r' t'=>by rw [r.inj r',Vals.inj t t']
section
variable {X:Cx} {pins:List (Addr × Obj)} {σ:St} {H:Hp} {s:Shared} {a:Addr} {xs ys:List V}
theorem SqL.of {K:PySem.W.Frag} (h:H a=some (.lst xs)):SqL K H a xs:=.inl (.inl h)
theorem SqT.of {K:PySem.W.Frag} (h:H a=some (.tup xs)):SqT K H a xs:=.inl (.inl h)
theorem Inv.list (I:Inv X pins σ H s) (h:SqL X.K H a xs):∃ its:List Value,Vals xs its∧PlainL s.heap a its.toArray∧xs.length≤sizeLine:=by
 rcases h with h | ⟨o,its,n,hk,hc,hd,hs,hz,r⟩
 ·obtain ⟨z,its,n,r,e⟩:=h.ok I.hok
  exact ⟨its,r,⟨_,n,e,rfl,rfl,rfl⟩,z⟩
 ·refine ⟨its.toList,r,⟨o,n,I.kIn a o hk,hc,hd,by simpa using hs⟩,?_⟩
  have e:=r.length
  simp only [Array.length_toList] at e
  lia
theorem Inv.tuple (I:Inv X pins σ H s) (h:SqT X.K H a xs):∃ its:List Value,Vals xs its∧IsTup s.heap a its.toArray∧xs.length≤sizeLine:=by
 rcases h with h | ⟨o,its,n,hk,hc,hs,hz,r⟩
 ·obtain ⟨z,its,r,p⟩:=h.ok I.hok
  exact ⟨its,r,p.tup,z⟩
 ·refine ⟨its.toList,r,⟨o,I.kIn a o hk,hc,n,by simpa using hs⟩,?_⟩
  have e:=r.length
  simp only [Array.length_toList] at e
  lia
theorem Inv.list_inj (I:Inv X pins σ H s) (h:SqL X.K H a xs) (h':SqL X.K H a ys):xs=ys:=by
 obtain ⟨its,r,⟨o,n,e,_,_,d⟩,_⟩:=I.list h
 obtain ⟨its',r',⟨o',n',e',_,_,d'⟩,_⟩:=I.list h'
 rw [e] at e';cases e'
 rw [d] at d'
 injection d' with d1 _
 have:its=its':=by simpa using congrArg Array.toList d1
 subst this
 exact r.inj r'
theorem Inv.tuple_inj (I:Inv X pins σ H s) (h:SqT X.K H a xs) (h':SqT X.K H a ys):xs=ys:=by
 obtain ⟨its,r,⟨o,e,_,n,d⟩,_⟩:=I.tuple h
 obtain ⟨its',r',⟨o',e',_,n',d'⟩,_⟩:=I.tuple h'
 rw [e] at e';cases e'
 rw [d] at d'
 injection d' with d1 _
 have:its=its':=by simpa using congrArg Array.toList d1
 subst this
 exact r.inj r'
end
abbrev Cx.wish (X:Cx) (E:Value→Shared→Prop):Cx:={ X with xe:=E }
abbrev Cx.nox (X:Cx):Cx:=X.wish fun _ _=>False
theorem Cx.Ok.wish {X:Cx} (ok:X.Ok) (E:Value→Shared→Prop):(X.wish E).Ok :=
 ⟨ok.mod,ok.kind,ok.glob,ok.blt,ok.above,ok.inj,ok.has,ok.cab,ok.hd,ok.frames,ok.stk,ok.exf,ok.bs,ok.bsz,ok.noex,ok.exfs,ok.funs,ok.frf⟩
theorem Cx.Ok.unwish {X:Cx} {E:Value→Shared→Prop} (ok:(X.wish E).Ok):X.Ok :=
 ⟨ok.mod,ok.kind,ok.glob,ok.blt,ok.above,ok.inj,ok.has,ok.cab,ok.hd,ok.frames,ok.stk,ok.exf,ok.bs,ok.bsz,ok.noex,ok.exfs,ok.funs,ok.frf⟩
section
variable {X:Cx} {pins:List (Addr × Obj)} {σ:St} {H:Hp} {s:Shared} {E:Value→Shared→Prop}
theorem Inv.wish (I:Inv X pins σ H s) (E:Value→Shared→Prop):Inv (X.wish E) pins σ H s:=⟨I.ok.wish E,I.os,I.bare,I.base,I.loc,I.cell,I.free,I.freeC,I.pin,I.hok,I.len⟩
theorem Inv.unwish (I:Inv (X.wish E) pins σ H s):Inv X pins σ H s:=⟨I.ok.unwish,I.os,I.bare,I.base,I.loc,I.cell,I.free,I.freeC,I.pin,I.hok,I.len⟩
theorem SP.unwish {D:Ends} {f:Flow} {s':Shared} (h:SP (X.wish E) pins D f s'):SP X pins D f s':=by
 cases f with
 | next=>obtain ⟨σ',H',I,q⟩:=h;exact ⟨σ',H',I.unwish,q⟩
 | brk=>obtain ⟨σ',H',I,q⟩:=h;exact ⟨σ',H',I.unwish,q⟩
 | cont=>obtain ⟨σ',H',I,q⟩:=h;exact ⟨σ',H',I.unwish,q⟩
 | ret u=>obtain ⟨v,σ',H',I,r,q⟩:=h;exact ⟨v,σ',H',I.unwish,r,q⟩
theorem PSs.nox {st:List Stmt} {t:TS} (h:PSs X.nox st t):PSs X st t:=fun pins s σ H D I hw =>
 wpAny_mono (h pins s σ H D (I.wish _) hw) (fun _ _ q=>q.unwish) fun _ _ z=>False.elim z
end
section
variable {X:Cx} {st:Stmt} {rest:List Stmt} {t u:TS} {e:Expr} {te:TE} {pos:Pos}
def tNext:TS:=fun D σ H=>D.nx σ H
def tSeq (t u:TS):TS:=fun D σ H=>t { D with nx:=u D } σ H
theorem J14:PSs X [] tNext:=fun _ _ σ H _ I h=>wpAny_execs_nil ⟨σ,H,I,h⟩
theorem J2 (h1:PS X st t) (h2:PSs X rest u):PSs X (st :: rest) (tSeq t u):=by
 intro pins s σ H D I h
 refine wpAny_execs_cons (thn (h1 pins s σ H { D with nx:=u D } I h) fun f s1 q=>?_)
 cases f with
 | next =>
  obtain ⟨σ',H',I',q⟩:=q
  exact h2 pins s1 σ' H' D I' q
 | ret v=>exact q
 | brk=>exact q
 | cont=>exact q
theorem Jc (h1:PS X st t):PSs X [st] t:=by
 intro pins s σ H D I h
 refine wpAny_execs_cons (thn (h1 pins s σ H D I h) fun f s1 q=>?_)
 cases f with
 | next=>exact wpAny_execs_nil q
 | ret v=>exact q
 | brk=>exact q
 | cont=>exact q
theorem Inv.quiet {pins:List (Addr × Obj)} {σ:St} {H:Hp} {s:Shared} (I:Inv X pins σ H s):interactive X.env=false:=by simp [interactive,I.ok.kind]
def tDrop (te:TE):TS:=fun D σ H=>te σ H fun _ H1=>D.nx σ H1
theorem J2k (he:PE X e te) (hs:swapsWith e none pos.line X.env=pure false:=by rfl):PS X (.Expr e pos) (tDrop te):=by
 intro pins s σ H D I h
 exact wpAny_Expr_any (thn (he pins s σ H _ I h) fun v s1 ⟨x,H1,I1,r1,q1⟩=>⟨σ,H1,I1,q1⟩) I.quiet hs
def tRet (te:TE):TS:=fun D σ H=>te σ H D.rt
theorem J1a (he:PE X e te):PS X (.Return (some e) pos) (tRet te):=by
 intro pins s σ H D I h
 exact wpAny_Return_some (thn (he pins s σ H _ I h) fun v s1 ⟨x,H1,I1,r1,q1⟩=>⟨x,σ,H1,I1,r1,q1⟩)
def tIfS (c:TT) (t u:TS):TS:=fun D σ H=>c σ H fun b H1=>if b=true then t D σ H1 else u D σ H1
theorem ps_if {c:Expr} {a b:List Stmt} {tc:TT} (hc:PT X c tc) (ha:PSs X a t) (hb:PSs X b u):PS X (.If c a b pos) (tIfS tc t u):=by
 intro pins s σ H D I h
 refine wpAny_If (thn (hc pins s σ H _ I h) fun d s1 ⟨H1,I1,q1⟩=>?_)
 cases d with
 | true=>exact ha pins s1 σ H1 D I1 q1
 | false=>exact hb pins s1 σ H1 D I1 q1
def tNever:TS:=fun _ _ _=>False
theorem J38:PS X st tNever:=fun _ _ _ _ _ _ h=>h.elim
end
abbrev TG:=V→St→Hp→(St→Hp→Prop)→Prop
abbrev TGs:=List V→St→Hp→(St→Hp→Prop)→Prop
def PG (X:Cx) (target:Expr) (t:TG):Prop :=
 ∀ (pins:List (Addr × Obj)) (s:Shared) (σ:St) (H:Hp) (v:V) (u:Value) (Q:St→Hp→Prop),Inv X pins σ H s→RelV v u→t v σ H Q→
  wpAny (model X.prog X.w) X.A (assign target X.env u) (fun _ s'=>∃ σ' H',Inv X pins σ' H' s'∧Q σ' H') X.xe s
def PGs (X:Cx) (ts:List Expr) (t:TGs):Prop :=
 ∀ (pins:List (Addr × Obj)) (s:Shared) (σ:St) (H:Hp) (vs:List V) (us:List Value) (Q:St→Hp→Prop),Inv X pins σ H s→Vals vs us→t vs σ H Q→
  wpAny (model X.prog X.w) X.A (assignInOrder ((assignEach ts X.env).map (·.2)) us) (fun _ s'=>∃ σ' H',Inv X pins σ' H' s'∧Q σ' H') X.xe s
abbrev TSet:=V→V→V→Hp→(Hp→Prop)→Prop
def PSet (X:Cx) (t:TSet):Prop :=
 ∀ (pins:List (Addr × Obj)) (s:Shared) (σ:St) (H:Hp) (o i v:V) (ov iv u:Value) (Q:Hp→Prop),Inv X pins σ H s→RelV o ov→RelV i iv→RelV v u→t o i v H Q→
  wpAny (model X.prog X.w) X.A (setItem ov iv u) (fun _ s'=>∃ H',Inv X pins σ H' s'∧Q H') X.xe s
section
variable {X:Cx} {pos:Pos}
def gName (i:Nat):TG:=fun v σ H Q=>Q (σ.set i (some v)) H
theorem J1e {i:Nat} {x:Str} (hN:X.N.Nodup) (hi:X.N[i]?=some x) (hx:Loc X.env.scope x) (hf:X.fn x=true∨X.env.scope.names.lookup x=some .local:=by first | exact .inl rfl | exact .inr rfl | assumption):PG X (.Name x pos) (gName i):=by
 intro pins s σ H v u Q I r h
 exact wpAny_assign_Name (J4h I hN hi hx r (fun s' I'=>⟨_,H,I',h⟩) hf)
def gNil:TGs:=fun vs σ H Q=>vs=[]∧Q σ H
def gCons (t:TG) (u:TGs):TGs:=fun vs σ H Q=>∃ v r,vs=v :: r∧t v σ H fun σ' H'=>u r σ' H' Q
theorem pgs_nil:PGs X [] gNil:=by
 intro pins s σ H vs us Q I r h
 obtain ⟨e,h⟩:=h
 subst e
 cases r
 exact assignInOrder_nil ⟨σ,H,I,h⟩
theorem J25 {e:Expr} {es:List Expr} {t:TG} {u:TGs} (h1:PG X e t) (h2:PGs X es u)
  (hs:(assignEach (e :: es) X.env).map (·.2)=assign e X.env :: (assignEach es X.env).map (·.2):=by rfl):PGs X (e :: es) (gCons t u):=by
 intro pins s σ H vs us Q I r h
 obtain ⟨v,vr,e1,h⟩:=h
 subst e1
 cases r with
 | cons r rr =>
  rw [hs]
  refine assignInOrder_cons (thn (h1 pins s σ H _ _ _ I r h) fun _ s1 ⟨σ1,H1,I1,q1⟩=>?_)
  exact h2 pins s1 σ1 H1 _ _ Q I1 rr q1
def gTup (K:PySem.W.Frag) (n:Nat) (t:TGs):TG:=fun v σ H Q=>∃ a xs,v=.ref a∧SqT K H a xs∧xs.length=n∧t xs σ H Q
theorem pg_tup {es:List Expr} {k:Nat} {t:TGs} {n:Nat} (hc:X.calm=true) (h:PGs X es t)
  (hn:(assignEach es X.env).length=n:=by rfl) (hst:(assignEach es X.env).findIdx? (·.1)=none:=by rfl):PG X (.Tuple es k pos) (gTup X.K n t):=by
 intro pins s σ H v u Q I r hw
 obtain ⟨a,xs,e1,hq,hl,hw⟩:=hw
 subst e1
 cases r
 obtain ⟨its,rv,ht,hz⟩:=I.tuple hq
 refine assign_Tuple_tuple (I.ok.hd hc) ht (by simp [hn,← hl,rv.length]) hst fun h' hx=>?_
 have I1:Inv X pins σ H { s with heap:=h' }:=I.kept (t':=s.toks) fun b o e=>hx b o (Nat.ne_of_lt (Heap.lt_size e)) e
 exact h pins _ σ H xs _ Q I1 (by simpa using rv) hw
def gSub (to ti:TE) (t:TSet):TG:=fun v σ H Q=>to σ H fun o H1=>ti σ H1 fun i H2=>t o i v H2 fun H3=>Q σ H3
theorem pg_sub {o i:Expr} {to ti:TE} {t:TSet} (ho:PE X o to) (hi:PE X i ti) (hs:PSet X t)
  (ha:∀ v,assign (.Subscript o i pos) X.env v=(do
   let ov ← holding [v] (eval o X.env)
   let iv ← holding [v,ov] (eval i X.env)
   standAt pos
   holding [v,ov,iv] (setItem ov iv v)
   release [v,ov,iv] []):=by intro _;rfl):PG X (.Subscript o i pos) (gSub to ti t):=by
 intro pins s σ H v u Q I r h
 rw [ha]
 refine wpAny_bind (wpAny_holding (thn (ho pins s σ H _ I h) fun ov s1 ⟨x,H1,I1,r1,q1⟩=>?_))
 refine wpAny_bind (wpAny_holding (thn (hi pins s1 σ H1 _ I1 q1) fun iv s2 ⟨y,H2,I2,r2,q2⟩=>?_))
 refine wpAny_bind (wpAny_standAt (wpAny_bind (wpAny_holding (thn (hs pins s2 σ H2 x y v ov iv u _ I2 r1 r2 r q2) fun _ s3 ⟨H3,I3,q3⟩=>?_))))
 exact wpAny_release ⟨σ,H3,I3,q3⟩
def tAsg (te:TE) (g:TG):TS:=fun D σ H=>te σ H fun x H1=>g x σ H1 D.nx
theorem J55 {tg e:Expr} {te:TE} {g:TG} (he:PE X e te) (hg:PG X tg g) (hs:swapsWithSole [tg] e pos.line X.env=pure false:=by rfl) (hw:swappedStores [tg] e X.env=pure none:=by rfl)
  (h1:(assignEach [tg] X.env).map (·.2)=[assign tg X.env]:=by rfl):PS X (.Assign [tg] e pos) (tAsg te g):=by
 intro pins s σ H D I h
 refine wpAny_Assign_stores (thn (he pins s σ H _ I h) fun v s1 ⟨x,H1,I1,r1,q1⟩=>?_) hs hw
 rw [h1]
 exact thn (hg pins s1 σ H1 x v _ I1 r1 q1) fun _ s2 q=>q
theorem Jq {i:Nat} {x:Str} {e:Expr} {te:TE} {pos':Pos} (hN:X.N.Nodup) (hi:X.N[i]?=some x) (hx:Loc X.env.scope x) (he:PE X e te) (hs:swapsWith e (some (.Name x pos')) pos.line X.env=pure false:=by rfl) (hf:X.fn x=true∨X.env.scope.names.lookup x=some .local:=by first | exact .inl rfl | exact .inr rfl | assumption) :
  PS X (.Assign [.Name x pos'] e pos) (tAsg te (gName i)):=by
 intro pins s σ H D I h
 refine wpAny_Assign_Name (thn (he pins s σ H _ I h) fun v s1 ⟨y,H1,I1,r1,q1⟩=>?_) hs
 exact J4h I1 hN hi hx r1 (fun s2 I2=>⟨_,H1,I2,q1⟩) hf
end
section
variable {X:Cx} {pos:Pos}
def tWhile (c:TT) (tb:TS):TS:=fun D σ H=>∃ W:Nat→St→Hp→Prop,(∃ m,W m σ H)∧∀ m σ H,W m σ H→
 c σ H fun b H1=>if b=true then ∃ N:St→Hp→Prop,(∀ σ' H',N σ' H'→∃ m',m' < m∧W m' σ' H')∧tb { D with nx:=N,ct:=N,bk:=D.nx } σ H1 else D.nx σ H1
theorem ps_while {c:Expr} {body:List Stmt} {tc:TT} {tb:TS} (hp:PassesOwn (model X.prog X.w) X.A X.env X.xe) (hc:PT X c tc) (hb:PSs X body tb):PS X (.While c body [] pos) (tWhile tc tb):=by
 intro pins s σ H D I h
 obtain ⟨W,⟨m0,w0⟩,turn⟩:=h
 refine wpAny_While (codeAny_whileLoop (fun n s'=>∃ σ' H',Inv X pins σ' H' s'∧W n σ' H') ?_ m0 ⟨σ,H,I,w0⟩)
 rintro n s1 ⟨σ1,H1,I1,w1⟩
 refine wpAny_passesOwn hp (thn (hc pins s1 σ1 H1 _ I1 (turn n σ1 H1 w1)) fun b s2 ⟨H2,I2,q2⟩=>?_)
 cases b with
 | true =>
  obtain ⟨N,hN,q2⟩:=q2
  rw [if_pos rfl]
  refine wpAny_passesOwn hp (thn (hb pins s2 σ1 H2 _ I2 q2) fun f s3 q3=>?_)
  cases f with
  | next =>
   obtain ⟨σ3,H3,I3,n3⟩:=q3
   obtain ⟨m',hm,w3⟩:=hN σ3 H3 n3
   exact ⟨m',hm,σ3,H3,I3,w3⟩
  | cont =>
   obtain ⟨σ3,H3,I3,n3⟩:=q3
   obtain ⟨m',hm,w3⟩:=hN σ3 H3 n3
   exact ⟨m',hm,σ3,H3,I3,w3⟩
  | brk=>exact q3
  | ret v=>exact q3
 | false =>
  rw [if_neg Bool.false_ne_true]
  exact wpAny_execs_nil ⟨σ1,H2,I2,q2⟩
end
structure It where
 go:Nat→Hp→Prop
 yld:Nat→Hp→V→Hp→Prop
 stop:Nat→Hp→Prop
def FpOk (X:Cx) (pins:List (Addr × Obj)) (H:Hp) (b:Addr):Prop :=
 H b=none∧b≠X.env.locals∧b ∉ X.fs∧(b∈X.ex∨X.s₀.heap.objs.size≤b)∧(∀ x c,X.env.cells.lookup x=some c→c≠b)∧∀ p∈X.pn ++ pins,p.1≠b
theorem Inv.fpOk {X:Cx} {pins:List (Addr × Obj)} {σ:St} {H H':Hp} {s:Shared} {b:Addr} (I:Inv X pins σ H s) (hb:s.heap.objs.size≤b) (hn:H' b=none):FpOk X pins H' b:=by
 refine ⟨hn,Nat.ne_of_gt (Nat.lt_of_lt_of_le I.lt hb),I.nofs hb,.inr (Nat.le_trans I.sz hb),fun x c e z=>?_,fun p hp z=>?_⟩
 ·obtain ⟨v,q⟩:=I.cell x c e
  exact absurd (Nat.lt_of_lt_of_le q.lt (by rw [z];exact hb)) (Nat.lt_irrefl _)
 ·exact absurd (Nat.lt_of_lt_of_le (Heap.lt_size (I.pin p hp).1) (by rw [z];exact hb)) (Nat.lt_irrefl _)
structure Turn (P:Program) (w:World) (K:PySem.W.Frag) (tg:Expr) (J:It) (fp:List Addr) (it:Addr) (tn:Nat→Heap→Prop):Prop where
 mem:it∈fp
 obj:∀ i h,tn i h→∀ b∈fp,∃ o,h.get? b=some o∧∀ v,o.data≠.cell v
 keep:∀ i h h',tn i h→(∀ b∈fp,∀ o,h.get? b=some o→h'.get? b=some o)→tn i h'
 item:∀ (X:Cx),X.prog=P→X.w=w→X.K=K→X.calm=true→∀ (i:Nat) (pins:List (Addr × Obj)) (s:Shared) (σ:St) (H:Hp) (E:Value→Shared→Prop),Inv X pins σ H s→(∀ b∈fp,FpOk X pins H b)→tn i s.heap→J.go i H→
  wpAny (model P w) X.A (pyNext (.ref it)) (fun r s1=>∃ u,r=some u∧
   wpAny (model P w) X.A (letOwnedTupleGo tg (.ref it) u) (fun _ s2=>∃ x H',Inv X pins σ H' s2∧RelV x u∧J.yld i H x H'∧tn (i + 1) s2.heap∧∀ b∈fp,H' b=none) E s1) E s
 done:∀ (X:Cx),X.prog=P→X.w=w→X.K=K→X.calm=true→∀ (i:Nat) (pins:List (Addr × Obj)) (s:Shared) (σ:St) (H:Hp) (E:Value→Shared→Prop),Inv X pins σ H s→(∀ b∈fp,FpOk X pins H b)→tn i s.heap→J.stop i H→
  wpAny (model P w) X.A (pyNext (.ref it)) (fun r s1=>r=none∧Inv X pins σ H s1) E s
 self:∀ (A:Around) (i:Nat) (s:Shared) (Q:Value→Shared→Prop) (E:Value→Shared→Prop),tn i s.heap→Q (.ref it) s→wpAny (model P w) A (pyIter (.ref it)) Q E s
abbrev TI:=St→Hp→(It→Hp→Prop)→Prop
def PIE (X:Cx) (pins:List (Addr × Obj)) (σ:St) (tg:Expr) (R:It→Hp→Prop) (itv:Value) (s2:Shared):Prop :=
 ∃ (it:Addr) (fp:List Addr) (tn:Nat→Heap→Prop) (J:It) (H':Hp),itv=.ref it∧Inv X pins σ H' s2∧Turn X.prog X.w X.K tg J fp it tn∧tn 0 s2.heap∧(∀ b∈fp,FpOk X pins H' b)∧R J H'
def PI (X:Cx) (tg iter:Expr) (wi:TI):Prop :=
 ∀ (pins:List (Addr × Obj)) (s:Shared) (σ:St) (H:Hp) (R:It→Hp→Prop),Inv X pins σ H s→wi σ H R→
  wpAny (model X.prog X.w) X.A (eval iter X.env) (fun v s1=>wpAny (model X.prog X.w) X.A (pyIter v) (PIE X pins σ tg R) X.xe s1) X.xe s
theorem go_of {M : Model} {A : Around} {E : Value → Shared → Prop} {s : Shared} {tg : Expr} {it : Addr} {u : Value} {o : Obj} {n : String} {vs : Array Value} {Q : Unit → Shared → Prop} (ho : s.heap.get? it = some o) (hc : o.cls = .type n) (hd : o.data = .fields vs)
    (hn : ["enumerate", "zip", "dict_itemiterator", "dict_reverseitemiterator", "odict_iterator", "itertools.zip_longest", "itertools.pairwise"].contains n = false) (hQ : Q () s) : wpAny M A (letOwnedTupleGo tg (.ref it) u) Q E s := by
  unfold letOwnedTupleGo
  cases tg <;> first
    | exact wpAny_pure hQ
    | (cases u <;> first
        | exact wpAny_pure hQ
        | (refine wpAny_bind (wpAny_load ho ?_)
           rw [hc, hd]
           show wpAny M A (if (["enumerate", "zip", "dict_itemiterator", "dict_reverseitemiterator", "odict_iterator", "itertools.zip_longest", "itertools.pairwise"].contains n && vs[0]? == some (rawInt _)) = true then _ else _) Q E s
           rw [if_neg (by intro h; rw [hn, Bool.false_and] at h; cases h)]
           exact wpAny_pure hQ))
def Itl (K:PySem.W.Frag) (a:Addr):It :=
 ⟨fun i H=>∃ xs x,SqL K H a xs∧xs[i]?=some x,fun i H x H'=>H'=H∧∀ xs,SqL K H a xs→xs[i]?=some x,fun i H=>∃ xs,SqL K H a xs∧xs.length≤i⟩
def Itt (K:PySem.W.Frag) (a:Addr):It :=
 ⟨fun i H=>∃ xs x,SqT K H a xs∧xs[i]?=some x,fun i H x H'=>H'=H∧∀ xs,SqT K H a xs→xs[i]?=some x,fun i H=>∃ xs,SqT K H a xs∧xs.length≤i⟩
def Itr (lo:Int) (n:Nat):It:=⟨fun i _=>i < n,fun i H x H'=>H'=H∧x=.int (lo + i),fun i _=>n≤i⟩
theorem turn_list {P:Program} {w:World} {K:PySem.W.Frag} {tg:Expr} (a it:Addr):Turn P w K tg (Itl K a) [it] it (fun i h=>h.IsListIter it a i) where
 mem:=by simp
 obj:=fun i h st b hb=>by
  have e:b=it:=by simpa using hb
  subst e
  obtain ⟨o,e,c,d⟩:=st
  exact ⟨o,e,fun v z=>by rw [d] at z;cases z⟩
 keep:=fun i h h' st k=>st.at fun o e=>k it (by simp) o e
 item:=by
  intro X hP hw hK hc i pins s σ H E I hf st hg
  subst hP hw hK
  obtain ⟨xs,x,hq,hx⟩:=hg
  obtain ⟨its,rv,p,hz⟩:=I.list hq
  obtain ⟨u,hu,ru⟩:=rv.get hx
  obtain ⟨f0,f1,f2,f3,f4,f5⟩:=hf it (by simp)
  refine wpAny_pyNext_list_item st p.isList (x:=u) (by simpa using hu) fun h' st' sb=>?_
  have I1:Inv X pins σ H { s with heap:=h' }:=I.turned (t':=s.toks) (fun b o hb e=>(sb.2 b hb).trans e) f0 f1 f3 f4 f5
  obtain ⟨o,e,c,d⟩:=id st'
  exact ⟨u,rfl,go_of (s:={ s with heap:=h' }) e c d (by decide) ⟨x,H,I1,ru,⟨rfl,fun ys hy=>by rw [I.list_inj hy hq];exact hx⟩,st',fun b hb=>(hf b hb).1⟩⟩
 done:=by
  intro X hP hw hK hc i pins s σ H E I hf st hg
  subst hP hw hK
  obtain ⟨xs,hq,hx⟩:=hg
  obtain ⟨its,rv,p,hz⟩:=I.list hq
  obtain ⟨f0,f1,f2,f3,f4,f5⟩:=hf it (by simp)
  have hl:=rv.length
  exact wpAny_pyNext_list_end (I.ok.hd hc) st p.isList (by simp;lia) fun h' eb=>⟨rfl,I.turned (t':=s.toks) (fun b o hb e=>eb b o hb e) f0 f1 f3 f4 f5⟩
 self:=fun _ _ _ _ _ st h=>wpAny_pyIter_listiter st h
theorem turn_tuple {P:Program} {w:World} {K:PySem.W.Frag} {tg:Expr} (a it:Addr):Turn P w K tg (Itt K a) [it] it (fun i h=>h.IsTupleIter it a i) where
 mem:=by simp
 obj:=fun i h st b hb=>by
  have e:b=it:=by simpa using hb
  subst e
  obtain ⟨o,e,c,d⟩:=st
  exact ⟨o,e,fun v z=>by rw [d] at z;cases z⟩
 keep:=fun i h h' st k=>st.at fun o e=>k it (by simp) o e
 item:=by
  intro X hP hw hK hc i pins s σ H E I hf st hg
  subst hP hw hK
  obtain ⟨xs,x,hq,hx⟩:=hg
  obtain ⟨its,rv,p,hz⟩:=I.tuple hq
  obtain ⟨u,hu,ru⟩:=rv.get hx
  obtain ⟨f0,f1,f2,f3,f4,f5⟩:=hf it (by simp)
  refine wpAny_pyNext_tuple_item st (show s.heap.IsTuple a its.toArray from p) (x:=u) (by simpa using hu) fun h' st' sb=>?_
  have I1:Inv X pins σ H { s with heap:=h' }:=I.turned (t':=s.toks) (fun b o hb e=>(sb.2 b hb).trans e) f0 f1 f3 f4 f5
  obtain ⟨o,e,c,d⟩:=id st'
  exact ⟨u,rfl,go_of (s:={ s with heap:=h' }) e c d (by decide) ⟨x,H,I1,ru,⟨rfl,fun ys hy=>by rw [I.tuple_inj hy hq];exact hx⟩,st',fun b hb=>(hf b hb).1⟩⟩
 done:=by
  intro X hP hw hK hc i pins s σ H E I hf st hg
  subst hP hw hK
  obtain ⟨xs,hq,hx⟩:=hg
  obtain ⟨its,rv,p,hz⟩:=I.tuple hq
  obtain ⟨f0,f1,f2,f3,f4,f5⟩:=hf it (by simp)
  have hl:=rv.length
  exact wpAny_pyNext_tuple_end (I.ok.hd hc) st (show s.heap.IsTuple a its.toArray from p) (by simp;lia) fun h' eb=>⟨rfl,I.turned (t':=s.toks) (fun b o hb e=>eb b o hb e) f0 f1 f3 f4 f5⟩
 self:=fun _ _ _ _ _ st h=>wpAny_pyIter_tupleiter st h
theorem turn_range {P:Program} {w:World} {K:PySem.W.Frag} {tg:Expr} (it:Addr) (lo:Int) (n:Nat):Turn P w K tg (Itr lo n) [it] it (fun i h=>IsRangeIter h it (lo + (i:Nat) * 1) ((n:Int) - (i:Nat)) 1) where
 mem:=by simp
 obj:=fun i h st b hb=>by
  have e:b=it:=by simpa using hb
  subst e
  exact ⟨_,st,fun v z=>by
   have z':Data.fields _=Data.cell v:=z
   cases z'⟩
 keep:=fun i h h' st k=>k it (by simp) _ st
 item:=by
  intro X hP hw hK hc i pins s σ H E I hf st hg
  subst hP hw hK
  obtain ⟨f0,f1,f2,f3,f4,f5⟩:=hf it (by simp)
  have W:=Walks.range (prog:=X.prog) (w:=X.w) (I.ok.hd hc) it lo 1 n
  refine W.item i s _ _ hg st fun v h' tk hv st' kk=>?_
  obtain ⟨t,rfl⟩:=hv
  have I1:Inv X pins σ H { s with heap:=h',toks:=tk }:=I.turned (fun b o hb e=>kk b o (by simpa using hb) e) f0 f1 f3 f4 f5
  refine ⟨_,rfl,go_of (s:={ s with heap:=h',toks:=tk }) (n:="range_iterator") st' rfl rfl (by decide) ⟨.int (lo + i),H,I1,⟨t,?_⟩,⟨rfl,rfl⟩,st',fun b hb=>(hf b hb).1⟩⟩
  rw [Int.mul_one]
 done:=by
  intro X hP hw hK hc i pins s σ H E I hf st hg
  subst hP hw hK
  obtain ⟨f0,f1,f2,f3,f4,f5⟩:=hf it (by simp)
  exact wpAny_pyNext_range_end (I.ok.hd hc) st (by have:n≤i:=hg;lia) fun h' eb=>⟨rfl,I.turned (t':=s.toks) (fun b o hb e=>eb b o hb e) f0 f1 f3 f4 f5⟩
 self:=fun _ _ _ _ _ st h=>wpAny_pyIter_rangeiter st h
end L2
namespace L2
open PySem PySem.Spec PyProof.Rows
section
variable {X:Cx} {tg:Expr}
def iList (K:PySem.W.Frag) (tl:TE):TI:=fun σ H R=>tl σ H fun x H1=>∃ a,x=.ref a∧(∃ xs,SqL K H1 a xs)∧R (Itl K a) H1
def iTup (K:PySem.W.Frag) (tl:TE):TI:=fun σ H R=>tl σ H fun x H1=>∃ a,x=.ref a∧(∃ xs,SqT K H1 a xs)∧R (Itt K a) H1
theorem J24 {l:Expr} {tl:TE} (hl:PE X l tl):PI X tg l (iList X.K tl):=by
 intro pins s σ H R I h
 refine thn (hl pins s σ H _ I h) fun v s1 ⟨x,H1,I1,r1,q1⟩=>?_
 obtain ⟨a,e,⟨xs,hq⟩,q⟩:=q1
 subst e
 cases r1
 obtain ⟨its,rv,p,hz⟩:=I1.list hq
 refine wpAny_pyIter_list p.isList ?_
 refine ⟨s1.heap.objs.size,[s1.heap.objs.size],_,_,H1,rfl,I1.kept (t':=s1.toks) fun b o e=>Heap.get?_push_of_some _ e,turn_list a _,⟨_,Heap.get?_push_size _ rfl,rfl,rfl⟩,fun b hb=>?_,q⟩
 have e:b=s1.heap.objs.size:=by simpa using hb
 subst e
 exact I1.fpOk (Nat.le_refl _) (I1.hok.fresh (Nat.le_refl _))
theorem pi_tup {l:Expr} {tl:TE} (hl:PE X l tl):PI X tg l (iTup X.K tl):=by
 intro pins s σ H R I h
 refine thn (hl pins s σ H _ I h) fun v s1 ⟨x,H1,I1,r1,q1⟩=>?_
 obtain ⟨a,e,⟨xs,hq⟩,q⟩:=q1
 subst e
 cases r1
 obtain ⟨its,rv,p,hz⟩:=I1.tuple hq
 refine wpAny_pyIter_tuple (show s1.heap.IsTuple a its.toArray from p) ?_
 refine ⟨s1.heap.objs.size,[s1.heap.objs.size],_,_,H1,rfl,I1.kept (t':=s1.toks) fun b o e=>Heap.get?_push_of_some _ e,turn_tuple a _,⟨_,Heap.get?_push_size _ rfl,rfl,rfl⟩,fun b hb=>?_,q⟩
 have e:b=s1.heap.objs.size:=by simpa using hb
 subst e
 exact I1.fpOk (Nat.le_refl _) (I1.hok.fresh (Nat.le_refl _))
theorem range_it {pins:List (Addr × Obj)} {σ:St} {H:Hp} {s:Shared} {R:It→Hp→Prop} {E:Value→Shared→Prop} {lo hi:Int} {t u v:Tok} {tk:Nat} (I:Inv X pins σ H s) (h1:-(2 ^ 62)≤lo) (h2:lo < 2 ^ 62) (h3:-(2 ^ 62)≤hi) (h4:hi < 2 ^ 62)
  (q:R (Itr lo (hi - lo).toNat) H):wpAny (model X.prog X.w) X.A (pyIter (.ref s.heap.objs.size)) (PIE X pins σ tg R) E { s with heap:=s.heap.push { cls:=.type "range",data:=.fields #[.int lo t,.int hi u,.int 1 v] },toks:=tk }:=by
 refine wpAny_pyIter_range (IsRange.new ..) (small_one h1 h2 h3 h4) ?_
 have I1:Inv X pins σ H { s with heap:=s.heap.push { cls:=.type "range",data:=.fields #[.int lo t,.int hi u,.int 1 v] },toks:=tk }:=I.kept fun b o e=>Heap.get?_push_of_some _ e
 refine ⟨(s.heap.push { cls:=.type "range",data:=.fields #[.int lo t,.int hi u,.int 1 v] }).objs.size,[(s.heap.push { cls:=.type "range",data:=.fields #[.int lo t,.int hi u,.int 1 v] }).objs.size],_,_,H,rfl,
  I1.kept (t':=tk) fun b o e=>Heap.get?_push_of_some _ e,turn_range _ lo (hi - lo).toNat,?_,fun b hb=>?_,q⟩
 ·have e1:lo + ((0:Nat):Int) * 1=lo:=by simp
  have e2:(((hi - lo).toNat:Nat):Int) - ((0:Nat):Int)=Builtin.Range.rangeSize lo hi 1:=by rw [rangeSize_one];split <;> lia
  show IsRangeIter _ _ (lo + ((0:Nat):Int) * 1) ((((hi - lo).toNat:Nat):Int) - ((0:Nat):Int)) 1
  rw [e1,e2]
  exact Heap.get?_push_size _ rfl
 ·have e:b=(s.heap.push { cls:=.type "range",data:=.fields #[.int lo t,.int hi u,.int 1 v] }).objs.size:=by simpa using hb
  subst e
  exact I1.fpOk (Nat.le_refl _) (I1.hok.fresh (Nat.le_refl _))
def iRng1 (ta:TA):TI:=fun σ H R=>ta σ H fun vs H1=>∃ j:Int,vs=[.int j]∧-(2 ^ 62)≤j∧j < 2 ^ 62∧R (Itr 0 j.toNat) H1
theorem J3g {a:Expr} {ta:TA} {p pos:Pos} (hg:Gl X "range") (hm:X.mg "range"=none) (ha:PA X [a] ta) (hs:starEach [a] X.env=[(false,eval a X.env)]:=by rfl):PI X tg (.Call (.Name "range" p) [a] [] pos) (iRng1 ta):=by
 intro pins s σ H R I h
 refine Call_ (J67 I hg hm boot_range (PyProof.Rows.callWith_type1 (thn (ha pos pins s σ H _ I h) fun us s1 ⟨vs,H1,I1,r1,q1⟩=>?_) hs rfl))
 obtain ⟨j,e,q1,q2,q⟩:=q1
 subst e
 cases r1 with
 | cons r rr =>
  cases rr
  obtain ⟨t,rfl⟩:=r
  exact call_range_1 (range_it I1 (by lia) (by lia) q1 q2 (by simpa using q))
def tFor (wi:TI) (g:TG) (tb:TS):TS:=fun D σ H=>wi σ H fun J H1=>∃ W:Nat→Nat→St→Hp→Prop,(∃ m,W 0 m σ H1)∧∀ i m σ H,W i m σ H→
 (J.stop i H∧D.nx σ H)∨(J.go i H∧∃ N:St→Hp→Prop,(∀ σ' H',N σ' H'→∃ m',m' < m∧W (i + 1) m' σ' H')∧∀ x H',J.yld i H x H'→g x σ H' fun σ2 H2=>tb { D with nx:=N,ct:=N,bk:=D.nx } σ2 H2)
def pinsAt (fp:List Addr) (h:Heap):List (Addr × Obj):=fp.filterMap fun b=>(h.get? b).map fun o=>(b,o)
theorem J1n {fp:List Addr} {h:Heap} {b:Addr} {o:Obj} (hb:b∈fp) (e:h.get? b=some o):(b,o)∈pinsAt fp h:=List.mem_filterMap.mpr ⟨b,hb,by rw [e];rfl⟩
theorem of_pinsAt {fp:List Addr} {h:Heap} {p:Addr × Obj} (hp:p∈pinsAt fp h):p.1∈fp∧h.get? p.1=some p.2:=by
 obtain ⟨b,hb,e⟩:=List.mem_filterMap.mp hp
 cases q:h.get? b with
 | none=>rw [q] at e;cases e
 | some o =>
  rw [q] at e
  have e':(b,o)=p:=Option.some.inj e
  subst e'
  exact ⟨hb,q⟩
theorem Inv.pinned {pins:List (Addr × Obj)} {σ:St} {H:Hp} {s:Shared} {fp:List Addr} (I:Inv X pins σ H s) (hf:∀ b∈fp,FpOk X pins H b) (ho:∀ b∈fp,∃ o,s.heap.get? b=some o∧∀ v,o.data≠.cell v):Inv X (pins ++ pinsAt fp s.heap) σ H s :=
 I.pins_of fun p hp=>(List.mem_append.mp hp).elim (fun z=>I.pin p (List.mem_append_right _ z)) fun z=>by
  obtain ⟨hb,e⟩:=of_pinsAt z
  obtain ⟨f0,f1,f2,_⟩:=hf p.1 hb
  obtain ⟨o,e',d⟩:=ho p.1 hb
  rw [e] at e';cases e'
  exact ⟨e,f0,f1,f2,d⟩
theorem Inv.unpinned {pins pl:List (Addr × Obj)} {σ:St} {H:Hp} {s:Shared} (I:Inv X (pins ++ pl) σ H s):Inv X pins σ H s:=I.pins_of fun p hp=>I.pin p (List.mem_append_right _ (List.mem_append_left _ hp))
theorem J3v {iter:Expr} {body:List Stmt} {wi:TI} {g:TG} {tb:TS} {pos:Pos} (hp:PassesOwn (model X.prog X.w) X.A X.env X.xe) (hc:X.calm=true) (hi:PI X tg iter wi) (hg:PG X tg g) (hb:PSs X body tb)
  (hs:∀ x,foldedSetIterable iter X.env x=pure x:=by intro _;rfl):PS X (.For tg iter body [] pos) (tFor wi g tb):=by
 intro pins s σ H D I h
 refine wpAny_For (thn (hi pins s σ H _ I h) fun v s1 h1=>thn h1 fun itv s2 h2=>?_) hs
 obtain ⟨it,fp,tn,J,H2,e,I2,T,st2,f2,W,⟨m0,w0⟩,turn⟩:=h2
 subst e
 have stat:∀ {H':Hp},(∀ b∈fp,H' b=none)→∀ b∈fp,FpOk X pins H' b:=fun hn b hb=>⟨hn b hb,(f2 b hb).2⟩
 refine codeAny_forLoop_any (fun n s'=>∃ i σ' H',Inv X pins σ' H' s'∧tn i s'.heap∧(∀ b∈fp,H' b=none)∧W i n σ' H') ?_ m0 ⟨0,σ,H2,I2,st2,fun b hb=>(f2 b hb).1,w0⟩
 rintro n s3 ⟨i,σ3,H3,I3,st3,fr3,w3⟩
 rcases turn i n σ3 H3 w3 with ⟨stop,qn⟩ | ⟨go,N,hN,step⟩
 ·refine wpAny_passesOwn hp (thn (T.done X rfl rfl rfl hc i pins s3 σ3 H3 X.xe I3 (stat fr3) st3 stop) fun r s4 ⟨hr,I4⟩=>?_)
  subst hr
  exact wpAny_execs_nil ⟨σ3,H3,I4,qn⟩
 ·refine wpAny_passesOwn hp (thn (T.item X rfl rfl rfl hc i pins s3 σ3 H3 X.xe I3 (stat fr3) st3 go) fun r s4 ⟨u,hr,h4⟩=>?_)
  subst hr
  refine wpAny_passesOwn hp (thn h4 fun _ s5 ⟨x,H5,I5,r5,y5,st5,fr5⟩=>?_)
  have I5':=I5.pinned (stat fr5) (T.obj _ _ st5)
  refine wpAny_passesOwn hp (thn (hg _ s5 σ3 H5 x u _ I5' r5 (step x H5 y5)) fun _ s6 ⟨σ6,H6,I6,q6⟩=>?_)
  refine wpAny_passesOwn hp (thn (hb _ s6 σ6 H6 _ I6 q6) fun f s7 q7=>?_)
  have again:∀ {σ7:St} {H7:Hp},Inv X (pins ++ pinsAt fp s5.heap) σ7 H7 s7→N σ7 H7→∃ m,m < n∧∃ i σ' H',Inv X pins σ' H' s7∧tn i s7.heap∧(∀ b∈fp,H' b=none)∧W i m σ' H':=fun {σ7 H7} I7 n7=>by
   obtain ⟨m',hm,w7⟩:=hN σ7 H7 n7
   refine ⟨m',hm,i + 1,σ7,H7,I7.unpinned,T.keep _ _ _ st5 fun b hb o e=>(I7.pin (b,o) (List.mem_append_right _ (List.mem_append_right _ (J1n hb e)))).1,fun b hb=>?_,w7⟩
   obtain ⟨o,e,d⟩:=T.obj _ _ st5 b hb
   exact (I7.pin (b,o) (List.mem_append_right _ (List.mem_append_right _ (J1n hb e)))).2.1
  cases f with
  | next=>obtain ⟨σ7,H7,I7,n7⟩:=q7;exact again I7 n7
  | cont=>obtain ⟨σ7,H7,I7,n7⟩:=q7;exact again I7 n7
  | brk=>obtain ⟨σ7,H7,I7,q7⟩:=q7;exact ⟨σ7,H7,I7.unpinned,q7⟩
  | ret v=>obtain ⟨x7,σ7,H7,I7,r7,q7⟩:=q7;exact ⟨x7,σ7,H7,I7.unpinned,r7,q7⟩
end
theorem J2b {K:PySem.W.Frag} {a:Addr} {xs:List V} {g:TG} {tb:TS} {D:Ends} {σ:St} {H:Hp} (Pv:Nat→St→Hp→Prop) (h0:Pv 0 σ H) (hl:∀ i σ H,i≤xs.length→Pv i σ H→SqL K H a xs)
  (hs:∀ i x σ H,xs[i]?=some x→Pv i σ H→g x σ H fun σ2 H2=>tb { D with nx:=Pv (i + 1),ct:=Pv (i + 1),bk:=D.nx } σ2 H2) (hd:∀ σ H,Pv xs.length σ H→D.nx σ H) :
  ∃ W:Nat→Nat→St→Hp→Prop,(∃ m,W 0 m σ H)∧∀ i m σ H,W i m σ H→
   ((Itl K a).stop i H∧D.nx σ H)∨((Itl K a).go i H∧∃ N:St→Hp→Prop,(∀ σ' H',N σ' H'→∃ m',m' < m∧W (i + 1) m' σ' H')∧∀ x H',(Itl K a).yld i H x H'→g x σ H' fun σ2 H2=>tb { D with nx:=N,ct:=N,bk:=D.nx } σ2 H2):=by
 refine ⟨fun i m σ H=>m=xs.length - i∧i≤xs.length∧Pv i σ H,⟨xs.length,by simp,Nat.zero_le _,h0⟩,?_⟩
 rintro i m σ H ⟨rfl,hi,p⟩
 have q:=hl i σ H hi p
 by_cases hlt:i < xs.length
 ·refine .inr ⟨⟨xs,xs[i],q,by simp [hlt]⟩,Pv (i + 1),fun σ' H' p'=>⟨xs.length - (i + 1),by lia,rfl,hlt,p'⟩,fun x H' y=>?_⟩
  obtain ⟨e,y⟩:=y
  subst e
  exact hs i x σ _ (y xs q) p
 ·have e:i=xs.length:=by lia
  subst e
  exact .inl ⟨⟨xs,q,Nat.le_refl _⟩,hd σ H p⟩
theorem for_tup {K:PySem.W.Frag} {a:Addr} {xs:List V} {g:TG} {tb:TS} {D:Ends} {σ:St} {H:Hp} (Pv:Nat→St→Hp→Prop) (h0:Pv 0 σ H) (hl:∀ i σ H,i≤xs.length→Pv i σ H→SqT K H a xs)
  (hs:∀ i x σ H,xs[i]?=some x→Pv i σ H→g x σ H fun σ2 H2=>tb { D with nx:=Pv (i + 1),ct:=Pv (i + 1),bk:=D.nx } σ2 H2) (hd:∀ σ H,Pv xs.length σ H→D.nx σ H) :
  ∃ W:Nat→Nat→St→Hp→Prop,(∃ m,W 0 m σ H)∧∀ i m σ H,W i m σ H→
   ((Itt K a).stop i H∧D.nx σ H)∨((Itt K a).go i H∧∃ N:St→Hp→Prop,(∀ σ' H',N σ' H'→∃ m',m' < m∧W (i + 1) m' σ' H')∧∀ x H',(Itt K a).yld i H x H'→g x σ H' fun σ2 H2=>tb { D with nx:=N,ct:=N,bk:=D.nx } σ2 H2):=by
 refine ⟨fun i m σ H=>m=xs.length - i∧i≤xs.length∧Pv i σ H,⟨xs.length,by simp,Nat.zero_le _,h0⟩,?_⟩
 rintro i m σ H ⟨rfl,hi,p⟩
 have q:=hl i σ H hi p
 by_cases hlt:i < xs.length
 ·refine .inr ⟨⟨xs,xs[i],q,by simp [hlt]⟩,Pv (i + 1),fun σ' H' p'=>⟨xs.length - (i + 1),by lia,rfl,hlt,p'⟩,fun x H' y=>?_⟩
  obtain ⟨e,y⟩:=y
  subst e
  exact hs i x σ _ (y xs q) p
 ·have e:i=xs.length:=by lia
  subst e
  exact .inl ⟨⟨xs,q,Nat.le_refl _⟩,hd σ H p⟩
theorem for_range {lo:Int} {n:Nat} {g:TG} {tb:TS} {D:Ends} {σ:St} {H:Hp} (Pv:Nat→St→Hp→Prop) (h0:Pv 0 σ H)
  (hs:∀ i σ H,i < n→Pv i σ H→g (.int (lo + i)) σ H fun σ2 H2=>tb { D with nx:=Pv (i + 1),ct:=Pv (i + 1),bk:=D.nx } σ2 H2) (hd:∀ σ H,Pv n σ H→D.nx σ H) :
  ∃ W:Nat→Nat→St→Hp→Prop,(∃ m,W 0 m σ H)∧∀ i m σ H,W i m σ H→
   ((Itr lo n).stop i H∧D.nx σ H)∨((Itr lo n).go i H∧∃ N:St→Hp→Prop,(∀ σ' H',N σ' H'→∃ m',m' < m∧W (i + 1) m' σ' H')∧∀ x H',(Itr lo n).yld i H x H'→g x σ H' fun σ2 H2=>tb { D with nx:=N,ct:=N,bk:=D.nx } σ2 H2):=by
 refine ⟨fun i m σ H=>m=n - i∧i≤n∧Pv i σ H,⟨n,by simp,Nat.zero_le _,h0⟩,?_⟩
 rintro i m σ H ⟨rfl,hi,p⟩
 by_cases hlt:i < n
 ·refine .inr ⟨hlt,Pv (i + 1),fun σ' H' p'=>⟨n - (i + 1),by lia,rfl,hlt,p'⟩,fun x H' y=>?_⟩
  obtain ⟨e,y⟩:=y
  subst e y
  exact hs i σ _ hlt p
 ·have e:i=n:=by lia
  subst e
  exact .inl ⟨Nat.le_refl _,hd σ H p⟩
end L2
namespace L2
open PySem PySem.Spec PyProof.Rows
abbrev R2:=V→V→Hp→VK→Prop
def OpR (X:Cx) (f:Value→Value→Sem Value) (r:R2):Prop :=
 ∀ (pins:List (Addr × Obj)) (s:Shared) (σ:St) (H:Hp) (x y:V) (v u:Value) (Q:VK),Inv X pins σ H s→RelV x v→RelV y u→r x y H Q→
  wpAny (model X.prog X.w) X.A (f v u) (EP X pins σ Q) X.xe s
def UnR (X:Cx) (f:Value→Sem Value) (r:V→Hp→VK→Prop):Prop :=
 ∀ (pins:List (Addr × Obj)) (s:Shared) (σ:St) (H:Hp) (x:V) (v:Value) (Q:VK),Inv X pins σ H s→RelV x v→r x H Q→
  wpAny (model X.prog X.w) X.A (f v) (EP X pins σ Q) X.xe s
def CallR (X:Cx) (f:Value) (r:List V→Hp→VK→Prop):Prop :=
 ∀ (pins:List (Addr × Obj)) (s:Shared) (σ:St) (H:Hp) (xs:List V) (us:List Value) (Q:VK),Inv X pins σ H s→Vals xs us→r xs H Q→
  wpAny (model X.prog X.w) X.A (call f us) (EP X pins σ Q) X.xe s
def TruR (X:Cx) (r:V→Hp→(Bool→Hp→Prop)→Prop):Prop :=
 ∀ (pins:List (Addr × Obj)) (s:Shared) (σ:St) (H:Hp) (x:V) (v:Value) (Q:Bool→Hp→Prop),Inv X pins σ H s→RelV x v→r x H Q→
  wpAny (model X.prog X.w) X.A (truthy v) (TP X pins σ Q) X.xe s
def tOp (r:R2) (ta tb:TE):TE:=fun σ H Q=>ta σ H fun x H1=>tb σ H1 fun y H2=>r x y H2 Q
def tUn (r:V→Hp→VK→Prop) (ta:TE):TE:=fun σ H Q=>ta σ H fun x H1=>r x H1 Q
def rI (C:Int→Int→Prop) (g:Int→Int→V):R2:=fun x y H Q=>∃ i j,x=.int i∧y=.int j∧C i j∧Q (g i j) H
def rI0 (g:Int→Int→V):R2:=fun x y H Q=>∃ i j,x=.int i∧y=.int j∧Q (g i j) H
def rU (g:Int→V):V→Hp→VK→Prop:=fun x H Q=>∃ i,x=.int i∧Q (g i) H
section
variable {X:Cx} {a b c:Expr} {ta tb tc:TE} {pos:Pos}
theorem binT (ha:PE X a ta) (hb:PE X b tb) {pins:List (Addr × Obj)} {s:Shared} {σ:St} {H:Hp} {R:V→V→Hp→Prop} (I:Inv X pins σ H s)
  (h:ta σ H fun x H1=>tb σ H1 fun y H2=>R x y H2) {Q:Value→Shared→Prop} {f:Value→Value→Sem Value}
  (hf:∀ v u s2 x y H2,Inv X pins σ H2 s2→RelV x v→RelV y u→R x y H2→wpAny (model X.prog X.w) X.A (f v u) Q X.xe s2) :
  wpAny (model X.prog X.w) X.A (eval a X.env) (fun v s₁=>wpAny (model X.prog X.w) X.A (eval b X.env) (fun u s₂=>wpAny (model X.prog X.w) X.A (f v u) Q X.xe s₂) X.xe s₁) X.xe s:=by
 refine thn (ha pins s σ H _ I h) fun v s1 ⟨x,H1,I1,r1,q1⟩=>?_
 refine thn (hb pins s1 σ H1 _ I1 q1) fun u s2 ⟨y,H2,I2,r2,q2⟩=>?_
 exact hf v u s2 x y H2 I2 r1 r2 q2
theorem pe_op {op:Operator} {r:R2} (ho:OpR X (binaryOp op) r) (ha:PE X a ta) (hb:PE X b tb):PE X (.BinOp a op b pos) (tOp r ta tb):=by
 intro pins s σ H Q I h
 exact wpAny_BinOp (binT ha hb I h fun v u s2 x y H2 I2 rx ry q=>ho pins s2 σ H2 x y v u Q I2 rx ry q)
theorem pe_un {op:UnaryOp} {r:V→Hp→VK→Prop} (ho:UnR X (unaryOp op) r) (ha:PE X a ta):PE X (.UnaryOp op a pos) (tUn r ta):=by
 intro pins s σ H Q I h
 exact UnaryOp_ (thn (ha pins s σ H _ I h) fun v s1 ⟨x,H1,I1,r1,q1⟩=>ho pins s1 σ H1 x v Q I1 r1 q1)
theorem opI {f:Value→Value→Sem Value} {C:Int→Int→Prop} {g:Int→Int→Int}
  (rule:∀ (i j:Int) (t u:Tok) (s:Shared) (Q:Value→Shared→Prop) (E:Value→Shared→Prop),C i j→Q (.int (g i j) s.toks) { s with toks:=s.toks + 1 }→wpAny (model X.prog X.w) X.A (f (.int i t) (.int j u)) Q E s) :
  OpR X f (rI C fun i j=>.int (g i j)):=by
 intro pins s σ H x y v u Q I rx ry h
 obtain ⟨i,j,rfl,rfl,hc,q⟩:=h
 obtain ⟨t,rfl⟩:=rx
 obtain ⟨t',rfl⟩:=ry
 exact rule i j t t' s _ _ hc ⟨.int (g i j),H,I.tok _,⟨_,rfl⟩,q⟩
theorem opI0 {f:Value→Value→Sem Value} {g:Int→Int→Int}
  (rule:∀ (i j:Int) (t u:Tok) (s:Shared) (Q:Value→Shared→Prop) (E:Value→Shared→Prop),Q (.int (g i j) s.toks) { s with toks:=s.toks + 1 }→wpAny (model X.prog X.w) X.A (f (.int i t) (.int j u)) Q E s) :
  OpR X f (rI0 fun i j=>.int (g i j)):=by
 intro pins s σ H x y v u Q I rx ry h
 obtain ⟨i,j,rfl,rfl,q⟩:=h
 obtain ⟨t,rfl⟩:=rx
 obtain ⟨t',rfl⟩:=ry
 exact rule i j t t' s _ _ ⟨.int (g i j),H,I.tok _,⟨_,rfl⟩,q⟩
theorem opB0 {f:Value→Value→Sem Value} {g:Int→Int→Bool}
  (rule:∀ (i j:Int) (t u:Tok) (s:Shared) (Q:Value→Shared→Prop) (E:Value→Shared→Prop),Q (.bool (g i j)) s→wpAny (model X.prog X.w) X.A (f (.int i t) (.int j u)) Q E s) :
  OpR X f (rI0 fun i j=>.bl (g i j)):=by
 intro pins s σ H x y v u Q I rx ry h
 obtain ⟨i,j,rfl,rfl,q⟩:=h
 obtain ⟨t,rfl⟩:=rx
 obtain ⟨t',rfl⟩:=ry
 exact rule i j t t' s _ _ ⟨.bl (g i j),H,I,rfl,q⟩
def CDiv (i j:Int):Prop:=0 < j∧j < 1073741824
def CPow (i j:Int):Prop:=0≤j∧j≤1000000∧i.natAbs < 2 ^ 64
def CMul (i j:Int):Prop:=(-(2 ^ 64) < i∧i < 2 ^ 64)∨(-(2 ^ 64) < j∧j < 2 ^ 64)
theorem CMul.ok {i j:Int} (h:CMul i j):IntMulOk i j:=by
 rcases h with ⟨h1,h2⟩ | ⟨h1,h2⟩
 ·exact .of_left (intBits_le_64 h1 h2)
 ·exact .of_right (intBits_le_64 h1 h2)
theorem two_pow_nn (k:Nat):(0:Int)≤2 ^ k:=by
 rw [two_pow_cast]
 exact Int.natCast_nonneg _
theorem J15:OpR X (binaryOp .Add) (rI0 fun i j=>.int (i + j)):=opI0 fun _ _ _ _ _ _ _ q=>add_int q
theorem J1x:OpR X (binaryOp .Sub) (rI0 fun i j=>.int (i - j)):=opI0 fun _ _ _ _ _ _ _ q=>sub_int q
theorem op_fdiv:OpR X (binaryOp .FloorDiv) (rI CDiv fun i j=>.int (i / j)):=opI fun i j _ _ _ _ _ hc q=>by
 have h1:(0:Int) < j:=hc.1
 have h2:j < 1073741824:=hc.2
 exact floordiv_int (by lia) (by rw [Int.fdiv_eq_ediv_of_nonneg i (by lia)];exact q) (.inl (PyProof.noPylong_small (by lia)))
theorem J4n:OpR X (binaryOp .Mod) (rI (fun _ j=>0 < j) fun i j=>.int (i % j)):=opI fun i j _ _ _ _ _ hc q=>by
 have h1:(0:Int) < j:=hc
 exact mod_int' (by lia) (by rw [Int.fmod_eq_emod_of_nonneg i (by lia)];exact q)
theorem op_pow:OpR X (binaryOp .Pow) (rI CPow fun i j=>.int (i ^ j.toNat)):=opI fun _ _ _ _ _ _ _ hc q=>pow_int_small hc.1 hc.2.1 hc.2.2 q
theorem op_shl:OpR X (binaryOp .LShift) (rI CPow fun i j=>.int (i * 2 ^ j.toNat)):=opI fun _ _ _ _ _ _ _ hc q=>lshift_int_small hc.1 hc.2.1 hc.2.2 q
theorem op_shr:OpR X (binaryOp .RShift) (rI (fun _ j=>0≤j) fun i j=>.int (i / 2 ^ j.toNat)):=opI fun i j _ _ _ _ _ hc q =>
 rshift_int hc (by rw [Int.fdiv_eq_ediv_of_nonneg i (two_pow_nn _)];exact q)
theorem op_and:OpR X (binaryOp .BitAnd) (rI0 fun i j=>.int (Builtin.bitAnd i j)):=opI0 fun _ _ _ _ _ _ _ q=>and_int q
theorem unI {f:Value→Sem Value} {g:Int→Int}
  (rule:∀ (i:Int) (t:Tok) (s:Shared) (Q:Value→Shared→Prop) (E:Value→Shared→Prop),Q (.int (g i) s.toks) { s with toks:=s.toks + 1 }→wpAny (model X.prog X.w) X.A (f (.int i t)) Q E s) :
  UnR X f (rU fun i=>.int (g i)):=by
 intro pins s σ H x v Q I rx h
 obtain ⟨i,rfl,q⟩:=h
 obtain ⟨t,rfl⟩:=rx
 exact rule i t s _ _ ⟨.int (g i),H,I.tok _,⟨_,rfl⟩,q⟩
theorem un_neg:UnR X (unaryOp .USub) (rU fun i=>.int (-i)):=unI fun _ _ _ _ _ q=>neg_int q
end
def scal:V→V→Bool
 | .non,.non=>true | .non,.int _=>true | .int _,.non=>true | .non,.bl _=>true | .bl _,.non=>true | .non,.str _=>true | .str _,.non=>true
 | .int _,.int _=>true | .bl _,.bl _=>true | .str _,.str _=>true | .byt _,.byt _=>true
 | .int _,.str _=>true | .str _,.int _=>true | .bl _,.str _=>true | .str _,.bl _=>true
 | _,_=>false
def rEq:R2:=fun x y H Q=>scal x y=true∧Q (.bl (decide (x=y))) H
def rNe:R2:=fun x y H Q=>scal x y=true∧Q (.bl (!decide (x=y))) H
theorem dec_int {i j:Int}:decide (V.int i=V.int j)=(i == j):=by
 rw [Bool.eq_iff_iff]
 simp
theorem dec_bl {i j:Bool}:decide (V.bl i=V.bl j)=(i == j):=by
 rw [Bool.eq_iff_iff]
 simp
theorem dec_str {i j:Str}:decide (V.str i=V.str j)=(i == j):=by
 rw [Bool.eq_iff_iff]
 simp
theorem dec_byt {i j:Array UInt8}:decide (V.byt i=V.byt j)=(i.toList == j.toList):=by
 rw [Bool.eq_iff_iff]
 cases i
 cases j
 simp
section
variable {X:Cx} {a b c:Expr} {ta tb tc:TE} {pos:Pos}
theorem J1b {pins:List (Addr × Obj)} {σ:St} {H:Hp} {s:Shared} {Q:VK} {k k':Bool} (I:Inv X pins σ H s) (q:Q (.bl k) H) (e:k=k'):EP X pins σ Q (.bool k') s:=by
 subst e
 exact ⟨.bl k,H,I,rfl,q⟩
theorem op_eq:OpR X (compareOp .Eq) rEq:=by
 intro pins s σ H x y v u Q I rx ry h
 obtain ⟨hs,q⟩:=h
 cases x with
 | non =>
  cases rx
  cases y with
  | non=>cases ry;exact PySem.EqNone.eq_none_none (J1b I q (by simp))
  | bl j=>cases ry;exact PySem.EqNone.eq_none_bool (J1b I q (by simp))
  | int j=>obtain ⟨t',rfl⟩:=ry;exact PySem.EqNone.eq_none_int (J1b I q (by simp))
  | str j=>obtain ⟨t',rfl⟩:=ry;exact PySem.EqNone.eq_none_str (J1b I q (by simp))
  | _=>exact absurd (show false=true from hs) Bool.false_ne_true
 | bl i =>
  cases rx
  cases y with
  | non=>cases ry;exact PySem.EqNone.eq_bool_none (J1b I q (by simp))
  | bl j=>cases ry;exact eq_bool (J1b I q dec_bl)
  | str j=>obtain ⟨t',rfl⟩:=ry;exact PySem.EqMixed.eq_bool_str (J1b I q (by simp))
  | _=>exact absurd (show false=true from hs) Bool.false_ne_true
 | int i =>
  obtain ⟨t,rfl⟩:=rx
  cases y with
  | non=>cases ry;exact PySem.EqNone.eq_int_none (J1b I q (by simp))
  | int j=>obtain ⟨t',rfl⟩:=ry;exact eq_int (J1b I q dec_int)
  | str j=>obtain ⟨t',rfl⟩:=ry;exact PySem.EqMixed.eq_int_str (J1b I q (by simp))
  | _=>exact absurd (show false=true from hs) Bool.false_ne_true
 | str i =>
  obtain ⟨t,rfl⟩:=rx
  cases y with
  | non=>cases ry;exact PySem.EqNone.eq_str_none (J1b I q (by simp))
  | bl j=>cases ry;exact PySem.EqMixed.eq_str_bool (J1b I q (by simp))
  | int j=>obtain ⟨t',rfl⟩:=ry;exact PySem.EqMixed.eq_str_int (J1b I q (by simp))
  | str j=>obtain ⟨t',rfl⟩:=ry;exact eq_str (J1b I q dec_str)
  | _=>exact absurd (show false=true from hs) Bool.false_ne_true
 | byt i =>
  obtain ⟨t,rfl⟩:=rx
  cases y with
  | byt j=>obtain ⟨t',rfl⟩:=ry;exact PySem.W.eq_bytes (J1b I q dec_byt)
  | _=>exact absurd (show false=true from hs) Bool.false_ne_true
 | _=>cases y <;> exact absurd (show false=true from hs) Bool.false_ne_true
theorem op_ne:OpR X (compareOp .NotEq) rNe:=by
 intro pins s σ H x y v u Q I rx ry h
 obtain ⟨hs,q⟩:=h
 cases x with
 | non =>
  cases rx
  cases y with
  | non=>cases ry;exact PySem.EqNone.ne_none_none (J1b I q (by simp))
  | bl j=>cases ry;exact PySem.EqNone.ne_none_bool (J1b I q (by simp))
  | int j=>obtain ⟨t',rfl⟩:=ry;exact PySem.EqNone.ne_none_int (J1b I q (by simp))
  | str j=>obtain ⟨t',rfl⟩:=ry;exact PySem.EqNone.ne_none_str (J1b I q (by simp))
  | _=>exact absurd (show false=true from hs) Bool.false_ne_true
 | bl i =>
  cases rx
  cases y with
  | non=>cases ry;exact PySem.EqNone.ne_bool_none (J1b I q (by simp))
  | bl j=>cases ry;exact ne_bool (J1b I q (congrArg not dec_bl))
  | str j=>obtain ⟨t',rfl⟩:=ry;exact PySem.EqMixed.ne_bool_str (J1b I q (by simp))
  | _=>exact absurd (show false=true from hs) Bool.false_ne_true
 | int i =>
  obtain ⟨t,rfl⟩:=rx
  cases y with
  | non=>cases ry;exact PySem.EqNone.ne_int_none (J1b I q (by simp))
  | int j=>obtain ⟨t',rfl⟩:=ry;exact ne_int (J1b I q (congrArg not dec_int))
  | str j=>obtain ⟨t',rfl⟩:=ry;exact PySem.EqMixed.ne_int_str (J1b I q (by simp))
  | _=>exact absurd (show false=true from hs) Bool.false_ne_true
 | str i =>
  obtain ⟨t,rfl⟩:=rx
  cases y with
  | non=>cases ry;exact PySem.EqNone.ne_str_none (J1b I q (by simp))
  | bl j=>cases ry;exact PySem.EqMixed.ne_str_bool (J1b I q (by simp))
  | int j=>obtain ⟨t',rfl⟩:=ry;exact PySem.EqMixed.ne_str_int (J1b I q (by simp))
  | str j=>obtain ⟨t',rfl⟩:=ry;exact ne_str (J1b I q (congrArg not dec_str))
  | _=>exact absurd (show false=true from hs) Bool.false_ne_true
 | byt i =>
  obtain ⟨t,rfl⟩:=rx
  cases y with
  | byt j=>obtain ⟨t',rfl⟩:=ry;exact PySem.W.ne_bytes (J1b I q (congrArg not dec_byt))
  | _=>exact absurd (show false=true from hs) Bool.false_ne_true
 | _=>cases y <;> exact absurd (show false=true from hs) Bool.false_ne_true
theorem op_lt:OpR X (compareOp .Lt) (rI0 fun i j=>.bl (decide (i < j))):=opB0 fun _ _ _ _ _ _ _ q=>lt_int q
theorem op_gt:OpR X (compareOp .Gt) (rI0 fun i j=>.bl (decide (j < i))):=opB0 fun _ _ _ _ _ _ _ q=>gt_int q
theorem op_ge:OpR X (compareOp .GtE) (rI0 fun i j=>.bl (decide (j≤i))):=opB0 fun _ _ _ _ _ _ _ q=>ge_int q
theorem op_isN:OpR X (compareOp .Is) (fun x y H Q=>y=.non∧Q (.bl (decide (x=.non))) H):=by
 intro pins s σ H x y v u Q I rx ry h
 obtain ⟨rfl,q⟩:=h
 cases ry
 refine is_none_gen (J1b I q ?_)
 cases x <;> first
  | (cases rx;rfl)
  | (obtain ⟨t,rfl⟩:=rx;rfl)
theorem J16 (b:Expr) {op:CmpOp} (h:op≠.In:=by decide) (h2:op≠.NotIn:=by decide):behindInMarks op b=false:=by
 have e1:(op == CmpOp.In)=false:=by cases op <;> first | rfl | exact absurd rfl h
 have e2:(op == CmpOp.NotIn)=false:=by cases op <;> first | rfl | exact absurd rfl h2
 cases b <;> simp [behindInMarks,e1,e2]
theorem J26 {op:CmpOp} {r:R2} (ho:OpR X (compareOp op) r) (ha:PE X a ta) (hb:PE X b tb) (hm:behindInMarks op b=false):PE X (.Compare a [op] [b] pos) (tOp r ta tb):=by
 intro pins s σ H Q I h
 exact wpAny_Compare1 (binT ha hb I h fun v u s2 x y H2 I2 rx ry q=>ho pins s2 σ H2 x y v u Q I2 rx ry q) hm
def tTest (t:TE):TT:=fun σ H Q=>t σ H fun x H'=>∃ k,x=.bl k∧Q k H'
theorem J13 {op:CmpOp} {r:R2} (ho:OpR X (compareOp op) r) (ha:PE X a ta) (hb:PE X b tb) (hm:behindInMarks op b=false):PT X (.Compare a [op] [b] pos) (tTest (tOp r ta tb)):=by
 intro pins s σ H Q I h
 refine wpAny_isTrue_Compare1 (thn (ha pins s σ H _ I h) fun v s1 ⟨x,H1,I1,r1,q1⟩=>thn (hb pins s1 σ H1 _ I1 q1) fun u s2 ⟨y,H2,I2,r2,q2⟩ =>
  thn (ho pins s2 σ H2 x y v u _ I2 r1 r2 q2) fun c s3 ⟨z,H3,I3,r3,k,e,q3⟩=>?_) hm
 subst e
 cases r3
 exact wpAny_truthy_bool ⟨H3,I3,q3⟩
def TruV (K:PySem.W.Frag) (x:V) (H:Hp) (k:Bool):Prop :=
 match x with
 | .non=>k=false
 | .bl b=>k=b
 | .int i=>k=(i != 0)
 | .str y=>y.length≤sizeLine∧k=((y.length:Int) != 0)
 | .byt y=>y.size≤sizeLine∧k=((y.size:Int) != 0)
 | .ref p=>(∃ xs,SqL K H p xs∧k=!xs.isEmpty)∨(∃ xs,SqT K H p xs∧k=!xs.isEmpty)∨∃ kvs,H p=some (.dK kvs)∧k=!kvs.isEmpty
 | _=>False
theorem isEmpty_kv {κ:Type} {kvs:List (κ × V)} {vs:List (κ × Value)} (r:KV kvs vs):(!vs.isEmpty)=!kvs.isEmpty:=by
 cases r <;> rfl
theorem J5b {xs:List V} {its:List Value} (r:Vals xs its):(!its.toArray.isEmpty)=!xs.isEmpty:=by
 cases r <;> simp
theorem J65:(sizeLine:Nat) < 2 ^ 63:=by rw [sizeLine_eq];decide
theorem tru_ok:TruR X (fun x H Q=>∃ k,TruV X.K x H k∧Q k H):=by
 intro pins s σ H x v Q I rx h
 obtain ⟨k,e,q⟩:=h
 have hl:=J65
 have hs:sizeLine=16777216:=sizeLine_eq
 cases x with
 | non =>
  cases rx
  have e':k=false:=e
  subst e'
  exact truthy_none ⟨H,I,q⟩
 | bl b =>
  cases rx
  have e':k=b:=e
  subst e'
  exact wpAny_truthy_bool ⟨H,I,q⟩
 | int i =>
  obtain ⟨t,rfl⟩:=rx
  have e':k=(i != 0):=e
  subst e'
  exact PySem.P.truthy_int ⟨H,I,q⟩
 | str y =>
  obtain ⟨t,rfl⟩:=rx
  obtain ⟨hy,e'⟩:y.length≤sizeLine∧k=((y.length:Int) != 0):=e
  subst e'
  exact PySem.P.truthy_str (by lia) ⟨H,I.tok _,q⟩
 | byt y =>
  obtain ⟨t,rfl⟩:=rx
  obtain ⟨hy,e'⟩:y.size≤sizeLine∧k=((y.size:Int) != 0):=e
  subst e'
  exact PySem.W.truthy_bytes (by lia) ⟨H,I.tok _,q⟩
 | ref p =>
  cases rx
  have e':(∃ xs,SqL X.K H p xs∧k=!xs.isEmpty)∨(∃ xs,SqT X.K H p xs∧k=!xs.isEmpty)∨∃ kvs,H p=some (.dK kvs)∧k=!kvs.isEmpty:=e
  rcases e' with ⟨xs,hx,e'⟩ | ⟨xs,hx,e'⟩ | ⟨kvs,hx,e'⟩
  ·subst e'
   obtain ⟨its,r,pl,hz⟩:=I.list hx
   have hlen:=r.length
   exact wpAny_truthy_list pl.isList (by simp only [List.size_toArray];lia) ⟨H,I.tok _,by rw [J5b r];exact q⟩
  ·subst e'
   obtain ⟨its,r,pl,hz⟩:=I.tuple hx
   have hlen:=r.length
   exact truthy_tuple pl (by simp only [List.size_toArray];lia) ⟨H,I.tok _,by rw [J5b r];exact q⟩
  ·subst e'
   obtain ⟨hz,hS,vs,r,m⟩:kvs.length≤sizeLine∧(p == sysModules)=false∧∃ vs,KV kvs vs∧s.heap.DictOf (J1t X.prog X.w) p vs:=I.hok p _ hx
   have hlen:kvs.length=vs.length:=Paired.length r
   exact wpAny_truthy_dict hS m (by lia) ⟨H,I.tok _,by rw [isEmpty_kv r];exact q⟩
 | _=>exact (show False from e).elim
theorem pt_truth (ha:PE X a ta) (he:∀ whole,isTrue a X.env whole=(do let v ← whole;standAt a.pos;holding [v] (truthy v))) :
  PT X a (fun σ H Q=>ta σ H fun x H'=>∃ k,TruV X.K x H' k∧Q k H'):=by
 intro pins s σ H Q I h
 exact isTrue_plain (thn (ha pins s σ H _ I h) fun v s1 ⟨x,H1,I1,r1,q1⟩=>tru_ok pins s1 σ H1 x v Q I1 r1 q1) (he _)
theorem vals1 {x:V} {us:List Value} (r:Vals [x] us):∃ u,us=[u]∧RelV x u:=by
 cases r with
 | cons r1 r2=>cases r2;exact ⟨_,rfl,r1⟩
theorem vals2 {x y:V} {us:List Value} (r:Vals [x,y] us):∃ u w',us=[u,w']∧RelV x u∧RelV y w':=by
 cases r with
 | cons r1 r2 =>
  cases r2 with
  | cons r3 r4=>cases r4;exact ⟨_,_,rfl,r1,r3⟩
theorem J6c:CallR X (.builtin "abs") (fun xs H Q=>∃ i,xs=[.int i]∧Q (.int (if i < 0 then -i else i)) H):=by
 intro pins s σ H xs us Q I r h
 obtain ⟨i,rfl,q⟩:=h
 obtain ⟨u,rfl,t,rfl⟩:=vals1 r
 exact call_abs_int fun u tk=>⟨.int (if i < 0 then -i else i),H,I.tok _,⟨_,rfl⟩,q⟩
theorem call_max2 (hc:X.calm=true):CallR X (.builtin "max") (fun xs H Q=>∃ i j,xs=[.int i,.int j]∧Q (.int (if j > i then j else i)) H):=by
 intro pins s σ H xs us Q I r h
 obtain ⟨i,j,rfl,q⟩:=h
 obtain ⟨u,w',rfl,⟨t,rfl⟩,⟨t',rfl⟩⟩:=vals2 r
 refine max_two_ints (I.ok.hd hc) fun h' tk k=>⟨_,H,I.kept k,?_,q⟩
 by_cases hj:j > i
 ·rw [if_pos hj,if_pos hj];exact ⟨_,rfl⟩
 ·rw [if_neg hj,if_neg hj];exact ⟨_,rfl⟩
theorem call_min2 (hc:X.calm=true):CallR X (.builtin "min") (fun xs H Q=>∃ i j,xs=[.int i,.int j]∧Q (.int (if j < i then j else i)) H):=by
 intro pins s σ H xs us Q I r h
 obtain ⟨i,j,rfl,q⟩:=h
 obtain ⟨u,w',rfl,⟨t,rfl⟩,⟨t',rfl⟩⟩:=vals2 r
 refine min_two_ints (I.ok.hd hc) fun h' tk k=>⟨_,H,I.kept k,?_,q⟩
 by_cases hj:j < i
 ·rw [if_pos hj,if_pos hj];exact ⟨_,rfl⟩
 ·rw [if_neg hj,if_neg hj];exact ⟨_,rfl⟩
end
end L2
namespace L2
open PySem PySem.Spec PyProof.Rows
structure ObjM (h:Heap) (x dx C:Addr) (mA:Str→Option Value):Prop where
 obj:h.get? x=some (PySem.W.instObj C dx)
 ns:h.Ns1 dx mA
 ne:dx≠x
theorem lookIn_ns {h:Heap} {dx:Addr} {mA:Str→Option Value} (n:h.Ns1 dx mA):∃ od,h.get? dx=some od∧∀ name,PySem.W.lookIn name od=some (mA name):=by
 obtain ⟨o,es,ep,ho,hd,hk,_,hm⟩:=n
 refine ⟨o,ho,fun name=>?_⟩
 have e:=hm name
 unfold nsFind findBy at e
 rw [← Array.find?_toList] at e
 unfold PySem.W.lookIn
 rw [hd]
 dsimp only
 split
 ·rename_i y q
  rw [q] at e
  exact congrArg some e
 ·rename_i q
  rw [q] at e
  have a:es.toList.any (·.refKey)=false:=by
   rw [List.any_eq_false]
   intro y hy
   obtain ⟨z,t,hkey⟩:=hk y (Array.mem_toList_iff.mp hy)
   simp [DictEntry.refKey,hkey]
  have a':¬ es.toList.any (·.refKey)=true:=by rw [a];exact Bool.false_ne_true
  rw [if_neg a']
  exact congrArg some e
theorem ObjM.look {h:Heap} {x dx C:Addr} {mA:Str→Option Value} (I:ObjM h x dx C mA):∃ od,PySem.W.InstAt h x (PySem.W.instObj C dx) C (some od)∧∀ name,PySem.W.lookIn name od=some (mA name) :=
 let ⟨od,ho,hl⟩:=lookIn_ns I.ns
 ⟨od,⟨I.obj,rfl,rfl,ho⟩,hl⟩
section
variable {prog:Program} {w:World} {A:Around} {E:Value→Shared→Prop} {s:Shared} {K:PySem.W.Frag} {x dx C f:Addr} {mA:Str→Option Value} {name:Str} {v:Value}
theorem get_map {expr:Bool} {Q:Value→Shared→Prop} (X:K.In s.heap) (I:ObjM s.heap x dx C mA) (hg:PySem.W.plainGet K C name=true) (hh:PySem.W.hasDictIn K C=true)
  (ha:PySem.W.findIn K (.ref C) name=some none) (hv:mA name=some v) (hv':PySem.W.handedIn v=true) (h:Q v { s with toks:=s.toks + 1 }) :
  wpAny (model prog w) A (getAttr (.ref x) name expr) Q E s:=by
 obtain ⟨od,J,hl⟩:=I.look
 exact PySem.W.get_value X J (PySem.W.plainGet_of hg).1 (PySem.W.findObj_own hh ha rfl (by rw [hl,hv])) hv' h
theorem set_map {ns:List Str} {Q:Unit→Shared→Prop} (X:K.In s.heap) (I:ObjM s.heap x dx C mA)
  (hs:PySem.W.findIn K (.ref C) "__setattr__"=some (some (.builtin "object.__setattr__"))) (hp:PySem.W.plainOver K C=true) (ht:PySem.W.takerIn K C name=some none) (hh:PySem.W.hasDictIn K C=true)
  (hw:PySem.Within mA ns) (hsz:ns.length≤sizeLine)
  (h:∀ h',ObjM h' x dx C (fun y=>if y=name then some v else mA y)→Heap.SameBut dx s.heap h'→Q () { s with heap:=h',toks:=s.toks + 2 }) :
  wpAny (model prog w) A (setAttr (.ref x) name v) Q E s:=by
 obtain ⟨od,J,hl⟩:=I.look
 refine PySem.W.set_plain X J hs (PySem.W.osa_open (s:={ s with toks:=s.toks + 1 }) (r:=none) X J hp ht fun b=>?_)
 obtain ⟨cd,hc,hd'⟩:=PySem.W.any_some hh
 have hx:s.heap.get? x=some ⟨.ref C,some dx,.plain,#[]⟩:=I.obj
 refine wpAny_bind (wpAny_pure (wpAny_bind (wpAny_bind (wpAny_loadPart hx (wpAny_bind (PySem.W.Looks.here (s:={ s with toks:=s.toks + 1 }) (PySem.W.looks_clsIn X hc) ?_))))))
 rw [hd']
 refine wpAny_pure (a:=some dx) (wpAny_bind (wpAny_pure (wpAny_bind ?_)))
 refine wpAny_nsSet1 (s:={ s with toks:=s.toks + 1 }) I.ns fun h' hn2 hs2=>?_
 obtain ⟨oD,esD,epD,hoD,hdD,hcD⟩:=hn2.count (PySem.Within.cons name v hw)
 refine wpAny_bind (wpAny_lookBehind hoD (by rw [hdD];exact pastItsLine_dict (Nat.le_trans hcD (by rw [List.length_cons];lia))) ?_)
 exact wpAny_pure (h _ ⟨(hs2.2 _ (Ne.symm I.ne)).trans I.obj,hn2,I.ne⟩ hs2)
theorem make_map {R:Result→Shared→Prop} {vs:List Value} {kw:List (Str × Value)} (X:K.In s.heap) (hm:PySem.W.makesIn K C=true)
  (hi:PySem.W.findIn K (.ref C) "__init__"=some (some (.ref f))) (hf:PySem.W.typeIn K (.ref f)=some (.type "function"))
  (h:codeAny (model prog w) (A.under (.builtin "type.__call__" ⟨.ref C :: vs,kw⟩)) (.call (.ref f) ⟨.ref (s.heap.objs.size + 1) :: vs,kw⟩) (PySem.W.InitBack (s.heap.objs.size + 1) R)
   { s with heap:=(s.heap.push PySem.W.emptyDict).push (PySem.W.instObj C s.heap.objs.size) }) :
  codeAny (model prog w) A (.call (.ref C) ⟨vs,kw⟩) R s:=by
 obtain ⟨hh,g,d,t,os⟩:=s
 exact PySem.W.make_core (PySem.W.makes_of X hm) (PySem.W.looks_findIn X hi) (fun self=>PySem.W.bind_fn X self hf) (.inl rfl) h
end
def putF (f:Str) (v:V):List (Str × V)→List (Str × V)
 | []=>[(f,v)]
 | (g,x) :: r=>if g=f then (g,v) :: r else (g,x) :: putF f v r
theorem J2d (f g:Str) (v:V):∀ fs:List (Str × V),(putF f v fs).lookup g=if g=f then some v else fs.lookup g
 | []=>by
  show List.lookup g [(f,v)]=_
  by_cases h:g=f
  ·have hb:(g == f)=true:=beq_iff_eq.mpr h
   simp only [List.lookup,hb,if_pos h]
  ·have hb:(g == f)=false:=beq_eq_false_iff_ne.mpr h
   simp only [List.lookup,hb,if_neg h]
 | (k,x) :: r=>by
  have ih:=J2d f g v r
  rw [show putF f v ((k,x) :: r)=(if k=f then (k,v) :: r else (k,x) :: putF f v r) from rfl]
  by_cases hk:k=f
  ·rw [if_pos hk]
   by_cases h:g=k
   ·have hb:(g == k)=true:=beq_iff_eq.mpr h
    simp only [List.lookup,hb,if_pos (h.trans hk)]
   ·have hb:(g == k)=false:=beq_eq_false_iff_ne.mpr h
    simp only [List.lookup,hb,if_neg (fun e:g=f=>h (e.trans hk.symm))]
  ·rw [if_neg hk]
   by_cases h:g=k
   ·have hb:(g == k)=true:=beq_iff_eq.mpr h
    simp only [List.lookup,hb,if_neg (fun e:g=f=>hk (h.symm.trans e))]
   ·have hb:(g == k)=false:=beq_eq_false_iff_ne.mpr h
    simp only [List.lookup,hb]
    exact ih
theorem J4u (f:Str) (v:V):∀ fs:List (Str × V),f∈(putF f v fs).map (·.1)∧∀ g,g∈fs.map (·.1)→g∈(putF f v fs).map (·.1)
 | []=>⟨by simp [putF],fun g h=>by simp at h⟩
 | (k,x) :: r=>by
  obtain ⟨i1,i2⟩:=J4u f v r
  rw [show putF f v ((k,x) :: r)=(if k=f then (k,v) :: r else (k,x) :: putF f v r) from rfl]
  by_cases hk:k=f
  ·rw [if_pos hk]
   subst hk
   exact ⟨by simp,fun g h=>by simpa using h⟩
  ·rw [if_neg hk]
   refine ⟨?_,fun g h=>?_⟩
   ·rw [List.map_cons]
    exact List.mem_cons_of_mem _ i1
   ·rw [List.map_cons] at h ⊢
    rcases List.mem_cons.mp h with e | e
    ·exact List.mem_cons.mpr (.inl e)
    ·exact List.mem_cons_of_mem _ (i2 g e)
theorem Jz (f:Str) (v:V):∀ fs:List (Str × V),(putF f v fs).length≤fs.length + 1
 | []=>by simp [putF]
 | (k,x) :: r=>by
  have ih:=Jz f v r
  rw [show putF f v ((k,x) :: r)=(if k=f then (k,v) :: r else (k,x) :: putF f v r) from rfl]
  by_cases hk:k=f
  ·rw [if_pos hk,List.length_cons,List.length_cons];lia
  ·rw [if_neg hk,List.length_cons,List.length_cons];lia
theorem RelO.some_of {v:V} {o:Option Value} (r:RelO (some v) o):∃ u,o=some u∧RelV v u:=by
 cases o with
 | none=>exact (show False from r).elim
 | some u=>exact ⟨u,rfl,r⟩
theorem handed_of {v:V} {u:Value} (r:RelV v u):PySem.W.handedIn u=true:=by
 cases v with
 | non=>cases (show u=Value.none from r);rfl
 | bl b=>cases (show u=Value.bool b from r);rfl
 | int i=>obtain ⟨t,e⟩:=(show ∃ t,u=Value.int i t from r);cases e;rfl
 | str x=>obtain ⟨t,e⟩:=(show ∃ t,u=Value.str x t from r);cases e;rfl
 | byt b=>obtain ⟨t,e⟩:=(show ∃ t,u=Value.bytes b t from r);cases e;rfl
 | flt b=>obtain ⟨t,e⟩:=(show ∃ t,u=Value.float b t from r);cases e;rfl
 | ref a=>cases (show u=Value.ref a from r);rfl
 | ty n=>cases (show u=Value.type n from r);rfl
section
variable {P:Program} {w:World} {H H':Hp} {h h':Heap} {a C dx:Addr} {fs fs':List (Str × V)}
theorem ins_get (hok:HOk P w H h) (e:H a=some (.ins C dx fs)):∃ mA,ObjM h a dx C mA∧(∀ f,RelO (fs.lookup f) (mA f))∧PySem.Within mA (fs.map (·.1))∧fs.length≤1000∧H dx=some (.own a):=by
 obtain ⟨d,z,ne,ob,mA,n,r,q⟩:=(show ObjOk P w H h a (.ins C dx fs) from hok a _ e)
 exact ⟨mA,⟨ob,n,ne⟩,r,q,z,d⟩
end
structure Cls (K:PySem.W.Frag) (C:Addr):Prop where
 pg:PySem.W.plainGet K C Str.empty=true
 hd:PySem.W.hasDictIn K C=true
 po:PySem.W.plainOver K C=true
 sa:PySem.W.findIn K (.ref C) "__setattr__"=some (some (.builtin "object.__setattr__"))
theorem Cls.get {K:PySem.W.Frag} {C:Addr} (c:Cls K C) (f:Str):PySem.W.plainGet K C f=true:=c.pg
def NoAttr (K:PySem.W.Frag) (C:Addr) (f:Str):Prop:=PySem.W.findIn K (.ref C) f=some none
theorem NoAttr.taker {K:PySem.W.Frag} {C:Addr} {f:Str} (n:NoAttr K C f):PySem.W.takerIn K C f=some none:=by
 unfold PySem.W.takerIn
 rw [show PySem.W.findIn K (.ref C) f=some none from n]
 rfl
section
variable {X:Cx} {pins:List (Addr × Obj)} {σ:St} {H:Hp} {s:Shared} {a C dx:Addr} {fs:List (Str × V)} {f:Str} {v:V} {A:Around} {E:Value→Shared→Prop}
theorem getattr_ok {b:Bool} {Q:Value→Shared→Prop} (I:Inv X pins σ H s) (e:H a=some (.ins C dx fs)) (c:Cls X.K C) (n:NoAttr X.K C f) (l:fs.lookup f=some v)
  (h:∀ u s',Inv X pins σ H s'→RelV v u→Q u s'):wpAny (model X.prog X.w) A (getAttr (.ref a) f b) Q E s:=by
 obtain ⟨mA,O,r,_,_,_⟩:=ins_get I.hok e
 obtain ⟨u,hu,ru⟩:=RelO.some_of (v:=v) (o:=mA f) (by rw [← l];exact r f)
 exact get_map I.kIn O (c.get f) c.hd n hu (handed_of ru) (h u _ (I.tok _) ru)
theorem setattr_ok {y:V} {u:Value} {Q:Unit→Shared→Prop} (I:Inv X pins σ H s) (e:H a=some (.ins C dx fs)) (c:Cls X.K C) (n:NoAttr X.K C f) (hl:fs.length < 1000) (ry:RelV y u)
  (h:∀ s',Inv X pins σ (upd H a (.ins C dx (putF f y fs))) s'→Q () s'):wpAny (model X.prog X.w) A (setAttr (.ref a) f u) Q E s:=by
 obtain ⟨mA,O,r,wi,_,ho⟩:=ins_get I.hok e
 have hz:(fs.map (·.1)).length≤sizeLine:=by rw [List.length_map,sizeLine_eq];lia
 refine set_map I.kIn O c.sa c.po n.taker c.hd wi hz fun h' O' sb=>h _ ?_
 have hd:∃ o,h'.get? dx=some o:=let ⟨o,_,_,e',_⟩:=O'.ns;⟨o,e'⟩
 refine I.write (x:=a) (e:=dx) (by rw [e];exact True.intro) (.inr ho) (fun b q hb z=>(sb.2 b hb).trans z) hd ?_
 refine ⟨by rw [Jf O.ne];exact ho,?_,O.ne,O'.obj,_,O'.ns,fun g=>?_,fun g hg=>?_⟩
 ·have:=Jz f y fs;lia
 ·show RelO ((putF f y fs).lookup g) (if g=f then some u else mA g)
  rw [J2d]
  by_cases q:g=f
  ·rw [if_pos q,if_pos q];exact ry
  ·rw [if_neg q,if_neg q];exact r g
 ·by_cases q:g=f
  ·rw [q];exact (J4u f y fs).1
  ·refine (J4u f y fs).2 g (wi g fun z=>hg ?_)
   show (if g=f then some u else mA g)=none
   rw [if_neg q];exact z
theorem Inv.made (I:Inv X pins σ H s):Inv X pins σ (upd (upd H s.heap.objs.size (.own (s.heap.objs.size + 1))) (s.heap.objs.size + 1) (.ins C s.heap.objs.size []))
  { s with heap:=(s.heap.push PySem.W.emptyDict).push (PySem.W.instObj C s.heap.objs.size) }:=by
 have e1:(s.heap.push PySem.W.emptyDict).get? s.heap.objs.size=some PySem.W.emptyDict:=Heap.get?_push_size s.heap rfl
 have e2:((s.heap.push PySem.W.emptyDict).push (PySem.W.instObj C s.heap.objs.size)).get? (s.heap.objs.size + 1)=some (PySem.W.instObj C s.heap.objs.size):=by
  have:=Heap.get?_push_size (s.heap.push PySem.W.emptyDict) (o:=PySem.W.instObj C s.heap.objs.size) rfl
  rwa [Heap.size_push] at this
 have e3:(s.heap.push PySem.W.emptyDict).Ns s.heap.objs.size (fun _=>none):=⟨PySem.W.emptyDict,#[],_,e1,rfl,(fun e he=>absurd he (by simp)),fun _=>rfl⟩
 have I1:=I.laid (a:=s.heap.objs.size) (o:=.own (s.heap.objs.size + 1)) (h':=s.heap.push PySem.W.emptyDict) (t':=s.toks) (fun b u q=>Heap.get?_push_of_some _ q) (Nat.le_refl _) ⟨_,e1⟩
 refine I1.laid (a:=s.heap.objs.size + 1) (o:=.ins C s.heap.objs.size []) (t':=s.toks) (fun b u q=>Heap.get?_push_of_some _ q) (Nat.le_of_eq (Heap.size_push _ _)) ?_
 have ne:s.heap.objs.size≠s.heap.objs.size + 1:=Nat.ne_of_lt (Nat.lt_succ_self _)
 refine ⟨by rw [Jf ne,J1],Nat.zero_le _,ne,e2,fun _=>none,(Heap.Ns1.of_empty e3).at fun o q=>Heap.get?_push_of_some _ q,fun _=>True.intro,fun y hy=>absurd rfl hy⟩
theorem attr_of {prog:Program} {w:World} {env:Env} {e:Expr} {f:Str} {pos:Pos} {s:Shared} {Q:Value→Shared→Prop} (hb:attributeBase e f env (eval e env)=eval e env)
  (h:wpAny (model prog w) A (eval e env) (fun o s₁=>wpAny (model prog w) A (getAttr o f true) Q E s₁) E s):wpAny (model prog w) A (eval (.Attribute e f pos) env) Q E s :=
 Attribute_any_ h (by rw [arm_eval_Attribute,hb])
end
def tFld (K:PySem.W.Frag) (ta:TE) (f:Str):TE:=fun σ H Q=>ta σ H fun x H1=>∃ a C dx fs v,x=.ref a∧H1 a=some (.ins C dx fs)∧Cls K C∧NoAttr K C f∧fs.lookup f=some v∧Q v H1
def sFld (K:PySem.W.Frag) (ta tv:TE) (f:Str):TS:=fun D σ H=>tv σ H fun y H1=>ta σ H1 fun x H2=>∃ a C dx fs,x=.ref a∧H2 a=some (.ins C dx fs)∧Cls K C∧NoAttr K C f∧fs.length < 1000∧
 D.nx σ (upd H2 a (.ins C dx (putF f y fs)))
section
variable {X:Cx} {o e value:Expr} {f:Str} {pos pos' tpos:Pos} {ta tv:TE}
theorem Jy (he:PE X e ta) (hb:attributeBase e f X.env (eval e X.env)=eval e X.env):PE X (.Attribute e f pos) (tFld X.K ta f):=by
 intro pins s σ H Q I h
 refine attr_of hb (thn (he pins s σ H _ I h) fun u s1 ⟨x,H1,I1,rx,a,C,dx,fs,v,ex,ea,c,n,l,q⟩=>?_)
 subst ex
 obtain rfl:u=Value.ref a:=rx
 exact getattr_ok I1 ea c n l fun u' s2 I2 ru=>⟨v,H1,I2,ru,q⟩
theorem J3w (ha:PE X o ta) (hv:PE X value tv) (hs:swapsWith value (some (.Attribute o f pos')) pos.line X.env=pure false):PS X (.Assign [.Attribute o f pos'] value pos) (sFld X.K ta tv f):=by
 intro pins s σ H D I h
 refine plainObj_wpAny_Assign_Attribute (thn (hv pins s σ H _ I h) fun u s1 ⟨y,H1,I1,ry,q⟩=>thn (ha pins s1 σ H1 _ I1 q) fun ov s2 ⟨x,H2,I2,rx,a,C,dx,fs,ex,ea,c,n,l,q2⟩=>?_) hs
 subst ex
 obtain rfl:ov=Value.ref a:=rx
 exact setattr_ok I2 ea c n l ry fun s3 I3=>⟨σ,_,I3,q2⟩
end
section
variable {X:Cx} {pins:List (Addr × Obj)} {σ:St} {H:Hp} {s:Shared} {A:Around} {E:Value→Shared→Prop} {Q:Value→Shared→Prop} {c:Value} {b:Bool}
inductive TyOf (K:PySem.W.Frag) (H:Hp):V→Value→Prop where
 | non:TyOf K H .non (.type "NoneType")
 | bl (x:Bool):TyOf K H (.bl x) (.type "bool")
 | int (i:Int):TyOf K H (.int i) (.type "int")
 | str (x:Str):TyOf K H (.str x) (.type "str")
 | flt (x:UInt64):TyOf K H (.flt x) (.type "float")
 | lst {a:Addr} {xs:List V} (e:H a=some (.lst xs)):TyOf K H (.ref a) (.type "list")
 | frz {a:Addr} {o:Obj} {xs:List V} (e:H a=some (.frz o (.lst xs))):TyOf K H (.ref a) (.type "list")
 | tup {a:Addr} {xs:List V} (e:H a=some (.tup xs)):TyOf K H (.ref a) (.type "tuple")
 | dK {a:Addr} {kvs:List (Key × V)} (e:H a=some (.dK kvs)):TyOf K H (.ref a) (.type "dict")
 | dT {a:Addr} {kvs:List (List Key × V)} (e:H a=some (.dT kvs)):TyOf K H (.ref a) (.type "dict")
 | ins {a C dx:Addr} {fs:List (Str × V)} (e:H a=some (.ins C dx fs)) (cl:Cls K C) (ha:PySem.W.findIn K (.ref C) "__class__"=some (some (.builtin "object.__class__")))
   (hn:PySem.W.specialIn K (.builtin "object.__class__") "__get__"=some (some (.builtin "getset_descriptor.__get__"))) (htk:PySem.W.takesIn K (.builtin "object.__class__")=some true)
   (hm:PySem.W.mroIn K C (.type "object")=some true):TyOf K H (.ref a) (.ref C)
theorem isinst_ok {x:V} {u t:Value} (I:Inv X pins σ H s) (rx:RelV x u) (ty:TyOf X.K H x t) (e:PySem.W.kitOne X.K t c=some b) (h:∀ tk,Q (.bool b) { s with toks:=tk }) :
  wpAny (model X.prog X.w) A (call (.builtin "isinstance") [u,c]) Q E s:=by
 cases ty with
 | non=>cases (show u=Value.none from rx);exact PySem.W.kia_one PySem.W.kitx_none I.kIn True.intro e (fun z=>nomatch z) h
 | bl y=>cases (show u=Value.bool y from rx);exact PySem.W.kia_one PySem.W.kitx_bool I.kIn True.intro e (fun z=>nomatch z) h
 | int i=>obtain ⟨t,q⟩:=(show ∃ t,u=Value.int i t from rx);cases q;exact PySem.W.kia_one PySem.W.kitx_int I.kIn True.intro e (fun z=>nomatch z) h
 | str y=>obtain ⟨t,q⟩:=(show ∃ t,u=Value.str y t from rx);cases q;exact PySem.W.kia_one PySem.W.kitx_str I.kIn True.intro e (fun z=>nomatch z) h
 | flt y=>obtain ⟨t,q⟩:=(show ∃ t,u=Value.float y t from rx);cases q;exact PySem.W.kia_one PySem.W.kitx_float I.kIn True.intro e (fun z=>nomatch z) h
 | @lst a xs ea =>
  cases (show u=Value.ref a from rx)
  obtain ⟨_,_,n,_,h1⟩:=(show ObjOk X.prog X.w H s.heap a (.lst xs) from I.hok a _ ea)
  exact PySem.W.kia_one PySem.W.kitx_list I.kIn ⟨_,h1,rfl⟩ e (fun z=>nomatch z) h
 | @frz a ob xs ea =>
  cases (show u=Value.ref a from rx)
  obtain ⟨_,_,_,n,_,h1⟩:=(show ObjOk X.prog X.w H s.heap a (.frz ob (.lst xs)) from I.hok a _ ea)
  exact PySem.W.kia_one PySem.W.kitx_list I.kIn ⟨_,h1,rfl⟩ e (fun z=>nomatch z) h
 | @tup a xs ea =>
  cases (show u=Value.ref a from rx)
  obtain ⟨_,_,_,p⟩:=(show ObjOk X.prog X.w H s.heap a (.tup xs) from I.hok a _ ea)
  obtain ⟨o,h1,h2,_⟩:=p
  exact PySem.W.kia_one PySem.W.kitx_tuple I.kIn ⟨o,h1,h2.1⟩ e (fun z=>nomatch z) h
 | @dK a kvs ea =>
  cases (show u=Value.ref a from rx)
  obtain ⟨_,_,vs,_,p⟩:=(show ObjOk X.prog X.w H s.heap a (.dK kvs) from I.hok a _ ea)
  obtain ⟨o,es,ep,h1,h2,_⟩:=p
  exact PySem.W.kia_one PySem.W.kitx_dict I.kIn ⟨o,h1,h2.1⟩ e (fun z=>nomatch z) h
 | @dT a kvs ea =>
  cases (show u=Value.ref a from rx)
  obtain ⟨_,_,xs,_,o,es,ep,h1,h2,_⟩:=(show ObjOk X.prog X.w H s.heap a (.dT kvs) from I.hok a _ ea)
  exact PySem.W.kia_one PySem.W.kitx_dict I.kIn ⟨o,h1,h2.1⟩ e (fun z=>nomatch z) h
 | @ins a C dx fs ea cl ha hn htk hm =>
  cases (show u=Value.ref a from rx)
  obtain ⟨mA,O,_⟩:=ins_get I.hok ea
  obtain ⟨od,J,_⟩:=O.look
  exact PySem.W.kia_one (PySem.W.kitx_own (cl.get _) cl.hd ha hn htk hm) I.kIn J e (fun z=>nomatch z) h
end
end L2
namespace L2
open PySem PySem.Spec PyProof.Rows
structure Room (k:Nat) (A:Around):Prop where
 hd:A.handled=none
 dp:A.depth + 3 * k + 5 < recursionLimit
 un:A.units + 16 * k + 200 < cLine
theorem Room.mono {j k:Nat} {A:Around} (r:Room k A) (h:j≤k):Room j A:=⟨r.hd,by have:=r.dp;lia,by have:=r.un;lia⟩
theorem Room.deeper {k:Nat} {A:Around} (r:Room (k + 1) A) (env:Env):Room k (A.deeper env) :=
 ⟨r.hd,by have:=r.dp;show A.depth + 1 + 3 * k + 5 < _;lia,by have:=r.un;show A.units + 3 + 16 * k + 200 < _;lia⟩
theorem Room.in1 {k:Nat} {A:Around} (r:Room (k + 1) A):Room k A.in1 :=
 ⟨r.hd,by have:=r.dp;show A.depth + 3 * k + 5 < _;lia,by have:=r.un;show A.units + 1 + 16 * k + 200 < _;lia⟩
theorem make_depth {A:Around} {C:Addr} {us:List Value} {kw:List (Str × Value)}:(A.under (.builtin "type.__call__" ⟨.ref C :: us,kw⟩)).depth=A.depth + 1:=by
 first | rfl | simp [Around.under,Code.weight,Code.isCreation,Code.isGuard,Code.isCaller,Code.frames,Code.isFrame,guardIds]
theorem make_units {A:Around} {C:Addr} {us:List Value} {kw:List (Str × Value)}:(A.under (.builtin "type.__call__" ⟨.ref C :: us,kw⟩)).units=A.units + 1:=by
 first | rfl | simp [Around.under,Code.cUnits,Code.frames,Code.isFrame]
theorem Room.make {k:Nat} {A:Around} (r:Room (k + 1) A) (C:Addr) (us:List Value) (kw:List (Str × Value)):Room k (A.under (.builtin "type.__call__" ⟨.ref C :: us,kw⟩)) :=
 ⟨r.hd,by have:=r.dp;rw [make_depth];lia,by have:=r.un;rw [make_units];lia⟩
theorem Room.depth {k:Nat} {A:Around} (r:Room k A):A.depth < recursionLimit:=by have:=r.dp;lia
theorem Room.units {k:Nat} {A:Around} (r:Room k A):A.units + 64 < cLine:=by have:=r.un;lia
theorem Room.units0 {k:Nat} {A:Around} (r:Room k A):A.units < cLine:=by have:=r.un;lia
def tNil:TA:=fun _ H Q=>Q [] H
def tCons (ta:TE) (tr:TA):TA:=fun σ H Q=>ta σ H fun x H1=>tr σ H1 fun xs H2=>Q (x :: xs) H2
section
variable {X:Cx} {e:Expr} {es:List Expr} {te:TE} {t:TA} {pos:Pos}
theorem J4:PA X [] tNil:=fun _ _ _ _ H Q I h=>Calls.spliced_nil ⟨[],H,I,.nil,h⟩
theorem J0 (ha:PE X e te) (hr:PA X es t) (hs:starEach (e :: es) X.env=(false,eval e X.env) :: starEach es X.env:=by rfl):PA X (e :: es) (tCons te t):=by
 intro pos pins s σ H Q I h
 rw [hs]
 show wpAny _ _ (spliced ((false,eval e X.env) :: backTo pos (starEach es X.env))) _ _ s
 refine Calls.spliced_cons (thn (ha pins s σ H _ I h) fun u s1 ⟨x,H1,I1,r1,q1⟩=>?_)
 exact thn (hr pos pins s1 σ H1 _ I1 q1) fun us s2 ⟨xs,H2,I2,r2,q2⟩=>⟨x :: xs,H2,I2,.cons r1 r2,q2⟩
def tTup (t:TA):TE:=fun σ H Q=>t σ H fun xs H1=>xs.length≤sizeLine∧∀ p,H1 p=none→Q (.ref p) (upd H1 p (.tup xs))
def tLst (t:TA):TE:=fun σ H Q=>t σ H fun xs H1=>xs.length≤sizeLine∧∀ p,H1 p=none→Q (.ref p) (upd H1 p (.lst xs))
theorem pe_tup {x1} (h:PA X es t):PE X (.Tuple es x1 pos) (tTup t):=by
 intro pins s σ H Q I hq
 refine wpAny_Tuple_spliced (thn (h pos pins s σ H _ I hq) fun us s1 ⟨xs,H1,I1,r,z,q⟩=>⟨by rw [← r.length];exact z,?_⟩)
 have hf:H1 s1.heap.objs.size=none:=I1.hok.fresh (Nat.le_refl _)
 refine ⟨.ref s1.heap.objs.size,upd H1 s1.heap.objs.size (.tup xs),I1.laid (t':=s1.toks) (fun b u e=>Heap.get?_push_of_some _ e) (Nat.le_refl _) ?_,rfl,q _ hf⟩
 exact ⟨z,us,r,⟨_,Heap.get?_push_size _ rfl,⟨rfl,rfl⟩,_,rfl⟩⟩
theorem J1w (h:PA X es t):PE X (.List es pos) (tLst t):=by
 intro pins s σ H Q I hq
 refine wpAny_List_spliced (thn (h pos pins s σ H _ I hq) fun us s1 ⟨xs,H1,I1,r,z,q⟩=>⟨by rw [← r.length];exact z,?_⟩)
 have hf:H1 s1.heap.objs.size=none:=I1.hok.fresh (Nat.le_refl _)
 refine ⟨.ref s1.heap.objs.size,upd H1 s1.heap.objs.size (.lst xs),I1.laid (t':=s1.toks) (fun b u e=>Heap.get?_push_of_some _ e) (Nat.le_refl _) ?_,rfl,q _ hf⟩
 exact ⟨z,us,0,r,Heap.get?_push_size _ rfl⟩
end
abbrev Sp:=List V→Hp→VK→XK→Prop
abbrev CXT:=List Env→Hp→Shared→XK→Value→Shared→Prop
structure Env0 (P:Program) (w:World) (K:PySem.W.Frag) (mg:Str→Option Value) (base:Heap) (A:Around) (outer:List Env) (s:Shared) (H:Hp):Prop where
 frames:A.frames=some outer
 mod:Mod K mg base
 bs:∀ b o,base.get? b=some o→s.heap.get? b=some o∧H b=none
 bsz:base.objs.size≤s.heap.objs.size
 funs:s.heap.FunFrames base outer
 frf:∀ b∈frs outer,H b=none
 hok:HOk P w H s.heap
 bare:AllBare s.gens
def CE (outer:List Env) (P:Program) (w:World) (H:Hp) (s:Shared) (Q:VK) (u:Value) (s':Shared):Prop :=
 ∃ v H',s'.os=s.os∧AllBare s'.gens∧Un (frs outer) [] H H' s.heap s'.heap∧HOk P w H' s'.heap∧RelV v u∧Q v H'
def CR (CX:CXT) (outer:List Env) (P:Program) (w:World) (H:Hp) (s:Shared) (Q:VK) (E:XK) (r:Result) (s':Shared):Prop :=
 match r with
 | .ok (.ret u)=>CE outer P w H s Q u s'
 | .ok _=>False
 | .error e=>CX outer H s E e s'
structure FnOk (P:Program) (w:World) (K:PySem.W.Frag) (mg:Str→Option Value) (base:Heap) (CX:CXT) (k:Nat) (f:Addr) (fd:FuncData) (ps:List Str) (sp:Sp):Prop where
 len:∀ vs H Q E,sp vs H Q E→vs.length=ps.length
 run:∀ (A:Around) (outer:List Env) (s:Shared) (H:Hp) (args:Args) (us:List Value) (vs:List V) (Q:VK) (E:XK),Room k A→Env0 P w K mg base A outer s H→BindsTo s fd args (ps.zip us)→Vals vs us→sp vs H Q E→
  codeAny (model P w) A (.call (.ref f) args) (CR CX outer P w H s Q E) s
theorem FnOk.mono {P:Program} {w:World} {K:PySem.W.Frag} {mg:Str→Option Value} {base:Heap} {CX:CXT} {j k:Nat} {f:Addr} {fd:FuncData} {ps:List Str} {sp:Sp} (F:FnOk P w K mg base CX j f fd ps sp) (h:j≤k) :
  FnOk P w K mg base CX k f fd ps sp:=⟨F.len,fun A outer s H args us vs Q E hr=>F.run A outer s H args us vs Q E (hr.mono h)⟩
theorem Env0.make {P:Program} {w:World} {K:PySem.W.Frag} {mg:Str→Option Value} {base:Heap} {A:Around} {outer:List Env} {s:Shared} {H:Hp} (e:Env0 P w K mg base A outer s H) (C:Addr) (us:List Value) (kw:List (Str × Value)) :
  Env0 P w K mg base (A.under (.builtin "type.__call__" ⟨.ref C :: us,kw⟩)) outer s H:=⟨by first | exact e.frames | (simpa [Around.under,Code.envs,Code.isFrame,pushEnvs] using e.frames),e.mod,e.bs,e.bsz,e.funs,e.frf,e.hok,e.bare⟩
theorem Env0.in1 {P:Program} {w:World} {K:PySem.W.Frag} {mg:Str→Option Value} {base:Heap} {A:Around} {outer:List Env} {s:Shared} {H:Hp} (e:Env0 P w K mg base A outer s H) :
  Env0 P w K mg base A.in1 outer s H:=⟨e.frames,e.mod,e.bs,e.bsz,e.funs,e.frf,e.hok,e.bare⟩
section
variable {X:Cx} {pins:List (Addr × Obj)} {σ:St} {H:Hp} {s s':Shared}
theorem Inv.env0 (I:Inv X pins σ H s):Env0 X.prog X.w X.K X.mg X.base X.A X.stack s H :=
 ⟨I.ok.frames,I.ok.mod,I.bs,Nat.le_trans I.ok.bsz I.sz,I.stack,I.stkFree,I.hok,I.bare⟩
theorem Inv.after {Q:VK} {u:Value} (I:Inv X pins σ H s) (h:CE X.stack X.prog X.w H s Q u s'):EP X pins σ Q u s':=by
 obtain ⟨v,H',os,bare,un,hok,r,q⟩:=h
 obtain ⟨hh,g,d,t,os'⟩:=s'
 obtain rfl:os'=s.os:=os
 exact ⟨v,H',I.call (h':=hh) (g':=g) (d':=d) (t':=t) (ch:=[]) un hok bare (fun b z=>absurd z (by simp)),r,q⟩
end
def tCall (sp:Sp) (dvs:List V) (E:XK) (t:TA):TE:=fun σ H Q=>t σ H fun vs H1=>sp (vs ++ dvs) H1 Q E
def tMake (C:Addr) (sp:Sp) (dvs:List V) (E:XK) (t:TA):TE:=fun σ H Q=>t σ H fun vs H1=>∀ x dx,H1 x=none→H1 dx=none→dx≠x→
 sp (.ref x :: (vs ++ dvs)) (upd (upd H1 dx (.own x)) x (.ins C dx [])) (fun v H2=>v=.non∧Q (.ref x) H2) E
def Binds (K:PySem.W.Frag) (fd:FuncData) (ps:List Str) (ds:List Value):Prop :=
 ∀ (s:Shared) (us:List Value),K.In s.heap→(us ++ ds).length=ps.length→BindsTo s fd ⟨us,[]⟩ (ps.zip (us ++ ds))
theorem Binds.all {K:PySem.W.Frag} {fd:FuncData} {ps:List Str} (h:∀ us:List Value,us.length=ps.length→bindArgs fd ⟨us,[]⟩=pure (ps.zip us)):Binds K fd ps []:=fun s us _ hl=>by
 rw [List.append_nil] at hl ⊢
 exact .of_eq (h us hl)
def Passes (CX:CXT) (X:Cx) (E:XK):Prop:=∀ (pins:List (Addr × Obj)) (σ:St) (H:Hp) (s:Shared) (e:Value) (s':Shared),Inv X pins σ H s→CX X.stack H s E e s'→X.xe e s'
section
variable {X:Cx} {CX:CXT} {k:Nat} {f C:Addr} {fd:FuncData} {ps:List Str} {sp:Sp} {dvs:List V} {ds:List Value} {E:XK} {x m:Str} {p pos apos:Pos} {e o:Expr} {es:List Expr} {ta:TE} {t:TA}
theorem run_fn {pins:List (Addr × Obj)} {σ:St} {H:Hp} {s:Shared} {Q:VK} {us:List Value} {vs:List V} (F:FnOk X.prog X.w X.K X.mg X.base CX k f fd ps sp) (hr:Room k X.A) (hb:Binds X.K fd ps ds) (hd:Vals dvs ds) (hx:Passes CX X E)
  (I:Inv X pins σ H s) (r:Vals vs us) (h:sp (vs ++ dvs) H Q E):wpAny (model X.prog X.w) X.A (call (.ref f) us) (EP X pins σ Q) X.xe s:=by
 have r2:Vals (vs ++ dvs) (us ++ ds):=r.append hd
 have hl:(us ++ ds).length=ps.length:=by rw [← r2.length];exact F.len _ _ _ _ h
 refine wpAny_call (codeAny_mono (F.run X.A X.stack s H ⟨us,[]⟩ (us ++ ds) (vs ++ dvs) Q E hr I.env0 (hb s us I.kIn hl) r2 h) fun r s' hq=>?_)
 cases r with
 | error e=>exact hx pins σ H s e s' I hq
 | ok fl =>
  cases fl with
  | ret u=>exact I.after hq
  | next=>exact False.elim hq
  | brk=>exact False.elim hq
  | cont=>exact False.elim hq
theorem Jp (F:FnOk X.prog X.w X.K X.mg X.base CX k f fd ps sp) (hr:Room k X.A) (hg:Gl X x) (hm:X.mg x=some (.ref f)) (hk:PySem.W.keepIn X.K (.ref f)=true) (hb:Binds X.K fd ps ds) (hd:Vals dvs ds) (hx:Passes CX X E)
  (ha:PA X (e :: es) t) (hdb:(x == ("__debug__":Str))=false:=by decide) (he:starEach (e :: es) X.env=(false,eval e X.env) :: starEach es X.env:=by rfl) (hpl:(backTo pos (starEach es X.env)).any (·.1)=false:=by rfl) :
  PE X (.Call (.Name x p) (e :: es) [] pos) (tCall sp dvs E t):=by
 intro pins s σ H Q I h
 refine wpAny_Call_Name_kw (J48 I hg hm ?_ hdb)
 refine PySem.W.callWith_K (h₀:=X.base) I.ok.mod.kin hk (thn (ha pos pins s σ H _ I h) fun us s1 ⟨vs,H1,I1,r,q⟩=>⟨I1.kIn,?_⟩) he hpl
 exact run_fn F hr hb hd hx I1 r q
structure Mk (K:PySem.W.Frag) (C f:Addr):Prop where
 makes:PySem.W.makesIn K C=true
 init:PySem.W.findIn K (.ref C) "__init__"=some (some (.ref f))
 fn:PySem.W.isFn K (.ref f)=true
 kp:PySem.W.keepIn K (.ref C)=true
theorem run_make {pins:List (Addr × Obj)} {σ:St} {H:Hp} {s:Shared} {Q:VK} {us:List Value} {vs:List V} (M:Mk X.K C f) (F:FnOk X.prog X.w X.K X.mg X.base CX k f fd ps sp) (hr:Room (k + 1) X.A) (hb:Binds X.K fd ps ds) (hd:Vals dvs ds)
  (hx:Passes CX X E) (I:Inv X pins σ H s) (r:Vals vs us)
  (h:∀ x dx,H x=none→H dx=none→dx≠x→sp (.ref x :: (vs ++ dvs)) (upd (upd H dx (.own x)) x (.ins C dx [])) (fun v H2=>v=.non∧Q (.ref x) H2) E) :
  wpAny (model X.prog X.w) X.A (call (.ref C) us) (EP X pins σ Q) X.xe s:=by
 have hq:=h (s.heap.objs.size + 1) s.heap.objs.size (I.hok.fresh (Nat.le_succ _)) (I.hok.fresh (Nat.le_refl _)) (Nat.ne_of_lt (Nat.lt_succ_self _))
 have I2:=Inv.made (C:=C) I
 have r2:Vals (V.ref (s.heap.objs.size + 1) :: (vs ++ dvs)) (Value.ref (s.heap.objs.size + 1) :: (us ++ ds)):=.cons rfl (r.append hd)
 have hl:(Value.ref (s.heap.objs.size + 1) :: us ++ ds).length=ps.length:=by
  have e:=r2.length
  rw [F.len _ _ _ _ hq] at e
  exact e.symm
 refine wpAny_call (make_map (f:=f) I.kIn M.makes M.init (beq_iff_eq.mp M.fn) (codeAny_mono (F.run _ X.stack _ _ ⟨Value.ref (s.heap.objs.size + 1) :: us,[]⟩ (Value.ref (s.heap.objs.size + 1) :: (us ++ ds)) _ _ E (hr.make C us [])
  (I2.env0.make C us []) (hb _ (Value.ref (s.heap.objs.size + 1) :: us) I2.kIn hl) r2 hq) fun r s' hq'=>?_))
 cases r with
 | error e=>exact hx pins σ _ _ e s' I2 hq'
 | ok fl =>
  cases fl with
  | ret u =>
   obtain ⟨v,H',I3,rv,ev,q3⟩:=I2.after hq'
   subst ev
   exact ⟨rv,⟨V.ref (s.heap.objs.size + 1),H',I3,rfl,q3⟩⟩
  | next=>exact False.elim hq'
  | brk=>exact False.elim hq'
  | cont=>exact False.elim hq'
theorem J56 (M:Mk X.K C f) (F:FnOk X.prog X.w X.K X.mg X.base CX k f fd ps sp) (hr:Room (k + 1) X.A) (hg:Gl X x) (hm:X.mg x=some (.ref C)) (hb:Binds X.K fd ps ds) (hd:Vals dvs ds) (hx:Passes CX X E)
  (ha:PA X (e :: es) t) (hdb:(x == ("__debug__":Str))=false:=by decide) (he:starEach (e :: es) X.env=(false,eval e X.env) :: starEach es X.env:=by rfl) (hpl:(backTo pos (starEach es X.env)).any (·.1)=false:=by rfl) :
  PE X (.Call (.Name x p) (e :: es) [] pos) (tMake C sp dvs E t):=by
 intro pins s σ H Q I h
 refine wpAny_Call_Name_kw (J48 I hg hm ?_ hdb)
 refine PySem.W.callWith_K (h₀:=X.base) I.ok.mod.kin M.kp (thn (ha pos pins s σ H _ I h) fun us s1 ⟨vs,H1,I1,r,q⟩=>⟨I1.kIn,?_⟩) he hpl
 exact run_make M F hr hb hd hx I1 r q
end
structure FnScope (N P:List Str) (sc:Scope):Prop where
 kind:sc.kind=.function
 co:sc.isCoroutine=false
 gen:sc.isGenerator=false
 nd:N.Nodup
 pre:N.take P.length=P
 par:∀ x∈P,sc.names.lookup x=some .local∨sc.names.lookup x=some .cell
 nofree:∀ y∈sc.names,y.2≠.free
theorem bindL_out {kindOf:Str→Option NameKind} {x:Str}:∀ {binds:List (Str × Value)} {m:Str→Option Value},(∀ v,(x,v) ∉ binds)→bindL kindOf binds m x=m x
 | [],_,_=>rfl
 | (n,v) :: r,m,h=>by
  unfold bindL
  rw [bindL_out fun w hw=>h w (List.mem_cons_of_mem _ hw)]
  split
  ·have:x≠n:=by rintro rfl;exact h v List.mem_cons_self
   simp [this]
  ·rfl
theorem bindC_out {kindOf:Str→Option NameKind} {x:Str}:∀ {binds:List (Str × Value)} {m:Str→Option Value},(∀ v,(x,v) ∉ binds)→bindC kindOf binds m x=m x
 | [],_,_=>rfl
 | (n,v) :: r,m,h=>by
  unfold bindC
  rw [bindC_out fun w hw=>h w (List.mem_cons_of_mem _ hw)]
  split
  ·rfl
  ·have:x≠n:=by rintro rfl;exact h v List.mem_cons_self
   simp [this]
theorem bindL_get {kindOf:Str→Option NameKind} {x:Str} {v:Value}:∀ {P:List Str} {vs:List Value} {i:Nat} {m:Str→Option Value},P.Nodup→P[i]?=some x→vs[i]?=some v→kindOf x=some .local→
  bindL kindOf (P.zip vs) m x=some v
 | [],_,_,_,_,h,_,_=>by simp at h
 | _ :: _,[],_,_,_,_,h,_=>by simp at h
 | p :: P,w :: vs,0,m,nd,h1,h2,hk=>by
  simp at h1 h2;subst h1;subst h2
  show bindL kindOf ((p,w) :: P.zip vs) m p=_
  unfold bindL
  rw [bindL_out fun v hv=>(List.nodup_cons.mp nd).1 (List.of_mem_zip hv).1,if_pos hk]
  simp
 | p :: P,w :: vs,i + 1,m,nd,h1,h2,hk=>by
  show bindL kindOf ((p,w) :: P.zip vs) m x=_
  unfold bindL
  exact bindL_get (i:=i) (List.nodup_cons.mp nd).2 (by simpa using h1) (by simpa using h2) hk
theorem bindC_get {kindOf:Str→Option NameKind} {x:Str} {v:Value}:∀ {P:List Str} {vs:List Value} {i:Nat} {m:Str→Option Value},P.Nodup→P[i]?=some x→vs[i]?=some v→kindOf x≠some .local→
  bindC kindOf (P.zip vs) m x=some v
 | [],_,_,_,_,h,_,_=>by simp at h
 | _ :: _,[],_,_,_,_,h,_=>by simp at h
 | p :: P,w :: vs,0,m,nd,h1,h2,hk=>by
  simp at h1 h2;subst h1;subst h2
  show bindC kindOf ((p,w) :: P.zip vs) m p=_
  unfold bindC
  rw [bindC_out fun v hv=>(List.nodup_cons.mp nd).1 (List.of_mem_zip hv).1,if_neg hk]
  simp
 | p :: P,w :: vs,i + 1,m,nd,h1,h2,hk=>by
  show bindC kindOf ((p,w) :: P.zip vs) m x=_
  unfold bindC
  exact bindC_get (i:=i) (List.nodup_cons.mp nd).2 (by simpa using h1) (by simpa using h2) hk
def start (N:List Str) (vs:List V):St:=vs.map some ++ List.replicate (N.length - vs.length) none
def cxOf (CX:CXT) (P:Program) (w:World) (K:PySem.W.Frag) (mg:Str→Option Value) (base:Heap) (N:List Str) (qual:Str) (scope:Scope) (f:Addr) (cd:Value) (A:Around) (outer:List Env) (s:Shared) (H:Hp) (E:XK):Cx where
 prog:=P
 w:=w
 K:=K
 mg:=mg
 base:=base
 A:=A.deeper (envOfC qual scope s.heap.objs.size f cd)
 N:=N
 s₀:=s
 H₀:=H
 env:=envOfC qual scope s.heap.objs.size f cd
 outer:=outer
 stack:=envOfC qual scope s.heap.objs.size f cd :: outer
 ex:=[]
 calm:=true
 fn:=fun _=>true
 pn:=[]
 xe:=fun e s'=>wpAny (model P w) (A.deeper (envOfC qual scope s.heap.objs.size f cd)) (leaving (envOfC qual scope s.heap.objs.size f cd) e) (fun _ s''=>CX outer H s E e s'') (fun e' s''=>CX outer H s E e' s'') s'
theorem cell_has {sc:Scope} {n:Nat} {x:Str} (h:sc.names.lookup x=some .cell):∃ c,(cellsFrom n sc.names []).lookup x=some c:=by
 have q:=PySem.W.cellsFrom_some sc.names n [] (.inl h)
 exact Option.isSome_iff_exists.mp q
theorem inv_start {CX:CXT} {P:Program} {w:World} {K:PySem.W.Frag} {mg:Str→Option Value} {base:Heap} {N ps:List Str} {qual:Str} {scope:Scope} {f:Addr} {cd:Value} {A:Around} {outer:List Env} {s s1:Shared} {H:Hp} {E:XK} {us:List Value} {vs:List V}
  (S:FnScope N ps scope) (hd:A.handled=none) (e0:Env0 P w K mg base A outer s H) (hl:vs.length=ps.length) (r:Vals vs us)
  (x:InCallC s s.heap.objs.size (bindL (envOfC qual scope s.heap.objs.size f cd).kindOf (ps.zip us) fun _=>none) (cellsFrom (s.heap.objs.size + 1) scope.names []) (bindC (envOfC qual scope s.heap.objs.size f cd).kindOf (ps.zip us) fun _=>none) s1) :
  Inv (cxOf CX P w K mg base N qual scope f cd A outer s H E) [] (start N vs) H s1:=by
 have hpl:ps.length≤N.length:=by have:=congrArg List.length S.pre;rw [List.length_take] at this;lia
 obtain ⟨h1,tk,rfl,hk⟩:=x.done
 have noA:∀ b:Addr,b ∉ (cxOf CX P w K mg base N qual scope f cd A outer s H E).ex:=fun b z=>absurd (show b∈([]:List Addr) from z) (by simp)
 refine ⟨⟨e0.mod,S.kind,rfl,rfl,Nat.le_refl _,fun y z c h1 h2=>?_,fun y hy=>?_,fun y c _ h=>?_,fun _=>hd,Around.frames_deeper e0.frames,.inr ⟨rfl,rfl⟩,fun b z=>absurd z (noA b),e0.bs,e0.bsz,fun b _ _=>noA b,fun b z=>absurd z (noA b),e0.funs,e0.frf⟩,
  rfl,e0.bare,Un.kept hk,⟨_,x.toInCall.ns,fun i y v h1 h2 h3=>?_⟩,fun y c h=>⟨_,x.cell y c h⟩,e0.hok.fresh (Nat.le_refl _),fun y c h=>?_,fun p hp=>absurd (show p∈([]:List (Addr × Obj)) from hp) (by simp),e0.hok.kept hk,?_⟩
 ·exact name_of_addr x.apart (PySem.mem_of_lookup h1) (PySem.mem_of_lookup h2)
 ·have hy:scope.names.lookup y=some .cell∨scope.names.lookup y=some .free:=hy
  rcases hy with hy | hy
  ·exact cell_has hy
  ·exact absurd rfl (S.nofree _ (PySem.mem_of_lookup hy))
 ·exact Nat.le_of_lt (x.above y c (PySem.mem_of_lookup h))
 ·have hi:i < vs.length:=by
   unfold start at h2
   by_cases hi:i < vs.length
   ·exact hi
   ·rw [List.getElem?_append_right (by simpa using hi)] at h2
    rw [List.getElem?_replicate] at h2
    split at h2 <;> cases h2
  have ha:vs[i]?=some v:=by
   unfold start at h2
   rw [List.getElem?_append_left (by simpa using hi),List.getElem?_map] at h2
   cases e:vs[i]? with
   | none=>rw [e] at h2;cases h2
   | some a=>rw [e] at h2;cases h2;rfl
  obtain ⟨u,hu,rv⟩:=r.get ha
  have hp:ps[i]?=some y:=by
   rw [← S.pre,List.getElem?_take_of_lt (by lia)];exact h1
  have ndP:ps.Nodup:=by rw [← S.pre];exact S.nd.sublist (List.take_sublist _ _)
  refine ⟨u,rv,?_⟩
  rcases S.par y (List.mem_of_getElem? hp) with k | k
  ·exact .inl ⟨k,bindL_get ndP hp hu k⟩
  ·obtain ⟨c,e⟩:=cell_has (n:=s.heap.objs.size + 1) k
   refine .inr ⟨.inl k,c,e,?_⟩
   have q:=x.cell y c e
   rw [bindC_get ndP hp hu (by show scope.names.lookup y≠_;rw [k];decide)] at q
   exact q
 ·exact e0.hok.fresh (Nat.le_of_lt (x.above y c (PySem.mem_of_lookup h)))
 ·unfold start
  show _=N.length
  rw [List.length_append,List.length_map,List.length_replicate]
  lia
theorem fn_of {CX:CXT} {P:Program} {w:World} {K:PySem.W.Frag} {mg:Str→Option Value} {base:Heap} {k:Nat} {f:Addr} {name qual:Str} {params:Arguments} {body:List Stmt} {scope:Scope} {dV kV doc pm cdv ct oc:Value} {an od:Option Addr}
  {osl:Array (Option Value)} {N ps:List Str} {sp:Sp} (lk:K.lookup f=some ⟨oc,od,.func (PySem.W.fnOf name qual params body scope dV kV doc pm an cdv ct),osl⟩) (hcd:PySem.W.codeIn K cdv qual=true) (S:FnScope N ps scope)
  (len:∀ vs H Q E,sp vs H Q E→vs.length=ps.length)
  (hbody:∀ (A:Around) (outer:List Env) (s:Shared) (H:Hp) (vs:List V) (Q:VK) (E:XK),Room k (A.deeper (envOfC qual scope s.heap.objs.size f cdv))→sp vs H Q E→
   ∃ t,PSs (cxOf CX P w K mg base N qual scope f cdv A outer s H E) body t∧t { nx:=fun _ H'=>Q .non H',rt:=Q } (start N vs) H) :
  FnOk P w K mg base CX (k + 1) f (PySem.W.fnOf name qual params body scope dV kV doc pm an cdv ct) ps sp:=by
 refine ⟨len,fun A outer s H args us vs Q E hr e0 hb r hsp=>?_⟩
 have hl:=len _ _ _ _ hsp
 have KX:K.In s.heap:=e0.mod.kin.keeps fun b o e=>(e0.bs b o e).1
 have lim:s.heap.NoLimit:=e0.mod.nolimit.keeps fun b o e=>(e0.bs b o e).1
 have hkind:∀ y∈ps.zip us,scope.names.lookup y.1=some .local∨(scope.names.lookup y.1=some .cell∧((cellsFrom (s.heap.objs.size + 1) scope.names []).lookup y.1).isSome=true):=fun ⟨n,v⟩ hy=>by
  rcases S.par n (List.of_mem_zip hy).1 with q | q
  ·exact .inl q
  ·exact .inr ⟨q,PySem.W.cellsFrom_some _ _ _ (.inl q)⟩
 refine codeAny_call_function hr.depth (KX _ _ lk) rfl S.co S.gen rfl (PySem.W.codeRec_of KX hcd) (hb _ _ _ _ ?_)
 refine wpAny_newFunctionEnv_cells S.kind hkind fun env he s1 x=>?_
 subst he
 refine ⟨lim.keeps x.toInCall.keep,codeAny_func ?_⟩
 obtain ⟨t,ht,hq⟩:=hbody A outer s H vs Q E (hr.deeper _) hsp
 have I:Inv (cxOf CX P w K mg base N qual scope f cdv A outer s H E) [] (start N vs) H s1:=inv_start S hr.hd e0 hl r x
 refine wpAny_mono (ht [] s1 (start N vs) H _ I hq) (fun fl s' hs=>?_) fun e s' hs=>hs
 have fin:∀ {σ':St} {H':Hp} {v:V} {u:Value},Inv (cxOf CX P w K mg base N qual scope f cdv A outer s H E) [] σ' H' s'→RelV v u→Q v H'→CE outer P w H s Q u s' :=
  fun {σ' H' v u} J rv q=>⟨v,H',J.os,J.bare,J.base,J.hok,rv,q⟩
 cases fl with
 | ret u =>
  obtain ⟨v,σ',H',J,rv,q⟩:=hs
  exact fin J rv q
 | next =>
  obtain ⟨σ',H',J,q⟩:=hs
  exact fin (v:=V.non) (u:=Value.none) J rfl q
 | brk =>
  obtain ⟨_,_,_,q⟩:=hs
  exact False.elim q
 | cont =>
  obtain ⟨_,_,_,q⟩:=hs
  exact False.elim q
end L2
namespace L2
open PySem PySem.Spec PyProof.Rows
section
variable {X:Cx} {x:Str} {p pos:Pos} {e:Expr} {es:List Expr} {t:TA} {id T:String} {r:List V→Hp→VK→Prop}
def tCB (r:List V→Hp→VK→Prop) (t:TA):TE:=fun σ H Q=>t σ H fun vs H1=>r vs H1 Q
theorem J7 (hc:CallR X (.builtin id) r) (hg:Gl X x) (hm:X.mg x=none) (hv:bootBuiltins x=some (.builtin id)) (ha:PA X (e :: es) t) (hn:x≠"__name__":=by decide) (hdb:(x == ("__debug__":Str))=false:=by decide)
  (he:starEach (e :: es) X.env=(false,eval e X.env) :: starEach es X.env:=by rfl) (hpl:(backTo pos (starEach es X.env)).any (·.1)=false:=by rfl):PE X (.Call (.Name x p) (e :: es) [] pos) (tCB r t):=by
 intro pins s σ H Q I h
 refine wpAny_Call_Name_kw (J67 I hg hm hv ?_ hn hdb)
 exact PyProof.Rows.callWith_builtin1 (thn (ha pos pins s σ H _ I h) fun us s1 ⟨vs,H1,I1,r1,q1⟩=>hc pins s1 σ H1 vs us Q I1 r1 q1) he hpl
theorem J11 (hc:CallR X (.type T) r) (hg:Gl X x) (hm:X.mg x=none) (hv:bootBuiltins x=some (.type T)) (ha:PA X (e :: es) t) (hn:x≠"__name__":=by decide) (hdb:(x == ("__debug__":Str))=false:=by decide)
  (he:starEach (e :: es) X.env=(false,eval e X.env) :: starEach es X.env:=by rfl) (hpl:(backTo pos (starEach es X.env)).any (·.1)=false:=by rfl):PE X (.Call (.Name x p) (e :: es) [] pos) (tCB r t):=by
 intro pins s σ H Q I h
 refine wpAny_Call_Name_kw (J67 I hg hm hv ?_ hn hdb)
 exact PyProof.Rows.callWith_type1 (thn (ha pos pins s σ H _ I h) fun us s1 ⟨vs,H1,I1,r1,q1⟩=>hc pins s1 σ H1 vs us Q I1 r1 q1) he hpl
end
end L2
namespace HT
open PySem PyProof.Rows
section
variable {prog:Program} {w:World} {A:Around} {E:Value→Shared→Prop} {s:Shared}
def sIx (n d:Nat):Option Int→Nat
 | none=>d
 | some v=>if v < 0 then (v + (n:Int)).toNat else min v.toNat n
theorem sIx_none (n d:Nat):sIx n d none=d:=rfl
theorem sIx_nat (n d k:Nat):sIx n d (some (k:Int))=min k n:=by
 show (if (k:Int) < 0 then ((k:Int) + (n:Int)).toNat else min (k:Int).toNat n)=min k n
 rw [if_neg (by lia),Int.toNat_natCast]
end
end HT
namespace L2
open PySem PySem.Spec PyProof.Rows
abbrev TO:=St→Hp→(Option Int→Hp→Prop)→Prop
def PO (X:Cx) (e:Option Expr) (t:TO):Prop :=
 ∀ (pins:List (Addr × Obj)) (s:Shared) (σ:St) (H:Hp) (Q:Option Int→Hp→Prop),Inv X pins σ H s→t σ H Q→
  wpAny (model X.prog X.w) X.A (evalPart e X.env) (fun u s'=>∃ o H',Inv X pins σ H' s'∧IsPart u o∧Q o H') X.xe s
def tNoPart:TO:=fun _ H Q=>Q none H
def tPart (t:TE):TO:=fun σ H Q=>t σ H fun x H1=>∃ i,x=.int i∧Q (some i) H1
theorem J1g {ns:List Int}:∀ {us:List Value},Vals (ns.map V.int) us→IntsAre us ns:=by
 induction ns with
 | nil=>intro us r;rw [List.map_nil] at r;cases r;exact .nil
 | cons n ns ih =>
  intro us r
  rw [List.map_cons] at r
  cases r with
  | cons r1 r2 =>
   obtain ⟨t,e⟩:=r1
   subst e
   exact .cons n t (ih r2)
section
variable {X:Cx} {e:Expr} {te:TE} {lo hi:Option Expr} {tl th:TO} {pos p2:Pos}
theorem po_none:PO X none tNoPart:=by
 intro pins s σ H Q I h
 rw [evalPart_none]
 exact wpAny_pure ⟨none,H,I,.none,h⟩
theorem po_some (h:PE X e te):PO X (some e) (tPart te):=by
 intro pins s σ H Q I hw
 rw [evalPart_some]
 refine thn (h pins s σ H _ I hw) fun u s1 ⟨x,H1,I1,r1,q1⟩=>?_
 obtain ⟨i,rfl,q⟩:=q1
 obtain ⟨t,rfl⟩:=r1
 exact ⟨some i,H1,I1,.int i t,q⟩
def SlR (X:Cx) (r:V→Option Int→Option Int→Hp→VK→Prop):Prop :=
 ∀ (pins:List (Addr × Obj)) (s:Shared) (σ:St) (H:Hp) (x:V) (v vl vu:Value) (lo hi:Option Int) (sl:Addr) (Q:VK),Inv X pins σ H s→RelV x v→s.heap.IsSliceOf sl vl vu .none→IsPart vl lo→IsPart vu hi→r x lo hi H Q→
  ∃ T id,typeLookup (.type T) "__getitem__"=pure (some (.builtin id))∧s.TypeIs v T∧wpAny (model X.prog X.w) X.A (getItem v (.ref sl)) (EP X pins σ Q) X.xe s
def tSl (r:V→Option Int→Option Int→Hp→VK→Prop) (te:TE) (tl th:TO):TE:=fun σ H Q=>te σ H fun x H1=>tl σ H1 fun l H2=>th σ H2 fun u H3=>r x l u H3 Q
theorem J4l {r:V→Option Int→Option Int→Hp→VK→Prop} (hr:SlR X r) (he:PE X e te) (hl:PO X lo tl) (hu:PO X hi th):PE X (.Subscript e (.Slice lo hi none p2) pos) (tSl r te tl th):=by
 intro pins s σ H Q I h
 refine Subscript_ (thn (he pins s σ H _ I h) fun v s1 ⟨x,H1,I1,r1,q1⟩=>?_)
 refine wpAny_Slice (thn (hl pins s1 σ H1 _ I1 q1) fun vl s2 ⟨l,H2,I2,pl,q2⟩=>thn (hu pins s2 σ H2 _ I2 q2) fun vu s3 ⟨u,H3,I3,pu,q3⟩=>?_)
 rw [evalPart_none]
 refine wpAny_pure ?_
 have I4:Inv X pins σ H3 { s3 with heap:=s3.heap.push { cls:=.type "slice",data:=.fields #[vl,vu,.none] } }:=I3.kept (t':=s3.toks) fun b ob q=>Heap.get?_push_of_some _ q
 obtain ⟨T,id,hT,ht,hg⟩:=hr pins { s3 with heap:=s3.heap.push { cls:=.type "slice",data:=.fields #[vl,vu,.none] } } σ H3 x v vl vu l u s3.heap.objs.size Q I4 r1 (Heap.IsSliceOf.new ..) pl pu q3
 show wpAny (model X.prog X.w) X.A (subscriptTail e (.Slice lo hi none p2) v (.ref s3.heap.objs.size)) (EP X pins σ Q) X.xe { s3 with heap:=s3.heap.push { cls:=.type "slice",data:=.fields #[vl,vu,.none] } }
 exact tail_any (ops:=[.ref s3.heap.objs.size,v]) ht hT hg (by with_unfolding_all rfl)
def cutV (xs:List V) (lo hi:Option Int):List V:=(xs.drop (HT.sIx xs.length 0 lo)).take (HT.sIx xs.length xs.length hi - HT.sIx xs.length 0 lo)
theorem cutV_length (xs:List V) (lo hi:Option Int):(cutV xs lo hi).length≤xs.length:=by
 unfold cutV
 rw [List.length_take,List.length_drop]
 lia
end
end L2
namespace L2
open PySem PySem.Spec PyProof.Rows
def ixN (n:Nat) (i:Int):Option Nat:=if 0≤i then (if i < n then some i.toNat else none) else if -(n:Int)≤i then some (i + n).toNat else none
def atI {α:Type} (xs:List α) (i:Int):Option α:=(ixN xs.length i).bind fun j=>xs[j]?
theorem ixN_seq {n:Nat} {i:Int} {j:Nat} (h:ixN n i=some j):seqIndex? i n=some j∧j < n∧-(n:Int)≤i∧i < n:=by
 unfold ixN at h
 by_cases h0:0≤i
 ·rw [if_pos h0] at h
  by_cases h1:i < n
  ·rw [if_pos h1] at h
   have e:i.toNat=j:=Option.some.inj h
   exact ⟨by rw [seqIndex_of h0 h1,e],by lia,by lia,h1⟩
  ·rw [if_neg h1] at h;cases h
 ·rw [if_neg h0] at h
  by_cases h1:-(n:Int)≤i
  ·rw [if_pos h1] at h
   have e:(i + n).toNat=j:=Option.some.inj h
   exact ⟨by rw [seqIndex_neg (by lia) h1,e],by lia,h1,by lia⟩
  ·rw [if_neg h1] at h;cases h
theorem atI_get {α:Type} {xs:List α} {i:Int} {v:α} (h:atI xs i=some v):∃ j,seqIndex? i xs.length=some j∧xs[j]?=some v∧j < xs.length∧-(xs.length:Int)≤i∧i < xs.length:=by
 unfold atI at h
 cases e:ixN xs.length i with
 | none=>rw [e] at h;cases h
 | some j =>
  rw [e] at h
  obtain ⟨h1,h2,h3,h4⟩:=ixN_seq e
  exact ⟨j,h1,h,h2,h3,h4⟩
theorem Jn {α:Type} {xs:List α} {j:Nat} {v:α} (h:xs[j]?=some v):atI xs (j:Int)=some v:=by
 have hj:j < xs.length:=(List.getElem?_eq_some_iff.mp h).1
 have e:ixN xs.length (j:Int)=some j:=by
  unfold ixN
  rw [if_pos (by lia),if_pos (by lia)];simp
 unfold atI;rw [e];exact h
def PlainIx (b:Expr):Prop:=∀ o i,subscripted b false o i=operate [o,i] (getItem o i)
def IxR (X:Cx) (r:R2):Prop :=
 ∀ (value slice:Expr) (pins:List (Addr × Obj)) (s:Shared) (σ:St) (H:Hp) (x y:V) (v u:Value) (Q:VK),Inv X pins σ H s→RelV x v→RelV y u→r x y H Q→
  subscripted slice false v u=operate [v,u] (getItem v u)→wpAny (model X.prog X.w) X.A (subscriptTail value slice v u) (EP X pins σ Q) X.xe s
def MtR (X:Cx) (id:String) (r:V→List V→Hp→VK→Prop):Prop :=
 ∀ (pins:List (Addr × Obj)) (s:Shared) (σ:St) (H:Hp) (x:V) (xs:List V) (v:Value) (us:List Value) (Q:VK),Inv X pins σ H s→RelV x v→Vals xs us→r x xs H Q→
  wpAny (model X.prog X.w) X.A (call (.builtin id) (v :: us)) (EP X pins σ Q) X.xe s
section
variable {X:Cx} {a b:Expr} {ta tb:TE} {pos:Pos}
theorem pe_ix {r:R2} (hr:IxR X r) (ha:PE X a ta) (hb:PE X b tb) (hs:PlainIx b):PE X (.Subscript a b pos) (tOp r ta tb):=by
 intro pins s σ H Q I h
 exact Subscript_ (binT ha hb I h fun v u s2 x y H2 I2 rx ry q=>hr a b pins s2 σ H2 x y v u Q I2 rx ry q (hs _ _))
def rIxL (K:PySem.W.Frag):R2:=fun x y H Q=>∃ p xs i v,x=.ref p∧y=.int i∧SqL K H p xs∧atI xs i=some v∧Q v H
def rIxT (K:PySem.W.Frag):R2:=fun x y H Q=>∃ p xs i v,x=.ref p∧y=.int i∧SqT K H p xs∧atI xs i=some v∧Q v H
theorem J17:IxR X (rIxL X.K):=by
 intro value slice pins s σ H x y v u Q I rx ry h hs
 obtain ⟨p,xs,i,z,rfl,rfl,hq,he,q⟩:=h
 cases rx
 obtain ⟨t,rfl⟩:=ry
 obtain ⟨its,r,pl,hz⟩:=I.list hq
 obtain ⟨j,h1,h2,h3,h4,h5⟩:=atI_get he
 obtain ⟨w,ew,rw'⟩:=r.get h2
 have hl:=r.length
 have hn:=J65
 have fin:EP X pins σ Q w s:=⟨z,H,I,rw',q⟩
 by_cases h0:0≤i
 ·have hj:i.toNat=j:=by
   rw [seqIndex_of h0 h5] at h1
   exact Option.some.inj h1
  exact item_listR pl.isList h0 (by lia) (by rw [hj];simpa using ew) fin hs
 ·have hj:(i + (its.toArray.size:Int)).toNat=j:=by
   rw [seqIndex_neg (by lia) h4] at h1
   rw [List.size_toArray,← hl]
   exact Option.some.inj h1
  exact subscriptTail_builtinR (x:=w) pl.isList.typeIs slot_list_getitem.lookup
   (wpAny_getItem_list_neg (Q:=fun r s'=>r=w∧EP X pins σ Q r s') pl.isList (by lia) (by rw [List.size_toArray] <;> lia) (by lia) (by rw [hj];simpa using ew) ⟨rfl,fin⟩) hs
theorem J2a:IxR X (rIxT X.K):=by
 intro value slice pins s σ H x y v u Q I rx ry h hs
 obtain ⟨p,xs,i,z,rfl,rfl,hq,he,q⟩:=h
 cases rx
 obtain ⟨t,rfl⟩:=ry
 obtain ⟨its,r,pl,hz⟩:=I.tuple hq
 obtain ⟨j,h1,h2,h3,h4,h5⟩:=atI_get he
 obtain ⟨w,ew,rw'⟩:=r.get h2
 have hl:=r.length
 have hn:=J65
 have fin:EP X pins σ Q w s:=⟨z,H,I,rw',q⟩
 exact subscriptTail_builtinR (x:=w) pl.typeIs slot_tuple_getitem.lookup
  (getItem_tuple (j:=j) (Q:=fun r s'=>r=w∧EP X pins σ Q r s') pl (by lia) (by lia) (by rw [List.size_toArray,← hl];exact h1) (by simpa using ew) ⟨rfl,fin⟩) hs
theorem mapSeq_set (its:List Value) (n j:Nat) (u:Value):Obj.mapSeq (·.setIfInBounds j u) { cls:=.type "list",data:=.seq its.toArray n }={ cls:=.type "list",data:=.seq (its.set j u).toArray n }:=by
 simp [Obj.mapSeq]
theorem Inv.lst {pins:List (Addr × Obj)} {σ:St} {H:Hp} {s:Shared} {p:Addr} {xs:List V} (I:Inv X pins σ H s) (h:H p=some (.lst xs)) :
  ∃ (its:List Value) (n:Nat),Vals xs its∧s.heap.get? p=some { cls:=.type "list",data:=.seq its.toArray n }∧xs.length≤sizeLine:=by
 obtain ⟨z,its,n,r,e⟩:=I.hok p _ h
 exact ⟨its,n,r,e,z⟩
theorem Inv.lstUpd {pins:List (Addr × Obj)} {σ:St} {H:Hp} {s:Shared} {p:Addr} {xs ys:List V} {its its':List Value} {n n':Nat} {f:Obj→Obj} (I:Inv X pins σ H s) (h:H p=some (.lst xs))
  (ho:s.heap.get? p=some { cls:=.type "list",data:=.seq its.toArray n }) (hf:f { cls:=.type "list",data:=.seq its.toArray n }={ cls:=.type "list",data:=.seq its'.toArray n' }) (r:Vals ys its') (hz:ys.length≤sizeLine) (t:Nat) :
  Inv X pins σ (upd H p (.lst ys)) { s with heap:=s.heap.update p f,toks:=t }:=by
 have e:(s.heap.update p f).get? p=some { cls:=.type "list",data:=.seq its'.toArray n' }:=by
  rw [Heap.get?_update_self f ho (by rw [hf] <;> rfl),hf]
 refine I.write (x:=p) (e:=p) (by rw [h];trivial) (.inl rfl) (fun b u hb q=>(Heap.get?_update_other _ _ (Ne.symm hb)).trans q) ⟨_,e⟩ ?_
 exact ⟨hz,its',n',r,e⟩
def rSetL:V→V→V→Hp→(Hp→Prop)→Prop:=fun o i v H Q=>∃ p xs k j,o=.ref p∧i=.int k∧H p=some (.lst xs)∧ixN xs.length k=some j∧Q (upd H p (.lst (xs.set j v)))
theorem J36:PSet X rSetL:=by
 intro pins s σ H o i v ov iv u Q I ro ri rv h
 obtain ⟨p,xs,k,j,rfl,rfl,hp,hj,q⟩:=h
 cases ro
 obtain ⟨t,rfl⟩:=ri
 obtain ⟨its,n,r,ho,hz⟩:=I.lst hp
 obtain ⟨h1,h2,h3,h4⟩:=ixN_seq hj
 have hl:=r.length
 have hn:=J65
 have I':Inv X pins σ (upd H p (.lst (xs.set j v))) { s with heap:=s.heap.update p (Obj.mapSeq (·.setIfInBounds j u)) } :=
  I.lstUpd hp ho (mapSeq_set its n j u) (r.set rv j) (by rw [List.length_set];exact hz) s.toks
 by_cases h0:0≤k
 ·have hk:k.toNat=j:=by
   rw [seqIndex_of h0 h4] at h1
   exact Option.some.inj h1
  exact PySem.W.ki_setAt ho h0 (by lia) (by rw [List.size_toArray,← hl];exact h4) (by rw [hk];exact ⟨_,I',q⟩)
 ·have hk:(k + (its.toArray.size:Int)).toNat=j:=by
   rw [seqIndex_neg (by lia) h3] at h1
   rw [List.size_toArray,← hl]
   exact Option.some.inj h1
  exact PySem.W.ki_setBack ho (by lia) (by rw [List.size_toArray,← hl];exact h3) (by lia) (by rw [hk];exact ⟨_,I',q⟩)
theorem J5r (lo hi:Option Int) (n:Nat):(sliceBounds lo hi none n).1=((HT.sIx n 0 lo:Nat):Int)∧(sliceBounds lo hi none n).2.1=((HT.sIx n n hi:Nat):Int)∧(sliceBounds lo hi none n).2.2=1:=by
 refine ⟨?_,?_,rfl⟩
 ·cases lo with
  | none=>simp [sliceBounds,HT.sIx]
  | some i =>
   simp only [sliceBounds,HT.sIx,Option.getD_none,show (1:Int) > 0 by decide,if_true]
   by_cases h:i < 0
   ·simp only [h,if_true] <;> lia
   ·simp only [h,if_false] <;> lia
 ·cases hi with
  | none=>simp [sliceBounds,HT.sIx]
  | some i =>
   simp only [sliceBounds,HT.sIx,Option.getD_none,show (1:Int) > 0 by decide,if_true]
   by_cases h:i < 0
   ·simp only [h,if_true] <;> lia
   ·simp only [h,if_false] <;> lia
theorem J54 (its:List Value) (lo hi:Option Int):slicePick its.toArray lo hi none=((its.drop (HT.sIx its.length 0 lo)).take (HT.sIx its.length its.length hi - HT.sIx its.length 0 lo)).toArray:=by
 obtain ⟨h1,h2,h3⟩:=J5r lo hi its.toArray.size
 unfold slicePick
 rw [h1,h2,h3]
 simp only [sliceRange_one,pick_run,List.size_toArray] <;> rfl
def rSlL (K:PySem.W.Frag):V→Option Int→Option Int→Hp→VK→Prop:=fun x lo hi H Q=>∃ a xs,x=.ref a∧SqL K H a xs∧∀ p,H p=none→Q (.ref p) (upd H p (.lst (cutV xs lo hi)))
theorem sl_list:SlR X (rSlL X.K):=by
 intro pins s σ H x v vl vu lo hi sl Q I rx hs pl pu h
 obtain ⟨a,xs,rfl,hx,q⟩:=h
 cases rx
 obtain ⟨its,r,ht,hz⟩:=I.list hx
 have hlen:=r.length
 refine ⟨"list",_,slot_list_getitem.lookup,ht.isList.typeIs,?_⟩
 refine wpAny_getItem_list_slice ht.isList hs pl pu .none (by simp) ?_ (by rw [List.size_toArray] <;> lia)
 rw [J54,← hlen]
 refine ⟨.ref s.heap.objs.size,_,I.laid (t':=s.toks) (o:=.lst (cutV xs lo hi)) (fun b ob q=>Heap.get?_push_of_some _ q) (Nat.le_refl _) ?_,rfl,q _ (I.hok.fresh (Nat.le_refl _))⟩
 exact ⟨Nat.le_trans (cutV_length xs lo hi) hz,_,0,(r.drop (HT.sIx xs.length 0 lo)).take (HT.sIx xs.length xs.length hi - HT.sIx xs.length 0 lo),Heap.get?_push_size _ rfl⟩
def flatV:V→Bool
 | .non=>true
 | .bl _=>true
 | .int _=>true
 | .str _=>true
 | _=>false
def eqV:V→V→Bool
 | .non,.non=>true
 | .bl a,.bl b=>a == b
 | .bl a,.int b=>(if a then 1 else 0) == b
 | .int a,.bl b=>a == (if b then 1 else 0)
 | .int a,.int b=>a == b
 | .str a,.str b=>a == b
 | _,_=>false
theorem eqAt_V {A:Around} {s:Shared} {y x:V} {u v:Value} (ry:RelV y u) (rx:RelV x v) (fy:flatV y=true) (fx:flatV x=true):SeqAt.EqAt A s u v (eqV y x):=by
 cases y with
 | non =>
  cases ry
  cases x with
  | non=>cases rx;exact SeqAt.EqAt.same _
  | bl b=>cases rx;exact SeqAt.EqAt.none_bool b
  | int b=>obtain ⟨t,rfl⟩:=rx;exact SeqAt.EqAt.none_int b t
  | str b=>obtain ⟨t,rfl⟩:=rx;exact SeqAt.EqAt.none_str b t
  | _=>exact absurd (show false=true from fx) Bool.false_ne_true
 | bl a =>
  cases ry
  cases x with
  | non=>cases rx;exact SeqAt.EqAt.bool_none a
  | bl b=>cases rx;exact SeqAt.EqAt.bool_bool a b
  | int b=>obtain ⟨t,rfl⟩:=rx;exact SeqAt.EqAt.bool_int a b t
  | str b=>obtain ⟨t,rfl⟩:=rx;exact SeqAt.EqAt.bool_str a b t
  | _=>exact absurd (show false=true from fx) Bool.false_ne_true
 | int a =>
  obtain ⟨t',rfl⟩:=ry
  cases x with
  | non=>cases rx;exact SeqAt.EqAt.int_none a t'
  | bl b=>cases rx;exact SeqAt.EqAt.int_bool a t' b
  | int b=>obtain ⟨t,rfl⟩:=rx;exact SeqAt.EqAt.int_int a t' b t
  | str b=>obtain ⟨t,rfl⟩:=rx;exact SeqAt.EqAt.int_str a t' b t
  | _=>exact absurd (show false=true from fx) Bool.false_ne_true
 | str a =>
  obtain ⟨t',rfl⟩:=ry
  cases x with
  | non=>cases rx;exact SeqAt.EqAt.str_none a t'
  | bl b=>cases rx;exact SeqAt.EqAt.str_bool a t' b
  | int b=>obtain ⟨t,rfl⟩:=rx;exact SeqAt.EqAt.str_int a t' b t
  | str b=>obtain ⟨t,rfl⟩:=rx;exact SeqAt.EqAt.str_str a t' b t
  | _=>exact absurd (show false=true from fx) Bool.false_ne_true
 | _=>exact absurd (show false=true from fy) Bool.false_ne_true
theorem Jj:CallR X (.builtin "len") (fun xs H Q=>∃ p ys,xs=[.ref p]∧(SqL X.K H p ys∨SqT X.K H p ys)∧Q (.int ys.length) H):=by
 intro pins s σ H xs us Q I r h
 obtain ⟨p,ys,rfl,hq,q⟩:=h
 obtain ⟨u,rfl,rx⟩:=vals1 r
 cases rx
 have hn:=J65
 rcases hq with hq | hq
 ·obtain ⟨its,r',pl,hz⟩:=I.list hq
  have hlen:=r'.length
  exact Calls.call_len_list pl.isList (by simp only [List.size_toArray] <;> lia) ⟨.int ys.length,H,I.tok _,⟨s.toks + 1,by rw [List.size_toArray,hlen]⟩,q⟩
 ·obtain ⟨its,r',pl,hz⟩:=I.tuple hq
  have hlen:=r'.length
  exact len_tuple pl (by simp only [List.size_toArray] <;> lia) ⟨.int ys.length,H,I.tok _,⟨s.toks + 1,by rw [List.size_toArray,hlen]⟩,q⟩
theorem J2s:CallR X (.type "list") (fun xs H Q=>∃ p ys,xs=[.ref p]∧(SqL X.K H p ys∨SqT X.K H p ys)∧∀ l,H l=none→Q (.ref l) (upd H l (.lst ys))):=by
 intro pins s σ H xs us Q I r h
 obtain ⟨p,ys,rfl,hq,q⟩:=h
 obtain ⟨u,rfl,rx⟩:=vals1 r
 cases rx
 have fin:∀ (its:List Value),Vals ys its→ys.length≤sizeLine→∀ (h':Heap) (c':Nat),(∀ b o',s.heap.get? b=some o'→h'.get? b=some o')→
   h'.get? s.heap.objs.size=some { cls:=.type "list",dict:=none,data:=.seq its.toArray c',slots:=#[] }→EP X pins σ Q (.ref s.heap.objs.size) { s with heap:=h' }:=fun its r' hz h' c' kp e =>
  ⟨.ref s.heap.objs.size,_,I.laid (t':=s.toks) kp (Nat.le_refl _) (show ObjOk X.prog X.w _ h' _ (.lst ys) from ⟨hz,its,c',r',e⟩),rfl,q _ (I.hok.fresh (Nat.le_refl _))⟩
 rcases hq with hq | hq
 ·obtain ⟨its,r',pl,hz⟩:=I.list hq
  have hlen:=r'.length
  obtain ⟨o,ho,hc,n,hd⟩:=pl.isList
  exact call_list_seq p (.inl rfl) ho hc hd (fun h' c' kp e=>fin its r' hz h' c' kp e) (by simp only [List.size_toArray] <;> lia)
 ·obtain ⟨its,r',pl,hz⟩:=I.tuple hq
  have hlen:=r'.length
  obtain ⟨o,ho,hc,n,hd⟩:=pl
  exact call_list_seq p (.inr rfl) ho hc hd (fun h' c' kp e=>fin its r' hz h' c' kp e) (by simp only [List.size_toArray] <;> lia)
theorem J5j:CallR X (.type "tuple") (fun xs H Q=>∃ p ys,xs=[.ref p]∧((SqL X.K H p ys∧∀ l,H l=none→Q (.ref l) (upd H l (.tup ys)))∨(SqT X.K H p ys∧Q (.ref p) H))):=by
 intro pins s σ H xs us Q I r h
 obtain ⟨p,ys,rfl,h⟩:=h
 obtain ⟨u,rfl,rx⟩:=vals1 r
 cases rx
 rcases h with ⟨hq,q⟩ | ⟨hq,q⟩
 ·obtain ⟨its,r',pl,hz⟩:=I.list hq
  have hlen:=r'.length
  refine call_tuple_list pl.isList (fun h' kp=>?_) (by simp only [List.size_toArray] <;> lia)
  have I1:Inv X pins σ H { s with heap:=h' }:=I.kept (t':=s.toks) kp
  have I2:Inv X pins σ (upd H h'.objs.size (.tup ys)) { s with heap:=h'.push { cls:=.type "tuple",data:=.seq its.toArray } } :=
   I1.laid (t':=s.toks) (fun b o e=>Heap.get?_push_of_some _ e) (Nat.le_refl _) (show ObjOk X.prog X.w _ _ _ (.tup ys) from ⟨hz,its,r',TupX.new _ _⟩)
  exact ⟨.ref h'.objs.size,_,I2,rfl,q _ (I1.hok.fresh (Nat.le_refl _))⟩
 ·obtain ⟨its,r',pl,hz⟩:=I.tuple hq
  exact call_tuple_same pl ⟨.ref p,H,I,rfl,q⟩
def tyV (K:PySem.W.Frag) (T:String) (x:V) (H:Hp):Prop:=match x with
 | .str _=>T="str"
 | .int _=>T="int"
 | .ref p=>(T="list"∧∃ xs,SqL K H p xs)∨(T="tuple"∧∃ o,K.lookup p=some o∧o.cls=.type "tuple"∧o.dict=none)∨
   (T="dict"∧((∃ kvs,H p=some (.dK kvs))∨∃ kvs,H p=some (.dT kvs)))∨(T="set"∧∃ S n,H p=some (.set S n))
 | _=>False
theorem tyV_is {pins:List (Addr × Obj)} {σ:St} {H:Hp} {s:Shared} {T:String} {x:V} {v:Value} (I:Inv X pins σ H s) (r:RelV x v) (ty:tyV X.K T x H) :
  s.TypeIs v T∧∀ a,v=.ref a→∃ ob,s.heap.get? a=some ob∧ob.dict=none:=by
 cases x with
 | str z =>
  obtain ⟨t,rfl⟩:=r
  cases (show T="str" from ty)
  exact ⟨typeIs_str s z t,fun _ e=>nomatch e⟩
 | int i =>
  obtain ⟨t,rfl⟩:=r
  cases (show T="int" from ty)
  exact ⟨typeIs_int s i t,fun _ e=>nomatch e⟩
 | ref p =>
  cases r
  rcases ty with ⟨rfl,xs,hq⟩ | ⟨rfl,o,hk,hc,hd⟩ | ⟨rfl,hk⟩ | ⟨rfl,S,n,hk⟩
  ·obtain ⟨its,_,pl,_⟩:=I.list hq
   refine ⟨pl.isList.typeIs,fun a e=>?_⟩
   cases e
   obtain ⟨o,n,e,c,hd,_⟩:=pl
   exact ⟨o,e,hd⟩
  ·refine ⟨⟨o,I.kIn p o hk,hc⟩,fun a e=>?_⟩
   cases e
   exact ⟨o,I.kIn _ o hk,hd⟩
  ·have z:∃ o,s.heap.get? p=some o∧o.ExactDict:=by
    rcases hk with ⟨kvs,hk⟩ | ⟨kvs,hk⟩
    ·obtain ⟨_,_,_,_,o,_,_,e,ex,_⟩:=I.hok p _ hk
     exact ⟨o,e,ex⟩
    ·obtain ⟨_,_,_,_,o,_,_,e,ex,_⟩:=I.hok p _ hk
     exact ⟨o,e,ex⟩
   obtain ⟨o,e,ex⟩:=z
   refine ⟨⟨o,e,ex.1⟩,fun a e2=>?_⟩
   cases e2
   exact ⟨o,e,ex.2.1⟩
  ·obtain ⟨o,_,_,_,e,ex,_⟩:=I.hok p _ hk
   refine ⟨⟨o,e,ex.1⟩,fun a e2=>?_⟩
   cases e2
   exact ⟨o,e,ex.2.1⟩
 | _=>exact False.elim ty
def tBM0 (K:PySem.W.Frag) (T:String) (r:V→List V→Hp→VK→Prop) (to:TE):TE:=fun σ H Q=>to σ H fun x H1=>tyV K T x H1∧r x [] H1 Q
def tBM (K:PySem.W.Frag) (T:String) (r:V→List V→Hp→VK→Prop) (to:TE) (t:TA):TE:=fun σ H Q=>to σ H fun x H1=>tyV K T x H1∧t σ H1 fun xs H2=>r x xs H2 Q
variable {o e:Expr} {es:List Expr} {to:TE} {t:TA} {name:Str} {apos cpos:Pos} {T id:String} {r:V→List V→Hp→VK→Prop}
theorem pe_bm0 (pa:PlainAttrs T) (slot:Slot T name id) (hty:typeOf (.builtin id)=pure (.type "method_descriptor")) (hm:MtR X id r) (ho:PE X o to)
  (hbase:attributeBase o name X.env (eval o X.env)=eval o X.env:=by rfl) (hline:(apos.endLine == cpos.line)=true:=by rfl):PE X (.Call (.Attribute o name apos) [] [] cpos) (tBM0 X.K T r to):=by
 intro pins s σ H Q I h
 refine wpAny_Call_method0_late hbase hline (thn (ho pins s σ H _ I h) fun v s1 ⟨x,H1,I1,r1,ty,q1⟩=>?_)
 obtain ⟨h1,h2⟩:=tyV_is I1 r1 ty
 exact ⟨T,id,pa,slot,hty,h1,h2,Calls.callWith_builtin rfl (PySem.evalArgs_none (hm pins s1 σ H1 x [] v [] Q I1 r1 .nil q1))⟩
theorem pe_bm (pa:PlainAttrs T) (slot:Slot T name id) (hty:typeOf (.builtin id)=pure (.type "method_descriptor")) (hm:MtR X id r) (ho:PE X o to) (ha:PA X (e :: es) t)
  (hbase:attributeBase o name X.env (eval o X.env)=eval o X.env:=by rfl)
  (hfew:((backTo cpos (starEach (e :: es) X.env)).all (fun x=>!x.1) && (backToKw cpos (keywordEach [] X.env)).all (fun x=>x.1.isSome)
   && decide ((e :: es).length + ([]:List Keyword).length + (if ([]:List Keyword).isEmpty then 0 else 1) < 30))=true:=by rfl)
  (hline:(apos.endLine == cpos.line)=true:=by rfl) (hs:starEach (e :: es) X.env=(false,eval e X.env) :: starEach es X.env:=by rfl) (hplain:(backTo cpos (starEach es X.env)).any (·.1)=false:=by rfl) :
  PE X (.Call (.Attribute o name apos) (e :: es) [] cpos) (tBM X.K T r to t):=by
 intro pins s σ H Q I h
 refine wpAny_Call_method_late hbase hfew hline rfl (thn (ho pins s σ H _ I h) fun v s1 ⟨x,H1,I1,r1,ty,q1⟩=>?_)
 obtain ⟨h1,h2⟩:=tyV_is I1 r1 ty
 refine ⟨T,id,pa,slot,hty,h1,h2,?_⟩
 have hA:=ha cpos pins s1 σ H1 _ I1 q1
 rw [hs] at hA ⊢
 refine Calls.callWith_builtin (by show (false || (backTo cpos (starEach es X.env)).any (·.1))=false;rw [hplain] <;> rfl) (Calls.evalArgs_plain ?_)
 exact thn hA fun us s2 ⟨vs,H2,I2,r2,q2⟩=>hm pins s2 σ H2 x vs v us Q I2 r1 r2 q2
end
end L2
namespace L2
open PySem PySem.Spec PyProof.Rows
def MtM (X:Cx) (id:String) (r:V→List V→Hp→VK→Prop):Prop :=
 ∀ (pins:List (Addr × Obj)) (s:Shared) (σ:St) (H:Hp) (x:V) (xs:List V) (v:Value) (us:List Value) (Q:VK),Inv X pins σ H s→RelV x v→Vals xs us→r x xs H Q→
  wpAny (model X.prog X.w) X.A (call (.builtin id) (v :: us)) (EP X pins σ Q) X.xe s
theorem Vals.one:∀ {x:V} {us:List Value},Vals [x] us→∃ u,us=[u]∧RelV x u
 | _,_,.cons r .nil=>⟨_,rfl,r⟩
theorem Vals.two:∀ {x y:V} {us:List Value},Vals [x,y] us→∃ u v,us=[u,v]∧RelV x u∧RelV y v
 | _,_,_,.cons r (.cons q .nil)=>⟨_,_,rfl,r,q⟩
theorem Vals.zero:∀ {us:List Value},Vals [] us→us=[]
 | _,.nil=>rfl
theorem Vals.dropLast {xs:List V} {us:List Value} (h:Vals xs us):Vals xs.dropLast us.dropLast:=by
 induction h with
 | nil=>exact .nil
 | cons r t ih =>
  cases t with
  | nil=>exact .nil
  | cons q t'=>exact .cons r ih
theorem Vals.reverse {xs:List V} {us:List Value} (h:Vals xs us):Vals xs.reverse us.reverse:=by
 induction h with
 | nil=>exact .nil
 | cons r t ih=>rw [List.reverse_cons,List.reverse_cons];exact Vals.append ih (.cons r .nil)
theorem Vals.rep {xs:List V} {us:List Value} (h:Vals xs us):∀ k:Nat,Vals (List.replicate k xs).flatten (List.replicate k us).flatten
 | 0=>.nil
 | k + 1=>by
  rw [List.replicate_succ,List.replicate_succ,List.flatten_cons,List.flatten_cons]
  exact Vals.append h (Vals.rep h k)
theorem erase_last {α:Type} (l:List α):l.eraseIdx (l.length - 1)=l.dropLast:=by
 induction l with
 | nil=>rfl
 | cons a r ih =>
  cases r with
  | nil=>rfl
  | cons b r =>
   have e:(a :: b :: r).length - 1=((b :: r).length - 1) + 1:=by
    have h1:(a :: b :: r).length=r.length + 2:=rfl
    have h2:(b :: r).length=r.length + 1:=rfl
    lia
   rw [e,List.eraseIdx_cons_succ,ih]
   all_goals rfl
theorem J4y (its:List Value):∀ (k:Nat) (acc:List Value),
  List.foldl (fun x1 x2=>x1 ++ x2) acc.toArray (List.replicate k its.toArray)=(acc ++ (List.replicate k its).flatten).toArray
 | 0,acc=>by simp
 | k + 1,acc=>by
  have e:acc.toArray ++ its.toArray=(acc ++ its).toArray:=by simp
  have e2:(acc ++ its) ++ (List.replicate k its).flatten=acc ++ (List.replicate (k + 1) its).flatten:=by
   rw [List.replicate_succ,List.flatten_cons,List.append_assoc]
  rw [← e2,← J4y its k (acc ++ its),← e,List.replicate_succ,List.foldl_cons]
section
variable {X:Cx} {pins:List (Addr × Obj)} {σ:St} {H:Hp} {s:Shared} {l b:Addr} {xs ys zs:List V}
theorem Inv.lset {its its':List Value} {n:Nat} {f:Array Value→Array Value} {t':Nat} (I:Inv X pins σ H s) (hH:H l=some (.lst xs))
  (e:s.heap.get? l=some { cls:=.type "list",data:=.seq its.toArray n }) (hf:f its.toArray=its'.toArray) (hv:Vals ys its') (hz:ys.length≤sizeLine) :
  Inv X pins σ (upd H l (.lst ys)) { s with heap:=s.heap.update l (Obj.mapSeq f),toks:=t' }:=by
 have q:=PySem.IsL.update e f
 rw [hf] at q
 refine I.write (x:=l) (e:=l) (by rw [hH];exact trivial) (.inl rfl) (fun b' u hb hu=>(Heap.get?_update_other s.heap (Obj.mapSeq f) (Ne.symm hb)).trans hu) ⟨_,q⟩ ?_
 exact ⟨hz,its',_,hv,q⟩
theorem Inv.lnew {its:List Value} {t':Nat} (I:Inv X pins σ H s) (hv:Vals ys its) (hz:ys.length≤sizeLine) :
  Inv X pins σ (upd H s.heap.objs.size (.lst ys)) { s with heap:=s.heap.push { cls:=.type "list",data:=.seq its.toArray },toks:=t' } :=
 I.laid (fun _ _ q=>Heap.get?_push_of_some _ q) (Nat.le_refl _) ⟨hz,its,0,hv,Heap.get?_push_size _ rfl⟩
theorem Inv.fresh (I:Inv X pins σ H s):H s.heap.objs.size=none:=I.hok.fresh (Nat.le_refl _)
theorem Inv.lstM (I:Inv X pins σ H s) (hH:H l=some (.lst xs)):xs.length≤sizeLine∧∃ (its:List Value) (n:Nat),Vals xs its∧xs.length=its.length∧s.heap.get? l=some { cls:=.type "list",data:=.seq its.toArray n }:=by
 obtain ⟨z,its,n,r,e⟩:=I.hok l _ hH
 exact ⟨z,its,n,r,r.length,e⟩
theorem notLongL {n:Nat} (h:n≤sizeLine):Builtin.List.listTooLong n=false:=by
 unfold Builtin.List.listTooLong
 exact decide_eq_false (by lia)
end
section
variable {X:Cx}
def rAppend:V→List V→Hp→VK→Prop:=fun x vs H Q=>∃ l xs y,x=.ref l∧vs=[y]∧H l=some (.lst xs)∧xs.length < sizeLine∧Q .non (upd H l (.lst (xs ++ [y])))
theorem J1s:MtM X "list.append" rAppend:=by
 intro pins s σ H x vs v us Q I rx rv h
 obtain ⟨l,xs,y,rfl,rfl,hH,hz,q⟩:=h
 cases rx
 obtain ⟨u,rfl,ru⟩:=rv.one
 obtain ⟨z,its,n,r,hl,e⟩:=I.lstM hH
 refine call_meets F.slot_list_append ⟨_,e,rfl⟩ F.entry_list_append (F.args_list_append_2 _ _) (PySem.list_append l its.toArray n u (by rw [List.size_toArray];lia)) ⟨e,?_⟩
 refine ⟨.non,_,I.lset (its':=its ++ [u]) hH e (by simp) (r.append (.cons ru .nil)) ?_,rfl,q⟩
 rw [List.length_append,List.length_singleton]
 lia
def rExtend:V→List V→Hp→VK→Prop:=fun x vs H Q=>∃ l b xs zs,x=.ref l∧vs=[.ref b]∧H l=some (.lst xs)∧H b=some (.lst zs)∧xs.length + zs.length≤sizeLine∧Q .non (upd H l (.lst (xs ++ zs)))
theorem mt_extend:MtM X "list.extend" rExtend:=by
 intro pins s σ H x vs v us Q I rx rv h
 obtain ⟨l,b,xs,zs,rfl,rfl,hH,hB,hz,q⟩:=h
 cases rx
 obtain ⟨u,rfl,ru⟩:=rv.one
 cases ru
 obtain ⟨z,its,n,r,hl,e⟩:=I.lstM hH
 obtain ⟨z2,its2,n2,r2,hl2,e2⟩:=I.lstM hB
 have hsz:its.toArray.size + its2.toArray.size≤sizeLine:=by rw [List.size_toArray,List.size_toArray];lia
 have hlong:¬ (!its.toArray.isEmpty && Builtin.List.listTooLong (its.toArray.size + its2.toArray.size))=true:=by
  rw [notLongL hsz,Bool.and_false]
  exact Bool.false_ne_true
 refine call_meets F.slot_list_extend ⟨_,e,rfl⟩ F.entry_list_extend (F.args_list_extend_2 _ _)
  (AutoSeq1.list_extend_list_list_0 l its.toArray n b its2.toArray n2 hlong (by rw [List.size_toArray];lia) (by lia)) ⟨e,e2,?_⟩
 refine ⟨.non,_,I.lset (its':=its ++ its2) hH e (by simp) (r.append r2) ?_,rfl,q⟩
 rw [List.length_append]
 lia
def rPop:V→List V→Hp→VK→Prop:=fun x vs H Q=>∃ l xs y,x=.ref l∧vs=[]∧H l=some (.lst xs)∧xs[xs.length - 1]?=some y∧Q y (upd H l (.lst xs.dropLast))
theorem mt_pop:MtM X "list.pop" rPop:=by
 intro pins s σ H x vs v us Q I rx rv h
 obtain ⟨l,xs,y,rfl,rfl,hH,hy,q⟩:=h
 cases rx
 have hus:=rv.zero
 subst hus
 obtain ⟨z,its,n,r,hl,e⟩:=I.lstM hH
 obtain ⟨u,hu,ru⟩:=r.get hy
 have hy':its.toArray[its.toArray.size - 1]?=some u:=by
  show its.toArray[its.length - 1]?=some u
  rw [← Array.getElem?_toList,← hl]
  exact hu
 refine call_meets F.slot_list_pop ⟨_,e,rfl⟩ F.entry_list_pop (F.args_list_pop_1 _) (MeetsSeq.list_pop_last l its.toArray n u hy' (by rw [List.size_toArray];lia)) ⟨e,?_⟩
 refine ⟨y,_,I.lset (its':=its.dropLast) hH e ?_ r.dropLast ?_,ru,q⟩
 ·show its.toArray.eraseIdxIfInBounds (its.toArray.size - 1)=its.dropLast.toArray
  rw [List.size_toArray,List.eraseIdxIfInBounds_toArray,erase_last]
 ·rw [List.length_dropLast]
  lia
def rCat:R2:=fun x y H Q=>∃ l b xs zs,x=.ref l∧y=.ref b∧H l=some (.lst xs)∧H b=some (.lst zs)∧xs.length + zs.length≤sizeLine∧∀ p,H p=none→Q (.ref p) (upd H p (.lst (xs ++ zs)))
theorem op_cat:OpR X (binaryOp .Add) rCat:=by
 intro pins s σ H x y v u Q I rx ry h
 obtain ⟨l,b,xs,zs,rfl,rfl,hH,hB,hz,q⟩:=h
 cases rx
 cases ry
 obtain ⟨z,its,n,r,hl,e⟩:=I.lstM hH
 obtain ⟨z2,its2,n2,r2,hl2,e2⟩:=I.lstM hB
 refine PySem.P.add_list e e2 ?_ (by rw [List.size_toArray,List.size_toArray];lia)
 have ea:its.toArray ++ its2.toArray=(its ++ its2).toArray:=by simp
 rw [ea]
 exact ⟨.ref _,_,I.lnew (t':=s.toks) (r.append r2) (by rw [List.length_append];lia),rfl,q _ I.fresh⟩
def rRep:R2:=fun x y H Q=>∃ l k xs,x=.ref l∧y=.int k∧H l=some (.lst xs)∧-(2 ^ 63)≤k∧k < 2 ^ 63∧xs.length * k.toNat≤sizeLine∧
 ∀ p,H p=none→Q (.ref p) (upd H p (.lst (List.replicate k.toNat xs).flatten))
theorem len_rep {α:Type} (xs:List α) (k:Nat):(List.replicate k xs).flatten.length=k * xs.length:=by
 induction k with
 | zero=>simp
 | succ k ih=>rw [List.replicate_succ,List.flatten_cons,List.length_append,ih,Nat.succ_mul,Nat.add_comm]
theorem op_rep:OpR X (binaryOp .Mult) rRep:=by
 intro pins s σ H x y v u Q I rx ry h
 obtain ⟨l,k,xs,rfl,rfl,hH,h1,h2,hz,q⟩:=h
 cases rx
 obtain ⟨t,rfl⟩:=ry
 obtain ⟨z,its,n,r,hl,e⟩:=I.lstM hH
 have hlen:its.toArray.size * k.toNat≤sizeLine:=by rw [List.size_toArray,← hl];exact hz
 have hcap:¬ its.toArray.size * k.toNat > (2 ^ 63 - 1) / 8:=by
  have:(sizeLine:Nat)≤(2 ^ 63 - 1) / 8:=by decide
  lia
 have hfit:¬ (!Builtin.List.listFitsIndex k)=true:=by
  rw [fitsIndex_both h1 h2]
  exact Bool.false_ne_true
 have hlong:¬ Builtin.List.listTooLong (its.toArray.size * k.toNat)=true:=by
  rw [notLongL hlen]
  exact Bool.false_ne_true
 have hnew:List.foldl (fun x1 x2=>x1 ++ x2) #[] (List.replicate (if its.toArray.isEmpty=true then 0 else k.toNat) its.toArray)=(List.replicate k.toNat its).flatten.toArray:=by
  have f0:∀ m:Nat,List.foldl (fun x1 x2=>x1 ++ x2) #[] (List.replicate m its.toArray)=(List.replicate m its).flatten.toArray:=fun m=>by
   have:=J4y its m []
   rw [List.nil_append] at this
   exact this
  rw [f0]
  cases its with
  | nil=>simp
  | cons a r'=>rw [if_neg (by simp)]
 refine wpAny_binaryOp_repeat_ref (T:="list") (U:="int") (by decide) ⟨_,e,rfl⟩ (fun s'=>typeIs_int s' k t) noFill_list_mul F.fills_int_mul F.slot_int_rmul repeat_list F.slot_int_index.lookup
  (call_meets F.slot_int_rmul (typeIs_int s k t) F.entry_int_rmul (F.args_int_rmul_2 _ _) (int___rmul___int_list k t l its.toArray n)
   ⟨e,rfl,⟨_,e,rfl⟩,call_meets F.slot_list_mul ⟨_,e,rfl⟩ F.entry_list_mul (F.args_list_mul_2 _ _) (AutoListH.list___mul___list_int_3 l its.toArray n k t hfit hcap hlong) ⟨e,?_⟩⟩)
 rw [hnew]
 exact ⟨.ref _,_,I.lnew (t':=s.toks) (r.rep k.toNat) (by rw [len_rep,Nat.mul_comm];exact hz),rfl,q _ I.fresh⟩
end
section
variable {prog:Program} {w:World} {A:Around} {E:Value→Shared→Prop} {s:Shared}
set_option maxRecDepth 100000 in
end
end L2
namespace Att
open PySem PySem.W PySem.Calls PyProof.Rows
theorem J3y {P:Params} {h:Heap}:∀ (ns:List Int) (vs:List Value),WellAll P h vs (ns.map WData.int)→IntsAre vs ns:=by
 intro ns
 induction ns with
 | nil =>
  intro vs w
  rw [List.map_nil] at w
  cases w
  exact .nil
 | cons n ns ih =>
  intro vs w
  rw [List.map_cons] at w
  cases w with
  | cons a b =>
   cases a
   exact .cons _ _ (ih _ b)
theorem script_of {l:OpenLaw} {n:Nat} (hn:l.most=some n) {P:Params} {h:Heap} {args:List WData} {vals:List Value}
  (hpre:l.row.toRowW.claim.pre args=true) (hwl:WellAll P h vals args) :
  ∃ a vs ns,vals=[Value.ref a]∧args=[WData.list (ns.map WData.int)]∧h.get? a=some { cls:=.type "list",data:=.seq vs.toArray }∧IntsAre vs ns∧ns.length≤n:=by
 have hsh:WShape.hasAll [] args [.list .int]=true:=(pre_splitW hpre).1
 have hc:l.pre.holds [] { args:=args }=true:=(pre_splitW hpre).2
 obtain ⟨d,r,rfl,h1,h2⟩:=hasAllW_cons hsh
 obtain rfl:=hasAllW_nil h2
 obtain ⟨xs,rfl,h3⟩:=hasW_list h1
 obtain ⟨ns,rfl⟩:=items_int h3
 have hlen:ns.length≤n:=by
  unfold OpenLaw.pre at hc
  have h4:(WTm.not (.lt (.lit (.int (n:Int))) (.len (.arg 0)))).holds [] { args:=[.list (ns.map .int)] }=true:=by
   have h4:=(holds_andW hc).1
   rw [hn] at h4
   exact h4
  have h5:=condW_of h4 (w_not (w_lt w_lit (w_len_list (w_arg rfl))))
  rw [List.length_map] at h5
  refine Nat.le_of_not_lt fun q=>?_
  have q':(n:Int) < ((ns.length:Nat):Int):=by lia
  first
   | (rw [decide_eq_true q'] at h5;exact absurd h5 (by decide))
   | (simp at h5;lia)
 cases hwl with
 | cons w1 w2 =>
  cases w2
  cases w1 with
  | list ho hall=>exact ⟨_,_,ns,rfl,rfl,ho,J3y ns _ hall,hlen⟩
theorem post_true (l:OpenLaw) (args:List WData):l.row.toRowW.claim.post args (.bool true) args=true :=
 postW_of (r:=l.row.toRowW) (X:=(true == true))
  (show WShape.has [] (.bool true) .bool=true by first | rfl | decide | simp [WShape.has,WShape.arms,WShape.armsAll])
  (show (WTm.eq .res (.lit (.bool true))).value [] { args:=args,res:=some (.bool true),after:=args }=some (.bool (true == true)) from w_eq_bool (w_res rfl) w_lit) rfl
theorem attach_call {l:OpenLaw} {n:Nat} {q:Program} {loose:List Str} {XP:(Str→Option Value)→Heap→Prop} {YP:World→Heap→Prop} {d:DefRec}
  (hn:l.most=some n) (hdf:d.params.defaults=[])
  (call:∀ (w:World) (s₀ s₁:Shared) (mg mb:Str→Option Value) (fa:Addr) (o:Obj) (pm cd doc:Value) (a:Addr) (vs:List Value) (ns:List Int),
   Ground q loose [] XP w s₀ mg mb s₁.heap→YP w s₁.heap→
   s₁.heap.get? fa=some o→o.data=.func (docDef d.name d.params d.body d.scope pm cd doc)→s₁.heap.CodeRec cd d.name→mg d.name=some (.ref fa)→
   s₁.heap.get? a=some { cls:=.type "list",data:=.seq vs.toArray }→IntsAre vs ns→ns.length≤n→s₁.gens=#[]→
   codeAny (model l.prog w) callerA (.call (.ref fa) ⟨[.ref a],[]⟩) (fun r s'=>r=.ok (.ret (.bool true))∧OldK s₁.heap s'.heap∧s'.os=s₁.os∧AllBare s'.gens) s₁) :
  WalkO q loose XP YP l.row.toRowW d [] (fun f vs=>PySem.call f vs):=by
 intro w s₀ s₁ mg mb G Y fa o pm cd doc dV kV ho hd hcd hD hmg hg args vals as hpre hlay hrd hwl hlo
 obtain rfl:dV=.none:=Dflts.none hD hdf
 obtain rfl:kV=.none:=Dflts.noKw hD
 obtain ⟨a,vs,ns,rfl,rfl,hobj,hints,hlen⟩:=script_of hn hpre hwl
 refine enter_call (codeAny_mono (call w s₀ s₁ mg mb fa o pm cd doc a vs ns G Y ho (fd_plain hd) hcd hmg hobj hints hlen hg) fun r s' hq=>?_)
 obtain ⟨rfl,h2,h3,h4⟩:=hq
 exact ⟨.inl ⟨.bool true,.bool true,[],rfl,fun _=>rfl,.bool true,post_true l _,fun _=>⟨List.Pairwise.nil,fun _ hm=>(nomatch hm)⟩⟩,h2,h3,h4⟩
end Att
namespace L2
open PySem PySem.Spec PyProof.Rows
theorem J4e:∀ {vs:List Value} {ns:List Int},IntsAre vs ns→Vals (ns.map V.int) vs
 | _,_,.nil=>.nil
 | _,_,.cons n t h=>.cons ⟨t,rfl⟩ (J4e h)
end L2
namespace L2
open PySem PySem.Spec PyProof.Rows
end L2
namespace L2
open PySem PySem.Spec PyProof.Rows
def inClass (s:Stmt) (j:Nat):Stmt:=match s with
 | .ClassDef _ _ _ body _ _ _ _ _ _ _=>body.getD j (.Pass ⟨0,0,0,0⟩)
 | _=>.Pass ⟨0,0,0,0⟩
def J2c (s:Stmt):Arguments:=match s with
 | .FunctionDef _ a _ _ _ _ _ _ _ _=>a
 | _=>{ posonlyargs:=[],args:=[],vararg:=none,kwonlyargs:=[],kw_defaults:=[],kwarg:=none,defaults:=[] }
def J1k (s:Stmt):List Stmt:=match s with
 | .FunctionDef _ _ b _ _ _ _ _ _ _=>b
 | _=>[]
def Ja (s:Stmt):Scope:=match s with
 | .FunctionDef _ _ _ _ _ _ sc _ _ _=>sc
 | _=>{ kind:=.function,names:=[],isGenerator:=false,isCoroutine:=false }
abbrev CX0:CXT:=fun _ _ _ _ _ _=>False
abbrev E0:XK:=fun _ _ _=>False
theorem pass0 {X:Cx}:Passes CX0 X E0:=fun _ _ _ _ _ _ _ h=>h.elim
structure Fun (K:PySem.W.Frag) (x qual:Str) (st:Stmt) (f:Addr) (fd:FuncData):Prop where
 ex:∃ (oc:Value) (od:Option Addr) (kV doc pm:Value) (an:Option Addr) (cdv ct:Value) (osl:Array (Option Value)),
  fd=PySem.W.fnOf x qual (J2c st) (J1k st) (Ja st) .none kV doc pm an cdv ct∧K.lookup f=some ⟨oc,od,.func fd,osl⟩∧PySem.W.codeIn K cdv qual=true
 kp:PySem.W.keepIn K (.ref f)=true
section
variable {P:Program} {w:World} {K:PySem.W.Frag} {mg:Str→Option Value} {base:Heap}
theorem Fun.ok {x qual:Str} {st:Stmt} {f:Addr} {fd:FuncData} {N ps:List Str} {k:Nat} {sp:Sp} (F:Fun K x qual st f fd) (S:FnScope N ps (Ja st)) (len:∀ vs H Q E,sp vs H Q E→vs.length=ps.length)
  (hbody:∀ (cdv:Value) (A:Around) (outer:List Env) (s:Shared) (H:Hp) (vs:List V) (Q:VK) (E:XK),Room k (A.deeper (envOfC qual (Ja st) s.heap.objs.size f cdv))→sp vs H Q E→
   ∃ t,PSs (cxOf CX0 P w K mg base N qual (Ja st) f cdv A outer s H E).nox (J1k st) t∧t { nx:=fun _ H'=>Q .non H',rt:=Q } (start N vs) H):FnOk P w K mg base CX0 (k + 1) f fd ps sp:=by
 obtain ⟨oc,od,kV,doc,pm,an,cdv,ct,osl,rfl,lk,hcd⟩:=F.ex
 refine fn_of lk hcd S len fun A outer s H vs Q E hr hsp=>?_
 obtain ⟨t,h,q⟩:=hbody cdv A outer s H vs Q E hr hsp
 exact ⟨t,h.nox,q⟩
theorem Fun.binds {x qual:Str} {st:Stmt} {f:Addr} {fd:FuncData} {ps:List Str} (F:Fun K x qual st f fd)
  (h:∀ (kV doc pm:Value) (an:Option Addr) (cdv ct:Value) (us:List Value),us.length=ps.length→bindArgs (PySem.W.fnOf x qual (J2c st) (J1k st) (Ja st) .none kV doc pm an cdv ct) ⟨us,[]⟩=pure (ps.zip us)):Binds K fd ps []:=by
 obtain ⟨oc,od,kV,doc,pm,an,cdv,ct,osl,rfl,lk,hcd⟩:=F.ex
 exact .all (h kV doc pm an cdv ct)
theorem fun_mk {x qual:Str} {st:Stmt} {f:Addr} {oc:Value} {od an:Option Addr} {osl:Array (Option Value)} {kV doc pm cdv ct:Value} (l:K.lookup f=some ⟨oc,od,.func (PySem.W.fnOf x qual (J2c st) (J1k st) (Ja st) .none kV doc pm an cdv ct),osl⟩)
  (c:PySem.W.codeIn K cdv qual=true) (k:PySem.W.keepIn K (.ref f)=true):Fun K x qual st f (PySem.W.fnOf x qual (J2c st) (J1k st) (Ja st) .none kV doc pm an cdv ct):=⟨⟨oc,od,kV,doc,pm,an,cdv,ct,osl,rfl,l,c⟩,k⟩
end
theorem hu_of {A:Around} {k:Nat} (hr:Room k A):A.units + 1 < cLine:=Nat.lt_of_le_of_lt (Nat.add_le_add_left (by decide:1≤64) _) hr.units
theorem Jx {n:Nat} (h:n≤1000):n < sizeLine:=Nat.lt_of_le_of_lt h (by decide)
section
variable {X:Cx}
theorem pv (i:Nat) {x:Str} {pos:Pos} (hN:X.N[i]?=some x:=by rfl) (hv:Vis X.env.scope x:=by first | exact Or.inl rfl | exact Or.inr (Or.inl rfl) | exact Or.inr (Or.inr rfl)) (hd:(x == ("__debug__":Str))=false:=by decide)
  (hcd:(x == ("__classdict__":Str))=false:=by decide):PE X (.Name x pos) (tVar i):=pe_var hN hv hd hcd
end
theorem iteF {A B:Prop} (h:B):if false=true then A else B:=by
 rw [if_neg Bool.false_ne_true]
 exact h
theorem iteT {A B:Prop} (h:A):if true=true then A else B:=by
 rw [if_pos rfl]
 exact h
theorem iteNS {c A B:Prop} [Decidable c] (hc:c) (h:B):if (!decide c)=true then A else B:=by
 rw [decide_eq_true hc]
 exact iteF h
def Same (H H':Hp):Prop:=∀ b o,H b=some o→H' b=some o
theorem Same.refl (H:Hp):Same H H:=fun _ _ h=>h
theorem Same.trans {H H1 H2:Hp} (a:Same H H1) (b:Same H1 H2):Same H H2:=fun c o h=>b c o (a c o h)
theorem Same.free {H H':Hp} (e:Same H H') {l:Addr} (h:H' l=Option.none):H l=Option.none:=by
 cases q:H l with
 | none=>rfl
 | some o =>
  rw [e l o q] at h
  cases h
theorem Same.seq {K:PySem.W.Frag} {H H':Hp} {a:Addr} {xs:List V} (e:Same H H') (h:SqL K H a xs):SqL K H' a xs:=by
 rcases h with (h | ⟨o,h⟩) | h
 ·exact .inl (.inl (e _ _ h))
 ·exact .inl (.inr ⟨o,e _ _ h⟩)
 ·exact .inr h
end L2
namespace L2
open PySem PySem.Spec PyProof.Rows
theorem J32 {prog:Program} {w:World} {A:Around} {R:Result→Shared→Prop} {s:Shared} {elt target iter:Expr} {scope:Scope} {pos:Pos} {it acc:Value} {env:Env} (J:Nat→Shared→Prop)
  (turn:∀ n s,J n s→wpAny (model prog w) A (pyNext it) (fun r s₁=>match r with
   | none=>R (.ok .next) s₁
   | some v=>wpAny (model prog w) A (letOwnedTupleGo target it v) (fun _ s₁'=>wpAny (model prog w) A (assign target env v) (fun _ s₂=>wpAny (model prog w) A (eval elt env) (fun x s₃ =>
     wpAny (model prog w) A (call (.builtin "list.append") [acc,x]) (fun _ s₄=>∃ m,m < n∧J m s₄) (fun _ _=>False) s₃) (fun _ _=>False) s₂) (fun _ _=>False) s₁') (fun _ _=>False) s₁) (fun _ _=>False) s)
  (n:Nat) (h:J n s):codeAny (model prog w) A (.compLoop (.ListComp elt [⟨target,iter,[],0⟩] scope pos) 0 it acc env) R s:=by
 refine codeAny_loop rfl J (fun n s hI=>?_) n h
 show wpAny _ _ ((compTurn (.ListComp elt [⟨target,iter,[],0⟩] scope pos) 0 it acc env).onRaise (fun x=>do noteFrame x env;theTreesLotGoes x)) _ _ s
 refine wpAny_noted ?_
 rw [compTurn_list1]
 refine wpAny_bind (wpAny_standAt (wpAny_bind (wpAny_mono (turn n s hI) (fun r s₁ h₁=>?_) fun _ _ h'=>False.elim h')))
 cases r with
 | none=>exact wpAny_pure h₁
 | some v =>
  refine wpAny_bind (wpAny_mono h₁ (fun _ s₁' h₁'=>?_) fun _ _ h'=>False.elim h')
  exact wpAny_bind (wpAny_mono h₁' (fun _ s₂ h₂=>wpAny_bind (wpAny_bind (wpAny_mono h₂ (fun x s₃ h₃=>wpAny_bind (wpAny_mono h₃
   (fun _ s₄ h₄=>wpAny_pure (wpAny_pure ⟨rfl,h₄⟩)) fun _ _ h'=>False.elim h')) fun _ _ h'=>False.elim h'))) fun _ _ h'=>False.elim h')
abbrev Cx.block (X:Cx) (N:List Str) (scope:Scope) (cl:List (Str × Addr)) (C:Addr) (fp:List Addr) (s:Shared) (H:Hp):Cx :=
 { X with N:=N,s₀:=s,H₀:=H,env:=compEnvC scope cl C X.env,outer:=X.stack,stack:=X.stack,ex:=fp,fn:=fun _=>false,pn:=[],xe:=fun _ _=>False }
theorem J41 {env:Env}:∀ {names:List (Str × NameKind)} {x:Str} {k:NameKind},(names.map fun (n,k)=>if (k == NameKind.free && env.scope.kind == .function && env.kindOf n == some .cell) then (n,NameKind.cell) else (n,k)).lookup x=some k→
  k=.cell∨k=.free→(∀ p∈names,p.2≠.cell)→∃ p∈names,p.1=x∧p.2=.free
 | [],_,_,h,_,_=>by simp at h
 | (n,q) :: r,x,k,h,hk,hc=>by
  have ih:=@J41 env r x k
  have hq:q≠.cell:=hc (n,q) List.mem_cons_self
  rw [List.map_cons] at h
  by_cases hx:x=n
  ·subst hx
   by_cases e:(q == NameKind.free && env.scope.kind == .function && env.kindOf x == some .cell)=true
   ·simp only [Bool.and_eq_true] at e
    exact ⟨(x,q),List.mem_cons_self,rfl,by simpa using e.1.1⟩
   ·have e2:List.lookup x ((x,q) :: List.map (fun (n,k)=>if (k == NameKind.free && env.scope.kind == .function && env.kindOf n == some .cell) then (n,NameKind.cell) else (n,k)) r)=some k:=by
     simpa only [e,if_false,Bool.false_eq_true] using h
    rw [List.lookup_cons_self] at e2
    cases e2
    rcases hk with hk | hk
    ·exact absurd hk hq
    ·exact ⟨(x,q),List.mem_cons_self,rfl,hk⟩
  ·have hb:(x == n)=false:=by simpa using hx
   have h':(List.map (fun (n,k)=>if (k == NameKind.free && env.scope.kind == .function && env.kindOf n == some .cell) then (n,NameKind.cell) else (n,k)) r).lookup x=some k:=by
    by_cases e:(q == NameKind.free && env.scope.kind == .function && env.kindOf n == some .cell)=true
    ·simp only [e,if_true,List.lookup_cons,hb] at h;exact h
    ·simp only [e,if_false,Bool.false_eq_true,List.lookup_cons,hb] at h;exact h
   obtain ⟨p,hp,e1,e2⟩:=ih h' hk fun p hp=>hc p (List.mem_cons_of_mem _ hp)
   exact ⟨p,List.mem_cons_of_mem _ hp,e1,e2⟩
def capv (σ:St) (js:List Nat):St:=js.map fun j=>(σ[j]?).join
theorem J50 {σ:St} {js:List Nat} {k:Nat} {v:V} (h:(capv σ js)[k]?=some (some v)):∃ j,js[k]?=some j∧σ[j]?=some (some v):=by
 unfold capv at h
 rw [List.getElem?_map] at h
 cases e:js[k]? with
 | none=>rw [e] at h;cases h
 | some j =>
  rw [e] at h
  refine ⟨j,rfl,?_⟩
  cases e2:σ[j]? with
  | none=>rw [Option.map_some,e2] at h;cases h
  | some o=>rw [Option.map_some,e2] at h;exact congrArg some (Option.some.inj h)
def tComp (wi:TI) (te:TE) (js:List Nat) (i:Nat):TS:=fun D σ H=>wi σ H fun J H1=>∃ (lo:Int) (n:Nat) (f:Nat→V),J=Itr lo n∧n≤1000∧
 (∀ (d:Addr) (H2:Hp) (k:Nat),H1 d=none→k < n→H2=upd H1 d (.lst ((List.range k).map f))→te (some (.int (lo + k)) :: capv σ js) H2 fun v H3=>H3=H2∧v=f k)∧
 ∀ d,H1 d=none→D.nx (σ.set i (some (.ref d))) (upd H1 d (.lst ((List.range n).map f)))
section
variable {X:Cx} {elt iter:Expr} {x y:Str} {px py:Pos} {scope:Scope} {cl:List (Str × Addr)} {pos spos:Pos} {wi:TI} {te:TE} {caps:List Str} {js:List Nat} {i:Nat}
theorem J3a {pins:List (Addr × Obj)} {σ:St} {H:Hp} {s:Shared} {C:Addr} {fp:List Addr} (I:Inv X pins σ H s) (hC:s.heap.objs.size≤C) (f2:∀ b∈fp,FpOk X pins H b) (fl:∀ b∈fp,b < s.heap.objs.size)
  (hkind:scope.kind=.function) (hcell:∀ p∈scope.names,p.2≠.cell) (hsub:∀ p∈cl,X.env.cells.lookup p.1=some p.2) (hhas:∀ p∈scope.names,p.2=.free→∃ c,cl.lookup p.1=some c) :
  (X.block (x :: caps) scope cl C fp s H).Ok where
 mod:=I.ok.mod
 kind:=hkind
 glob:=I.ok.glob
 blt:=I.ok.blt
 above:=hC
 inj:=fun a b c h1 h2=>I.ok.inj a b c (hsub _ (PySem.mem_of_lookup h1)) (hsub _ (PySem.mem_of_lookup h2))
 has:=fun a h=>by
  have h':(∃ k,(relabel scope X.env).names.lookup a=some k∧(k=.cell∨k=.free)):=by
   rcases h with h | h
   ·exact ⟨_,h,.inl rfl⟩
   ·exact ⟨_,h,.inr rfl⟩
  obtain ⟨k,h1,hk⟩:=h'
  obtain ⟨p,hp,e1,e2⟩:=J41 h1 hk hcell
  rw [← e1]
  exact hhas p hp e2
 cab:=fun _ _ h=>nomatch h
 hd:=I.ok.hd
 frames:=I.ok.frames
 stk:=.inl rfl
 exf:=fun b hb=>⟨Nat.ne_of_lt (Nat.lt_of_lt_of_le (fl b hb) hC),fun a c e=>(f2 b hb).2.2.2.2.1 a c (hsub _ (PySem.mem_of_lookup e))⟩
 bs:=I.bs
 bsz:=Nat.le_trans I.ok.bsz I.sz
 noex:=fun b o e hb=>by
  rcases (f2 b hb).2.2.2.1 with z | z
  ·exact I.ok.noex b o e z
  ·exact absurd (Nat.lt_of_lt_of_le (Heap.lt_size e) (Nat.le_trans I.ok.bsz z)) (Nat.lt_irrefl _)
 exfs:=fun b hb z=>by
  rcases List.mem_cons.mp (I.stkSub b z) with e | e
  ·exact (f2 b hb).2.1 e
  ·exact (f2 b hb).2.2.1 e
 funs:=I.stack
 frf:=I.stkFree
theorem ps_comp (hN:X.N.Nodup) (hi:X.N[i]?=some y) (hy:Loc X.env.scope y) (hc:X.calm=true) (hp:PI X (.Name x px) iter wi)
  (he:∀ (C:Addr) (fp:List Addr) (s:Shared) (H:Hp),PE (X.block (x :: caps) scope cl C fp s H) elt te)
  (hcell:∀ p∈scope.names,p.2≠.cell) (hnames:∀ p∈scope.names,p.2=.local→scope.names.lookup p.1=some .local) (hnd:(x :: caps).Nodup)
  (hsub:∀ p∈cl,X.env.cells.lookup p.1=some p.2) (hhas:∀ p∈scope.names,p.2=.free→∃ c,cl.lookup p.1=some c) (hlen:caps.length=js.length)
  (hcaps:∀ (k:Nat) (c:Str),caps[k]?=some c→∃ (j:Nat) (a:Addr),js[k]?=some j∧X.N[j]?=some c∧X.env.scope.names.lookup c=some .cell∧cl.lookup c=some a∧(relabel scope X.env).names.lookup c=some .cell)
  (hf:X.fn y=true∨X.env.scope.names.lookup y=some .local:=by first | exact .inl rfl | exact .inr rfl | assumption)
  (hsw:swapsWith (.ListComp elt [⟨.Name x px,iter,[],0⟩] scope pos) (some (.Name y py)) spos.line X.env=pure true:=by rfl) (hclos:closureFor scope X.env=pure cl:=by rfl)
  (hkind:scope.kind=.function:=by rfl) (hx:scope.names.lookup x=some .local:=by rfl) (hs:∀ v,foldedSetIterable iter X.env v=pure v:=by intro _;rfl) :
  PS X (.Assign [.Name y py] (.ListComp elt [⟨.Name x px,iter,[],0⟩] scope pos) spos) (tComp wi te js i):=by
 intro pins s σ H D I h
 rw [exec_Assign_Name_used _ _ _ _ hsw]
 refine wpAny_bind (wpAny_standAt (wpAny_bind ?_))
 show wpAny _ X.A (do let _ ← comprehension (.ListComp elt [⟨.Name x px,iter,[],0⟩] scope pos) scope X.env _ (newList []) false (eval iter X.env) (some (assign (.Name y py) X.env))) _ _ s
 refine wpAny_bind (wpAny_mono (wpAny_comprehension_free (cl:=cl) (use:=some (assign (.Name y py) X.env)) (Q:=fun _ s'=>SP X pins D .next s') rfl hs hclos hkind hnames
  (thn (hp pins s σ H _ I h) fun v s1 h1=>thn h1 fun itv s2 h2=>?_)) (fun _ s' hq=>wpAny_pure (wpAny_pure hq)) fun _ _ e=>e)
 obtain ⟨it,fp,tn,J,H2,e,I2,T,st2,f2,lo,n,f,rfl,hn,hel,hfin⟩:=h2
 subst e
 refine wpAny_newObj_type (wpAny_newFunctionEnv hcell (by intro y hy;simp at hy) (fun h₁ hns₁ hsb₁=>?_) hkind)
 dsimp only at hns₁ hsb₁ ⊢
 generalize hH2:s2.heap.push { cls:=.type "list",dict:=none,data:=.seq ([]:List Value).toArray }=G at hns₁ hsb₁ ⊢
 have hC:G.objs.size=s2.heap.objs.size + 1:=by rw [← hH2,Heap.size_push]
 have hDC:s2.heap.objs.size≠G.objs.size:=by rw [hC];exact Nat.ne_of_lt (Nat.lt_succ_self _)
 have hCle:s2.heap.objs.size≤G.objs.size:=by rw [hC];exact Nat.le_succ _
 have old:∀ b o,s2.heap.get? b=some o→h₁.get? b=some o:=fun b o e=>hsb₁.extBut b o (by rw [hC];exact Nat.ne_of_lt (Nat.lt_succ_of_lt (Heap.lt_size e))) (Heap.get?_push_of_some _ (hH2 ▸ Heap.get?_push_of_some _ e))
 have hacc:h₁.get? s2.heap.objs.size=some { cls:=.type "list",dict:=none,data:=.seq ([]:List Value).toArray }:=hsb₁.extBut _ _ hDC (Heap.get?_push_of_some _ (hH2 ▸ Heap.get?_push_size _ rfl))
 have hfr:H2 s2.heap.objs.size=none:=I2.hok.fresh (Nat.le_refl _)
 have fl:∀ b∈fp,b < s2.heap.objs.size:=fun b hb=>by
  obtain ⟨o,e,_⟩:=T.obj _ _ st2 b hb
  exact Heap.lt_size e
 have hDf:s2.heap.objs.size ∉ fp:=fun hm=>Nat.lt_irrefl _ (fl _ hm)
 have hok1:HOk X.prog X.w (upd H2 s2.heap.objs.size (.lst [])) h₁:=I2.hok.laid old (Nat.le_refl _) ⟨Nat.zero_le _,[],0,.nil,hacc⟩
 have IY0:∀ tk,Inv (X.block (x :: caps) scope cl G.objs.size fp s2 H2) [] (none :: capv σ js) (upd H2 s2.heap.objs.size (.lst [])) { s2 with heap:=h₁,toks:=tk }:=fun tk=>by
  refine ⟨J3a I2 hCle f2 fl hkind hcell hsub hhas,rfl,I2.bare,Un.laid old (Nat.le_refl _) hfr,⟨_,hns₁,fun k z v e1 e2 e3=>?_⟩,fun z c e=>?_,?_,fun z c e=>?_,fun p hp=>absurd hp (by simp),hok1,?_⟩
  ·cases k with
   | zero=>simp at e2
   | succ k =>
    have e1':caps[k]?=some z:=by simpa using e1
    have e2':(capv σ js)[k]?=some (some v):=by simpa using e2
    obtain ⟨j,a,q1,q2,q3,q4,q5⟩:=hcaps k z e1'
    obtain ⟨j',r1,r2⟩:=J50 e2'
    rw [q1] at r1;cases r1
    obtain ⟨m,hm,hl⟩:=I2.loc
    obtain ⟨u,ru,lu⟩:=hl j z v q2 r2 (.inr (.inl q3))
    refine ⟨u,ru,.inr ⟨.inl q5,a,q4,?_⟩⟩
    rcases lu with ⟨k1,_⟩ | ⟨_,c,ec,o,ho,hd⟩
    ·have k1':X.env.scope.names.lookup z=some .local:=k1
     rw [q3] at k1';cases k1'
    ·have:=hsub _ (PySem.mem_of_lookup q4)
     rw [ec] at this;cases this
     exact ⟨o,old _ _ ho,hd⟩
  ·obtain ⟨v,o,ho,hd⟩:=I2.cell z c (hsub _ (PySem.mem_of_lookup e))
   exact ⟨v,o,old _ _ ho,hd⟩
  ·show upd H2 s2.heap.objs.size (.lst []) G.objs.size=none
   rw [Jf hDC.symm]
   exact I2.hok.fresh hCle
  ·have ec:=hsub _ (PySem.mem_of_lookup e)
   obtain ⟨v,o,ho,hd⟩:=I2.cell z c ec
   rw [Jf (Nat.ne_of_lt (Heap.lt_size ho))]
   exact I2.freeC z c ec
  ·show (none :: capv σ js).length=(x :: caps).length
   unfold capv
   simp [hlen]
 have stat:∀ {H':Hp},(∀ b∈fp,H' b=none)→∀ b∈fp,FpOk (X.block (x :: caps) scope cl G.objs.size fp s2 H2) [] H' b:=fun hn b hb =>
  ⟨hn b hb,Nat.ne_of_lt (Nat.lt_of_lt_of_le (fl b hb) hCle),(J3a (x:=x) (caps:=caps) I2 hCle f2 fl hkind hcell hsub hhas).exfs b hb,.inl hb,fun z c e=>(f2 b hb).2.2.2.2.1 z c (hsub _ (PySem.mem_of_lookup e)),fun p hp=>absurd hp (by simp)⟩
 have fpn:∀ ys,∀ b∈fp,upd H2 s2.heap.objs.size (.lst ys) b=none:=fun ys b hb=>by
  rw [Jf (show b≠s2.heap.objs.size from fun e=>hDf (by rw [← e];exact hb))]
  exact (f2 b hb).1
 have hxl:(relabel scope X.env).names.lookup x=some .local:=lookup_relabel_local hx
 have fin:∀ (s5:Shared) (σ5:St),Inv (X.block (x :: caps) scope cl G.objs.size fp s2 H2) [] σ5 (upd H2 s2.heap.objs.size (.lst ((List.range n).map f))) s5→
   compPost (model X.prog X.w) X.A X.xe (some (assign (.Name y py) X.env)) (fun _ s'=>SP X pins D .next s') (.ref s2.heap.objs.size) G.objs.size (.ok .next) s5:=fun s5 σ5 I5=>by
  have J5:Inv X pins σ (upd H2 s2.heap.objs.size (.lst ((List.range n).map f))) s5:=I2.call' (ch:=fp) I5.os I5.base I5.hok I5.bare fun b hb=>⟨(f2 b hb).2.2.2.1,(f2 b hb).2.1,(f2 b hb).2.2.2.2.1,(f2 b hb).2.2.2.2.2⟩
  have hnsC:∃ m,s5.heap.Ns G.objs.size m:=let ⟨m,q,_⟩:=I5.loc;⟨m,q⟩
  obtain ⟨mC,nsC⟩:=hnsC
  show wpAny _ X.A (assign (.Name y py) X.env (.ref s2.heap.objs.size)) _ _ s5
  refine wpAny_assign_Name ?_
  refine J4g J5 hN hi hy (v:=.ref s2.heap.objs.size) rfl (fun s6 I6 keep6=>?_) hf
  obtain ⟨a,sa,ha⟩:=keep6
  have hLt:X.env.locals < s2.heap.objs.size:=I2.lt
  have aC:a≠G.objs.size:=by
   rcases ha with e | e
   ·rw [e];exact Nat.ne_of_lt (Nat.lt_of_lt_of_le hLt hCle)
   ·obtain ⟨v,o,ho,_⟩:=I2.cell y a e
    exact Nat.ne_of_lt (Nat.lt_of_lt_of_le (Heap.lt_size ho) hCle)
  refine ⟨mC,nsC.sameBut sa (Ne.symm aC),fun h' hs'=>?_⟩
  have hCn:upd H2 s2.heap.objs.size (.lst ((List.range n).map f)) G.objs.size=none:=by
   rw [Jf hDC.symm]
   exact I2.hok.fresh hCle
  have I7:=I6.turned (h':=h') (t':=s6.toks) (it:=G.objs.size) (fun b o hb e=>(hs'.2 b hb).trans e) hCn (Nat.ne_of_gt (Nat.lt_of_lt_of_le hLt hCle)) (.inr (Nat.le_trans I2.sz hCle))
   (fun z c e=>by
    obtain ⟨v,o,ho,_⟩:=I2.cell z c e
    exact Nat.ne_of_lt (Nat.lt_of_lt_of_le (Heap.lt_size ho) hCle))
   (fun p hp=>Nat.ne_of_lt (Nat.lt_of_lt_of_le (Heap.lt_size (I2.pin p hp).1) hCle))
  exact ⟨_,_,I7,hfin _ hfr⟩
 have loop:∀ tk,codeAny (model X.prog X.w) X.A (.compLoop (.ListComp elt [⟨.Name x px,iter,[],0⟩] scope pos) 0 (.ref it) (.ref s2.heap.objs.size) (compEnvC scope cl G.objs.size X.env))
   (compPost (model X.prog X.w) X.A X.xe (some (assign (.Name y py) X.env)) (fun _ s'=>SP X pins D .next s') (.ref s2.heap.objs.size) G.objs.size) { s2 with heap:=h₁,toks:=tk }:=fun tk=>by
  refine J32 (fun m s'=>∃ (k:Nat) (o:Option V),m=n - k∧k≤n∧Inv (X.block (x :: caps) scope cl G.objs.size fp s2 H2) [] (o :: capv σ js) (upd H2 s2.heap.objs.size (.lst ((List.range k).map f))) s'∧tn k s'.heap) ?_ n
   ⟨0,none,rfl,Nat.zero_le _,IY0 tk,T.keep _ _ _ st2 fun b hb o e=>old b o e⟩
  rintro m s3 ⟨k,o,rfl,hk,I3,st3⟩
  by_cases hlt:k < n
  ·refine thn (T.item (X.block (x :: caps) scope cl G.objs.size fp s2 H2) rfl rfl rfl hc k [] s3 _ _ (fun _ _=>False) I3 (stat (fpn _)) st3 hlt) fun r s4 ⟨u,hr,h4⟩=>?_
   subst hr
   refine thn h4 fun _ s5 ⟨v,H5,I5,r5,y5,st5,fr5⟩=>?_
   obtain ⟨rfl,rfl⟩:=y5
   have I5':=I5.pinned (stat fr5) (T.obj _ _ st5)
   refine thn (J1e (X:=X.block (x :: caps) scope cl G.objs.size fp s2 H2) (i:=0) (pos:=px) hnd rfl (.inl hxl) (.inr hxl) _ s5 _ _ _ u
    (fun σ' H'=>σ'=some (.int (lo + k)) :: capv σ js∧H'=upd H2 s2.heap.objs.size (.lst ((List.range k).map f))) I5' r5 ⟨rfl,rfl⟩) fun _ s6 ⟨σ6,H6,I6,q6⟩=>?_
   obtain ⟨rfl,rfl⟩:=q6
   refine thn (he _ _ _ _ _ s6 _ _ _ I6 (hel s2.heap.objs.size _ k hfr hlt rfl)) fun u7 s7 ⟨v7,H7,I7,r7,q7⟩=>?_
   obtain ⟨rfl,rfl⟩:=q7
   have hz:((List.range k).map f).length < sizeLine:=by
    rw [List.length_map,List.length_range]
    exact Jx (by lia)
   refine thn (J1s (X:=X.block (x :: caps) scope cl G.objs.size fp s2 H2) _ s7 _ _ (.ref s2.heap.objs.size) [f k] (.ref s2.heap.objs.size) [u7]
    (fun _ H'=>H'=upd (upd H2 s2.heap.objs.size (.lst ((List.range k).map f))) s2.heap.objs.size (.lst ((List.range k).map f ++ [f k]))) I7 rfl (.cons r7 .nil) ⟨s2.heap.objs.size,_,f k,rfl,rfl,J1,hz,rfl⟩) fun _ s8 ⟨_,H8,I8,_,q8⟩=>?_
   subst q8
   have eH:upd (upd H2 s2.heap.objs.size (.lst ((List.range k).map f))) s2.heap.objs.size (.lst ((List.range k).map f ++ [f k]))=upd H2 s2.heap.objs.size (.lst ((List.range (k + 1)).map f)):=by
    rw [upd_upd,List.range_succ,List.map_append,List.map_singleton]
   rw [eH] at I8
   refine ⟨n - (k + 1),by lia,k + 1,_,rfl,hlt,I8.unpinned,T.keep _ _ _ st5 fun b hb o e=>(I8.pin (b,o) (List.mem_append_right _ (List.mem_append_right _ (J1n hb e)))).1⟩
  ·have ek:k=n:=by lia
   subst ek
   refine thn (T.done (X.block (x :: caps) scope cl G.objs.size fp s2 H2) rfl rfl rfl hc k [] s3 _ _ (fun _ _=>False) I3 (stat (fpn _)) st3 (Nat.le_refl _)) fun r s4 ⟨hr,I4⟩=>?_
   subst hr
   exact fin s4 _ I4
 have st1:tn 0 h₁:=T.keep _ _ _ st2 fun b hb o e=>old b o e
 exact codeAny_compStart_list (loop _) (T.self X.A 0 _ _ _ st1 (loop _))
end
theorem ps_compB {X:Cx} {elt iter:Expr} {x y:Str} {px py:Pos} {scope:Scope} {cl:List (Str × Addr)} {pos spos:Pos} {wi:TI} {te:TE} {i:Nat} (caps:List Str) (js:List Nat)
  (hN:X.N.Nodup) (hi:X.N[i]?=some y) (hy:Loc X.env.scope y) (hc:X.calm=true) (hp:PI X (.Name x px) iter wi) (hclos:closureFor scope X.env=pure cl)
  (he:∀ (C:Addr) (fp:List Addr) (s:Shared) (H:Hp),PE (X.block (x :: caps) scope cl C fp s H) elt te)
  (hcell:∀ p∈scope.names,p.2≠.cell) (hnames:∀ p∈scope.names,p.2=.local→scope.names.lookup p.1=some .local) (hnd:(x :: caps).Nodup)
  (hsub:∀ p∈cl,X.env.cells.lookup p.1=some p.2)
  (hhas:(scope.names.all fun p=>p.2 != .free || (cl.lookup p.1).isSome)=true:=by rfl) (hlen:caps.length=js.length:=by rfl)
  (hcaps:((caps.zip js).all fun q=>X.N[q.2]? == some q.1 && X.env.scope.names.lookup q.1 == some .cell && (cl.lookup q.1).isSome && (relabel scope X.env).names.lookup q.1 == some .cell)=true:=by rfl)
  (hf:X.fn y=true∨X.env.scope.names.lookup y=some .local:=by first | exact .inl rfl | exact .inr rfl | assumption)
  (hsw:swapsWith (.ListComp elt [⟨.Name x px,iter,[],0⟩] scope pos) (some (.Name y py)) spos.line X.env=pure true:=by rfl)
  (hkind:scope.kind=.function:=by rfl) (hx:scope.names.lookup x=some .local:=by rfl) (hs:∀ v,foldedSetIterable iter X.env v=pure v:=by intro _;rfl) :
  PS X (.Assign [.Name y py] (.ListComp elt [⟨.Name x px,iter,[],0⟩] scope pos) spos) (tComp wi te js i):=by
 refine ps_comp (caps:=caps) (js:=js) hN hi hy hc hp he hcell hnames hnd hsub (fun p hp' e=>?_) hlen (fun k c hk=>?_) hf hsw hclos hkind hx hs
 ·have:=List.all_eq_true.mp hhas p hp'
  rw [e] at this
  exact Option.isSome_iff_exists.mp (by simpa using this)
 ·have hkl:k < caps.length:=(List.getElem?_eq_some_iff.mp hk).1
  have hj:js[k]?=some (js[k]'(hlen ▸ hkl)):=List.getElem?_eq_getElem (hlen ▸ hkl)
  have hm:(c,js[k]'(hlen ▸ hkl))∈caps.zip js:=by
   refine List.mem_iff_getElem?.mpr ⟨k,?_⟩
   rw [List.getElem?_zip_eq_some]
   exact ⟨hk,hj⟩
  have:=List.all_eq_true.mp hcaps _ hm
  simp only [Bool.and_eq_true,beq_iff_eq] at this
  obtain ⟨⟨⟨q1,q2⟩,q3⟩,q4⟩:=this
  obtain ⟨a,ha⟩:=Option.isSome_iff_exists.mp q3
  exact ⟨_,a,hj,q1,q2,ha,q4⟩
section
variable {X:Cx}
def rInsert:V→List V→Hp→VK→Prop:=fun x vs H Q=>∃ (l:Addr) (xs:List V) (k:Nat) (y:V),x=.ref l∧vs=[.int k,y]∧H l=some (.lst xs)∧k≤xs.length∧xs.length < sizeLine∧Q .non (upd H l (.lst (xs.take k ++ y :: xs.drop k)))
theorem mt_insert:MtM X "list.insert" rInsert:=by
 intro pins s σ H x vs v us Q I rx rv h
 obtain ⟨l,xs,k,y,rfl,rfl,hH,hk,hz,q⟩:=h
 cases rx
 obtain ⟨u1,u2,rfl,⟨t,rfl⟩,r2⟩:=rv.two
 obtain ⟨z,its,n,r,hl,e⟩:=I.lstM hH
 have hn:=J65
 obtain ⟨x,hx⟩:∃ x:Int,x=(k:Int):=⟨_,rfl⟩
 rw [← hx]
 have hfit:¬ (!Builtin.List.listFitsIndex x)=true:=by
  rw [fitsIndex_both (by lia) (by lia)]
  exact Bool.false_ne_true
 have hsz:its.toArray.size≤sizeLine:=by rw [List.size_toArray,← hl];exact z
 refine call_meets F.slot_list_insert ⟨_,e,rfl⟩ F.entry_list_insert (F.args_list_insert_3 _ _ _) (PySem.AutoSeq1.list_insert_list_int_val_1 l its.toArray n x t u2 hfit hsz) ⟨e,?_⟩
 refine ⟨.non,_,I.lset (its':=its.take k ++ u2 :: its.drop k) hH e ?_ ((r.take k).append (.cons r2 (r.drop k))) ?_,rfl,q⟩
 ·have e1:(if x < 0 then (x + (its.toArray.size:Int)).toNat else min x.toNat its.toArray.size)=k:=by
   rw [if_neg (by lia),List.size_toArray]
   lia
  dsimp only
  rw [e1]
  apply Array.ext'
  simp
  rw [List.take_of_length_le (by rw [List.length_drop];exact Nat.le_refl _)]
 ·rw [List.length_append,List.length_cons,List.length_take,List.length_drop]
  lia
end
section
variable {X:Cx}
abbrev SqI (K:PySem.W.Frag) (H:Hp) (p:Addr) (xs:List V):Prop:=SqL K H p xs∨SqT K H p xs
theorem J39 {its:List Value} {ns:List Int} (hi:IntsAre its ns):∃ xs:Array (Int × Tok),its.toArray=intItems xs∧preSum (numAt xs) xs.size=ns.sum∧ns=xs.toList.map (·.1):=by
 obtain ⟨xs,hx⟩:=hi.allInts.items
 have e1:ns=xs.toList.map (·.1):=by
  rw [← nums_intItems,← hx]
  exact (show numsOf its.toArray.toList=ns from hi.numsOf).symm
 refine ⟨xs,hx,?_,e1⟩
 rw [preSum_eq,List.take_of_length_le (by simp),e1]
theorem J2r (hc:X.calm=true):CallR X (.builtin "sum") (fun xs H Q=>∃ (p:Addr) (ns:List Int),xs=[.ref p]∧SqI X.K H p (ns.map V.int)∧Q (.int ns.sum) H):=by
 intro pins s σ H xs us Q I r h
 obtain ⟨p,ns,rfl,hq,q⟩:=h
 obtain ⟨u,rfl,rx⟩:=vals1 r
 cases rx
 have hh:=I.ok.hd hc
 rcases hq with hq | hq
 ·obtain ⟨its,r',pl,hz⟩:=I.list hq
  obtain ⟨xs,hx,e2,_⟩:=J39 (J1g r')
  refine sum_intListG hh (hx ▸ pl.isList) fun h' tk t' hk=>?_
  rw [e2]
  exact ⟨.int ns.sum,H,I.kept hk,⟨t',rfl⟩,q⟩
 ·obtain ⟨its,r',pl,hz⟩:=I.tuple hq
  obtain ⟨xs,hx,e2,_⟩:=J39 (J1g r')
  refine PySem.W.ktm_sumG hh (hx ▸ (show s.heap.IsTuple p its.toArray from pl)) fun h' tk t' hk=>?_
  rw [e2]
  exact ⟨.int ns.sum,H,I.kept hk,⟨t',rfl⟩,q⟩
theorem J62 {prog:Program} {w:World} {A:Around} {E:Value→Shared→Prop} {s:Shared} {l:Addr} {xs:Array (Int × Tok)} {Q:Value→Shared→Prop} (hh:A.handled=none) (ht:s.heap.IsTuple l (intItems xs)) (hne:0 < xs.size)
  (h:∀ v h' tk,(intItems xs)[argBest (fun i j=>decide (numAt xs i < numAt xs j)) (xs.size - 1)]?=some v→(∀ b o,s.heap.get? b=some o→h'.get? b=some o)→Q v { s with heap:=h',toks:=tk }) :
  wpAny (model prog w) A (call (.builtin "min") [.ref l]) Q E s:=by
 obtain ⟨o,ho,hc,n,hd⟩:=id ht
 have hne':l≠s.heap.objs.size:=Nat.ne_of_lt (Heap.lt_size ho)
 refine call_min_walk (wpAny_pyIter_tuple ht ?_)
 refine ⟨s.heap.objs.size,_,_,_,_,_,_,rfl,Walks.tuple (A:=A.in1) hh _ l hne' (intItems xs),⟨⟨_,Heap.get?_push_size _ rfl,rfl,rfl⟩,ht.at fun o e=>Heap.get?_push_of_some _ e⟩,fun b hb=>?_,by simpa [intItems] using hne,CmpOf.ints_lt (numAt xs) (fun _ _=>intItems_at),fun v h' tk hP hk=>?_⟩
 ·rcases List.mem_cons.mp hb with rfl | hb
  ·exact Heap.lt_size (Heap.get?_push_size _ rfl)
  ·obtain rfl:=List.mem_singleton.mp hb
   exact Heap.lt_size (Heap.get?_push_of_some _ ho)
 ·refine h v h' tk (by simpa [intItems] using hP) fun b o e=>hk b o (fun hb=>absurd (Heap.lt_size e) ((List.mem_singleton.mp hb) ▸ Nat.lt_irrefl _)) (Heap.get?_push_of_some _ e)
theorem best_min {ns:List Int} {xs:Array (Int × Tok)} (hns:ns=xs.toList.map (·.1)) (hsz:0 < xs.size) :
  numAt xs (argBest (fun i j=>decide (numAt xs i < numAt xs j)) (xs.size - 1))∈ns∧∀ a∈ns,numAt xs (argBest (fun i j=>decide (numAt xs i < numAt xs j)) (xs.size - 1))≤a:=by
 obtain ⟨h1,h2⟩:=argBest_lt (numAt xs) (xs.size - 1)
 refine ⟨?_,fun a ha=>?_⟩
 ·rw [hns,numAt_eq];exact getD_mem (by rw [List.length_map,Array.length_toList];lia)
 ·rw [hns] at ha
  obtain ⟨j,hj,rfl⟩:=mem_getD ha
  rw [List.length_map,Array.length_toList] at hj
  rw [← numAt_eq];exact h2 j (by lia)
theorem call_min (hc:X.calm=true):CallR X (.builtin "min") (fun xs H Q=>∃ (p:Addr) (ns:List Int),xs=[.ref p]∧SqI X.K H p (ns.map V.int)∧0 < ns.length∧∀ M,M∈ns→(∀ a∈ns,M≤a)→Q (.int M) H):=by
 intro pins s σ H xs us Q I r h
 obtain ⟨p,ns,rfl,hq,hne,q⟩:=h
 obtain ⟨u,rfl,rx⟩:=vals1 r
 cases rx
 have hh:=I.ok.hd hc
 rcases hq with hq | hq
 ·obtain ⟨its,r',pl,hz⟩:=I.list hq
  obtain ⟨xs,hx,_,e1⟩:=J39 (J1g r')
  have hsz:0 < xs.size:=by rw [e1,List.length_map,Array.length_toList] at hne;exact hne
  refine min_intList hh (hx ▸ pl.isList) hsz fun v h' tk hv hk=>?_
  obtain ⟨t,rfl⟩:=intItems_at hv
  obtain ⟨b1,b2⟩:=best_min e1 hsz
  exact ⟨.int _,H,I.kept hk,⟨t,rfl⟩,q _ b1 b2⟩
 ·obtain ⟨its,r',pl,hz⟩:=I.tuple hq
  obtain ⟨xs,hx,_,e1⟩:=J39 (J1g r')
  have hsz:0 < xs.size:=by rw [e1,List.length_map,Array.length_toList] at hne;exact hne
  refine J62 hh (hx ▸ (show s.heap.IsTuple p its.toArray from pl)) hsz fun v h' tk hv hk=>?_
  obtain ⟨t,rfl⟩:=intItems_at hv
  obtain ⟨b1,b2⟩:=best_min e1 hsz
  exact ⟨.int _,H,I.kept hk,⟨t,rfl⟩,q _ b1 b2⟩
end
end L2
namespace L2
open PySem PySem.Spec PyProof.Rows
section
variable {prog:Program} {w:World} {A:Around} {E:Value→Shared→Prop} {s:Shared}
theorem J5h {l:Addr} {vs:List Value} {Q:List Value→Shared→Prop} (hl:s.heap.IsTuple l vs.toArray)
  (h:Q vs { s with heap:=(s.heap.push (seqObj "list" #[] 0)).update s.heap.objs.size (Obj.mapSeq (· ++ vs.toArray)) }) (hsz:vs.length≤sizeLine) :
  wpAny (model prog w) A (collect (.ref l)) Q E s:=by
 obtain ⟨o,ho,hc,n,hd⟩:=id hl
 unfold collect
 refine wpAny_bind (wpAny_runValue (codeAny_builtin entry_proto_collect' ?_))
 show wpAny _ _ (do again (.builtin "list.__iadd__" ⟨[← newList [],.ref l],[]⟩)) _ _ s
 refine wpAny_bind (wpAny_newList (wpAny_pure ⟨Code.quiet_builtin _ (by decide +kernel),codeAny_builtin entry_list_iadd' ?_⟩))
 show wpAny _ _ (Builtin.List.listExtendWith (.ref s.heap.objs.size) (.ref l) (.ref s.heap.objs.size)) _ _ { s with heap:=s.heap.push (seqObj "list" #[] 0) }
 unfold Builtin.List.listExtendWith
 have ho':(s.heap.push (seqObj "list" #[] 0)).get? l=some o:=Heap.get?_push_of_some _ ho
 refine wpAny_bind (wpAny_typeOf (T:="tuple") ⟨o,ho',hc⟩ ?_)
 have ht:(Value.type "tuple" == Value.type "tuple")=true:=by rfl
 rw [if_pos (by rw [ht];simp)]
 refine wpAny_bind (listItems_at ho' hd ?_)
 refine wpAny_bind (listItems_at (xs:=#[]) (n:=0) (Heap.get?_push_size _ rfl) rfl ?_)
 rw [if_neg (by simp)]
 refine wpAny_bind (listUpdate_at (xs:=#[]) (n:=0) (Heap.get?_push_size _ rfl) rfl ?_ (Nat.zero_le _) (by show (#[] ++ vs.toArray).size≤sizeLine + 1;simp only [Array.size_append,List.size_toArray,List.length_nil];lia))
 refine wpAny_pure ?_
 show wpAny (model prog w) A (do
   let o ← load s.heap.objs.size
   match o.data with
   | .seq xs _=>pure xs.toList
   | _=>unsupported "internal:collect") Q E { s with heap:=(s.heap.push (seqObj "list" #[] 0)).update s.heap.objs.size (Obj.mapSeq (· ++ vs.toArray)) }
 refine wpAny_bind (wpAny_load (get?_update_seq (Heap.get?_push_size _ rfl) _) ?_)
 show wpAny _ _ (pure ((#[]:Array Value) ++ vs.toArray).toList) Q E _
 rw [show ((#[]:Array Value) ++ vs.toArray).toList=vs by simp]
 exact wpAny_pure h
theorem J5q {l:Addr} {vs:List Value} {ns:List Int} {Q:Value→Shared→Prop} (hl:s.heap.IsTuple l vs.toArray) (hI:IntsAre vs ns) (h64:vs.length < 64)
  (h:∀ (out:Array Value) (ns':List Int),IntsAre out.toList ns'→ns'.Perm ns→ns'.Pairwise (·≤·)→Q (.ref (s.heap.objs.size + 1)) { s with heap:=sortedAll s.heap vs out }) :
  wpAny (model prog w) A (call (.builtin "sorted") [.ref l]) Q E s:=by
 refine Calls.call_function_entry kind_sorted plain_sorted entry_sorted (args_sorted1 _) ?_
 unfold Builtin.«sorted»
 refine wpAny_bind (m:=checkCount "sorted" 1 1 _) (wpAny_pure ?_)
 refine wpAny_bind (J5h hl ?_ (Nat.le_of_lt (Nat.lt_of_lt_of_le h64 (by rw [sizeLine_eq];decide))))
 refine wpAny_bind (wpAny_newList ?_)
 have hsz:((s.heap.push (seqObj "list" #[] 0)).update s.heap.objs.size (Obj.mapSeq (· ++ vs.toArray))).objs.size=s.heap.objs.size + 1:=by
  rw [Heap.size_update,size_push']
 have hoL:(((s.heap.push (seqObj "list" #[] 0)).update s.heap.objs.size (Obj.mapSeq (· ++ vs.toArray))).push (seqObj "list" vs.toArray 0)).get? (s.heap.objs.size + 1)=some (seqObj "list" vs.toArray 0):=by
  rw [← hsz];exact Heap.get?_push_size _ rfl
 show wpAny _ _ _ _ _ { s with heap:=((s.heap.push (seqObj "list" #[] 0)).update s.heap.objs.size (Obj.mapSeq (· ++ vs.toArray))).push (seqObj "list" vs.toArray 0) }
 rw [hsz]
 refine wpAny_bind (wpAny_holding (wpAny_call_entry slot_list_sort ⟨_,hoL,rfl⟩ entry_list_sort (list_sort_tree hoL hI h64 fun out ns' a1 a2 a3=>⟨_,rfl,?_⟩) (args_list_sort _)))
 exact wpAny_pure ⟨_,rfl,h out ns' a1 a2 a3⟩
end
section
variable {X:Cx}
theorem call_sorted:CallR X (.builtin "sorted") (fun xs H Q=>∃ (p:Addr) (ns:List Int),xs=[.ref p]∧SqI X.K H p (ns.map V.int)∧ns.length < 64∧∀ l (ns':List Int),H l=none→ns'.Perm ns→ns'.Pairwise (·≤·)→Q (.ref l) (upd H l (.lst (ns'.map V.int)))):=by
 intro pins s σ H xs us Q I r h
 obtain ⟨p,ns,rfl,hq,h64,q⟩:=h
 obtain ⟨u,rfl,rx⟩:=vals1 r
 cases rx
 have fin:∀ (its:List Value) (out:Array Value) (ns':List Int),IntsAre out.toList ns'→ns'.Perm ns→ns'.Pairwise (·≤·)→EP X pins σ Q (.ref (s.heap.objs.size + 1)) { s with heap:=sortedAll s.heap its out }:=fun its out ns' a1 a2 a3=>by
  obtain ⟨e,he⟩:=sortedAll_at s.heap its out
  have hz:(ns'.map V.int).length≤sizeLine:=by
   rw [List.length_map,a2.length_eq]
   exact Nat.le_of_lt (Jx (by lia))
  refine ⟨.ref _,_,I.laid (t':=s.toks) (a:=s.heap.objs.size + 1) (o:=.lst (ns'.map V.int)) (fun b o e=>sortedAll_old e) (Nat.le_succ _) ⟨hz,out.toList,e,J4e a1,he⟩,rfl,q _ ns' (I.hok.fresh (Nat.le_succ _)) a2 a3⟩
 rcases hq with hq | hq
 ·obtain ⟨its,r',pl,hz⟩:=I.list hq
  have hl:=r'.length
  rw [List.length_map] at hl
  exact sorted_ints pl.isList (J1g r') (by lia) (fin its)
 ·obtain ⟨its,r',pl,hz⟩:=I.tuple hq
  have hl:=r'.length
  rw [List.length_map] at hl
  exact J5q (show s.heap.IsTuple p its.toArray from pl) (J1g r') (by lia) (fin its)
theorem J6b:CallR X (.type "range") (fun xs H Q=>∃ j:Int,xs=[.int j]∧∀ r,H r=none→Q (.ref r) (upd H r (.rng 0 j))):=by
 intro pins s σ H xs us Q I r h
 obtain ⟨j,rfl,q⟩:=h
 obtain ⟨u,rfl,t,rfl⟩:=vals1 r
 refine call_range_1 ?_
 exact ⟨.ref s.heap.objs.size,_,I.laid (o:=.rng 0 j) (fun b o e=>Heap.get?_push_of_some _ e) (Nat.le_refl _) ⟨_,_,_,Heap.get?_push_size _ rfl⟩,rfl,q _ (I.hok.fresh (Nat.le_refl _))⟩
theorem J3b {f:Nat→Int}:∀ {n:Nat} {us:List Value},us.length=n→(∀ (i:Nat) (v:Value),us[i]?=some v→∃ t,v=Value.int (f i) t)→Vals ((List.range n).map fun i=>V.int (f i)) us:=by
 intro n us hl h
 induction n generalizing f us with
 | zero=>cases us with
  | nil=>exact .nil
  | cons a r=>simp at hl
 | succ n ih=>cases us with
  | nil=>simp at hl
  | cons a r =>
   obtain ⟨t,e⟩:=h 0 a rfl
   subst e
   rw [List.range_succ_eq_map,List.map_cons,List.map_map]
   exact .cons ⟨t,rfl⟩ (ih (f:=fun i=>f (i + 1)) (by simpa using hl) fun i v e=>h (i + 1) v (by simpa using e))
theorem J3e (hc:X.calm=true):CallR X (.type "list") (fun xs H Q=>∃ (r:Addr) (n:Nat),xs=[.ref r]∧H r=some (.rng 0 (n:Int))∧n≤1000∧∀ l,H l=none→Q (.ref l) (upd H l (.lst (((List.range n).map fun (i:Nat)=>(i:Int)).map V.int)))):=by
 intro pins s σ H xs us Q I r h
 obtain ⟨p,n,rfl,hq,hn,q⟩:=h
 simp only [List.map_map,Function.comp_def] at q
 obtain ⟨u,rfl,rx⟩:=vals1 r
 cases rx
 obtain ⟨t,u,v,e⟩:=I.hok p _ hq
 refine call_list_range (I.ok.hd hc) (show IsRange s.heap p 0 (n:Int) 1 t u v from e) (small_one (by lia) (by lia) (by lia) (by lia)) (by rw [rangeSize_one];split <;> lia) (n:=n) (by lia) fun h' tk acc' c' hk hS' hacc=>?_
 have hv:Vals ((List.range n).map fun (i:Nat)=>V.int (i:Int)) acc'.toList:=J3b (by rw [Array.length_toList];exact hacc.1) fun i v e=>by
  obtain ⟨t,rfl⟩:=hacc.2 i v (by simpa using e)
  exact ⟨t,by simp⟩
 refine ⟨.ref s.heap.objs.size,_,I.laid (o:=.lst ((List.range n).map fun (i:Nat)=>V.int (i:Int))) hk (Nat.le_refl _) ⟨?_,acc'.toList,c',hv,by simpa using hS'⟩,rfl,q _ (I.hok.fresh (Nat.le_refl _))⟩
 rw [List.length_map,List.length_range]
 exact Nat.le_of_lt (Jx hn)
def Kin (xs ys:List V):Prop:=∀ a∈xs,∀ b∈ys,flatV a=true∧flatV b=true∧eqV a b=decide (a=b)
theorem Kin.ints (ns ms:List Int):Kin (ns.map V.int) (ms.map V.int):=fun a ha b hb=>by
 obtain ⟨i,_,rfl⟩:=List.mem_map.mp ha
 obtain ⟨j,_,rfl⟩:=List.mem_map.mp hb
 refine ⟨rfl,rfl,?_⟩
 show (i == j)=decide (V.int i=V.int j)
 by_cases e:i=j
 ·subst e;simp
 ·rw [decide_eq_false (fun h=>e (V.int.inj h))];simpa using e
theorem Kin.bls (ns ms:List Bool):Kin (ns.map V.bl) (ms.map V.bl):=fun a ha b hb=>by
 obtain ⟨i,_,rfl⟩:=List.mem_map.mp ha
 obtain ⟨j,_,rfl⟩:=List.mem_map.mp hb
 refine ⟨rfl,rfl,?_⟩
 show (i == j)=decide (V.bl i=V.bl j)
 cases i <;> cases j <;> rfl
def eAt (xs ys:List V) (j:Nat):Bool:=match xs[j]?,ys[j]? with
 | some a,some b=>eqV a b
 | _,_=>true
theorem all_eAt {xs ys:List V} (hl:xs.length=ys.length) (hk:Kin xs ys):((List.range xs.length).all (eAt xs ys))=decide (xs=ys):=by
 rw [Bool.eq_iff_iff,List.all_eq_true,decide_eq_true_iff]
 constructor
 ·intro h
  apply List.ext_getElem?
  intro j
  by_cases hj:j < xs.length
  ·have h1:xs[j]?=some xs[j]:=List.getElem?_eq_getElem hj
   have h2:ys[j]?=some (ys[j]'(hl ▸ hj)):=List.getElem?_eq_getElem (hl ▸ hj)
   have:=h j (List.mem_range.mpr hj)
   unfold eAt at this
   rw [h1,h2] at this
   have k:=(hk _ (List.getElem_mem hj) _ (List.getElem_mem (hl ▸ hj))).2.2
   have this:eqV xs[j] (ys[j]'(hl ▸ hj))=true:=this
   rw [k,decide_eq_true_iff] at this
   rw [h1,h2,this]
  ·rw [List.getElem?_eq_none (by lia),List.getElem?_eq_none (by lia)]
 ·rintro rfl j hj
  have hj':=List.mem_range.mp hj
  unfold eAt
  rw [List.getElem?_eq_getElem hj']
  have k:=(hk _ (List.getElem_mem hj') _ (List.getElem_mem hj')).2.2
  show eqV _ _=true
  rw [k];simp
theorem eAt_at {A:Around} {s:Shared} {xs ys:List V} {its its2:List Value} (r:Vals xs its) (r2:Vals ys its2) (hk:Kin xs ys) (j:Nat) (h1:j < its.toArray.size) (h2:j < its2.toArray.size):SeqAt.EqAt A s its.toArray[j] its2.toArray[j] (eAt xs ys j):=by
 have l1:=r.length
 have l2:=r2.length
 rw [List.size_toArray] at h1 h2
 have g1:xs[j]?=some (xs[j]'(by lia)):=List.getElem?_eq_getElem (by lia)
 have g2:ys[j]?=some (ys[j]'(by lia)):=List.getElem?_eq_getElem (by lia)
 obtain ⟨u,e1,ru⟩:=r.get g1
 obtain ⟨v,e2,rv⟩:=r2.get g2
 have e1':its.toArray[j]=u:=by
  have:=List.getElem?_eq_getElem h1
  rw [e1] at this
  simpa using (Option.some.inj this).symm
 have e2':its2.toArray[j]=v:=by
  have:=List.getElem?_eq_getElem h2
  rw [e2] at this
  simpa using (Option.some.inj this).symm
 obtain ⟨f1,f2,_⟩:=hk _ (List.getElem_mem (by lia:j < xs.length)) _ (List.getElem_mem (by lia:j < ys.length))
 unfold eAt
 rw [g1,g2,e1',e2']
 exact eqAt_V ru rv f1 f2
def rEqL (K:PySem.W.Frag):R2:=fun x y H Q=>∃ p q xs ys,x=.ref p∧y=.ref q∧SqL K H p xs∧SqL K H q ys∧Kin xs ys∧Q (.bl (decide (xs=ys))) H
def rNeL (K:PySem.W.Frag):R2:=fun x y H Q=>∃ p q xs ys,x=.ref p∧y=.ref q∧SqL K H p xs∧SqL K H q ys∧Kin xs ys∧Q (.bl (!decide (xs=ys))) H
theorem op_eqL (hu:X.A.units < cLine):OpR X (compareOp .Eq) (rEqL X.K):=by
 intro pins s σ H x y v u Q I rx ry h
 obtain ⟨p,q,xs,ys,rfl,rfl,hp,hq,hk,hQ⟩:=h
 cases rx
 cases ry
 obtain ⟨its,r,pl,_⟩:=I.list hp
 obtain ⟨its2,r2,pl2,_⟩:=I.list hq
 have l1:=r.length
 have l2:=r2.length
 by_cases hl:xs.length=ys.length
 ·refine SeqAt.eq_listAt pl.isList pl2.isList (by rw [List.size_toArray,List.size_toArray];lia) hu (fun j h1 h2=>eAt_at r r2 hk j h1 h2) ?_
  rw [List.size_toArray,← l1,all_eAt hl hk]
  exact ⟨.bl _,H,I,rfl,hQ⟩
 ·refine SeqAt.eq_list_lengthsAt pl.isList pl2.isList (by rw [List.size_toArray,List.size_toArray];simp;lia) hu ?_
  rw [decide_eq_false (fun e=>hl (congrArg List.length e))] at hQ
  exact ⟨.bl false,H,I,rfl,hQ⟩
theorem op_neL (hu:X.A.units < cLine):OpR X (compareOp .NotEq) (rNeL X.K):=by
 intro pins s σ H x y v u Q I rx ry h
 obtain ⟨p,q,xs,ys,rfl,rfl,hp,hq,hk,hQ⟩:=h
 cases rx
 cases ry
 obtain ⟨its,r,pl,_⟩:=I.list hp
 obtain ⟨its2,r2,pl2,_⟩:=I.list hq
 have l1:=r.length
 have l2:=r2.length
 by_cases hl:xs.length=ys.length
 ·refine SeqAt.RcNeAt.lists pl.isList pl2.isList (by rw [List.size_toArray,List.size_toArray];lia) hu (fun j h1 h2=>eAt_at r r2 hk j h1 h2) _ _ _ _ ?_
  rw [List.size_toArray,← l1,all_eAt hl hk]
  exact ⟨.bl _,H,I,rfl,hQ⟩
 ·refine SeqAt.RcNeAt.lists_lengths pl.isList pl2.isList (by rw [List.size_toArray,List.size_toArray];simp;lia) hu _ _ _ _ ?_
  rw [decide_eq_false (fun e=>hl (congrArg List.length e))] at hQ
  exact ⟨.bl true,H,I,rfl,hQ⟩
theorem Jr {f:Value} (hf:f=.builtin "isinstance"):CallR X f (fun xs H Q=>∃ (x c:V) (t cv:Value) (b:Bool),xs=[x,c]∧RelV c cv∧(∀ v,RelV c v→v=cv)∧TyOf X.K H x t∧PySem.W.kitOne X.K t cv=some b∧Q (.bl b) H):=by
 subst hf
 intro pins s σ H xs us Q I r h
 obtain ⟨x,c,t,cv,b,rfl,rc,uc,ty,e,q⟩:=h
 obtain ⟨u,v,rfl,ru,rv⟩:=vals2 r
 obtain rfl:=uc v rv
 exact isinst_ok I ru ty e fun tk=>⟨.bl b,H,I.tok tk,rfl,q⟩
end
end L2
namespace L2
open PySem PySem.Spec PyProof.Rows
theorem J3n:fillsNumberSlot (.type "tuple") "mul"=pure false :=
 PySem.fillsNumberSlot_seq (id:="tuple.__mul__") (r:=some (.builtin "tuple.__rmul__")) F.slot_tuple_mul.lookup (by decide +kernel) F.slot_tuple_rmul.lookup (by decide +kernel)
theorem J5t:seqRepeat? (.type "tuple")=pure (some (.builtin "tuple.__mul__")):=by
 unfold seqRepeat?
 rw [PySem.seqSlot_of (T:="tuple") (name:="__mul__") (id:="tuple.__mul__") F.slot_tuple_mul.lookup (by decide +kernel),PySem.seqSlot_of (T:="tuple") (name:="__rmul__") (id:="tuple.__rmul__") F.slot_tuple_rmul.lookup (by decide +kernel)]
 rfl
theorem J4x (a:Int) (t:Tok) (l:Addr) (items:Array Value) (n:Nat) (dd:Option Addr) (sl:Array (Option Value)) :
  Meets (Builtin.«int.__rmul__» ⟨[.int a t,.ref l],[]⟩) (fun _ R s=>s.heap.get? l=some { cls:=.type "tuple",dict:=dd,data:=.seq items n,slots:=sl }∧R (.ok (.ret Value.notImplemented)) s) :=
 .of_wp fun prog w A R s h=>by obtain ⟨hp,g,d,tk,os⟩:=s;obtain ⟨hl,h⟩:=h;wp_walk;exact ⟨_,rfl,h⟩
theorem tuple_mulW1 (l:Addr) (items:Array Value) (n:Nat) (dd:Option Addr) (sl:Array (Option Value)) (t:Tok) :
  Meets (Builtin.«tuple.__mul__» ⟨[.ref l,.int 1 t],[]⟩) (fun _ R s=>s.heap.get? l=some { cls:=.type "tuple",dict:=dd,data:=.seq items n,slots:=sl }∧R (.ok (.ret (.ref l))) { s with heap:=s.heap,toks:=s.toks }) :=
 .of_wp fun prog w A R s h=>by
  obtain ⟨hp,g,d,tk,os⟩:=s;obtain ⟨hl,h⟩:=h
  have f1:=AutoSeq1.idx_int;have f2:=AutoSeq1.sub_tuple_tuple
  wp_walk using AutoSeq1.wpAny_loadPart' hl;exact ⟨_,rfl,h⟩
theorem tuple_mulWn (l:Addr) (items:Array Value) (n:Nat) (dd:Option Addr) (sl:Array (Option Value)) (k:Int) (t:Tok) (h1:1 < k) (h2:k < 2 ^ 63) (hne:items.isEmpty=false) (hsz:items.size * k.toNat≤sizeLine) :
  Meets (Builtin.«tuple.__mul__» ⟨[.ref l,.int k t],[]⟩) (fun _ R s=>s.heap.get? l=some { cls:=.type "tuple",dict:=dd,data:=.seq items n,slots:=sl }∧
   R (.ok (.ret (.ref s.heap.objs.size))) { s with heap:=s.heap.push { cls:=.type "tuple",data:=.seq ((List.replicate k.toNat items).foldl (· ++ ·) #[]) },toks:=s.toks }) :=
 .of_wp fun prog w A R s h=>by
  obtain ⟨hp,g,d,tk,os⟩:=s;obtain ⟨hl,h⟩:=h
  have f1:=AutoSeq1.idx_int;have f2:=AutoSeq1.sub_tuple_tuple
  have c1:¬ (decide (k < -(2 ^ 63)) || decide (k≥2 ^ 63))=true:=by simp;lia
  have c2:¬ (items.isEmpty || k == 1)=true:=by rw [hne];simp;lia
  have c3:¬ (decide (k≤0) || items.isEmpty)=true:=by rw [hne];simp;lia
  have ek:(items.size:Int) * k=((items.size * k.toNat:Nat):Int):=by
   rw [Int.natCast_mul,Int.toNat_of_nonneg (by lia)]
  have hs0:(sizeLine:Nat)≤(2 ^ 63 - 1) / 8:=by decide
  have c4:¬ ((items.size:Int) * k > (2 ^ 63 - 1) / 8):=by rw [ek];lia
  have c5:¬ Builtin.Tuple.tupleTooMany ((items.size:Int) * k)=true:=by
   unfold Builtin.Tuple.tupleTooMany
   rw [ek,decide_eq_true_iff];lia
  have hsz2:((List.replicate k.toNat items).foldl (· ++ ·) #[]).size≤sizeLine:=by
   rw [AutoSeq1.size_joined];simp;rw [Nat.mul_comm];exact hsz
  wp_walk using AutoSeq1.wpAny_loadPart' hl
  refine wpAny_ite_false (decide_eq_false c1) ?_
  wp_walk using AutoSeq1.wpAny_loadPart' hl
  refine wpAny_ite_false (decide_eq_false c2) ?_
  refine wpAny_ite_false (decide_eq_false c3) ?_
  refine wpAny_ite_false (decide_eq_false c4) ?_
  refine wpAny_ite_false (decide_eq_false c5) ?_
  wp_walk using AutoSeq1.wpAny_loadPart' hl
  exact ⟨_,rfl,h⟩
section
variable {X:Cx}
def rRepT:R2:=fun x y H Q=>∃ (l:Addr) (k:Int) (xs:List V),x=.ref l∧y=.int k∧H l=some (.tup xs)∧xs≠[]∧1≤k∧k < 2 ^ 63∧xs.length * k.toNat≤sizeLine∧(k=1→Q (.ref l) H)∧(1 < k→∀ p,H p=none→Q (.ref p) (upd H p (.tup (List.replicate k.toNat xs).flatten)))
theorem op_repT:OpR X (binaryOp .Mult) rRepT:=by
 intro pins s σ H x y v u Q I rx ry h
 obtain ⟨l,k,xs,rfl,rfl,hH,hne,h1,h2,hz,q1,q2⟩:=h
 cases rx
 obtain ⟨t,rfl⟩:=ry
 obtain ⟨its,r,pl,hz'⟩:=I.tuple (SqT.of hH)
 obtain ⟨⟨cls,dd,data,sl⟩,ho,hc,n,hd⟩:=id pl
 simp only at hc hd
 subst hc hd
 have hl:=r.length
 refine wpAny_binaryOp_repeat_ref (T:="tuple") (U:="int") (by decide) ⟨_,ho,rfl⟩ (fun s'=>typeIs_int s' k t) J3n F.fills_int_mul F.slot_int_rmul J5t F.slot_int_index.lookup
  (call_meets F.slot_int_rmul (typeIs_int s k t) F.entry_int_rmul (F.args_int_rmul_2 _ _) (J4x k t l its.toArray n dd sl) ⟨ho,rfl,⟨_,ho,rfl⟩,?_⟩)
 by_cases e:k=1
 ·subst e
  exact call_meets F.slot_tuple_mul ⟨_,ho,rfl⟩ F.entry_tuple_mul (F.args_tuple_mul_2 _ _) (tuple_mulW1 l its.toArray n dd sl t) ⟨ho,⟨.ref l,H,I,rfl,q1 rfl⟩⟩
 ·have hni:its.toArray.isEmpty=false:=by
   cases its with
   | nil=>exact absurd (List.length_eq_zero_iff.mp (by simpa using hl)) hne
   | cons a r'=>rfl
  refine call_meets F.slot_tuple_mul ⟨_,ho,rfl⟩ F.entry_tuple_mul (F.args_tuple_mul_2 _ _) (tuple_mulWn l its.toArray n dd sl k t (by lia) h2 hni (by rw [List.size_toArray,← hl];exact hz)) ⟨ho,?_⟩
  have hnew:List.foldl (fun x1 x2=>x1 ++ x2) #[] (List.replicate k.toNat its.toArray)=(List.replicate k.toNat its).flatten.toArray:=by
   have:=J4y its k.toNat []
   rw [List.nil_append] at this
   exact this
  rw [hnew]
  refine ⟨.ref _,_,I.laid (t':=s.toks) (o:=.tup (List.replicate k.toNat xs).flatten) (fun b ob q=>Heap.get?_push_of_some _ q) (Nat.le_refl _) ⟨?_,_,r.rep k.toNat,⟨_,Heap.get?_push_size _ rfl,⟨rfl,rfl⟩,_,rfl⟩⟩,rfl,q2 (by lia) _ (I.hok.fresh (Nat.le_refl _))⟩
  rw [len_rep,Nat.mul_comm]
  exact hz
end
section
variable {X:Cx}
@[irreducible] def rTup (K:PySem.W.Frag):List V→Hp→VK→Prop:=fun xs H Q=>∃ p ys,xs=[.ref p]∧((SqL K H p ys∧∀ l,H l=none→Q (.ref l) (upd H l (.tup ys)))∨(SqT K H p ys∧Q (.ref p) H))
theorem J3s:CallR X (.type "tuple") (rTup X.K):=by
 unfold rTup
 exact J5j
end
end L2
namespace L2
open PySem PySem.Spec PyProof.Rows
section
variable {prog:Program} {w:World} {A:Around} {E:Value→Shared→Prop} {z:Shared}
theorem J3x {nu tu:Addr} {j:Nat} {xs:Array Value} {y:Value} {Q:Value→Shared→Prop} (hn:z.heap.IsTupleIter nu tu j) (ht:z.heap.IsTuple tu xs) (hy:xs[j]?=some y)
  (hQ:∀ g,g.IsTupleIter nu tu (j + 1)→Heap.SameBut nu z.heap g→Q y { z with heap:=g }):wpAny (model prog w) A (Builtin.SmallTypes.nextOf (.ref nu)) Q E z:=by
 obtain ⟨on,hon,cn,dn⟩:=id hn
 obtain ⟨ot,hot,_,nt,dt⟩:=ht
 unfold Builtin.SmallTypes.nextOf
 refine wpAny_bind (wpAny_callSpecial?_slot (name:=Str.ofString "__next__") hn.typeIs F.slot_tuple_iterator_next (wpAny_call_entry F.slot_tuple_iterator_next hn.typeIs F.entry_tuple_iterator_next ?_ (F.args_tuple_iterator_next_1 _)))
 show wpAny _ _ (field (.ref nu) 0 >>= _) _ _ z
 refine wpAny_bind (wpAny_field hon dn (x:=.ref tu) rfl ?_)
 show wpAny _ _ (if (Value.ref tu == Value.none)=true then _ else _) _ _ z
 rw [if_neg (show ¬ ((Value.ref tu == Value.none)=true) from Bool.false_ne_true)]
 show wpAny _ _ (field (.ref nu) 1 >>= _) _ _ z
 refine wpAny_bind (wpAny_field hon dn (x:=.int j 0) rfl ?_)
 show wpAny _ _ (seqItems? (.ref tu) >>= _) _ _ z
 refine wpAny_bind (wpAny_seqItems hot dt ?_)
 simp only [Int.toNat_natCast,hy]
 refine wpAny_bind (wpAny_setField hon dn (by simp) (wpAny_pure ⟨y,rfl,wpAny_pure (hQ _ ?_ (Heap.SameBut.update ..))⟩))
 exact ⟨_,Heap.get?_update_self _ hon (Obj.isFreed_of_fields (Obj.data_mapFields dn _)),(Obj.cls_mapFields ..).trans cn,by rw [Obj.data_mapFields dn];simp [rawInt]⟩
theorem J4q {nu tu:Addr} {j:Nat} {xs:Array Value} {Q:Value→Shared→Prop} (hh:A.handled=none) (hn:z.heap.IsTupleIter nu tu j) (ht:z.heap.IsTuple tu xs) (hy:xs[j]?=none)
  (hE:∀ g e,Heap.ExtBut nu z.heap g→(∃ o,g.get? e=some o∧o.cls=.type "StopIteration")→E (.ref e) { z with heap:=g }):wpAny (model prog w) A (Builtin.SmallTypes.nextOf (.ref nu)) Q E z:=by
 obtain ⟨on,hon,cn,dn⟩:=id hn
 obtain ⟨ot,hot,_,nt,dt⟩:=ht
 unfold Builtin.SmallTypes.nextOf
 refine wpAny_bind (wpAny_callSpecial?_slot (name:=Str.ofString "__next__") hn.typeIs F.slot_tuple_iterator_next (wpAny_call_entry F.slot_tuple_iterator_next hn.typeIs F.entry_tuple_iterator_next ?_ (F.args_tuple_iterator_next_1 _)))
 show wpAny _ _ (field (.ref nu) 0 >>= _) _ _ z
 refine wpAny_bind (wpAny_field hon dn (x:=.ref tu) rfl ?_)
 show wpAny _ _ (if (Value.ref tu == Value.none)=true then _ else _) _ _ z
 rw [if_neg (show ¬ ((Value.ref tu == Value.none)=true) from Bool.false_ne_true)]
 show wpAny _ _ (field (.ref nu) 1 >>= _) _ _ z
 refine wpAny_bind (wpAny_field hon dn (x:=.int j 0) rfl ?_)
 show wpAny _ _ (seqItems? (.ref tu) >>= _) _ _ z
 refine wpAny_bind (wpAny_seqItems hot dt ?_)
 simp only [Int.toNat_natCast,hy]
 refine wpAny_bind (wpAny_rule (wpAny_bind (wpAny_setField hon dn (by simp) ?_)))
 show wpAny _ _ (newExc (.type "StopIteration") [] >>= _) _ _ _
 refine wpAny_bind ?_
 simp only [newExc,newTuple]
 refine wpAny_bind (wpAny_newObj_type ?_ (by size_fits))
 refine wpAny_bind (m:=firstArgMember _ _) (wpAny_of_eq (a:=Value.none) (by first | rfl | (simp only [firstArgMember];rfl)) ?_)
 refine wpAny_newObj_type ?_ (by size_fits)
 simp only [raiseNew]
 refine wpAny_bind (wpAny_handled ?_)
 first | rw [show A.in1.handled=none from hh] | rw [hh]
 refine wpAny_bind (wpAny_pure (wpAny_throw ?_))
 exact hE _ _ (((Heap.SameBut.update ..).extBut.push _).push _) ⟨_,Heap.get?_push_size _ rfl,rfl⟩
theorem enum_turn {en nu:Addr} {j:Nat} {y old:Value} {St:Heap→Prop} {Q:Value→Shared→Prop} (he:IsEnum z.heap en nu j old) (hne:en≠nu) (keepSt:∀ g g':Heap,St g→(∀ o,g.get? nu=some o→g'.get? nu=some o)→St g')
  (NX:∀ (A':Around) (E':Value→Shared→Prop) (Q':Value→Shared→Prop),(∀ g,St g→Heap.SameBut nu z.heap g→Q' y { z with heap:=g })→wpAny (model prog w) A' (Builtin.SmallTypes.nextOf (.ref nu)) Q' E' z)
  (hQ:∀ g,IsEnumOut g en nu ((j:Int) + 1) y z.heap.objs.size→St g→g.get? z.heap.objs.size=some { cls:=.type "tuple",data:=.seq #[.int j z.toks,y] }→g.objs.size=z.heap.objs.size + 1→
   (∀ b o,b≠en→b≠nu→z.heap.get? b=some o→g.get? b=some o)→Q (.ref z.heap.objs.size) { z with heap:=g,toks:=z.toks + 1 }) :
  wpAny (model prog w) A (Builtin.«enumerate.__next__» ⟨[.ref en],[]⟩) (fun fin s'=>∃ v,fin=.done (.ret v)∧Q v s') E z:=by
 obtain ⟨hp,gg,d,tk,os⟩:=z
 show wpAny _ _ (field (.ref en) 2 >>= _) _ _ _
 refine wpAny_bind (wpAny_field he rfl (x:=.ref nu) rfl (wpAny_bind (NX _ _ _ fun g₁ st₁ sb₁=>?_)))
 have sb₁:Heap.SameBut nu hp g₁:=sb₁
 have e₁:IsEnum g₁ en nu j old:=(sb₁.2 en hne).trans he
 show wpAny _ _ (field (.ref en) 3 >>= _) _ _ ⟨g₁,gg,d,tk,os⟩
 refine wpAny_bind (wpAny_field e₁ rfl (x:=rawInt j) rfl ?_)
 show wpAny _ _ (field (.ref en) 4 >>= _) _ _ ⟨g₁,gg,d,tk,os⟩
 refine wpAny_bind (wpAny_field e₁ rfl (x:=.none) rfl ?_)
 show wpAny _ _ (mkInt j >>= _) _ _ ⟨g₁,gg,d,tk,os⟩
 refine wpAny_bind (wpAny_mkInt ?_)
 show wpAny _ _ (setField (.ref en) 3 (rawInt ((j:Int) + 1)) >>= _) _ _ ⟨g₁,gg,d,tk + 1,os⟩
 refine wpAny_bind (wpAny_setField_rec e₁ (by simp) fun g₂ e₂ sb₂=>?_)
 have sb₂:Heap.SameBut en g₁ g₂:=sb₂
 have e₂:IsEnum g₂ en nu ((j:Int) + 1) old:=e₂
 show wpAny _ _ (setField (.ref en) 4 .none >>= _) _ _ ⟨g₂,gg,d,tk + 1,os⟩
 refine wpAny_bind (wpAny_setField_rec e₂ (by simp) fun g₃ e₃ sb₃=>?_)
 have sb₃:Heap.SameBut en g₂ g₃:=sb₃
 have e₃:IsEnum g₃ en nu ((j:Int) + 1) old:=e₃
 show wpAny _ _ (newTuple [.int j tk,y] >>= _) _ _ ⟨g₃,gg,d,tk + 1,os⟩
 refine wpAny_bind (wpAny_newTuple ?_)
 have st₃:St g₃:=keepSt _ _ st₁ fun o e=>sb₃.extBut _ _ (Ne.symm hne) (sb₂.extBut _ _ (Ne.symm hne) e)
 have e₄:IsEnum (g₃.push { cls:=.type "tuple",data:=.seq #[.int j tk,y] }) en nu ((j:Int) + 1) old:=Heap.get?_push_of_some _ e₃
 have st₄:St (g₃.push { cls:=.type "tuple",data:=.seq #[.int j tk,y] }):=keepSt _ _ st₃ fun o e=>Heap.get?_push_of_some _ e
 have hz:g₃.objs.size=hp.objs.size:=by rw [sb₃.1,sb₂.1,sb₁.1]
 have hel:en < hp.objs.size:=Heap.lt_size he
 have t₄:(g₃.push { cls:=.type "tuple",data:=.seq #[.int j tk,y] }).get? hp.objs.size=some { cls:=.type "tuple",data:=.seq #[.int j tk,y] }:=by rw [← hz];exact Heap.get?_push_size _ rfl
 have z₄:(g₃.push { cls:=.type "tuple",data:=.seq #[.int j tk,y] }).objs.size=hp.objs.size + 1:=by rw [Heap.size_push,hz]
 have k₄:∀ b o,b≠en→b≠nu→hp.get? b=some o→(g₃.push { cls:=.type "tuple",data:=.seq #[.int j tk,y] }).get? b=some o:=fun b o h1 h2 e =>
  Heap.get?_push_of_some _ (sb₃.extBut b o h1 (sb₂.extBut b o h1 (sb₁.extBut b o h2 e)))
 generalize g₃.push { cls:=.type "tuple",data:=.seq #[.int j tk,y] }=g₄ at e₄ st₄ t₄ z₄ k₄
 show wpAny _ _ (Builtin.SmallTypes.ownedTupleIsFree (.ref en) >>= _) _ _ ⟨g₄,gg,d,tk + 1,os⟩
 rw [hz]
 refine wpAny_bind ?_
 ·unfold Builtin.SmallTypes.ownedTupleIsFree
  refine wpAny_bind (wpAny_field e₄ rfl (x:=.none) rfl (wpAny_pure ?_))
  simp only [if_true]
  refine wpAny_bind (wpAny_rule (wpAny_bind (wpAny_field e₄ rfl (x:=old) rfl (wpAny_bind (wpAny_setField_rec e₄ (by simp) fun g₅ e₅ sb₅=>?_)))))
  have sb₅:Heap.SameBut en g₄ g₅:=sb₅
  have e₅:IsEnum g₅ en nu ((j:Int) + 1) y:=e₅
  show wpAny _ _ (Builtin.SmallTypes.ownedTupleHandOut (.ref en) (.ref hp.objs.size) >>= _) _ _ ⟨g₅,gg,d,tk + 1,os⟩
  refine wpAny_bind ?_
  ·unfold Builtin.SmallTypes.ownedTupleHandOut
   refine wpAny_bind (wpAny_setField_rec e₅ (by simp) fun g₆ e₆ sb₆=>?_)
   have sb₆:Heap.SameBut en g₅ g₆:=sb₆
   have e₆:IsEnumOut g₆ en nu ((j:Int) + 1) y hp.objs.size:=e₆
   refine wpAny_setField_rec e₆ (by simp) fun g₇ e₇ sb₇=>?_
   have sb₇:Heap.SameBut en g₆ g₇:=sb₇
   have e₇:IsEnumOut g₇ en nu ((j:Int) + 1) y hp.objs.size:=e₇
   have up:∀ b o,b≠en→g₄.get? b=some o→g₇.get? b=some o:=fun b o h1 e=>sb₇.extBut b o h1 (sb₆.extBut b o h1 (sb₅.extBut b o h1 e))
   exact wpAny_bind (wpAny_letGo (wpAny_pure ⟨_,rfl,hQ g₇ e₇ (keepSt _ _ st₄ fun o e=>up _ _ (Ne.symm hne) e) (up _ _ (Nat.ne_of_gt hel) t₄) (by rw [sb₇.1,sb₆.1,sb₅.1,z₄]) fun b o h1 h2 e=>up b o h1 (k₄ b o h1 h2 e)⟩))
theorem enumT_item {en nu tu:Addr} {j:Nat} {xs:Array Value} {y old:Value} {Q:Option Value→Shared→Prop} (he:IsEnum z.heap en nu j old) (hn:z.heap.IsTupleIter nu tu j) (ht:z.heap.IsTuple tu xs) (hy:xs[j]?=some y) (hne:en≠nu)
  (hQ:∀ g,IsEnumOut g en nu ((j:Int) + 1) y z.heap.objs.size→g.IsTupleIter nu tu (j + 1)→g.get? z.heap.objs.size=some { cls:=.type "tuple",data:=.seq #[.int j z.toks,y] }→g.objs.size=z.heap.objs.size + 1→
   (∀ b o,b≠en→b≠nu→z.heap.get? b=some o→g.get? b=some o)→Q (some (.ref z.heap.objs.size)) { z with heap:=g,toks:=z.toks + 1 }) :
  wpAny (model prog w) A (pyNext (.ref en)) Q E z:=by
 have hT:z.TypeIs (.ref en) "enumerate":=⟨_,he,rfl⟩
 unfold pyNext
 exact wpAny_bind (wpAny_attempt (wpAny_callSpecial?_slot (name:=Str.ofString "__next__") hT F.slot_enumerate_next (wpAny_call_entry F.slot_enumerate_next hT F.entry_enumerate_next
   (enum_turn (St:=fun g=>g.IsTupleIter nu tu (j + 1)) he hne (fun g g' st k=>let ⟨o,ho,r⟩:=st;⟨o,k o ho,r⟩) (fun A' E' Q' h=>J3x hn ht hy h) fun g a b c d k=>wpAny_pure (hQ g a b c d k)) (F.args_enumerate_next_1 _))))
theorem enumT_end {en nu tu:Addr} {j:Nat} {xs:Array Value} {old:Value} {Q:Option Value→Shared→Prop} (hh:A.handled=none) (he:IsEnum z.heap en nu j old) (hn:z.heap.IsTupleIter nu tu j) (ht:z.heap.IsTuple tu xs) (hy:xs[j]?=none)
  (hQ:∀ g,Heap.ExtBut nu z.heap g→Q none { z with heap:=g }):wpAny (model prog w) A (pyNext (.ref en)) Q E z:=by
 have hT:z.TypeIs (.ref en) "enumerate":=⟨_,he,rfl⟩
 unfold pyNext
 refine wpAny_bind (wpAny_attempt (wpAny_callSpecial?_slot (name:=Str.ofString "__next__") hT F.slot_enumerate_next (wpAny_call_entry F.slot_enumerate_next hT F.entry_enumerate_next ?_ (F.args_enumerate_next_1 _))))
 show wpAny _ _ (field (.ref en) 2 >>= _) _ _ _
 refine wpAny_bind (wpAny_field he rfl (x:=.ref nu) rfl (wpAny_bind (J4q hh hn ht hy fun g x he' hx'=>?_)))
 obtain ⟨o,ho,hc⟩:=hx'
 exact wpAny_bind (wpAny_isInstance (T:="StopIteration") (b:=true) ⟨o,ho,hc⟩ isSubtype_stop (wpAny_pure (hQ _ he')))
theorem enum_newT (l:Addr) (xs:Array Value) (n:Nat) (dct:Option Addr) (sl:Array (Option Value)) :
  Meets (Builtin.«enumerate.__new__» ⟨[.type "enumerate",.ref l],[]⟩) (fun _ R s=>s.heap.get? l=some { cls:=.type "tuple",dict:=dct,data:=.seq xs n,slots:=sl }∧
   R (.ok (.ret (.ref (s.heap.push { cls:=.type "tuple_iterator",data:=.fields #[.ref l,.int 0 0] }).objs.size)))
    { s with heap:=(s.heap.push { cls:=.type "tuple_iterator",data:=.fields #[.ref l,.int 0 0] }).push { cls:=.type "enumerate",data:=.fields #[.none,.bool false,.ref s.heap.objs.size,rawInt 0,.none,.none] } }) :=
 .of_wp fun prog w A R s h=>by
  obtain ⟨hp,g,d,tk,os⟩:=s;obtain ⟨hl,h⟩:=h
  have hsub:=sub_enumerate
  have hTT:Heap.IsTuple (Shared.heap ⟨hp,g,d,tk,os⟩) l xs:=⟨_,hl,rfl,n,rfl⟩
  wp_walk using AutoSeq1.wpAny_loadPart' hl
  refine wpAny_stack_any fun st=>wpAny_pure ?_
  split
  ·rename_i c _ _ _ _ _
   cases (c == Value.type "enumerate") <;> (wp_walk using AutoSeq1.wpAny_loadPart' hl,wpAny_pyIter_tuple hTT;exact ⟨_,rfl,h⟩)
  ·(wp_walk using AutoSeq1.wpAny_loadPart' hl,wpAny_pyIter_tuple hTT;exact ⟨_,rfl,h⟩)
theorem call_enumT {l:Addr} {xs:Array Value} {Q:Value→Shared→Prop} (hL:z.heap.IsTuple l xs)
  (h:∀ g,IsEnum g (z.heap.objs.size + 1) z.heap.objs.size 0 .none→g.IsTupleIter z.heap.objs.size l 0→g.objs.size=z.heap.objs.size + 2→(∀ b o,z.heap.get? b=some o→g.get? b=some o)→Q (.ref (z.heap.objs.size + 1)) { z with heap:=g }) :
  wpAny (model prog w) A (call (.type "enumerate") [.ref l]) Q E z:=by
 obtain ⟨⟨c,dct,dt,sl⟩,hl,hc,n,hd⟩:=hL
 have hc:c=.type "tuple":=hc
 have hd:dt=.seq xs n:=hd
 subst hc hd
 refine callType_new F.called_enumerate (by decide) (F.typeCall_enumerate_1 _) (F.newCall_enumerate_1 _) (fun obj=>F.args_object_init_2 obj _) F.entry_enumerate_new (enum_newT l xs n dct sl) ⟨hl,?_⟩
 have hz:(z.heap.push { cls:=.type "tuple_iterator",data:=.fields #[.ref l,.int 0 0] }).objs.size=z.heap.objs.size + 1:=Heap.size_push ..
 show _∧_
 rw [hz]
 have he:IsEnum ((z.heap.push { cls:=.type "tuple_iterator",data:=.fields #[.ref l,.int 0 0] }).push { cls:=.type "enumerate",data:=.fields #[.none,.bool false,.ref z.heap.objs.size,rawInt 0,.none,.none] }) (z.heap.objs.size + 1) z.heap.objs.size 0 .none:=by
  have q:=Heap.get?_push_size (z.heap.push { cls:=.type "tuple_iterator",data:=.fields #[.ref l,.int 0 0] }) (o:={ cls:=.type "enumerate",data:=.fields #[.none,.bool false,.ref z.heap.objs.size,rawInt 0,.none,.none] }) rfl
  rw [hz] at q;exact q
 exact ⟨⟨_,he,rfl⟩,h _ he ⟨_,Heap.get?_push_of_some _ (Heap.get?_push_size _ rfl),rfl,rfl⟩ (by rw [Heap.size_push,hz]) fun b o q=>Heap.get?_push_of_some _ (Heap.get?_push_of_some _ q)⟩
end
section
variable {X:Cx} {pins:List (Addr × Obj)} {σ:St} {H:Hp} {s:Shared} {h':Heap}
theorem Inv.turned2 {t':Nat} {en nu p:Addr} {o:HO} (I:Inv X pins σ H s) (k:∀ b u,b≠en→b≠nu→s.heap.get? b=some u→h'.get? b=some u) (f1:FpOk X pins H en) (f2:FpOk X pins H nu) (hp:s.heap.objs.size≤p)
  (he:∃ u,h'.get? en=some u) (hu:∃ u,h'.get? nu=some u) (new:ObjOk X.prog X.w (upd H p o) h' p o):Inv X pins σ (upd H p o) { s with heap:=h',toks:=t' }:=by
 have hn:H p=none:=I.hok.fresh hp
 have lt:∀ b u,s.heap.get? b=some u→b≠p:=fun b u e=>Nat.ne_of_lt (Nat.lt_of_lt_of_le (Heap.lt_size e) hp)
 have ne1:∀ b u,H b=some u→b≠en:=fun b u e z=>by rw [z,f1.1] at e;cases e
 have ne2:∀ b u,H b=some u→b≠nu:=fun b u e z=>by rw [z,f2.1] at e;cases e
 have nc:∀ b,b ∉ [en,nu]→b≠en∧b≠nu:=fun b hb=>⟨fun z=>hb (by simp [z]),fun z=>hb (by simp [z])⟩
 refine I.step (g':=s.gens) (d':=s.drawn) (ch:=[en,nu]) (fun b hb=>?_) (fun b u _ _ hc e _=>k b u (nc b hc).1 (nc b hc).2 e) (fun b u _ _ hc e _=>⟨u.slots,k b u (nc b hc).1 (nc b hc).2 e⟩) (fun b u hc e n=>by rw [Jf (lt b u e)];exact n)
  (fun b u hc e=>⟨u,k b u (nc b hc).1 (nc b hc).2 e⟩) (fun b xs e=>by rw [Jf (J9 e hn)];exact e) (fun b u v e=>by rw [Jf (J9 e hn)];exact e) (fun b ps e=>⟨#[],by rw [Jf (J9 e hn),e];simp⟩) (fun m hm=>?_) (fun b u e=>?_) I.bare
 ·have hb:b=en∨b=nu:=by simpa using hb
  rcases hb with rfl | rfl
  ·exact ⟨f1.2.2.2.1,f1.2.1,f1.2.2.2.2.1,f1.2.2.2.2.2⟩
  ·exact ⟨f2.2.2.2.1,f2.2.1,f2.2.2.2.2.1,f2.2.2.2.2.2⟩
 ·obtain ⟨ob,es,ep,ho,r⟩:=hm
  exact ⟨ob,es,ep,k _ ob (Ne.symm f1.2.1) (Ne.symm f2.2.1) ho,r⟩
 ·by_cases hb:b=p
  ·subst hb;rw [J1] at e;cases e;exact new
  ·rw [Jf hb] at e
   refine (I.hok b u e).stay (fun c v hc q=>k c v ?_ ?_ q) (fun c q=>by rw [Jf (J9 q hn)];exact q) fun c xs q=>by rw [Jf (J9 q hn)];exact q
   ·rcases hc with q | q
    ·rw [q];exact ne1 b u e
    ·exact ne1 c _ q
   ·rcases hc with q | q
    ·rw [q];exact ne2 b u e
    ·exact ne2 c _ q
end
def Ite (K:PySem.W.Frag) (a:Addr):It :=
 ⟨fun i H=>∃ xs x,SqT K H a xs∧xs[i]?=some x,fun i H v H'=>∃ p x,v=.ref p∧H p=none∧H'=upd H p (.tup [.int (i:Int),x])∧∀ xs,SqT K H a xs→xs[i]?=some x,fun i H=>∃ xs,SqT K H a xs∧xs.length≤i⟩
theorem turn_enum {P:Program} {w:World} {K:PySem.W.Frag} {elts:List Expr} {kk:Nat} {tp:Pos} (a en nu:Addr) (hne:en≠nu):Turn P w K (.Tuple elts kk tp) (Ite K a) [en,nu] en (fun i h=>(∃ old,IsEnum h en nu (i:Int) old)∧h.IsTupleIter nu a i) where
 mem:=by simp
 obj:=fun i h st b hb=>by
  obtain ⟨⟨old,e1⟩,o,e2,_,d2⟩:=st
  have hb:b=en∨b=nu:=by simpa using hb
  rcases hb with rfl | rfl
  ·exact ⟨_,e1,fun v z=>by
    have z':Data.fields _=Data.cell v:=z
    cases z'⟩
  ·exact ⟨_,e2,fun v z=>by rw [d2] at z;cases z⟩
 keep:=fun i h h' st k=>by
  obtain ⟨⟨old,e1⟩,o,e2,r⟩:=st
  exact ⟨⟨old,k en (by simp) _ e1⟩,o,k nu (by simp) _ e2,r⟩
 item:=by
  intro X hP hw hK hc i pins s σ H E I hf st hg
  subst hP hw hK
  obtain ⟨⟨old,e1⟩,e2⟩:=st
  obtain ⟨xs,x,hq,hx⟩:=hg
  obtain ⟨its,r,pl,hz⟩:=I.tuple hq
  obtain ⟨u,hu,ru⟩:=r.get hx
  have f1:=hf en (by simp)
  have f2:=hf nu (by simp)
  refine enumT_item e1 e2 (show s.heap.IsTuple a its.toArray from pl) (y:=u) (by simpa using hu) hne fun g o1 n1 t1 z1 k1=>?_
  refine ⟨_,rfl,?_⟩
  have he:en < s.heap.objs.size:=Heap.lt_size e1
  refine wpAny_letOwnedTupleGo_enum o1 fun g2 e3 sb=>?_
  have sb:Heap.SameBut en g g2:=sb
  have n2:g2.IsTupleIter nu a (i + 1):=n1.extBut sb.extBut (Ne.symm hne)
  have kk2:∀ b o,b≠en→b≠nu→s.heap.get? b=some o→g2.get? b=some o:=fun b o h1 h2 e=>(sb.2 b h1).trans (k1 b o h1 h2 e)
  have t2:g2.get? s.heap.objs.size=some { cls:=.type "tuple",data:=.seq #[.int i s.toks,u] }:=(sb.2 _ (Nat.ne_of_gt he)).trans t1
  obtain ⟨on,hon,_⟩:=id n2
  have J:=I.turned2 (t':=s.toks + 1) (o:=.tup [.int (i:Int),x]) (p:=s.heap.objs.size) kk2 f1 f2 (Nat.le_refl _) ⟨_,e3⟩ ⟨_,hon⟩
   ⟨(by show 2≤sizeLine;decide),[.int i s.toks,u],.cons ⟨_,rfl⟩ (.cons ru .nil),⟨_,t2,⟨rfl,rfl⟩,_,rfl⟩⟩
  have hfr:H s.heap.objs.size=none:=I.hok.fresh (Nat.le_refl _)
  have cast:((i + 1:Nat):Int)=(i:Int) + 1:=by omega
  refine ⟨.ref s.heap.objs.size,_,J,rfl,⟨_,x,rfl,hfr,rfl,fun ys hy=>?_⟩,⟨⟨u,by rw [cast];exact e3⟩,n2⟩,fun b hb=>?_⟩
  ·rw [← I.tuple_inj hq hy];exact hx
  ·have hbl:b < s.heap.objs.size:=by
    have hb:b=en∨b=nu:=by simpa using hb
    rcases hb with rfl | rfl
    ·exact he
    ·obtain ⟨o,ho,_⟩:=e2;exact Heap.lt_size ho
   rw [Jf (Nat.ne_of_lt hbl)]
   exact (hf b hb).1
 done:=by
  intro X hP hw hK hc i pins s σ H E I hf st hg
  subst hP hw hK
  obtain ⟨⟨old,e1⟩,e2⟩:=st
  obtain ⟨xs,hq,hl⟩:=hg
  obtain ⟨its,r,pl,hz⟩:=I.tuple hq
  obtain ⟨f0,f1,f2,f3,f4,f5⟩:=hf nu (by simp)
  refine enumT_end (I.ok.hd hc) e1 e2 (show s.heap.IsTuple a its.toArray from pl) (by have:=r.length;simp;omega) fun g eb=>⟨rfl,I.turned (t':=s.toks) (fun b o hb e=>eb b o hb e) f0 f1 f3 f4 f5⟩
 self:=fun A i s Q E st h=>by
  obtain ⟨⟨old,e1⟩,_⟩:=st
  exact wpAny_pyIter_enum e1 h
section
variable {X:Cx}
def iEnum (K:PySem.W.Frag) (ta:TA):TI:=fun σ H R=>ta σ H fun vs H1=>∃ a,vs=[.ref a]∧(∃ xs,SqT K H1 a xs)∧R (Ite K a) H1
theorem pi_enum {elts:List Expr} {kk:Nat} {tp:Pos} {a:Expr} {ta:TA} {p pos:Pos} (hg:Gl X "enumerate") (hm:X.mg "enumerate"=none) (ha:PA X [a] ta) (hs:starEach [a] X.env=[(false,eval a X.env)]:=by rfl):PI X (.Tuple elts kk tp) (.Call (.Name "enumerate" p) [a] [] pos) (iEnum X.K ta):=by
 intro pins s σ H R I h
 refine Call_ (J67 I hg hm boot_enumerate (PyProof.Rows.callWith_type1 (thn (ha pos pins s σ H _ I h) fun us s1 ⟨vs,H1,I1,r1,q1⟩=>?_) hs rfl))
 obtain ⟨a,e,⟨xs,hq⟩,q⟩:=q1
 subst e
 obtain ⟨u,rfl,ru⟩:=vals1 r1
 cases ru
 obtain ⟨its,r,pl,hz⟩:=I1.tuple hq
 refine call_enumT (show s1.heap.IsTuple a its.toArray from pl) fun g e1 e2 z1 k1=>?_
 have I2:Inv X pins σ H1 { s1 with heap:=g }:=I1.kept (t':=s1.toks) k1
 refine wpAny_pyIter_enum e1 ?_
 refine ⟨_,_,_,_,H1,rfl,I2,turn_enum a _ _ (Nat.succ_ne_self _),⟨⟨.none,e1⟩,e2⟩,fun b hb=>?_,q⟩
 have hb:b=s1.heap.objs.size + 1∨b=s1.heap.objs.size:=by simpa using hb
 have hbs:s1.heap.objs.size≤b:=by
  rcases hb with e | e
  ·rw [e];exact Nat.le_succ _
  ·rw [e];exact Nat.le_refl _
 exact I1.fpOk hbs (I1.hok.fresh hbs)
end
end L2
namespace L2
open PySem PySem.Spec PyProof.Rows
end L2
namespace L2
open PySem PySem.Spec PyProof.Rows
def bmV:List Value:=[.type "ValueError",.type "Exception",.type "BaseException",.type "object"]
theorem ObjOk.has {P:Program} {w:World} {H:Hp} {h:Heap} {a:Addr} {o:HO} (x:ObjOk P w H h a o):∃ u,h.get? a=some u:=by
 cases o with
 | lst xs=>obtain ⟨_,_,_,_,e⟩:=x;exact ⟨_,e⟩
 | tup xs=>obtain ⟨_,_,_,ob,e,_⟩:=x;exact ⟨_,e⟩
 | dK kvs=>obtain ⟨_,_,_,_,o,_,_,e,_⟩:=x;exact ⟨_,e⟩
 | dT kvs=>obtain ⟨_,_,_,_,o,_,_,e,_⟩:=x;exact ⟨_,e⟩
 | set S n=>obtain ⟨o,_,_,_,e,_⟩:=x;exact ⟨_,e⟩
 | ins C dx fs=>obtain ⟨_,_,_,e,_⟩:=x;exact ⟨_,e⟩
 | own y=>exact x
 | xd fs=>obtain ⟨_,⟨_,_,_,e,_⟩,_⟩:=x;exact ⟨_,e⟩
 | rng lo hi=>obtain ⟨_,_,_,e⟩:=x;exact ⟨_,e⟩
 | frz ob u=>obtain ⟨e,_⟩:=x;exact ⟨_,e⟩
 | tbl ps=>exact ⟨_,(show h.get? a=some _ from x)⟩
 | met f y=>exact ⟨_,(show h.get? a=some _ from x)⟩
 | ext φ=>obtain ⟨_,e,_⟩:=x;exact e
theorem HOk.over {P:Program} {w:World} {H:Hp} {h h' B:Heap} (ok:HOk P w H h) (t:∀ b o,H b=some o→∃ u,B.get? b=some u) (k:B.StaysIn h) (k':B.StaysIn h'):HOk P w H h':=fun b u e=>by
 refine (ok b u e).stay (fun c v hc q=>?_) (fun _ q=>q) fun _ _ q=>q
 have hc':∃ x,B.get? c=some x:=by
  rcases hc with z | z
  ·rw [z];exact t b u e
  ·exact t c _ z
 obtain ⟨x,hx⟩:=hc'
 have:=k c x hx
 rw [q] at this
 cases this
 exact k' c _ hx
def Exc1 (P:Program) (w:World):CXT:=fun outer H s E e s'=>∃ (ea:Addr) (cls:Value) (H':Hp) (B:Heap) (a0:Value),e=.ref ea∧s'.os=s.os∧AllBare s'.gens∧Heap.FlyingW B outer ea cls a0 s'.heap∧
 Un (frs outer) [] H H' s.heap s'.heap∧HOk P w H' s'.heap∧H' ea=none∧s.heap.get? ea=none∧(∀ b o,H' b=some o→∃ u,B.get? b=some u)∧(∀ b u,s.heap.get? b=some u→b ∉ frs outer→∃ v,B.get? b=some v)∧E cls none H'
section
variable {P:Program} {w:World} {K:PySem.W.Frag} {mg:Str→Option Value} {base:Heap} {N:List Str} {qual:Str} {scope:Scope} {f:Addr} {cd:Value} {A:Around} {outer:List Env} {s0:Shared} {H0:Hp} {E:XK} {pins:List (Addr × Obj)} {σ:St} {H:Hp} {s:Shared}
theorem noFlds {h B:Heap} {l:List Env} (x:h.FunFrames B l) {b:Addr} (hb:b∈frs l):∃ o,h.get? b=some o∧∀ vs,o.data≠.fields vs:=(x.mem hb).2
theorem frs_cons {b:Addr} {env:Env} {L:Addr} (hf:env.frame=some L) {l:List Env}:b∈frs (env :: l)↔b=L∨b∈frs l:=by
 unfold frs
 rw [List.filterMap_cons,hf]
 simp
theorem xe_made {ea:Addr} {cls:Value} {args:List Value} {h':Heap} (I:Inv (cxOf (Exc1 P w) P w K mg base N qual scope f cd A outer s0 H0 E) pins σ H s) (hx:Heap.MadeExcOf s.heap h' ea cls args) (q:E cls none H) :
  (cxOf (Exc1 P w) P w K mg base N qual scope f cd A outer s0 H0 E).xe (.ref ea) { s with heap:=h' }:=by
 have fr:s.heap.FunFrames base (envOfC qual scope s0.heap.objs.size f cd :: outer):=I.stack
 have hin:∀ env∈(envOfC qual scope s0.heap.objs.size f cd :: outer),∀ b,env.frame=some b→b∈frs (envOfC qual scope s0.heap.objs.size f cd :: outer):=fun env he b hb=>List.mem_filterMap.mpr ⟨env,he,hb⟩
 have fl:∀ {b:Addr},b∈frs (envOfC qual scope s0.heap.objs.size f cd :: outer)↔b=s0.heap.objs.size∨b∈frs outer:=frs_cons rfl
 have inB:∀ b u,s.heap.get? b=some u→b ∉ frs (envOfC qual scope s0.heap.objs.size f cd :: outer)→(PySem.W.hideAll s.heap (frs (envOfC qual scope s0.heap.objs.size f cd :: outer))).get? b=some u:=fun b u e n=>PySem.W.hideAll_get _ e n
 have nL:∀ b u,s0.heap.get? b=some u→b≠s0.heap.objs.size:=fun b u e=>Nat.ne_of_lt (Heap.lt_size e)
 have nf:∀ b u,s0.heap.get? b=some u→b ∉ frs outer→b ∉ frs (envOfC qual scope s0.heap.objs.size f cd :: outer):=fun b u e n z=>(fl.mp z).elim (nL b u e) n
 refine wpAny_leaves_madeW (base:=PySem.W.hideAll s.heap (frs (envOfC qual scope s0.heap.objs.size f cd :: outer))) (h:=s.heap) (L:=s0.heap.objs.size) I.ok.frames rfl (fun b o z=>PySem.W.of_hideAll _ z) (PySem.W.funFrames_hide fr hin) hx fun h'' t fly tup nt ups=>?_
 have up:∀ b o,s.heap.get? b=some o→b∈frs (envOfC qual scope s0.heap.objs.size f cd :: outer)→∃ sl,h''.get? b=some { o with slots:=sl }:=fun b o e hb=>by
  obtain ⟨o',e',nd⟩:=noFlds fr hb
  rw [e] at e';cases e'
  exact ups b o (hx.keeps b o e) nd
 have there:∀ b o,s.heap.get? b=some o→∃ o',h''.get? b=some o':=fun b o e=>by
  by_cases hb:b∈frs (envOfC qual scope s0.heap.objs.size f cd :: outer)
  ·obtain ⟨sl,z⟩:=up b o e hb;exact ⟨_,z⟩
  ·exact ⟨o,fly.1 b o (inB b o e hb)⟩
 have trk:∀ b o,H b=some o→∃ u,(PySem.W.hideAll s.heap (frs (envOfC qual scope s0.heap.objs.size f cd :: outer))).get? b=some u:=fun b o e=>by
  obtain ⟨u,hu⟩:=(I.hok b o e).has
  refine ⟨u,inB b u hu fun z=>?_⟩
  have:=I.stkFree b z
  rw [e] at this;cases this
 refine ⟨ea,cls,H,_,_,rfl,I.os,I.bare,fly,⟨fun b o e n hb _=>?_,fun b o e n hb _=>?_,fun b o e n hb=>I.base.free b o e n hb,fun b o e _=>?_,I.base.tups,I.base.frzs,I.base.tbls⟩,I.hok.over trk (fun b o z=>PySem.W.of_hideAll _ z) fly.1,?_,?_,trk,fun b u e n=>?_,q⟩
 ·exact fly.1 b o (inB b o (I.base.keep b o e n hb (by simp [cxOf])) (nf b o e hb))
 ·obtain ⟨sl,e1⟩:=I.base.slot b o e n hb (by simp [cxOf])
  obtain ⟨sl',e2⟩:=up b _ e1 (fl.mpr (.inr hb))
  exact ⟨sl',e2⟩
 ·obtain ⟨o',e1⟩:=I.base.there b o e (by simp [cxOf])
  exact there b o' e1
 ·cases z:H ea with
  | none=>rfl
  | some o =>
   obtain ⟨u,hu⟩:=(I.hok ea o z).has
   have hnew:=hx.new
   rw [hu] at hnew;cases hnew
 ·cases z:s0.heap.get? ea with
  | none=>rfl
  | some o =>
   obtain ⟨o',e1⟩:=I.base.there ea o z (by simp [cxOf])
   have hnew:=hx.new
   rw [e1] at hnew;cases hnew
 ·obtain ⟨o',e1⟩:=I.base.there b u e (by simp [cxOf])
  exact ⟨o',inB b o' e1 (nf b u e n)⟩
theorem pass1:Passes (Exc1 P w) (cxOf (Exc1 P w) P w K mg base N qual scope f cd A outer s0 H0 E) E:=by
 rintro pins σ H s e s' I ⟨ea,cls,H',B,a0,rfl,os,bare,fly,un,hok,hea,new,trk,inB,q⟩
 have fl:∀ {b:Addr},b∈frs (envOfC qual scope s0.heap.objs.size f cd :: outer)↔b=s0.heap.objs.size∨b∈frs outer:=frs_cons rfl
 have nf:∀ b u,s0.heap.get? b=some u→b ∉ frs outer→b ∉ frs (envOfC qual scope s0.heap.objs.size f cd :: outer):=fun b u e n z=>(fl.mp z).elim (Nat.ne_of_lt (Heap.lt_size e)) n
 have fly0:Heap.FlyingW B (envOfC qual scope s0.heap.objs.size f cd :: outer) ea cls a0 s'.heap:=fly
 have un:Un (frs (envOfC qual scope s0.heap.objs.size f cd :: outer)) [] H H' s.heap s'.heap:=un
 have inB:∀ b u,s.heap.get? b=some u→b ∉ frs (envOfC qual scope s0.heap.objs.size f cd :: outer)→∃ v,B.get? b=some v:=inB
 refine wpAny_leaves_onW (L:=s0.heap.objs.size) I.ok.frames rfl fly0 fun h'' fly2 ups=>?_
 have stay:∀ b o,s.heap.get? b=some o→b ∉ frs (envOfC qual scope s0.heap.objs.size f cd :: outer)→∀ o',s'.heap.get? b=some o'→h''.get? b=some o':=fun b o e n o' e'=>by
  obtain ⟨v,hv⟩:=inB b o e n
  have:=fly0.1 b v hv
  rw [e'] at this;cases this
  exact fly2.1 b _ hv
 refine ⟨ea,cls,H',B,a0,rfl,os.trans I.os,bare,fly2,⟨fun b o e n hb _=>?_,fun b o e n hb _=>?_,fun b o e n _=>?_,fun b o e _=>?_,fun b xs e=>un.tups b xs (I.base.tups b xs e),fun b o u e=>un.frzs b o u (I.base.frzs b o u e),fun b ps e=>?_⟩,hok.over trk fly0.1 fly2.1,hea,?_,trk,fun b u e n=>?_,q⟩
 ·have e1:=I.base.keep b o e n hb (by simp [cxOf])
  have n1:=I.base.free b o e n (by simp [cxOf])
  exact stay b o e1 (nf b o e hb) o (un.keep b o e1 n1 (nf b o e hb) (by simp))
 ·obtain ⟨sl,e1⟩:=I.base.slot b o e n hb (by simp [cxOf])
  have n1:=I.base.free b o e n (by simp [cxOf])
  obtain ⟨sl',e2⟩:=un.slot b _ e1 n1 (fl.mpr (.inr hb)) (by simp)
  obtain ⟨o',e3,nd⟩:=noFlds fly0.2.2.1 (fl.mpr (.inr hb))
  rw [e2] at e3;cases e3
  obtain ⟨sl'',e4⟩:=ups b _ e2 nd
  exact ⟨sl'',e4⟩
 ·obtain ⟨o',e1⟩:=I.base.there b o e (by simp [cxOf])
  exact un.free b o' e1 (I.base.free b o e n (by simp [cxOf])) (by simp)
 ·obtain ⟨o',e1⟩:=I.base.there b o e (by simp [cxOf])
  obtain ⟨o2,e2⟩:=un.there b o' e1 (by simp)
  by_cases hb:b∈frs outer
  ·obtain ⟨o3,e3,nd⟩:=noFlds fly0.2.2.1 (fl.mpr (.inr hb))
   obtain ⟨sl,e4⟩:=ups b o3 e3 nd
   exact ⟨_,e4⟩
  ·exact ⟨o2,stay b o' e1 (nf b o e hb) o2 e2⟩
 ·obtain ⟨m1,e1⟩:=I.base.tbls b ps e
  obtain ⟨m2,e2⟩:=un.tbls b _ e1
  exact ⟨m1 ++ m2,by rw [e2,Array.append_assoc]⟩
 ·cases z:s0.heap.get? ea with
  | none=>rfl
  | some o =>
   obtain ⟨o',e1⟩:=I.base.there ea o z (by simp [cxOf])
   rw [e1] at new;cases new
 ·obtain ⟨o',e1⟩:=I.base.there b u e (by simp [cxOf])
  exact inB b o' e1 (nf b u e n)
theorem exc_obj {h:Heap} {C:Addr} {bmB:List Value} {nid:String} (X:K.In h) (q:PySem.W.excIn K C bmB nid=true) :
  ∃ bm N nm qn bs hdct sn sub ab col dd k0 k1 k2 k3 k5 mN,h.get? C=some (excClassObj nm qn C N bs bm hdct sn sub ab col dd k0 k1 k2 k3 k5 nid)∧h.Ns N mN∧mN "__init__"=none∧OwnTail h bmB bm:=by
 unfold PySem.W.excIn at q
 split at q
 ·rename_i dd cdd sl ho
  split at q
  ·rename_i C' bm k0 k1 k2 k3 n k5 hm hs
   simp only [Bool.and_eq_true,beq_iff_eq,Bool.not_eq_true'] at q
   obtain ⟨⟨⟨⟨⟨rfl,rfl⟩,q1⟩,q2⟩,q3⟩,q4⟩:=q
   obtain ⟨nm,bs,mro,ns,qn,hd,sn,sub,ab,col,del⟩:=cdd
   dsimp only at hm q1 q3 q4
   subst hm q1
   obtain ⟨l⟩:=sl
   simp only at hs
   subst hs
   exact ⟨bm,ns,nm,qn,bs,hd,sn,sub,ab,col,dd,k0,k1,k2,k3,k5,_,X _ _ ho,.of_isNs (PySem.W.isNs_of_in X q3),PySem.W.nsMap_none_of_in X q3 q4,PySem.W.tail_of_in X q2⟩
  ·cases q
 ·cases q
theorem ps_raise {x:Str} {C:Addr} {msg:Str} {j:Nat} {p1 np cpos pos:Pos} (hg:Gl (cxOf (Exc1 P w) P w K mg base N qual scope f cd A outer s0 H0 E) x) (hm:mg x=some (.ref C)) (q:PySem.W.excIn K C bmV "ValueError.__new__"=true) (hdb:(x == ("__debug__":Str))=false:=by decide) :
  PS (cxOf (Exc1 P w) P w K mg base N qual scope f cd A outer s0 H0 E) (.Raise (some (.Call (.Name x np) [.Constant (.str msg) j p1] [] cpos)) none pos) (fun D σ H=>E (.ref C) none H):=by
 intro pins s σ H D I h
 obtain ⟨bm,NN,nm,qn,bs,hdct,sn,sub,ab,col,dd,k0,k1,k2,k3,k5,mN,hC,hN,hni,T⟩:=exc_obj (I.ok.mod.kin) q
 refine wpAny_Raise_call_subT (C:=C) (nm:=nm) (q:=qn) (N:=NN) (bs:=bs) (bm:=bm) (hdct:=hdct) (sn:=sn) (sub:=sub) (ab:=ab) (col:=col) (dd:=dd) (k0:=k0) (k1:=k1) (k2:=k2) (k3:=k3) (k5:=k5)
  PySem.F.excBase_ValueError (mN:=mN) (T.hasType PySem.F.excBase_ValueError.hasBase) (I.ok.hd rfl) rfl hni (J48 I hg hm ⟨rfl,?_⟩ hdb)
 refine Calls.evalArgs_plain (thn ((J0 (pe_str (X:=cxOf (Exc1 P w) P w K mg base N qual scope f cd A outer s0 H0 E)) J4) cpos pins s σ H (fun vs H'=>H'=H∧vs.length=1) I ⟨rfl,rfl⟩) fun us s2 ⟨vs,H2,I2,r,e2,e3⟩=>?_)
 subst e2
 have hl:us.length≤sizeLine:=by rw [← r.length,e3];decide
 exact ⟨rfl,hl,I2.bk _ _ hC,hN.keeps I2.bk,T.keeps I2.bk,fun h' e hm=>xe_made I2 hm h⟩
end
end L2
namespace L2
open PySem PySem.Spec PyProof.Rows
def excO (ea:Addr) (cls:Value):HO:=.ext fun h=>∃ o,h.get? ea=some o∧o.cls=cls
def Cx.caught (X:Cx) (ea:Addr):Cx:={ X with A:=X.A.mark (some (.ref ea)),calm:=false,xe:=fun _ _=>False }
def Ends.unset (D:Ends) (i:Nat):Ends:={ nx:=fun σ H=>D.nx (σ.set i none) H,rt:=D.rt,bk:=fun σ H=>D.bk (σ.set i none) H,ct:=fun σ H=>D.ct (σ.set i none) H }
section
variable {X:Cx} {pins:List (Addr × Obj)} {σ:St} {H:Hp} {s:Shared} {ea:Addr}
theorem Cx.Ok.caught (ok:X.Ok) (ea:Addr):(X.caught ea).Ok :=
 ⟨ok.mod,ok.kind,ok.glob,ok.blt,ok.above,ok.inj,ok.has,ok.cab,(fun z=>Bool.noConfusion z),ok.frames,ok.stk,ok.exf,ok.bs,ok.bsz,ok.noex,ok.exfs,ok.funs,ok.frf⟩
theorem Inv.caught (I:Inv X pins σ H s) (ea:Addr):Inv (X.caught ea) pins σ H s:=⟨I.ok.caught ea,I.os,I.bare,I.base,I.loc,I.cell,I.free,I.freeC,I.pin,I.hok,I.len⟩
theorem Inv.uncaught (I:Inv (X.caught ea) pins σ H s) (ok:X.Ok):Inv X pins σ H s:=⟨ok,I.os,I.bare,I.base,I.loc,I.cell,I.free,I.freeC,I.pin,I.hok,I.len⟩
theorem J3f {M:Model} {A:Around} {E:Value→Shared→Prop} {i:Nat} {x:Str} {pos:Pos} {Q:Unit→Shared→Prop} (I:Inv X pins σ H s) (hN:X.N.Nodup) (hi:X.N[i]?=some x) (hk:X.env.scope.names.lookup x=some .local)
  (h:∀ s',Inv X pins (σ.set i none) H s'→Q () s'):wpAny M A (do bindName X.env x .none;unbindBehindTheSuite X.env x pos) Q E s:=by
 obtain ⟨m,hn,hl⟩:=id I.loc
 have hcls:(X.env.scope.kind == .class || (X.env.scope.kind == .module && X.env.locals != X.env.globals))=false:=by rw [I.ok.kind];rfl
 have hiσ:i < σ.length:=by rw [I.len];exact (List.getElem?_eq_some_iff.mp hi).1
 have cne:=I.cne
 obtain ⟨oL,_,_,hoL,_⟩:=id hn
 refine wpAny_nameGoes_keeps hk hn hcls fun h' v hn' hs=>?_
 have nL:∀ b o,X.s₀.heap.get? b=some o→b≠X.env.locals:=fun b o e=>Nat.ne_of_lt (Nat.lt_of_lt_of_le (Heap.lt_size e) I.ok.above)
 refine h _ ⟨I.ok,I.os,I.bare,⟨fun b o e n hb hx=>?_,fun b o e n hb hx=>?_,I.base.free,fun b o e hx=>?_,I.base.tups,I.base.frzs,I.base.tbls⟩,⟨_,hn',fun j y v' e1 e2 e3=>?_⟩,fun y c e=>?_,I.free,I.freeC,fun p hp=>?_,fun b ob e=>?_,by simpa using I.len⟩
 ·exact (hs.2 b (nL b o e)).trans (I.base.keep b o e n hb hx)
 ·obtain ⟨sl,e1⟩:=I.base.slot b o e n hb hx
  exact ⟨sl,(hs.2 b (nL b o e)).trans e1⟩
 ·obtain ⟨o',e1⟩:=I.base.there b o e hx
  exact ⟨o',(hs.2 b (nL b o e)).trans e1⟩
 ·by_cases hj:j=i
  ·subst hj
   rw [List.getElem?_set_self hiσ] at e2
   cases e2
  ·rw [List.getElem?_set_ne (Ne.symm hj)] at e2
   obtain ⟨u',r',q⟩:=hl j y v' e1 e2 e3
   refine ⟨u',r',?_⟩
   rcases q with ⟨k,e⟩ | ⟨k,c,e,z⟩
   ·refine .inl ⟨k,?_⟩
    have:y≠x:=fun e=>hj (J61 hN e1 (e ▸ hi))
    simp [this,e]
   ·exact .inr ⟨k,c,e,z.sameBut hs (cne y c e)⟩
 ·obtain ⟨w',z⟩:=I.cell y c e
  exact ⟨w',z.sameBut hs (cne y c e)⟩
 ·obtain ⟨e,n,ne,nf,d⟩:=I.pin p hp
  exact ⟨(hs.2 p.1 ne).trans e,n,ne,nf,d⟩
 ·refine (I.hok b ob e).stay (fun c w' hc q=>(hs.2 c ?_).trans q) (fun _ q=>q) fun _ _ q=>q
  rintro rfl
  have hfree:=I.free
  rcases hc with z | hc
  ·rw [← z,hfree] at e;cases e
  ·rw [hfree] at hc;cases hc
theorem land {s1:Shared} {H':Hp} {B:Heap} {cls a0:Value} {h':Heap} (I:Inv X pins σ H s) (ho:s1.os=s.os) (bare:AllBare s1.gens) (fly:Heap.FlyingW B X.stack ea cls a0 s1.heap)
  (un:Un (frs X.stack) [] H H' s.heap s1.heap) (hok:HOk X.prog X.w H' s1.heap) (hea:H' ea=none) (new:s.heap.get? ea=none) (trk:∀ b o,H' b=some o→∃ u,B.get? b=some u)
  (inB:∀ b u,s.heap.get? b=some u→b ∉ frs X.stack→∃ v,B.get? b=some v) (fly':Heap.FlyingW B X.stack ea cls a0 h') (up:s1.heap.UpToSlots h') :
  Inv X pins σ (upd H' ea (excO ea cls)) { s1 with heap:=h' }:=by
 have neE:∀ b o,s.heap.get? b=some o→b≠ea:=fun b o e z=>by rw [z,new] at e;cases e
 have slots:∀ b o,b∈frs X.stack→s1.heap.get? b=some o→∃ sl,h'.get? b=some { o with slots:=sl }:=fun b o hb e=>by
  obtain ⟨o',e',nd⟩:=noFlds fly.2.2.1 hb
  rw [e] at e';cases e'
  exact up b o e nd
 have stay:∀ b o,s.heap.get? b=some o→b ∉ frs X.stack→∀ o',s1.heap.get? b=some o'→h'.get? b=some o':=fun b o e n o' e'=>by
  obtain ⟨v,hv⟩:=inB b o e n
  have:=fly.1 b v hv
  rw [e'] at this;cases this
  exact fly'.1 b _ hv
 refine I.call' (s':={ s1 with heap:=h' }) (ch:=[]) ho ⟨fun b o e n hb _=>?_,fun b o e n hb _=>?_,fun b o e n _=>?_,fun b o e _=>?_,fun b xs e=>?_,fun b o u e=>?_,fun b ps e=>?_⟩ (fun b u e=>?_) bare (fun _ z=>nomatch z)
 ·exact stay b o e hb o (un.keep b o e n hb (by simp))
 ·obtain ⟨sl,e1⟩:=un.slot b o e n hb (by simp)
  obtain ⟨sl',e2⟩:=slots b _ hb e1
  exact ⟨sl',e2⟩
 ·rw [Jf (neE b o e)];exact un.free b o e n (by simp)
 ·obtain ⟨o',e1⟩:=un.there b o e (by simp)
  by_cases hb:b∈frs X.stack
  ·obtain ⟨sl,e2⟩:=slots b o' hb e1
   exact ⟨_,e2⟩
  ·exact ⟨o',stay b o e hb o' e1⟩
 ·have q:=un.tups b xs e
  rw [Jf (J9 q hea)];exact q
 ·have q:=un.frzs b o u e
  rw [Jf (J9 q hea)];exact q
 ·obtain ⟨m,q⟩:=un.tbls b ps e
  exact ⟨m,by rw [Jf (J9 q hea)];exact q⟩
 ·have hok2:=hok.over trk fly.1 fly'.1
  by_cases hb:b=ea
  ·subst hb
   rw [J1] at e;cases e
   obtain ⟨ob,e1,e2⟩:=fly'.there
   exact ⟨⟨ob,e1,e2⟩,⟨ob,e1⟩,fun h1 h2 ⟨o1,z1,z2⟩ k=>⟨o1,k o1 z1,z2⟩⟩
  ·rw [Jf hb] at e
   exact (hok2 b u e).stay (fun c v _ q=>q) (fun c q=>by rw [Jf (J9 q hea)];exact q) fun c xs q=>by rw [Jf (J9 q hea)];exact q
def xCatch (K:PySem.W.Frag) (c:Value) (i:Nat) (tb:Addr→TS) (D:Ends) (σ:St):XK:=fun cls _ H2=>PySem.W.exmOne K cls c=some true∧∀ ea,H2 ea=none→tb ea (D.unset i) (σ.set i (some (.ref ea))) (upd H2 ea (excO ea cls))
variable {i:Nat} {n cx:Str} {c:Value} {b₀:Stmt} {suite:List Stmt} {hpos np:Pos} {tb:Addr→TS} {D:Ends}
theorem caught_at {e:Value} {s1:Shared} (hst:X.stack=X.env :: X.outer) (hfr:X.env.frame=some X.env.locals) (hgC:Gl X cx) (hmC:X.mg cx=some c) (hN:X.N.Nodup) (hi:X.N[i]?=some n) (hk:X.env.scope.names.lookup n=some .local)
  (hb:∀ ea,PSs (X.caught ea) (b₀ :: suite) (tb ea)) (I:Inv X pins σ H s) (x:Exc1 X.prog X.w X.stack H s (xCatch X.K c i tb D σ) e s1) (hdb:(cx == ("__debug__":Str))=false:=by decide) :
  wpAny (model X.prog X.w) X.A (noteFrame e X.env) (fun _ s₂=>wpAny (model X.prog X.w) X.A (setFlight e none) (fun _ s₃=>wpAny (model X.prog X.w) X.A (handleBy e X.env [.ExceptHandler (some (.Name cx np)) (some n) (b₀ :: suite) hpos]) (SP X pins D) X.xe s₃) X.xe s₂) X.xe s1:=by
 obtain ⟨ea,cls,H',B,a0,rfl,os,bare,fly,un,hok,hea,new,trk,inB,hx,q⟩:=x
 have fr:X.A.frames=some (X.env :: X.outer):=by rw [← hst];exact I.ok.frames
 have fly':Heap.FlyingW B (X.env :: X.outer) ea cls a0 s1.heap:=by rw [← hst];exact fly
 refine wpAny_looks_onW fr hfr fly' fun h2 held up2=>?_
 refine wpAny_landsW held fun h3 fly3 up3=>?_
 have fly3':Heap.FlyingW B X.stack ea cls a0 h3:=by rw [hst];exact fly3
 have I3:Inv X pins σ (upd H' ea (excO ea cls)) { s1 with heap:=h3 }:=land I os bare fly un hok hea new trk inB fly3' (up2.trans up3)
 refine wpAny_handleBy_cons (codeAny_handlers_test ?_) (by intro q;cases q)
 refine J48 (X:=X.caught ea) (I3.caught ea) hgC hmC ?_ hdb
 have LT:PySem.W.Looks (model X.prog X.w) h3 (typeOf (.ref ea)) cls:=by
  obtain ⟨ob,e1,e2⟩:=fly3.there
  exact e2 ▸ (PySem.W.Looks.ld e1).andThen .now
 refine (PySem.W.exm_one (M:=model X.prog X.w) I3.kIn LT hx).here ?_
 refine codeAny_handlers_suite_as ?_
 refine lands_againW fly3 fun h4 fly4 up4=>?_
 have fly4':Heap.FlyingW B X.stack ea cls a0 h4:=by rw [hst];exact fly4
 have I4:Inv X pins σ (upd H' ea (excO ea cls)) { s1 with heap:=h4 }:=land I os bare fly un hok hea new trk inB fly4' ((up2.trans up3).trans up4)
 refine J4h (X:=X.caught ea) (I4.caught ea) hN hi (.inl hk) (v:=.ref ea) rfl (fun s5 I5=>?_) (.inr hk)
 refine wpAny_mono (hb ea pins s5 _ _ (D.unset i) I5 (q ea hea)) (fun fl s6 z=>?_) fun _ _ z=>False.elim z
 cases fl with
 | next=>obtain ⟨σ',H2,I6,q6⟩:=z;exact J3f (I6.uncaught I.ok) hN hi hk fun s7 I7=>⟨_,H2,I7,q6⟩
 | brk=>obtain ⟨σ',H2,I6,q6⟩:=z;exact J3f (I6.uncaught I.ok) hN hi hk fun s7 I7=>⟨_,H2,I7,q6⟩
 | cont=>obtain ⟨σ',H2,I6,q6⟩:=z;exact J3f (I6.uncaught I.ok) hN hi hk fun s7 I7=>⟨_,H2,I7,q6⟩
 | ret u=>obtain ⟨v,σ',H2,I6,r6,q6⟩:=z;exact J3f (I6.uncaught I.ok) hN hi hk fun s7 I7=>⟨v,_,H2,I7,r6,q6⟩
end
theorem Fun.okX {P:Program} {w:World} {K:PySem.W.Frag} {mg:Str→Option Value} {base:Heap} {x qual:Str} {st:Stmt} {f:Addr} {fd:FuncData} {N ps:List Str} {k:Nat} {sp:Sp} (F:Fun K x qual st f fd) (S:FnScope N ps (Ja st)) (len:∀ vs H Q E,sp vs H Q E→vs.length=ps.length)
  (hbody:∀ (cdv:Value) (A:Around) (outer:List Env) (s:Shared) (H:Hp) (vs:List V) (Q:VK) (E:XK),Room k (A.deeper (envOfC qual (Ja st) s.heap.objs.size f cdv))→sp vs H Q E→
   ∃ t,PSs (cxOf (Exc1 P w) P w K mg base N qual (Ja st) f cdv A outer s H E) (J1k st) t∧t { nx:=fun _ H'=>Q .non H',rt:=Q } (start N vs) H):FnOk P w K mg base (Exc1 P w) (k + 1) f fd ps sp:=by
 obtain ⟨oc,od,kV,doc,pm,an,cdv,ct,osl,rfl,lk,hcd⟩:=F.ex
 exact fn_of lk hcd S len fun A outer s H vs Q E hr hsp=>hbody cdv A outer s H vs Q E hr hsp
end L2
namespace L2
open PySem PySem.Spec PyProof.Rows
structure XCls (K:PySem.W.Frag) (D:Addr):Prop where
 ga:PySem.W.findIn K (.ref D) "__getattribute__"=some (some (.builtin "BaseException.__getattribute__"))
 no:PySem.W.findIn K (.ref D) "__getattr__"=some none
 cl:PySem.W.findIn K (.ref D) "__class__"=some (some (.builtin "object.__class__"))
 get:PySem.W.specialIn K (.builtin "object.__class__") "__get__"=some (some (.builtin "getset_descriptor.__get__"))
 tk:PySem.W.takesIn K (.builtin "object.__class__")=some true
 mo:PySem.W.mroIn K D (.type "object")=some true
 mb:PySem.W.mroIn K D (.type "BaseException")=some true
 hd:PySem.W.hasDictIn K D=true
section
open PySem.W
variable {prog:Program} {w:World} {A:Around} {E:Value→Shared→Prop} {K:Frag} {x D:Addr} {hh:Heap} {g:Array GenState} {d:Drawn} {t:Nat} {os:OsState}
theorem x_find {M:Model} (X:K.In hh) (W:XCls K D):Looks M hh (Builtin.ObjectAttr.find (.ref x) (.ref D) "__class__") (.bind (.builtin "getset_descriptor.__get__") (.builtin "object.__class__")):=by
 have e1:=looks_findIn (M:=M) X W.cl
 have e2:Looks M hh (Builtin.ObjectAttr.getOf (some (.builtin "object.__class__"))) (some (.builtin "getset_descriptor.__get__")):=looks_specialIn X W.get
 have e3:=looks_takesIn (M:=M) X W.tk
 have e4:Looks M hh (Builtin.ObjectAttr.dataDescriptor? (some (.builtin "object.__class__")) (some (.builtin "getset_descriptor.__get__"))) (some (.builtin "getset_descriptor.__get__",.builtin "object.__class__")):=e3.andThen .now
 exact e1.andThen (e2.andThen (e4.andThen (Looks.tag .now)))
theorem x_get {R:Result→Shared→Prop} {tp:Value} (X:K.In hh) (W:XCls K D) (p:∃ o,hh.get? x=some o∧o.cls=.ref D) (h:R (.ok (.ret (.ref D))) ⟨hh,g,d,t,os⟩) :
  codeAny (model prog w) A (.call (.builtin "getset_descriptor.__get__") ⟨[.builtin "object.__class__",.ref x,tp],[]⟩) R ⟨hh,g,d,t,os⟩:=by
 obtain ⟨o,p1,p2⟩:=p
 have L0:Looks (model prog w) hh (typeOf (.ref x)) (.ref D):=p2 ▸ (Looks.ld p1).andThen .now
 have L1:=looks_mroIn (M:=model prog w) X W.mo
 have ck:=KF.slot_gs.check (M:=model prog w) (A:=A)
 refine codeAny_call_builtin KF.slot_gs.plain KF.entry_gs ?_
 refine KF.slot_gs.check _ _ _ _ _ _ _ _ KF.type_class (KF.args_gs ..) ?_
 unfold Builtin.«getset_descriptor.__get__»
 unfold Builtin.Getset_descriptor.descrGet
 rw [dga_obj]
 apply wpAny_bind
 apply wpAny_pure
 unfold Builtin.Getset_descriptor.descrGetter Builtin.Getset_descriptor.descrCheckInstance
 unfold Builtin.Getset_descriptor.descrNameAndClass isInstance
 simp only [KF.owner_class]
 repeat lk
 refine ⟨Code.quiet_builtin _ (by decide +kernel),?_⟩
 refine codeAny_builtin KF.entry_class ?_
 unfold Builtin.«object.__class__»
 unfold shownTypeOf
 repeat lk
 exact h
theorem x_class {Q:Option Value→Shared→Prop} (X:K.In hh) (W:XCls K D) (p:∃ o,hh.get? x=some o∧o.cls=.ref D) (h:Q (some (.ref D)) ⟨hh,g,d,t + 1,os⟩) :
  wpAny (model prog w) A (getAttr? (.ref x) "__class__") Q E ⟨hh,g,d,t,os⟩:=by
 have p':=p
 obtain ⟨o,p1,p2⟩:=p'
 have L0:Looks (model prog w) hh (typeOf (.ref x)) (.ref D):=p2 ▸ (Looks.ld p1).andThen .now
 have L1:=looks_findIn (M:=model prog w) X W.ga
 have L2:=looks_findIn (M:=model prog w) X W.no
 have L3:=x_find (x:=x) (M:=model prog w) X W
 have L4:=looks_mroIn (M:=model prog w) X W.mb
 have gb:=PySem.F.attrBase_ValueError.ga.bind (.ref x)
 unfold getAttr? getAttrBy?
 unfold getAttrBy
 apply wpAny_bind
 apply wpAny_mkText
 apply wpAny_bind
 apply wpAny_attempt
 apply wpAny_holding
 apply wpAny_bind
 refine L0.at ?_
 apply wpAny_bind
 refine L1.at ?_
 have nb:(Value.builtin "BaseException.__getattribute__" == Value.builtin "object.__getattribute__")=false:=by decide +kernel
 show wpAny _ _ (if (onTheHeap (Value.ref D) && Value.builtin "BaseException.__getattribute__" == Value.builtin "object.__getattribute__")=true then _ else _) _ _ _
 rw [nb,Bool.and_false,if_neg Bool.false_ne_true]
 unfold getAttrByItsOwn hookBefore
 apply wpAny_bind
 show wpAny _ _ (if onTheHeap (Value.ref D)=true then _ else _) _ _ _
 rw [if_pos (show onTheHeap (Value.ref D)=true from rfl)]
 refine L2.at ?_
 apply wpAny_bind
 apply wpAny_attempt
 apply wpAny_holding
 unfold callGetattribute
 rw [Bool.false_and,if_neg Bool.false_ne_true]
 unfold boundAndCalled
 rw [gb]
 apply wpAny_bind
 apply wpAny_pure
 refine wpAny_call (codeAny_call_builtin PySem.F.attrBase_ValueError.ga.plain PySem.F.entry_bexc_ga ?_)
 have hk:builtinKind "BaseException.__getattribute__"=some .slot:=by decide +kernel
 have hs:splitId "BaseException.__getattribute__"=some ("BaseException","__getattribute__"):=by decide +kernel
 have ha:=PySem.F.args_bexc_ga (.ref x) (.str "__class__" t)
 have L5:Looks (model prog w) hh (isInstance (.ref x) (.type "BaseException")) true:=L0.andThen L4
 simp only [checkBuiltinCall,hk,hs]
 apply wpAny_bind
 refine L5.at ?_
 repeat (first | assumption | wp_step)
 rw [p2]
 have e2:Looks (model prog w) hh (Builtin.ObjectAttr.getOf (some (.builtin "object.__class__"))) (some (.builtin "getset_descriptor.__get__")):=looks_specialIn X W.get
 have e3:=looks_takesIn (M:=model prog w) X W.tk
 have e4:Looks (model prog w) hh (Builtin.ObjectAttr.dataDescriptor? (some (.builtin "object.__class__")) (some (.builtin "getset_descriptor.__get__"))) (some (.builtin "getset_descriptor.__get__",.builtin "object.__class__")):=e3.andThen .now
 refine (looks_findIn (M:=model prog w) X W.cl).at ?_
 apply wpAny_bind
 refine e2.at ?_
 apply wpAny_bind
 refine e4.at ?_
 repeat (first | assumption | wp_step)
 refine x_get X W p ?_
 repeat (first | assumption | wp_step)
theorem x_isType {M:Model} (X:K.In hh) (W:XCls K D):Looks M hh (isType (.ref D)) true:=by
 obtain ⟨cd,hc,_⟩:=any_some W.hd
 unfold clsIn at hc
 split at hc
 next ho =>
  intro A' Q' E' s' k q
  unfold isType loadHead
  apply wpAny_bind
  exact wpAny_loadPart (k _ _ (X _ _ ho)) (wpAny_pure q)
 next=>cases hc
theorem kitx_exc (W:XCls K D):KitX K (.ref x) (.ref D) (fun h=>∃ o,h.get? x=some o∧o.cls=.ref D) where
 ty:=fun _ _ _ ⟨_,p1,p2⟩=>p2 ▸ (Looks.ld p1).andThen .now
 it:=fun _ _ X _=>x_isType X W
 ne:=fun h tp dd its n sl X htp=>by
  obtain ⟨cd,hc,_⟩:=any_some W.hd
  apply Bool.eq_false_iff.mpr
  intro q
  cases beq_iff_eq.mp q
  unfold clsIn at hc
  split at hc
  next ho=>have z:=X _ _ ho;rw [htp] at z;cases z
  next=>cases hc
 ca:=fun {_ _ _ _ _ s} X p k=>by
  obtain ⟨h0,g0,d0,t0,o0⟩:=s
  exact x_class X W p k
end
theorem Jv {X:Cx} {f:Value} (hf:f=.builtin "isinstance"):CallR X f (fun xs H Q=>∃ (ea D:Addr) (c:V) (cv:Value) (b:Bool),xs=[.ref ea,c]∧RelV c cv∧(∀ v,RelV c v→v=cv)∧H ea=some (excO ea (.ref D))∧XCls X.K D∧PySem.W.kitOne X.K (.ref D) cv=some b∧Q (.bl b) H):=by
 subst hf
 intro pins s σ H xs us Q I r h
 obtain ⟨ea,D,c,cv,b,rfl,rc,uc,e,W,kb,q⟩:=h
 obtain ⟨u,v,rfl,ru,rv⟩:=vals2 r
 cases (show u=Value.ref ea from ru)
 obtain rfl:=uc v rv
 have:=I.hok ea _ e
 exact PySem.W.kia_one (kitx_exc W) I.kIn this.1 kb (fun z=>nomatch z) fun tk=>⟨.bl b,H,I.tok tk,rfl,q⟩
theorem boolsAre:∀ {bs:List Bool} {us:List Value},Vals (bs.map V.bl) us→us=bs.map Value.bool
 | [],us,r=>by cases r;rfl
 | b :: bs,us,r=>by
  cases r with
  | cons r1 r2 =>
   cases (show _=Value.bool b from r1)
   rw [boolsAre r2];rfl
def isTrueV:Value→Bool
 | .bool b=>b == true
 | _=>false
def rCountB (K:PySem.W.Frag):V→List V→Hp→VK→Prop:=fun x vs H Q=>∃ (l:Addr) (bs:List Bool),x=.ref l∧vs=[.bl true]∧H l=some (.lst (bs.map V.bl))∧Q (.int (bs.count true:Nat)) H
theorem mt_countB {X:Cx}:MtM X "list.count" (rCountB X.K):=by
 intro pins s σ H x vs v us Q I rx rv h
 obtain ⟨l,bs,rfl,rfl,hH,q⟩:=h
 cases rx
 obtain ⟨u,rfl,ru⟩:=rv.one
 cases (show u=Value.bool true from ru)
 obtain ⟨z,its,n,r,hl,e⟩:=I.lstM hH
 have ei:=boolsAre r
 subst ei
 refine call_meets PySem.F.slot_list_count ⟨_,e,rfl⟩ PySem.F.entry_list_count (PySem.F.args_list_count_2 _ _) (PySem.SeqAt.list_countAt l _ n none #[] (.bool true) isTrueV) ⟨e,fun y hy=>?_,?_⟩
 ·have hy':y∈bs.map Value.bool:=by simpa using hy
  obtain ⟨b,_,rfl⟩:=List.mem_map.mp hy'
  exact SeqAt.EqAt.bool_bool b true
 ·have ec:(bs.map Value.bool).countP isTrueV=bs.count true:=by
   rw [List.countP_map];rfl
  exact ⟨.int (bs.count true:Nat),H,I.tok _,⟨_,by rw [← ec]⟩,q⟩
structure RoomC (k:Nat) (A:Around):Prop where
 dp:A.depth + 3 * k + 5 < recursionLimit
 un:A.units + 16 * k + 200 < cLine
theorem RoomC.mono {j k:Nat} {A:Around} (r:RoomC k A) (h:j≤k):RoomC j A:=⟨by have:=r.dp;lia,by have:=r.un;lia⟩
end L2
namespace L2
open PySem PySem.Spec PyProof.Rows
section
variable {X:Cx} {k:Nat} {f:Addr} {fd:FuncData} {ps:List Str} {sp:Sp} {dvs:List V} {ds:List Value} {x y n cx:Str} {i j:Nat} {p py pos cpos epos hpos np:Pos} {e:Expr} {es:List Expr} {t:TA} {c:Value} {b₀:Stmt} {suite:List Stmt} {tb:Addr→TS}
def tTrya (K:PySem.W.Frag) (sp:Sp) (dvs:List V) (c:Value) (i j:Nat) (t:TA) (tb:Addr→TS):TS:=fun D σ H=>t σ H fun vs H1=>sp (vs ++ dvs) H1 (fun v H2=>D.nx (σ.set j (some v)) H2) (xCatch K c i tb D σ)
theorem ps_trya (F:FnOk X.prog X.w X.K X.mg X.base (Exc1 X.prog X.w) k f fd ps sp) (hr:Room k X.A) (hg:Gl X x) (hm:X.mg x=some (.ref f)) (hk:PySem.W.keepIn X.K (.ref f)=true) (hb:Binds X.K fd ps ds) (hd:Vals dvs ds)
  (ha:PA X.nox (e :: es) t) (hst:X.stack=X.env :: X.outer) (hfr:X.env.frame=some X.env.locals) (hgC:Gl X cx) (hmC:X.mg cx=some c) (hN:X.N.Nodup) (hi:X.N[i]?=some n) (hkn:X.env.scope.names.lookup n=some .local)
  (hj:X.N[j]?=some y) (hy:Loc X.env.scope y)
  (hsu:∀ ea,PSs (X.caught ea) (b₀ :: suite) (tb ea)) (hdbC:(cx == ("__debug__":Str))=false:=by decide) (hs:swapsWith (.Call (.Name x p) (e :: es) [] cpos) (some (.Name y py)) epos.line X.env=pure false:=by rfl)
  (hdb:(x == ("__debug__":Str))=false:=by decide) (he:starEach (e :: es) X.env=(false,eval e X.env) :: starEach es X.env:=by rfl) (hpl:(backTo cpos (starEach es X.env)).any (·.1)=false:=by rfl)
  (hf:X.fn y=true∨X.env.scope.names.lookup y=some .local:=by first | exact .inl rfl | exact .inr rfl | assumption) :
  PS X (.Try [.Assign [.Name y py] (.Call (.Name x p) (e :: es) [] cpos) epos] [.ExceptHandler (some (.Name cx np)) (some n) (b₀ :: suite) hpos] [] [] pos) (tTrya X.K sp dvs c i j t tb):=by
 intro pins s σ H D I h
 refine wpAny_Try_except (wpAny_execs_cons (wpAny_Assign_Name ?_ hs))
 refine wpAny_Call_Name_kw (J48 I hg hm ?_ hdb)
 refine PySem.W.callWith_K (h₀:=X.base) I.ok.mod.kin hk (wpAny_mono (ha cpos pins s σ H _ (I.wish _) h) (fun us s1 ⟨vs,H1,I1,r,q⟩=>⟨I1.kIn,?_⟩) fun _ _ z=>False.elim z) he hpl
 have I1:=I1.unwish
 have r2:Vals (vs ++ dvs) (us ++ ds):=r.append hd
 have hl:(us ++ ds).length=ps.length:=by rw [← r2.length];exact F.len _ _ _ _ q
 refine wpAny_call (codeAny_mono (F.run X.A X.stack s1 H1 ⟨us,[]⟩ (us ++ ds) (vs ++ dvs) _ _ hr I1.env0 (hb s1 us I1.kIn hl) r2 q) fun r s' hq=>?_)
 cases r with
 | error e=>exact caught_at hst hfr hgC hmC hN hi hkn hsu I1 hq hdbC
 | ok fl =>
  cases fl with
  | ret u =>
   obtain ⟨v,H2,I2,rv,q2⟩:=I1.after hq
   exact J4h I2 hN hj hy rv (fun s3 I3=>wpAny_execs_nil (wpAny_execs_nil (show SP X pins D .next s3 from ⟨_,H2,I3,q2⟩))) hf
  | next=>exact False.elim hq
  | brk=>exact False.elim hq
  | cont=>exact False.elim hq
end
end L2
namespace L2
open PySem PySem.Spec PyProof.Rows
end L2
namespace L2
open PySem PySem.Spec PyProof.Rows
def PTs (X:Cx) (ifs:List Expr) (t:TT):Prop :=
 ∀ (pins:List (Addr × Obj)) (s:Shared) (σ:St) (H:Hp) (Q:Bool→Hp→Prop),Inv X pins σ H s→t σ H Q→
  wpAny (model X.prog X.w) X.A (forIn ifs true fun c r=>if r=true then do let ok ← isTrue c X.env (eval c X.env);pure (ForInStep.yield ok) else pure (ForInStep.yield r)) (TP X pins σ Q) X.xe s
def tYes:TT:=fun _ H Q=>Q true H
theorem J42 {X:Cx}:PTs X [] tYes:=fun _ s σ H Q I h=>wpAny_tests_nil ⟨H,I,h⟩
theorem pts_one {X:Cx} {c:Expr} {t:TT} (h:PT X c t):PTs X [c] t:=fun pins s σ H Q I q=>wpAny_tests_one (h pins s σ H Q I q)
theorem J1p {prog:Program} {w:World} {A:Around} {R:Result→Shared→Prop} {s:Shared} {elt target iter:Expr} {ifs:List Expr} {scope:Scope} {pos:Pos} {it acc:Value} {env:Env} (J:Nat→Shared→Prop)
  (turn:∀ n s,J n s→wpAny (model prog w) A (pyNext it) (fun r s₁=>match r with
   | none=>R (.ok .next) s₁
   | some v=>wpAny (model prog w) A (letOwnedTupleGo target it v) (fun _ s₁'=>wpAny (model prog w) A (assign target env v) (fun _ s₂ =>
     wpAny (model prog w) A (forIn ifs true fun c r=>if r=true then do let ok ← isTrue c env (eval c env);pure (ForInStep.yield ok) else pure (ForInStep.yield r)) (fun ok s₃ =>
      if ok=true then wpAny (model prog w) A (eval elt env) (fun x s₄ =>
       wpAny (model prog w) A (call (.builtin "list.append") [acc,x]) (fun _ s₅=>∃ m,m < n∧J m s₅) (fun _ _=>False) s₄) (fun _ _=>False) s₃
      else ∃ m,m < n∧J m s₃) (fun _ _=>False) s₂) (fun _ _=>False) s₁') (fun _ _=>False) s₁) (fun _ _=>False) s)
  (n:Nat) (h:J n s):codeAny (model prog w) A (.compLoop (.ListComp elt [⟨target,iter,ifs,0⟩] scope pos) 0 it acc env) R s:=by
 refine codeAny_loop rfl J (fun n s hI=>?_) n h
 show wpAny _ _ ((compTurn (.ListComp elt [⟨target,iter,ifs,0⟩] scope pos) 0 it acc env).onRaise (fun x=>do noteFrame x env;theTreesLotGoes x)) _ _ s
 refine wpAny_noted ?_
 rw [compTurn_list]
 refine wpAny_bind (wpAny_standAt (wpAny_bind (wpAny_mono (turn n s hI) (fun r s₁ h₁=>?_) fun _ _ h'=>False.elim h')))
 cases r with
 | none=>exact wpAny_pure h₁
 | some v =>
  refine wpAny_bind (wpAny_mono h₁ (fun _ s₁' h₁'=>?_) fun _ _ h'=>False.elim h')
  refine wpAny_bind (wpAny_mono h₁' (fun _ s₂ h₂=>wpAny_bind (wpAny_mono h₂ (fun ok s₃ h₃=>?_) fun _ _ h'=>False.elim h')) fun _ _ h'=>False.elim h')
  cases ok with
  | false=>exact wpAny_pure ⟨rfl,h₃⟩
  | true =>
   exact wpAny_bind (wpAny_bind (wpAny_mono h₃ (fun x s₄ h₄=>wpAny_bind (wpAny_mono h₄ (fun _ s₅ h₅=>wpAny_pure (wpAny_pure ⟨rfl,h₅⟩)) fun _ _ h'=>False.elim h')) fun _ _ h'=>False.elim h'))
def LCW (J:It) (tc:TT) (te:TE) (σ:St) (js:List Nat) (Q:VK) (H1:Hp) (d:Addr):Prop:=∃ W:Nat→Nat→List V→Hp→Prop,(∃ m,W 0 m [] (upd H1 d (.lst [])))∧
 ∀ i m ys H2,W i m ys H2→H2 d=some (.lst ys)∧((J.stop i H2∧Q (.ref d) H2)∨(J.go i H2∧ys.length < sizeLine∧∀ v H3,J.yld i H2 v H3→
  tc (some v :: capv σ js) H3 fun b H4=>if b=true then te (some v :: capv σ js) H4 fun y H5=>H5 d=some (.lst ys)∧∃ m',m' < m∧W (i + 1) m' (ys ++ [y]) (upd H5 d (.lst (ys ++ [y])))
   else ∃ m',m' < m∧W (i + 1) m' ys H4))
def tLC (wi:TI) (tc:TT) (te:TE) (js:List Nat):TE:=fun σ H Q=>wi σ H fun J H1=>∀ d,H1 d=none→LCW J tc te σ js Q H1 d
section
variable {X:Cx} {elt iter:Expr} {ifs:List Expr} {x y:Str} {px py:Pos} {scope:Scope} {cl:List (Str × Addr)} {pos spos:Pos} {wi:TI} {tc:TT} {te:TE} {caps:List Str} {js:List Nat} {i:Nat}
theorem comp_core {p0:Pos} {use:Option (Value→Sem Unit)} {QV:Value→Shared→Prop} {Q:VK} {pins:List (Addr × Obj)} {s:Shared} {σ:St} {H:Hp} (hc:X.calm=true) (hp:PI X (.Name x px) iter wi)
  (he:∀ (C:Addr) (fp:List Addr) (s:Shared) (H:Hp),PE (X.block (x :: caps) scope cl C fp s H) elt te)
  (ht:∀ (C:Addr) (fp:List Addr) (s:Shared) (H:Hp),PTs (X.block (x :: caps) scope cl C fp s H) ifs tc)
  (hcell:∀ p∈scope.names,p.2≠.cell) (hnames:∀ p∈scope.names,p.2=.local→scope.names.lookup p.1=some .local) (hnd:(x :: caps).Nodup)
  (hsub:∀ p∈cl,X.env.cells.lookup p.1=some p.2) (hhas:∀ p∈scope.names,p.2=.free→∃ c,cl.lookup p.1=some c) (hlen:caps.length=js.length)
  (hcaps:∀ (k:Nat) (c:Str),caps[k]?=some c→∃ (j:Nat) (a:Addr),js[k]?=some j∧X.N[j]?=some c∧X.env.scope.names.lookup c=some .cell∧cl.lookup c=some a∧(relabel scope X.env).names.lookup c=some .cell)
  (hclos:closureFor scope X.env=pure cl) (hkind:scope.kind=.function) (hx:scope.names.lookup x=some .local) (hs:∀ v,foldedSetIterable iter X.env v=pure v)
  (I:Inv X pins σ H s) (h:tLC wi tc te js σ H Q)
  (fin:∀ (d:Addr) (H':Hp) (s5:Shared) (C:Addr),Inv X pins σ H' s5→Q (.ref d) H'→(∃ m,s5.heap.Ns C m)→FpOk X pins H' C→compPost (model X.prog X.w) X.A X.xe use QV (.ref d) C (.ok .next) s5) :
  wpAny (model X.prog X.w) X.A (comprehension (.ListComp elt [⟨.Name x px,iter,ifs,0⟩] scope pos) scope X.env p0 (newList []) false (eval iter X.env) use) QV X.xe s:=by
 refine wpAny_comprehension_free (cl:=cl) (use:=use) (Q:=QV) rfl hs hclos hkind hnames (thn (hp pins s σ H _ I h) fun v s1 h1=>thn h1 fun itv s2 h2=>?_)
 obtain ⟨it,fp,tn,J,H2,e,I2,T,st2,f2,h3⟩:=h2
 subst e
 have hfr:H2 s2.heap.objs.size=none:=I2.hok.fresh (Nat.le_refl _)
 obtain ⟨W,⟨m0,w0⟩,hW⟩:=h3 s2.heap.objs.size hfr
 refine wpAny_newObj_type (wpAny_newFunctionEnv hcell (by intro y hy;simp at hy) (fun h₁ hns₁ hsb₁=>?_) hkind)
 dsimp only at hns₁ hsb₁ ⊢
 generalize hH2:s2.heap.push { cls:=.type "list",dict:=none,data:=.seq ([]:List Value).toArray }=G at hns₁ hsb₁ ⊢
 have hC:G.objs.size=s2.heap.objs.size + 1:=by rw [← hH2,Heap.size_push]
 have hDC:s2.heap.objs.size≠G.objs.size:=by rw [hC];exact Nat.ne_of_lt (Nat.lt_succ_self _)
 have hCle:s2.heap.objs.size≤G.objs.size:=by rw [hC];exact Nat.le_succ _
 have old:∀ b o,s2.heap.get? b=some o→h₁.get? b=some o:=fun b o e=>hsb₁.extBut b o (by rw [hC];exact Nat.ne_of_lt (Nat.lt_succ_of_lt (Heap.lt_size e))) (Heap.get?_push_of_some _ (hH2 ▸ Heap.get?_push_of_some _ e))
 have hacc:h₁.get? s2.heap.objs.size=some { cls:=.type "list",dict:=none,data:=.seq ([]:List Value).toArray }:=hsb₁.extBut _ _ hDC (Heap.get?_push_of_some _ (hH2 ▸ Heap.get?_push_size _ rfl))
 have fl:∀ b∈fp,b < s2.heap.objs.size:=fun b hb=>by
  obtain ⟨o,e,_⟩:=T.obj _ _ st2 b hb
  exact Heap.lt_size e
 have hDf:s2.heap.objs.size ∉ fp:=fun hm=>Nat.lt_irrefl _ (fl _ hm)
 have hok1:HOk X.prog X.w (upd H2 s2.heap.objs.size (.lst [])) h₁:=I2.hok.laid old (Nat.le_refl _) ⟨Nat.zero_le _,[],0,.nil,hacc⟩
 have IY0:∀ tk,Inv (X.block (x :: caps) scope cl G.objs.size fp s2 H2) [] (none :: capv σ js) (upd H2 s2.heap.objs.size (.lst [])) { s2 with heap:=h₁,toks:=tk }:=fun tk=>by
  refine ⟨J3a I2 hCle f2 fl hkind hcell hsub hhas,rfl,I2.bare,Un.laid old (Nat.le_refl _) hfr,⟨_,hns₁,fun k z v e1 e2 e3=>?_⟩,fun z c e=>?_,?_,fun z c e=>?_,fun p hp=>absurd hp (by simp),hok1,?_⟩
  ·cases k with
   | zero=>simp at e2
   | succ k =>
    have e1':caps[k]?=some z:=by simpa using e1
    have e2':(capv σ js)[k]?=some (some v):=by simpa using e2
    obtain ⟨j,a,q1,q2,q3,q4,q5⟩:=hcaps k z e1'
    obtain ⟨j',r1,r2⟩:=J50 e2'
    rw [q1] at r1;cases r1
    obtain ⟨m,hm,hl⟩:=I2.loc
    obtain ⟨u,ru,lu⟩:=hl j z v q2 r2 (.inr (.inl q3))
    refine ⟨u,ru,.inr ⟨.inl q5,a,q4,?_⟩⟩
    rcases lu with ⟨k1,_⟩ | ⟨_,c,ec,o,ho,hd⟩
    ·have k1':X.env.scope.names.lookup z=some .local:=k1
     rw [q3] at k1';cases k1'
    ·have:=hsub _ (PySem.mem_of_lookup q4)
     rw [ec] at this;cases this
     exact ⟨o,old _ _ ho,hd⟩
  ·obtain ⟨v,o,ho,hd⟩:=I2.cell z c (hsub _ (PySem.mem_of_lookup e))
   exact ⟨v,o,old _ _ ho,hd⟩
  ·show upd H2 s2.heap.objs.size (.lst []) G.objs.size=none
   rw [Jf hDC.symm]
   exact I2.hok.fresh hCle
  ·have ec:=hsub _ (PySem.mem_of_lookup e)
   obtain ⟨v,o,ho,hd⟩:=I2.cell z c ec
   rw [Jf (Nat.ne_of_lt (Heap.lt_size ho))]
   exact I2.freeC z c ec
  ·show (none :: capv σ js).length=(x :: caps).length
   unfold capv
   simp [hlen]
 have stat:∀ {H':Hp},(∀ b∈fp,H' b=none)→∀ b∈fp,FpOk (X.block (x :: caps) scope cl G.objs.size fp s2 H2) [] H' b:=fun hn b hb =>
  ⟨hn b hb,Nat.ne_of_lt (Nat.lt_of_lt_of_le (fl b hb) hCle),(J3a (x:=x) (caps:=caps) I2 hCle f2 fl hkind hcell hsub hhas).exfs b hb,.inl hb,fun z c e=>(f2 b hb).2.2.2.2.1 z c (hsub _ (PySem.mem_of_lookup e)),fun p hp=>absurd hp (by simp)⟩
 have hxl:(relabel scope X.env).names.lookup x=some .local:=lookup_relabel_local hx
 have loop:∀ tk,codeAny (model X.prog X.w) X.A (.compLoop (.ListComp elt [⟨.Name x px,iter,ifs,0⟩] scope pos) 0 (.ref it) (.ref s2.heap.objs.size) (compEnvC scope cl G.objs.size X.env))
   (compPost (model X.prog X.w) X.A X.xe use QV (.ref s2.heap.objs.size) G.objs.size) { s2 with heap:=h₁,toks:=tk }:=fun tk=>by
  refine J1p (fun m s'=>∃ (k:Nat) (o:Option V) (ys:List V) (H':Hp),Inv (X.block (x :: caps) scope cl G.objs.size fp s2 H2) [] (o :: capv σ js) H' s'∧tn k s'.heap∧(∀ b∈fp,H' b=none)∧W k m ys H') ?_ m0
   ⟨0,none,[],_,IY0 tk,T.keep _ _ _ st2 fun b hb o e=>old b o e,fun b hb=>by
    rw [Jf (show b≠s2.heap.objs.size from fun e=>hDf (by rw [← e];exact hb))]
    exact (f2 b hb).1,w0⟩
  rintro m s3 ⟨k,o,ys,H',I3,st3,fr3,w3⟩
  obtain ⟨hd,hW3⟩:=hW k m ys H' w3
  rcases hW3 with ⟨stop,q⟩ | ⟨go,hz,step⟩
  ·refine thn (T.done (X.block (x :: caps) scope cl G.objs.size fp s2 H2) rfl rfl rfl hc k [] s3 _ _ (fun _ _=>False) I3 (stat fr3) st3 stop) fun r s4 ⟨hr,I4⟩=>?_
   subst hr
   have J5:Inv X pins σ H' s4:=I2.call' (ch:=fp) I4.os I4.base I4.hok I4.bare fun b hb=>⟨(f2 b hb).2.2.2.1,(f2 b hb).2.1,(f2 b hb).2.2.2.2.1,(f2 b hb).2.2.2.2.2⟩
   exact fin _ H' s4 _ J5 q (let ⟨m,q,_⟩:=I4.loc;⟨m,q⟩) (I2.fpOk hCle I4.free)
  ·refine thn (T.item (X.block (x :: caps) scope cl G.objs.size fp s2 H2) rfl rfl rfl hc k [] s3 _ _ (fun _ _=>False) I3 (stat fr3) st3 go) fun r s4 ⟨u,hr,h4⟩=>?_
   subst hr
   refine thn h4 fun _ s5 ⟨v,H5,I5,r5,y5,st5,fr5⟩=>?_
   have I5':=I5.pinned (stat fr5) (T.obj _ _ st5)
   have stp:=step v H5 y5
   refine thn (J1e (X:=X.block (x :: caps) scope cl G.objs.size fp s2 H2) (i:=0) (pos:=px) hnd rfl (.inl hxl) (.inr hxl) _ s5 _ _ _ u
    (fun σ' H'=>σ'=some v :: capv σ js∧H'=H5) I5' r5 ⟨rfl,rfl⟩) fun _ s6 ⟨σ6,H6,I6,q6⟩=>?_
   obtain ⟨rfl,rfl⟩:=q6
   refine thn (ht _ _ _ _ _ s6 _ _ _ I6 stp) fun ok s7 ⟨H7,I7,q7⟩=>?_
   have back:∀ {s8:Shared} {H8:Hp} {o8:Option V} {ys8:List V} {m':Nat},Inv (X.block (x :: caps) scope cl G.objs.size fp s2 H2) ([] ++ pinsAt fp s5.heap) (o8 :: capv σ js) H8 s8→m' < m→W (k + 1) m' ys8 H8→
     ∃ m',m' < m∧∃ (k:Nat) (o:Option V) (ys:List V) (H':Hp),Inv (X.block (x :: caps) scope cl G.objs.size fp s2 H2) [] (o :: capv σ js) H' s8∧tn k s8.heap∧(∀ b∈fp,H' b=none)∧W k m' ys H':=fun {s8 H8 o8 ys8 m'} I8 hm w8=>by
    refine ⟨m',hm,k + 1,o8,ys8,H8,I8.unpinned,T.keep _ _ _ st5 fun b hb o e=>(I8.pin (b,o) (List.mem_append_right _ (List.mem_append_right _ (J1n hb e)))).1,fun b hb=>?_,w8⟩
    obtain ⟨o,e,d⟩:=T.obj _ _ st5 b hb
    exact (I8.pin (b,o) (List.mem_append_right _ (List.mem_append_right _ (J1n hb e)))).2.1
   cases ok with
   | false =>
    have q7':∃ m',m' < m∧W (k + 1) m' ys H7:=by
     have:=q7
     rwa [if_neg (by decide)] at this
    obtain ⟨m',hm,w8⟩:=q7'
    exact back I7 hm w8
   | true =>
    have q7':te (some v :: capv σ js) H7 fun y H5=>H5 s2.heap.objs.size=some (.lst ys)∧∃ m',m' < m∧W (k + 1) m' (ys ++ [y]) (upd H5 s2.heap.objs.size (.lst (ys ++ [y]))):=by
     have:=q7
     rwa [if_pos rfl] at this
    refine (show wpAny _ _ _ _ _ _ from thn (he _ _ _ _ _ s7 _ _ _ I7 q7') fun u8 s8 ⟨v8,H8,I8,r8,hd8,m',hm,w8⟩=>?_)
    refine thn (J1s (X:=X.block (x :: caps) scope cl G.objs.size fp s2 H2) _ s8 _ _ (.ref s2.heap.objs.size) [v8] (.ref s2.heap.objs.size) [u8]
     (fun _ H'=>H'=upd H8 s2.heap.objs.size (.lst (ys ++ [v8]))) I8 rfl (.cons r8 .nil) ⟨s2.heap.objs.size,_,v8,rfl,rfl,hd8,hz,rfl⟩) fun _ s9 ⟨_,H9,I9,_,q9⟩=>?_
    subst q9
    exact back I9 hm w8
 have st1:tn 0 h₁:=T.keep _ _ _ st2 fun b hb o e=>old b o e
 exact codeAny_compStart_list (loop _) (T.self X.A 0 _ _ _ st1 (loop _))
def capsOk (X:Cx) (scope:Scope) (cl:List (Str × Addr)) (caps:List Str) (js:List Nat):Bool :=
 (caps.zip js).all fun q=>X.N[q.2]? == some q.1 && X.env.scope.names.lookup q.1 == some .cell && (cl.lookup q.1).isSome && (relabel scope X.env).names.lookup q.1 == some .cell
theorem capsOk.get (hlen:caps.length=js.length) (h:capsOk X scope cl caps js=true):∀ (k:Nat) (c:Str),caps[k]?=some c→∃ (j:Nat) (a:Addr),js[k]?=some j∧X.N[j]?=some c∧X.env.scope.names.lookup c=some .cell∧cl.lookup c=some a∧(relabel scope X.env).names.lookup c=some .cell:=fun k c hk=>by
 have hkl:k < caps.length:=(List.getElem?_eq_some_iff.mp hk).1
 have hj:js[k]?=some (js[k]'(hlen ▸ hkl)):=List.getElem?_eq_getElem (hlen ▸ hkl)
 have hm:(c,js[k]'(hlen ▸ hkl))∈caps.zip js:=by
  refine List.mem_iff_getElem?.mpr ⟨k,?_⟩
  rw [List.getElem?_zip_eq_some]
  exact ⟨hk,hj⟩
 have:=List.all_eq_true.mp h _ hm
 simp only [Bool.and_eq_true,beq_iff_eq] at this
 obtain ⟨⟨⟨q1,q2⟩,q3⟩,q4⟩:=this
 obtain ⟨a,ha⟩:=Option.isSome_iff_exists.mp q3
 exact ⟨_,a,hj,q1,q2,ha,q4⟩
def freeOk (scope:Scope) (cl:List (Str × Addr)):Bool:=scope.names.all fun p=>p.2 != .free || (cl.lookup p.1).isSome
theorem freeOk.get (h:freeOk scope cl=true):∀ p∈scope.names,p.2=.free→∃ c,cl.lookup p.1=some c:=fun p hp' e=>by
 have:=List.all_eq_true.mp h p hp'
 rw [e] at this
 exact Option.isSome_iff_exists.mp (by simpa using this)
theorem pe_lc (hc:X.calm=true) (hp:PI X (.Name x px) iter wi) (hclos:closureFor scope X.env=pure cl)
  (ht:∀ (C:Addr) (fp:List Addr) (s:Shared) (H:Hp),PTs (X.block (x :: caps) scope cl C fp s H) ifs tc)
  (he:∀ (C:Addr) (fp:List Addr) (s:Shared) (H:Hp),PE (X.block (x :: caps) scope cl C fp s H) elt te)
  (hcell:∀ p∈scope.names,p.2≠.cell) (hnames:∀ p∈scope.names,p.2=.local→scope.names.lookup p.1=some .local) (hnd:(x :: caps).Nodup)
  (hsub:∀ p∈cl,X.env.cells.lookup p.1=some p.2)
  (hhas:freeOk scope cl=true:=by rfl) (hlen:caps.length=js.length:=by rfl) (hcaps:capsOk X scope cl caps js=true:=by rfl)
  (hkind:scope.kind=.function:=by rfl) (hx:scope.names.lookup x=some .local:=by rfl) (hs:∀ v,foldedSetIterable iter X.env v=pure v:=by intro _;rfl) :
  PE X (.ListComp elt [⟨.Name x px,iter,ifs,0⟩] scope pos) (tLC wi tc te js):=by
 intro pins s σ H Q I h
 rw [eval_ListComp]
 refine comp_core (use:=none) hc hp he ht hcell hnames hnd hsub (freeOk.get hhas) hlen (capsOk.get hlen hcaps) hclos hkind hx hs I h fun d H' s5 C J5 q hC fp=>?_
 obtain ⟨m,nsC⟩:=hC
 exact ⟨m,nsC,fun h' hs'=>⟨.ref d,H',J5.turned (h':=h') (t':=s5.toks) (it:=C) (fun b o hb e=>(hs'.2 b hb).trans e) fp.1 fp.2.1 fp.2.2.2.1 fp.2.2.2.2.1 fp.2.2.2.2.2,rfl,q⟩⟩
def tSetLC (t:TE) (i:Nat):TS:=fun D σ H=>t σ H fun v H'=>D.nx (σ.set i (some v)) H'
theorem ps_lc (hN:X.N.Nodup) (hi:X.N[i]?=some y) (hy:Loc X.env.scope y) (hc:X.calm=true) (hp:PI X (.Name x px) iter wi) (hclos:closureFor scope X.env=pure cl)
  (ht:∀ (C:Addr) (fp:List Addr) (s:Shared) (H:Hp),PTs (X.block (x :: caps) scope cl C fp s H) ifs tc)
  (he:∀ (C:Addr) (fp:List Addr) (s:Shared) (H:Hp),PE (X.block (x :: caps) scope cl C fp s H) elt te)
  (hcell:∀ p∈scope.names,p.2≠.cell) (hnames:∀ p∈scope.names,p.2=.local→scope.names.lookup p.1=some .local) (hnd:(x :: caps).Nodup)
  (hsub:∀ p∈cl,X.env.cells.lookup p.1=some p.2)
  (hhas:freeOk scope cl=true:=by rfl) (hlen:caps.length=js.length:=by rfl) (hcaps:capsOk X scope cl caps js=true:=by rfl)
  (hf:X.fn y=true∨X.env.scope.names.lookup y=some .local:=by first | exact .inl rfl | exact .inr rfl | assumption)
  (hsw:swapsWith (.ListComp elt [⟨.Name x px,iter,ifs,0⟩] scope pos) (some (.Name y py)) spos.line X.env=pure true:=by rfl)
  (hkind:scope.kind=.function:=by rfl) (hx:scope.names.lookup x=some .local:=by rfl) (hs:∀ v,foldedSetIterable iter X.env v=pure v:=by intro _;rfl) :
  PS X (.Assign [.Name y py] (.ListComp elt [⟨.Name x px,iter,ifs,0⟩] scope pos) spos) (tSetLC (tLC wi tc te js) i):=by
 intro pins s σ H D I h
 rw [exec_Assign_Name_used _ _ _ _ hsw]
 refine wpAny_bind (wpAny_standAt (wpAny_bind ?_))
 show wpAny _ X.A (do let _ ← comprehension (.ListComp elt [⟨.Name x px,iter,ifs,0⟩] scope pos) scope X.env _ (newList []) false (eval iter X.env) (some (assign (.Name y py) X.env))) _ _ s
 refine wpAny_bind (wpAny_mono (comp_core (use:=some (assign (.Name y py) X.env)) (QV:=fun _ s'=>SP X pins D .next s') hc hp he ht hcell hnames hnd hsub (freeOk.get hhas) hlen (capsOk.get hlen hcaps) hclos hkind hx hs I h fun d H' s5 C J5 q hC fp=>?_)
  (fun _ s' hq=>wpAny_pure (wpAny_pure hq)) fun _ _ e=>e)
 obtain ⟨mC,nsC⟩:=hC
 show wpAny _ X.A (assign (.Name y py) X.env (.ref d)) _ _ s5
 refine wpAny_assign_Name ?_
 refine J4g J5 hN hi hy (v:=.ref d) rfl (fun s6 I6 keep6=>?_) hf
 obtain ⟨a,sa,ha⟩:=keep6
 have aC:a≠C:=by
  rcases ha with e | e
  ·rw [e];exact Ne.symm fp.2.1
  ·exact fp.2.2.2.2.1 y a e
 exact ⟨mC,nsC.sameBut sa (Ne.symm aC),fun h' hs'=>⟨_,H',I6.turned (h':=h') (t':=s6.toks) (it:=C) (fun b o hb e=>(hs'.2 b hb).trans e) fp.1 fp.2.1 fp.2.2.2.1 fp.2.2.2.2.1 fp.2.2.2.2.2,q⟩⟩
end
theorem lc_over {J:It} {H1:Hp} {tc:TT} {te:TE} {σ:St} {js:List Nat} {Q:VK} {d:Addr} (n:Nat) (g:Nat→Bool) (f:Nat→V) (hd:H1 d=none) (hn:n≤1000)
  (hgo:∀ i H,i < n→Same H1 H→J.go i H) (hst:∀ H,Same H1 H→J.stop n H) (vv:Nat→V) (hy:∀ i H v H',i < n→Same H1 H→J.yld i H v H'→H'=H∧v=vv i)
  (hs:∀ i H Qt,i < n→Same H1 H→(∀ H',Same H H'→Qt (g i) H')→tc (some (vv i) :: capv σ js) H Qt)
  (he:∀ i H Qe,i < n→g i=true→Same H1 H→(∀ H',Same H H'→Qe (f i) H')→te (some (vv i) :: capv σ js) H Qe)
  (hq:∀ H',Same H1 H'→H' d=some (.lst (((List.range n).filter g).map f))→Q (.ref d) H') :
  ∃ W:Nat→Nat→List V→Hp→Prop,(∃ m,W 0 m [] (upd H1 d (.lst [])))∧
   ∀ i m ys H2,W i m ys H2→H2 d=some (.lst ys)∧((J.stop i H2∧Q (.ref d) H2)∨(J.go i H2∧ys.length < sizeLine∧∀ v H3,J.yld i H2 v H3→
    tc (some v :: capv σ js) H3 fun b H4=>if b=true then te (some v :: capv σ js) H4 fun y H5=>H5 d=some (.lst ys)∧∃ m',m' < m∧W (i + 1) m' (ys ++ [y]) (upd H5 d (.lst (ys ++ [y])))
     else ∃ m',m' < m∧W (i + 1) m' ys H4)):=by
 have s0:∀ o,Same H1 (upd H1 d o):=fun o b u e=>by rw [Jf (J9 e hd)];exact e
 refine ⟨fun i m ys H=>m=n - i∧i≤n∧ys=((List.range i).filter g).map f∧Same H1 H∧H d=some (.lst ys),⟨n,rfl,Nat.zero_le _,rfl,s0 _,J1⟩,?_⟩
 rintro i m ys H2 ⟨rfl,hi,rfl,sm,h2⟩
 refine ⟨h2,?_⟩
 by_cases hlt:i < n
 ·refine .inr ⟨hgo i H2 hlt sm,?_,fun v H3 y3=>?_⟩
  ·have h1:(((List.range i).filter g).map f).length≤i:=by
    rw [List.length_map]
    exact Nat.le_trans (List.length_filter_le _ _) (by rw [List.length_range];exact Nat.le_refl _)
   exact Jx (by omega)
  ·obtain ⟨rfl,rfl⟩:=hy i H2 v H3 hlt sm y3
   refine hs i H3 _ hlt sm fun H4 s4=>?_
   cases hg:g i with
   | false =>
    rw [if_neg (by decide)]
    refine ⟨n - (i + 1),by omega,rfl,hlt,?_,sm.trans s4,s4 _ _ h2⟩
    rw [List.range_succ,List.filter_append,List.map_append]
    simp [hg]
   | true =>
    rw [if_pos rfl]
    refine he i H4 _ hlt hg (sm.trans s4) fun H5 s5=>⟨s5 _ _ (s4 _ _ h2),n - (i + 1),by omega,rfl,hlt,?_,?_,J1⟩
    ·rw [List.range_succ,List.filter_append,List.map_append]
     simp [hg]
    ·intro b u e
     rw [Jf (J9 e hd)]
     exact s5 _ _ (s4 _ _ (sm _ _ e))
 ·have e:i=n:=by omega
  subst e
  exact .inl ⟨hst H2 sm,hq H2 sm h2⟩
theorem Same.tup {K:PySem.W.Frag} {H H':Hp} {a:Addr} {xs:List V} (e:Same H H') (h:SqT K H a xs):SqT K H' a xs:=by
 rcases h with (h | ⟨o,h⟩) | h
 ·exact .inl (.inl (e _ _ h))
 ·exact .inl (.inr ⟨o,e _ _ h⟩)
 ·exact .inr h
theorem pick_all {α:Type} (G:α→Bool) (F:α→V):∀ xs:List α,
  ((List.range xs.length).filter fun i=>match xs[i]? with | some v=>G v | none=>false).map (fun i=>match xs[i]? with | some v=>F v | none=>V.non)=(xs.filter G).map F
 | []=>rfl
 | a :: r=>by
  have ih:=pick_all G F r
  rw [List.length_cons,List.range_succ_eq_map,List.filter_cons,List.filter_map,List.filter_cons]
  have e:(fun i=>match (a :: r)[i]? with | some v=>G v | none=>false) ∘ Nat.succ=fun i=>match r[i]? with | some v=>G v | none=>false:=by
   funext i;simp
  have e2:(fun i=>match (a :: r)[i]? with | some v=>F v | none=>V.non) ∘ Nat.succ=fun i=>match r[i]? with | some v=>F v | none=>V.non:=by
   funext i;simp
  rw [e]
  cases hg:G a with
  | true =>
   simp only [List.getElem?_cons_zero,hg,if_true,List.map_cons,List.map_map]
   rw [e2,ih]
  | false =>
   simp only [List.getElem?_cons_zero,hg,Bool.false_eq_true,if_false,List.map_map]
   rw [e2,ih]
section
variable {α:Type} {K:PySem.W.Frag} {a:Addr} {H1:Hp} {tc:TT} {te:TE} {σ:St} {js:List Nat} {Q:VK} {d:Addr}
theorem lc_seq {J:It} (e:α→V) (xs:List α) (G:α→Bool) (F:α→V) (hn:xs.length≤1000) (hd:H1 d=none)
  (hgo:∀ i H,i < xs.length→Same H1 H→J.go i H) (hst:∀ H,Same H1 H→J.stop xs.length H) (hy:∀ i H v H',i < xs.length→Same H1 H→J.yld i H v H'→H'=H∧(xs.map e)[i]?=some v)
  (hs:∀ v∈xs,∀ H Qt,Same H1 H→(∀ H',Same H H'→Qt (G v) H')→tc (some (e v) :: capv σ js) H Qt)
  (he:∀ v∈xs,∀ H Qe,G v=true→Same H1 H→(∀ H',Same H H'→Qe (F v) H')→te (some (e v) :: capv σ js) H Qe)
  (hq:∀ H',Same H1 H'→H' d=some (.lst ((xs.filter G).map F))→Q (.ref d) H'):LCW J tc te σ js Q H1 d:=by
 have at_:∀ i,i < xs.length→∃ v,xs[i]?=some v∧v∈xs:=fun i hi=>⟨_,List.getElem?_eq_getElem hi,List.getElem_mem hi⟩
 refine lc_over xs.length (fun i=>match xs[i]? with | some v=>G v | none=>false) (fun i=>match xs[i]? with | some v=>F v | none=>V.non) hd hn hgo hst (fun i=>((xs.map e)[i]?).getD .non)
  (fun i H v H' hi s y=>?_) (fun i H Qt hi s k=>?_) (fun i H Qe hi hg s k=>?_) (fun H' s h=>?_)
 ·obtain ⟨e1,e2⟩:=hy i H v H' hi s y
  exact ⟨e1,by rw [e2];rfl⟩
 ·obtain ⟨v,e1,hv⟩:=at_ i hi
  rw [List.getElem?_map,e1]
  refine hs v hv H Qt s fun H' s'=>?_
  have:=k H' s'
  rw [e1] at this
  exact this
 ·obtain ⟨v,e1,hv⟩:=at_ i hi
  rw [e1] at hg
  rw [List.getElem?_map,e1]
  refine he v hv H Qe hg s fun H' s'=>?_
  have:=k H' s'
  rw [e1] at this
  exact this
 ·rw [pick_all] at h
  exact hq H' s h
theorem lc_lst (e:α→V) (xs:List α) (G:α→Bool) (F:α→V) (hx:SqL K H1 a (xs.map e)) (hn:xs.length≤1000) (hd:H1 d=none)
  (hs:∀ v∈xs,∀ H Qt,Same H1 H→(∀ H',Same H H'→Qt (G v) H')→tc (some (e v) :: capv σ js) H Qt)
  (he:∀ v∈xs,∀ H Qe,G v=true→Same H1 H→(∀ H',Same H H'→Qe (F v) H')→te (some (e v) :: capv σ js) H Qe)
  (hq:∀ H',Same H1 H'→H' d=some (.lst ((xs.filter G).map F))→Q (.ref d) H'):LCW (Itl K a) tc te σ js Q H1 d :=
 lc_seq e xs G F hn hd (fun i H hi s=>⟨_,_,s.seq hx,by rw [List.getElem?_map,List.getElem?_eq_getElem hi];rfl⟩) (fun H s=>⟨_,s.seq hx,by rw [List.length_map];exact Nat.le_refl _⟩)
  (fun i H v H' hi s y=>⟨y.1,y.2 _ (s.seq hx)⟩) hs he hq
theorem lc_rng (lo:Int) (n:Nat) (G:Nat→Bool) (F:Nat→V) (hn:n≤1000) (hd:H1 d=none)
  (hs:∀ i,i < n→∀ H Qt,Same H1 H→(∀ H',Same H H'→Qt (G i) H')→tc (some (.int (lo + i)) :: capv σ js) H Qt)
  (he:∀ i,i < n→∀ H Qe,G i=true→Same H1 H→(∀ H',Same H H'→Qe (F i) H')→te (some (.int (lo + i)) :: capv σ js) H Qe)
  (hq:∀ H',Same H1 H'→H' d=some (.lst (((List.range n).filter G).map F))→Q (.ref d) H'):LCW (Itr lo n) tc te σ js Q H1 d :=
 lc_over n G F hd hn (fun i H hi _=>hi) (fun H _=>Nat.le_refl _) (fun i=>.int (lo + i)) (fun i H v H' hi _ y=>y) (fun i H Qt hi s k=>hs i hi H Qt s k) (fun i H Qe hi hg s k=>he i hi H Qe hg s k) hq
end
theorem J31 {α:Type} (xs:List α):xs.filter (fun _=>true)=xs:=List.filter_eq_self.mpr fun _ _=>rfl
theorem J5z {X:Cx} {a b:Expr} {pos:Pos} {ta tb:TE} {r:R2} (hr:IxR X r) (ha:PE X a ta) (hb:PE X b tb) (hs:PlainIx b:=by intro _ _;rfl):PE X (.Subscript a b pos) (tOp r ta tb):=pe_ix hr ha hb hs
end L2
namespace L2
open PySem PySem.Spec PyProof.Rows
section
variable {X:Cx}
def rIndexL (K:PySem.W.Frag):V→List V→Hp→VK→Prop:=fun x vs H Q=>∃ (l:Addr) (ns:List Int) (k:Int),x=.ref l∧vs=[.int k]∧SqL K H l (ns.map V.int)∧k∈ns∧Q (.int (ns.idxOf k:Nat)) H
theorem mt_indexL:MtM X "list.index" (rIndexL X.K):=by
 intro pins s σ H x vs v us Q I rx rv h
 obtain ⟨l,ns,k,rfl,rfl,hH,hk,q⟩:=h
 cases rx
 obtain ⟨u1,rfl,⟨t,rfl⟩⟩:=rv.one
 obtain ⟨its,r',pl,hz⟩:=I.list hH
 have hi:=J1g r'
 have hlen:=hi.length
 obtain ⟨⟨cls,dd,data,sl⟩,ho,hc,n,hd⟩:=id pl.isList
 simp only at hc hd
 subst hc hd
 have hj:ns.idxOf k < ns.length:=List.idxOf_lt_length_iff.mpr hk
 have h63:=J65
 rw [List.length_map] at hz
 refine call_meets PySem.F.slot_list_index ⟨_,ho,rfl⟩ PySem.F.entry_list_index (PySem.F.args_list_index_2 _ _)
  (SeqAt.list_indexAt l its.toArray n dd sl (.int k t) (isInt k) (ns.idxOf k) (by simpa [hlen] using hj) (by lia) ?_ ?_) ⟨ho,fun y hy=>(eq_isInt k t hi y (by simpa using hy)).at _ _,⟨.int _,H,I.tok _,⟨_,rfl⟩,q⟩⟩
 ·show isInt k its[ns.idxOf k]=true
  rw [isInt_at k hi _ (by lia) hj]
  simpa using List.getElem_idxOf hj
 ·intro j hjs hlt
  show isInt k its[j]=false
  rw [isInt_at k hi j (by simpa using hjs) (by lia)]
  exact ne_of_lt_idxOf hlt _
end
def Its (lo c:Int) (n:Nat):It:=⟨fun i _=>i < n,fun i H x H'=>H'=H∧x=.int (lo + (i:Nat) * c),fun i _=>n≤i⟩
theorem turn_steps {P:Program} {w:World} {K:PySem.W.Frag} {tg:Expr} (nu:Addr) (lo c:Int) (n:Nat):Turn P w K tg (Its lo c n) [nu] nu (fun i h=>IsRangeIter h nu (lo + (i:Nat) * c) ((n:Int) - (i:Nat)) c) where
 mem:=by simp
 obj:=fun i h st b hb=>by
  obtain rfl:b=nu:=by simpa using hb
  exact ⟨_,st,fun v z=>by
   have q:Data.fields _=Data.cell v:=z
   cases q⟩
 keep:=fun i h h' st k=>k nu (by simp) _ st
 item:=by
  intro X hP hw hK hc i pins s σ H E I hf st hg
  subst hP hw hK
  obtain ⟨f0,f1,f2,f3,f4,f5⟩:=hf nu (by simp)
  refine (Walks.range (prog:=X.prog) (w:=X.w) (I.ok.hd hc) nu lo c n).item i s _ _ hg st fun v h' tk hv st' kk=>?_
  obtain ⟨t,rfl⟩:=hv
  have J:Inv X pins σ H { s with heap:=h',toks:=tk }:=I.turned (fun b o hb e=>kk b o (by simpa using hb) e) f0 f1 f3 f4 f5
  exact ⟨_,rfl,go_of (s:={ s with heap:=h',toks:=tk }) (n:="range_iterator") st' rfl rfl (by decide) ⟨.int (lo + (i:Nat) * c),H,J,⟨t,rfl⟩,⟨rfl,rfl⟩,st',fun b hb=>(hf b hb).1⟩⟩
 done:=by
  intro X hP hw hK hc i pins s σ H E I hf st hg
  subst hP hw hK
  obtain ⟨f0,f1,f2,f3,f4,f5⟩:=hf nu (by simp)
  have hg:n≤i:=hg
  exact wpAny_pyNext_range_end (I.ok.hd hc) st (by lia) fun h' eb=>⟨rfl,I.turned (t':=s.toks) (fun b o hb e=>eb b o hb e) f0 f1 f3 f4 f5⟩
 self:=fun _ _ _ _ _ st h=>wpAny_pyIter_rangeiter st h
theorem lc_stp {H1:Hp} {tc:TT} {te:TE} {σ:St} {js:List Nat} {Q:VK} {d:Addr} (lo c:Int) (n:Nat) (F:Nat→V) (hn:n≤1000) (hd:H1 d=none)
  (hs:∀ i,i < n→∀ H Qt,Same H1 H→(∀ H',Same H H'→Qt true H')→tc (some (.int (lo + (i:Nat) * c)) :: capv σ js) H Qt)
  (he:∀ i,i < n→∀ H Qe,Same H1 H→(∀ H',Same H H'→Qe (F i) H')→te (some (.int (lo + (i:Nat) * c)) :: capv σ js) H Qe)
  (hq:∀ H',Same H1 H'→H' d=some (.lst ((List.range n).map F))→Q (.ref d) H'):LCW (Its lo c n) tc te σ js Q H1 d :=
 lc_over n (fun _=>true) F hd hn (fun i H hi _=>hi) (fun H _=>Nat.le_refl _) (fun i=>.int (lo + (i:Nat) * c)) (fun i H v H' hi _ y=>y) (fun i H Qt hi s k=>hs i hi H Qt s k) (fun i H Qe hi _ s k=>he i hi H Qe s k)
  (fun H' s h=>hq H' s (by rw [J31] at h;exact h))
end L2
namespace L2
open PySem PySem.Spec PyProof.Rows
section
variable {X:Cx}
theorem J4v (K:PySem.W.Frag) (h:X.K=K:=by rfl):IxR X (rIxL K):=by subst h;exact J17
theorem ix_tupK (K:PySem.W.Frag) (h:X.K=K:=by rfl):IxR X (rIxT K):=by subst h;exact J2a
theorem J60 {e:Expr} {f:Str} {pos:Pos} {ta:TE} (K:PySem.W.Frag) (he:PE X e ta) (h:X.K=K:=by rfl) (hb:attributeBase e f X.env (eval e X.env)=eval e X.env:=by rfl):PE X (.Attribute e f pos) (tFld K ta f):=by subst h;exact Jy he hb
end
end L2
namespace L2
open PySem PySem.Spec PyProof.Rows
end L2
namespace L2
open PySem PySem.Spec PyProof.Rows
structure Refs (Pr:Addr→Nat→Prop) (xs:List V) (n:Nat):Prop where
 len:xs.length=n
 at_:∀ i,i < n→∃ q,xs[i]?=some (.ref q)∧Pr q i
theorem Refs.nil {Pr:Addr→Nat→Prop}:Refs Pr [] 0:=⟨rfl,fun i h=>absurd h (Nat.not_lt_zero _)⟩
theorem Refs.snoc {Pr:Addr→Nat→Prop} {xs:List V} {n:Nat} {q:Addr} (h:Refs Pr xs n) (hq:Pr q n):Refs Pr (xs ++ [.ref q]) (n + 1):=by
 refine ⟨by rw [List.length_append,h.len];rfl,fun i hi=>?_⟩
 by_cases c:i < n
 ·obtain ⟨p,e,hp⟩:=h.at_ i c
  exact ⟨p,by rw [List.getElem?_append_left (by rw [h.len];exact c)];exact e,hp⟩
 ·have e:i=n:=by lia
  subst e
  refine ⟨q,?_,hq⟩
  rw [List.getElem?_append_right (by rw [h.len];exact Nat.le_refl _),h.len,Nat.sub_self];rfl
theorem Refs.mono {Pr Pr':Addr→Nat→Prop} {xs:List V} {n:Nat} (h:Refs Pr xs n) (m:∀ q i,i < n→Pr q i→Pr' q i):Refs Pr' xs n :=
 ⟨h.len,fun i hi=>let ⟨q,e,p⟩:=h.at_ i hi;⟨q,e,m q i hi p⟩⟩
def KeepD (d:Addr) (H H':Hp):Prop:=∀ b o,H b=some o→b≠d→H' b=some o
end L2
namespace L2
open PySem PyProof.Rows
end L2
namespace L2
open PySem PyProof.Rows
end L2
namespace L2
open PySem PyProof.Rows
theorem J5g {a:Int} (ha:-1≤a):Builtin.Range.rangeSize a 0 (-1)=(a.toNat:Int):=by
 unfold Builtin.Range.rangeSize
 rw [if_neg (by decide)]
 split
 ·rw [show (-(-1:Int))=1 by decide,Int.ediv_one];omega
 ·omega
theorem down_small0 {a:Int} (ha:-1≤a) (ha':a < 2 ^ 24):Builtin.Range.small a 0 (-1)=true:=by
 unfold Builtin.Range.small
 rw [J5g ha]
 simp only [Builtin.Range.rangeFitsLong,Bool.and_eq_true,Bool.or_eq_true,decide_eq_true_eq,beq_iff_eq]
 refine ⟨?_,?_⟩ <;> simp <;> omega
def iDown0 (ta:TA):TI:=fun σ H R=>ta σ H fun vs H1=>∃ a:Int,vs=[.int a,.int 0,.int (-1)]∧(-1≤a∧a < 2 ^ 24)∧R (Its a (-1) a.toNat) H1
section
variable {X:Cx} {tg:Expr}
theorem pi_down0 {a b c:Expr} {ta:TA} {p pos:Pos} (hg:Gl X "range") (hm:X.mg "range"=none) (ha:PA X [a,b,c] ta) (hs:starEach [a,b,c] X.env=[(false,eval a X.env),(false,eval b X.env),(false,eval c X.env)]:=by rfl) (hs2:starEach [b,c] X.env=[(false,eval b X.env),(false,eval c X.env)]:=by rfl) :
  PI X tg (.Call (.Name "range" p) [a,b,c] [] pos) (iDown0 ta):=by
 intro pins s σ H R I h
 refine Call_ (J67 I hg hm boot_range (PyProof.Rows.callWith_type1 (thn (ha pos pins s σ H _ I h) fun us s1 ⟨vs,H1,I1,r1,q1⟩=>?_) (by rw [hs,hs2]) (by rw [hs2];rfl)))
 obtain ⟨i,e,⟨q1,q2⟩,q⟩:=q1
 subst e
 cases r1 with
 | cons r rr =>
  cases rr with
  | cons r' rr =>
   cases rr with
   | cons r'' rr =>
    cases rr
    obtain ⟨t,rfl⟩:=r
    obtain ⟨t',rfl⟩:=r'
    obtain ⟨t'',rfl⟩:=r''
    refine call_range_3 (by decide) ?_ (Or.inl (PyProof.noPylong_small (by decide)))
    have I2:Inv X pins σ H1 { s1 with heap:=s1.heap.push { cls:=.type "range",data:=.fields #[.int i t,.int 0 t',.int (-1) t''] },toks:=s1.toks }:=I1.kept fun b o e=>Heap.get?_push_of_some _ e
    refine wpAny_pyIter_range (IsRange.new ..) (down_small0 q1 q2) ?_
    refine ⟨(s1.heap.push { cls:=.type "range",data:=.fields #[.int i t,.int 0 t',.int (-1) t''] }).objs.size,[(s1.heap.push { cls:=.type "range",data:=.fields #[.int i t,.int 0 t',.int (-1) t''] }).objs.size],_,_,H1,rfl,
     I2.kept (t':=s1.toks) fun b o e=>Heap.get?_push_of_some _ e,turn_steps _ i (-1) i.toNat,?_,fun b hb=>?_,q⟩
    ·have e1:i + ((0:Nat):Int) * (-1)=i:=by simp
     have e2:((i.toNat:Nat):Int) - ((0:Nat):Int)=Builtin.Range.rangeSize i 0 (-1):=by
      rw [J5g q1];omega
     show IsRangeIter _ _ (i + ((0:Nat):Int) * (-1)) (((i.toNat:Nat):Int) - ((0:Nat):Int)) (-1)
     rw [e1,e2]
     exact Heap.get?_push_size _ rfl
    ·obtain rfl:b=(s1.heap.push { cls:=.type "range",data:=.fields #[.int i t,.int 0 t',.int (-1) t''] }).objs.size:=by simpa using hb
     exact I2.fpOk (Nat.le_refl _) (I2.hok.fresh (Nat.le_refl _))
end
end L2
namespace L2
open PySem PySem.Spec PyProof.Rows
section
variable {X:Cx}
theorem J64 {prog:Program} {w:World} {A:Around} {E:Value→Shared→Prop} {s:Shared} {l:Addr} {xs:Array (Int × Tok)} {Q:Value→Shared→Prop} (hh:A.handled=none) (ht:s.heap.IsTuple l (intItems xs)) (hne:0 < xs.size)
  (h:∀ v h' tk,(intItems xs)[argBest (fun i j=>decide (numAt xs i > numAt xs j)) (xs.size - 1)]?=some v→(∀ b o,s.heap.get? b=some o→h'.get? b=some o)→Q v { s with heap:=h',toks:=tk }) :
  wpAny (model prog w) A (call (.builtin "max") [.ref l]) Q E s:=by
 obtain ⟨o,ho,hc,n,hd⟩:=id ht
 have hne':l≠s.heap.objs.size:=Nat.ne_of_lt (Heap.lt_size ho)
 refine call_max_walk (wpAny_pyIter_tuple ht ?_)
 refine ⟨s.heap.objs.size,_,_,_,_,_,_,rfl,Walks.tuple (A:=A.in1) hh _ l hne' (intItems xs),⟨⟨_,Heap.get?_push_size _ rfl,rfl,rfl⟩,ht.at fun o e=>Heap.get?_push_of_some _ e⟩,fun b hb=>?_,by simpa [intItems] using hne,CmpOf.ints_gt (numAt xs) (fun _ _=>intItems_at),fun v h' tk hP hk=>?_⟩
 ·rcases List.mem_cons.mp hb with rfl | hb
  ·exact Heap.lt_size (Heap.get?_push_size _ rfl)
  ·obtain rfl:=List.mem_singleton.mp hb
   exact Heap.lt_size (Heap.get?_push_of_some _ ho)
 ·refine h v h' tk (by simpa [intItems] using hP) fun b o e=>hk b o (fun hb=>absurd (Heap.lt_size e) ((List.mem_singleton.mp hb) ▸ Nat.lt_irrefl _)) (Heap.get?_push_of_some _ e)
theorem best_max {ns:List Int} {xs:Array (Int × Tok)} (hns:ns=xs.toList.map (·.1)) (hsz:0 < xs.size) :
  numAt xs (argBest (fun i j=>decide (numAt xs i > numAt xs j)) (xs.size - 1))∈ns∧∀ a∈ns,a≤numAt xs (argBest (fun i j=>decide (numAt xs i > numAt xs j)) (xs.size - 1)):=by
 obtain ⟨h1,h2⟩:=argBest_gt (numAt xs) (xs.size - 1)
 refine ⟨?_,fun a ha=>?_⟩
 ·rw [hns,numAt_eq];exact getD_mem (by rw [List.length_map,Array.length_toList];omega)
 ·rw [hns] at ha
  obtain ⟨j,hj,rfl⟩:=mem_getD ha
  rw [List.length_map,Array.length_toList] at hj
  rw [← numAt_eq];exact h2 j (by omega)
theorem call_max (hc:X.calm=true):CallR X (.builtin "max") (fun xs H Q=>∃ (p:Addr) (ns:List Int),xs=[.ref p]∧SqI X.K H p (ns.map V.int)∧0 < ns.length∧∀ M,M∈ns→(∀ a∈ns,a≤M)→Q (.int M) H):=by
 intro pins s σ H xs us Q I r h
 obtain ⟨p,ns,rfl,hq,hne,q⟩:=h
 obtain ⟨u,rfl,rx⟩:=vals1 r
 cases rx
 have hh:=I.ok.hd hc
 rcases hq with hq | hq
 ·obtain ⟨its,r',pl,hz⟩:=I.list hq
  obtain ⟨xs,hx,_,e1⟩:=J39 (J1g r')
  have hsz:0 < xs.size:=by rw [e1,List.length_map,Array.length_toList] at hne;exact hne
  refine max_intList hh (hx ▸ pl.isList) hsz fun v h' tk hv hk=>?_
  obtain ⟨t,rfl⟩:=intItems_at hv
  obtain ⟨b1,b2⟩:=best_max e1 hsz
  exact ⟨.int _,H,I.kept hk,⟨t,rfl⟩,q _ b1 b2⟩
 ·obtain ⟨its,r',pl,hz⟩:=I.tuple hq
  obtain ⟨xs,hx,_,e1⟩:=J39 (J1g r')
  have hsz:0 < xs.size:=by rw [e1,List.length_map,Array.length_toList] at hne;exact hne
  refine J64 hh (hx ▸ (show s.heap.IsTuple p its.toArray from pl)) hsz fun v h' tk hv hk=>?_
  obtain ⟨t,rfl⟩:=intItems_at hv
  obtain ⟨b1,b2⟩:=best_max e1 hsz
  exact ⟨.int _,H,I.kept hk,⟨t,rfl⟩,q _ b1 b2⟩
end
end L2
namespace Rl
def cellN (ns:List Int) (k:Nat):Int:=ns.getD k 0
def drawL (ns:List Int) (many:Nat) (top:Int):List Int:=(List.range many).map fun k=>1 + cellN ns (2 + k) % top
def insAt (xs:List Nat) (i y:Nat):List Nat:=xs.take i ++ y :: xs.drop i
def spotO (ns:List Int) (many k:Nat):Nat:=(cellN ns (2 + many + k) % ((k:Int) + 1)).toNat
def drawO (ns:List Int) (many:Nat):Nat→List Nat
 | 0=>[]
 | k + 1=>insAt (drawO ns many k) (spotO ns many k) k
theorem spotO_le (ns:List Int) (many k:Nat):spotO ns many k≤k∧((spotO ns many k:Nat):Int)=cellN ns (2 + many + k) % ((k:Int) + 1):=by
 unfold spotO
 have h1:0≤cellN ns (2 + many + k) % ((k:Int) + 1):=Int.emod_nonneg _ (by lia)
 have h2:cellN ns (2 + many + k) % ((k:Int) + 1) < (k:Int) + 1:=Int.emod_lt_of_pos _ (by lia)
 lia
theorem insAt_perm (xs:List Nat) (i y:Nat):(insAt xs i y).Perm (y :: xs):=by
 unfold insAt
 have h:(xs.take i ++ y :: xs.drop i).Perm (y :: (xs.take i ++ xs.drop i)):=List.perm_middle
 rwa [List.take_append_drop] at h
theorem J3q (ns:List Int) (many:Nat):∀ k,(drawO ns many k).Perm (List.range k)
 | 0=>List.Perm.refl _
 | k + 1=>by
  have h1:=insAt_perm (drawO ns many k) (spotO ns many k) k
  have h2:(k :: drawO ns many k).Perm (k :: List.range k):=(J3q ns many k).cons k
  have h3:(k :: List.range k).Perm (List.range (k + 1)):=by
   rw [List.range_succ]
   exact (List.perm_append_singleton k (List.range k)).symm
  exact h1.trans (h2.trans h3)
theorem drawO_len (ns:List Int) (many k:Nat):(drawO ns many k).length=k:=by
 rw [(J3q ns many k).length_eq,List.length_range]
theorem J2h (ns:List Int) (many:Nat) (top:Int):(drawL ns many top).length=many:=by simp [drawL]
theorem J4z {ns:List Int} {many:Nat} {top:Int} (ht:0 < top):∀ a∈drawL ns many top,1≤a∧a≤top:=fun a h=>by
 obtain ⟨k,_,rfl⟩:=List.mem_map.mp h
 have h1:=Int.emod_nonneg (cellN ns (2 + k)) (Int.ne_of_gt ht)
 have h2:=Int.emod_lt_of_pos (cellN ns (2 + k)) ht
 lia
theorem sum_le {b:Int}:∀ (xs:List Int),(∀ a∈xs,a≤b)→xs.sum≤(xs.length:Int) * b
 | [],_=>by simp
 | x :: xs,h=>by
  have h1:=h x List.mem_cons_self
  have h2:=sum_le xs fun a ha=>h a (List.mem_cons_of_mem _ ha)
  rw [List.sum_cons,List.length_cons]
  have e:(((xs.length + 1:Nat):Int)) * b=(xs.length:Int) * b + b:=by
   rw [Int.natCast_add,Int.add_mul];simp
  lia
theorem mul_top {n:Nat} {b:Int} (hn:n≤24) (hb:0≤b):(n:Int) * b≤24 * b:=Int.mul_le_mul_of_nonneg_right (by lia) hb
def sumsGo (ls:List Int):List Nat→List Int→Int→List Int
 | [],f,_=>f
 | p :: ps,f,t=>sumsGo ls ps (f.set p t) (t + ls.getD p 0)
def sums (ls:List Int) (os:List Nat):List Int:=sumsGo ls os (List.replicate ls.length 0) 0
def sumsF (ls:List Int) (os:List Nat):Nat→List Int × Int
 | 0=>(List.replicate ls.length 0,0)
 | i + 1=>((sumsF ls os i).1.set (os.getD i 0) (sumsF ls os i).2,(sumsF ls os i).2 + ls.getD (os.getD i 0) 0)
theorem J2v (ls:List Int) (os:List Nat):∀ i,(sumsF ls os i).1.length=ls.length
 | 0=>by simp [sumsF]
 | i + 1=>by
  show ((sumsF ls os i).1.set _ _).length=_
  rw [List.length_set]
  exact J2v ls os i
def firsts (ls:List Int) (os:List Nat):List Int:=(sumsF ls os os.length).1
theorem J5d (ls:List Int) (os:List Nat):(firsts ls os).length=ls.length:=J2v ls os _
theorem J35:∀ {xs ys:List Int},xs.Perm ys→xs.Pairwise (·≤·)→ys.Pairwise (·≤·)→xs=ys
 | [],ys,h,_,_=>(List.Perm.nil_eq h)
 | x :: xs,[],h,_,_=>absurd h.length_eq (by simp)
 | x :: xs,y :: ys,h,hx,hy=>by
  have hx':=List.pairwise_cons.mp hx
  have hy':=List.pairwise_cons.mp hy
  have m1:x∈y :: ys:=h.mem_iff.mp List.mem_cons_self
  have m2:y∈x :: xs:=h.mem_iff.mpr List.mem_cons_self
  have e:x=y:=by
   rcases List.mem_cons.mp m1 with e | m1
   ·exact e
   ·rcases List.mem_cons.mp m2 with e | m2
    ·exact e.symm
    ·have a:=hx'.1 y m2
     have b:=hy'.1 x m1
     lia
  subst e
  rw [J35 h.cons_inv hx'.2 hy'.2]
def natI (os:List Nat):List Int:=os.map fun (n:Nat)=>(n:Int)
theorem J5u (n:Nat):(natI (List.range n)).Pairwise (·≤·):=by
 unfold natI
 rw [List.pairwise_map]
 exact List.pairwise_lt_range.imp fun h=>by lia
theorem J5p {os:List Nat} {n:Nat} {ns':List Int} (hp:os.Perm (List.range n)) (h1:ns'.Perm (natI os)) (h2:ns'.Pairwise (·≤·)):ns'=natI (List.range n) :=
 J35 (h1.trans (hp.map _)) h2 (J5u n)
end Rl
namespace Rl
structure Sr where
 fi:Int
 le:Int
 la:Int
 tu:Bool
def fgo (s:Sr):Int:=if s.tu=true then s.la + s.le - 1 else s.la
def lgo (s:Sr):Int:=if s.tu=true then s.la else s.la + s.le - 1
def gtog (a b:Sr):Bool:=decide ((if fgo b - lgo a < 0 then -(fgo b - lgo a) else fgo b - lgo a)=1)
def mk1 (a b:Sr):Sr:=⟨a.fi,a.le + b.le,if b.la < a.la then b.la else a.la,decide (b.la < a.la) && decide (1 < a.le + b.le)⟩
def lstp (acc:List Sr) (s:Sr):List Sr:=match acc.getLast? with
 | some a=>if gtog a s=true then acc.dropLast ++ [mk1 a s] else acc ++ [s]
 | none=>[s]
def lgst (ss:List Sr):List Sr:=ss.foldl lstp []
structure Pc (g:Int→Int) (a:Int) (s:Sr):Prop where
 fi:s.fi=a
 le:1≤s.le
 tu:s.tu=true→1 < s.le
 up:s.tu=false→∀ x,0≤x→x < s.le→g (a + x)=s.la + x
 dn:s.tu=true→∀ x,0≤x→x < s.le→g (a + x)=s.la + s.le - 1 - x
def near (u v:Int):Prop:=u - v=1∨v - u=1
def Rep (g:Int→Int):Int→List Sr→Int→Prop
 | a,[],b=>a=b
 | a,s :: r,b=>Pc g a s∧Rep g (a + s.le) r b
def RepS (g:Int→Int):Int→List Sr→Int→Prop
 | a,[],b=>a=b
 | a,s :: r,b=>Pc g a s∧(r≠[]→¬ near (g (a + s.le)) (g (a + s.le - 1)))∧RepS g (a + s.le) r b
theorem Pc.fgo {g:Int→Int} {a:Int} {s:Sr} (p:Pc g a s):fgo s=g a:=by
 unfold Rl.fgo
 have l:=p.le
 by_cases t:s.tu=true
 ·rw [if_pos t]
  have:=p.dn t 0 (by omega) (by omega)
  rw [show a + 0=a by omega] at this
  omega
 ·rw [if_neg t]
  have:=p.up (by simpa using t) 0 (by omega) (by omega)
  rw [show a + 0=a by omega] at this
  omega
theorem Pc.lgo {g:Int→Int} {a:Int} {s:Sr} (p:Pc g a s):lgo s=g (a + s.le - 1):=by
 unfold Rl.lgo
 have l:=p.le
 by_cases t:s.tu=true
 ·rw [if_pos t]
  have:=p.dn t (s.le - 1) (by omega) (by omega)
  rw [show a + (s.le - 1)=a + s.le - 1 by omega] at this
  omega
 ·rw [if_neg t]
  have:=p.up (by simpa using t) (s.le - 1) (by omega) (by omega)
  rw [show a + (s.le - 1)=a + s.le - 1 by omega] at this
  omega
theorem gtog_iff {g:Int→Int} {a:Int} {p q:Sr} (hp:Pc g a p) (hq:Pc g (a + p.le) q):gtog p q=true↔near (g (a + p.le)) (g (a + p.le - 1)):=by
 unfold gtog near
 rw [hq.fgo,hp.lgo,decide_eq_true_iff]
 generalize g (a + p.le)=u
 generalize g (a + p.le - 1)=v
 split <;> omega
theorem Pc.merge {g:Int→Int} {a b:Int} {p q:Sr} (inj:∀ x y,a≤x→x < b→a≤y→y < b→g x=g y→x=y) (hp:Pc g a p) (hq:Pc g (a + p.le) q) (hb:a + p.le + q.le≤b)
  (h:near (g (a + p.le)) (g (a + p.le - 1))):Pc g a (mk1 p q):=by
 have l1:=hp.le
 have l2:=hq.le
 have f1:=hp.lgo
 have f2:=hq.fgo
 unfold Rl.lgo at f1
 unfold Rl.fgo at f2
 rcases h with h | h
 ·-- upward
  have pt:p.tu=false:=by
   cases t:p.tu with
   | false=>rfl
   | true =>
    have h1:=hp.tu t
    have e:=hp.dn t (p.le - 2) (by omega) (by omega)
    rw [if_pos t] at f1
    have:=inj (a + (p.le - 2)) (a + p.le) (by omega) (by omega) (by omega) (by omega) (by omega)
    omega
  have qt:q.tu=false:=by
   cases t:q.tu with
   | false=>rfl
   | true =>
    have h1:=hq.tu t
    have e:=hq.dn t 1 (by omega) (by omega)
    rw [if_pos t] at f2
    have:=inj (a + p.le + 1) (a + p.le - 1) (by omega) (by omega) (by omega) (by omega) (by omega)
    omega
  rw [pt,if_neg (by decide)] at f1
  rw [qt,if_neg (by decide)] at f2
  have ln:¬ q.la < p.la:=by omega
  refine ⟨hp.fi,by show 1≤p.le + q.le;omega,fun t=>by show 1 < p.le + q.le;omega,fun t x h0 h1=>?_,fun t=>?_⟩
  ·have h1:x < p.le + q.le:=h1
   show g (a + x)=(if q.la < p.la then q.la else p.la) + x
   rw [if_neg ln]
   rcases Int.lt_or_le x p.le with hx | hx
   ·exact hp.up pt x h0 hx
   ·have:=hq.up qt (x - p.le) (by omega) (by omega)
    rw [show a + p.le + (x - p.le)=a + x by omega] at this
    omega
  ·have t:(decide (q.la < p.la) && decide (1 < p.le + q.le))=true:=t
   rw [decide_eq_false ln] at t
   cases t
 ·-- downward
  have pd:∀ x,0≤x→x < p.le→g (a + x)=p.la + p.le - 1 - x:=by
   cases t:p.tu with
   | true=>exact hp.dn t
   | false =>
    intro x h0 h1
    rw [t,if_neg (by decide)] at f1
    rcases Int.lt_or_le 1 p.le with l | l
    ·have e:=hp.up t (p.le - 2) (by omega) (by omega)
     have:=inj (a + (p.le - 2)) (a + p.le) (by omega) (by omega) (by omega) (by omega) (by omega)
     omega
    ·have e:=hp.up t x h0 h1
     omega
  have qd:∀ x,0≤x→x < q.le→g (a + p.le + x)=q.la + q.le - 1 - x:=by
   cases t:q.tu with
   | true=>exact hq.dn t
   | false =>
    intro x h0 h1
    rw [t,if_neg (by decide)] at f2
    rcases Int.lt_or_le 1 q.le with l | l
    ·have e:=hq.up t 1 (by omega) (by omega)
     have:=inj (a + p.le + 1) (a + p.le - 1) (by omega) (by omega) (by omega) (by omega) (by omega)
     omega
    ·have e:=hq.up t x h0 h1
     omega
  have e1:=pd (p.le - 1) (by omega) (by omega)
  have e2:=qd 0 (by omega) (by omega)
  rw [show a + (p.le - 1)=a + p.le - 1 by omega] at e1
  rw [show a + p.le + 0=a + p.le by omega] at e2
  have ln:q.la < p.la:=by omega
  refine ⟨hp.fi,by show 1≤p.le + q.le;omega,fun t=>by show 1 < p.le + q.le;omega,fun t=>?_,fun t x h0 h1=>?_⟩
  ·have t:(decide (q.la < p.la) && decide (1 < p.le + q.le))=false:=t
   rw [decide_eq_true ln,decide_eq_true (by omega:1 < p.le + q.le)] at t
   cases t
  ·have h1:x < p.le + q.le:=h1
   show g (a + x)=(if q.la < p.la then q.la else p.la) + (p.le + q.le) - 1 - x
   rw [if_pos ln]
   rcases Int.lt_or_le x p.le with hx | hx
   ·have:=pd x h0 hx
    omega
   ·have:=qd (x - p.le) (by omega) (by omega)
    rw [show a + p.le + (x - p.le)=a + x by omega] at this
    omega
theorem RepS.last {g:Int→Int}:∀ {init:List Sr} {a m:Int} {p:Sr},RepS g a (init ++ [p]) m→∃ k,a≤k∧Pc g k p∧m=k + p.le∧(∀ p',Pc g k p'→RepS g a (init ++ [p']) (k + p'.le))∧
  ∀ q,Pc g m q→¬ near (g m) (g (m - 1))→RepS g a (init ++ [p] ++ [q]) (m + q.le)
 | [],a,m,p,h=>by
  obtain ⟨h1,_,h3⟩:=h
  have h3:a + p.le=m:=h3
  subst h3
  exact ⟨a,Int.le_refl _,h1,rfl,fun p' hp=>⟨hp,fun z=>absurd rfl z,rfl⟩,fun q hq hn=>⟨h1,fun _=>hn,hq,fun z=>absurd rfl z,rfl⟩⟩
 | s :: r,a,m,p,h=>by
  obtain ⟨h1,h2,h3⟩:=h
  obtain ⟨k,k1,k2,k3,k4,k5⟩:=RepS.last (init:=r) h3
  have:=h1.le
  refine ⟨k,by omega,k2,k3,fun p' hp=>⟨h1,fun _=>h2 (by simp),k4 p' hp⟩,fun q hq hn=>⟨h1,fun _=>h2 (by simp),k5 q hq hn⟩⟩
theorem RepS.le {g:Int→Int}:∀ {ss:List Sr} {a b:Int},RepS g a ss b→a≤b
 | [],a,b,h=>Int.le_of_eq h
 | s :: r,a,b,⟨h1,_,h3⟩=>by have:=RepS.le h3;have:=h1.le;omega
theorem sr_split {acc:List Sr} {a:Sr} (e:acc.getLast?=some a):acc=acc.dropLast ++ [a]:=by
 rcases List.eq_nil_or_concat acc with rfl | ⟨l,b,rfl⟩
 ·cases e
 ·rw [List.concat_eq_append] at *
  rw [List.getLast?_concat] at e
  cases e
  rw [List.dropLast_concat]
theorem RepS.step {g:Int→Int} {a m b:Int} {acc:List Sr} {s:Sr} (inj:∀ x y,a≤x→x < b→a≤y→y < b→g x=g y→x=y) (h:RepS g a acc m) (hs:Pc g m s) (hb:m + s.le≤b):RepS g a (lstp acc s) (m + s.le):=by
 unfold lstp
 cases e:acc.getLast? with
 | none =>
  have:acc=[]:=List.getLast?_eq_none_iff.mp e
  subst this
  have h:a=m:=h
  subst h
  exact ⟨hs,fun z=>absurd rfl z,rfl⟩
 | some p =>
  have sp:=sr_split e
  dsimp only
  rw [sp] at h
  obtain ⟨k,k1,k2,k3,k4,k5⟩:=h.last
  subst k3
  by_cases c:gtog p s=true
  ·rw [if_pos c]
   have M:=Pc.merge (a:=k) (b:=b) (fun x y x0 x1 y0 y1 e=>inj x y (by omega) x1 (by omega) y1 e) k2 hs (by omega) ((gtog_iff k2 hs).mp c)
   have:=k4 _ M
   rw [show k + p.le + s.le=k + (mk1 p s).le by show _=k + (p.le + s.le);omega]
   exact this
  ·rw [if_neg c]
   have:=k5 s hs fun n=>c ((gtog_iff k2 hs).mpr n)
   rw [← sp] at this
   exact this
theorem Rep.le {g:Int→Int}:∀ {ss:List Sr} {a b:Int},Rep g a ss b→a≤b
 | [],a,b,h=>Int.le_of_eq h
 | s :: r,a,b,⟨h1,h3⟩=>by have:=Rep.le h3;have:=h1.le;omega
theorem fold_rep {g:Int→Int} {a b:Int} (inj:∀ x y,a≤x→x < b→a≤y→y < b→g x=g y→x=y):∀ (ss:List Sr) {acc:List Sr} {m:Int},RepS g a acc m→Rep g m ss b→RepS g a (ss.foldl lstp acc) b
 | [],acc,m,h,e=>by
  have e:m=b:=e
  subst e;exact h
 | s :: r,acc,m,h,⟨h1,h2⟩=>by
  rw [List.foldl_cons]
  exact fold_rep inj r (RepS.step inj h h1 h2.le) h2
theorem lgst_rep {g:Int→Int} {a b:Int} {ss:List Sr} (inj:∀ x y,a≤x→x < b→a≤y→y < b→g x=g y→x=y) (h:Rep g a ss b):RepS g a (lgst ss) b:=fold_rep inj ss (acc:=[]) (m:=a) rfl h
theorem Pc.near {g:Int→Int} {a m:Int} {s:Sr} (p:Pc g a s) (h0:a < m) (h1:m < a + s.le):near (g m) (g (m - 1)):=by
 cases t:s.tu with
 | false =>
  have e1:=p.up t (m - a) (by omega) (by omega)
  have e2:=p.up t (m - 1 - a) (by omega) (by omega)
  rw [show a + (m - a)=m by omega] at e1
  rw [show a + (m - 1 - a)=m - 1 by omega] at e2
  left;omega
 | true =>
  have e1:=p.dn t (m - a) (by omega) (by omega)
  have e2:=p.dn t (m - 1 - a) (by omega) (by omega)
  rw [show a + (m - a)=m by omega] at e1
  rw [show a + (m - 1 - a)=m - 1 by omega] at e2
  right;omega
end Rl
namespace Rl
def Jb (ls:List Int) (os:List Nat) (i:Nat):Int:=(sumsF ls os i).2
theorem Jo (ls:List Int) (os:List Nat):Jb ls os 0=0:=rfl
theorem Jm (ls:List Int) (os:List Nat) (i:Nat):Jb ls os (i + 1)=Jb ls os i + ls.getD (os.getD i 0) 0:=rfl
structure Ord (ls:List Int) (os:List Nat):Prop where
 pos:∀ a∈ls,1≤a
 perm:os.Perm (List.range ls.length)
theorem Ord.range {ls:List Int} {os:List Nat} (h:Ord ls os):Ord ls (List.range ls.length):=⟨h.pos,List.Perm.refl _⟩
theorem Ord.len {ls:List Int} {os:List Nat} (h:Ord ls os):os.length=ls.length:=by rw [h.perm.length_eq,List.length_range]
theorem Ord.nodup {ls:List Int} {os:List Nat} (h:Ord ls os):os.Nodup:=h.perm.nodup_iff.mpr List.nodup_range
theorem J19 {os:List Nat} {i:Nat} (h:i < os.length):os.getD i 0∈os:=by
 rw [List.getD_eq_getElem?_getD,List.getElem?_eq_getElem h];exact List.getElem_mem h
theorem J3i {ls:List Int} {i:Nat} (h:i < ls.length):ls.getD i 0∈ls:=by
 rw [List.getD_eq_getElem?_getD,List.getElem?_eq_getElem h];exact List.getElem_mem h
theorem Ord.lt {ls:List Int} {os:List Nat} (h:Ord ls os) {i:Nat} (hi:i < ls.length):os.getD i 0 < ls.length :=
 List.mem_range.mp (h.perm.mem_iff.mp (J19 (by rw [h.len];exact hi)))
theorem Ord.one {ls:List Int} {os:List Nat} (h:Ord ls os) {j:Nat} (hj:j < ls.length):1≤ls.getD j 0:=h.pos _ (J3i hj)
theorem Ord.inj {ls:List Int} {os:List Nat} (h:Ord ls os) {i j:Nat} (hi:i < ls.length) (hj:j < ls.length) (e:os.getD i 0=os.getD j 0):i=j:=by
 rw [List.getD_eq_getElem?_getD,List.getD_eq_getElem?_getD,List.getElem?_eq_getElem (by rw [h.len];exact hi),List.getElem?_eq_getElem (by rw [h.len];exact hj)] at e
 exact (List.getElem_inj h.nodup).mp e
theorem Ord.onto {ls:List Int} {os:List Nat} (h:Ord ls os) {j:Nat} (hj:j < ls.length):∃ i,i < ls.length∧os.getD i 0=j:=by
 obtain ⟨i,hi,e⟩:=List.getElem_of_mem (h.perm.mem_iff.mpr (List.mem_range.mpr hj))
 refine ⟨i,by rw [← h.len];exact hi,?_⟩
 rw [List.getD_eq_getElem?_getD,List.getElem?_eq_getElem hi];exact e
theorem Ord.step {ls:List Int} {os:List Nat} (h:Ord ls os) {i:Nat} (hi:i < ls.length):Jb ls os i < Jb ls os (i + 1):=by
 have:=h.one (h.lt hi)
 rw [Jm];lia
theorem Ord.mono {ls:List Int} {os:List Nat} (h:Ord ls os) {i:Nat}:∀ {k:Nat},i≤k→k≤ls.length→Jb ls os i≤Jb ls os k
 | 0,h1,_=>by rw [Nat.le_zero.mp h1];exact Int.le_refl _
 | k + 1,h1,h2=>by
  by_cases e:i=k + 1
  ·rw [e];exact Int.le_refl _
  ·have a:=h.mono (i:=i) (k:=k) (by lia) (by lia)
   have b:=h.step (i:=k) (by lia)
   lia
theorem set_get (f:List Int) (p q:Nat) (v:Int) (hp:p < f.length):(f.set p v).getD q 0=if q=p then v else f.getD q 0:=by
 rw [List.getD_eq_getElem?_getD,List.getD_eq_getElem?_getD]
 by_cases e:q=p
 ·subst e;rw [List.getElem?_set_self hp,if_pos rfl];rfl
 ·rw [List.getElem?_set_ne (Ne.symm e),if_neg e]
theorem Ord.at {ls:List Int} {os:List Nat} (h:Ord ls os) {i:Nat}:∀ {k:Nat},i < k→k≤ls.length→(sumsF ls os k).1.getD (os.getD i 0) 0=Jb ls os i
 | 0,h1,_=>absurd h1 (Nat.not_lt_zero _)
 | k + 1,h1,h2=>by
  show ((sumsF ls os k).1.set (os.getD k 0) (sumsF ls os k).2).getD (os.getD i 0) 0=_
  rw [set_get _ _ _ _ (by rw [J2v];exact h.lt (by lia))]
  by_cases e:i=k
  ·subst e;rw [if_pos rfl];rfl
  ·rw [if_neg (fun q=>e (h.inj (by lia) (by lia) q))]
   exact h.at (by lia) (by lia)
theorem Ord.first {ls:List Int} {os:List Nat} (h:Ord ls os) {i:Nat} (hi:i < ls.length):(firsts ls os).getD (os.getD i 0) 0=Jb ls os i:=by
 unfold firsts
 rw [h.len]
 exact h.at hi (Nat.le_refl _)
theorem J4s (ls:List Int):(List.range ls.length).map (fun j=>ls.getD j 0)=ls:=by
 apply List.ext_getElem?
 intro k
 rw [List.getElem?_map]
 by_cases hk:k < ls.length
 ·rw [List.getElem?_range hk,List.getElem?_eq_getElem hk]
  show some (ls.getD k 0)=_
  rw [List.getD_eq_getElem?_getD,List.getElem?_eq_getElem hk];rfl
 ·rw [List.getElem?_eq_none (by simpa using hk),List.getElem?_eq_none (by lia)];rfl
theorem J1m (ls:List Int) (os:List Nat):∀ i,i≤os.length→Jb ls os i=((os.take i).map fun j=>ls.getD j 0).sum
 | 0,_=>by simp [Jo]
 | i + 1,h=>by
  rw [Jm,J1m ls os i (by lia),List.take_succ,List.getElem?_eq_getElem (by lia)]
  simp only [Option.toList_some,List.map_append,List.map_cons,List.map_nil,List.sum_append,List.sum_cons,List.sum_nil]
  rw [List.getD_eq_getElem?_getD (l:=os),List.getElem?_eq_getElem (by lia)]
  simp
theorem J5x {xs ys:List Int} (h:xs.Perm ys):xs.sum=ys.sum:=by
 induction h with
 | nil=>rfl
 | cons x _ ih=>rw [List.sum_cons,List.sum_cons,ih]
 | swap x y l=>rw [List.sum_cons,List.sum_cons,List.sum_cons,List.sum_cons];lia
 | trans _ _ a b=>exact a.trans b
theorem Ord.whole {ls:List Int} {os:List Nat} (h:Ord ls os):Jb ls os ls.length=ls.sum:=by
 rw [J1m ls os _ (by rw [h.len];exact Nat.le_refl _),List.take_of_length_le (by rw [h.len];exact Nat.le_refl _)]
 have p:(os.map fun j=>ls.getD j 0).Perm ((List.range ls.length).map fun j=>ls.getD j 0):=h.perm.map _
 rw [J5x p,J4s]
def Lies (fs ls:List Int) (x:Int) (j:Nat):Prop:=j < ls.length∧fs.getD j 0≤x∧x < fs.getD j 0 + ls.getD j 0
theorem J2q {S:Nat→Int} {x:Int}:∀ (k:Nat),S 0≤x→x < S k→∃ i,i < k∧S i≤x∧x < S (i + 1)
 | 0,h0,h1=>by lia
 | k + 1,h0,h1=>by
  by_cases e:x < S k
  ·obtain ⟨i,hi,q⟩:=J2q k h0 e
   exact ⟨i,by lia,q⟩
  ·exact ⟨k,by lia,by lia,h1⟩
theorem Ord.lies {ls:List Int} {os:List Nat} (h:Ord ls os) {i:Nat} {x:Int} (hi:i < ls.length) (h1:Jb ls os i≤x) (h2:x < Jb ls os (i + 1)):Lies (firsts ls os) ls x (os.getD i 0):=by
 refine ⟨h.lt hi,?_,?_⟩
 ·rw [h.first hi];exact h1
 ·rw [h.first hi];rw [Jm] at h2;exact h2
theorem Ord.lies_of {ls:List Int} {os:List Nat} (h:Ord ls os) {j:Nat} {x:Int} (q:Lies (firsts ls os) ls x j):∃ i,i < ls.length∧os.getD i 0=j∧Jb ls os i≤x∧x < Jb ls os (i + 1):=by
 obtain ⟨hj,q1,q2⟩:=q
 obtain ⟨i,hi,e⟩:=h.onto hj
 subst e
 rw [h.first hi] at q1 q2
 exact ⟨i,hi,rfl,q1,by rw [Jm];exact q2⟩
theorem Ord.exists {ls:List Int} {os:List Nat} (h:Ord ls os) {x:Int} (h0:0≤x) (h1:x < ls.sum):∃ j,Lies (firsts ls os) ls x j:=by
 obtain ⟨i,hi,a,b⟩:=J2q (S:=Jb ls os) ls.length (by rw [Jo];exact h0) (by rw [h.whole];exact h1)
 exact ⟨_,h.lies hi a b⟩
theorem Ord.unique {ls:List Int} {os:List Nat} (h:Ord ls os) {x:Int} {j k:Nat} (a:Lies (firsts ls os) ls x j) (b:Lies (firsts ls os) ls x k):j=k:=by
 obtain ⟨i,hi,rfl,a1,a2⟩:=h.lies_of a
 obtain ⟨i',hi',rfl,b1,b2⟩:=h.lies_of b
 have:i=i':=by
  by_cases e:i < i'
  ·have:=h.mono (i:=i + 1) (k:=i') e (by lia);lia
  ·by_cases e':i' < i
   ·have:=h.mono (i:=i' + 1) (k:=i) e' (by lia);lia
   ·lia
 rw [this]
theorem Ord.inside {ls:List Int} {os:List Nat} (h:Ord ls os) {x:Int} {j:Nat} (a:Lies (firsts ls os) ls x j):0≤x∧x < ls.sum:=by
 obtain ⟨i,hi,rfl,a1,a2⟩:=h.lies_of a
 have b1:=h.mono (i:=0) (k:=i) (Nat.zero_le _) (by lia)
 have b2:=h.mono (i:=i + 1) (k:=ls.length) (by lia) (Nat.le_refl _)
 rw [h.whole] at b2
 rw [Jo] at b1
 lia
def moveN (ls:List Int) (ts:List Bool) (j:Nat) (off:Int) (fs:List Int):Int:=if ts.getD j false=true then fs.getD j 0 + ls.getD j 0 - 1 - off else fs.getD j 0 + off
theorem J4r {ls fs gs:List Int} {ts:List Bool} {x:Int} {j:Nat} (q:Lies fs ls x j):Lies gs ls (moveN ls ts j (x - fs.getD j 0) gs) j∧moveN ls ts j (moveN ls ts j (x - fs.getD j 0) gs - gs.getD j 0) fs=x:=by
 obtain ⟨h0,h1,h2⟩:=q
 unfold Lies moveN
 split <;> refine ⟨⟨h0,?_,?_⟩,?_⟩ <;> lia
end Rl
namespace Rl
def lenOf (ls:List Int) (row:List Nat):Int:=(row.map fun j=>ls.getD j 0).sum
theorem J47 (ls:List Int) (os:List Nat):Jb ls os os.length=lenOf ls os:=by
 rw [J1m ls os _ (Nat.le_refl _),List.take_length];rfl
theorem J1i (ls:List Int):lenOf ls []=0:=rfl
theorem Jg (ls:List Int) (j:Nat) (os:List Nat):lenOf ls (j :: os)=ls.getD j 0 + lenOf ls os:=by
 unfold lenOf;rw [List.map_cons,List.sum_cons]
theorem Jh (ls:List Int) (xs ys:List Nat):lenOf ls (xs ++ ys)=lenOf ls xs + lenOf ls ys:=by
 unfold lenOf;rw [List.map_append,List.sum_append]
theorem J29 {ls:List Int} {xs ys:List Nat} (h:xs.Perm ys):lenOf ls xs=lenOf ls ys:=J5x (h.map _)
theorem J22 {ls:List Int} {os:List Nat} (h:∀ j∈os,0≤ls.getD j 0):0≤lenOf ls os:=by
 induction os with
 | nil=>exact Int.le_refl _
 | cons a r ih =>
  rw [Jg]
  have:=h a List.mem_cons_self
  have:=ih fun j hj=>h j (List.mem_cons_of_mem _ hj)
  lia
theorem lenOf_pos {ls:List Int} {os:List Nat} (h:∀ j∈os,1≤ls.getD j 0) (hn:os≠[]):1≤lenOf ls os:=by
 cases os with
 | nil=>exact absurd rfl hn
 | cons a r =>
  rw [Jg]
  have:=h a List.mem_cons_self
  have:=J22 (ls:=ls) (os:=r) fun j hj=>by have:=h j (List.mem_cons_of_mem _ hj);lia
  lia
theorem lenOf_mem {ls:List Int} {os:List Nat} (h:∀ j∈os,0≤ls.getD j 0) {j:Nat} (hj:j∈os):ls.getD j 0≤lenOf ls os:=by
 induction os with
 | nil=>cases hj
 | cons a r ih =>
  rw [Jg]
  have h1:=h a List.mem_cons_self
  have h2:=J22 (ls:=ls) (os:=r) fun j hj=>h j (List.mem_cons_of_mem _ hj)
  rcases List.mem_cons.mp hj with rfl | hj
  ·lia
  ·have:=ih (fun j hj=>h j (List.mem_cons_of_mem _ hj)) hj
   lia
structure Row (ls:List Int) (os:List Nat):Prop where
 nd:os.Nodup
 lt:∀ j∈os,j < ls.length
 pos:∀ j∈os,1≤ls.getD j 0
theorem Row.inj {ls:List Int} {os:List Nat} (h:Row ls os) {i j:Nat} (hi:i < os.length) (hj:j < os.length) (e:os.getD i 0=os.getD j 0):i=j:=by
 rw [List.getD_eq_getElem?_getD,List.getD_eq_getElem?_getD,List.getElem?_eq_getElem hi,List.getElem?_eq_getElem hj] at e
 exact (List.getElem_inj h.nd).mp e
theorem Row.at {ls:List Int} {os:List Nat} (h:Row ls os) {i:Nat}:∀ {k:Nat},i < k→k≤os.length→(sumsF ls os k).1.getD (os.getD i 0) 0=Jb ls os i
 | 0,h1,_=>absurd h1 (Nat.not_lt_zero _)
 | k + 1,h1,h2=>by
  show ((sumsF ls os k).1.set (os.getD k 0) (sumsF ls os k).2).getD (os.getD i 0) 0=_
  rw [set_get _ _ _ _ (by rw [J2v];exact h.lt _ (J19 (by lia)))]
  by_cases e:i=k
  ·subst e;rw [if_pos rfl];rfl
  ·rw [if_neg (fun q=>e (h.inj (by lia) (by lia) q))]
   exact h.at (by lia) (by lia)
theorem Row.first {ls:List Int} {os:List Nat} (h:Row ls os) {i:Nat} (hi:i < os.length):(firsts ls os).getD (os.getD i 0) 0=Jb ls os i:=h.at hi (Nat.le_refl _)
theorem Row.step {ls:List Int} {os:List Nat} (h:Row ls os) {i:Nat} (hi:i < os.length):Jb ls os i < Jb ls os (i + 1):=by
 rw [Jm]
 have:=h.pos _ (J19 hi)
 lia
theorem Row.mono {ls:List Int} {os:List Nat} (h:Row ls os) {i:Nat}:∀ {k:Nat},i≤k→k≤os.length→Jb ls os i≤Jb ls os k
 | 0,h1,_=>by
  have e:i=0:=Nat.le_zero.mp h1
  rw [e]
  exact Int.le_refl _
 | k + 1,h1,h2=>by
  by_cases e:i=k + 1
  ·subst e;exact Int.le_refl _
  ·have a:=Row.mono h (i:=i) (k:=k) (by lia) (by lia)
   have b:=h.step (i:=k) (by lia)
   lia
def AtR (ls:List Int) (os:List Nat) (y:Int) (i:Nat):Prop:=i < os.length∧Jb ls os i≤y∧y < Jb ls os (i + 1)
theorem Row.exists {ls:List Int} {os:List Nat} (h:Row ls os) {y:Int} (h0:0≤y) (h1:y < lenOf ls os):∃ i,AtR ls os y i:=by
 rw [← J47] at h1
 obtain ⟨i,hi,a,b⟩:=J2q (S:=Jb ls os) os.length (by rw [Jo];exact h0) h1
 exact ⟨i,hi,a,b⟩
theorem Row.unique {ls:List Int} {os:List Nat} (h:Row ls os) {y:Int} {i k:Nat} (a:AtR ls os y i) (b:AtR ls os y k):i=k:=by
 obtain ⟨a1,a2,a3⟩:=a
 obtain ⟨b1,b2,b3⟩:=b
 rcases Nat.lt_trichotomy i k with q | q | q
 ·have:=h.mono (i:=i + 1) (k:=k) (by lia) (by lia)
  lia
 ·exact q
 ·have:=h.mono (i:=k + 1) (k:=i) (by lia) (by lia)
  lia
theorem Row.inside {ls:List Int} {os:List Nat} (h:Row ls os) {y:Int} {i:Nat} (a:AtR ls os y i):0≤y∧y < lenOf ls os:=by
 obtain ⟨a1,a2,a3⟩:=a
 have h1:=h.mono (i:=0) (k:=i) (by lia) (by lia)
 have h2:=h.mono (i:=i + 1) (k:=os.length) (by lia) (Nat.le_refl _)
 rw [Jo] at h1
 rw [J47] at h2
 lia
structure Rst where
 top:List Nat
 bot:List Nat
 ls:List Int
 ts:List Bool
structure Rst.Ok (r:Rst):Prop where
 row:Row r.ls r.top
 perm:r.bot.Perm r.top
 zl:∀ j,j ∉ r.top→r.ls.getD j 0=0
 zt:∀ j,j ∉ r.top→r.ts.getD j false=false
 len:r.ts.length=r.ls.length
 few:r.ls.length≤24
def Rst.size (r:Rst):Int:=lenOf r.ls r.top
theorem Rst.Ok.rowB {r:Rst} (h:r.Ok):Row r.ls r.bot:=⟨h.perm.nodup_iff.mpr h.row.nd,fun j hj=>h.row.lt j (h.perm.mem_iff.mp hj),fun j hj=>h.row.pos j (h.perm.mem_iff.mp hj)⟩
theorem Rst.Ok.sizeB {r:Rst} (h:r.Ok):lenOf r.ls r.bot=r.size:=J29 h.perm
def J3z (r:Rst) (y z:Int):Prop:=∃ i,AtR r.ls r.top y i∧z=moveN r.ls r.ts (r.top.getD i 0) (y - Jb r.ls r.top i) (firsts r.ls r.bot)
theorem mem_at {os:List Nat} {j:Nat} (h:j∈os):∃ k,k < os.length∧os.getD k 0=j:=by
 obtain ⟨k,hk,e⟩:=List.getElem_of_mem h
 exact ⟨k,hk,by rw [List.getD_eq_getElem?_getD,List.getElem?_eq_getElem hk];exact e⟩
theorem Rst.Ok.goes {r:Rst} (h:r.Ok) {y z:Int} (g:J3z r y z):∃ i k,AtR r.ls r.top y i∧AtR r.ls r.bot z k∧r.bot.getD k 0=r.top.getD i 0∧
  z - Jb r.ls r.bot k=(if r.ts.getD (r.top.getD i 0) false=true then r.ls.getD (r.top.getD i 0) 0 - 1 - (y - Jb r.ls r.top i) else y - Jb r.ls r.top i):=by
 obtain ⟨i,⟨i1,i2,i3⟩,rfl⟩:=g
 obtain ⟨k,hk,ek⟩:=mem_at (h.perm.mem_iff.mpr (J19 i1))
 have f:=h.rowB.first hk
 rw [ek] at f
 rw [Jm] at i3
 refine ⟨i,k,⟨i1,i2,by rw [Jm];exact i3⟩,?_,ek,?_⟩
 ·unfold moveN
  refine ⟨hk,?_,?_⟩
  ·rw [f];split <;> lia
  ·rw [Jm,ek,f];split <;> lia
 ·unfold moveN
  rw [f];split <;> lia
theorem Rst.Ok.fun_ {r:Rst} (h:r.Ok) {y z z':Int} (a:J3z r y z) (b:J3z r y z'):z=z':=by
 obtain ⟨i,hi,rfl⟩:=a
 obtain ⟨k,hk,rfl⟩:=b
 obtain rfl:=h.row.unique hi hk
 rfl
theorem Rst.Ok.inj {r:Rst} (h:r.Ok) {y y' z:Int} (a:J3z r y z) (b:J3z r y' z):y=y':=by
 obtain ⟨i,k,hi,hk,e1,o1⟩:=h.goes a
 obtain ⟨i',k',hi',hk',e2,o2⟩:=h.goes b
 obtain rfl:=h.rowB.unique hk hk'
 rw [e1] at e2
 obtain rfl:=h.row.inj hi.1 hi'.1 e2
 rw [o1] at o2
 split at o2 <;> lia
theorem Rst.Ok.there {r:Rst} (h:r.Ok) {y:Int} (h0:0≤y) (h1:y < r.size):∃ z,J3z r y z:=by
 obtain ⟨i,hi⟩:=h.row.exists h0 h1
 exact ⟨_,i,hi,rfl⟩
theorem Rst.Ok.stays {r:Rst} (h:r.Ok) {y z:Int} (a:J3z r y z):0≤z∧z < r.size:=by
 obtain ⟨i,k,_,hk,_,_⟩:=h.goes a
 have:=h.rowB.inside hk
 rw [h.sizeB] at this
 exact this
end Rl
namespace Rl
theorem J37 {n k:Nat} (h:k < n):(List.range n).getD k 0=k:=by
 rw [List.getD_eq_getElem?_getD,List.getElem?_range h];rfl
end Rl
namespace Rl
def srO (ls:List Int) (os:List Nat) (ts:List Bool) (i:Nat):Sr:=⟨(firsts ls (List.range ls.length)).getD i 0,ls.getD i 0,(firsts ls os).getD i 0,ts.getD i false && decide (1 < ls.getD i 0)⟩
def srsL (ls:List Int) (os:List Nat) (ts:List Bool):List Sr:=(List.range ls.length).map (srO ls os ts)
noncomputable def gL (ls:List Int) (os:List Nat) (ts:List Bool) (x:Int):Int:=by
 classical exact if h:∃ j,Lies (firsts ls (List.range ls.length)) ls x j then moveN ls ts h.choose (x - (firsts ls (List.range ls.length)).getD h.choose 0) (firsts ls os) else 0
theorem gL_eq {ls:List Int} {os:List Nat} {ts:List Bool} (O:Ord ls os) {x:Int} {j:Nat} (q:Lies (firsts ls (List.range ls.length)) ls x j):gL ls os ts x=moveN ls ts j (x - (firsts ls (List.range ls.length)).getD j 0) (firsts ls os):=by
 unfold gL
 have h:∃ j,Lies (firsts ls (List.range ls.length)) ls x j:=⟨j,q⟩
 rw [dif_pos h,O.range.unique h.choose_spec q]
theorem gL_lies {ls:List Int} {os:List Nat} {ts:List Bool} (O:Ord ls os) {x:Int} {j:Nat} (q:Lies (firsts ls (List.range ls.length)) ls x j):Lies (firsts ls os) ls (gL ls os ts x) j:=by
 rw [gL_eq O q];exact (J4r q).1
theorem gL_inj {ls:List Int} {os:List Nat} {ts:List Bool} (O:Ord ls os) {x y:Int} (x0:0≤x) (x1:x < ls.sum) (y0:0≤y) (y1:y < ls.sum) (e:gL ls os ts x=gL ls os ts y):x=y:=by
 obtain ⟨j,hj⟩:=O.range.exists x0 x1
 obtain ⟨k,hk⟩:=O.range.exists y0 y1
 have a:=gL_lies (ts:=ts) O hj
 have b:=gL_lies (ts:=ts) O hk
 rw [e] at a
 have jk:=O.unique a b
 subst jk
 rw [gL_eq O hj,gL_eq O hk] at e
 obtain ⟨_,_,_⟩:=hj
 unfold moveN at e
 split at e <;> omega
theorem gL_in {ls:List Int} {os:List Nat} {ts:List Bool} (O:Ord ls os) {x:Int} (x0:0≤x) (x1:x < ls.sum):0≤gL ls os ts x∧gL ls os ts x < ls.sum:=by
 obtain ⟨j,hj⟩:=O.range.exists x0 x1
 exact O.inside (gL_lies O hj)
theorem J2g {ls:List Int} {os:List Nat} (O:Ord ls os) {k:Nat} (h:k < ls.length):(firsts ls (List.range ls.length)).getD k 0=Jb ls (List.range ls.length) k:=by
 have:=O.range.first h
 rwa [J37 h] at this
theorem sr_pc {ls:List Int} {os:List Nat} {ts:List Bool} (O:Ord ls os) {k:Nat} (h:k < ls.length):Pc (gL ls os ts) (Jb ls (List.range ls.length) k) (srO ls os ts k):=by
 have fr:=J2g O h
 have one:=O.one h
 have at_:∀ x,0≤x→x < ls.getD k 0→gL ls os ts (Jb ls (List.range ls.length) k + x)=if ts.getD k false=true then (firsts ls os).getD k 0 + ls.getD k 0 - 1 - x else (firsts ls os).getD k 0 + x:=fun x h0 h1=>by
  rw [gL_eq O (j:=k) ⟨h,by omega,by omega⟩]
  unfold moveN
  rw [fr,show Jb ls (List.range ls.length) k + x - Jb ls (List.range ls.length) k=x by omega]
 refine ⟨fr,one,fun t=>?_,fun t x h0 h1=>?_,fun t x h0 h1=>?_⟩
 ·have t:(ts.getD k false && decide (1 < ls.getD k 0))=true:=t
  rw [Bool.and_eq_true] at t
  exact of_decide_eq_true t.2
 ·have h1:x < ls.getD k 0:=h1
  have t:(ts.getD k false && decide (1 < ls.getD k 0))=false:=t
  rw [at_ x h0 h1]
  show _=(firsts ls os).getD k 0 + x
  by_cases c:ts.getD k false=true
  ·rw [c,Bool.true_and] at t
   have:=of_decide_eq_false t
   rw [if_pos c]
   omega
  ·rw [if_neg c]
 ·have h1:x < ls.getD k 0:=h1
  have t:(ts.getD k false && decide (1 < ls.getD k 0))=true:=t
  rw [Bool.and_eq_true] at t
  rw [at_ x h0 h1,if_pos t.1]
  rfl
theorem srs_from {ls:List Int} {os:List Nat} {ts:List Bool} (O:Ord ls os):∀ (d k:Nat),k + d=ls.length→Rep (gL ls os ts) (Jb ls (List.range ls.length) k) (((List.range ls.length).drop k).map (srO ls os ts)) ls.sum
 | 0,k,e=>by
  have e:k=ls.length:=by omega
  subst e
  rw [List.drop_of_length_le (by simp)]
  exact O.range.whole
 | d + 1,k,e=>by
  have hk:k < ls.length:=by omega
  rw [List.drop_eq_getElem_cons (by simpa using hk),List.getElem_range,List.map_cons]
  refine ⟨sr_pc O hk,?_⟩
  have:=srs_from (ts:=ts) O d (k + 1) (by omega)
  rw [Jm,J37 hk] at this
  exact this
theorem srs_rep {ls:List Int} {os:List Nat} {ts:List Bool} (O:Ord ls os):Rep (gL ls os ts) 0 (srsL ls os ts) ls.sum:=srs_from O ls.length 0 (by omega)
theorem Pc.congr {g h:Int→Int} {a:Int} {s:Sr} (p:Pc g a s) (e:∀ x,a≤x→x < a + s.le→g x=h x):Pc h a s :=
 ⟨p.fi,p.le,p.tu,fun t x h0 h1=>by rw [← e _ (by omega) (by omega)];exact p.up t x h0 h1,fun t x h0 h1=>by rw [← e _ (by omega) (by omega)];exact p.dn t x h0 h1⟩
theorem RepS.congr {g h:Int→Int}:∀ {ss:List Sr} {a b:Int},RepS g a ss b→(∀ x,a≤x→x < b→g x=h x)→RepS h a ss b
 | [],_,_,r,_=>r
 | s :: r,a,b,⟨h1,h2,h3⟩,e=>by
  have l:=h1.le
  have z:=h3.le
  refine ⟨h1.congr fun x x0 x1=>e x x0 (by omega),fun n=>?_,RepS.congr h3 fun x x0 x1=>e x (by omega) x1⟩
  have lt:a + s.le < b:=by
   cases r with
   | nil=>exact absurd rfl n
   | cons t r'=>have:=h3.1.le;have:=h3.2.2.le;omega
  rw [← e _ (by omega) lt,← e _ (by omega) (by omega)]
  exact h2 n
theorem Pc.val {g h:Int→Int} {a:Int} {s:Sr} (p:Pc g a s) (q:Pc h a s) {x:Int} (x0:a≤x) (x1:x < a + s.le):g x=h x:=by
 cases t:s.tu with
 | false =>
  have e1:=p.up t (x - a) (by omega) (by omega)
  have e2:=q.up t (x - a) (by omega) (by omega)
  rw [show a + (x - a)=x by omega] at e1 e2
  omega
 | true =>
  have e1:=p.dn t (x - a) (by omega) (by omega)
  have e2:=q.dn t (x - a) (by omega) (by omega)
  rw [show a + (x - a)=x by omega] at e1 e2
  omega
theorem RepS.val {g h:Int→Int}:∀ {ss:List Sr} {a b c:Int},RepS g a ss b→RepS h a ss c→b=c∧∀ x,a≤x→x < b→g x=h x
 | [],a,b,c,e1,e2=>by
  have e1:a=b:=e1
  have e2:a=c:=e2
  exact ⟨by omega,fun x x0 x1=>by omega⟩
 | s :: r,a,b,c,⟨h1,_,h3⟩,⟨k1,_,k3⟩=>by
  obtain ⟨e,v⟩:=RepS.val h3 k3
  refine ⟨e,fun x x0 x1=>?_⟩
  rcases Int.lt_or_le x (a + s.le) with c | c
  ·exact h1.val k1 x0 c
  ·exact v x c x1
end Rl
namespace Rl
theorem RepS.at {g:Int→Int}:∀ {L:List Sr} {a b:Int},RepS g a L b→∀ (i:Nat) (s:Sr),L[i]?=some s→Pc g s.fi s∧a≤s.fi∧s.fi + s.le≤b
 | [],_,_,_,i,s,e=>by simp at e
 | t :: r,a,b,⟨h1,h2,h3⟩,0,s,e=>by
  have e:some t=some s:=e
  cases e
  have:=h3.le
  have f:=h1.fi
  rw [f]
  exact ⟨h1,Int.le_refl _,this⟩
 | t :: r,a,b,⟨h1,h2,h3⟩,i + 1,s,e=>by
  obtain ⟨p1,p2,p3⟩:=RepS.at h3 i s e
  have:=h1.le
  exact ⟨p1,by omega,p3⟩
theorem RepS.next {g:Int→Int}:∀ {L:List Sr} {a b:Int},RepS g a L b→∀ (i:Nat) (s t:Sr),L[i]?=some s→L[i + 1]?=some t→t.fi=s.fi + s.le
 | [],_,_,_,i,s,t,e,_=>by simp at e
 | u :: r,a,b,⟨h1,h2,h3⟩,0,s,t,e,e2=>by
  have e:some u=some s:=e
  cases e
  cases r with
  | nil=>simp at e2
  | cons v r' =>
   have e2:some v=some t:=e2
   cases e2
   rw [h3.1.fi,h1.fi]
 | u :: r,a,b,⟨h1,h2,h3⟩,i + 1,s,t,e,e2=>RepS.next h3 i s t e e2
theorem RepS.before {g:Int→Int}:∀ {L:List Sr} {a b:Int},RepS g a L b→∀ (i j:Nat) (s t:Sr),i < j→L[i]?=some s→L[j]?=some t→s.fi + s.le≤t.fi
 | [],_,_,_,i,j,s,t,_,e,_=>by simp at e
 | u :: r,a,b,⟨h1,h2,h3⟩,0,j + 1,s,t,_,e,e2=>by
  have e:some u=some s:=e
  cases e
  obtain ⟨_,p2,_⟩:=RepS.at h3 j t e2
  have:=h1.fi
  omega
 | u :: r,a,b,⟨h1,h2,h3⟩,i + 1,j + 1,s,t,h,e,e2=>RepS.before h3 i j s t (by omega) e e2
theorem RepS.tot {g:Int→Int}:∀ {L:List Sr} {a b:Int},RepS g a L b→a + (L.map Sr.le).sum=b
 | [],a,b,e=>by
  have e:a=b:=e
  simp [e]
 | s :: r,a,b,⟨_,_,h3⟩=>by
  have:=RepS.tot h3
  rw [List.map_cons,List.sum_cons]
  omega
theorem Pc.hit {g:Int→Int} {a v:Int} {s:Sr} (p:Pc g a s) (v0:s.la≤v) (v1:v < s.la + s.le):∃ x,a≤x∧x < a + s.le∧g x=v:=by
 cases t:s.tu with
 | false=>exact ⟨a + (v - s.la),by omega,by omega,by rw [p.up t _ (by omega) (by omega)];omega⟩
 | true=>exact ⟨a + (s.la + s.le - 1 - v),by omega,by omega,by rw [p.dn t _ (by omega) (by omega)];omega⟩
theorem Pc.low {g:Int→Int} {a:Int} {s:Sr} (p:Pc g a s):∃ x,a≤x∧x < a + s.le∧g x=s.la:=p.hit (Int.le_refl _) (by have:=p.le;omega)
theorem Pc.high {g:Int→Int} {a:Int} {s:Sr} (p:Pc g a s):∃ x,a≤x∧x < a + s.le∧g x=s.la + s.le - 1:=p.hit (by have:=p.le;omega) (by omega)
def s0:Sr:=⟨0,0,0,false⟩
section
variable {g:Int→Int} {L:List Sr} {N:Int} {os:List Nat}
theorem getL {i:Nat} (h:i < L.length):L[i]?=some (L.getD i s0):=by rw [List.getD_eq_getElem?_getD,List.getElem?_eq_getElem h];rfl
theorem leD {i:Nat} (h:i < L.length):(L.map Sr.le).getD i 0=(L.getD i s0).le:=by
 rw [List.getD_eq_getElem?_getD,List.getElem?_map,getL h];rfl
theorem laD {i:Nat} (h:i < L.length):(L.map Sr.la).getD i 0=(L.getD i s0).la:=by
 rw [List.getD_eq_getElem?_getD,List.getElem?_map,getL h];rfl
theorem tuD {i:Nat} (h:i < L.length):(L.map Sr.tu).getD i false=(L.getD i s0).tu:=by
 rw [List.getD_eq_getElem?_getD,List.getElem?_map,getL h];rfl
theorem RepS.ord (R:RepS g 0 L N) (p:os.Perm (List.range L.length)):Ord (L.map Sr.le) os :=
 ⟨fun a ha=>by
  obtain ⟨s,hs,rfl⟩:=List.mem_map.mp ha
  obtain ⟨i,hi,e⟩:=List.getElem_of_mem hs
  exact (R.at i s (by rw [List.getElem?_eq_getElem hi,e])).1.le,by rw [List.length_map];exact p⟩
theorem RepS.apart (R:RepS g 0 L N) (inj:∀ x y,0≤x→x < N→0≤y→y < N→g x=g y→x=y) {i j:Nat} (hi:i < L.length) (hj:j < L.length) (ne:i≠j) (h:(L.getD i s0).la≤(L.getD j s0).la):(L.getD i s0).la + (L.getD i s0).le≤(L.getD j s0).la:=by
 obtain ⟨p1,p2,p3⟩:=R.at i _ (getL hi)
 obtain ⟨q1,q2,q3⟩:=R.at j _ (getL hj)
 rcases Int.lt_or_le (L.getD j s0).la ((L.getD i s0).la + (L.getD i s0).le) with c | c
 ·obtain ⟨x,x0,x1,ex⟩:=p1.hit h c
  obtain ⟨y,y0,y1,ey⟩:=q1.low
  have:=inj x y (by omega) (by omega) (by omega) (by omega) (by omega)
  subst this
  rcases Nat.lt_or_gt_of_ne ne with l | l
  ·have:=R.before i j _ _ l (getL hi) (getL hj);omega
  ·have:=R.before j i _ _ l (getL hj) (getL hi);omega
 ·exact c
theorem RepS.laid (R:RepS g 0 L N) (inj:∀ x y,0≤x→x < N→0≤y→y < N→g x=g y→x=y) (inn:∀ x,0≤x→x < N→0≤g x∧g x < N) (p:os.Perm (List.range L.length))
  (srt:os.Pairwise (fun i j=>(L.map Sr.la).getD i 0≤(L.map Sr.la).getD j 0)):∀ k,k < L.length→(L.getD (os.getD k 0) s0).la=Jb (L.map Sr.le) os k:=by
 have O:=R.ord p
 have lm:(L.map Sr.le).length=L.length:=List.length_map ..
 have ol:os.length=L.length:=by rw [p.length_eq,List.length_range]
 have lt:∀ k,k < L.length→os.getD k 0 < L.length:=fun k h=>by have:=O.lt (i:=k) (by omega);omega
 have nxt:∀ k,Jb (L.map Sr.le) os (k + 1)=Jb (L.map Sr.le) os k + (L.map Sr.le).getD (os.getD k 0) 0:=fun k=>Jm _ _ k
 have step:∀ k,k + 1 < L.length→(L.getD (os.getD k 0) s0).la + (L.getD (os.getD k 0) s0).le≤(L.getD (os.getD (k + 1) 0) s0).la:=fun k h=>by
  refine R.apart inj (lt k (by omega)) (lt (k + 1) h) (fun e=>?_) ?_
  ·have:=O.inj (i:=k) (j:=k + 1) (by omega) (by omega) e
   omega
  ·have:=(List.pairwise_iff_getElem.mp srt) k (k + 1) (by omega) (by omega) (by omega)
   rw [← laD (lt k (by omega)),← laD (lt (k + 1) h)]
   rw [List.getD_eq_getElem?_getD (l:=os),List.getElem?_eq_getElem (by omega:k < os.length),List.getD_eq_getElem?_getD (l:=os),List.getElem?_eq_getElem (by omega:k + 1 < os.length)]
   exact this
 have lowB:∀ k,k < L.length→Jb (L.map Sr.le) os k≤(L.getD (os.getD k 0) s0).la:=by
  intro k
  induction k with
  | zero =>
   intro h
   obtain ⟨p1,p2,p3⟩:=R.at _ _ (getL (lt 0 h))
   obtain ⟨x,x0,x1,ex⟩:=p1.low
   have:=inn x (by omega) (by omega)
   rw [Jo];omega
  | succ k ih =>
   intro h
   have h1:=ih (by omega)
   have h2:=step k h
   rw [nxt,leD (lt k (by omega))]
   omega
 have tot:Jb (L.map Sr.le) os L.length=N:=by
  have h:=O.whole
  rw [lm] at h
  have:=R.tot
  omega
 have upB:∀ d k,k + d + 1=L.length→(L.getD (os.getD k 0) s0).la + (L.getD (os.getD k 0) s0).le≤Jb (L.map Sr.le) os (k + 1):=by
  intro d
  induction d with
  | zero =>
   intro k h
   obtain ⟨p1,p2,p3⟩:=R.at _ _ (getL (lt k (by omega)))
   obtain ⟨x,x0,x1,ex⟩:=p1.high
   have:=inn x (by omega) (by omega)
   rw [show k + 1=L.length by omega,tot];omega
  | succ d ih =>
   intro k h
   have h1:=ih (k + 1) (by omega)
   have h2:=step k (by omega)
   have h3:=nxt (k + 1)
   rw [leD (lt (k + 1) (by omega))] at h3
   omega
 intro k h
 have h1:=lowB k h
 have h2:=upB (L.length - 1 - k) k (by omega)
 rw [nxt,leD (lt k h)] at h2
 omega
theorem RepS.fis (R:RepS g 0 L N):∀ k,k < L.length→(L.getD k s0).fi=Jb (L.map Sr.le) (List.range L.length) k
 | 0,h=>by
  rw [Jo]
  cases L with
  | nil=>simp at h
  | cons s r=>exact R.1.fi
 | k + 1,h=>by
  have h1:=RepS.fis R k (by omega)
  have h2:=R.next k _ _ (getL (by omega)) (getL h)
  rw [h2,h1,Jm,J37 (by omega:k < L.length),leD (by omega)]
theorem RepS.own (R:RepS g 0 L N) (inj:∀ x y,0≤x→x < N→0≤y→y < N→g x=g y→x=y) (inn:∀ x,0≤x→x < N→0≤g x∧g x < N) (p:os.Perm (List.range L.length))
  (srt:os.Pairwise (fun i j=>(L.map Sr.la).getD i 0≤(L.map Sr.la).getD j 0)):srsL (L.map Sr.le) os (L.map Sr.tu)=L:=by
 have O:=R.ord p
 have lm:(L.map Sr.le).length=L.length:=List.length_map ..
 apply List.ext_getElem?
 intro i
 unfold srsL
 rw [lm,List.getElem?_map]
 by_cases h:i < L.length
 ·rw [List.getElem?_range h,getL h]
  refine congrArg some ?_
  obtain ⟨k,hk,ek⟩:=O.onto (j:=i) (by omega)
  have e1:=R.laid inj inn p srt k (by omega)
  rw [ek] at e1
  have e2:=O.first (i:=k) hk
  rw [ek] at e2
  have e3:=R.fis i h
  have e4:=J2g O (k:=i) (by omega)
  rw [lm] at e4
  have P:=(R.at i _ (getL h)).1
  unfold srO
  rw [lm,e4,← e3,leD h,e2,← e1,tuD h]
  generalize L.getD i s0=s at *
  have t:(s.tu && decide (1 < s.le))=s.tu:=by
   cases q:s.tu with
   | false=>rfl
   | true=>rw [decide_eq_true (P.tu q)];rfl
  rw [t]
 ·rw [List.getElem?_eq_none (by simpa using h),List.getElem?_eq_none (by simpa using h)];rfl
end
theorem RepS.rep {g:Int→Int}:∀ {L:List Sr} {a b:Int},RepS g a L b→Rep g a L b
 | [],_,_,h=>h
 | s :: r,_,_,⟨h1,_,h3⟩=>⟨h1,RepS.rep h3⟩
theorem Rep.val {g h:Int→Int}:∀ {ss:List Sr} {a b c:Int},Rep g a ss b→Rep h a ss c→b=c∧∀ x,a≤x→x < b→g x=h x
 | [],a,b,c,e1,e2=>by
  have e1:a=b:=e1
  have e2:a=c:=e2
  exact ⟨by omega,fun x x0 x1=>by omega⟩
 | s :: r,a,b,c,⟨h1,h3⟩,⟨k1,k3⟩=>by
  obtain ⟨e,v⟩:=Rep.val h3 k3
  refine ⟨e,fun x x0 x1=>?_⟩
  rcases Int.lt_or_le x (a + s.le) with c | c
  ·exact h1.val k1 x0 c
  ·exact v x c x1
end Rl
namespace Rl
theorem RepS.order {g:Int→Int} {L:List Sr} {N:Int} {os os':List Nat} (R:RepS g 0 L N) (inj:∀ x y,0≤x→x < N→0≤y→y < N→g x=g y→x=y)
  (p:os.Perm (List.range L.length)) (srt:os.Pairwise (fun i j=>(L.map Sr.la).getD i 0≤(L.map Sr.la).getD j 0))
  (p':os'.Perm (List.range L.length)) (srt':os'.Pairwise (fun i j=>(L.map Sr.la).getD i 0≤(L.map Sr.la).getD j 0)):os=os':=by
 have m:os.map (fun i=>(L.map Sr.la).getD i 0)=os'.map (fun i=>(L.map Sr.la).getD i 0) :=
  J35 ((p.trans p'.symm).map _) (List.pairwise_map.mpr srt) (List.pairwise_map.mpr srt')
 have one:∀ i j,i < L.length→j < L.length→(L.map Sr.la).getD i 0=(L.map Sr.la).getD j 0→i=j:=fun i j hi hj e=>by
  rw [laD hi,laD hj] at e
  rcases Nat.decEq i j with ne | ne
  ·have h1:=R.apart inj hi hj ne (by omega)
   have:=(R.at i _ (getL hi)).1.le
   omega
  ·exact ne
 have go:∀ (xs ys:List Nat),(∀ i∈xs,i < L.length)→(∀ i∈ys,i < L.length)→xs.map (fun i=>(L.map Sr.la).getD i 0)=ys.map (fun i=>(L.map Sr.la).getD i 0)→xs=ys:=by
  intro xs
  induction xs with
  | nil =>
   intro ys _ _ e
   cases ys with
   | nil=>rfl
   | cons y r=>cases e
  | cons x r ih =>
   intro ys hx hy e
   cases ys with
   | nil=>cases e
   | cons y r' =>
    rw [List.map_cons,List.map_cons] at e
    obtain ⟨e1,e2⟩:=List.cons.inj e
    rw [one x y (hx x (List.mem_cons_self ..)) (hy y (List.mem_cons_self ..)) e1,ih r' (fun i h=>hx i (List.mem_cons_of_mem _ h)) (fun i h=>hy i (List.mem_cons_of_mem _ h)) e2]
 exact go os os' (fun i h=>List.mem_range.mp (p.mem_iff.mp h)) (fun i h=>List.mem_range.mp (p'.mem_iff.mp h)) m
structure PlO (L:List Sr) (os:List Nat):Prop where
 perm:os.Perm (List.range L.length)
 srt:os.Pairwise (fun i j=>(L.map Sr.la).getD i 0≤(L.map Sr.la).getD j 0)
def Run (g:Int→Int) (lo hi:Int):Prop:=(∀ x,lo≤x→x≤hi→g x=g lo + (x - lo))∨∀ x,lo≤x→x≤hi→g x=g lo - (x - lo)
theorem Run.sub {g:Int→Int} {lo hi lo' hi':Int} (r:Run g lo hi) (h1:lo≤lo') (h2:hi'≤hi):Run g lo' hi':=by
 rcases r with r | r
 ·exact .inl fun x x0 x1=>by rw [r x (by omega) (by omega),r lo' (by omega) (by omega)];omega
 ·exact .inr fun x x0 x1=>by rw [r x (by omega) (by omega),r lo' (by omega) (by omega)];omega
end Rl
namespace Rl
end Rl
namespace Rl
theorem Rep.all {g:Int→Int}:∀ {L:List Sr} {a b:Int},Rep g a L b→∀ s∈L,Pc g s.fi s∧a≤s.fi∧s.fi + s.le≤b
 | [],_,_,_,s,h=>by cases h
 | t :: r,a,b,⟨h1,h2⟩,s,h=>by
  have e:=h1.fi
  have l:=h1.le
  have lb:=h2.le
  rcases List.mem_cons.mp h with rfl | h
  ·rw [e];exact ⟨h1,Int.le_refl _,lb⟩
  ·obtain ⟨k1,k2,k3⟩:=Rep.all h2 s h
   exact ⟨k1,by omega,k3⟩
theorem Rep.pair {g:Int→Int}:∀ {L:List Sr} {a b:Int},Rep g a L b→L.Pairwise (fun s t=>s.fi + s.le≤t.fi)
 | [],_,_,_=>.nil
 | t :: r,a,b,⟨h1,h2⟩=>.cons (fun s hs=>by have:=(h2.all s hs).2.1;have:=h1.fi;omega) (Rep.pair h2)
theorem Rep.cover {g:Int→Int}:∀ {L:List Sr} {a b:Int},Rep g a L b→∀ x,a≤x→x < b→∃ s∈L,s.fi≤x∧x < s.fi + s.le
 | [],a,b,h,x,x0,x1=>by have h:a=b:=h;omega
 | t :: r,a,b,⟨h1,h2⟩,x,x0,x1=>by
  have e:=h1.fi
  by_cases c:x < a + t.le
  ·exact ⟨t,List.mem_cons_self ..,by omega,by omega⟩
  ·obtain ⟨s,hs,k⟩:=Rep.cover h2 x (by omega) x1
   exact ⟨s,List.mem_cons_of_mem _ hs,k⟩
theorem cover_rep {f:Int→Int}:∀ (L:List Sr) (a N:Int),(∀ s∈L,Pc f s.fi s)→(∀ s∈L,a≤s.fi∧s.fi + s.le≤N)→L.Pairwise (fun s t=>s.fi≤t.fi)→L.Pairwise (fun s t=>s.fi + s.le≤t.fi∨t.fi + t.le≤s.fi)→
  (∀ x,a≤x→x < N→∃ s∈L,s.fi≤x∧x < s.fi + s.le)→a≤N→Rep f a L N
 | [],a,N,_,_,_,_,cv,h=>by
  show a=N
  rcases Int.lt_or_le a N with c | c
  ·obtain ⟨s,hs,_⟩:=cv a (Int.le_refl _) c
   cases hs
  ·omega
 | s :: r,a,N,hp,hb,hs,hd,cv,h=>by
  obtain ⟨s1,s2⟩:=List.pairwise_cons.mp hs
  obtain ⟨d1,d2⟩:=List.pairwise_cons.mp hd
  have hs0:=hp s (List.mem_cons_self ..)
  have l:=hs0.le
  obtain ⟨b1,b2⟩:=hb s (List.mem_cons_self ..)
  have e:s.fi=a:=by
   obtain ⟨t,ht,t1,t2⟩:=cv a (Int.le_refl _) (by omega)
   rcases List.mem_cons.mp ht with rfl | ht
   ·omega
   ·have:=s1 t ht
    have:=(hb t (List.mem_cons_of_mem _ ht)).1
    omega
  refine ⟨e ▸ hs0,?_⟩
  refine cover_rep r (a + s.le) N (fun t ht=>hp t (List.mem_cons_of_mem _ ht)) (fun t ht=>?_) s2 d2 (fun x x0 x1=>?_) (by omega)
  ·obtain ⟨c1,c2⟩:=hb t (List.mem_cons_of_mem _ ht)
   have:=(hp t (List.mem_cons_of_mem _ ht)).le
   have:=s1 t ht
   rcases d1 t ht with z | z
   ·exact ⟨by omega,c2⟩
   ·exact ⟨by omega,c2⟩
  ·obtain ⟨t,ht,t1,t2⟩:=cv x (by omega) x1
   rcases List.mem_cons.mp ht with rfl | ht
   ·omega
   ·exact ⟨t,ht,t1,t2⟩
def jb (o t:Sr):Int:=if t.fi > o.la then t.fi else o.la
def je (o t:Sr):Int:=if t.fi + t.le < o.la + o.le then t.fi + t.le else o.la + o.le
def jpart (o t:Sr):Sr:=⟨o.fi + (if o.tu=true then o.la + o.le - je o t else jb o t - o.la),je o t - jb o t,t.la + (if t.tu=true then t.fi + t.le - je o t else jb o t - t.fi),(o.tu != t.tu) && decide (1 < je o t - jb o t)⟩
def part1 (o t:Sr):List Sr:=if je o t≤jb o t then [] else [jpart o t]
theorem j_bds (o t:Sr):o.la≤jb o t∧t.fi≤jb o t∧je o t≤o.la + o.le∧je o t≤t.fi + t.le:=by
 unfold jb je
 refine ⟨?_,?_,?_,?_⟩ <;> split <;> omega
theorem j_in {o t:Sr} {v:Int} (h1:o.la≤v) (h2:v < o.la + o.le) (h3:t.fi≤v) (h4:v < t.fi + t.le):jb o t≤v∧v < je o t:=by
 unfold jb je
 refine ⟨?_,?_⟩ <;> split <;> omega
theorem Pc.image {g:Int→Int} {a x:Int} {s:Sr} (p:Pc g a s) (x0:a≤x) (x1:x < a + s.le):s.la≤g x∧g x < s.la + s.le:=by
 cases t:s.tu with
 | true =>
  have:=p.dn t (x - a) (by omega) (by omega)
  rw [show a + (x - a)=x by omega] at this
  omega
 | false =>
  have:=p.up t (x - a) (by omega) (by omega)
  rw [show a + (x - a)=x by omega] at this
  omega
theorem J3p {g h:Int→Int} {o t:Sr} (po:Pc g o.fi o) (pt:Pc h t.fi t) (hb:jb o t < je o t) :
  Pc (fun x=>h (g x)) (jpart o t).fi (jpart o t)∧o.fi≤(jpart o t).fi∧(jpart o t).fi + (jpart o t).le≤o.fi + o.le∧∀ x,(jpart o t).fi≤x→x < (jpart o t).fi + (jpart o t).le→jb o t≤g x∧g x < je o t:=by
 obtain ⟨b1,b2,b3,b4⟩:=j_bds o t
 unfold jpart
 dsimp only
 generalize jb o t=b at *
 generalize je o t=e at *
 have go:∀ x,0≤x→x < e - b→g (o.fi + (if o.tu=true then o.la + o.le - e else b - o.la) + x)=if o.tu=true then e - 1 - x else b + x:=fun x x0 x1=>by
  cases tu:o.tu with
  | true =>
   rw [if_pos rfl,if_pos rfl]
   have:=po.dn tu (o.la + o.le - e + x) (by omega) (by omega)
   rw [show o.fi + (o.la + o.le - e) + x=o.fi + (o.la + o.le - e + x) by omega,this];omega
  | false =>
   rw [if_neg (by decide),if_neg (by decide)]
   have:=po.up tu (b - o.la + x) (by omega) (by omega)
   rw [show o.fi + (b - o.la) + x=o.fi + (b - o.la + x) by omega,this];omega
 have ht:∀ v,b≤v→v < e→h v=if t.tu=true then t.la + t.le - 1 - (v - t.fi) else t.la + (v - t.fi):=fun v v0 v1=>by
  cases tu:t.tu with
  | true =>
   rw [if_pos rfl]
   have:=pt.dn tu (v - t.fi) (by omega) (by omega)
   rw [show t.fi + (v - t.fi)=v by omega] at this
   exact this
  | false =>
   rw [if_neg (by decide)]
   have:=pt.up tu (v - t.fi) (by omega) (by omega)
   rw [show t.fi + (v - t.fi)=v by omega] at this
   exact this
 have val:∀ x,0≤x→x < e - b→h (g (o.fi + (if o.tu=true then o.la + o.le - e else b - o.la) + x))=if (o.tu != t.tu)=true then t.la + (if t.tu=true then t.fi + t.le - e else b - t.fi) + (e - b) - 1 - x else t.la + (if t.tu=true then t.fi + t.le - e else b - t.fi) + x:=fun x x0 x1=>by
  rw [go x x0 x1,ht _ (by split <;> omega) (by split <;> omega)]
  cases o.tu <;> cases t.tu <;> simp <;> omega
 refine ⟨⟨rfl,by show 1≤e - b;omega,fun z=>?_,fun z x x0 x1=>?_,fun z x x0 x1=>?_⟩,?_,?_,fun x x0 x1=>?_⟩
 ·have z:((o.tu != t.tu) && decide (1 < e - b))=true:=z
  rw [Bool.and_eq_true,decide_eq_true_iff] at z
  exact z.2
 ·have z:((o.tu != t.tu) && decide (1 < e - b))=false:=z
  have x1:x < e - b:=x1
  show h (g (o.fi + _ + x))=_
  rw [val x x0 x1]
  by_cases c:(o.tu != t.tu)=true
  ·rw [if_pos c]
   rw [c,Bool.true_and,decide_eq_false_iff_not] at z
   show _=t.la + (if t.tu=true then t.fi + t.le - e else b - t.fi) + x
   omega
  ·rw [if_neg c]
 ·have z:((o.tu != t.tu) && decide (1 < e - b))=true:=z
  rw [Bool.and_eq_true] at z
  have x1:x < e - b:=x1
  show h (g (o.fi + _ + x))=_
  rw [val x x0 x1,if_pos z.1]
 ·show o.fi≤o.fi + (if o.tu=true then o.la + o.le - e else b - o.la)
  split <;> omega
 ·show o.fi + (if o.tu=true then o.la + o.le - e else b - o.la) + (e - b)≤o.fi + o.le
  split <;> omega
 ·have x0:o.fi + (if o.tu=true then o.la + o.le - e else b - o.la)≤x:=x0
  have x1:x < o.fi + (if o.tu=true then o.la + o.le - e else b - o.la) + (e - b):=x1
  have:=go (x - (o.fi + (if o.tu=true then o.la + o.le - e else b - o.la))) (by omega) (by omega)
  rw [show o.fi + (if o.tu=true then o.la + o.le - e else b - o.la) + (x - (o.fi + (if o.tu=true then o.la + o.le - e else b - o.la)))=x by omega] at this
  rw [this]
  by_cases tu:o.tu=true
  ·rw [if_pos tu] at x0 x1
   rw [if_pos tu,if_pos tu];omega
  ·rw [if_neg tu] at x0 x1
   rw [if_neg tu,if_neg tu];omega
theorem jpart_has {g h:Int→Int} {o t:Sr} (po:Pc g o.fi o) {x:Int} (x0:o.fi≤x) (x1:x < o.fi + o.le) (h3:t.fi≤g x) (h4:g x < t.fi + t.le):jb o t < je o t∧(jpart o t).fi≤x∧x < (jpart o t).fi + (jpart o t).le:=by
 obtain ⟨i1,i2⟩:=po.image x0 x1
 obtain ⟨v1,v2⟩:=j_in i1 i2 h3 h4
 obtain ⟨b1,b2,b3,b4⟩:=j_bds o t
 unfold jpart
 dsimp only
 generalize jb o t=b at *
 generalize je o t=e at *
 have:g x=if o.tu=true then o.la + o.le - 1 - (x - o.fi) else o.la + (x - o.fi):=by
  cases tu:o.tu with
  | true =>
   rw [if_pos rfl]
   have:=po.dn tu (x - o.fi) (by omega) (by omega)
   rwa [show o.fi + (x - o.fi)=x by omega] at this
  | false =>
   rw [if_neg (by decide)]
   have:=po.up tu (x - o.fi) (by omega) (by omega)
   rwa [show o.fi + (x - o.fi)=x by omega] at this
 rw [this] at v1 v2
 by_cases tu:o.tu=true
 ·rw [if_pos tu] at v1 v2
  rw [if_pos tu]
  exact ⟨by omega,by omega,by omega⟩
 ·rw [if_neg tu] at v1 v2
  rw [if_neg tu]
  exact ⟨by omega,by omega,by omega⟩
def jn (os ts:List Sr):List Sr:=os.flatMap fun o=>ts.flatMap (part1 o)
theorem mem_part {o t s:Sr}:s∈part1 o t↔jb o t < je o t∧s=jpart o t:=by
 unfold part1
 split
 ·constructor
  ·intro h;cases h
  ·rintro ⟨h,_⟩;omega
 ·rw [List.mem_singleton]
  exact ⟨fun h=>⟨by omega,h⟩,fun h=>h.2⟩
theorem mem_jn {os ts:List Sr} {s:Sr}:s∈jn os ts↔∃ o∈os,∃ t∈ts,jb o t < je o t∧s=jpart o t:=by
 unfold jn
 simp only [List.mem_flatMap,mem_part]
theorem jn_rep {g h:Int→Int} {N:Int} {os ts L:List Sr} (ho:Rep g 0 os N) (ht:Rep h 0 ts N) (inn:∀ x,0≤x→x < N→0≤g x∧g x < N) (h0:0≤N) (p:L.Perm (jn os ts)) (srt:L.Pairwise (fun s t=>s.fi≤t.fi)):Rep (fun x=>h (g x)) 0 L N:=by
 have fact:∀ s∈jn os ts,∃ o∈os,∃ t∈ts,s=jpart o t∧Pc (fun x=>h (g x)) s.fi s∧o.fi≤s.fi∧s.fi + s.le≤o.fi + o.le∧∀ x,s.fi≤x→x < s.fi + s.le→t.fi≤g x∧g x < t.fi + t.le:=fun s hs=>by
  obtain ⟨o,ho',t,ht',hb,rfl⟩:=mem_jn.mp hs
  obtain ⟨k1,k2,k3,k4⟩:=J3p (ho.all o ho').1 (ht.all t ht').1 hb
  obtain ⟨b1,b2,b3,b4⟩:=j_bds o t
  exact ⟨o,ho',t,ht',rfl,k1,k2,k3,fun x x0 x1=>by have:=k4 x x0 x1;omega⟩
 have dis:(jn os ts).Pairwise (fun s t=>s.fi + s.le≤t.fi∨t.fi + t.le≤s.fi):=by
  unfold jn
  rw [List.pairwise_flatMap]
  refine ⟨fun o ho'=>?_,?_⟩
  ·rw [List.pairwise_flatMap]
   refine ⟨fun t ht'=>?_,?_⟩
   ·unfold part1
    split
    ·exact .nil
    ·exact List.pairwise_singleton _ _
   ·refine ht.pair.imp_of_mem fun {t1 t2} m1 m2 hlt s hs u hu=>?_
    obtain ⟨hb1,rfl⟩:=mem_part.mp hs
    obtain ⟨hb2,rfl⟩:=mem_part.mp hu
    obtain ⟨k1,k2,k3,k4⟩:=J3p (ho.all o ho').1 (ht.all t1 m1).1 hb1
    obtain ⟨q1,q2,q3,q4⟩:=J3p (ho.all o ho').1 (ht.all t2 m2).1 hb2
    obtain ⟨_,_,_,c4⟩:=j_bds o t1
    obtain ⟨_,c2,_,_⟩:=j_bds o t2
    have l1:=k1.le
    have l2:=q1.le
    rcases Int.lt_or_le (jpart o t1).fi (jpart o t2).fi with c | c
    ·rcases Int.lt_or_le (jpart o t2).fi ((jpart o t1).fi + (jpart o t1).le) with d | d
     ·have a1:=k4 (jpart o t2).fi (by omega) d
      have a2:=q4 (jpart o t2).fi (Int.le_refl _) (by omega)
      omega
     ·exact .inl d
    ·rcases Int.lt_or_le (jpart o t1).fi ((jpart o t2).fi + (jpart o t2).le) with d | d
     ·have a1:=k4 (jpart o t1).fi (Int.le_refl _) (by omega)
      have a2:=q4 (jpart o t1).fi c d
      omega
     ·exact .inr d
  ·refine ho.pair.imp_of_mem fun {o1 o2} m1 m2 hlt s hs u hu=>?_
   obtain ⟨t1,n1,hs⟩:=List.mem_flatMap.mp hs
   obtain ⟨t2,n2,hu⟩:=List.mem_flatMap.mp hu
   obtain ⟨hb1,rfl⟩:=mem_part.mp hs
   obtain ⟨hb2,rfl⟩:=mem_part.mp hu
   obtain ⟨k1,k2,k3,k4⟩:=J3p (ho.all o1 m1).1 (ht.all t1 n1).1 hb1
   obtain ⟨q1,q2,q3,q4⟩:=J3p (ho.all o2 m2).1 (ht.all t2 n2).1 hb2
   left;omega
 refine cover_rep L 0 N (fun s hs=>?_) (fun s hs=>?_) srt ?_ (fun x x0 x1=>?_) h0
 ·obtain ⟨o,_,t,_,_,k,_⟩:=fact s (p.mem_iff.mp hs)
  exact k
 ·obtain ⟨o,ho',t,_,_,k,k2,k3,_⟩:=fact s (p.mem_iff.mp hs)
  have:=(ho.all o ho').2
  omega
 ·exact (p.pairwise_iff (fun {a b} h=>h.symm)).mpr dis
 ·obtain ⟨o,ho',o1,o2⟩:=ho.cover x x0 x1
  obtain ⟨i1,i2⟩:=inn x x0 x1
  obtain ⟨t,ht',t1,t2⟩:=ht.cover (g x) i1 i2
  obtain ⟨c1,c2,c3⟩:=jpart_has (h:=h) (ho.all o ho').1 o1 o2 t1 t2
  exact ⟨jpart o t,p.mem_iff.mpr (mem_jn.mpr ⟨o,ho',t,ht',c1,rfl⟩),c2,c3⟩
theorem ind_le {α:Type} (p:α→Prop) [DecidablePred p]:∀ (L:List α),L.Pairwise (fun a b=>¬ (p a∧p b))→(L.map fun a=>if p a then 1 else 0).sum≤1
 | [],_=>by simp
 | a :: r,h=>by
  obtain ⟨h1,h2⟩:=List.pairwise_cons.mp h
  rw [List.map_cons,List.sum_cons]
  by_cases c:p a
  ·have:(r.map fun a=>if p a then 1 else 0).sum=0:=by
    have:(r.map fun a=>if p a then 1 else 0)=r.map fun _=>0:=List.map_congr_left fun b hb=>if_neg fun z=>h1 b hb ⟨c,z⟩
    rw [this]
    clear this h h1 h2
    induction r with
    | nil=>rfl
    | cons b r ih=>rw [List.map_cons,List.sum_cons,ih]
   rw [if_pos c,this];omega
  ·have:=ind_le p r h2
   rw [if_neg c];omega
theorem sum_add {α:Type} (f g:α→Nat):∀ L:List α,(L.map fun a=>f a + g a).sum=(L.map f).sum + (L.map g).sum
 | []=>rfl
 | a :: r=>by simp only [List.map_cons,List.sum_cons,sum_add f g r];omega
theorem sum_swap {α β:Type} (f:α→β→Nat) (ys:List β):∀ xs:List α,(xs.map fun a=>(ys.map fun b=>f a b).sum).sum=(ys.map fun b=>(xs.map fun a=>f a b).sum).sum
 | []=>by
  have:∀ ys:List β,(ys.map fun _=>([]:List Nat).sum).sum=0:=fun ys=>by
   induction ys with
   | nil=>rfl
   | cons b r ih=>rw [List.map_cons,List.sum_cons,ih];rfl
  exact (this ys).symm
 | a :: r=>by
  rw [List.map_cons,List.sum_cons,sum_swap f ys r,← sum_add]
  congr 1
theorem J3l {α:Type} {f g:α→Nat}:∀ {L:List α},(∀ a∈L,f a≤g a)→(L.map f).sum≤(L.map g).sum
 | [],_=>Nat.le_refl _
 | a :: r,h=>by
  rw [List.map_cons,List.sum_cons,List.map_cons,List.sum_cons]
  have:=h a (List.mem_cons_self ..)
  have:=J3l (L:=r) fun b hb=>h b (List.mem_cons_of_mem _ hb)
  omega
theorem J5m {α:Type}:∀ L:List α,(L.map fun _=>1).sum=L.length
 | []=>rfl
 | a :: r=>by rw [List.map_cons,List.sum_cons,J5m r,List.length_cons];omega
theorem jn_len {g h:Int→Int} {N:Int} {os ts:List Sr} (ho:Rep g 0 os N) (ht:Rep h 0 ts N) (inj:∀ x y,0≤x→x < N→0≤y→y < N→g x=g y→x=y):(jn os ts).length≤os.length + ts.length:=by
 have e:(jn os ts).length=(os.map fun o=>(ts.map fun t=>(part1 o t).length).sum).sum:=by
  unfold jn
  rw [List.length_flatMap]
  congr 1
  refine List.map_congr_left fun o _=>?_
  rw [List.length_flatMap]
 have b:∀ o t:Sr,(part1 o t).length≤(if t.fi≤o.la∧o.la < t.fi + t.le then 1 else 0) + (if o.la < t.fi∧t.fi < o.la + o.le then 1 else 0):=fun o t=>by
  unfold part1
  split
  ·simp
  ·rename_i c
   show 1≤_
   have c:jb o t < je o t:=by omega
   unfold jb je at c
   by_cases d:t.fi > o.la
   ·rw [if_pos d] at c
    have:o.la < t.fi∧t.fi < o.la + o.le:=⟨d,by split at c <;> omega⟩
    rw [if_pos this];omega
   ·rw [if_neg d] at c
    have:t.fi≤o.la∧o.la < t.fi + t.le:=⟨by omega,by split at c <;> omega⟩
    rw [if_pos this];omega
 rw [e]
 have h1:(os.map fun o=>(ts.map fun t=>(part1 o t).length).sum).sum≤(os.map fun o=>(ts.map fun t=>if t.fi≤o.la∧o.la < t.fi + t.le then 1 else 0).sum + (ts.map fun t=>if o.la < t.fi∧t.fi < o.la + o.le then 1 else 0).sum).sum :=
  J3l fun o _=>by rw [← sum_add];exact J3l fun t _=>b o t
 rw [sum_add] at h1
 have h2:(os.map fun o=>(ts.map fun t=>if t.fi≤o.la∧o.la < t.fi + t.le then 1 else 0).sum).sum≤os.length:=by
  rw [← J5m os]
  refine J3l fun o _=>ind_le (fun t=>t.fi≤o.la∧o.la < t.fi + t.le) ts (ht.pair.imp fun {t1 t2} hlt z=>?_)
  omega
 have h3:(os.map fun o=>(ts.map fun t=>if o.la < t.fi∧t.fi < o.la + o.le then 1 else 0).sum).sum≤ts.length:=by
  rw [sum_swap,← J5m ts]
  refine J3l fun t _=>ind_le (fun o=>o.la < t.fi∧t.fi < o.la + o.le) os (ho.pair.imp_of_mem fun {o1 o2} m1 m2 hlt z=>?_)
  obtain ⟨p1,p2,p3⟩:=ho.all o1 m1
  obtain ⟨q1,q2,q3⟩:=ho.all o2 m2
  obtain ⟨x,x0,x1,ex⟩:=p1.hit (v:=t.fi) (by omega) (by omega)
  obtain ⟨y,y0,y1,ey⟩:=q1.hit (v:=t.fi) (by omega) (by omega)
  have:=inj x y (by omega) (by omega) (by omega) (by omega) (by rw [ex,ey])
  omega
 omega
end Rl
namespace Rl
structure Bij (N:Int) (g k:Int→Int):Prop where
 inn:∀ x,0≤x→x < N→0≤g x∧g x < N
 ink:∀ x,0≤x→x < N→0≤k x∧k x < N
 kg:∀ x,0≤x→x < N→k (g x)=x
 gk:∀ x,0≤x→x < N→g (k x)=x
theorem Bij.inj {N:Int} {g k:Int→Int} (b:Bij N g k):∀ x y,0≤x→x < N→0≤y→y < N→g x=g y→x=y:=fun x y x0 x1 y0 y1 e=>by
 rw [← b.kg x x0 x1,← b.kg y y0 y1,e]
theorem Bij.symm {N:Int} {g k:Int→Int} (b:Bij N g k):Bij N k g:=⟨b.ink,b.inn,b.gk,b.kg⟩
theorem Bij.comp {N : Int} {g k h l : Int → Int} (a : Bij N g k) (b : Bij N h l) : Bij N (fun x => h (g x)) (fun x => k (l x)) :=
  ⟨fun x x0 x1 => let ⟨i, j⟩ := a.inn x x0 x1; b.inn _ i j, fun x x0 x1 => let ⟨i, j⟩ := b.ink x x0 x1; a.ink _ i j,
   fun x x0 x1 => by obtain ⟨i, j⟩ := a.inn x x0 x1; show k (l (h (g x))) = x; rw [b.kg _ i j, a.kg x x0 x1],
   fun x x0 x1 => by obtain ⟨i, j⟩ := b.ink x x0 x1; show h (g (k (l x))) = x; rw [a.gk _ i j, b.gk x x0 x1]⟩
theorem Bij.id (N:Int):Bij N (fun x=>x) (fun x=>x):=⟨fun _ a b=>⟨a,b⟩,fun _ a b=>⟨a,b⟩,fun _ _ _=>rfl,fun _ _ _=>rfl⟩
noncomputable def kL (ls:List Int) (os:List Nat) (ts:List Bool) (y:Int):Int:=by
 classical exact if h:∃ x,(0≤x∧x < ls.sum)∧gL ls os ts x=y then h.choose else 0
theorem gL_sur {ls:List Int} {os:List Nat} {ts:List Bool} (O:Ord ls os) {y:Int} (y0:0≤y) (y1:y < ls.sum):∃ x,(0≤x∧x < ls.sum)∧gL ls os ts x=y:=by
 obtain ⟨j,q⟩:=O.exists y0 y1
 have m:=J4r (gs:=firsts ls (List.range ls.length)) (ts:=ts) q
 obtain ⟨m1,m2⟩:=m
 have i:=O.range.inside m1
 refine ⟨_,i,?_⟩
 rw [gL_eq O m1]
 exact m2
theorem J28 {ls:List Int} {os:List Nat} {ts:List Bool} (O:Ord ls os):Bij ls.sum (gL ls os ts) (kL ls os ts):=by
 have sp:∀ y,0≤y→y < ls.sum→(0≤kL ls os ts y∧kL ls os ts y < ls.sum)∧gL ls os ts (kL ls os ts y)=y:=fun y y0 y1=>by
  have h:=gL_sur (ts:=ts) O y0 y1
  unfold kL
  rw [dif_pos h]
  exact h.choose_spec
 refine ⟨fun x x0 x1=>gL_in O x0 x1,fun y y0 y1=>(sp y y0 y1).1,fun x x0 x1=>?_,fun y y0 y1=>(sp y y0 y1).2⟩
 obtain ⟨i,j⟩:=gL_in (ts:=ts) O x0 x1
 obtain ⟨⟨a,b⟩,c⟩:=sp _ i j
 exact gL_inj O a b x0 x1 c
structure PlG (g:Int→Int) (N:Int) (ls:List Int) (os:List Nat) (ts:List Bool):Prop where
 ex:∃ L,RepS g 0 L N∧ls=L.map Sr.le∧ts=L.map Sr.tu∧PlO L os
theorem PlG.ord {g:Int→Int} {N:Int} {ls:List Int} {os:List Nat} {ts:List Bool} (h:PlG g N ls os ts):Ord ls os:=by
 obtain ⟨L,R,rfl,rfl,P⟩:=h.ex
 exact R.ord P.perm
theorem PlG.len {g:Int→Int} {N:Int} {ls:List Int} {os:List Nat} {ts:List Bool} (h:PlG g N ls os ts):ts.length=ls.length:=by
 obtain ⟨L,R,rfl,rfl,P⟩:=h.ex
 rw [List.length_map,List.length_map]
theorem PlG.sum {g:Int→Int} {N:Int} {ls:List Int} {os:List Nat} {ts:List Bool} (h:PlG g N ls os ts):ls.sum=N:=by
 obtain ⟨L,R,rfl,rfl,P⟩:=h.ex
 have:=R.tot
 omega
theorem PlG.goes {g k:Int→Int} {N:Int} {ls:List Int} {os:List Nat} {ts:List Bool} (h:PlG g N ls os ts) (b:Bij N g k):∀ x,0≤x→x < N→gL ls os ts x=g x:=by
 have O:=h.ord
 obtain ⟨L,R,rfl,rfl,P⟩:=h.ex
 have h1:=srs_rep (ts:=L.map Sr.tu) O
 rw [R.own b.inj b.inn P.perm P.srt] at h1
 exact fun x x0 x1=>((R.rep.val h1).2 x x0 x1).symm
theorem PlG.congr {g g':Int→Int} {N:Int} {ls:List Int} {os:List Nat} {ts:List Bool} (h:PlG g N ls os ts) (e:∀ x,0≤x→x < N→g x=g' x):PlG g' N ls os ts:=by
 obtain ⟨L,R,r⟩:=h.ex
 exact ⟨L,R.congr fun x x0 x1=>e x x0 x1,r⟩
theorem jn_repS {g h k l:Int→Int} {N:Int} {os ts L:List Sr} (bg:Bij N g k) (bh:Bij N h l) (ho:Rep g 0 os N) (ht:Rep h 0 ts N) (h0:0≤N) (p:L.Perm (jn os ts)) (srt:L.Pairwise (fun s t=>s.fi≤t.fi)):RepS (fun x=>h (g x)) 0 (lgst L) N :=
 lgst_rep (bg.comp bh).inj (jn_rep ho ht bg.inn h0 p srt)
end Rl
namespace Rl
def bndS (S:List Sr):List Int:=(S.drop 1).map Sr.fi
theorem RepS.fis_gt {g:Int→Int}:∀ {S:List Sr} {a b:Int},RepS g a S b→∀ m∈S.map Sr.fi,a≤m∧m < b
 | [],_,_,_,m,h=>by cases h
 | s :: r,a,b,⟨h1,h2,h3⟩,m,h=>by
  have l:=h1.le
  have e:=h1.fi
  have lb:=h3.le
  rw [List.map_cons] at h
  rcases List.mem_cons.mp h with rfl | h
  ·exact ⟨by omega,by omega⟩
  ·have:=RepS.fis_gt h3 m h
   exact ⟨by omega,this.2⟩
theorem RepS.cuts {g:Int→Int}:∀ {S:List Sr} {a b:Int},RepS g a S b→∀ m,a < m→m < b→(m∈bndS S↔¬ near (g m) (g (m - 1)))
 | [],a,b,h,m,m0,m1=>by have h:a=b:=h;omega
 | s :: r,a,b,⟨h1,h2,h3⟩,m,m0,m1=>by
  have l:=h1.le
  show m∈r.map Sr.fi↔_
  rcases Int.lt_trichotomy m (a + s.le) with c | c | c
  ·have n:=h1.near m0 c
   exact ⟨fun h=>by have:=(h3.fis_gt m h).1;omega,fun h=>absurd n h⟩
  ·subst c
   cases r with
   | nil=>have h3:a + s.le=b:=h3;omega
   | cons t r' =>
    have e:=h3.1.fi
    refine ⟨fun _=>h2 (by simp),fun _=>?_⟩
    rw [List.map_cons,e];exact List.mem_cons_self ..
  ·have ih:=RepS.cuts h3 m c m1
   cases r with
   | nil=>have h3:a + s.le=b:=h3;omega
   | cons t r' =>
    have e:=h3.1.fi
    rw [← ih]
    show m∈t.fi :: r'.map Sr.fi↔m∈r'.map Sr.fi
    rw [List.mem_cons]
    exact ⟨fun h=>h.resolve_left (by omega),.inr⟩
theorem RepS.bnd_in {g:Int→Int} {S:List Sr} {b:Int} (R:RepS g 0 S b):∀ m∈bndS S,0 < m∧m < b:=by
 cases S with
 | nil=>intro m h;cases h
 | cons s r =>
  obtain ⟨h1,h2,h3⟩:=R
  intro m h
  have:=h3.fis_gt m h
  have:=h1.le
  omega
theorem RepS.bnd_nodup {g:Int→Int}:∀ {S:List Sr} {a b:Int},RepS g a S b→(S.map Sr.fi).Nodup
 | [],_,_,_=>List.nodup_nil
 | s :: r,a,b,⟨h1,h2,h3⟩=>by
  rw [List.map_cons,List.nodup_cons]
  refine ⟨fun h=>?_,RepS.bnd_nodup h3⟩
  have:=(h3.fis_gt _ h).1
  have:=h1.le
  have:=h1.fi
  omega
theorem RepS.count {g:Int→Int} {S:List Sr} {N:Int} {D:List Int} (R:RepS g 0 S N) (nd:D.Nodup) (h:∀ x,x∈D↔(0 < x∧x < N)∧¬ near (g x) (g (x - 1))):D.length=S.length - 1:=by
 have n2:(bndS S).Nodup:=by
  have:=R.bnd_nodup
  unfold bndS
  rw [List.map_drop]
  exact this.sublist (List.drop_sublist _ _)
 have p:D.Perm (bndS S):=(List.perm_ext_iff_of_nodup nd n2).mpr fun x=>by
  rw [h x]
  constructor
  ·rintro ⟨⟨x0,x1⟩,n⟩
   exact (R.cuts x x0 x1).mpr n
  ·intro m
   obtain ⟨x0,x1⟩:=R.bnd_in x m
   exact ⟨⟨x0,x1⟩,(R.cuts x x0 x1).mp m⟩
 rw [p.length_eq]
 unfold bndS
 simp
theorem line_near {ls:List Int} {os:List Nat} {ts:List Bool} (O:Ord ls os) {m:Int} (m0:0 < m) (m1:m < ls.sum):(∃ j,1≤j∧j < ls.length∧m=Jb ls (List.range ls.length) j)∨near (gL ls os ts m) (gL ls os ts (m - 1)):=by
 obtain ⟨j,q⟩:=O.range.exists (Int.le_of_lt m0) m1
 have hj:=q.1
 have fj:=J2g O hj
 by_cases c:m=(firsts ls (List.range ls.length)).getD j 0
 ·left
  refine ⟨j,?_,hj,by rw [c,fj]⟩
  rcases Nat.eq_zero_or_pos j with z | z
  ·subst z
   rw [c,fj,Jo] at m0
   omega
  ·exact z
 ·right
  have q2:Lies (firsts ls (List.range ls.length)) ls (m - 1) j:=⟨hj,by have:=q.2.1;omega,by have:=q.2.2;omega⟩
  rw [gL_eq O q,gL_eq O q2]
  unfold moveN near
  split <;> omega
theorem J5n {ls:List Int} {os:List Nat} (O:Ord ls os) {j:Nat} (h1:1≤j) (hj:j < ls.length):0 < Jb ls (List.range ls.length) j∧Jb ls (List.range ls.length) j < ls.sum:=by
 have m1:=O.range.mono (i:=1) (k:=j) h1 (by omega)
 have s0:Jb ls (List.range ls.length) 0 < Jb ls (List.range ls.length) 1:=O.range.step (i:=0) (by omega)
 have s1:=O.range.step (i:=j) hj
 have m2:=O.range.mono (i:=j + 1) (k:=ls.length) (by omega) (by omega)
 rw [O.range.whole] at m2
 rw [Jo] at s0
 omega
def CandC (ls ls':List Int) (k:Int→Int) (x:Int):Prop:=(∃ j,1≤j∧j < ls.length∧x=Jb ls (List.range ls.length) j)∨
 ∃ j,1≤j∧j < ls'.length∧near (k (Jb ls' (List.range ls'.length) j - 1)) (k (Jb ls' (List.range ls'.length) j))∧x=max (k (Jb ls' (List.range ls'.length) j - 1)) (k (Jb ls' (List.range ls'.length) j))
theorem cand_all {ls ls':List Int} {os os':List Nat} {ts ts':List Bool} (O:Ord ls os) (O':Ord ls' os') (hz:ls'.sum=ls.sum) {m:Int} (m0:0 < m) (m1:m < ls.sum) (n:¬ near (gL ls' os' ts' (gL ls os ts m)) (gL ls' os' ts' (gL ls os ts (m - 1)))):CandC ls ls' (kL ls os ts) m:=by
 rcases line_near (ts:=ts) O m0 m1 with h | h
 ·exact .inl h
 ·right
  have b:=J28 (ts:=ts) O
  have i1:=b.inn m (by omega) m1
  have i2:=b.inn (m - 1) (by omega) (by omega)
  have k1:=b.kg m (by omega) m1
  have k2:=b.kg (m - 1) (by omega) (by omega)
  generalize gL ls os ts m=u at *
  generalize gL ls os ts (m - 1)=v at *
  have key:∀ (c:Int),0 < c→c < ls.sum→¬ near (gL ls' os' ts' c) (gL ls' os' ts' (c - 1))→∃ j,1≤j∧j < ls'.length∧c=Jb ls' (List.range ls'.length) j:=fun c c0 c1 nn=>by
   rcases line_near (ts:=ts') O' c0 (by omega) with h | h
   ·exact h
   ·exact absurd h nn
  rcases h with h | h
  ·obtain ⟨j,j1,j2,e⟩:=key u (by omega) (by omega) (by rw [show u - 1=v by omega];exact n)
   refine ⟨j,j1,j2,?_,?_⟩
   ·rw [← e,show u - 1=v by omega,k1,k2];unfold near;omega
   ·rw [← e,show u - 1=v by omega,k1,k2];omega
  ·obtain ⟨j,j1,j2,e⟩:=key v (by omega) (by omega) (by
    rw [show v - 1=u by omega]
    intro z;exact n (by unfold near at *;omega))
   refine ⟨j,j1,j2,?_,?_⟩
   ·rw [← e,show v - 1=u by omega,k1,k2];unfold near;omega
   ·rw [← e,show v - 1=u by omega,k1,k2];omega
theorem cand_in {ls ls':List Int} {os os':List Nat} {ts:List Bool} (O:Ord ls os) (O':Ord ls' os') (hz:ls'.sum=ls.sum) {x:Int} (h:CandC ls ls' (kL ls os ts) x):0 < x∧x < ls.sum:=by
 rcases h with ⟨j,j1,j2,rfl⟩ | ⟨j,j1,j2,n,rfl⟩
 ·exact J5n O j1 j2
 ·have b:=J28 (ts:=ts) O
  have s:=J5n O' j1 j2
  rw [hz] at s
  have i1:=b.ink _ (by omega) s.2
  have i2:=b.ink (Jb ls' (List.range ls'.length) j - 1) (by omega) (by omega)
  unfold near at n
  omega
end Rl
namespace L2
open PySem PySem.Spec PyProof.Rows
section
variable {κ:Type} [DecidableEq κ]
def valV (kvs:List (κ × V)) (k:κ):Option V:=(kvs.find? fun kv=>decide (kv.1=k)).map (·.2)
def putK (kvs:List (κ × V)) (k:κ) (v:V):List (κ × V) :=
 if (kvs.any fun kv=>decide (kv.1=k))=true then kvs.map (fun kv=>if kv.1=k then (kv.1,v) else kv) else kvs ++ [(k,v)]
def dropK (kvs:List (κ × V)) (k:κ):List (κ × V):=kvs.filter fun kv=>decide (kv.1≠k)
theorem J5k {p:κ × V} {r:List (κ × V)} {k:κ} (e:p.1=k):valV (p :: r) k=some p.2:=by simp [valV,List.find?_cons,e]
theorem J5l {p:κ × V} {r:List (κ × V)} {k:κ} (e:¬ p.1=k):valV (p :: r) k=valV r k:=by simp [valV,List.find?_cons,e]
theorem valV_any (k:κ):∀ kvs:List (κ × V),(kvs.any fun kv=>decide (kv.1=k))=(valV kvs k).isSome
 | []=>rfl
 | p :: r=>by
  rw [List.any_cons]
  by_cases e:p.1=k
  ·simp only [J5k e,decide_eq_true e,Bool.true_or,Option.isSome_some]
  ·rw [J5l e,decide_eq_false e,Bool.false_or];exact valV_any k r
theorem J46 (kvs:List (κ × V)) (k:κ) (v:V):(putK kvs k v).length≤kvs.length + 1:=by
 unfold putK
 split
 ·rw [List.length_map];omega
 ·rw [List.length_append,List.length_cons,List.length_nil];omega
theorem RelO.isSome_eq {o:Option V} {u:Option Value} (r:RelO o u):o.isSome=u.isSome:=by
 cases o with
 | none=>cases u with
  | none=>rfl
  | some _=>exact (show False from r).elim
 | some _=>cases u with
  | none=>exact (show False from r).elim
  | some _=>rfl
theorem RelO.getD {o:Option V} {u:Option Value} {d:V} {d':Value} (r:RelO o u) (rd:RelV d d'):RelV (o.getD d) (u.getD d'):=by
 cases o with
 | none=>cases u with
  | none=>exact rd
  | some _=>exact (show False from r).elim
 | some _=>cases u with
  | none=>exact (show False from r).elim
  | some _=>exact r
theorem KV.val {kvs:List (κ × V)} {vs:List (κ × Value)} (r:KV kvs vs) (k:κ):RelO (valV kvs k) (valueAt vs k):=by
 unfold KV at r
 induction r with
 | nil=>exact True.intro
 | @cons p q ps qs h t ih =>
  obtain ⟨h1,h2⟩:=h
  by_cases e:p.1=k
  ·have e':q.1=k:=h1.symm.trans e
   have b:valueAt (q :: qs) k=some q.2:=by simp [valueAt,List.find?_cons,e']
   rw [J5k e,b];exact h2
  ·have e':¬ q.1=k:=fun z=>e (h1.trans z)
   have b:valueAt (q :: qs) k=valueAt qs k:=by simp [valueAt,List.find?_cons,e']
   rw [J5l e,b];exact ih
theorem KV.any {kvs:List (κ × V)} {vs:List (κ × Value)} (r:KV kvs vs) (k:κ):(kvs.any fun kv=>decide (kv.1=k))=vs.any fun kv=>decide (kv.1=k):=by
 unfold KV at r
 induction r with
 | nil=>rfl
 | cons h t ih=>rw [List.any_cons,List.any_cons,ih,h.1]
theorem KV.repl {kvs:List (κ × V)} {vs:List (κ × Value)} (r:KV kvs vs) (k:κ) {y:V} {u:Value} (ry:RelV y u) :
  KV (kvs.map fun kv=>if kv.1=k then (kv.1,y) else kv) (vs.map fun kv=>if kv.1=k then (kv.1,u) else kv):=by
 unfold KV at r ⊢
 induction r with
 | nil=>exact .nil
 | @cons p q ps qs h t ih =>
  rw [List.map_cons,List.map_cons]
  refine .cons ?_ ih
  obtain ⟨h1,h2⟩:=h
  by_cases e:p.1=k
  ·rw [if_pos e,if_pos (h1.symm.trans e)];exact ⟨h1,ry⟩
  ·rw [if_neg e,if_neg (fun z=>e (h1.trans z))];exact ⟨h1,h2⟩
theorem KV.put {kvs:List (κ × V)} {vs:List (κ × Value)} (r:KV kvs vs) (k:κ) {y:V} {u:Value} (ry:RelV y u):KV (putK kvs k y) (stored vs k u):=by
 unfold putK stored
 rw [r.any k]
 by_cases e:(vs.any fun kv=>decide (kv.1=k))=true
 ·rw [if_pos e,if_pos e];exact r.repl k ry
 ·rw [if_neg e,if_neg e];exact Paired.snoc r ⟨rfl,ry⟩
theorem KV.drop {kvs:List (κ × V)} {vs:List (κ × Value)} (r:KV kvs vs) (k:κ):KV (dropK kvs k) (without vs k):=by
 unfold KV at r ⊢
 unfold dropK without
 induction r with
 | nil=>exact .nil
 | @cons p q ps qs h t ih =>
  obtain ⟨h1,h2⟩:=h
  rw [List.filter_cons,List.filter_cons]
  by_cases e:p.1=k
  ·have a:¬ decide (p.1≠k)=true:=by simp [e]
   have b:¬ decide (q.1≠k)=true:=by simp [h1.symm.trans e]
   rw [if_neg a,if_neg b];exact ih
  ·have e':¬ q.1=k:=fun z=>e (h1.trans z)
   have a:decide (p.1≠k)=true:=by simp [e]
   have b:decide (q.1≠k)=true:=by simp [e']
   rw [if_pos a,if_pos b];exact .cons ⟨h1,h2⟩ ih
theorem KV.keys {kvs:List (κ × V)} {vs:List (κ × Value)} (r:KV kvs vs):kvs.map (·.1)=vs.map (·.1):=by
 unfold KV at r
 induction r with
 | nil=>rfl
 | cons h t ih=>rw [List.map_cons,List.map_cons,ih,h.1]
theorem KV.length {kvs:List (κ × V)} {vs:List (κ × Value)} (r:KV kvs vs):kvs.length=vs.length:=Paired.length r
end
theorem kV_is {P:Program} {w:World} {k:Key} {u:Value} (r:RelV (kV k) u):(J1t P w).is k u=true:=by
 cases k with
 | inl i=>obtain ⟨t,e⟩:=(show ∃ t,u=Value.int i t from r);subst e;exact mixKind_int P w i t
 | inr x=>obtain ⟨t,e⟩:=(show ∃ t,u=Value.str x t from r);subst e;exact mixKind_str P w x t
theorem items_are {P:Program} {w:World}:∀ {ks:List Key} {us:List Value},Vals (ks.map kV) us→ItemsAre (J1t P w) ks us
 | [],_,r=>by rw [List.map_nil] at r;cases r;exact .nil
 | k :: ks,_,r=>by
  rw [List.map_cons] at r
  cases r with
  | cons h t=>exact .cons (kV_is h) (items_are t)
abbrev KT (H:Hp):List (List Key × V)→List (List Key × Addr × Value)→Prop:=Paired fun p q=>p.1=q.1∧H q.2.1=some (.tup (p.1.map kV))∧RelV p.2 q.2.2
theorem KT.val {H:Hp} {kvs:List (List Key × V)} {xs:List (List Key × Addr × Value)} (r:KT H kvs xs) (k:List Key):RelO (valV kvs k) ((atKey xs k).map (·.2)):=by
 induction r with
 | nil=>exact True.intro
 | @cons p q ps qs h t ih =>
  obtain ⟨h1,_,h2⟩:=h
  by_cases e:p.1=k
  ·have e':q.1=k:=h1.symm.trans e
   have b:atKey (q :: qs) k=some q.2:=by simp [atKey,List.find?_cons,e']
   rw [J5k e,b];exact h2
  ·have e':¬ q.1=k:=fun z=>e (h1.trans z)
   have b:atKey (q :: qs) k=atKey qs k:=by simp [atKey,List.find?_cons,e']
   rw [J5l e,b];exact ih
theorem KT.repl {H:Hp} {kvs:List (List Key × V)} {xs:List (List Key × Addr × Value)} (r:KT H kvs xs) (k:List Key) {y:V} {u:Value} (ry:RelV y u) :
  KT H (kvs.map fun kv=>if kv.1=k then (kv.1,y) else kv) (xs.map (putAt k u)):=by
 induction r with
 | nil=>exact .nil
 | @cons p q ps qs h t ih =>
  rw [List.map_cons,List.map_cons]
  refine .cons ?_ ih
  obtain ⟨h1,h2,h3⟩:=h
  unfold putAt
  by_cases e:p.1=k
  ·rw [if_pos e,if_pos (h1.symm.trans e)];exact ⟨h1,h2,ry⟩
  ·rw [if_neg e,if_neg (fun z=>e (h1.trans z))];exact ⟨h1,h2,h3⟩
theorem KT.put {H:Hp} {kvs:List (List Key × V)} {xs:List (List Key × Addr × Value)} (r:KT H kvs xs) (k:List Key) {b:Addr} {y:V} {u:Value} (hb:H b=some (.tup (k.map kV))) (ry:RelV y u) :
  KT H (putK kvs k y) (storedH xs k b u):=by
 have e:(kvs.any fun kv=>decide (kv.1=k))=(atKey xs k).isSome:=by
  rw [valV_any,(r.val k).isSome_eq,Option.isSome_map]
 unfold putK storedH
 rw [e]
 by_cases q:(atKey xs k).isSome=true
 ·rw [if_pos q,if_pos q];exact r.repl k ry
 ·rw [if_neg q,if_neg q];exact Paired.snoc r ⟨rfl,hb,ry⟩
theorem KT.keeps {H H':Hp} {kvs:List (List Key × V)} {xs:List (List Key × Addr × Value)} (r:KT H kvs xs) (ht:∀ b ys,H b=some (.tup ys)→H' b=some (.tup ys)):KT H' kvs xs :=
 Paired.mapP r fun _ _ z=>⟨z.1,ht _ _ z.2.1,z.2.2⟩
section
variable {P:Program} {w:World} {H:Hp} {h:Heap} {a:Addr}
theorem rd_of {u:HO} (ok:HOk P w H h) (e:Rd H a u):ObjOk P w H h a u:=e.ok ok
theorem dk_rd {kvs:List (Key × V)} (ok:HOk P w H h) (e:Rd H a (.dK kvs)):kvs.length≤sizeLine∧(a == sysModules)=false∧∃ vs,KV kvs vs∧h.DictOf (J1t P w) a vs :=
 show ObjOk P w H h a (.dK kvs) from rd_of ok e
theorem dk_of {kvs:List (Key × V)} (ok:HOk P w H h) (e:H a=some (.dK kvs)):kvs.length≤sizeLine∧(a == sysModules)=false∧∃ vs,KV kvs vs∧h.DictOf (J1t P w) a vs:=dk_rd ok (.inl e)
theorem key_of {ks:List Key} (ok:HOk P w H h) (e:H a=some (.tup (ks.map kV))):(tupleKind (J1t P w)).is h ks a:=by
 obtain ⟨_,its,r,o,h1,h2,n,h3⟩:=(show ObjOk P w H h a (.tup (ks.map kV)) from ok a _ e)
 exact ⟨o,its.toArray,n,h1,h2.1,h3,by simpa using items_are r⟩
theorem dt_rd {kvs:List (List Key × V)} (ok:HOk P w H h) (e:Rd H a (.dT kvs)):kvs.length≤sizeLine∧(a == sysModules)=false∧
  ∃ xs,KT H kvs xs∧h.DictOfH (tupleKind (J1t P w)) a xs:=by
 obtain ⟨z,y,xs,r,o,es,ep,h1,h2,h3,h4,h5⟩:=(show ObjOk P w H h a (.dT kvs) from rd_of ok e)
 refine ⟨z,y,xs,r,o,es,ep,h1,h2,h3,h4,fun x hx=>?_,h5⟩
 have all:∀ {l:List (List Key × V)} {m:List (List Key × Addr × Value)},KT H l m→∀ x∈m,(tupleKind (J1t P w)).is h x.1 x.2.1:=by
  intro l m q
  induction q with
  | nil=>intro x hx;exact nomatch hx
  | @cons p q ps qs hq t ih =>
   intro x hx
   rcases List.mem_cons.mp hx with e | hx
   ·subst e
    exact key_of ok (by rw [← hq.1];exact hq.2.1)
   ·exact ih x hx
 exact all r x hx
theorem dt_of {kvs:List (List Key × V)} (ok:HOk P w H h) (e:H a=some (.dT kvs)):kvs.length≤sizeLine∧(a == sysModules)=false∧
  ∃ xs,KT H kvs xs∧h.DictOfH (tupleKind (J1t P w)) a xs:=dt_rd ok (.inl e)
end
def DGet (H:Hp) (a:Addr) (y:V) (r:Option V):Prop :=
 (∃ kvs k,Rd H a (.dK kvs)∧y=kV k∧r=valV kvs k)∨∃ kvs k b,Rd H a (.dT kvs)∧y=.ref b∧H b=some (.tup (k.map kV))∧r=valV kvs k
def DPut (H:Hp) (a:Addr) (y v:V) (H':Hp):Prop :=
 (∃ kvs k,H a=some (.dK kvs)∧y=kV k∧kvs.length < sizeLine∧H'=upd H a (.dK (putK kvs k v)))∨
 ∃ kvs k b,H a=some (.dT kvs)∧y=.ref b∧H b=some (.tup (k.map kV))∧kvs.length < sizeLine∧H'=upd H a (.dT (putK kvs k v))
theorem DGet.k {H:Hp} {a:Addr} {kvs:List (Key × V)} {k:Key} (e:H a=some (.dK kvs)):DGet H a (kV k) (valV kvs k):=.inl ⟨kvs,k,.inl e,rfl,rfl⟩
theorem DGet.t {H:Hp} {a b:Addr} {kvs:List (List Key × V)} {k:List Key} (e:H a=some (.dT kvs)) (eb:H b=some (.tup (k.map kV))):DGet H a (.ref b) (valV kvs k):=.inr ⟨kvs,k,b,.inl e,rfl,eb,rfl⟩
theorem DPut.k {H:Hp} {a:Addr} {kvs:List (Key × V)} {k:Key} {v:V} (e:H a=some (.dK kvs)) (hl:kvs.length < sizeLine):DPut H a (kV k) v (upd H a (.dK (putK kvs k v))):=.inl ⟨kvs,k,e,rfl,hl,rfl⟩
theorem DPut.t {H:Hp} {a b:Addr} {kvs:List (List Key × V)} {k:List Key} {v:V} (e:H a=some (.dT kvs)) (eb:H b=some (.tup (k.map kV))) (hl:kvs.length < sizeLine) :
  DPut H a (.ref b) v (upd H a (.dT (putK kvs k v))):=.inr ⟨kvs,k,b,e,rfl,eb,hl,rfl⟩
section
variable {X:Cx} {pins:List (Addr × Obj)} {σ:St} {H:Hp} {s:Shared} {a:Addr} {y v:V} {u r:Value} {o:Option V} {A:Around} {E:Value→Shared→Prop}
theorem Inv.big (I:Inv X pins σ H s):sysModules < s.heap.objs.size:=by
 have h:mainGlobals < s.heap.objs.size:=(I.mod.glob.keeps I.bk).lt
 exact Nat.lt_trans (by decide) h
theorem d_write {h':Heap} {t':Nat} {ob:HO} (I:Inv X pins σ H s) (mu:Mut (H a)) (hs:Heap.SameBut a s.heap h') (he:∃ q,h'.get? a=some q) (new:ObjOk X.prog X.w (upd H a ob) h' a ob) :
  Inv X pins σ (upd H a ob) { s with heap:=h',toks:=t' } :=
 I.write (x:=a) (e:=a) mu (.inl rfl) (fun b q hb z=>(hs.2 b hb).trans z) he new
theorem dk_new {P:Program} {w:World} {H':Hp} {h':Heap} {kvs:List (Key × V)} {vs:List (Key × Value)} (z:kvs.length≤sizeLine) (hd:(a == sysModules)=false) (rel:KV kvs vs) (dd:h'.DictOf (J1t P w) a vs) :
  ObjOk P w H' h' a (.dK kvs):=⟨z,hd,vs,rel,dd⟩
theorem d_setItem {H':Hp} {Q:Unit→Shared→Prop} (hu:A.units + 1 < cLine) (I:Inv X pins σ H s) (g:DPut H a y v H') (ry:RelV y u) (rv:RelV v r) (h:∀ s',Inv X pins σ H' s'→Q () s') :
  wpAny (model X.prog X.w) A (setItem (.ref a) u r) Q E s:=by
 rcases g with ⟨kvs,k,e,ey,l,eH⟩ | ⟨kvs,k,b,e,ey,eb,l,eH⟩
 ·subst ey eH
  obtain ⟨z,hd,vs,rel,dd⟩:=dk_of I.hok e
  have hz:vs.length≤sizeLine:=by rw [← rel.length];exact z
  have hl:(putK kvs k v).length≤sizeLine:=by have:=J46 kvs k v;omega
  refine wpAny_setItem_pairs (hsz:=hz) (kV_is ry) dd fun h' dd' hs=>h _ ?_
  have he:∃ q,h'.get? a=some q:=let ⟨q,_,_,hq,_⟩:=dd';⟨q,hq⟩
  exact d_write I (by rw [e];exact True.intro) hs he (dk_new hl hd (rel.put k rv) dd')
 ·subst ey eH
  cases (show u=Value.ref b from ry)
  obtain ⟨z,hd,xs,rel,dd⟩:=dt_of I.hok e
  have hz:xs.length≤sizeLine:=by rw [← Paired.length rel];exact z
  have hl:(putK kvs k v).length≤sizeLine:=by have:=J46 kvs k v;omega
  refine wpAny_setItem_heap (hsz:=hz) (tupleKind_room_in1 hu) (key_of I.hok eb) dd fun h' dd' hs=>h _ ?_
  obtain ⟨q,es,ep,hq,h2,h3,h4,_,h5⟩:=dd'
  refine d_write I (by rw [e];exact True.intro) hs ⟨q,hq⟩ ⟨hl,hd,_,(rel.put k eb rv).keeps fun c ys ec=>?_,q,es,ep,hq,h2,h3,h4,h5⟩
  rw [Jf (ne_of ec e (fun z=>nomatch z))]
  exact ec
end
section
variable {X:Cx} {pins:List (Addr × Obj)} {σ:St} {H:Hp} {s:Shared} {a:Addr} {kvs:List (Key × V)} {k:Key} {u:Value} {A:Around} {E:Value→Shared→Prop}
theorem d_len {Q:Value→Shared→Prop} (I:Inv X pins σ H s) (e:Rd H a (.dK kvs)) (h:∀ t s',Inv X pins σ H s'→Q (.int kvs.length t) s'):wpAny (model X.prog X.w) A (call (.builtin "len") [.ref a]) Q E s:=by
 obtain ⟨z,hd,vs,rel,dd⟩:=dk_rd I.hok e
 refine call_len_dict hd dd (by rw [← rel.length];rw [sizeLine_eq] at z;omega) ?_
 rw [← rel.length]
 exact h _ _ (I.tok _)
end
def sDPut (td ty tv:TE):TS:=fun D σ H=>tv σ H fun v H1=>td σ H1 fun x H2=>ty σ H2 fun y H3=>∃ a H4,x=.ref a∧DPut H3 a y v H4∧D.nx σ H4
section
variable {X:Cx} {o i e value:Expr} {pos pos' tpos:Pos} {td ty tv:TE}
theorem ps_dput (hu:X.A.units + 1 < cLine) (ho:PE X o td) (hi:PE X i ty) (hv:PE X value tv) (hs:swapsWith value (some (.Subscript o i pos')) pos.line X.env=pure false) :
  PS X (.Assign [.Subscript o i pos'] value pos) (sDPut td ty tv):=by
 intro pins s σ H D I h
 refine wpAny_Assign_Subscript (thn (hv pins s σ H _ I h) fun r s1 ⟨v,H1,I1,rv,q1⟩=>thn (ho pins s1 σ H1 _ I1 q1) fun u s2 ⟨x,H2,I2,rx,q2⟩=>thn (hi pins s2 σ H2 _ I2 q2) fun iv s3 ⟨y,H3,I3,ry,a,H4,ex,g,q3⟩=>?_) hs
 subst ex
 obtain rfl:u=Value.ref a:=rx
 exact d_setItem hu I3 g ry rv fun s4 I4=>⟨σ,H4,I4,q3⟩
end
theorem dk_empty {P:Program} {w:World} {H:Hp} (h:Heap) (hb:sysModules < h.objs.size):ObjOk P w H (h.push { cls:=.type "dict",data:=.dict #[] }) h.objs.size (.dK []) :=
 ⟨Nat.zero_le _,beq_eq_false_iff_ne.mpr (Ne.symm (Nat.ne_of_lt hb)),[],.nil,Heap.DictOf.new h⟩
def tDNewK:TE:=fun _ H Q=>∀ p,H p=none→Q (.ref p) (upd H p (.dK []))
section
variable {X:Cx} {pos:Pos}
theorem pe_dnewK:PE X (.Dict [] [] pos) tDNewK:=fun pins s σ H Q I h =>
 wpAny_Dict_empty ⟨.ref s.heap.objs.size,_,I.laid (a:=s.heap.objs.size) (o:=.dK []) (t':=s.toks) (fun _ _ q=>Heap.get?_push_of_some _ q) (Nat.le_refl _) (dk_empty s.heap I.big),rfl,h _ (I.hok.fresh (Nat.le_refl _))⟩
end
end L2
namespace L2
open PySem PySem.Spec PyProof.Rows
section
variable {X:Cx}
theorem call_lenD:CallR X (.builtin "len") (fun xs H Q=>∃ a kvs,xs=[V.ref a]∧H a=some (.dK kvs)∧Q (.int kvs.length) H):=by
 intro pins s σ H xs us Q I r h
 obtain ⟨a,kvs,rfl,ha,q⟩:=h
 obtain ⟨u,rfl,ru⟩:=vals1 r
 cases ru
 exact d_len I (.inl ha) fun t s' I'=>⟨.int kvs.length,H,I',⟨t,rfl⟩,q⟩
end
end L2
namespace L2
open PySem PySem.Spec PySem.Calls PyProof.Rows PySem.W
section
variable {X:Cx} {pins:List (Addr × Obj)} {σ:St} {H:Hp} {A:Around} {E:Value→Shared→Prop} {s:Shared} {a kS:Addr} {vs:List Value} {kz:List Int} {keys:Array Value} {e e1:Nat} {P:PySem.Fin→Shared→Prop}
theorem fp_turn (I:Inv X pins σ H s) {b:Addr} {h':Heap} {t':Nat} (f:FpOk X pins H b) (k:Heap.SameBut b s.heap h'):Inv X pins σ H { s with heap:=h',toks:=t' } :=
 I.turned (h':=h') (t':=t') (it:=b) (fun c o hc e=>(k.2 c hc).trans e) f.1 f.2.1 f.2.2.2.1 f.2.2.2.2.1 f.2.2.2.2.2
theorem skey_tail {st:SortSt} (I:Inv X pins σ H s) (fk:FpOk X pins H kS) (fa:FpOk X pins H a) (nk:s.heap.get? kS=some (seqObj "list" keys e)) (na:s.heap.get? a=some (seqObj "list" #[] e1)) (hka:kS≠a)
  (hk:IntsAre keys.toList kz) (hlen:kz.length=vs.length) (h64:vs.length < 64) (hp:(arrOf st).Perm (keys.zip vs.toArray)) (hs:SortedTo (arrOf st) (arrOf st).size) (hfl:failedOf st=none)
  (h:∀ h' tk out c,Inv X pins σ H { s with heap:=h',toks:=tk }→h'.get? a=some (seqObj "list" out c)→KskOut false kz vs out.toList→P (.done (.ret .none)) { s with heap:=h',toks:=tk }) :
  wpAny (model X.prog X.w) A (ksk_tail a false e1 (.ref kS) st) P E s:=by
 have hsz:keys.size=vs.length:=by
  have h1:=hk.length
  rw [Array.length_toList] at h1
  omega
 have hsz2:(arrOf st).size=vs.length:=by rw [hp.size_eq,Array.size_zip,hsz,List.size_toArray,Nat.min_self]
 have hout:(if false=true then ((arrOf st).map (·.2)).reverse else (arrOf st).map (·.2)).size=vs.length:=by
  simp only [Bool.false_eq_true,if_false,Array.size_map];exact hsz2
 have s1:=Heap.SameBut.update s.heap kS (Obj.mapSeq fun _=>(#[]:Array Value))
 have na1:(s.heap.update kS (Obj.mapSeq fun _=>(#[]:Array Value))).get? a=some (seqObj "list" #[] e1):=(s1.2 a hka.symm).trans na
 have s2:=Heap.SameBut.update (s.heap.update kS (Obj.mapSeq fun _=>(#[]:Array Value))) a (Obj.mapSeq fun _=>if false=true then ((arrOf st).map (·.2)).reverse else (arrOf st).map (·.2))
 obtain ⟨c2,hc2⟩:∃ c2,((s.heap.update kS (Obj.mapSeq fun _=>(#[]:Array Value))).update a (Obj.mapSeq fun _=>if false=true then ((arrOf st).map (·.2)).reverse else (arrOf st).map (·.2))).get? a=some (seqObj "list" (if false=true then ((arrOf st).map (·.2)).reverse else (arrOf st).map (·.2)) c2) :=
  ⟨_,get?_update_seq na1 fun _=>if false=true then ((arrOf st).map (·.2)).reverse else (arrOf st).map (·.2)⟩
 unfold ksk_tail
 try dsimp only
 refine wpAny_bind (listUpdate_at nk rfl ?_ (by rw [hsz,sizeLine_eq];omega) (Nat.zero_le _))
 refine wpAny_bind (wpAny_letGo ?_)
 refine wpAny_bind (seqEpoch_at na1 rfl ?_)
 refine wpAny_bind (listUpdate_at na1 rfl ?_ (Nat.zero_le _) (Nat.le_trans (Nat.le_of_eq hout) (by rw [sizeLine_eq];omega)))
 rw [hfl]
 simp only [bne_self_eq_false,Bool.false_eq_true,if_false]
 have I1:Inv X pins σ H { s with heap:=s.heap.update kS (Obj.mapSeq fun _=>(#[]:Array Value)) }:=fp_turn (t':=s.toks) I fk s1
 exact wpAny_pure (h _ _ _ c2 (fp_turn (t':=_) I1 fa s2) hc2 (ksk_out (b:=false) hk hp hs))
theorem skey_end (I:Inv X pins σ H s) (fk:FpOk X pins H kS) (fa:FpOk X pins H a) (nk:s.heap.get? kS=some (seqObj "list" keys e)) (na:s.heap.get? a=some (seqObj "list" #[] e1)) (hka:kS≠a)
  (hk:IntsAre keys.toList kz) (hlen:kz.length=vs.length) (h64:vs.length < 64)
  (h:∀ h' tk out c,Inv X pins σ H { s with heap:=h',toks:=tk }→h'.get? a=some (seqObj "list" out c)→KskOut false kz vs out.toList→P (.done (.ret .none)) { s with heap:=h',toks:=tk }) :
  wpAny (model X.prog X.w) A (ksk_end a false vs.toArray e1 (.ref kS) keys) P E s:=by
 have hsz:keys.size=vs.length:=by
  have h1:=hk.length
  rw [Array.length_toList] at h1
  omega
 have hzs:(keys.zip vs.toArray).size=vs.length:=by rw [Array.size_zip,hsz,List.size_toArray,Nat.min_self]
 unfold ksk_end
 try dsimp only
 simp only [Bool.false_eq_true,if_false]
 by_cases h2:vs.toArray.size < 2
 ·rw [if_pos h2,if_pos h2]
  refine wpAny_bind (wpAny_pure ?_)
  rw [StateT.run_pure]
  refine wpAny_bind (wpAny_pure ?_)
  try dsimp only
  refine skey_tail (st:=SortSt.mk' general' (keys.zip vs.toArray) #[] 7 none) I fk fa nk na hka hk hlen h64 (Array.Perm.refl _) ?_ rfl h
  intro i j hij hj
  have hj2:j < (keys.zip vs.toArray).size:=hj
  rw [hzs] at hj2
  rw [List.size_toArray] at h2
  have:i=j:=by omega
  subst this
  exact Int.le_refl _
 ·rw [if_neg h2,if_neg h2]
  rw [List.size_toArray] at h2
  rw [ksk_kind hk (by rw [hsz];omega)]
  refine wpAny_bind (wpAny_pure ?_)
  refine wpAny_bind (wpAny_mono (wpS_sortRuns (a₀:=keys.zip vs.toArray) (st:=SortSt.mk' oneType' (keys.zip vs.toArray) #[] 7 none)
   (Q:=fun _ st'=>(arrOf st').Perm (keys.zip vs.toArray)∧failedOf st'=none∧SortedTo (arrOf st') (keys.zip vs.toArray).size)
   (ksk_intKeys hk) ⟨Array.Perm.refl _,rfl,rfl,rfl⟩ (by rw [hzs];omega) (by rw [hzs];exact h64) fun st' a1 a2 a3=>⟨a1,a2,a3⟩) ?_ fun _ _ e=>e)
  rintro ⟨⟨⟩,st'⟩ s' ⟨rfl,hp,hf,hs⟩
  try dsimp only
  exact skey_tail I fk fa nk na hka hk hlen h64 hp (by rw [hp.size_eq];exact hs) hf h
def KeyTurn (X:Cx) (pins:List (Addr × Obj)) (σ:St) (H:Hp) (A:Around) (f v:Value) (k:Int):Prop:=∀ s',Inv X pins σ H s'→
 wpAny (model X.prog X.w) A (call f [v]) (fun r s''=>∃ t,r=.int k t∧Inv X pins σ H s''∧∀ b o,FpOk X pins H b→s'.heap.get? b=some o→s''.heap.get? b=some o) (fun _ _=>False) s'
theorem skey_rest {f:Value} (I:Inv X pins σ H s) (fk:FpOk X pins H kS) (fa:FpOk X pins H a) (nk:s.heap.get? kS=some (seqObj "list" #[] 0)) (na:s.heap.get? a=some (seqObj "list" #[] e1)) (hka:kS≠a)
  (hlen:kz.length=vs.length) (h64:vs.length < 64) (turn:∀ (i:Nat) (v:Value) (k:Int),vs[i]?=some v→kz[i]?=some k→KeyTurn X pins σ H A f v k)
  (h:∀ s' out c,Inv X pins σ H s'→s'.heap.get? a=some (seqObj "list" out c)→KskOut false kz vs out.toList→P (.done (.ret .none)) s') :
  wpAny (model X.prog X.w) A (ksk_rest a f false vs.toArray e1 (.ref kS)) P E s:=by
 unfold ksk_rest
 refine wpAny_bind (wpAny_rule ?_)
 first
  | rw [List.forIn_toArray]
  | (rw [← Array.forIn_toList];simp only [List.toList_toArray])
  | rw [← Array.forIn_toList]
 refine wpAny_bind (ksk_fold (fun i s'=>∃ kA e,Inv X pins σ H s'∧s'.heap.get? kS=some (seqObj "list" kA e)∧s'.heap.get? a=some (seqObj "list" #[] e1)∧IntsAre kA.toList (kz.take i)) vs 0 s
  ⟨#[],0,I,nk,na,by simpa using IntsAre.nil⟩ ?step ?done)
 case step =>
  rintro j x s' hx ⟨kA,e,I',nk',na',hk⟩
  simp only [Nat.zero_add] at hk ⊢
  have hj:j < vs.length:=(List.getElem?_eq_some_iff.mp hx).1
  obtain ⟨k,hkj⟩:∃ k,kz[j]?=some k:=⟨_,List.getElem?_eq_getElem (by omega)⟩
  have hz:kA.size≤vs.length:=by
   have h1:=hk.length
   rw [Array.length_toList,List.length_take] at h1
   omega
  refine wpAny_bind (wpAny_attempt (wpAny_mono (turn j x k hx hkj s' I') (fun v s'' he=>?_) fun _ _ hF=>hF.elim))
  obtain ⟨t2,rfl,I2,keep⟩:=he
  try dsimp only
  have nk2:=keep _ _ fk nk'
  have na2:=keep _ _ fa na'
  have s1:=Heap.SameBut.update s''.heap kS (Obj.mapSeq (·.push (.int k t2)))
  obtain ⟨c2,hc2⟩:∃ c2,(s''.heap.update kS (Obj.mapSeq (·.push (.int k t2)))).get? kS=some (seqObj "list" (kA.push (.int k t2)) c2):=⟨_,get?_update_seq nk2 (·.push (.int k t2))⟩
  have ek:kz.take (j + 1)=kz.take j ++ [k]:=by rw [List.take_add_one,hkj];simp
  have ea:(kA.push (Value.int k t2)).toList=kA.toList ++ [Value.int k t2]:=by simp
  refine wpAny_bind (listUpdate_at nk2 rfl ?_ (by rw [sizeLine_eq];omega) (Nat.le_trans (Nat.le_of_eq (Array.size_push ..)) (by rw [sizeLine_eq];omega)))
  exact wpAny_pure ⟨rfl,kA.push (.int k t2),c2,fp_turn (t':=s''.toks) I2 fk s1,hc2,(s1.2 a hka.symm).trans na2,by rw [ea,ek];exact ksk_snoc hk⟩
 case done =>
  rintro s' ⟨kA,e,I',nk',na',hk⟩
  have hk':IntsAre kA.toList kz:=by
   have e3:kz.take (0 + vs.length)=kz:=List.take_of_length_le (by omega)
   rw [e3] at hk
   exact hk
  try dsimp only
  refine wpAny_bind (listItems_at nk' rfl ?_)
  exact skey_end I' fk fa nk' na' hka hk' hlen h64 fun h3 tk3 out c I3 n3 k3=>h _ out c I3 n3 k3
theorem skey_sort {f:Value} {n:Nat} (I:Inv X pins σ H s) (fa:FpOk X pins H a) (ho:s.heap.get? a=some (seqObj "list" vs.toArray n))
  (hlen:kz.length=vs.length) (h64:vs.length < 64) (turn:∀ (i:Nat) (v:Value) (k:Int),vs[i]?=some v→kz[i]?=some k→KeyTurn X pins σ H A f v k)
  (h:∀ s' out c,Inv X pins σ H s'→s'.heap.get? a=some (seqObj "list" out c)→KskOut false kz vs out.toList→P (.done (.ret .none)) s') :
  wpAny (model X.prog X.w) A (ksk_tree a f false) P E s:=by
 have ha:a < s.heap.objs.size:=Heap.lt_size ho
 have s1:=Heap.SameBut.update s.heap a (Obj.mapSeq fun _=>(#[]:Array Value))
 obtain ⟨e1,ho1⟩:∃ e1,(s.heap.update a (Obj.mapSeq fun _=>(#[]:Array Value))).get? a=some (seqObj "list" #[] e1):=⟨_,get?_update_seq ho fun _=>#[]⟩
 have hkS:((s.heap.update a (Obj.mapSeq fun _=>(#[]:Array Value))).push (seqObj "tuple" vs.toArray 0)).objs.size=s.heap.objs.size + 1:=by rw [size_push',Heap.size_update]
 unfold ksk_tree
 refine wpAny_bind (listItems_at ho rfl ?_)
 refine wpAny_bind (listUpdate_at ho rfl ?_ (by rw [List.size_toArray,sizeLine_eq];omega) (Nat.zero_le _))
 refine wpAny_bind (seqEpoch_at ho1 rfl ?_)
 refine wpAny_bind (wpAny_newTuple ?_ (by show vs.length≤_;rw [sizeLine_eq];omega))
 refine wpAny_bind (wpAny_newList ?_ (Nat.zero_le _))
 refine wpAny_holding ?_
 have I1:Inv X pins σ H { s with heap:=s.heap.update a (Obj.mapSeq fun _=>(#[]:Array Value)) }:=fp_turn (t':=s.toks) I fa s1
 have I2:Inv X pins σ H { s with heap:=((s.heap.update a (Obj.mapSeq fun _=>(#[]:Array Value))).push (seqObj "tuple" vs.toArray 0)).push (seqObj "list" #[] 0) }:=I1.kept (t':=s.toks) fun b o e=>Heap.get?_push_of_some _ (Heap.get?_push_of_some _ e)
 have fk:FpOk X pins H ((s.heap.update a (Obj.mapSeq fun _=>(#[]:Array Value))).push (seqObj "tuple" vs.toArray 0)).objs.size:=by
  rw [hkS]
  exact I.fpOk (Nat.le_succ _) (I.hok.fresh (Nat.le_succ _))
 exact skey_rest (s:={ s with heap:=((s.heap.update a (Obj.mapSeq fun _=>(#[]:Array Value))).push (seqObj "tuple" vs.toArray 0)).push (seqObj "list" #[] 0) }) I2 fk fa (Heap.get?_push_size _ rfl)
  (Heap.get?_push_of_some _ (Heap.get?_push_of_some _ ho1)) (by rw [hkS];exact Nat.ne_of_gt (Nat.lt_succ_of_lt ha)) hlen h64 turn h
end
def cxLam (X:Cx) (A:Around) (N:List Str) (qual:Str) (scope:Scope) (f:Addr) (cd:Value) (cl:List (Str × Addr)) (s:Shared) (H:Hp):Cx where
 prog:=X.prog
 w:=X.w
 K:=X.K
 mg:=X.mg
 base:=X.base
 A:=A.deeper (envX qual scope s.heap.objs.size f cd cl)
 N:=N
 s₀:=s
 H₀:=H
 env:=envX qual scope s.heap.objs.size f cd cl
 outer:=X.stack
 stack:=envX qual scope s.heap.objs.size f cd cl :: X.stack
 ex:=[]
 calm:=true
 fn:=fun _=>false
 pn:=[]
 xe:=fun _ _=>False
structure LamOk (X:Cx) (scope:Scope) (cl:List (Str × Addr)) (x:Str) (caps:List Str) (js:List Nat):Prop where
 co:scope.isCoroutine=false
 gen:scope.isGenerator=false
 kind:scope.kind=.function
 cell:∀ p∈scope.names,p.2≠.cell
 loc:scope.names.lookup x=some .local
 sub:∀ p∈cl,X.env.cells.lookup p.1=some p.2
 has:∀ p∈scope.names,p.2=.free→∃ c,cl.lookup p.1=some c
 len:caps.length=js.length
 caps:∀ (k:Nat) (c:Str),caps[k]?=some c→∃ (j:Nat) (a:Addr),js[k]?=some j∧X.N[j]?=some c∧X.env.scope.names.lookup c=some .cell∧cl.lookup c=some a∧scope.names.lookup c=some .free
section
variable {X:Cx} {pins:List (Addr × Obj)} {σ:St} {H:Hp} {A:Around} {s:Shared} {name qual:Str} {params:Arguments} {body:Expr} {scope:Scope} {cl:List (Str × Addr)} {pm ctv:Value} {c' f:Addr} {x:Str} {caps:List Str} {js:List Nat} {te:TE}
theorem inv_lam {v:V} {u:Value} (I:Inv X pins σ H s) (L:LamOk X scope cl x caps js) (hA:A.frames=some X.stack) (hd:A.handled=none) (r:RelV v u) {h₁:Heap}
  (hns:h₁.Ns s.heap.objs.size (fun y=>([(x,u)]:List (Str × Value)).reverse.lookup y)) (hsb:Heap.SameBut s.heap.objs.size (s.heap.push { cls:=.type "frame",data:=.dict #[] }) h₁) :
  Inv (cxLam X A (x :: caps) qual scope f (.ref c') cl s H) [] (some v :: capv σ js) H { s with heap:=h₁,toks:=s.toks + 1 }:=by
 have keep:∀ b o,s.heap.get? b=some o→h₁.get? b=some o:=fun b o e=>hsb.extBut b o (Nat.ne_of_lt (Heap.lt_size e)) (Heap.get?_push_of_some _ e)
 have e0:=I.env0
 have noA:∀ b:Addr,b ∉ (cxLam X A (x :: caps) qual scope f (.ref c') cl s H).ex:=fun b z=>absurd (show b∈([]:List Addr) from z) (by simp)
 refine ⟨⟨e0.mod,L.kind,rfl,rfl,Nat.le_refl _,fun a b c h1 h2=>?_,fun a h=>?_,(fun _ _ h=>nomatch h),fun _=>hd,Around.frames_deeper hA,.inr ⟨rfl,rfl⟩,fun b z=>absurd z (noA b),e0.bs,e0.bsz,fun b _ _=>noA b,fun b z=>absurd z (noA b),e0.funs,e0.frf⟩,
  rfl,I.bare,Un.kept keep,⟨_,hns,fun k q w e1 e2 e3=>?_⟩,fun q c e=>?_,I.hok.fresh (Nat.le_refl _),fun q c e=>?_,fun p hp=>absurd (show p∈([]:List (Addr × Obj)) from hp) (by simp),I.hok.kept keep,?_⟩
 ·exact I.ok.inj a b c (L.sub _ (PySem.mem_of_lookup h1)) (L.sub _ (PySem.mem_of_lookup h2))
 ·have h:scope.names.lookup a=some .cell∨scope.names.lookup a=some .free:=h
  rcases h with h | h
  ·exact absurd rfl (L.cell _ (PySem.mem_of_lookup h))
  ·exact L.has _ (PySem.mem_of_lookup h) rfl
 ·cases k with
  | zero =>
   have e1:some x=some q:=e1
   cases e1
   have e2:some (some v)=some (some w):=e2
   cases e2
   refine ⟨u,r,.inl ⟨L.loc,?_⟩⟩
   show (([(x,u)]:List (Str × Value)).reverse.lookup x)=some u
   simp
  | succ k =>
   have e1:(x :: caps)[k + 1]?=some q:=e1
   have e1':caps[k]?=some q:=by simpa using e1
   have e2':(capv σ js)[k]?=some (some w):=by simpa using e2
   obtain ⟨j,a,q1,q2,q3,q4,q5⟩:=L.caps k q e1'
   obtain ⟨j',r1,r2⟩:=J50 e2'
   rw [q1] at r1;cases r1
   obtain ⟨m,hm,hl⟩:=I.loc
   obtain ⟨u',ru,lu⟩:=hl j q w q2 r2 (.inr (.inl q3))
   refine ⟨u',ru,.inr ⟨.inr q5,a,q4,?_⟩⟩
   rcases lu with ⟨k1,_⟩ | ⟨_,c,ec,o,ho,hd'⟩
   ·have k1':X.env.scope.names.lookup q=some .local:=k1
    rw [q3] at k1';cases k1'
   ·have:=L.sub _ (PySem.mem_of_lookup q4)
    rw [ec] at this;cases this
    exact ⟨o,keep _ _ ho,hd'⟩
 ·obtain ⟨w,o,ho,hd'⟩:=I.cell q c (L.sub _ (PySem.mem_of_lookup e))
  exact ⟨w,o,keep _ _ ho,hd'⟩
 ·exact I.freeC q c (L.sub _ (PySem.mem_of_lookup e))
 ·show (some v :: capv σ js).length=(x :: caps).length
  unfold capv
  simp [L.len]
theorem lam_turn {v:V} {u:Value} {k:Int} (I:Inv X pins σ H s) (L:LamOk X scope cl x caps js) (hA:A.frames=some X.stack) (hd:A.handled=none) (hroom:A.depth < recursionLimit) (r:RelV v u)
  (ho:s.heap.get? f=some (kla_obj name qual params body scope cl pm c' ctv)) (hcd:s.heap.CodeRec (.ref c') qual)
  (hbind:bindArgs (kla_fn name qual params body scope cl pm (.ref c') ctv) ⟨[u],[]⟩=pure [(x,u)])
  (he:PE (cxLam X A (x :: caps) qual scope f (.ref c') cl s H) body te) (q:te (some v :: capv σ js) H fun y H'=>y=.int k∧H'=H) :
  wpAny (model X.prog X.w) A (call (.ref f) [u]) (fun r s''=>∃ t,r=.int k t∧Inv X pins σ H s''∧∀ b o,FpOk X pins H b→s.heap.get? b=some o→s''.heap.get? b=some o) (fun _ _=>False) s:=by
 have lim:s.heap.NoLimit:=I.env0.mod.nolimit.keeps fun b o e=>(I.env0.bs b o e).1
 refine wpAny_call (kla_callFunE hroom ho rfl L.co L.gen rfl hcd ?_)
 rw [hbind]
 refine wpAny_pure (wpAny_newFunctionEnv L.cell (fun y hy=>by
  have hy:y=(x,u):=by simpa using hy
  rw [hy];exact L.loc) (fun h₁ hns hsb=>⟨lim.fresh _ hsb,?_⟩) L.kind)
 refine kla_codeExpr ?_
 have J:=inv_lam (qual:=qual) (f:=f) (c':=c') I L hA hd r hns hsb
 refine wpAny_mono (he [] _ _ H _ J q) (fun z s' h'=>?_) fun _ _ h'=>h'.elim
 obtain ⟨y,H',J',ry,ey,eH⟩:=h'
 rw [eH] at J'
 rw [ey] at ry
 obtain ⟨t,rfl⟩:=ry
 obtain ⟨v2,H2,I2,r2,e2,e3⟩:=I.after (Q:=fun y H'=>y=.int k∧H'=H) (u:=.int k t) (s':=s') ⟨.int k,H,J'.os,J'.bare,J'.base,J'.hok,⟨t,rfl⟩,rfl,rfl⟩
 rw [e3] at I2
 refine ⟨t,rfl,I2,fun b o fb e=>J'.base.keep b o e fb.1 (fun z=>?_) (fun z=>absurd (show b∈([]:List Addr) from z) (by simp))⟩
 rcases List.mem_cons.mp (I.stkSub b z) with z | z
 ·exact fb.2.1 z
 ·exact fb.2.2.1 z
end
structure TabOk (H:Hp) (P:Addr) (pos:Pos) (qual:Str):Prop where
 ex:∃ ps,H P=some (.tbl ps)∧TriplesOk ps.toList∧∀ cv,codeAmong pos ps.toList=some cv→∃ c' oc vs t,cv=.ref c'∧H c'=some (.frz oc (.own c'))∧oc.data=.fields vs∧vs[1]?=some (.str qual t)
def isTbl:HO→Bool
 | .tbl _=>true
 | _=>false
def SameT (H H':Hp):Prop:=∀ b u,H b=some u→isTbl u=false→H' b=some u
structure BltAt (base:Heap) (mg:Str→Option Value) (P:Addr):Prop where
 ex:∃ bm o,mg "__builtins__"=some (.ref bm)∧bm≠builtinsNs∧bm≠mainGlobals∧bm≠P∧base.get? bm=some o∧o.cls=.type "module"∧o.dict=some builtinsNs∧o.data=.plain
section
variable {X:Cx} {pins:List (Addr × Obj)} {σ:St} {H:Hp} {A:Around} {s:Shared} {params:Arguments} {body:Expr} {scope:Scope} {cl:List (Str × Addr)} {c P:Addr} {pos:Pos}
theorem lam_make {Q:Value→Shared→Prop} {E:Value→Shared→Prop} (I:Inv X pins σ H s) (hdef:defaultsOf params X.env=([],[])) (hcl:closureFor scope X.env=pure cl) (hcode:X.env.code=.ref c) (C:codeHdIn X.K c P=true) (B:BltAt X.base X.mg P) (T:TabOk H P pos (X.env.qual ++ "<lambda>"))
  (h:∀ f c' ctv H' s',Inv X pins σ H' s'→s'.heap.get? f=some (kla_obj "<lambda>" (X.env.qual ++ "<lambda>") params body scope cl ((X.mg "__name__").getD .none) c' ctv)→FpOk X pins H' f→(∃ oc vs t,H' c'=some (.frz oc (.own c'))∧oc.data=.fields vs∧vs[1]?=some (.str (X.env.qual ++ "<lambda>") t))→
   SameT H H'→TabOk H' P pos (X.env.qual ++ "<lambda>")→(∀ Q pos' qual',Q≠P→TabOk H Q pos' qual'→TabOk H' Q pos' qual')→(∀ b,b < s.heap.objs.size→H b=none→H' b=none)→Q (.ref f) s') :
  wpAny (model X.prog X.w) A (eval (.Lambda params body scope pos) X.env) Q E s:=by
 obtain ⟨ps,hP,ht,hc⟩:=T.ex
 obtain ⟨bm,ob,b1,b2,b3,b4,b5,b6,b7,b8⟩:=B.ex
 have KX:X.K.In s.heap:=I.env0.mod.kin.keeps fun b o e=>(I.env0.bs b o e).1
 have hgs:s.heap.Ns mainGlobals X.mg:=let ⟨o,es,ep,e,r⟩:=I.env0.mod.glob;⟨o,es,ep,(I.env0.bs _ _ e).1,r⟩
 have hPh:s.heap.get? P=some (tabObj ps):=I.hok P _ hP
 have hbA:s.heap.BuiltinsAt X.mg P:=⟨bm,ob,b1,b2,b3,b4,(I.env0.bs _ _ b5).1,b6,b7,b8⟩
 have hgP:mainGlobals≠P:=fun q=>by
  obtain ⟨o,es,ep,e,hd,_⟩:=hgs
  rw [q,hPh] at e;cases e;cases hd
 have CH:=codeHd_of_K KX C
 refine kla_eval hdef ?_
 cases ca:codeAmong pos ps.toList with
 | none =>
  refine kla_makeFunction (mg:=X.mg) hcl I.ok.glob hgs hcode CH hPh ht ca hgP hbA fun c' ctv h' tk hx hge hlt hrec htb=>?_
  obtain ⟨c2,oc,vs,t,e2,hoc,hd,hv⟩:=hrec
  obtain rfl:c'=c2:=by cases e2;rfl
  have hn:H c'=none:=I.hok.fresh hge
  have hPc:P≠c':=Nat.ne_of_lt (Nat.lt_of_lt_of_le (Heap.lt_size hPh) hge)
  obtain ⟨H',eH⟩:∃ H',H'=upd (upd H c' (.frz oc (.own c'))) P (.tbl (ps ++ #[rawInt pos.line,rawInt pos.col,.ref c'])):=⟨_,rfl⟩
  have hP':H' P=some (.tbl (ps ++ #[rawInt pos.line,rawInt pos.col,.ref c'])):=by rw [eH,J1]
  have hc':H' c'=some (.frz oc (.own c')):=by rw [eH,Jf hPc.symm,J1]
  have oth:∀ b,b≠P→b≠c'→H' b=H b:=fun b n1 n2=>by rw [eH,Jf n1,Jf n2]
  have old:∀ b o,s.heap.get? b=some o→b≠c':=fun b o e=>Nat.ne_of_lt (Nat.lt_of_lt_of_le (Heap.lt_size e) hge)
  have tr:∀ b u,H b=some u→b≠c':=fun b u e=>J9 e hn
  have kp:∀ b o,b≠P→s.heap.get? b=some o→(h'.push (kla_obj "<lambda>" (X.env.qual ++ "<lambda>") params body scope cl ((X.mg "__name__").getD .none) c' ctv)).get? b=some o:=fun b o n e=>Heap.get?_push_of_some _ (hx b o n e)
  have hokN:HOk X.prog X.w H' (h'.push (kla_obj "<lambda>" (X.env.qual ++ "<lambda>") params body scope cl ((X.mg "__name__").getD .none) c' ctv)):=fun b u e=>by
   by_cases e1:b=P
   ·subst e1
    rw [hP'] at e;cases e
    exact Heap.get?_push_of_some _ htb
   ·by_cases e2:b=c'
    ·subst e2
     rw [hc'] at e;cases e
     exact ⟨Heap.get?_push_of_some _ hoc,_,Heap.get?_push_of_some _ hoc⟩
    ·rw [oth b e1 e2] at e
     refine (I.hok b u e).stay (fun d v hd q=>kp d v ?_ q) (fun d q=>?_) fun d xs q=>?_
     ·rcases hd with rfl | hd
      ·exact e1
      ·intro z;rw [z,hP] at hd;cases hd
     ·rw [oth d (fun z=>by rw [z,hP] at q;cases q) (tr _ _ q)];exact q
     ·rw [oth d (fun z=>by rw [z,hP] at q;cases q) (tr _ _ q)];exact q
  have un:Un X.fs [] H H' s.heap (h'.push (kla_obj "<lambda>" (X.env.qual ++ "<lambda>") params body scope cl ((X.mg "__name__").getD .none) c' ctv)):=by
   refine ⟨fun b o e n _ _=>kp b o (fun z=>by rw [z,hP] at n;cases n) e,fun b o e n _ _=>⟨o.slots,kp b o (fun z=>by rw [z,hP] at n;cases n) e⟩,fun b o e n _=>?_,fun b o e _=>?_,fun b xs e=>?_,fun b o u e=>?_,fun b qs e=>?_⟩
   ·rw [oth b (fun z=>by rw [z,hP] at n;cases n) (old b o e)];exact n
   ·by_cases z:b=P
    ·rw [z];exact ⟨_,Heap.get?_push_of_some _ htb⟩
    ·exact ⟨o,kp b o z e⟩
   ·rw [oth b (fun z=>by rw [z,hP] at e;cases e) (tr _ _ e)];exact e
   ·rw [oth b (fun z=>by rw [z,hP] at e;cases e) (tr _ _ e)];exact e
   ·by_cases z:b=P
    ·rw [z,hP] at e;cases e
     exact ⟨_,by rw [z];exact hP'⟩
    ·exact ⟨#[],by rw [oth b z (tr _ _ e),e];simp⟩
  have hsz:s.heap.objs.size≤h'.objs.size:=Nat.le_trans hge (Nat.le_of_lt hlt)
  have hfn:H' h'.objs.size=none:=by
   rw [oth _ (Nat.ne_of_gt (Nat.lt_of_lt_of_le (Heap.lt_size hPh) hsz)) (Nat.ne_of_gt hlt)]
   exact I.hok.fresh hsz
  refine h _ c' ctv H' _ (I.un (t':=tk) un hokN) (Heap.get?_push_size _ rfl) (I.fpOk hsz hfn) ⟨oc,vs,t,hc',hd,hv⟩ (fun b u e z=>?_) ⟨_,hP',?_,fun cv e=>?_⟩ (fun Q pos' qual' nQ TQ=>?_) (fun b hb n=>?_)
  ·rw [oth b (fun q=>by rw [q,hP] at e;cases e;cases z) (tr _ _ e)];exact e
  ·rw [Array.toList_append]
   exact TriplesOk_snoc _ _ _ _ ht
  ·rw [Array.toList_append] at e
   have e':codeAmong pos (ps.toList ++ [rawInt pos.line,rawInt pos.col,.ref c'])=some cv:=e
   rw [codeAmong_snoc _ ht ca] at e'
   cases e'
   exact ⟨c',oc,vs,t,rfl,hc',hd,hv⟩
  ·obtain ⟨qs,q1,q2,q3⟩:=TQ.ex
   refine ⟨qs,by rw [oth Q nQ (tr _ _ q1)];exact q1,q2,fun cv e=>?_⟩
   obtain ⟨d,od,ws,t',r1,r2,r3,r4⟩:=q3 cv e
   exact ⟨d,od,ws,t',r1,by rw [oth d (fun z=>by rw [z,hP] at r2;cases r2) (tr _ _ r2)];exact r2,r3,r4⟩
  ·rw [oth b (fun z=>by rw [z,hP] at n;cases n) (Nat.ne_of_lt (Nat.lt_of_lt_of_le hb hge))];exact n
 | some cv =>
  obtain ⟨c',oc,vs,t,rfl,hcH,hd,hv⟩:=hc cv ca
  refine kla_makeFunctionHit (mg:=X.mg) hcl I.ok.glob hgs hcode CH hPh ht ca hbA fun ctv h' tk hk hsz=>?_
  have kp:∀ b o,s.heap.get? b=some o→(h'.push (kla_obj "<lambda>" (X.env.qual ++ "<lambda>") params body scope cl ((X.mg "__name__").getD .none) c' ctv)).get? b=some o:=fun b o e=>Heap.get?_push_of_some _ (hk b o e)
  exact h _ c' ctv H _ (I.kept (t':=tk) kp) (Heap.get?_push_size _ rfl) (I.fpOk hsz (I.hok.fresh hsz)) ⟨oc,vs,t,hcH,hd,hv⟩ (fun b u e _=>e) T (fun _ _ _ _ T=>T) (fun _ _ n=>n)
end
end L2
namespace L2
open PySem PySem.Spec PySem.Calls PyProof.Rows PySem.W
section
variable {prog:Program} {w:World} {A:Around} {E:Value→Shared→Prop} {s:Shared}
theorem J5i {r:Addr} {n:Nat} {t u v:Tok} {Q:List Value→Shared→Prop} (hh:A.handled=none) (hr:IsRange s.heap r 0 (n:Int) 1 t u v) (hn:n≤1000)
  (h:∀ h' tk (acc:Array Value),(∀ b o,s.heap.get? b=some o→h'.get? b=some o)→ItemsOf (fun i v=>∃ t,v=.int (0 + (i:Int) * 1) t) acc n→Q acc.toList { s with heap:=h',toks:=tk }) :
  wpAny (model prog w) A (collect (.ref r)) Q E s:=by
 unfold collect
 refine wpAny_bind (wpAny_runValue (codeAny_builtin PySem.F.entry_proto_collect ?_))
 rw [Around.under_plainId PySem.F.plain_proto_collect _]
 show wpAny _ A.in1 (newList [] >>= fun l=>again (.builtin "list.__iadd__" ⟨[l,.ref r],[]⟩)) _ _ s
 refine wpAny_bind (wpAny_newObj_type ?_)
 refine wpAny_pure ⟨plainId_quiet PySem.F.plain_list_iadd _,codeAny_builtin PySem.F.entry_list_iadd ?_⟩
 rw [Around.under_plainId PySem.F.plain_list_iadd _]
 have hS:(s.heap.push { cls:=.type "list",data:=.seq ([]:List Value).toArray }).get? s.heap.objs.size=some { cls:=.type "list",data:=.seq ([]:List Value).toArray }:=Heap.get?_push_size _ rfl
 show wpAny _ A.in1 (Builtin.List.listExtendWith (.ref s.heap.objs.size) (.ref r) (.ref s.heap.objs.size)) _ _ _
 refine wpAny_extend_range (A:=A) (prog:=prog) (w:=w) (R:=fun (res:Result) s'=>match res with
  | .ok (.ret v)=>wpAny (model prog w) A (match v with
   | .ref a=>do
    let o ← load a
    match o.data with
    | .seq xs _=>pure xs.toList
    | _=>unsupported "internal:collect"
   | _=>unsupported "internal:collect") Q E s'
  | .ok _=>False
  | .error e=>E e s') (s:={ s with heap:=s.heap.push { cls:=.type "list",data:=.seq ([]:List Value).toArray } }) hh (Heap.get?_push_of_some _ hr) (small_one (a:=0) (b:=(n:Int)) (by omega) (by omega) (by omega) (by omega)) (n:=n) (by rw [rangeSize_one];split <;> omega) (by omega) s.heap.objs.size _ _ hS fun h' tk acc' c' hk hS' hacc=>?_
 show wpAny _ A (load s.heap.objs.size >>= _) _ _ _
 refine wpAny_bind (wpAny_load hS' ?_)
 exact wpAny_pure (h h' tk acc' (fun b o e=>hk b o (Nat.ne_of_lt (Heap.lt_size e)) (Heap.get?_push_of_some _ e)) hacc)
end
section
variable {X:Cx} {pins:List (Addr × Obj)} {σ:St} {H:Hp} {A:Around} {E:Value→Shared→Prop} {s:Shared} {vs:List Value} {kz:List Int}
theorem skey_col {f:Addr} {l:Addr} {xs:List V} {Q:Value→Shared→Prop} (hlen:kz.length=xs.length) (h64:xs.length < 64)
  (col:wpAny (model X.prog X.w) A.in1 (collect (.ref l)) (fun ws s1=>Vals xs ws∧Inv X pins σ H s1) E s)
  (turn:∀ (i:Nat) (y:V) (v:Value) (k:Int),xs[i]?=some y→RelV y v→kz[i]?=some k→KeyTurn X pins σ H A.in1.in1 (.ref f) v k)
  (h:∀ s' D out c us,Vals xs us→Inv X pins σ H s'→FpOk X pins H D→X.s₀.heap.objs.size≤D→s'.heap.get? D=some (seqObj "list" out c)→KskOut false kz us out.toList→Q (.ref D) s') :
  wpAny (model X.prog X.w) A (call (.builtin "sorted") [.ref l] [(Str.ofString "key",.ref f)]) Q E s:=by
 refine call_function_entry_kw kind_sorted plain_sorted entry_sorted (ksk_s1 _ _) ?_
 unfold Builtin.«sorted»
 refine wpAny_bind (m:=checkCount "sorted" 1 1 _) (wpAny_pure ?_)
 refine wpAny_bind (wpAny_mono col (fun vs s1 ⟨r,I1⟩=>?_) fun _ _ x=>x)
 have lv:=r.length
 refine wpAny_bind (wpAny_newList ?_ (by rw [sizeLine_eq];omega))
 have hoL:(s1.heap.push (seqObj "list" vs.toArray 0)).get? s1.heap.objs.size=some (seqObj "list" vs.toArray 0):=Heap.get?_push_size _ rfl
 have fD:FpOk X pins H s1.heap.objs.size:=I1.fpOk (Nat.le_refl _) (I1.hok.fresh (Nat.le_refl _))
 have hz:X.s₀.heap.objs.size≤s1.heap.objs.size:=I1.sz
 show wpAny _ _ _ _ _ { s1 with heap:=s1.heap.push (seqObj "list" vs.toArray 0) }
 refine wpAny_bind (wpAny_holding (wpAny_call_entry_kw slot_list_sort ⟨_,hoL,rfl⟩ entry_list_sort ?body (ksk_l1 _ _)))
 case body =>
  show wpAny (model X.prog X.w) A.in1.in1 (Builtin.«list.sort» ⟨[.ref s1.heap.objs.size],[(Str.ofString "key",.ref f)]⟩) _ _ _
  rw [ksk_t1]
  refine skey_sort (s:={ s1 with heap:=s1.heap.push (seqObj "list" vs.toArray 0) })
   (I1.kept (t':=s1.toks) fun b o e=>Heap.get?_push_of_some _ e) fD hoL (show kz.length=vs.length by omega) (by omega) (fun i v k e1 e2=>?_) fun s' out c I' n' k'=>⟨_,rfl,?_⟩
  ·obtain ⟨y,ey⟩:∃ y,xs[i]?=some y:=by
    have hi:i < vs.length:=(List.getElem?_eq_some_iff.mp e1).1
    exact ⟨xs[i]'(by omega),List.getElem?_eq_getElem _⟩
   obtain ⟨u,eu,ru⟩:=r.get ey
   rw [e1] at eu;cases eu
   exact turn i y v k ey ru e2
  ·exact wpAny_pure ⟨_,rfl,h s' _ out c vs r I' fD hz n' k'⟩
theorem Inv.adopt {D:Addr} {o:HO} (I:Inv X pins σ H s) (f:FpOk X pins H D) (hz:X.s₀.heap.objs.size≤D) (new:ObjOk X.prog X.w (upd H D o) s.heap D o):Inv X pins σ (upd H D o) s:=by
 obtain ⟨f1,f2,f3,f4,f5,f6⟩:=f
 have nn:∀ b u,H b=some u→b≠D:=fun b u e z=>by rw [z,f1] at e;cases e
 have kp:∀ b u,H b=some u→upd H D o b=some u:=fun b u e=>by rw [Jf (nn b u e)];exact e
 refine ⟨I.ok,I.os,I.bare,⟨I.base.keep,I.base.slot,fun b ob q n hx=>?_,I.base.there,fun b xs q=>kp _ _ (I.base.tups b xs q),fun b ob u q=>kp _ _ (I.base.frzs b ob u q),fun b ps q=>?_⟩,I.loc,I.cell,?_,fun x c e=>?_,fun p hp=>?_,fun b u e=>?_,I.len⟩
 ·rw [Jf (Nat.ne_of_lt (Nat.lt_of_lt_of_le (Heap.lt_size q) hz))];exact I.base.free b ob q n hx
 ·obtain ⟨more,e⟩:=I.base.tbls b ps q
  exact ⟨more,kp _ _ e⟩
 ·rw [Jf (Ne.symm f2)];exact I.free
 ·rw [Jf (f5 x c e)];exact I.freeC x c e
 ·obtain ⟨p1,p2,p3⟩:=I.pin p hp
  exact ⟨p1,by rw [Jf (f6 p hp)];exact p2,p3⟩
 ·by_cases hb:b=D
  ·subst hb;rw [J1] at e;cases e;exact new
  ·rw [Jf hb] at e
   exact (I.hok b u e).stay (fun c v _ q=>q) (fun c q=>kp _ _ q) fun c xs q=>kp _ _ q
end
theorem J5y {α β:Type} {f:α→β} {ps qs:List β} (p:ps.Perm qs):∀ {z:List α},qs=z.map f→∃ zs:List α,zs.Perm z∧ps=zs.map f:=by
 induction p with
 | nil =>
  intro z e
  cases z with
  | nil=>exact ⟨[],.refl _,rfl⟩
  | cons a r=>cases e
 | cons x _ ih =>
  intro z e
  cases z with
  | nil=>cases e
  | cons a r =>
   rw [List.map_cons] at e
   obtain ⟨e1,e2⟩:=List.cons.inj e
   obtain ⟨zs,h1,h2⟩:=ih e2
   exact ⟨a :: zs,.cons a h1,by rw [List.map_cons,← h2,← e1]⟩
 | swap x y l =>
  intro z e
  match z,e with
  | [],e=>cases e
  | [a],e=>simp at e
  | a :: b :: r,e =>
   simp only [List.map_cons,List.cons.injEq] at e
   exact ⟨b :: a :: r,.swap _ _ _,by rw [List.map_cons,List.map_cons,e.1,e.2.1,e.2.2]⟩
 | trans _ _ ih1 ih2 =>
  intro z e
  obtain ⟨z1,h1,h2⟩:=ih2 e
  obtain ⟨z2,h3,h4⟩:=ih1 h2
  exact ⟨z2,h3.trans h1,h4⟩
theorem vals_trip:∀ {ks:List Int} {xs:List V} {us:List Value},ks.length=xs.length→Vals xs us→
  ∃ z:List (Int × V × Value),z.map (fun t=>(t.1,t.2.1))=ks.zip xs∧z.map (fun t=>(t.1,t.2.2))=ks.zip us∧∀ t∈z,RelV t.2.1 t.2.2
 | [],[],_,_,.nil=>⟨[],rfl,rfl,fun _ h=>by simp at h⟩
 | k :: ks,x :: xs,u :: us,hl,.cons r rs=>by
  obtain ⟨z,h1,h2,h3⟩:=vals_trip (ks:=ks) (by simpa using hl) rs
  refine ⟨(k,x,u) :: z,by simp [h1],by simp [h2],fun t ht=>?_⟩
  rcases List.mem_cons.mp ht with rfl | ht
  ·exact r
  ·exact h3 t ht
theorem J3j:∀ {z:List (Int × V × Value)},(∀ t∈z,RelV t.2.1 t.2.2)→Vals ((z.map (fun t=>(t.1,t.2.1))).map Prod.snd) ((z.map (fun t=>(t.1,t.2.2))).map Prod.snd)
 | [],_=>.nil
 | a :: r,h=>.cons (h a (List.mem_cons_self ..)) (J3j fun t ht=>h t (List.mem_cons_of_mem _ ht))
theorem kskV {ks:List Int} {xs:List V} {us out:List Value} (hl:ks.length=xs.length) (r:Vals xs us) (k:KskOut false ks us out) :
  ∃ ys:List (Int × V),ys.Perm (ks.zip xs)∧Vals (ys.map Prod.snd) out∧ys.Pairwise (fun p q=>p.1≤q.1):=by
 obtain ⟨ps,p1,rfl,p3⟩:=k
 obtain ⟨z,h1,h2,h3⟩:=vals_trip hl r
 rw [← h2] at p1
 obtain ⟨zs,q1,rfl⟩:=J5y p1 rfl
 refine ⟨zs.map fun t=>(t.1,t.2.1),by rw [← h1];exact q1.map _,J3j fun t ht=>h3 t (q1.mem_iff.mp ht),?_⟩
 rw [List.pairwise_map] at p3 ⊢
 exact p3.imp fun h=>by simpa using h
def SrtOf (H:Hp) (p:Addr) (xs:List V):Prop:=H p=some (.lst xs)∨∃ n:Nat,H p=some (.rng 0 (n:Int))∧xs=(List.range n).map fun (i:Nat)=>V.int (i:Int)
def srtR (P:Addr) (pos:Pos) (qual:Str) (js:List Nat) (te:TE) (σ:St) (Q:VK) (v:V) (H1:Hp):Prop:=∃ (p:Addr) (xs:List V) (ks:List Int),v=.ref p∧SrtOf H1 p xs∧xs.length < 64∧ks.length=xs.length∧TabOk H1 P pos qual∧
 (∀ H2,SameT H1 H2→∀ (i:Nat) (y:V) (k:Int),xs[i]?=some y→ks[i]?=some k→te (some y :: capv σ js) H2 fun z H3=>z=.int k∧H3=H2)∧
 ∀ H2 l (ys:List (Int × V)),SameT H1 H2→TabOk H2 P pos qual→(∀ Q' pos' qual',Q'≠P→TabOk H1 Q' pos' qual'→TabOk H2 Q' pos' qual')→H2 l=none→ys.Perm (ks.zip xs)→ys.Pairwise (fun a b=>a.1≤b.1)→Q (.ref l) (upd H2 l (.lst (ys.map Prod.snd)))
def tSortK (P:Addr) (pos:Pos) (qual:Str) (js:List Nat) (te t1:TE):TE:=fun σ H Q=>t1 σ H (srtR P pos qual js te σ Q)
section
variable {X:Cx} {params:Arguments} {body e1:Expr} {scope:Scope} {cl:List (Str × Addr)} {c P:Addr} {lpos kp p pos:Pos} {x:Str} {caps:List Str} {js:List Nat} {te t1:TE}
theorem pe_sortK (hc:X.calm=true) (hr:Room 1 X.A) (hg:Gl X "sorted") (hm:X.mg "sorted"=none)
  (hdef:defaultsOf params X.env=([],[])) (hcl:closureFor scope X.env=pure cl) (hcode:X.env.code=.ref c) (C:codeHdIn X.K c P=true) (B:BltAt X.base X.mg P)
  (L:LamOk X scope cl x caps js) (hbind:∀ u pm cdv ctv,bindArgs (kla_fn "<lambda>" (X.env.qual ++ "<lambda>") params body scope cl pm cdv ctv) ⟨[u],[]⟩=pure [(x,u)])
  (he:∀ A f c' s H,PE (cxLam X A (x :: caps) (X.env.qual ++ "<lambda>") scope f (.ref c') cl s H) body te)
  (h1:PE X e1 t1)
  (hs:starEach [e1] X.env=(false,eval e1 X.env) :: starEach [] X.env:=by rfl) :
  PE X (.Call (.Name "sorted" p) [e1] [⟨some "key",.Lambda params body scope lpos,kp⟩] pos) (tSortK P lpos (X.env.qual ++ "<lambda>") js te t1):=by
 intro pins s σ H Q I h
 refine wpAny_Call_Name_kw (J67 I hg hm rfl ?_ (by decide) (by decide))
 refine PyProof.Rows.callWith_kw ?_ (by rw [hs];rfl) (by rw [hs];rfl)
 refine thn ((J0 h1 J4 hs) pos pins s σ H (fun vs H1=>match vs with
  | [v]=>srtR P lpos (X.env.qual ++ "<lambda>") js te σ Q v H1
  | _=>False) I h) fun us s1 ⟨vs,H1,I1,r1,q1⟩=>?_
 match vs,r1,q1 with
 | [v],r1,q1 =>
  obtain ⟨q,xs,ks,rfl,hS,h64,hk,T,ht,fin⟩:=q1
  obtain ⟨u,rfl,rx⟩:=vals1 r1
  cases rx
  refine kws_cons (lam_make I1 hdef hcl hcode C B T fun f c' ctv H2 s2 I2 ho ff cd sT T2 TQ nn=>kws_nil ?_)
  obtain ⟨oc,ws,t,e1,e2,e3⟩:=cd
  show wpAny _ _ (call (.builtin "sorted") [.ref q] [(Str.ofString "key",.ref f)]) _ _ s2
  have I3:Inv X ((f,kla_obj "<lambda>" (X.env.qual ++ "<lambda>") params body scope cl ((X.mg "__name__").getD .none) c' ctv) :: pins) σ H2 s2:=I2.pins_of fun p hp=>(List.mem_cons.mp hp).elim (fun z=>by
   rw [z];exact ⟨ho,ff.1,ff.2.1,ff.2.2.1,fun v q=>by cases q⟩) fun z=>I2.pin p (List.mem_append_right _ z)
  refine skey_col (pins:=(f,kla_obj "<lambda>" (X.env.qual ++ "<lambda>") params body scope cl ((X.mg "__name__").getD .none) c' ctv) :: pins) (σ:=σ) (H:=H2) hk h64 ?_ (fun i y v k ey ry ek s' I'=>?_) fun s' D out cc us' ru I' fD hz hD kk=>?_
  ·rcases hS with hS | ⟨n,hS,rfl⟩
   ·obtain ⟨its,r',pl,hz⟩:=I3.list (.inl (.inl (sT _ _ hS rfl)))
    refine collect_list pl.isList ⟨r',I3.kept (t':=s2.toks) fun b o e=>?_⟩ (by rw [sizeLine_eq];have:=r'.length;omega)
    have hlt:b < s2.heap.objs.size:=Heap.lt_size e
    rw [Heap.get?_update_ne _ _ _ _ (Nat.ne_of_lt hlt),Heap.get?_push_ne _ _ _ (Nat.ne_of_lt hlt)]
    exact e
   ·obtain ⟨t,u,v,e⟩:=I3.hok q _ (sT _ _ hS rfl)
    refine J5i (I3.ok.hd hc) (show IsRange s2.heap q 0 (n:Int) 1 t u v from e) (by rw [List.length_map,List.length_range] at h64;omega) fun h' tk acc hkp hacc=>⟨J3b (by rw [Array.length_toList];exact hacc.1) fun i v e=>?_,I3.kept (t':=tk) hkp⟩
    obtain ⟨t,rfl⟩:=hacc.2 i v (by simpa using e)
    exact ⟨t,by simp⟩
  ·have po:=(I'.pin _ (List.mem_append_right _ (List.mem_cons_self ..))).1
   have cr:s'.heap.CodeRec (.ref c') (X.env.qual ++ "<lambda>"):=⟨c',oc,ws,t,rfl,(I'.hok c' _ e1).1,e2,e3⟩
   exact lam_turn I' L I'.ok.frames (I'.ok.hd hc) hr.depth ry po cr (hbind _ _ _ _) (he _ _ _ _ _) (ht H2 sT i y k ey ek)
  ·obtain ⟨ys,y1,y2,y3⟩:=kskV hk ru kk
   have len:(ys.map Prod.snd).length≤sizeLine:=by
    rw [List.length_map,y1.length_eq,List.length_zip,sizeLine_eq];omega
   have J:=I'.adopt (o:=.lst (ys.map Prod.snd)) fD hz ⟨len,out.toList,cc,y2,hD⟩
   exact ⟨.ref D,_,J.pins_of fun p hp=>J.pin p (List.mem_append_right _ (List.mem_cons_of_mem _ hp)),rfl,fin H2 D ys sT T2 TQ fD.1 y1 y3⟩
end
end L2
namespace L2
open PySem PySem.Spec PySem.Calls PyProof.Rows PySem.W
theorem Fun.okK {P:Program} {w:World} {K:PySem.W.Frag} {mg:Str→Option Value} {base:Heap} {x qual:Str} {st:Stmt} {f c:Addr} {fd:FuncData} {N ps:List Str} {k:Nat} {sp:Sp} (F:Fun K x qual st f fd) (hcode:fd.code=.ref c) (S:FnScope N ps (Ja st)) (len:∀ vs H Q E,sp vs H Q E→vs.length=ps.length)
  (hbody:∀ (A:Around) (outer:List Env) (s:Shared) (H:Hp) (vs:List V) (Q:VK) (E:XK),Room k (A.deeper (envOfC qual (Ja st) s.heap.objs.size f (.ref c)))→sp vs H Q E→
   ∃ t,PSs (cxOf CX0 P w K mg base N qual (Ja st) f (.ref c) A outer s H E).nox (J1k st) t∧t { nx:=fun _ H'=>Q .non H',rt:=Q } (start N vs) H):FnOk P w K mg base CX0 (k + 1) f fd ps sp:=by
 obtain ⟨oc,od,kV,doc,pm,an,cdv,ct,osl,rfl,lk,hcd⟩:=F.ex
 obtain rfl:cdv=.ref c:=hcode
 refine fn_of lk hcd S len fun A outer s H vs Q E hr hsp=>?_
 obtain ⟨t,h,q⟩:=hbody A outer s H vs Q E hr hsp
 exact ⟨t,h.nox,q⟩
theorem isTab_of {K:PySem.W.Frag} {h:Heap} {c P:Addr} (X:K.In h) (e:codeHdIn K c P=true):isCodeTable h P:=by
 obtain ⟨o,vs,_,_,_,_,_,_,_,e1,e2,e3,e4,_⟩:=codeHd_of_K X e
 exact ⟨c,o,vs,e1,e2,e3,e4⟩
theorem law_callT {P:Program} {w:World} {K:PySem.W.Frag} {mg mb:Str→Option Value} {CX:CXT} {k:Nat} {fa a:Addr} {fd:FuncData} {x:Str} {sp:Sp} {s₁:Shared} {vs:List Value} {ns:List Int} {Ps:List Addr}
  (KX:K.In s₁.heap) (hns:s₁.heap.Ns mainGlobals mg) (hb:s₁.heap.Ns builtinsNs mb) (hbb:∀ x:Str,x≠"__name__"→mb x=bootBuiltins x) (hlim:s₁.heap.NoLimit) (hg:s₁.gens=#[])
  (ha:s₁.heap.get? a=some { cls:=.type "list",data:=.seq vs.toArray }) (hi:IntsAre vs ns) (hl:ns.length≤sizeLine) (hr:Room k callerA)
  (tabs:∀ P∈Ps,s₁.heap.get? P=some (tabObj #[])∧isCodeTable s₁.heap P∧K.lookup P=none)
  (hbm:∃ bm ob,mg "__builtins__"=some (.ref bm)∧bm≠builtinsNs∧s₁.heap.get? bm=some ob∧ob.cls=.type "module"∧ob.dict=some builtinsNs∧ob.data=.plain)
  (F:∀ base:Heap,K.In base→base.Ns mainGlobals mg→(∀ P∈Ps,BltAt base mg P)→FnOk P w K mg base CX k fa fd [x] sp) (hbind:∀ (s:Shared) (u:Value),BindsTo s fd ⟨[u],[]⟩ [(x,u)])
  (hsp:∀ H:Hp,(∀ P∈Ps,H P=some (.tbl #[]))→SqL K H a (ns.map V.int)→sp [.ref a] H (fun v _=>v=.bl true) fun _ _ _=>False)
  (hCX:∀ H e s',CX [] H s₁ (fun _ _ _=>False) e s'→False) :
  codeAny (model P w) callerA (.call (.ref fa) ⟨[.ref a],[]⟩) (fun r s'=>r=.ok (.ret (.bool true))∧OldK s₁.heap s'.heap∧s'.os=s₁.os∧AllBare s'.gens) s₁:=by
 have rv:=J4e hi
 have lenV:=hi.length
 have core:∀ H:Hp,(∀ P∈Ps,H P=some (.tbl #[]))→SqL K H a (ns.map V.int)→
   (∀ b u,H b=some u→(b∈Ps∧u=.tbl #[])∨(b=a∧K.lookup a=none∧u=.frz { cls:=.type "list",data:=.seq vs.toArray } (.lst (ns.map V.int))))→
   codeAny (model P w) callerA (.call (.ref fa) ⟨[.ref a],[]⟩) (fun r s'=>r=.ok (.ret (.bool true))∧OldK s₁.heap s'.heap∧s'.os=s₁.os∧AllBare s'.gens) s₁:=by
  intro H hT hS hA
  have hok:HOk P w H s₁.heap:=fun b u e=>by
   rcases hA b u e with ⟨hb,rfl⟩ | ⟨rfl,_,rfl⟩
   ·exact (tabs b hb).1
   ·exact ⟨ha,by rw [List.length_map];exact hl,vs,_,rv,ha⟩
  have dictFree:∀ {b:Addr} {o:Obj} {es:Array DictEntry} {ep:Nat},s₁.heap.get? b=some o→o.data=.dict es ep→H b=none:=fun {b o es ep} e d=>by
   cases q:H b with
   | none=>rfl
   | some u =>
    rcases hA b u q with ⟨hb,_⟩ | ⟨rfl,_⟩
    ·rw [(tabs b hb).1] at e;cases e;cases d
    ·rw [ha] at e;cases e;cases d
  have nsK:∀ {b:Addr} {m:Str→Option Value},s₁.heap.Ns b m→(hidT s₁.heap H).Ns b m:=fun {b m} ⟨o,es,ep,e,d,r⟩=>⟨o,es,ep,J68 e (dictFree e d),d,r⟩
  have hKb:K.In (hidT s₁.heap H):=fun b o e=>J68 (KX b o e) (by
   cases q:H b with
   | none=>rfl
   | some u =>
    rcases hA b u q with ⟨hb,_⟩ | ⟨rfl,hk,_⟩
    ·rw [(tabs b hb).2.2] at e;cases e
    ·rw [hk] at e;cases e)
  have hM:Mod K mg (hidT s₁.heap H):=⟨hKb,nsK hns,⟨mb,nsK hb,hbb⟩,let ⟨mc,h1,h2⟩:=hlim;⟨mc,nsK h1,h2⟩⟩
  have e0:Env0 P w K mg (hidT s₁.heap H) callerA [] s₁ H:=⟨rfl,hM,fun b o e=>of_hidT e,Nat.le_of_eq (hidT_size _ _),trivial,fun b hb=>absurd (show b∈([]:List Addr) from hb) (by simp),hok,.of_eq hg⟩
  have hBl:∀ Q∈Ps,BltAt (hidT s₁.heap H) mg Q:=fun Q hQ=>by
   obtain ⟨bm,ob,b1,b2,b3,b4,b5,b6⟩:=hbm
   refine ⟨bm,ob,b1,b2,fun e=>?_,fun e=>?_,J68 b3 ?_,b4,b5,b6⟩
   ·obtain ⟨o,es,ep,e1,e2,_⟩:=hns
    rw [e,e1] at b3;cases b3;rw [e2] at b6;cases b6
   ·rw [e,(tabs Q hQ).1] at b3;cases b3;cases b6
   ·cases q:H bm with
    | none=>rfl
    | some u =>
     rcases hA bm u q with ⟨hb,_⟩ | ⟨rfl,_⟩
     ·rw [(tabs bm hb).1] at b3;cases b3;cases b6
     ·rw [ha] at b3;cases b3;cases b6
  refine codeAny_mono ((F _ hKb (nsK hns) hBl).run callerA [] s₁ H ⟨[.ref a],[]⟩ [.ref a] [.ref a] _ _ hr e0 (hbind s₁ (.ref a)) (.cons rfl .nil) (hsp H hT hS)) fun r s' h=>?_
  cases r with
  | error e=>exact (hCX H e s' h).elim
  | ok fl =>
   cases fl with
   | next=>exact False.elim h
   | brk=>exact False.elim h
   | cont=>exact False.elim h
   | ret u =>
    obtain ⟨v,H',os,bare,un,hok',r',q⟩:=h
    obtain rfl:v=.bl true:=q
    obtain rfl:u=Value.bool true:=r'
    have kp:∀ b o,s₁.heap.get? b=some o→asItWas s₁.heap s'.heap b o:=fun b o e=>by
     cases q:H b with
     | none=>exact .inl (un.keep b o e q (by intro z;exact absurd (show b∈([]:List Addr) from z) (by simp)) (by simp))
     | some u =>
      rcases hA b u q with ⟨hb,rfl⟩ | ⟨rfl,_,rfl⟩
      ·obtain ⟨more,z⟩:=un.tbls b #[] q
       obtain ⟨t1,t2,_⟩:=tabs b hb
       rw [t1] at e;cases e
       exact .inr (.inl ⟨t2,rfl,#[],more,rfl,hok' b _ z⟩)
      ·obtain ⟨e2,_⟩:=hok' b _ (un.frzs b _ _ q)
       rw [ha] at e;cases e
       exact .inl e2
    exact ⟨rfl,⟨kp,fun b o e=>un.there b o e (by simp)⟩,os,bare⟩
 have nP:a ∉ Ps:=fun h=>by
  have e:=(tabs a h).1
  rw [ha] at e;cases e
 cases hk:K.lookup a with
 | some o =>
  have e:=KX a o hk
  rw [ha] at e
  cases e
  refine core (fun b=>if b∈Ps then some (.tbl #[]) else none) (fun P hP=>if_pos hP) (.inr ⟨_,vs.toArray,_,hk,rfl,rfl,rfl,by rw [List.size_toArray,lenV];exact hl,by simpa using rv⟩) fun b u z=>?_
  by_cases hb:b∈Ps
  ·have z':=(if_pos hb).symm.trans z
   cases z';exact .inl ⟨hb,rfl⟩
  ·have z':=(if_neg hb).symm.trans z
   cases z'
 | none =>
  refine core (fun b=>if b∈Ps then some (.tbl #[]) else if b=a then some (.frz { cls:=.type "list",data:=.seq vs.toArray } (.lst (ns.map V.int))) else none) (fun P hP=>if_pos hP)
   (.inl (.inr ⟨{ cls:=.type "list",data:=.seq vs.toArray },(if_neg nP).trans (if_pos rfl)⟩)) fun b u z=>?_
  by_cases hb:b∈Ps
  ·have z':=(if_pos hb).symm.trans z
   cases z';exact .inl ⟨hb,rfl⟩
  ·have z1:=(if_neg hb).symm.trans z
   by_cases hba:b=a
   ·have z':=(if_pos hba).symm.trans z1
    cases z';exact .inr ⟨hba,hk,rfl⟩
   ·have z':=(if_neg hba).symm.trans z1
    cases z'
theorem TabOk.empty {H:Hp} {P:Addr} {pos:Pos} {qual:Str} (h:H P=some (.tbl #[])):TabOk H P pos qual:=⟨#[],h,by first | trivial | exact .nil | simp [TriplesOk],fun cv e=>by simp [codeAmong] at e⟩
end L2
namespace L2
open PySem PySem.Spec PySem.Calls PyProof.Rows PySem.W
theorem walk_ofU {l:PySem.W.OpenLaw} {n k:Nat} {q:Program} {loose:List Str} {XP:(Str→Option Value)→Heap→Prop} {YP:World→Heap→Prop} {d:DefRec} {K:Params→PySem.W.Frag} {CX:World→CXT} {sp:World→Sp} {x:Str} {Ps:List Addr}
  (hn:l.most=some n) (hn2:n≤sizeLine) (hdf:d.params.defaults=[]) (hr:Room k callerA)
  (hY:∀ (w:World) (h:Heap),YP w h→(K w.params).In h∧∀ P∈Ps,h.get? P=some (tabObj #[]))
  (hP:∀ (w:World),∀ P∈Ps,(K w.params).lookup P=none)
  (F:∀ (w:World) (mg:Str→Option Value) (fa:Addr) (h:Heap),(K w.params).In h→h.Ns mainGlobals mg→mg d.name=some (.ref fa)→
   (∀ P∈Ps,∃ c,codeHdIn (K w.params) c P=true)∧∃ fd:FuncData,(∀ (s:Shared) (u:Value),BindsTo s fd ⟨[u],[]⟩ [(x,u)])∧
    ∀ base:Heap,(K w.params).In base→base.Ns mainGlobals mg→(∀ P∈Ps,BltAt base mg P)→FnOk l.prog w (K w.params) mg base (CX w) k fa fd [x] (sp w))
  (hsp:∀ (w:World) (H:Hp) (a:Addr) (ns:List Int),ns.length≤n→(∀ P∈Ps,H P=some (.tbl #[]))→SqL (K w.params) H a (ns.map V.int)→sp w [.ref a] H (fun v _=>v=.bl true) fun _ _ _=>False)
  (hCX:∀ (w:World) (H:Hp) (s:Shared) (e:Value) (s':Shared),CX w [] H s (fun _ _ _=>False) e s'→False) :
  PySem.W.WalkO q loose XP YP l.row.toRowW d [] (fun f vs=>PySem.call f vs):=by
 refine Att.attach_call hn hdf fun w s₀ s₁ mg mb fa o pm cd doc a vs ns G Y ho hd hcd hmg hobj hints hlen hg=>?_
 obtain ⟨KX,tb⟩:=hY w _ Y
 obtain ⟨hC,fd,hb,hF⟩:=F w mg fa _ KX G.T.g hmg
 refine law_callT KX G.T.g G.T.b G.T.builtins G.T.nolimit hg hobj hints (Nat.le_trans hlen hn2) hr (fun P hPs=>⟨tb P hPs,?_,hP w P hPs⟩) G.T.bmain hF hb (fun H hO hS=>hsp w H a ns hlen hO hS) fun H e s'=>hCX w H s₁ e s'
 obtain ⟨c,e⟩:=hC P hPs
 exact isTab_of KX e
end L2
namespace L2
open PySem PySem.Spec PyProof.Rows
end L2
namespace L2
open PySem PySem.Spec PyProof.Rows
def LCW2 (K:PySem.W.Frag) (J:It) (tc:TT) (te:TE) (σ:St) (js:List Nat) (Q:VK) (H1:Hp) (d:Addr):Prop:=∃ W:Nat→Nat→List V→Hp→Prop,(∃ m,W 0 m [] (upd H1 d (.lst [])))∧
 ∀ i m ys H2,W i m ys H2→H2 d=some (.lst ys)∧((J.stop i H2∧Q (.ref d) H2)∨(J.go i H2∧ys.length < sizeLine∧∀ v H3,J.yld i H2 v H3→
  ∃ p a b,v=.ref p∧SqT K H3 p [a,b]∧tc (some a :: some b :: capv σ js) H3 fun bb H4=>if bb=true then te (some a :: some b :: capv σ js) H4 fun y H5=>H5 d=some (.lst ys)∧∃ m',m' < m∧W (i + 1) m' (ys ++ [y]) (upd H5 d (.lst (ys ++ [y])))
   else ∃ m',m' < m∧W (i + 1) m' ys H4))
def tLC2 (K:PySem.W.Frag) (wi:TI) (tc:TT) (te:TE) (js:List Nat):TE:=fun σ H Q=>wi σ H fun J H1=>∀ d,H1 d=none→LCW2 K J tc te σ js Q H1 d
section
variable {X:Cx} {elt iter:Expr} {ifs:List Expr} {x y z:Str} {px py pz tp:Pos} {kk:Nat} {scope:Scope} {cl:List (Str × Addr)} {pos spos:Pos} {wi:TI} {tc:TT} {te:TE} {caps:List Str} {js:List Nat} {i:Nat}
theorem comp_core2 {p0:Pos} {use:Option (Value→Sem Unit)} {QV:Value→Shared→Prop} {Q:VK} {pins:List (Addr × Obj)} {s:Shared} {σ:St} {H:Hp} (hc:X.calm=true) (hp:PI X (.Tuple [.Name x px,.Name z pz] kk tp) iter wi)
  (he:∀ (C:Addr) (fp:List Addr) (s:Shared) (H:Hp),PE (X.block (x :: z :: caps) scope cl C fp s H) elt te)
  (ht:∀ (C:Addr) (fp:List Addr) (s:Shared) (H:Hp),PTs (X.block (x :: z :: caps) scope cl C fp s H) ifs tc)
  (hcell:∀ p∈scope.names,p.2≠.cell) (hnames:∀ p∈scope.names,p.2=.local→scope.names.lookup p.1=some .local) (hnd:(x :: z :: caps).Nodup)
  (hsub:∀ p∈cl,X.env.cells.lookup p.1=some p.2) (hhas:∀ p∈scope.names,p.2=.free→∃ c,cl.lookup p.1=some c) (hlen:caps.length=js.length)
  (hcaps:∀ (k:Nat) (c:Str),caps[k]?=some c→∃ (j:Nat) (a:Addr),js[k]?=some j∧X.N[j]?=some c∧X.env.scope.names.lookup c=some .cell∧cl.lookup c=some a∧(relabel scope X.env).names.lookup c=some .cell)
  (hclos:closureFor scope X.env=pure cl) (hkind:scope.kind=.function) (hx:scope.names.lookup x=some .local) (hz':scope.names.lookup z=some .local) (hs:∀ v,foldedSetIterable iter X.env v=pure v)
  (I:Inv X pins σ H s) (h:tLC2 X.K wi tc te js σ H Q)
  (fin:∀ (d:Addr) (H':Hp) (s5:Shared) (C:Addr),Inv X pins σ H' s5→Q (.ref d) H'→(∃ m,s5.heap.Ns C m)→FpOk X pins H' C→compPost (model X.prog X.w) X.A X.xe use QV (.ref d) C (.ok .next) s5) :
  wpAny (model X.prog X.w) X.A (comprehension (.ListComp elt [⟨.Tuple [.Name x px,.Name z pz] kk tp,iter,ifs,0⟩] scope pos) scope X.env p0 (newList []) false (eval iter X.env) use) QV X.xe s:=by
 refine wpAny_comprehension_free (cl:=cl) (use:=use) (Q:=QV) rfl hs hclos hkind hnames (thn (hp pins s σ H _ I h) fun v s1 h1=>thn h1 fun itv s2 h2=>?_)
 obtain ⟨it,fp,tn,J,H2,e,I2,T,st2,f2,h3⟩:=h2
 subst e
 have hfr:H2 s2.heap.objs.size=none:=I2.hok.fresh (Nat.le_refl _)
 obtain ⟨W,⟨m0,w0⟩,hW⟩:=h3 s2.heap.objs.size hfr
 refine wpAny_newObj_type (wpAny_newFunctionEnv hcell (by intro y hy;simp at hy) (fun h₁ hns₁ hsb₁=>?_) hkind)
 dsimp only at hns₁ hsb₁ ⊢
 generalize hH2:s2.heap.push { cls:=.type "list",dict:=none,data:=.seq ([]:List Value).toArray }=G at hns₁ hsb₁ ⊢
 have hC:G.objs.size=s2.heap.objs.size + 1:=by rw [← hH2,Heap.size_push]
 have hDC:s2.heap.objs.size≠G.objs.size:=by rw [hC];exact Nat.ne_of_lt (Nat.lt_succ_self _)
 have hCle:s2.heap.objs.size≤G.objs.size:=by rw [hC];exact Nat.le_succ _
 have old:∀ b o,s2.heap.get? b=some o→h₁.get? b=some o:=fun b o e=>hsb₁.extBut b o (by rw [hC];exact Nat.ne_of_lt (Nat.lt_succ_of_lt (Heap.lt_size e))) (Heap.get?_push_of_some _ (hH2 ▸ Heap.get?_push_of_some _ e))
 have hacc:h₁.get? s2.heap.objs.size=some { cls:=.type "list",dict:=none,data:=.seq ([]:List Value).toArray }:=hsb₁.extBut _ _ hDC (Heap.get?_push_of_some _ (hH2 ▸ Heap.get?_push_size _ rfl))
 have fl:∀ b∈fp,b < s2.heap.objs.size:=fun b hb=>by
  obtain ⟨o,e,_⟩:=T.obj _ _ st2 b hb
  exact Heap.lt_size e
 have hDf:s2.heap.objs.size ∉ fp:=fun hm=>Nat.lt_irrefl _ (fl _ hm)
 have hok1:HOk X.prog X.w (upd H2 s2.heap.objs.size (.lst [])) h₁:=I2.hok.laid old (Nat.le_refl _) ⟨Nat.zero_le _,[],0,.nil,hacc⟩
 have IY0:∀ tk,Inv (X.block (x :: z :: caps) scope cl G.objs.size fp s2 H2) [] (none :: none :: capv σ js) (upd H2 s2.heap.objs.size (.lst [])) { s2 with heap:=h₁,toks:=tk }:=fun tk=>by
  refine ⟨J3a I2 hCle f2 fl hkind hcell hsub hhas,rfl,I2.bare,Un.laid old (Nat.le_refl _) hfr,⟨_,hns₁,fun k q v e1 e2 e3=>?_⟩,fun q c e=>?_,?_,fun q c e=>?_,fun p hp=>absurd hp (by simp),hok1,?_⟩
  ·rcases k with _ | _ | k
   ·simp at e2
   ·simp at e2
   ·have e1':caps[k]?=some q:=by simpa using e1
    have e2':(capv σ js)[k]?=some (some v):=by simpa using e2
    obtain ⟨j,a,q1,q2,q3,q4,q5⟩:=hcaps k q e1'
    obtain ⟨j',r1,r2⟩:=J50 e2'
    rw [q1] at r1;cases r1
    obtain ⟨m,hm,hl⟩:=I2.loc
    obtain ⟨u,ru,lu⟩:=hl j q v q2 r2 (.inr (.inl q3))
    refine ⟨u,ru,.inr ⟨.inl q5,a,q4,?_⟩⟩
    rcases lu with ⟨k1,_⟩ | ⟨_,c,ec,o,ho,hd⟩
    ·have k1':X.env.scope.names.lookup q=some .local:=k1
     rw [q3] at k1';cases k1'
    ·have:=hsub _ (PySem.mem_of_lookup q4)
     rw [ec] at this;cases this
     exact ⟨o,old _ _ ho,hd⟩
  ·obtain ⟨v,o,ho,hd⟩:=I2.cell q c (hsub _ (PySem.mem_of_lookup e))
   exact ⟨v,o,old _ _ ho,hd⟩
  ·show upd H2 s2.heap.objs.size (.lst []) G.objs.size=none
   rw [Jf hDC.symm]
   exact I2.hok.fresh hCle
  ·have ec:=hsub _ (PySem.mem_of_lookup e)
   obtain ⟨v,o,ho,hd⟩:=I2.cell q c ec
   rw [Jf (Nat.ne_of_lt (Heap.lt_size ho))]
   exact I2.freeC q c ec
  ·show (none :: none :: capv σ js).length=(x :: z :: caps).length
   unfold capv
   simp [hlen]
 have stat:∀ {H':Hp},(∀ b∈fp,H' b=none)→∀ b∈fp,FpOk (X.block (x :: z :: caps) scope cl G.objs.size fp s2 H2) [] H' b:=fun hn b hb =>
  ⟨hn b hb,Nat.ne_of_lt (Nat.lt_of_lt_of_le (fl b hb) hCle),(J3a (x:=x) (caps:=z :: caps) I2 hCle f2 fl hkind hcell hsub hhas).exfs b hb,.inl hb,fun q c e=>(f2 b hb).2.2.2.2.1 q c (hsub _ (PySem.mem_of_lookup e)),fun p hp=>absurd hp (by simp)⟩
 have hxl:(relabel scope X.env).names.lookup x=some .local:=lookup_relabel_local hx
 have hzl:(relabel scope X.env).names.lookup z=some .local:=lookup_relabel_local hz'
 have loop:∀ tk,codeAny (model X.prog X.w) X.A (.compLoop (.ListComp elt [⟨.Tuple [.Name x px,.Name z pz] kk tp,iter,ifs,0⟩] scope pos) 0 (.ref it) (.ref s2.heap.objs.size) (compEnvC scope cl G.objs.size X.env))
   (compPost (model X.prog X.w) X.A X.xe use QV (.ref s2.heap.objs.size) G.objs.size) { s2 with heap:=h₁,toks:=tk }:=fun tk=>by
  refine J1p (fun m s'=>∃ (k:Nat) (o o2:Option V) (ys:List V) (H':Hp),Inv (X.block (x :: z :: caps) scope cl G.objs.size fp s2 H2) [] (o :: o2 :: capv σ js) H' s'∧tn k s'.heap∧(∀ b∈fp,H' b=none)∧W k m ys H') ?_ m0
   ⟨0,none,none,[],_,IY0 tk,T.keep _ _ _ st2 fun b hb o e=>old b o e,fun b hb=>by
    rw [Jf (show b≠s2.heap.objs.size from fun e=>hDf (by rw [← e];exact hb))]
    exact (f2 b hb).1,w0⟩
  rintro m s3 ⟨k,o,o2,ys,H',I3,st3,fr3,w3⟩
  obtain ⟨hd,hW3⟩:=hW k m ys H' w3
  rcases hW3 with ⟨stop,q⟩ | ⟨go,hz,step⟩
  ·refine thn (T.done (X.block (x :: z :: caps) scope cl G.objs.size fp s2 H2) rfl rfl rfl hc k [] s3 _ _ (fun _ _=>False) I3 (stat fr3) st3 stop) fun r s4 ⟨hr,I4⟩=>?_
   subst hr
   have J5:Inv X pins σ H' s4:=I2.call' (ch:=fp) I4.os I4.base I4.hok I4.bare fun b hb=>⟨(f2 b hb).2.2.2.1,(f2 b hb).2.1,(f2 b hb).2.2.2.2.1,(f2 b hb).2.2.2.2.2⟩
   exact fin _ H' s4 _ J5 q (let ⟨m,q,_⟩:=I4.loc;⟨m,q⟩) (I2.fpOk hCle I4.free)
  ·refine thn (T.item (X.block (x :: z :: caps) scope cl G.objs.size fp s2 H2) rfl rfl rfl hc k [] s3 _ _ (fun _ _=>False) I3 (stat fr3) st3 go) fun r s4 ⟨u,hr,h4⟩=>?_
   subst hr
   refine thn h4 fun _ s5 ⟨v,H5,I5,r5,y5,st5,fr5⟩=>?_
   have I5':=I5.pinned (stat fr5) (T.obj _ _ st5)
   obtain ⟨pq,va,vb,rfl,sq5,stp⟩:=step v H5 y5
   refine thn (pg_tup (X:=X.block (x :: z :: caps) scope cl G.objs.size fp s2 H2) (pos:=tp) (k:=kk) (n:=2) hc
     (J25 (J1e (X:=X.block (x :: z :: caps) scope cl G.objs.size fp s2 H2) (i:=0) (pos:=px) hnd rfl (.inl hxl) (.inr hxl))
      (J25 (J1e (X:=X.block (x :: z :: caps) scope cl G.objs.size fp s2 H2) (i:=1) (pos:=pz) hnd rfl (.inl hzl) (.inr hzl)) pgs_nil)) rfl rfl _ s5 _ _ _ u
    (fun σ' H'=>σ'=some va :: some vb :: capv σ js∧H'=H5) I5' r5 ⟨pq,[va,vb],rfl,sq5,rfl,va,[vb],rfl,vb,[],rfl,rfl,rfl,rfl⟩) fun _ s6 ⟨σ6,H6,I6,q6⟩=>?_
   obtain ⟨rfl,rfl⟩:=q6
   refine thn (ht _ _ _ _ _ s6 _ _ _ I6 stp) fun ok s7 ⟨H7,I7,q7⟩=>?_
   have back:∀ {s8:Shared} {H8:Hp} {o8 o9:Option V} {ys8:List V} {m':Nat},Inv (X.block (x :: z :: caps) scope cl G.objs.size fp s2 H2) ([] ++ pinsAt fp s5.heap) (o8 :: o9 :: capv σ js) H8 s8→m' < m→W (k + 1) m' ys8 H8→
     ∃ m',m' < m∧∃ (k:Nat) (o o2:Option V) (ys:List V) (H':Hp),Inv (X.block (x :: z :: caps) scope cl G.objs.size fp s2 H2) [] (o :: o2 :: capv σ js) H' s8∧tn k s8.heap∧(∀ b∈fp,H' b=none)∧W k m' ys H':=fun {s8 H8 o8 o9 ys8 m'} I8 hm w8=>by
    refine ⟨m',hm,k + 1,o8,o9,ys8,H8,I8.unpinned,T.keep _ _ _ st5 fun b hb o e=>(I8.pin (b,o) (List.mem_append_right _ (List.mem_append_right _ (J1n hb e)))).1,fun b hb=>?_,w8⟩
    obtain ⟨o,e,d⟩:=T.obj _ _ st5 b hb
    exact (I8.pin (b,o) (List.mem_append_right _ (List.mem_append_right _ (J1n hb e)))).2.1
   cases ok with
   | false =>
    have q7':∃ m',m' < m∧W (k + 1) m' ys H7:=by
     have:=q7
     rwa [if_neg (by decide)] at this
    obtain ⟨m',hm,w8⟩:=q7'
    exact back I7 hm w8
   | true =>
    have q7':te (some va :: some vb :: capv σ js) H7 fun y H5=>H5 s2.heap.objs.size=some (.lst ys)∧∃ m',m' < m∧W (k + 1) m' (ys ++ [y]) (upd H5 s2.heap.objs.size (.lst (ys ++ [y]))):=by
     have:=q7
     rwa [if_pos rfl] at this
    refine (show wpAny _ _ _ _ _ _ from thn (he _ _ _ _ _ s7 _ _ _ I7 q7') fun u8 s8 ⟨v8,H8,I8,r8,hd8,m',hm,w8⟩=>?_)
    refine thn (J1s (X:=X.block (x :: z :: caps) scope cl G.objs.size fp s2 H2) _ s8 _ _ (.ref s2.heap.objs.size) [v8] (.ref s2.heap.objs.size) [u8]
     (fun _ H'=>H'=upd H8 s2.heap.objs.size (.lst (ys ++ [v8]))) I8 rfl (.cons r8 .nil) ⟨s2.heap.objs.size,_,v8,rfl,rfl,hd8,hz,rfl⟩) fun _ s9 ⟨_,H9,I9,_,q9⟩=>?_
    subst q9
    exact back I9 hm w8
 have st1:tn 0 h₁:=T.keep _ _ _ st2 fun b hb o e=>old b o e
 exact codeAny_compStart_list (loop _) (T.self X.A 0 _ _ _ st1 (loop _))
theorem pe_lc2 (hc:X.calm=true) (hp:PI X (.Tuple [.Name x px,.Name z pz] kk tp) iter wi) (hclos:closureFor scope X.env=pure cl)
  (ht:∀ (C:Addr) (fp:List Addr) (s:Shared) (H:Hp),PTs (X.block (x :: z :: caps) scope cl C fp s H) ifs tc)
  (he:∀ (C:Addr) (fp:List Addr) (s:Shared) (H:Hp),PE (X.block (x :: z :: caps) scope cl C fp s H) elt te)
  (hcell:∀ p∈scope.names,p.2≠.cell) (hnames:∀ p∈scope.names,p.2=.local→scope.names.lookup p.1=some .local) (hnd:(x :: z :: caps).Nodup)
  (hsub:∀ p∈cl,X.env.cells.lookup p.1=some p.2)
  (hhas:freeOk scope cl=true:=by rfl) (hlen:caps.length=js.length:=by rfl) (hcaps:capsOk X scope cl caps js=true:=by rfl)
  (hkind:scope.kind=.function:=by rfl) (hx:scope.names.lookup x=some .local:=by rfl) (hz':scope.names.lookup z=some .local:=by rfl) (hs:∀ v,foldedSetIterable iter X.env v=pure v:=by intro _;rfl) :
  PE X (.ListComp elt [⟨.Tuple [.Name x px,.Name z pz] kk tp,iter,ifs,0⟩] scope pos) (tLC2 X.K wi tc te js):=by
 intro pins s σ H Q I h
 rw [eval_ListComp]
 refine comp_core2 (use:=none) hc hp he ht hcell hnames hnd hsub (freeOk.get hhas) hlen (capsOk.get hlen hcaps) hclos hkind hx hz' hs I h fun d H' s5 C J5 q hC fp=>?_
 obtain ⟨m,nsC⟩:=hC
 exact ⟨m,nsC,fun h' hs'=>⟨.ref d,H',J5.turned (h':=h') (t':=s5.toks) (it:=C) (fun b o hb e=>(hs'.2 b hb).trans e) fp.1 fp.2.1 fp.2.2.2.1 fp.2.2.2.2.1 fp.2.2.2.2.2,rfl,q⟩⟩
end
section
variable {K:PySem.W.Frag} {a:Addr} {H1:Hp} {tc:TT} {te:TE} {σ:St} {js:List Nat} {Q:VK} {d:Addr}
theorem lc_enumR (xs:List V) (Pr:Hp→Addr→Nat→Prop) (hx:SqT K H1 a xs) (hn:xs.length≤sizeLine) (hd:H1 d=none)
  (mono:∀ H H' q i,KeepD d H H'→q≠d→Pr H q i→Pr H' q i)
  (he:∀ (i:Nat) (v:V),xs[i]?=some v→∀ H Qe,Same H1 H→(∃ ys,H d=some (.lst ys))→(∀ q H',Same H H'→q≠d→Pr H' q i→Qe (.ref q) H')→te (some (.int (i:Nat)) :: some v :: capv σ js) H Qe)
  (hq:∀ ys H',Same H1 H'→H' d=some (.lst ys)→Refs (fun q i=>Pr H' q i) ys xs.length→Q (.ref d) H'):LCW2 K (Ite K a) tYes te σ js Q H1 d:=by
 have s0:∀ o,Same H1 (upd H1 d o):=fun o b u e=>by rw [Jf (J9 e hd)];exact e
 refine ⟨fun i m ys H=>m=xs.length - i∧i≤xs.length∧Same H1 H∧H d=some (.lst ys)∧Refs (fun q i=>q≠d∧Pr H q i) ys i,⟨_,rfl,Nat.zero_le _,s0 _,J1,Refs.nil⟩,?_⟩
 rintro i m ys H2 ⟨rfl,hi,sm,h2,rf⟩
 refine ⟨h2,?_⟩
 by_cases hlt:i < xs.length
 ·refine .inr ⟨⟨_,_,sm.tup hx,List.getElem?_eq_getElem hlt⟩,by rw [rf.len];lia,fun v H3 y3=>?_⟩
  obtain ⟨p,x,rfl,hp,rfl,hv⟩:=y3
  have hv:=hv _ (sm.tup hx)
  have s3:Same H2 (upd H2 p (.tup [.int (i:Int),x])):=fun b u e=>by rw [Jf (J9 e hp)];exact e
  refine ⟨p,_,_,rfl,SqT.of J1,?_⟩
  unfold tYes
  dsimp only
  rw [if_pos rfl]
  refine he i x hv _ _ (sm.trans s3) ⟨_,s3 _ _ h2⟩ fun q H5 s5 hqd hpq=>⟨s5 _ _ (s3 _ _ h2),xs.length - (i + 1),by lia,rfl,hlt,?_,J1,?_⟩
  ·intro b u e
   rw [Jf (J9 e hd)]
   exact s5 _ _ (s3 _ _ (sm _ _ e))
  ·have kd:∀ H,KeepD d H (upd H d (.lst (ys ++ [.ref q]))):=fun H b o e n=>by rw [Jf n];exact e
   refine (rf.mono fun a j _ x=>⟨x.1,?_⟩).snoc ⟨hqd,mono _ _ _ _ (kd _) hqd hpq⟩
   exact mono _ _ _ _ (fun b o e n=>kd _ _ _ (s5 _ _ (s3 _ _ e)) n) x.1 x.2
 ·have e:i=xs.length:=by lia
  subst e
  exact .inl ⟨⟨_,sm.tup hx,Nat.le_refl _⟩,hq ys H2 sm h2 (rf.mono fun _ _ _ x=>x.2)⟩
end
end L2
namespace Rl
def J3 (row:List Nat) (a:Nat):List Nat:=row.drop (row.idxOf a + 1)
def J8 (row:List Nat) (x:Nat):List Nat:=row.filter fun j=>decide (j≠x)
def putR (row:List Nat) (w l:Nat) (ahead:Bool):List Nat :=
 (J8 row l).take (if ahead=true then (J8 row l).idxOf w else (J8 row l).idxOf w + 1) ++ [l] ++ (J8 row l).drop (if ahead=true then (J8 row l).idxOf w else (J8 row l).idxOf w + 1)
theorem mem_without {row:List Nat} {x j:Nat}:j∈J8 row x↔j∈row∧j≠x:=by
 unfold J8
 rw [List.mem_filter,decide_eq_true_iff]
theorem J27 {row:List Nat} (h:row.Nodup) (x:Nat):(J8 row x).Nodup:=h.filter _
theorem J33 {row:List Nat} (h:row.Nodup) {x:Nat} (hx:x∈row):(J8 row x).length + 1=row.length:=by
 induction row with
 | nil=>cases hx
 | cons a r ih =>
  obtain ⟨h1,h2⟩:=List.nodup_cons.mp h
  unfold J8
  rw [List.filter_cons]
  by_cases e:a=x
  ·subst e
   have:r.filter (fun j=>decide (j≠a))=r:=List.filter_eq_self.mpr fun j hj=>decide_eq_true (fun q=>h1 (q ▸ hj))
   rw [if_neg (by simp),this];rfl
  ·rw [if_pos (by simpa using e)]
   have hx':x∈r:=(List.mem_cons.mp hx).resolve_left (fun q=>e q.symm)
   have:=ih h2 hx'
   unfold J8 at this
   simp only [List.length_cons]
   lia
theorem J20 {row:List Nat} (h:row.Nodup) {x:Nat} (hx:x∈row):(x :: J8 row x).Perm row:=by
 refine (List.perm_ext_iff_of_nodup (List.nodup_cons.mpr ⟨fun q=>(mem_without.mp q).2 rfl,J27 h x⟩) h).mpr fun j=>?_
 rw [List.mem_cons,mem_without]
 constructor
 ·rintro (rfl | q)
  ·exact hx
  ·exact q.1
 ·intro q
  by_cases e:j=x
  ·exact .inl e
  ·exact .inr ⟨q,e⟩
theorem J2o {row:List Nat} (h:row.Nodup) {w l:Nat} (hl:l∈row) (ahead:Bool):(putR row w l ahead).Perm row:=by
 unfold putR
 generalize (if ahead=true then (J8 row l).idxOf w else (J8 row l).idxOf w + 1)=n
 refine List.Perm.trans ?_ (J20 h hl)
 have e:l :: J8 row l=[l] ++ ((J8 row l).take n ++ (J8 row l).drop n):=by rw [List.take_append_drop];rfl
 rw [e,← List.append_assoc]
 exact List.Perm.append_right _ List.perm_append_comm
theorem J2p {xs ys:List Nat} (h:xs.Perm ys) (x:Nat):(J8 xs x).Perm (J8 ys x):=h.filter _
theorem Jt (f:List Int) (p q:Nat) (v:Int) (hp:p < f.length):(f.set p v).getD q 0=if q=p then v else f.getD q 0:=set_get f p q v hp
theorem J1l (f:List Bool) (p q:Nat) (v:Bool) (hp:p < f.length):(f.set p v).getD q false=if q=p then v else f.getD q false:=by
 rw [List.getD_eq_getElem?_getD,List.getD_eq_getElem?_getD]
 by_cases e:q=p
 ·subst e;rw [List.getElem?_set_self hp,if_pos rfl];rfl
 ·rw [List.getElem?_set_ne (Ne.symm e),if_neg e]
inductive Stp where
 | home (a:Nat) | even (a b:Nat) | over (a b:Nat) | under (a b:Nat) | overs (a:Nat) (t:Int) | unders (a:Nat) (t:Int)
def Stp.winner:Stp→Nat
 | .home a=>a | .even a _=>a | .over a _=>a | .under a _=>a | .overs a _=>a | .unders a _=>a
def Stp.times:Stp→Int
 | .overs _ t=>t | .unders _ t=>t | _=>1
def Stp.losers (r:Rst):Stp→List Nat
 | .home _=>[] | .even _ b=>[b] | .over _ b=>[b] | .under _ b=>[b] | .overs a _=>J3 r.bot a | .unders a _=>J3 r.top a
def Stp.own:Stp→Bool
 | .even _ _=>true | .over _ _=>true | .overs _ _=>true | _=>false
def J21 (r:Rst) (w l:Nat):List Bool:=r.ts.set l (r.ts.getD w false != r.ts.getD l false)
def Stp.behind (r:Rst):Stp→Rst
 | .home a=>⟨J8 r.top a,J8 r.bot a,r.ls.set a 0,r.ts.set a false⟩
 | .even a b=>⟨J8 r.top a,J8 (putR r.bot a b false) a,r.ls.set a 0,(J21 r a b).set a false⟩
 | .over a b=>⟨r.top,putR r.bot a b (r.ts.getD a false),r.ls.set a (r.ls.getD a 0 - r.ls.getD b 0),J21 r a b⟩
 | .under a b=>⟨putR r.top a b (r.ts.getD a false),r.bot,r.ls.set a (r.ls.getD a 0 - r.ls.getD b 0),J21 r a b⟩
 | .overs a t=>⟨r.top,r.bot,r.ls.set a (r.ls.getD a 0 - t * lenOf r.ls (J3 r.bot a)),r.ts⟩
 | .unders a t=>⟨r.top,r.bot,r.ls.set a (r.ls.getD a 0 - t * lenOf r.ls (J3 r.top a)),r.ts⟩
def J2j (r:Rst) (a:Nat) (row:List Nat):Int:=if r.ts.getD a false=true then 0 else (r.ls.getD a 0 - 1) / lenOf r.ls (J3 row a)
abbrev lastT (r:Rst):Nat:=r.top.getD (r.top.length - 1) 0
abbrev lastB (r:Rst):Nat:=r.bot.getD (r.bot.length - 1) 0
def nextN (r:Rst):Stp :=
 if lastT r=lastB r then .home (lastT r)
 else if r.ls.getD (lastT r) 0=r.ls.getD (lastB r) 0 then .even (lastT r) (lastB r)
 else if r.ls.getD (lastB r) 0 < r.ls.getD (lastT r) 0 then
  (if 0 < J2j r (lastT r) r.bot then .overs (lastT r) (J2j r (lastT r) r.bot) else .over (lastT r) (lastB r))
 else (if 0 < J2j r (lastB r) r.top then .unders (lastB r) (J2j r (lastB r) r.top) else .under (lastB r) (lastT r))
theorem Rst.Ok.lens {r:Rst} (h:r.Ok):r.bot.length=r.top.length:=h.perm.length_eq
theorem Rst.Ok.mT {r:Rst} (h:r.Ok) (ne:r.top≠[]):lastT r∈r.top:=J19 (by have:=List.length_pos_iff.mpr ne;lia)
theorem Rst.Ok.mB {r:Rst} (h:r.Ok) (ne:r.top≠[]):lastB r∈r.top:=h.perm.mem_iff.mp (J19 (by have:=List.length_pos_iff.mpr ne;have:=h.lens;lia))
theorem J1y {row:List Nat} {n j:Nat} (h:j∈row.drop n):j∈row:=List.mem_of_mem_drop h
theorem behind_ne {row:List Nat} {a:Nat} (ha:a∈row) (h:row.getD (row.length - 1) 0≠a):J3 row a≠[]:=by
 unfold J3
 have h1:row.idxOf a < row.length:=List.idxOf_lt_length_iff.mpr ha
 intro e
 have h2:=List.drop_eq_nil_iff.mp e
 have h3:row.idxOf a=row.length - 1:=by lia
 apply h
 rw [← h3,List.getD_eq_getElem?_getD,List.getElem?_eq_getElem h1]
 exact List.getElem_idxOf h1
theorem Rst.Ok.of_rows {r:Rst} (h:r.Ok) {top bot:List Nat} {ls:List Int} {ts:List Bool} (ht:top.Perm r.top) (hb:bot.Perm r.top) (hl:ls.length=r.ls.length) (htl:ts.length=r.ts.length)
  (pos:∀ j∈r.top,1≤ls.getD j 0) (zl:∀ j,j ∉ r.top→ls.getD j 0=0) (zt:∀ j,j ∉ r.top→ts.getD j false=false):(Rst.mk top bot ls ts).Ok where
 row:=⟨ht.nodup_iff.mpr h.row.nd,fun j hj=>by rw [hl];exact h.row.lt j (ht.mem_iff.mp hj),fun j hj=>pos j (ht.mem_iff.mp hj)⟩
 perm:=hb.trans ht.symm
 zl:=fun j hj=>zl j fun q=>hj (ht.mem_iff.mpr q)
 zt:=fun j hj=>zt j fun q=>hj (ht.mem_iff.mpr q)
 len:=by show ts.length=ls.length;rw [hl,htl];exact h.len
 few:=by show ls.length≤24;rw [hl];exact h.few
theorem J3k {r:Rst} (h:r.Ok) {w l:Nat} (hl:l∈r.top):∀ j,j ∉ r.top→(J21 r w l).getD j false=false:=fun j hj=>by
 unfold J21
 rw [J1l _ _ _ _ (by rw [h.len];exact h.row.lt l hl),if_neg (show ¬ j=l from fun e=>hj (by rw [e];exact hl))]
 exact h.zt j hj
theorem set_out {r:Rst} (h:r.Ok) {a:Nat} {v:Int} (ha:a∈r.top):∀ j,j ∉ r.top→(r.ls.set a v).getD j 0=0:=fun j hj=>by
 rw [Jt _ _ _ _ (h.row.lt a ha),if_neg (show ¬ j=a from fun e=>hj (by rw [e];exact ha))]
 exact h.zl j hj
theorem set_pos {r:Rst} (h:r.Ok) {a:Nat} {v:Int} (ha:a∈r.top) (hv:1≤v):∀ j∈r.top,1≤(r.ls.set a v).getD j 0:=fun j hj=>by
 rw [Jt _ _ _ _ (h.row.lt a ha)]
 split
 ·exact hv
 ·exact h.row.pos j hj
theorem J1v (r:Rst) (w l:Nat):(J21 r w l).length=r.ts.length:=by unfold J21;rw [List.length_set]
theorem Rst.Ok.less {r:Rst} (h:r.Ok) {a:Nat} (ha:a∈r.top) {bot:List Nat} {ts:List Bool} (hb:bot.Perm (J8 r.top a)) (htl:ts.length=r.ts.length) (zt:∀ j,j ∉ r.top→ts.getD j false=false) (za:ts.getD a false=false):(Rst.mk (J8 r.top a) bot (r.ls.set a 0) ts).Ok where
 row:=⟨J27 h.row.nd a,fun j hj=>by rw [List.length_set];exact h.row.lt j (mem_without.mp hj).1,fun j hj=>by
  rw [Jt _ _ _ _ (h.row.lt a ha),if_neg (mem_without.mp hj).2]
  exact h.row.pos j (mem_without.mp hj).1⟩
 perm:=hb
 zl:=fun j hj=>by
  show (r.ls.set a 0).getD j 0=0
  rw [Jt _ _ _ _ (h.row.lt a ha)]
  split
  ·rfl
  ·rename_i e
   exact h.zl j fun q=>hj (mem_without.mpr ⟨q,e⟩)
 zt:=fun j hj=>by
  by_cases e:j=a
  ·subst e;exact za
  ·exact zt j fun q=>hj (mem_without.mpr ⟨q,e⟩)
 len:=by show ts.length=(r.ls.set a 0).length;rw [List.length_set,htl];exact h.len
 few:=by show (r.ls.set a 0).length≤24;rw [List.length_set];exact h.few
theorem times_fit {la s:Int} (hs:1≤s):(la - 1) / s * s≤la - 1:=Int.ediv_mul_le _ (by lia)
theorem J1j {r:Rst} (h:r.Ok) (ne:r.top≠[]) {p:Stp→Prop}
  (hh:lastT r=lastB r→p (.home (lastT r)))
  (he:lastT r≠lastB r→r.ls.getD (lastT r) 0=r.ls.getD (lastB r) 0→p (.even (lastT r) (lastB r)))
  (hov:lastT r≠lastB r→r.ls.getD (lastB r) 0 < r.ls.getD (lastT r) 0→(r.ts.getD (lastT r) false=true∨r.ls.getD (lastT r) 0≤lenOf r.ls (J3 r.bot (lastT r)))→p (.over (lastT r) (lastB r)))
  (hun:lastT r≠lastB r→r.ls.getD (lastT r) 0 < r.ls.getD (lastB r) 0→(r.ts.getD (lastB r) false=true∨r.ls.getD (lastB r) 0≤lenOf r.ls (J3 r.top (lastB r)))→p (.under (lastB r) (lastT r)))
  (hos:∀ t,lastT r≠lastB r→r.ls.getD (lastB r) 0 < r.ls.getD (lastT r) 0→r.ts.getD (lastT r) false=false→1≤t→1≤lenOf r.ls (J3 r.bot (lastT r))→lenOf r.ls (J3 r.bot (lastT r)) < r.ls.getD (lastT r) 0→t=(r.ls.getD (lastT r) 0 - 1) / lenOf r.ls (J3 r.bot (lastT r))→t * lenOf r.ls (J3 r.bot (lastT r)) < r.ls.getD (lastT r) 0→p (.overs (lastT r) t))
  (hus:∀ t,lastT r≠lastB r→r.ls.getD (lastT r) 0 < r.ls.getD (lastB r) 0→r.ts.getD (lastB r) false=false→1≤t→1≤lenOf r.ls (J3 r.top (lastB r))→lenOf r.ls (J3 r.top (lastB r)) < r.ls.getD (lastB r) 0→t=(r.ls.getD (lastB r) 0 - 1) / lenOf r.ls (J3 r.top (lastB r))→t * lenOf r.ls (J3 r.top (lastB r)) < r.ls.getD (lastB r) 0→p (.unders (lastB r) t)):p (nextN r):=by
 unfold nextN
 have mT:=h.mT ne
 have mB:=h.mB ne
 by_cases c1:lastT r=lastB r
 ·rw [if_pos c1];exact hh c1
 rw [if_neg c1]
 by_cases c2:r.ls.getD (lastT r) 0=r.ls.getD (lastB r) 0
 ·rw [if_pos c2];exact he c1 c2
 rw [if_neg c2]
 have key:∀ (row:List Nat) (a:Nat),a∈row→(∀ j∈row,1≤r.ls.getD j 0)→row.getD (row.length - 1) 0≠a→
   1≤lenOf r.ls (J3 row a)∧(0 < J2j r a row→r.ts.getD a false=false∧1≤J2j r a row∧lenOf r.ls (J3 row a) < r.ls.getD a 0∧J2j r a row=(r.ls.getD a 0 - 1) / lenOf r.ls (J3 row a)∧J2j r a row * lenOf r.ls (J3 row a) < r.ls.getD a 0)∧
   (¬ 0 < J2j r a row→r.ts.getD a false=true∨r.ls.getD a 0≤lenOf r.ls (J3 row a)):=fun row a ha hp hl=>by
  have hs:1≤lenOf r.ls (J3 row a):=lenOf_pos (fun j hj=>hp j (J1y hj)) (behind_ne ha hl)
  refine ⟨hs,fun hw=>?_,fun hw=>?_⟩
  ·by_cases ct:r.ts.getD a false=true
   ·unfold J2j at hw;rw [if_pos ct] at hw;lia
   ·have e:J2j r a row=(r.ls.getD a 0 - 1) / lenOf r.ls (J3 row a):=by unfold J2j;rw [if_neg ct]
    have h1:=times_fit (la:=r.ls.getD a 0) hs
    rw [e] at hw ⊢
    refine ⟨by simpa using ct,by lia,?_,rfl,by lia⟩
    have h2:lenOf r.ls (J3 row a) * 1≤lenOf r.ls (J3 row a) * ((r.ls.getD a 0 - 1) / lenOf r.ls (J3 row a)):=Int.mul_le_mul_of_nonneg_left (by lia) (by lia)
    rw [Int.mul_comm (lenOf r.ls (J3 row a)) ((r.ls.getD a 0 - 1) / lenOf r.ls (J3 row a))] at h2
    lia
  ·by_cases ct:r.ts.getD a false=true
   ·exact .inl ct
   ·right
    have e:J2j r a row=(r.ls.getD a 0 - 1) / lenOf r.ls (J3 row a):=by unfold J2j;rw [if_neg ct]
    rw [e] at hw
    by_cases q:r.ls.getD a 0≤lenOf r.ls (J3 row a)
    ·exact q
    ·have:=(Int.le_ediv_iff_mul_le (a:=1) (b:=r.ls.getD a 0 - 1) (c:=lenOf r.ls (J3 row a)) (by lia)).mpr (by lia)
     lia
 by_cases c3:r.ls.getD (lastB r) 0 < r.ls.getD (lastT r) 0
 ·rw [if_pos c3]
  obtain ⟨hs,k1,k2⟩:=key r.bot (lastT r) (h.perm.mem_iff.mpr mT) (fun j hj=>h.rowB.pos j hj) (fun e=>c1 e.symm)
  by_cases c4:0 < J2j r (lastT r) r.bot
  ·rw [if_pos c4]
   obtain ⟨q1,q2,q3,q4,q5⟩:=k1 c4
   exact hos _ c1 c3 q1 q2 hs q3 q4 q5
  ·rw [if_neg c4];exact hov c1 c3 (k2 c4)
 ·rw [if_neg c3]
  have c3':r.ls.getD (lastT r) 0 < r.ls.getD (lastB r) 0:=by lia
  obtain ⟨hs,k1,k2⟩:=key r.top (lastB r) mB (fun j hj=>h.row.pos j hj) c1
  by_cases c4:0 < J2j r (lastB r) r.top
  ·rw [if_pos c4]
   obtain ⟨q1,q2,q3,q4,q5⟩:=k1 c4
   exact hus _ c1 c3' q1 q2 hs q3 q4 q5
  ·rw [if_neg c4];exact hun c1 c3' (k2 c4)
theorem Rst.Ok.next {r:Rst} (h:r.Ok) (ne:r.top≠[]):((nextN r).behind r).Ok:=by
 have mT:=h.mT ne
 have mB:=h.mB ne
 have mTb:=h.perm.mem_iff.mpr mT
 have mBb:=h.perm.mem_iff.mpr mB
 have ndB:=h.rowB.nd
 refine J1j h ne (p:=fun s=>(s.behind r).Ok) (fun _=>?_) (fun c1 c2=>?_) (fun c1 c2 _=>?_) (fun c1 c2 _=>?_) (fun t c1 c2 c3 c4 c5 _ c6 c7=>?_) (fun t c1 c2 c3 c4 c5 _ c6 c7=>?_)
 ·refine h.less mT (J2p h.perm _) (by rw [List.length_set]) (fun j hj=>?_) ?_
  ·rw [J1l _ _ _ _ (by rw [h.len];exact h.row.lt _ mT)]
   split
   ·rfl
   ·exact h.zt j hj
  ·rw [J1l _ _ _ _ (by rw [h.len];exact h.row.lt _ mT),if_pos rfl]
 ·refine h.less mT ((J2p (J2o ndB mBb false) _).trans (J2p h.perm _)) (by rw [List.length_set,J1v]) (fun j hj=>?_) ?_
  ·rw [J1l _ _ _ _ (by rw [J1v,h.len];exact h.row.lt _ mT)]
   split
   ·rfl
   ·exact J3k h mB j hj
  ·rw [J1l _ _ _ _ (by rw [J1v,h.len];exact h.row.lt _ mT),if_pos rfl]
 ·exact h.of_rows (List.Perm.refl _) ((J2o ndB mBb _).trans h.perm) (by rw [List.length_set]) (J1v _ _ _) (set_pos h mT (by lia)) (set_out h mT) (J3k h mB)
 ·exact h.of_rows (J2o h.row.nd mT _) h.perm (by rw [List.length_set]) (J1v _ _ _) (set_pos h mB (by lia)) (set_out h mB) (J3k h mT)
 ·exact h.of_rows (List.Perm.refl _) h.perm (by rw [List.length_set]) rfl (set_pos h mT (by lia)) (set_out h mT) h.zt
 ·exact h.of_rows (List.Perm.refl _) h.perm (by rw [List.length_set]) rfl (set_pos h mB (by lia)) (set_out h mB) h.zt
theorem J4o:∀ (n:Nat) (row:List Nat),row.Nodup→(∀ j∈row,j < n)→row.length≤n
 | 0,row,_,h=>by
  cases row with
  | nil=>exact Nat.le_refl _
  | cons a r=>exact absurd (h a List.mem_cons_self) (Nat.not_lt_zero _)
 | n + 1,row,nd,h=>by
  by_cases c:n∈row
  ·have h1:=J33 nd c
   have h2:=J4o n (J8 row n) (J27 nd n) fun j hj=>by
    have:=h j (mem_without.mp hj).1
    have:=(mem_without.mp hj).2
    lia
   lia
  ·have:=J4o n row nd fun j hj=>by
    have h1:=h j hj
    have h2:j≠n:=fun e=>c (e ▸ hj)
    lia
   lia
theorem Row.len_le {ls:List Int} {row:List Nat} (h:Row ls row):row.length≤ls.length:=J4o _ _ h.nd h.lt
end Rl
namespace Rl
theorem J53 {row:List Nat} (h:row≠[]):row=row.dropLast ++ [row.getD (row.length - 1) 0]:=by
 have hl:=List.length_pos_iff.mpr h
 have e:row.getD (row.length - 1) 0=row.getLast h:=by
  rw [List.getD_eq_getElem?_getD,List.getElem?_eq_getElem (by lia),List.getLast_eq_getElem];rfl
 rw [e]
 exact (List.dropLast_concat_getLast h).symm
theorem J1d (xs ys:List Nat) (x:Nat):J8 (xs ++ ys) x=J8 xs x ++ J8 ys x:=by unfold J8;rw [List.filter_append]
theorem J1c {xs:List Nat} {x:Nat} (h:x ∉ xs):J8 xs x=xs:=List.filter_eq_self.mpr fun j hj=>decide_eq_true (fun e=>h (e ▸ hj))
theorem J1h (x:Nat):J8 [x] x=[]:=by unfold J8;simp
theorem J5c {s:List Nat} {a:Nat} (t:List Nat) (h:a ∉ s):(s ++ a :: t).idxOf a=s.length:=by
 induction s with
 | nil=>simp
 | cons x s ih =>
  have hx:(x == a)=false:=by
   have:x≠a:=fun e=>h (by rw [e];exact List.mem_cons_self)
   simpa using this
  rw [List.cons_append,List.idxOf_cons,hx,ih fun q=>h (List.mem_cons_of_mem _ q)]
  rfl
def NextP (r:Rst):Stp→Prop
 | .home a=>a=lastT r∧a=lastB r
 | .even a b=>a=lastT r∧b=lastB r∧a≠b∧r.ls.getD a 0=r.ls.getD b 0
 | .over a b=>a=lastT r∧b=lastB r∧a≠b∧r.ls.getD b 0 < r.ls.getD a 0
 | .under a b=>a=lastB r∧b=lastT r∧a≠b∧r.ls.getD b 0 < r.ls.getD a 0
 | .overs a t=>a=lastT r∧a≠lastB r∧r.ts.getD a false=false∧1≤t∧1≤lenOf r.ls (J3 r.bot a)∧t * lenOf r.ls (J3 r.bot a) < r.ls.getD a 0
 | .unders a t=>a=lastB r∧a≠lastT r∧r.ts.getD a false=false∧1≤t∧1≤lenOf r.ls (J3 r.top a)∧t * lenOf r.ls (J3 r.top a) < r.ls.getD a 0
theorem nextP {r:Rst} (h:r.Ok) (ne:r.top≠[]):NextP r (nextN r) :=
 J1j h ne (p:=NextP r) (fun c=>⟨rfl,c⟩) (fun c1 c2=>⟨rfl,rfl,c1,c2⟩) (fun c1 c2 _=>⟨rfl,rfl,c1,c2⟩) (fun c1 c2 _=>⟨rfl,rfl,fun e=>c1 e.symm,c2⟩)
  (fun t c1 c2 c3 c4 c5 _ _ c6=>⟨rfl,c1,c3,c4,c5,c6⟩) (fun t c1 c2 c3 c4 c5 _ _ c6=>⟨rfl,fun e=>c1 e.symm,c3,c4,c5,c6⟩)
theorem NextP.win {r:Rst} (h:r.Ok) (ne:r.top≠[]) {s:Stp} (n:NextP r s):s.winner∈r.top:=by
 have mT:=h.mT ne
 have mB:=h.mB ne
 cases s with
 | home a=>rw [show (Stp.home a).winner=a from rfl,n.1];exact mT
 | even a b=>rw [show (Stp.even a b).winner=a from rfl,n.1];exact mT
 | over a b=>rw [show (Stp.over a b).winner=a from rfl,n.1];exact mT
 | under a b=>rw [show (Stp.under a b).winner=a from rfl,n.1];exact mB
 | overs a t=>rw [show (Stp.overs a t).winner=a from rfl,n.1];exact mT
 | unders a t=>rw [show (Stp.unders a t).winner=a from rfl,n.1];exact mB
theorem Rst.Ok.le_size {r:Rst} (h:r.Ok) {j:Nat} (hj:j∈r.top):r.ls.getD j 0≤r.size:=lenOf_mem (fun j hj=>by have:=h.row.pos j hj;lia) hj
theorem NextP.times {r:Rst} (h:r.Ok) (ne:r.top≠[]) {s:Stp} (n:NextP r s) (hz:r.size≤10 ^ 30):s.times.natAbs≤10 ^ 30:=by
 have hw:=h.le_size (n.win h ne)
 have key:∀ {t l s:Int},1≤t→1≤s→t * s < l→t≤l:=fun {t l s} h1 h2 h3=>by
  have:t * 1≤t * s:=Int.mul_le_mul_of_nonneg_left h2 (by lia)
  lia
 cases s with
 | overs a t =>
  obtain ⟨_,_,_,h4,h5,h6⟩:=n
  have:=key h4 h5 h6
  show t.natAbs≤10 ^ 30
  have hw:r.ls.getD a 0≤r.size:=hw
  lia
 | unders a t =>
  obtain ⟨_,_,_,h4,h5,h6⟩:=n
  have:=key h4 h5 h6
  show t.natAbs≤10 ^ 30
  have hw:r.ls.getD a 0≤r.size:=hw
  lia
 | home a=>show (1:Int).natAbs≤10 ^ 30;decide
 | even a b=>show (1:Int).natAbs≤10 ^ 30;decide
 | over a b=>show (1:Int).natAbs≤10 ^ 30;decide
 | under a b=>show (1:Int).natAbs≤10 ^ 30;decide
theorem NextP.losers_nd {r:Rst} (h:r.Ok) {s:Stp}:(s.losers r).Nodup:=by
 cases s with
 | home a=>exact List.nodup_nil
 | even a b=>exact (by simp:[b].Nodup)
 | over a b=>exact (by simp:[b].Nodup)
 | under a b=>exact (by simp:[b].Nodup)
 | overs a t=>exact List.Sublist.nodup (List.drop_sublist _ _) h.rowB.nd
 | unders a t=>exact List.Sublist.nodup (List.drop_sublist _ _) h.row.nd
end Rl
namespace Rl
theorem Jd (ls:List Int) {a:Nat} (v:Int):∀ {row:List Nat},a ∉ row→lenOf (ls.set a v) row=lenOf ls row
 | [],_=>rfl
 | b :: row,h=>by
  have h1:a≠b:=fun e=>h (e ▸ List.mem_cons_self ..)
  rw [Jg,Jg,Jd ls v (row:=row) fun q=>h (List.mem_cons_of_mem _ q)]
  rw [List.getD_eq_getElem?_getD,List.getD_eq_getElem?_getD,List.getElem?_set_ne h1]
theorem J30 (ls:List Int) {a:Nat} (v:Int) (ha:a < ls.length):∀ {row:List Nat},row.Nodup→a∈row→lenOf (ls.set a v) row=lenOf ls row - ls.getD a 0 + v
 | b :: row,nd,h=>by
  rw [List.nodup_cons] at nd
  rw [Jg,Jg]
  by_cases e:a=b
  ·subst e
   rw [Jd ls v nd.1,Jt _ _ _ _ ha,if_pos rfl]
   lia
  ·have h2:a∈row:=(List.mem_cons.mp h).resolve_left e
   rw [J30 ls v ha nd.2 h2,Jt _ _ _ _ ha,if_neg (fun q=>e q.symm)]
   lia
theorem J3c {ls:List Int} {row:List Nat} (nd:row.Nodup) {a:Nat} (ha:a∈row):lenOf ls (J8 row a) + ls.getD a 0=lenOf ls row:=by
 rw [← J29 (J20 nd ha),Jg]
 lia
theorem J44 (row:List Nat) (a:Nat):a ∉ J8 row a:=fun h=>(mem_without.mp h).2 rfl
def madeS (ls:List Int) (los:List Nat) (t:Int) (row:List Nat):Int:=(row.map fun j=>if j∈los then ls.getD j 0 * (1 + t) else ls.getD j 0).sum
theorem madeS_cons (ls:List Int) (los:List Nat) (t:Int) (j:Nat) (row:List Nat):madeS ls los t (j :: row)=(if j∈los then ls.getD j 0 * (1 + t) else ls.getD j 0) + madeS ls los t row:=by
 unfold madeS;rw [List.map_cons,List.sum_cons]
theorem madeS_eq (ls:List Int) (los:List Nat) (t:Int):∀ row:List Nat,madeS ls los t row=lenOf ls row + t * lenOf ls (row.filter fun j=>decide (j∈los))
 | []=>by unfold madeS;simp [J1i]
 | j :: row=>by
  rw [madeS_cons,Jg,madeS_eq ls los t row,List.filter_cons]
  by_cases c:j∈los
  ·rw [if_pos c,if_pos (decide_eq_true c),Jg,Int.mul_add,Int.mul_add,Int.mul_one,Int.mul_comm (ls.getD j 0) t]
   lia
  ·rw [if_neg c,if_neg (by simpa using c)]
   lia
theorem J49 {row los:List Nat} (nd:row.Nodup) (nl:los.Nodup) (hs:∀ j∈los,j∈row):(row.filter fun j=>decide (j∈los)).Perm los:=by
 refine (List.perm_ext_iff_of_nodup (nd.filter _) nl).mpr fun j=>?_
 rw [List.mem_filter,decide_eq_true_iff]
 exact ⟨fun q=>q.2,fun q=>⟨hs j q,q⟩⟩
def Stp.isHome:Stp→Bool
 | .home _=>true | _=>false
def Stp.drops:Stp→Bool
 | .home _=>true | .even _ _=>true | _=>false
theorem J10 {row:List Nat} (nd:row.Nodup) {a:Nat} (ha:a∈row):a ∉ J3 row a:=fun h=>by
 unfold J3 at h
 obtain ⟨i,hi,e⟩:=List.getElem_of_mem h
 rw [List.getElem_drop] at e
 have h1:row.idxOf a < row.length:=List.idxOf_lt_length_iff.mpr ha
 have h2:row[row.idxOf a]=a:=List.getElem_idxOf h1
 have h3:=(List.getElem_inj nd).mp (e.trans h2.symm)
 lia
structure Down (r:Rst) (s:Stp):Prop where
 size:(s.behind r).size + s.times * lenOf r.ls (s.losers r) + (if s.isHome=true then r.ls.getD s.winner 0 else 0)=r.size
 less:(s.behind r).size < r.size
 made:madeS (s.behind r).ls (s.losers r) s.times (s.behind r).top=(s.behind r).size + s.times * lenOf r.ls (s.losers r)
 sub:∀ j∈(s.behind r).top,j∈r.top
 len:(s.behind r).top.length + (if s.drops=true then 1 else 0)=r.top.length
theorem J2i {r l:Rst} {los:List Nat} {t:Int} {a:Nat} {v:Int} (nd:l.top.Nodup) (nl:los.Nodup) (hs:∀ j∈los,j∈l.top) (hl:l.ls=r.ls.set a v) (ha:a ∉ los) :
  madeS l.ls los t l.top=l.size + t * lenOf r.ls los:=by
 rw [madeS_eq,J29 (J49 nd nl hs)]
 rw [hl,Jd _ _ ha,← hl]
 rfl
theorem Rst.Ok.down {r:Rst} (h:r.Ok) (ne:r.top≠[]):Down r (nextN r):=by
 have n:=nextP h ne
 have ok:=h.next ne
 have w:=n.win h ne
 have mT:=h.mT ne
 have mB:=h.mB ne
 have nd:=h.row.nd
 have ndB:=h.rowB.nd
 have nl:=NextP.losers_nd h (s:=nextN r)
 have hlt:=h.row.lt
 have pos:=h.row.pos
 generalize nextN r=s at *
 cases s with
 | home a =>
  have wa:a∈r.top:=w
  have sz:((Stp.home a).behind r).size=lenOf r.ls (J8 r.top a):=Jd _ _ (J44 _ _)
  have e:=J3c (ls:=r.ls) nd wa
  have p:=pos a wa
  have e2:r.size=lenOf r.ls r.top:=rfl
  refine ⟨?_,by lia,?_,fun j hj=>(mem_without.mp hj).1,J33 nd wa⟩
  ·show ((Stp.home a).behind r).size + 1 * lenOf r.ls [] + (if true=true then r.ls.getD a 0 else 0)=r.size
   rw [if_pos rfl,J1i];lia
  ·exact J2i (a:=a) (v:=0) ok.row.nd nl (fun j hj=>nomatch hj) rfl (fun q=>nomatch q)
 | even a b =>
  obtain ⟨n1,n2,n3,n4⟩:=n
  have wa:a∈r.top:=w
  have wb:b∈r.top:=by rw [n2];exact mB
  have sz:((Stp.even a b).behind r).size=lenOf r.ls (J8 r.top a):=Jd _ _ (J44 _ _)
  have e:=J3c (ls:=r.ls) nd wa
  have p:=pos a wa
  have e2:r.size=lenOf r.ls r.top:=rfl
  have eb:lenOf r.ls [b]=r.ls.getD b 0:=by rw [Jg,J1i,Int.add_zero]
  refine ⟨?_,by lia,?_,fun j hj=>(mem_without.mp hj).1,J33 nd wa⟩
  ·show ((Stp.even a b).behind r).size + 1 * lenOf r.ls [b] + (if false=true then r.ls.getD a 0 else 0)=r.size
   rw [if_neg (by decide),eb];lia
  ·refine J2i (a:=a) (v:=0) ok.row.nd nl (fun j hj=>?_) rfl (fun q=>?_)
   ·cases List.mem_singleton.mp hj
    exact mem_without.mpr ⟨wb,fun e=>n3 e.symm⟩
   ·exact n3 (List.mem_singleton.mp q)
 | over a b =>
  obtain ⟨n1,n2,n3,n4⟩:=n
  have wa:a∈r.top:=w
  have wb:b∈r.top:=by rw [n2];exact mB
  have sz:((Stp.over a b).behind r).size=lenOf r.ls r.top - r.ls.getD a 0 + (r.ls.getD a 0 - r.ls.getD b 0):=J30 _ _ (hlt a wa) nd wa
  have p:=pos b wb
  have e2:r.size=lenOf r.ls r.top:=rfl
  have eb:lenOf r.ls [b]=r.ls.getD b 0:=by rw [Jg,J1i,Int.add_zero]
  refine ⟨?_,by lia,?_,fun j hj=>hj,rfl⟩
  ·show ((Stp.over a b).behind r).size + 1 * lenOf r.ls [b] + (if false=true then r.ls.getD a 0 else 0)=r.size
   rw [if_neg (by decide),eb];lia
  ·refine J2i (a:=a) (v:=r.ls.getD a 0 - r.ls.getD b 0) ok.row.nd nl (fun j hj=>?_) rfl (fun q=>?_)
   ·cases List.mem_singleton.mp hj
    exact wb
   ·exact n3 (List.mem_singleton.mp q)
 | under a b =>
  obtain ⟨n1,n2,n3,n4⟩:=n
  have wa:a∈r.top:=w
  have wb:b∈r.top:=by rw [n2];exact mT
  have pp:=J2o nd (w:=a) wb (r.ts.getD a false)
  have sz:((Stp.under a b).behind r).size=lenOf r.ls r.top - r.ls.getD a 0 + (r.ls.getD a 0 - r.ls.getD b 0):=(J29 pp).trans (J30 _ _ (hlt a wa) nd wa)
  have p:=pos b wb
  have e2:r.size=lenOf r.ls r.top:=rfl
  have eb:lenOf r.ls [b]=r.ls.getD b 0:=by rw [Jg,J1i,Int.add_zero]
  refine ⟨?_,by lia,?_,fun j hj=>pp.mem_iff.mp hj,pp.length_eq⟩
  ·show ((Stp.under a b).behind r).size + 1 * lenOf r.ls [b] + (if false=true then r.ls.getD a 0 else 0)=r.size
   rw [if_neg (by decide),eb];lia
  ·refine J2i (a:=a) (v:=r.ls.getD a 0 - r.ls.getD b 0) ok.row.nd nl (fun j hj=>?_) rfl (fun q=>?_)
   ·cases List.mem_singleton.mp hj
    exact pp.mem_iff.mpr wb
   ·exact n3 (List.mem_singleton.mp q)
 | overs a t =>
  obtain ⟨n1,n2,n3,n4,n5,n6⟩:=n
  have wa:a∈r.top:=w
  have wab:a∈r.bot:=h.perm.mem_iff.mpr wa
  have sz:((Stp.overs a t).behind r).size=lenOf r.ls r.top - r.ls.getD a 0 + (r.ls.getD a 0 - t * lenOf r.ls (J3 r.bot a)):=J30 _ _ (hlt a wa) nd wa
  have e2:r.size=lenOf r.ls r.top:=rfl
  have p:1≤t * lenOf r.ls (J3 r.bot a):=by
   have:=Int.mul_le_mul n4 n5 (by decide) (by lia)
   lia
  refine ⟨?_,by lia,?_,fun j hj=>hj,rfl⟩
  ·show ((Stp.overs a t).behind r).size + t * lenOf r.ls (J3 r.bot a) + (if false=true then r.ls.getD a 0 else 0)=r.size
   rw [if_neg (by decide)];lia
  ·exact J2i (a:=a) ok.row.nd nl (fun j hj=>h.perm.mem_iff.mp (J1y hj)) rfl (J10 ndB wab)
 | unders a t =>
  obtain ⟨n1,n2,n3,n4,n5,n6⟩:=n
  have wa:a∈r.top:=w
  have sz:((Stp.unders a t).behind r).size=lenOf r.ls r.top - r.ls.getD a 0 + (r.ls.getD a 0 - t * lenOf r.ls (J3 r.top a)):=J30 _ _ (hlt a wa) nd wa
  have e2:r.size=lenOf r.ls r.top:=rfl
  have p:1≤t * lenOf r.ls (J3 r.top a):=by
   have:=Int.mul_le_mul n4 n5 (by decide) (by lia)
   lia
  refine ⟨?_,by lia,?_,fun j hj=>hj,rfl⟩
  ·show ((Stp.unders a t).behind r).size + t * lenOf r.ls (J3 r.top a) + (if false=true then r.ls.getD a 0 else 0)=r.size
   rw [if_neg (by decide)];lia
  ·exact J2i (a:=a) ok.row.nd nl (fun j hj=>J1y hj) rfl (J10 nd wa)
end Rl
namespace Rl
def fS (f:Nat→Int) (row:List Nat):Int:=(row.map f).sum
theorem fS_nil (f:Nat→Int):fS f []=0:=rfl
theorem J2n (f:Nat→Int) (j:Nat) (row:List Nat):fS f (j :: row)=f j + fS f row:=by unfold fS;rw [List.map_cons,List.sum_cons]
theorem fS_perm {f:Nat→Int} {xs ys:List Nat} (h:xs.Perm ys):fS f xs=fS f ys:=J5x (h.map _)
theorem J69 {f g:Nat→Int}:∀ {row:List Nat},(∀ j∈row,f j=g j)→fS f row=fS g row
 | [],_=>rfl
 | j :: row,h=>by
  rw [J2n,J2n,h j List.mem_cons_self,J69 fun i hi=>h i (List.mem_cons_of_mem _ hi)]
theorem fS_add (f g:Nat→Int):∀ row:List Nat,fS (fun j=>f j + g j) row=fS f row + fS g row
 | []=>rfl
 | j :: row=>by
  rw [J2n,J2n,J2n,fS_add f g row]
  lia
theorem J5e {f:Nat→Int} {row:List Nat} (nd:row.Nodup) {a:Nat} (ha:a∈row):fS f (J8 row a) + f a=fS f row:=by
 rw [← fS_perm (J20 nd ha),J2n]
 lia
theorem fS_if (c:Int) (f:Nat→Int) (los:List Nat):∀ row:List Nat,fS (fun j=>if j∈los then c * f j else 0) row=c * fS f (row.filter fun j=>decide (j∈los))
 | []=>by simp [fS_nil]
 | j :: row=>by
  rw [J2n,fS_if c f los row,List.filter_cons]
  by_cases q:j∈los
  ·rw [if_pos q,if_pos (decide_eq_true q),J2n,Int.mul_add]
  ·rw [if_neg q,if_neg (by simpa using q)]
   lia
theorem fS_nonneg {f:Nat→Int}:∀ {row:List Nat},(∀ j∈row,0≤f j)→0≤fS f row
 | [],_=>Int.le_refl _
 | j :: row,h=>by
  rw [J2n]
  have:=h j List.mem_cons_self
  have:=fS_nonneg fun i hi=>h i (List.mem_cons_of_mem _ hi)
  lia
theorem fS_mem {f:Nat→Int}:∀ {row:List Nat},(∀ j∈row,0≤f j)→∀ {j:Nat},j∈row→f j≤fS f row
 | a :: row,h,j,hj=>by
  rw [J2n]
  have h1:=h a List.mem_cons_self
  have h2:=fS_nonneg fun i hi=>h i (List.mem_cons_of_mem _ hi)
  rcases List.mem_cons.mp hj with rfl | hj
  ·lia
  ·have:=fS_mem (fun i hi=>h i (List.mem_cons_of_mem _ hi)) hj
   lia
def towB (s:Stp) (r:Rst) (T:List Int):List Int:=(List.range T.length).map fun j=>if j∈(s.behind r).top then (if j∈s.losers r then T.getD j 0 + T.getD s.winner 0 * s.times else T.getD j 0) else 0
theorem towB_len (s:Stp) (r:Rst) (T:List Int):(towB s r T).length=T.length:=by unfold towB;rw [List.length_map,List.length_range]
theorem towB_get (s:Stp) (r:Rst) (T:List Int) {j:Nat} (h:j < T.length):(towB s r T).getD j 0=if j∈(s.behind r).top then (if j∈s.losers r then T.getD j 0 + T.getD s.winner 0 * s.times else T.getD j 0) else 0:=by
 unfold towB
 rw [List.getD_eq_getElem?_getD,List.getElem?_map,List.getElem?_range h];rfl
def wS (ls T:List Int) (row:List Nat):Int:=fS (fun j=>ls.getD j 0 * T.getD j 0) row
theorem stays_aux {r l:Rst} {los:List Nat} {t v:Int} {a:Nat} {T T':List Int} (nd:r.top.Nodup) (wa:a∈r.top) (ha:a < r.ls.length) (nl:los.Nodup) (hs:∀ j∈los,j∈l.top) (al:a ∉ los) (hl:l.ls=r.ls.set a v) (ndl:l.top.Nodup)
  (hT:∀ j∈l.top,T'.getD j 0=T.getD j 0 + (if j∈los then T.getD a 0 * t else 0)) (htop:l.top.Perm r.top∨(l.top.Perm (J8 r.top a)∧v=0)) :
  wS l.ls T' l.top=wS r.ls T r.top - r.ls.getD a 0 * T.getD a 0 + v * T.getD a 0 + T.getD a 0 * t * lenOf r.ls los:=by
 have e1:wS l.ls T' l.top=wS l.ls T l.top + T.getD a 0 * t * lenOf r.ls los:=by
  have c:wS l.ls T' l.top=fS (fun j=>l.ls.getD j 0 * T.getD j 0 + (if j∈los then (T.getD a 0 * t) * l.ls.getD j 0 else 0)) l.top:=J69 fun j hj=>by
   rw [hT j hj,Int.mul_add]
   by_cases q:j∈los
   ·rw [if_pos q,if_pos q,Int.mul_comm (l.ls.getD j 0) (T.getD a 0 * t)]
   ·rw [if_neg q,if_neg q,Int.mul_zero]
  rw [c,fS_add,fS_if]
  have e:fS (fun j=>l.ls.getD j 0) (l.top.filter fun j=>decide (j∈los))=lenOf r.ls los:=by
   rw [fS_perm (J49 ndl nl hs)]
   show lenOf l.ls los=_
   rw [hl,Jd _ _ al]
  rw [e];rfl
 have ca:l.ls.getD a 0=v:=by rw [hl,Jt _ _ _ _ ha,if_pos rfl]
 have cw:fS (fun j=>l.ls.getD j 0 * T.getD j 0) (J8 r.top a)=fS (fun j=>r.ls.getD j 0 * T.getD j 0) (J8 r.top a):=J69 fun j hj=>by
  have q:=(mem_without.mp hj).2
  show l.ls.getD j 0 * _=_
  rw [hl,Jt _ _ _ _ ha,if_neg q]
 have full:=J5e (f:=fun j=>r.ls.getD j 0 * T.getD j 0) nd wa
 have e2:wS l.ls T l.top=wS r.ls T r.top - r.ls.getD a 0 * T.getD a 0 + v * T.getD a 0:=by
  rcases htop with p | ⟨p,rfl⟩
  ·have e:=J5e (f:=fun j=>l.ls.getD j 0 * T.getD j 0) nd wa
   unfold wS
   rw [fS_perm p,← e,cw]
   simp only [ca] at *
   lia
  ·unfold wS
   rw [fS_perm p,cw]
   simp only [Int.zero_mul] at *
   lia
 rw [e1,e2]
theorem J4p {r:Rst} (h:r.Ok) (ne:r.top≠[]):if (nextN r).drops=true then ((nextN r).behind r).top=J8 r.top (nextN r).winner else ((nextN r).behind r).top.Perm r.top:=by
 refine J1j h ne (p:=fun s=>if s.drops=true then (s.behind r).top=J8 r.top s.winner else (s.behind r).top.Perm r.top) (fun _=>?_) (fun _ _=>?_) (fun _ _ _=>?_) (fun _ _ _=>?_) (fun t _ _ _ _ _ _ _ _=>?_) (fun t _ _ _ _ _ _ _ _=>?_)
 ·show J8 r.top (lastT r)=J8 r.top (lastT r);rfl
 ·show J8 r.top (lastT r)=J8 r.top (lastT r);rfl
 ·show List.Perm r.top r.top;exact List.Perm.refl _
 ·show List.Perm (putR r.top (lastB r) (lastT r) (r.ts.getD (lastB r) false)) r.top;exact J2o h.row.nd (h.mT ne) _
 ·show List.Perm r.top r.top;exact List.Perm.refl _
 ·show List.Perm r.top r.top;exact List.Perm.refl _
structure LosP (r:Rst) (s:Stp):Prop where
 sub:∀ j∈s.losers r,j∈(s.behind r).top
 no:s.winner ∉ s.losers r
 one:1≤s.times
 tl:s.isHome=false→r.ls.getD s.winner 0 - s.times * lenOf r.ls (s.losers r)=(s.behind r).ls.getD s.winner 0
 ls:(s.behind r).ls=r.ls.set s.winner ((s.behind r).ls.getD s.winner 0)
 zero:s.drops=true→(s.behind r).ls.getD s.winner 0=0
theorem nextL {r:Rst} (h:r.Ok) (ne:r.top≠[]):LosP r (nextN r):=by
 have n:=nextP h ne
 have w:=n.win h ne
 have mT:=h.mT ne
 have mB:=h.mB ne
 have nd:=h.row.nd
 have ndB:=h.rowB.nd
 have hlt:=h.row.lt
 generalize nextN r=s at *
 have sg:∀ (v:Int),(r.ls.set s.winner v).getD s.winner 0=v:=fun v=>by rw [Jt _ _ _ _ (hlt _ w),if_pos rfl]
 have one1:∀ b,lenOf r.ls [b]=r.ls.getD b 0:=fun b=>by rw [Jg,J1i,Int.add_zero]
 cases s with
 | home a =>
  have sg:∀ (v:Int),(r.ls.set a v).getD a 0=v:=sg
  refine ⟨fun j hj=>(nomatch hj),fun q=>(nomatch q),Int.le_refl _,fun q=>(nomatch q),?_,fun _=>sg 0⟩
  show r.ls.set a 0=r.ls.set a ((r.ls.set a 0).getD a 0)
  rw [sg]
 | even a b =>
  obtain ⟨n1,n2,n3,n4⟩:=n
  have sg:∀ (v:Int),(r.ls.set a v).getD a 0=v:=sg
  have wb:b∈r.top:=by rw [n2];exact mB
  refine ⟨fun j hj=>?_,fun q=>n3 (List.mem_singleton.mp q),Int.le_refl _,fun _=>?_,?_,fun _=>sg 0⟩
  ·cases List.mem_singleton.mp hj
   exact mem_without.mpr ⟨wb,fun e=>n3 e.symm⟩
  ·show r.ls.getD a 0 - 1 * lenOf r.ls [b]=(r.ls.set a 0).getD a 0
   rw [sg,one1];lia
  ·show r.ls.set a 0=r.ls.set a ((r.ls.set a 0).getD a 0)
   rw [sg]
 | over a b =>
  obtain ⟨n1,n2,n3,n4⟩:=n
  have sg:∀ (v:Int),(r.ls.set a v).getD a 0=v:=sg
  have wb:b∈r.top:=by rw [n2];exact mB
  refine ⟨fun j hj=>?_,fun q=>n3 (List.mem_singleton.mp q),Int.le_refl _,fun _=>?_,?_,fun q=>nomatch q⟩
  ·cases List.mem_singleton.mp hj
   exact wb
  ·show r.ls.getD a 0 - 1 * lenOf r.ls [b]=(r.ls.set a (r.ls.getD a 0 - r.ls.getD b 0)).getD a 0
   rw [sg,one1];lia
  ·show r.ls.set a _=r.ls.set a ((r.ls.set a (r.ls.getD a 0 - r.ls.getD b 0)).getD a 0)
   rw [sg]
 | under a b =>
  obtain ⟨n1,n2,n3,n4⟩:=n
  have sg:∀ (v:Int),(r.ls.set a v).getD a 0=v:=sg
  have wb:b∈r.top:=by rw [n2];exact mT
  have pp:=J2o nd (w:=a) wb (r.ts.getD a false)
  refine ⟨fun j hj=>?_,fun q=>n3 (List.mem_singleton.mp q),Int.le_refl _,fun _=>?_,?_,fun q=>nomatch q⟩
  ·cases List.mem_singleton.mp hj
   exact pp.mem_iff.mpr wb
  ·show r.ls.getD a 0 - 1 * lenOf r.ls [b]=(r.ls.set a (r.ls.getD a 0 - r.ls.getD b 0)).getD a 0
   rw [sg,one1];lia
  ·show r.ls.set a _=r.ls.set a ((r.ls.set a (r.ls.getD a 0 - r.ls.getD b 0)).getD a 0)
   rw [sg]
 | overs a t =>
  obtain ⟨n1,n2,n3,n4,n5,n6⟩:=n
  have sg:∀ (v:Int),(r.ls.set a v).getD a 0=v:=sg
  have wab:a∈r.bot:=h.perm.mem_iff.mpr w
  refine ⟨fun j hj=>h.perm.mem_iff.mp (J1y hj),J10 ndB wab,n4,fun _=>?_,?_,fun q=>nomatch q⟩
  ·show r.ls.getD a 0 - t * lenOf r.ls (J3 r.bot a)=(r.ls.set a (r.ls.getD a 0 - t * lenOf r.ls (J3 r.bot a))).getD a 0
   rw [sg]
  ·show r.ls.set a _=r.ls.set a ((r.ls.set a (r.ls.getD a 0 - t * lenOf r.ls (J3 r.bot a))).getD a 0)
   rw [sg]
 | unders a t =>
  obtain ⟨n1,n2,n3,n4,n5,n6⟩:=n
  have sg:∀ (v:Int),(r.ls.set a v).getD a 0=v:=sg
  refine ⟨fun j hj=>J1y hj,J10 nd w,n4,fun _=>?_,?_,fun q=>nomatch q⟩
  ·show r.ls.getD a 0 - t * lenOf r.ls (J3 r.top a)=(r.ls.set a (r.ls.getD a 0 - t * lenOf r.ls (J3 r.top a))).getD a 0
   rw [sg]
  ·show r.ls.set a _=r.ls.set a ((r.ls.set a (r.ls.getD a 0 - t * lenOf r.ls (J3 r.top a))).getD a 0)
   rw [sg]
structure Tow (r:Rst) (T:List Int):Prop where
 len:T.length=r.ls.length
 pos:∀ j∈r.top,1≤T.getD j 0
 sum:wS r.ls T r.top≤10 ^ 30
theorem Tow.le {r:Rst} {T:List Int} (h:r.Ok) (t:Tow r T) {j:Nat} (hj:j∈r.top):T.getD j 0≤10 ^ 30:=by
 have h1:r.ls.getD j 0 * T.getD j 0≤wS r.ls T r.top:=fS_mem (f:=fun j=>r.ls.getD j 0 * T.getD j 0) (fun i hi=>Int.mul_nonneg (by have:=h.row.pos i hi;lia) (by have:=t.pos i hi;lia)) hj
 have h2:1 * T.getD j 0≤r.ls.getD j 0 * T.getD j 0:=Int.mul_le_mul_of_nonneg_right (h.row.pos j hj) (by have:=t.pos j hj;lia)
 have:=t.sum
 lia
theorem J3u {r:Rst} (h:r.Ok) (ne:r.top≠[]) {T:List Int} (hT:T.length=r.ls.length) {j:Nat} (hj:j∈((nextN r).behind r).top) :
  (towB (nextN r) r T).getD j 0=T.getD j 0 + (if j∈(nextN r).losers r then T.getD (nextN r).winner 0 * (nextN r).times else 0):=by
 rw [towB_get _ _ _ (by rw [hT];exact h.row.lt j ((h.down ne).sub j hj)),if_pos hj]
 split <;> lia
theorem Rst.Ok.stay {r:Rst} (h:r.Ok) (ne:r.top≠[]) {T:List Int} (hT:T.length=r.ls.length) :
  wS ((nextN r).behind r).ls (towB (nextN r) r T) ((nextN r).behind r).top + (if (nextN r).isHome=true then r.ls.getD (nextN r).winner 0 * T.getD (nextN r).winner 0 else 0)=wS r.ls T r.top:=by
 have n:=nextP h ne
 have w:=n.win h ne
 have L:=nextL h ne
 have okl:=h.next ne
 have nl:=NextP.losers_nd h (s:=nextN r)
 have tp:=J4p h ne
 have tin:=fun j=>@J3u r h ne T hT j
 have e:=stays_aux (T:=T) (T':=towB (nextN r) r T) (t:=(nextN r).times) h.row.nd w (h.row.lt _ w) nl L.sub L.no L.ls okl.row.nd (fun j hj=>tin j hj) (by
  by_cases c:(nextN r).drops=true
  ·rw [if_pos c] at tp
   exact .inr ⟨by rw [tp],L.zero c⟩
  ·rw [if_neg c] at tp
   exact .inl tp)
 rw [e]
 by_cases c:(nextN r).isHome=true
 ·have d:(nextN r).drops=true:=by
   generalize nextN r=s at *
   cases s <;> first | rfl | exact absurd c Bool.false_ne_true
  have l0:lenOf r.ls ((nextN r).losers r)=0:=by
   generalize nextN r=s at *
   cases s <;> first | rfl | exact absurd c Bool.false_ne_true
  rw [if_pos c,L.zero d,l0]
  lia
 ·rw [if_neg c]
  have t:=L.tl (by simpa using c)
  rw [← t,Int.sub_mul,Int.mul_comm (T.getD (nextN r).winner 0) (nextN r).times,Int.mul_assoc,Int.mul_assoc,Int.mul_comm (T.getD (nextN r).winner 0) (lenOf r.ls ((nextN r).losers r))]
  lia
theorem Tow.next {r:Rst} {T:List Int} (h:r.Ok) (ne:r.top≠[]) (t:Tow r T):Tow ((nextN r).behind r) (towB (nextN r) r T):=by
 have L:=nextL h ne
 have w:=(nextP h ne).win h ne
 have pw:=t.pos _ w
 have st:=h.stay ne t.len
 refine ⟨?_,fun j hj=>?_,?_⟩
 ·rw [towB_len,t.len,L.ls,List.length_set]
 ·rw [J3u h ne t.len hj]
  have:=t.pos j ((h.down ne).sub j hj)
  have m:1 * 1≤T.getD (nextN r).winner 0 * (nextN r).times:=Int.mul_le_mul pw L.one (by decide) (by lia)
  split <;> lia
 ·have:=t.sum
  have z:0≤r.ls.getD (nextN r).winner 0 * T.getD (nextN r).winner 0:=Int.mul_nonneg (by have:=h.row.pos _ w;lia) (by lia)
  by_cases c:(nextN r).isHome=true
  ·rw [if_pos c] at st;lia
  ·rw [if_neg c] at st;lia
def lg (x:Int):Nat:=Nat.log2 x.toNat
theorem lg_le {x y:Int} (h1:1≤x) (h:x≤y):lg x≤lg y:=by
 unfold lg
 have hx:x.toNat≠0:=by lia
 have hy:y.toNat≠0:=by lia
 have a:=(Nat.le_log2 hx (k:=x.toNat.log2)).mp (Nat.le_refl _)
 exact (Nat.le_log2 hy).mpr (by lia)
theorem lg_dbl {x y z:Int} (h1:1≤x) (h2:1≤y) (h:lg x≤lg y) (hz:x + y≤z):lg x + 1≤lg z:=by
 unfold lg at *
 have hx:x.toNat≠0:=by lia
 have hy:y.toNat≠0:=by lia
 have hz':z.toNat≠0:=by lia
 have a:=(Nat.le_log2 hx (k:=x.toNat.log2)).mp (Nat.le_refl _)
 have b:=(Nat.le_log2 hy (k:=x.toNat.log2)).mp h
 refine (Nat.le_log2 hz').mpr ?_
 rw [Nat.pow_succ]
 lia
theorem lg_small {x:Int} (h1:1≤x) (h:x≤10 ^ 30):lg x≤99:=by
 unfold lg
 have hx:x.toNat≠0:=by lia
 have:=(Nat.log2_lt hx (k:=100)).mpr (by lia)
 lia
def nS (f:Nat→Nat) (row:List Nat):Nat:=(row.map f).sum
theorem J45 (f:Nat→Nat) (j:Nat) (row:List Nat):nS f (j :: row)=f j + nS f row:=by unfold nS;rw [List.map_cons,List.sum_cons]
theorem nS_perm {f:Nat→Nat} {xs ys:List Nat} (h:xs.Perm ys):nS f xs=nS f ys:=by
 unfold nS
 induction h with
 | nil=>rfl
 | cons x _ ih=>rw [List.map_cons,List.map_cons,List.sum_cons,List.sum_cons,ih]
 | swap x y l=>simp only [List.map_cons,List.sum_cons];lia
 | trans _ _ ih1 ih2=>exact ih1.trans ih2
theorem nS_le {f g:Nat→Nat}:∀ {row:List Nat},(∀ j∈row,f j≤g j)→nS f row≤nS g row
 | [],_=>Nat.le_refl _
 | j :: row,h=>by
  rw [J45,J45]
  have:=h j List.mem_cons_self
  have:=nS_le fun i hi=>h i (List.mem_cons_of_mem _ hi)
  lia
theorem nS_lt {f g:Nat→Nat}:∀ {row:List Nat},(∀ j∈row,f j≤g j)→∀ {b:Nat},b∈row→f b < g b→nS f row < nS g row
 | j :: row,h,b,hb,hlt=>by
  rw [J45,J45]
  have h1:=h j List.mem_cons_self
  have h2:=nS_le fun i hi=>h i (List.mem_cons_of_mem _ hi)
  rcases List.mem_cons.mp hb with rfl | hb
  ·lia
  ·have:=nS_lt (fun i hi=>h i (List.mem_cons_of_mem _ hi)) hb hlt
   lia
theorem J58 {f:Nat→Nat} {row:List Nat} (nd:row.Nodup) {a:Nat} (ha:a∈row):nS f (J8 row a) + f a=nS f row:=by
 rw [← nS_perm (J20 nd ha),J45]
 lia
theorem nS_max {f:Nat→Nat} {c:Nat}:∀ {row:List Nat},(∀ j∈row,f j≤c)→nS f row≤row.length * c
 | [],_=>Nat.zero_le _
 | j :: row,h=>by
  rw [J45,List.length_cons,Nat.succ_mul]
  have:=h j List.mem_cons_self
  have:=nS_max fun i hi=>h i (List.mem_cons_of_mem _ hi)
  lia
abbrev fE (T:List Int) (row:List Nat):Nat:=nS (fun j=>100 - lg (T.getD j 0)) row
def need (ls:List Int):Int→List Nat→Nat
 | _,[]=>0
 | x,b :: bs=>if x≤ls.getD b 0 then 1 else 1 + need ls (x - ls.getD b 0) bs
theorem need_len (ls:List Int):∀ (x:Int) (bs:List Nat),need ls x bs≤bs.length
 | _,[]=>Nat.le_refl _
 | x,b :: bs=>by
  unfold need
  have:=need_len ls (x - ls.getD b 0) bs
  rw [List.length_cons]
  split <;> lia
theorem need_app (ls:List Int) (ys:List Nat):∀ (x:Int) (bs:List Nat),1≤x→x≤lenOf ls bs→need ls x (bs ++ ys)=need ls x bs
 | x,[],h1,h2=>by rw [J1i] at h2;lia
 | x,b :: bs,h1,h2=>by
  rw [Jg] at h2
  rw [List.cons_append]
  unfold need
  by_cases c:x≤ls.getD b 0
  ·rw [if_pos c,if_pos c]
  ·rw [if_neg c,if_neg c,need_app ls ys (x - ls.getD b 0) bs (by lia) (by lia)]
theorem J57 {ls ls':List Int}:∀ (x:Int) {bs:List Nat},(∀ j∈bs,ls.getD j 0=ls'.getD j 0)→need ls x bs=need ls' x bs
 | _,[],_=>rfl
 | x,b :: bs,h=>by
  unfold need
  rw [h b List.mem_cons_self,J57 (x - ls'.getD b 0) fun j hj=>h j (List.mem_cons_of_mem _ hj)]
def mu (r:Rst):Stp→Nat
 | .over a _=>if r.ts.getD a false=true then (J3 r.bot a).length else need r.ls (r.ls.getD a 0) (J3 r.bot a).reverse
 | .under a _=>if r.ts.getD a false=true then (J3 r.top a).length else need r.ls (r.ls.getD a 0) (J3 r.top a).reverse
 | .overs _ _=>25
 | .unders _ _=>25
 | _=>0
theorem behind_len (row:List Nat) (a:Nat):(J3 row a).length≤row.length:=by unfold J3;rw [List.length_drop];lia
theorem J3h {ls:List Int} {ts:List Bool} {row:List Nat} {a:Nat} (h:row.length≤24):(if ts.getD a false=true then (J3 row a).length else need ls (ls.getD a 0) (J3 row a).reverse)≤24:=by
 have h1:=behind_len row a
 have h2:=need_len ls (ls.getD a 0) (J3 row a).reverse
 rw [List.length_reverse] at h2
 split <;> lia
theorem Rst.Ok.len24 {r:Rst} (h:r.Ok):r.top.length≤24∧r.bot.length≤24:=⟨Nat.le_trans h.row.len_le h.few,Nat.le_trans h.rowB.len_le h.few⟩
theorem mu_le {r:Rst} (h:r.Ok) (s:Stp):mu r s≤25:=by
 obtain ⟨h1,h2⟩:=h.len24
 cases s with
 | over a b=>exact Nat.le_succ_of_le (J3h h2)
 | under a b=>exact Nat.le_succ_of_le (J3h h1)
 | _=>first | exact Nat.le_refl _ | exact Nat.zero_le _
theorem J3t {s:List Nat} {a:Nat} (t:List Nat) (h:a ∉ s):J3 (s ++ a :: t) a=t:=by
 unfold J3
 rw [J5c t h,show s ++ a :: t=(s ++ [a]) ++ t by simp,show s.length + 1=(s ++ [a]).length by simp,List.drop_left]
theorem behind_put {row:List Nat} (nd:row.Nodup) {a b:Nat} (ha:a∈row) (hb:row.getD (row.length - 1) 0=b) (hab:a≠b) :
  ∃ q,J3 row a=q ++ [b]∧J3 (putR row a b false) a=b :: q∧J3 (putR row a b true) a=q∧a ∉ q:=by
 have hne:row≠[]:=fun e=>by rw [e] at ha;cases ha
 have e:=J53 hne
 rw [hb] at e
 generalize row.dropLast=d at e
 subst e
 have had:a∈d:=(List.mem_append.mp ha).resolve_right fun q=>hab (List.mem_singleton.mp q)
 obtain ⟨s,t,rfl⟩:=List.append_of_mem had
 have n1:=List.nodup_append.mp nd
 have n2:=List.nodup_append.mp n1.1
 have n3:=List.nodup_cons.mp n2.2.1
 have as:a ∉ s:=fun q=>n2.2.2 a q a List.mem_cons_self rfl
 have bd:b ∉ s ++ a :: t:=fun q=>n1.2.2 b q b (by simp) rfl
 have at_:a ∉ t:=n3.1
 have w1:J8 (s ++ a :: t ++ [b]) b=s ++ a :: t:=by
  rw [J1d,J1h,List.append_nil]
  exact J1c bd
 have t1:(s ++ a :: t).take (s.length + 1)=s ++ [a]:=by
  rw [show s ++ a :: t=(s ++ [a]) ++ t by simp,show s.length + 1=(s ++ [a]).length by simp,List.take_left]
 have t2:(s ++ a :: t).drop (s.length + 1)=t:=by
  rw [show s ++ a :: t=(s ++ [a]) ++ t by simp,show s.length + 1=(s ++ [a]).length by simp,List.drop_left]
 refine ⟨t,?_,?_,?_,at_⟩
 ·rw [show s ++ a :: t ++ [b]=s ++ a :: (t ++ [b]) by simp]
  exact J3t _ as
 ·unfold putR
  rw [w1,J5c t as,if_neg (by decide),t1,t2]
  rw [show s ++ [a] ++ [b] ++ t=s ++ a :: (b :: t) by simp]
  exact J3t _ as
 ·unfold putR
  rw [w1,J5c t as,if_pos rfl,List.take_left,List.drop_left]
  rw [show s ++ [b] ++ a :: t=(s ++ [b]) ++ a :: t by simp]
  refine J3t _ fun q=>?_
  rcases List.mem_append.mp q with q | q
  ·exact as q
  ·exact hab (List.mem_singleton.mp q)
theorem J2e {row:List Nat} {a:Nat} (ha:a∈row) (h:row.getD (row.length - 1) 0≠a):row.getD (row.length - 1) 0∈J3 row a:=by
 have hne:row≠[]:=fun e=>by rw [e] at ha;cases ha
 have h1:row.idxOf a < row.length:=List.idxOf_lt_length_iff.mpr ha
 have h2:row[row.idxOf a]=a:=List.getElem_idxOf h1
 have hl:row.length - 1 < row.length:=by lia
 have e:row.getD (row.length - 1) 0=row[row.length - 1]:=by rw [List.getD_eq_getElem?_getD,List.getElem?_eq_getElem hl];rfl
 rw [e] at h ⊢
 have h3:row.idxOf a≠row.length - 1:=fun q=>h (by simp only [← q];exact h2)
 unfold J3
 refine List.mem_iff_getElem.mpr ⟨row.length - 1 - (row.idxOf a + 1),by rw [List.length_drop];lia,?_⟩
 rw [List.getElem_drop]
 congr 1
 lia
end Rl
namespace Rl
theorem J5a (ls:List Int) (row:List Nat):lenOf ls row.reverse=lenOf ls row:=J29 (List.reverse_perm row)
theorem mu_down {ls:List Int} {ts ts':List Bool} {row:List Nat} {a b:Nat} (nd:row.Nodup) (ha:a∈row) (hb:row.getD (row.length - 1) 0=b) (hab:a≠b) (hal:a < ls.length) (hb0:1≤ls.getD b 0)
  (hgt:ls.getD b 0 < ls.getD a 0) (hc:ts.getD a false=true∨ls.getD a 0≤lenOf ls (J3 row a)) (ht:ts'.getD a false=ts.getD a false) :
  ((if ts'.getD a false=true then (J3 (putR row a b (ts.getD a false)) a).length else need (ls.set a (ls.getD a 0 - ls.getD b 0)) ((ls.set a (ls.getD a 0 - ls.getD b 0)).getD a 0) (J3 (putR row a b (ts.getD a false)) a).reverse) <
  (if ts.getD a false=true then (J3 row a).length else need ls (ls.getD a 0) (J3 row a).reverse))∧
  (ts'.getD a false=false→¬ lenOf (ls.set a (ls.getD a 0 - ls.getD b 0)) (J3 (putR row a b (ts.getD a false)) a) < (ls.set a (ls.getD a 0 - ls.getD b 0)).getD a 0):=by
 obtain ⟨q,q1,q2,q3,q4⟩:=behind_put nd ha hb hab
 have sg:(ls.set a (ls.getD a 0 - ls.getD b 0)).getD a 0=ls.getD a 0 - ls.getD b 0:=by rw [Jt _ _ _ _ hal,if_pos rfl]
 rw [ht,sg]
 by_cases c:ts.getD a false=true
 ·rw [c,if_pos rfl,if_pos rfl,q3,q1]
  exact ⟨by simp,fun e=>nomatch e⟩
 ·have c':ts.getD a false=false:=by simpa using c
  have hS:=hc.resolve_left c
  rw [c',if_neg (by decide),if_neg (by decide),q2,q1]
  rw [q1,Jh,Jg,J1i] at hS
  constructor
  ·rw [List.reverse_cons,List.reverse_append,List.reverse_cons,List.reverse_nil,List.nil_append,List.cons_append,List.nil_append]
   have e1:need ls (ls.getD a 0) (b :: q.reverse)=1 + need ls (ls.getD a 0 - ls.getD b 0) q.reverse:=by
    rw [need,if_neg (by lia)]
   have e2:need (ls.set a (ls.getD a 0 - ls.getD b 0)) (ls.getD a 0 - ls.getD b 0) (q.reverse ++ [b])=need ls (ls.getD a 0 - ls.getD b 0) (q.reverse ++ [b]):=J57 _ fun j hj=>by
    have:j≠a:=fun e=>by
     subst e
     rcases List.mem_append.mp hj with x | x
     ·exact q4 (List.mem_reverse.mp x)
     ·exact hab (List.mem_singleton.mp x)
    rw [Jt _ _ _ _ hal,if_neg this]
   rw [e1,e2,need_app _ _ _ _ (by lia) (by rw [J5a];lia)]
   lia
  ·intro _
   rw [Jd _ _ (fun x=>by
    rcases List.mem_cons.mp x with x | x
    ·exact hab x
    ·exact q4 x),Jg]
   lia
theorem J51 {x S t:Int} (hS:1≤S) (ht:t=(x - 1) / S):x - t * S≤S:=by
 subst ht
 have h1:=Int.emod_lt_of_pos (x - 1) (show 0 < S by lia)
 have h2:=Int.mul_ediv_add_emod (x - 1) S
 rw [Int.mul_comm] at h2
 lia
theorem run_down {r:Rst} (h:r.Ok) (ne:r.top≠[]):(nextN r).drops=false→(nextN ((nextN r).behind r)).drops=false→
  ((nextN ((nextN r).behind r)).winner=(nextN r).winner∧mu ((nextN r).behind r) (nextN ((nextN r).behind r)) < mu r (nextN r))∨(nextN r).winner∈(nextN ((nextN r).behind r)).losers ((nextN r).behind r):=by
 have okl:=h.next ne
 have tp:=J4p h ne
 have mT:=h.mT ne
 have mB:=h.mB ne
 have mTb:=h.perm.mem_iff.mpr mT
 have mBb:=h.perm.mem_iff.mpr mB
 have nd:=h.row.nd
 have ndB:=h.rowB.nd
 have hlt:=h.row.lt
 revert okl tp
 refine J1j h ne (p:=fun s=>(s.behind r).Ok→(if s.drops=true then (s.behind r).top=J8 r.top s.winner else (s.behind r).top.Perm r.top)→s.drops=false→(nextN (s.behind r)).drops=false→
  ((nextN (s.behind r)).winner=s.winner∧mu (s.behind r) (nextN (s.behind r)) < mu r s)∨s.winner∈(nextN (s.behind r)).losers (s.behind r))
  (fun _ _ _ e=>nomatch e) (fun _ _ _ _ e=>nomatch e) ?_ ?_ ?_ ?_
 ·intro c1 c2 c3 okl tp _
  have tp:List.Perm ((Stp.over (lastT r) (lastB r)).behind r).top r.top:=tp
  have nel:((Stp.over (lastT r) (lastB r)).behind r).top≠[]:=fun e=>ne (by rw [e] at tp;exact tp.symm.eq_nil)
  have et:(J21 r (lastT r) (lastB r)).getD (lastT r) false=r.ts.getD (lastT r) false:=by
   unfold J21;rw [J1l _ _ _ _ (by rw [h.len];exact hlt _ mB),if_neg c1]
  have md:=mu_down (ts':=J21 r (lastT r) (lastB r)) ndB mTb rfl c1 (hlt _ mT) (h.row.pos _ mB) c2 c3 et
  refine J1j okl nel (p:=fun s'=>s'.drops=false→(s'.winner=lastT r∧mu ((Stp.over (lastT r) (lastB r)).behind r) s' < mu r (.over (lastT r) (lastB r)))∨lastT r∈s'.losers ((Stp.over (lastT r) (lastB r)).behind r))
   (fun _ e=>nomatch e) (fun _ _ e=>nomatch e) ?_ ?_ ?_ ?_
  ·intro d1 d2 d3 _
   exact .inl ⟨rfl,md.1⟩
  ·intro d1 d2 d3 _
   exact .inr (List.mem_singleton.mpr rfl)
  ·intro t d1 d2 d3 d4 d5 d6 _ _ _
   exact absurd d6 (md.2 d3)
  ·intro t d1 d2 d3 d4 d5 d6 _ _ _
   exact .inr (J2e (okl.mB nel) d1)
 ·intro c1 c2 c3 okl tp _
  have tp:List.Perm ((Stp.under (lastB r) (lastT r)).behind r).top r.top:=tp
  have nel:((Stp.under (lastB r) (lastT r)).behind r).top≠[]:=fun e=>ne (by rw [e] at tp;exact tp.symm.eq_nil)
  have et:(J21 r (lastB r) (lastT r)).getD (lastB r) false=r.ts.getD (lastB r) false:=by
   unfold J21;rw [J1l _ _ _ _ (by rw [h.len];exact hlt _ mT),if_neg (fun e=>c1 e.symm)]
  have md:=mu_down (ts':=J21 r (lastB r) (lastT r)) nd mB rfl (fun e=>c1 e.symm) (hlt _ mB) (h.row.pos _ mT) c2 c3 et
  refine J1j okl nel (p:=fun s'=>s'.drops=false→(s'.winner=lastB r∧mu ((Stp.under (lastB r) (lastT r)).behind r) s' < mu r (.under (lastB r) (lastT r)))∨lastB r∈s'.losers ((Stp.under (lastB r) (lastT r)).behind r))
   (fun _ e=>nomatch e) (fun _ _ e=>nomatch e) ?_ ?_ ?_ ?_
  ·intro d1 d2 d3 _
   exact .inr (List.mem_singleton.mpr rfl)
  ·intro d1 d2 d3 _
   exact .inl ⟨rfl,md.1⟩
  ·intro t d1 d2 d3 d4 d5 d6 _ _ _
   exact .inr (J2e (okl.perm.mem_iff.mpr (okl.mT nel)) (fun e=>d1 e.symm))
  ·intro t d1 d2 d3 d4 d5 d6 _ _ _
   exact absurd d6 (md.2 d3)
 ·intro t c1 c2 c3 c4 c5 c6 c7 c8 okl tp _
  have tp:List.Perm ((Stp.overs (lastT r) t).behind r).top r.top:=tp
  have nel:((Stp.overs (lastT r) t).behind r).top≠[]:=fun e=>ne (by rw [e] at tp;exact tp.symm.eq_nil)
  have hx:=J51 c5 c7
  have sg:((Stp.overs (lastT r) t).behind r).ls.getD (lastT r) 0=r.ls.getD (lastT r) 0 - t * lenOf r.ls (J3 r.bot (lastT r)):=by
   show (r.ls.set (lastT r) _).getD (lastT r) 0=_
   rw [Jt _ _ _ _ (hlt _ mT),if_pos rfl]
  have so:lenOf ((Stp.overs (lastT r) t).behind r).ls (J3 r.bot (lastT r))=lenOf r.ls (J3 r.bot (lastT r)):=Jd _ _ (J10 ndB mTb)
  refine J1j okl nel (p:=fun s'=>s'.drops=false→(s'.winner=lastT r∧mu ((Stp.overs (lastT r) t).behind r) s' < mu r (.overs (lastT r) t))∨lastT r∈s'.losers ((Stp.overs (lastT r) t).behind r))
   (fun _ e=>nomatch e) (fun _ _ e=>nomatch e) ?_ ?_ ?_ ?_
  ·intro d1 d2 d3 _
   refine .inl ⟨rfl,Nat.lt_succ_of_le ?_⟩
   exact J3h (ls:=((Stp.overs (lastT r) t).behind r).ls) (ts:=r.ts) (a:=lastT r) h.len24.2
  ·intro d1 d2 d3 _
   exact .inr (List.mem_singleton.mpr rfl)
  ·intro t' d1 d2 d3 d4 d5 d6 _ _ _
   have d6:lenOf ((Stp.overs (lastT r) t).behind r).ls (J3 r.bot (lastT r)) < ((Stp.overs (lastT r) t).behind r).ls.getD (lastT r) 0:=d6
   rw [so,sg] at d6
   lia
  ·intro t' d1 d2 d3 d4 d5 d6 _ _ _
   exact .inr (J2e (okl.mB nel) d1)
 ·intro t c1 c2 c3 c4 c5 c6 c7 c8 okl tp _
  have tp:List.Perm ((Stp.unders (lastB r) t).behind r).top r.top:=tp
  have nel:((Stp.unders (lastB r) t).behind r).top≠[]:=fun e=>ne (by rw [e] at tp;exact tp.symm.eq_nil)
  have hx:=J51 c5 c7
  have sg:((Stp.unders (lastB r) t).behind r).ls.getD (lastB r) 0=r.ls.getD (lastB r) 0 - t * lenOf r.ls (J3 r.top (lastB r)):=by
   show (r.ls.set (lastB r) _).getD (lastB r) 0=_
   rw [Jt _ _ _ _ (hlt _ mB),if_pos rfl]
  have so:lenOf ((Stp.unders (lastB r) t).behind r).ls (J3 r.top (lastB r))=lenOf r.ls (J3 r.top (lastB r)):=Jd _ _ (J10 nd mB)
  refine J1j okl nel (p:=fun s'=>s'.drops=false→(s'.winner=lastB r∧mu ((Stp.unders (lastB r) t).behind r) s' < mu r (.unders (lastB r) t))∨lastB r∈s'.losers ((Stp.unders (lastB r) t).behind r))
   (fun _ e=>nomatch e) (fun _ _ e=>nomatch e) ?_ ?_ ?_ ?_
  ·intro d1 d2 d3 _
   exact .inr (List.mem_singleton.mpr rfl)
  ·intro d1 d2 d3 _
   refine .inl ⟨rfl,Nat.lt_succ_of_le ?_⟩
   exact J3h (ls:=((Stp.unders (lastB r) t).behind r).ls) (ts:=r.ts) (a:=lastB r) h.len24.1
  ·intro t' d1 d2 d3 d4 d5 d6 _ _ _
   exact .inr (J2e (okl.perm.mem_iff.mpr (okl.mT nel)) (fun e=>d1 e.symm))
  ·intro t' d1 d2 d3 d4 d5 d6 _ _ _
   have d6:lenOf ((Stp.unders (lastB r) t).behind r).ls (J3 r.top (lastB r)) < ((Stp.unders (lastB r) t).behind r).ls.getD (lastB r) 0:=d6
   rw [so,sg] at d6
   lia
def Up (r:Rst) (T:List Int) (s:Stp):Prop:=s.drops=true∨∃ b∈s.losers r,lg (T.getD b 0)≤lg (T.getD s.winner 0)
open Classical in
noncomputable def pot (r:Rst) (T:List Int):Nat :=
 if r.top=[] then 0 else (fE T r.top * 102 + (if Up r T (nextN r) then 0 else lg (T.getD (nextN r).winner 0) + 1)) * 26 + (if Up r T (nextN r) then 0 else mu r (nextN r))
theorem Tow.lg99 {r:Rst} {T:List Int} (h:r.Ok) (t:Tow r T) {j:Nat} (hj:j∈r.top):lg (T.getD j 0)≤99:=lg_small (t.pos j hj) (t.le h hj)
theorem pot_le {r:Rst} {T:List Int} (h:r.Ok) (t:Tow r T):pot r T≤6367451:=by
 unfold pot
 by_cases c:r.top=[]
 ·rw [if_pos c];lia
 rw [if_neg c]
 have h1:fE T r.top≤r.top.length * 100:=nS_max fun j _=>by lia
 have h2:=h.len24.1
 have h3:=t.lg99 h ((nextP h c).win h c)
 have h4:=mu_le h (nextN r)
 split <;> lia
theorem up_lt {r:Rst} {T:List Int} (h:r.Ok) (ne:r.top≠[]) (t:Tow r T):fE (towB (nextN r) r T) ((nextN r).behind r).top≤fE T r.top∧(Up r T (nextN r)→fE (towB (nextN r) r T) ((nextN r).behind r).top < fE T r.top):=by
 have L:=nextL h ne
 have w:=(nextP h ne).win h ne
 have pw:=t.pos _ w
 have tp:=J4p h ne
 have okl:=h.next ne
 have tl:=t.next h ne
 have sub:=(h.down ne).sub
 have one:T.getD (nextN r).winner 0≤T.getD (nextN r).winner 0 * (nextN r).times:=by
  have:T.getD (nextN r).winner 0 * 1≤T.getD (nextN r).winner 0 * (nextN r).times:=Int.mul_le_mul_of_nonneg_left L.one (by lia)
  lia
 have le:∀ j∈((nextN r).behind r).top,T.getD j 0≤(towB (nextN r) r T).getD j 0:=fun j hj=>by
  rw [J3u h ne t.len hj];split <;> lia
 have mono:∀ j∈((nextN r).behind r).top,100 - lg ((towB (nextN r) r T).getD j 0)≤100 - lg (T.getD j 0):=fun j hj=>by
  have:=lg_le (t.pos j (sub j hj)) (le j hj)
  lia
 have m:=nS_le (f:=fun j=>100 - lg ((towB (nextN r) r T).getD j 0)) (g:=fun j=>100 - lg (T.getD j 0)) mono
 by_cases c:(nextN r).drops=true
 ·rw [if_pos c] at tp
  have e:=J58 (f:=fun j=>100 - lg (T.getD j 0)) h.row.nd w
  have g:=t.lg99 h w
  rw [← tp] at e
  have:fE (towB (nextN r) r T) ((nextN r).behind r).top < fE T r.top:=by
   show nS _ _ < nS _ _
   rw [← e]
   lia
  exact ⟨Nat.le_of_lt this,fun _=>this⟩
 ·rw [if_neg c] at tp
  have e:fE T ((nextN r).behind r).top=fE T r.top:=nS_perm tp
  refine ⟨by rw [← e];exact m,fun u=>?_⟩
  rcases u with u | ⟨b,hb,hg⟩
  ·exact absurd u c
  rw [← e]
  have bl:=L.sub b hb
  refine nS_lt mono bl ?_
  have e2:=J3u h ne t.len bl
  rw [if_pos hb] at e2
  have d:=lg_dbl (z:=(towB (nextN r) r T).getD b 0) (t.pos b (sub b bl)) pw hg (by lia)
  have g:=tl.lg99 okl bl
  lia
theorem pot_lt {r:Rst} {T:List Int} (h:r.Ok) (ne:r.top≠[]) (t:Tow r T):pot ((nextN r).behind r) (towB (nextN r) r T) < pot r T:=by
 obtain ⟨f1,f2⟩:=up_lt h ne t
 have okl:=h.next ne
 have tl:=t.next h ne
 have L:=nextL h ne
 have w:=(nextP h ne).win h ne
 unfold pot
 rw [if_neg ne]
 have fpos:1≤fE T r.top:=by
  have e:=J58 (f:=fun j=>100 - lg (T.getD j 0)) h.row.nd w
  have g:=t.lg99 h w
  show 1≤nS _ _
  rw [← e]
  lia
 by_cases c:((nextN r).behind r).top=[]
 ·rw [if_pos c];lia
 rw [if_neg c]
 have w':=(nextP okl c).win okl c
 have g':=tl.lg99 okl w'
 have m':=mu_le okl (nextN ((nextN r).behind r))
 by_cases u:Up r T (nextN r)
 ·rw [if_pos u,if_pos u]
  have:=f2 u
  split <;> lia
 rw [if_neg u,if_neg u]
 by_cases u':Up ((nextN r).behind r) (towB (nextN r) r T) (nextN ((nextN r).behind r))
 ·rw [if_pos u',if_pos u']
  lia
 rw [if_neg u',if_neg u']
 have d1:(nextN r).drops=false:=by
  cases q:(nextN r).drops
  ·rfl
  ·exact absurd (.inl q) u
 have d2:(nextN ((nextN r).behind r)).drops=false:=by
  cases q:(nextN ((nextN r).behind r)).drops
  ·rfl
  ·exact absurd (.inl q) u'
 have tp:=J4p h ne
 rw [if_neg (by rw [d1];decide)] at tp
 have wl:(nextN r).winner∈((nextN r).behind r).top:=tp.mem_iff.mpr w
 have ew:(towB (nextN r) r T).getD (nextN r).winner 0=T.getD (nextN r).winner 0:=by
  rw [J3u h ne t.len wl,if_neg L.no];lia
 rcases run_down h ne d1 d2 with ⟨e,m⟩ | q
 ·rw [e,ew]
  lia
 ·have hg:¬ lg ((towB (nextN r) r T).getD (nextN r).winner 0)≤lg ((towB (nextN r) r T).getD (nextN ((nextN r).behind r)).winner 0):=fun x=>u' (.inr ⟨_,q,x⟩)
  rw [ew] at hg
  lia
abbrev Cst:=Rst × List Int
def chS (p:Cst):Cst:=((nextN p.1).behind p.1,towB (nextN p.1) p.1 p.2)
def chN (p:Cst):Nat→Cst
 | 0=>p
 | k + 1=>chS (chN p k)
abbrev Band:=Int × Int × Int × Bool
def Long (p:Cst) (k:Nat):Prop:=∀ i < k,(chN p i).1.top≠[]
structure Cok (p:Cst):Prop where
 ok:p.1.Ok
 tow:Tow p.1 p.2
theorem Cok.next {p:Cst} (h:Cok p) (ne:p.1.top≠[]):Cok (chS p):=⟨h.ok.next ne,h.tow.next h.ok ne⟩
theorem Cok.at_ {p:Cst} (h:Cok p):∀ {k:Nat},Long p k→Cok (chN p k)
 | 0,_=>h
 | k + 1,l=>(h.at_ fun i hi=>l i (by lia)).next (l k (by lia))
theorem Cok.short {p:Cst} (h:Cok p):∀ {k:Nat},Long p k→k + pot (chN p k).1 (chN p k).2≤pot p.1 p.2
 | 0,_=>by rw [Nat.zero_add];exact Nat.le_refl _
 | k + 1,l=>by
  have h1:=h.short (k:=k) fun i hi=>l i (by lia)
  have c:=h.at_ (k:=k) fun i hi=>l i (by lia)
  have h2:pot (chS (chN p k)).1 (chS (chN p k)).2 < _:=pot_lt c.ok (l k (by lia)) c.tow
  show k + 1 + pot (chS (chN p k)).1 (chS (chN p k)).2≤_
  lia
theorem Cok.few {p:Cst} (h:Cok p) {k:Nat} (l:Long p k):k≤6367451:=by
 have h1:=h.short l
 have h2:=pot_le h.ok h.tow
 lia
end Rl
namespace Rl
def posR (ls:List Int) (row:List Nat) (j:Nat):Int:=lenOf ls (row.take (row.idxOf j))
theorem J1r (ls:List Int) (j:Nat) (ys:List Nat):posR ls (j :: ys) j=0:=by
 unfold posR;rw [List.idxOf_cons_self];rfl
theorem Ji (ls:List Int) {i j:Nat} (h:i≠j) (ys:List Nat):posR ls (i :: ys) j=ls.getD i 0 + posR ls ys j:=by
 unfold posR
 have hx:(i == j)=false:=by simpa using h
 rw [List.idxOf_cons,hx]
 show lenOf ls ((i :: ys).take (ys.idxOf j + 1))=_
 rw [List.take_succ_cons,Jg]
theorem Jl (ls:List Int) {xs:List Nat} {j:Nat} (ys:List Nat) (h:j ∉ xs):posR ls (xs ++ ys) j=lenOf ls xs + posR ls ys j:=by
 induction xs with
 | nil=>rw [List.nil_append,J1i,Int.zero_add]
 | cons a r ih =>
  rw [List.cons_append,Ji _ (fun e=>h (by rw [e];exact List.mem_cons_self)),ih fun q=>h (List.mem_cons_of_mem _ q),Jg]
  lia
theorem Ju (ls:List Int) {xs:List Nat} {j:Nat} (ys:List Nat) (h:j∈xs):posR ls (xs ++ ys) j=posR ls xs j:=by
 induction xs with
 | nil=>cases h
 | cons a r ih =>
  by_cases e:a=j
  ·subst e;rw [List.cons_append,J1r,J1r]
  ·rw [List.cons_append,Ji _ e,Ji _ e,ih ((List.mem_cons.mp h).resolve_left fun q=>e q.symm)]
theorem Js (ls:List Int) {xs:List Nat} {j:Nat} (ys:List Nat) (h:j ∉ xs):posR ls (xs ++ j :: ys) j=lenOf ls xs:=by
 rw [Jl _ _ h,J1r,Int.add_zero]
theorem J43 {ls:List Int} {row:List Nat} (h:∀ j∈row,0≤ls.getD j 0) (j:Nat):0≤posR ls row j:=J22 fun i hi=>h i (List.mem_of_mem_take hi)
theorem posR_le {ls:List Int} {row:List Nat} (h:∀ j∈row,0≤ls.getD j 0) {j:Nat} (hj:j∈row):posR ls row j + ls.getD j 0≤lenOf ls row:=by
 obtain ⟨s,t,rfl,hs⟩:∃ s t,row=s ++ j :: t∧j ∉ s:=by
  induction row with
  | nil=>cases hj
  | cons a r ih =>
   by_cases e:a=j
   ·exact ⟨[],r,by rw [e];rfl,by simp⟩
   ·obtain ⟨s,t,e1,e2⟩:=ih (fun j hj=>h j (List.mem_cons_of_mem _ hj)) ((List.mem_cons.mp hj).resolve_left fun q=>e q.symm)
    exact ⟨a :: s,t,by rw [e1];rfl,fun q=>(List.mem_cons.mp q).elim (fun q=>e q.symm) e2⟩
 rw [Js _ _ hs,Jh,Jg]
 have:=J22 (ls:=ls) (os:=t) fun i hi=>h i (List.mem_append_right _ (List.mem_cons_of_mem _ hi))
 lia
theorem J5o {row:List Nat} {j:Nat} (hj:j∈row):∃ s t,row=s ++ j :: t∧j ∉ s:=by
 induction row with
 | nil=>cases hj
 | cons a r ih =>
  by_cases e:a=j
  ·exact ⟨[],r,by rw [e];rfl,by simp⟩
  ·obtain ⟨s,t,e1,e2⟩:=ih ((List.mem_cons.mp hj).resolve_left fun q=>e q.symm)
   exact ⟨a :: s,t,by rw [e1];rfl,fun q=>(List.mem_cons.mp q).elim (fun q=>e q.symm) e2⟩
theorem J4k (ls:List Int) {row:List Nat} (nd:row.Nodup) {i:Nat} (hi:i < row.length):posR ls row (row.getD i 0)=Jb ls row i:=by
 have e:row.idxOf (row.getD i 0)=i:=by
  have h1:row.getD i 0=row[i]:=by rw [List.getD_eq_getElem?_getD,List.getElem?_eq_getElem hi];rfl
  have h2:row.idxOf (row.getD i 0) < row.length:=List.idxOf_lt_length_iff.mpr (J19 hi)
  have h3:row[row.idxOf (row.getD i 0)]=row.getD i 0:=List.getElem_idxOf h2
  exact (List.getElem_inj nd).mp (h3.trans h1)
 unfold posR
 rw [e,J1m ls row i (by lia)];rfl
def LetAt (r:Rst) (y:Int) (j:Nat) (o:Int):Prop:=j∈r.top∧0≤o∧o < r.ls.getD j 0∧y=posR r.ls r.top j + o
def offT (r:Rst) (j:Nat) (o:Int):Int:=if r.ts.getD j false=true then r.ls.getD j 0 - 1 - o else o
theorem LetAt.off {r:Rst} {y o:Int} {j:Nat} (h:LetAt r y j o):0≤offT r j o∧offT r j o < r.ls.getD j 0:=by
 obtain ⟨_,h1,h2,_⟩:=h
 unfold offT;split <;> lia
theorem LetAt.of_at {r:Rst} (h:r.Ok) {y:Int} {i:Nat} (a:AtR r.ls r.top y i):LetAt r y (r.top.getD i 0) (y - Jb r.ls r.top i):=by
 obtain ⟨a1,a2,a3⟩:=a
 rw [Jm] at a3
 exact ⟨J19 a1,by lia,by lia,by rw [J4k _ h.row.nd a1];lia⟩
theorem LetAt.at_ {r:Rst} (h:r.Ok) {y o:Int} {j:Nat} (a:LetAt r y j o):∃ i,AtR r.ls r.top y i∧r.top.getD i 0=j∧y - Jb r.ls r.top i=o:=by
 obtain ⟨hj,h1,h2,rfl⟩:=a
 obtain ⟨i,hi,rfl⟩:=mem_at hj
 rw [J4k _ h.row.nd hi]
 refine ⟨i,⟨hi,by lia,by rw [Jm];lia⟩,rfl,by lia⟩
theorem LetAt.inside {r:Rst} (h:r.Ok) {y o:Int} {j:Nat} (a:LetAt r y j o):0≤y∧y < r.size:=by
 obtain ⟨i,a1,_⟩:=a.at_ h
 exact h.row.inside a1
theorem goes_iff {r:Rst} (h:r.Ok) {y z:Int}:J3z r y z↔∃ j o,LetAt r y j o∧z=posR r.ls r.bot j + offT r j o:=by
 have key:∀ j,j∈r.top→(firsts r.ls r.bot).getD j 0=posR r.ls r.bot j:=fun j hj=>by
  obtain ⟨k,hk,rfl⟩:=mem_at (h.perm.mem_iff.mpr hj)
  rw [h.rowB.first hk,J4k _ h.rowB.nd hk]
 constructor
 ·rintro ⟨i,hi,rfl⟩
  refine ⟨_,_,LetAt.of_at h hi,?_⟩
  unfold moveN offT
  rw [key _ (J19 hi.1)]
  split <;> lia
 ·rintro ⟨j,o,a,rfl⟩
  obtain ⟨i,a1,rfl,rfl⟩:=a.at_ h
  refine ⟨i,a1,?_⟩
  unfold moveN offT
  rw [key _ (J19 a1.1)]
  split <;> lia
open Classical in
noncomputable def go (r:Rst) (y:Int):Int:=if h:∃ z,J3z r y z then Classical.choose h else y
theorem go_of {r:Rst} (h:r.Ok) {y z:Int} (g:J3z r y z):go r y=z:=by
 unfold go
 rw [dif_pos ⟨z,g⟩]
 exact h.fun_ (Classical.choose_spec ⟨z,g⟩) g
theorem go_at {r:Rst} (h:r.Ok) {y o:Int} {j:Nat} (a:LetAt r y j o):go r y=posR r.ls r.bot j + offT r j o:=go_of h ((goes_iff h).mpr ⟨j,o,a,rfl⟩)
def Walk (r:Rst) (lo y:Int):List Nat→Int→Prop
 | [],z=>False
 | [j],z=>(∃ o,LetAt r y j o)∧go r y=z
 | j :: j' :: js,z=>(∃ o,LetAt r y j o)∧lo≤go r y∧Walk r lo (go r y) (j' :: js) z
theorem Walk.one {r:Rst} {lo y z o:Int} {j:Nat} (a:LetAt r y j o) (e:go r y=z):Walk r lo y [j] z:=⟨⟨o,a⟩,e⟩
theorem Walk.more {r:Rst} {lo y z o:Int} {j:Nat} {js:List Nat} (a:LetAt r y j o) (e:lo≤go r y) (h:Walk r lo (go r y) js z):Walk r lo y (j :: js) z:=by
 cases js with
 | nil=>exact h.elim
 | cons j' js=>exact ⟨⟨o,a⟩,e,h⟩
theorem J5v {row X Y:List Nat} {w l:Nat} (e:row=X ++ w :: (Y ++ [l])) (nd:row.Nodup) (ahead:Bool):putR row w l ahead=X ++ (if ahead=true then l :: w :: Y else w :: l :: Y):=by
 subst e
 have e1:X ++ w :: (Y ++ [l])=(X ++ w :: Y) ++ [l]:=by simp
 rw [e1] at nd ⊢
 have n1:=List.nodup_append.mp nd
 have n2:=List.nodup_append.mp n1.1
 have wX:w ∉ X:=fun q=>n2.2.2 w q w List.mem_cons_self rfl
 have ld:l ∉ X ++ w :: Y:=fun q=>n1.2.2 l q l (by simp) rfl
 have w1:J8 (X ++ w :: Y ++ [l]) l=X ++ w :: Y:=by
  rw [J1d,J1h,List.append_nil]
  exact J1c ld
 unfold putR
 rw [w1,J5c Y wX]
 have t1:(X ++ w :: Y).take (X.length + 1)=X ++ [w]:=by
  rw [show X ++ w :: Y=(X ++ [w]) ++ Y by simp,show X.length + 1=(X ++ [w]).length by simp,List.take_left]
 have t2:(X ++ w :: Y).drop (X.length + 1)=Y:=by
  rw [show X ++ w :: Y=(X ++ [w]) ++ Y by simp,show X.length + 1=(X ++ [w]).length by simp,List.drop_left]
 cases ahead with
 | true=>rw [if_pos rfl,if_pos rfl,List.take_left,List.drop_left];simp
 | false=>rw [if_neg (by decide),if_neg (by decide),t1,t2];simp
theorem J4b {X Y:List Nat} {w:Nat} (h:w ∉ X):J3 (X ++ w :: Y) w=Y:=by
 unfold J3
 rw [J5c Y h,show X ++ w :: Y=(X ++ [w]) ++ Y by simp,show X.length + 1=(X ++ [w]).length by simp,List.drop_left]
theorem J1u {row:List Nat} (ne:row≠[]):∃ D,row=D ++ [row.getD (row.length - 1) 0]:=⟨_,J53 ne⟩
theorem J63 {row:List Nat} (ne:row≠[]) {a:Nat} (ha:a∈row) (hl:row.getD (row.length - 1) 0≠a):∃ X Y,row=X ++ a :: (Y ++ [row.getD (row.length - 1) 0])∧a ∉ X:=by
 obtain ⟨D,e⟩:=J1u ne
 generalize row.getD (row.length - 1) 0=b at *
 subst e
 have had:a∈D:=(List.mem_append.mp ha).resolve_right fun q=>hl (List.mem_singleton.mp q).symm
 obtain ⟨X,Y,rfl,hX⟩:=J5o had
 exact ⟨X,Y,by simp,hX⟩
end Rl
namespace Rl
theorem Jk (ls:List Int) {a:Nat} (v:Int) {row:List Nat} (h:a ∉ row) (j:Nat):posR (ls.set a v) row j=posR ls row j:=Jd _ _ fun q=>h (List.mem_of_mem_take q)
theorem J1q (ls:List Int) {a:Nat} (v:Int) {T:List Nat} (h:a ∉ T) {j:Nat} (hj:j∈T ++ [a]):posR (ls.set a v) (T ++ [a]) j=posR ls (T ++ [a]) j:=by
 by_cases c:j∈T
 ·rw [Ju _ _ c,Ju _ _ c,Jk _ _ h]
 ·obtain rfl:j=a:=by simpa [c] using hj
  rw [Js _ _ c,Js _ _ c,Jd _ _ c]
def LoseP (r l:Rst) (y:Int) (j:Nat):Stp→Prop
 | .home _=>False
 | .even w _=>(∃ o',LetAt r y j o')∧l.size≤go r y∧(∃ o',LetAt r (go r y) w o')∧go r (go r y)=go l y
 | .over w _=>(∃ o',LetAt r y j o')∧l.size≤go r y∧(∃ o',LetAt r (go r y) w o')∧go r (go r y)=go l y
 | .under w _=>(∃ o',LetAt r y w o')∧l.size≤go r y∧(∃ o',LetAt r (go r y) j o')∧go r (go r y)=go l y
 | .overs w t=>(∃ o',LetAt r y j o')∧(∀ k:Int,0≤k→k < t→l.size≤go r y - k * lenOf r.ls (J3 r.bot w)∧(∃ o',LetAt r (go r y - k * lenOf r.ls (J3 r.bot w)) w o')∧
   go r (go r y - k * lenOf r.ls (J3 r.bot w))=go r y - k * lenOf r.ls (J3 r.bot w) - lenOf r.ls (J3 r.bot w))∧go r y - t * lenOf r.ls (J3 r.bot w)=go l y
 | .unders w t=>(∀ k:Int,0≤k→k < t→(∃ o',LetAt r (y + k * lenOf r.ls (J3 r.top w)) w o')∧go r (y + k * lenOf r.ls (J3 r.top w))=y + k * lenOf r.ls (J3 r.top w) + lenOf r.ls (J3 r.top w)∧
   l.size≤y + k * lenOf r.ls (J3 r.top w) + lenOf r.ls (J3 r.top w))∧(∃ o',LetAt r (y + t * lenOf r.ls (J3 r.top w)) j o')∧go r (y + t * lenOf r.ls (J3 r.top w))=go l y
structure RetOf (r:Rst) (s:Stp):Prop where
 plain:∀ y j o,LetAt (s.behind r) y j o→j ∉ s.losers r→(∃ o',LetAt r y j o')∧go r y=go (s.behind r) y
 lose:∀ y j o,LetAt (s.behind r) y j o→j∈s.losers r→LoseP r (s.behind r) y j s
theorem J2l {T:List Nat} {a:Nat} (h:(T ++ [a]).Nodup):a ∉ T:=fun q=>(List.nodup_append.mp h).2.2 a q a (by simp) rfl
theorem nd_mid {X Y:List Nat} {a:Nat} (h:(X ++ a :: Y).Nodup):a ∉ X∧a ∉ Y∧∀ j∈X,j ∉ Y:=by
 have n:=List.nodup_append.mp h
 have n2:=List.nodup_cons.mp n.2.1
 exact ⟨fun q=>n.2.2 a q a List.mem_cons_self rfl,n2.1,fun j hj q=>n.2.2 j hj j (List.mem_cons_of_mem _ q) rfl⟩
theorem J18 (ls:List Int) (a:Nat):lenOf ls [a]=ls.getD a 0:=by rw [Jg,J1i,Int.add_zero]
theorem ret_home {r:Rst} (h:r.Ok) (ne:r.top≠[]) {a:Nat} (n:NextP r (.home a)) (okl:((Stp.home a).behind r).Ok):RetOf r (.home a):=by
 obtain ⟨n1,n2⟩:=n
 have neb:r.bot≠[]:=fun e=>ne (by have:=h.perm;rw [e] at this;exact this.symm.eq_nil)
 obtain ⟨T,eT⟩:=J1u ne
 obtain ⟨B,eB⟩:=J1u neb
 have eT:r.top=T ++ [a]:=by rw [n1];exact eT
 have eB:r.bot=B ++ [a]:=by rw [n2];exact eB
 have aT:=J2l (eT ▸ h.row.nd)
 have aB:=J2l (eB ▸ h.rowB.nd)
 have la:=h.row.lt a (by rw [eT];simp)
 refine ⟨fun y j o A hj=>?_,fun y j o A hj=>nomatch hj⟩
 have lt:((Stp.home a).behind r).top=T:=by show J8 r.top a=T;rw [eT,J1d,J1h,List.append_nil,J1c aT]
 have lb:((Stp.home a).behind r).bot=B:=by show J8 r.bot a=B;rw [eB,J1d,J1h,List.append_nil,J1c aB]
 have g:=go_at okl A
 obtain ⟨A1,A2,A3,A4⟩:=A
 rw [lt] at A1 A4
 have ja:j≠a:=fun e=>aT (e ▸ A1)
 have e1:((Stp.home a).behind r).ls.getD j 0=r.ls.getD j 0:=by show (r.ls.set a 0).getD j 0=_;rw [Jt _ _ _ _ la,if_neg ja]
 have e2:((Stp.home a).behind r).ts.getD j false=r.ts.getD j false:=by show (r.ts.set a false).getD j false=_;rw [J1l _ _ _ _ (by rw [h.len];exact la),if_neg ja]
 have jB:j∈B:=by
  have:j∈r.bot:=h.perm.mem_iff.mpr (by rw [eT];exact List.mem_append_left _ A1)
  rw [eB] at this
  exact (List.mem_append.mp this).resolve_right fun q=>ja (List.mem_singleton.mp q)
 have A':LetAt r y j o:=by
  refine ⟨by rw [eT];exact List.mem_append_left _ A1,A2,by rw [← e1];exact A3,?_⟩
  rw [A4,eT,Ju _ _ A1]
  show posR (r.ls.set a 0) T j + o=_
  rw [Jk _ _ aT]
 refine ⟨⟨o,A'⟩,?_⟩
 rw [go_at h A',g,lb,eB,Ju _ _ jB]
 show _=posR (r.ls.set a 0) B j + _
 rw [Jk _ _ aB]
 unfold offT
 rw [e1,e2]
theorem ret_even {r:Rst} (h:r.Ok) (ne:r.top≠[]) {a b:Nat} (n:NextP r (.even a b)) (okl:((Stp.even a b).behind r).Ok):RetOf r (.even a b):=by
 obtain ⟨n1,n2,n3,n4⟩:=n
 have neb:r.bot≠[]:=fun e=>ne (by have:=h.perm;rw [e] at this;exact this.symm.eq_nil)
 obtain ⟨T,eT⟩:=J1u ne
 have eT:r.top=T ++ [a]:=by rw [n1];exact eT
 have aIn:a∈r.top:=by rw [eT];simp
 obtain ⟨X,Y,eB,aX⟩:=J63 neb (h.perm.mem_iff.mpr aIn) (fun e=>n3 (by rw [n2];exact e.symm))
 have eB:r.bot=X ++ a :: (Y ++ [b]):=by rw [n2];exact eB
 have bIn:b∈r.top:=h.perm.mem_iff.mp (by rw [eB];simp)
 have aT:=J2l (eT ▸ h.row.nd)
 have ndB:(X ++ a :: (Y ++ [b])).Nodup:=eB ▸ h.rowB.nd
 obtain ⟨_,aY0,XY⟩:=nd_mid ndB
 have aY:a ∉ Y:=fun q=>aY0 (List.mem_append_left _ q)
 have bX:b ∉ X:=fun q=>XY b q (by simp)
 have bY:b ∉ Y:=J2l (List.nodup_cons.mp (List.nodup_append.mp ndB).2.1).2
 have la:=h.row.lt a aIn
 have lb':=h.row.lt b bIn
 have pb:=h.row.pos b bIn
 have lt:((Stp.even a b).behind r).top=T:=by show J8 r.top a=T;rw [eT,J1d,J1h,List.append_nil,J1c aT]
 have lb:((Stp.even a b).behind r).bot=X ++ b :: Y:=by
  show J8 (putR r.bot a b false) a=_
  rw [J5v eB h.rowB.nd,if_neg (by decide),show X ++ a :: b :: Y=X ++ ([a] ++ ([b] ++ Y)) by simp,J1d,J1d,J1d,J1h,J1c aX,J1c aY,J1c (xs:=[b]) (by simpa using n3)]
  simp
 have e1:∀ j,j≠a→((Stp.even a b).behind r).ls.getD j 0=r.ls.getD j 0:=fun j ja=>by show (r.ls.set a 0).getD j 0=_;rw [Jt _ _ _ _ la,if_neg ja]
 have e2:∀ j,j≠a→((Stp.even a b).behind r).ts.getD j false=if j=b then (r.ts.getD a false != r.ts.getD b false) else r.ts.getD j false:=fun j ja=>by
  show ((J21 r a b).set a false).getD j false=_
  rw [J1l _ _ _ _ (by rw [J1v,h.len];exact la),if_neg ja]
  unfold J21
  rw [J1l _ _ _ _ (by rw [h.len];exact lb')]
 have sz:r.size=lenOf r.ls T + r.ls.getD a 0:=by show lenOf r.ls r.top=_;rw [eT,Jh,J18]
 have szl:((Stp.even a b).behind r).size=lenOf r.ls T:=by show lenOf (r.ls.set a 0) ((Stp.even a b).behind r).top=_;rw [lt,Jd _ _ aT]
 have szB:r.size=lenOf r.ls X + r.ls.getD a 0 + lenOf r.ls Y + r.ls.getD b 0:=by rw [← h.sizeB,eB,Jh,Jg,Jh,J18];lia
 have pBb:posR r.ls r.bot b=lenOf r.ls X + r.ls.getD a 0 + lenOf r.ls Y:=by
  rw [eB,Jl _ _ bX,Ji _ n3,Js _ _ bY];lia
 have pBa:posR r.ls r.bot a=lenOf r.ls X:=by rw [eB,Js _ _ aX]
 have up:∀ {y o:Int} {j:Nat},LetAt ((Stp.even a b).behind r) y j o→j≠a∧j∈T∧LetAt r y j o:=fun {y o j} A=>by
  obtain ⟨A1,A2,A3,A4⟩:=A
  rw [lt] at A1 A4
  have ja:j≠a:=fun e=>aT (e ▸ A1)
  refine ⟨ja,A1,by rw [eT];exact List.mem_append_left _ A1,A2,by rw [← e1 j ja];exact A3,?_⟩
  rw [A4,eT,Ju _ _ A1]
  show posR (r.ls.set a 0) T j + o=_
  rw [Jk _ _ aT]
 have lX:lenOf ((Stp.even a b).behind r).ls X=lenOf r.ls X:=Jd _ _ aX
 refine ⟨fun y j o A hj=>?_,fun y j o A hj=>?_⟩
 ·have jb:j≠b:=fun e=>hj (List.mem_singleton.mpr e)
  have g:=go_at okl A
  obtain ⟨ja,jT,A'⟩:=up A
  refine ⟨⟨o,A'⟩,?_⟩
  have eo:offT ((Stp.even a b).behind r) j o=offT r j o:=by unfold offT;rw [e1 j ja,e2 j ja,if_neg jb]
  rw [go_at h A',g,lb,eB,eo]
  have jB:j∈X ++ a :: (Y ++ [b]):=by rw [← eB];exact h.perm.mem_iff.mpr A'.1
  congr 1
  by_cases c:j∈X
  ·rw [Ju _ _ c,Ju _ _ c]
   show _=posR (r.ls.set a 0) X j
   rw [Jk _ _ aX]
  ·have jY:j∈Y:=by simpa [c,ja,jb] using jB
   rw [Jl _ _ c,Jl _ _ c,Ji _ (Ne.symm ja),Ji _ (Ne.symm jb),Ju _ _ jY,lX,e1 b (Ne.symm n3)]
   show _=_ + (_ + posR (r.ls.set a 0) Y j)
   rw [Jk _ _ aY]
   lia
 ·cases List.mem_singleton.mp hj
  have g:=go_at okl A
  obtain ⟨ja,jT,A'⟩:=up A
  have g':=go_at h A'
  have of:=A'.off
  have m:LetAt r (go r y) a (offT r b o):=⟨aIn,of.1,by lia,by rw [g',pBb,eT,Js _ _ aT];lia⟩
  have g2:=go_at h m
  refine ⟨⟨o,A'⟩,by rw [szl,g',pBb];lia,⟨_,m⟩,?_⟩
  rw [g2,g,lb,pBa,Js _ _ bX,lX]
  congr 1
  unfold offT
  rw [e1 b ja,e2 b ja,if_pos rfl,n4]
  cases r.ts.getD a false <;> cases r.ts.getD b false <;> simp <;> lia
theorem ret_over {r:Rst} (h:r.Ok) (ne:r.top≠[]) {a b:Nat} (n:NextP r (.over a b)) (okl:((Stp.over a b).behind r).Ok):RetOf r (.over a b):=by
 obtain ⟨n1,n2,n3,n4⟩:=n
 have neb:r.bot≠[]:=fun e=>ne (by have:=h.perm;rw [e] at this;exact this.symm.eq_nil)
 obtain ⟨T,eT⟩:=J1u ne
 have eT:r.top=T ++ [a]:=by rw [n1];exact eT
 have aIn:a∈r.top:=by rw [eT];simp
 obtain ⟨X,Y,eB,aX⟩:=J63 neb (h.perm.mem_iff.mpr aIn) (fun e=>n3 (by rw [n2];exact e.symm))
 have eB:r.bot=X ++ a :: (Y ++ [b]):=by rw [n2];exact eB
 have bIn:b∈r.top:=h.perm.mem_iff.mp (by rw [eB];simp)
 have aT:=J2l (eT ▸ h.row.nd)
 have ndB:(X ++ a :: (Y ++ [b])).Nodup:=eB ▸ h.rowB.nd
 obtain ⟨_,aY0,XY⟩:=nd_mid ndB
 have aY:a ∉ Y:=fun q=>aY0 (List.mem_append_left _ q)
 have bX:b ∉ X:=fun q=>XY b q (by simp)
 have bY:b ∉ Y:=J2l (List.nodup_cons.mp (List.nodup_append.mp ndB).2.1).2
 have la:=h.row.lt a aIn
 have lb':=h.row.lt b bIn
 have pb:=h.row.pos b bIn
 have lt:((Stp.over a b).behind r).top=T ++ [a]:=eT
 have lb:((Stp.over a b).behind r).bot=X ++ (if r.ts.getD a false=true then b :: a :: Y else a :: b :: Y):=J5v eB h.rowB.nd _
 have e1:∀ j,j≠a→((Stp.over a b).behind r).ls.getD j 0=r.ls.getD j 0:=fun j ja=>by show (r.ls.set a _).getD j 0=_;rw [Jt _ _ _ _ la,if_neg ja]
 have e1a:((Stp.over a b).behind r).ls.getD a 0=r.ls.getD a 0 - r.ls.getD b 0:=by show (r.ls.set a _).getD a 0=_;rw [Jt _ _ _ _ la,if_pos rfl]
 have e2:∀ j,((Stp.over a b).behind r).ts.getD j false=if j=b then (r.ts.getD a false != r.ts.getD b false) else r.ts.getD j false:=fun j=>by
  show (J21 r a b).getD j false=_
  unfold J21
  rw [J1l _ _ _ _ (by rw [h.len];exact lb')]
 have sz:r.size=lenOf r.ls T + r.ls.getD a 0:=by show lenOf r.ls r.top=_;rw [eT,Jh,J18]
 have szl:((Stp.over a b).behind r).size=lenOf r.ls T + r.ls.getD a 0 - r.ls.getD b 0:=by
  show lenOf ((Stp.over a b).behind r).ls ((Stp.over a b).behind r).top=_
  rw [lt,Jh,J18,e1a,show lenOf ((Stp.over a b).behind r).ls T=lenOf r.ls T from Jd _ _ aT];lia
 have szB:r.size=lenOf r.ls X + r.ls.getD a 0 + lenOf r.ls Y + r.ls.getD b 0:=by rw [← h.sizeB,eB,Jh,Jg,Jh,J18];lia
 have pBb:posR r.ls r.bot b=lenOf r.ls X + r.ls.getD a 0 + lenOf r.ls Y:=by
  rw [eB,Jl _ _ bX,Ji _ n3,Js _ _ bY];lia
 have pBa:posR r.ls r.bot a=lenOf r.ls X:=by rw [eB,Js _ _ aX]
 have up:∀ {y o:Int} {j:Nat},LetAt ((Stp.over a b).behind r) y j o→LetAt r y j o:=fun {y o j} A=>by
  obtain ⟨A1,A2,A3,A4⟩:=A
  rw [lt] at A1 A4
  refine ⟨by rw [eT];exact A1,A2,?_,?_⟩
  ·by_cases ja:j=a
   ·subst ja;rw [e1a] at A3;lia
   ·rw [← e1 j ja];exact A3
  ·rw [A4,eT]
   congr 1
   exact J1q _ _ aT A1
 have lX:lenOf ((Stp.over a b).behind r).ls X=lenOf r.ls X:=Jd _ _ aX
 refine ⟨fun y j o A hj=>?_,fun y j o A hj=>?_⟩
 ·have jb:j≠b:=fun e=>hj (List.mem_singleton.mpr e)
  have g:=go_at okl A
  have A':=up A
  refine ⟨⟨o,A'⟩,?_⟩
  rw [go_at h A',g,lb]
  by_cases ja:j=a
  ·subst ja
   rw [pBa]
   unfold offT
   rw [e1a,e2,if_neg jb]
   by_cases ct:r.ts.getD j false=true
   ·rw [if_pos ct,if_pos ct,if_pos ct,Jl _ _ aX,Ji _ (Ne.symm n3),J1r,lX,e1 b (Ne.symm n3)];lia
   ·rw [if_neg ct,if_neg ct,if_neg ct,Js _ _ aX,lX]
  ·have eo:offT ((Stp.over a b).behind r) j o=offT r j o:=by unfold offT;rw [e1 j ja,e2 j,if_neg jb]
   have jB:j∈X ++ a :: (Y ++ [b]):=by rw [← eB];exact h.perm.mem_iff.mpr A'.1
   rw [eB,eo]
   congr 1
   by_cases c:j∈X
   ·rw [Ju _ _ c,Ju _ _ c]
    show _=posR (r.ls.set a _) X j
    rw [Jk _ _ aX]
   ·have jY:j∈Y:=by simpa [c,ja,jb] using jB
    have pY:posR ((Stp.over a b).behind r).ls Y j=posR r.ls Y j:=Jk _ _ aY _
    rw [Jl _ _ c,Jl _ _ c,Ji _ (Ne.symm ja),Ju _ _ jY,lX]
    split
    ·rw [Ji _ (Ne.symm jb),Ji _ (Ne.symm ja),pY,e1 b (Ne.symm n3),e1a];lia
    ·rw [Ji _ (Ne.symm ja),Ji _ (Ne.symm jb),pY,e1 b (Ne.symm n3),e1a];lia
 ·cases List.mem_singleton.mp hj
  have g:=go_at okl A
  have A':=up A
  have g':=go_at h A'
  have of:=A'.off
  have m:LetAt r (go r y) a (r.ls.getD a 0 - r.ls.getD b 0 + offT r b o):=⟨aIn,by lia,by lia,by rw [g',pBb,eT,Js _ _ aT];lia⟩
  have g2:=go_at h m
  refine ⟨⟨o,A'⟩,by rw [szl,g',pBb];lia,⟨_,m⟩,?_⟩
  have ba:=Ne.symm n3
  rw [g2,g,lb,pBa]
  unfold offT
  rw [e1 b ba,e2 b,if_pos rfl]
  cases ca:r.ts.getD a false <;> cases cb:r.ts.getD b false <;> simp only [Bool.false_eq_true,if_false,if_true,bne_self_eq_false,show (true != false)=true from rfl,show (false != true)=true from rfl]
  ·rw [Jl _ _ bX,Ji _ n3,J1r,lX,e1a];lia
  ·rw [Jl _ _ bX,Ji _ n3,J1r,lX,e1a];lia
  ·rw [Js _ _ bX,lX];lia
  ·rw [Js _ _ bX,lX];lia
theorem ret_under {r:Rst} (h:r.Ok) (ne:r.top≠[]) {a b:Nat} (n:NextP r (.under a b)) (okl:((Stp.under a b).behind r).Ok):RetOf r (.under a b):=by
 obtain ⟨n1,n2,n3,n4⟩:=n
 have neb:r.bot≠[]:=fun e=>ne (by have:=h.perm;rw [e] at this;exact this.symm.eq_nil)
 obtain ⟨B,eB⟩:=J1u neb
 have eB:r.bot=B ++ [a]:=by rw [n1];exact eB
 have aInB:a∈r.bot:=by rw [eB];simp
 have aIn:=h.perm.mem_iff.mp aInB
 obtain ⟨X,Y,eT,aX⟩:=J63 ne aIn (fun e=>n3 (by rw [n2];exact e.symm))
 have eT:r.top=X ++ a :: (Y ++ [b]):=by rw [n2];exact eT
 have bIn:b∈r.top:=by rw [eT];simp
 have aB:=J2l (eB ▸ h.rowB.nd)
 have ndT:(X ++ a :: (Y ++ [b])).Nodup:=eT ▸ h.row.nd
 obtain ⟨_,aY0,XY⟩:=nd_mid ndT
 have aY:a ∉ Y:=fun q=>aY0 (List.mem_append_left _ q)
 have bX:b ∉ X:=fun q=>XY b q (by simp)
 have bY:b ∉ Y:=J2l (List.nodup_cons.mp (List.nodup_append.mp ndT).2.1).2
 have la:=h.row.lt a aIn
 have lb':=h.row.lt b bIn
 have pb:=h.row.pos b bIn
 have lt:((Stp.under a b).behind r).top=X ++ (if r.ts.getD a false=true then b :: a :: Y else a :: b :: Y):=J5v eT h.row.nd _
 have lb:((Stp.under a b).behind r).bot=B ++ [a]:=eB
 have e1:∀ j,j≠a→((Stp.under a b).behind r).ls.getD j 0=r.ls.getD j 0:=fun j ja=>by show (r.ls.set a _).getD j 0=_;rw [Jt _ _ _ _ la,if_neg ja]
 have e1a:((Stp.under a b).behind r).ls.getD a 0=r.ls.getD a 0 - r.ls.getD b 0:=by show (r.ls.set a _).getD a 0=_;rw [Jt _ _ _ _ la,if_pos rfl]
 have e2:∀ j,((Stp.under a b).behind r).ts.getD j false=if j=b then (r.ts.getD a false != r.ts.getD b false) else r.ts.getD j false:=fun j=>by
  show (J21 r a b).getD j false=_
  unfold J21
  rw [J1l _ _ _ _ (by rw [h.len];exact lb')]
 have sz:r.size=lenOf r.ls B + r.ls.getD a 0:=by rw [← h.sizeB,eB,Jh,J18]
 have szl:((Stp.under a b).behind r).size=lenOf r.ls B + r.ls.getD a 0 - r.ls.getD b 0:=by
  rw [← okl.sizeB,lb,Jh,J18,e1a,show lenOf ((Stp.under a b).behind r).ls B=lenOf r.ls B from Jd _ _ aB];lia
 have szT:r.size=lenOf r.ls X + r.ls.getD a 0 + lenOf r.ls Y + r.ls.getD b 0:=by show lenOf r.ls r.top=_;rw [eT,Jh,Jg,Jh,J18];lia
 have pTb:posR r.ls r.top b=lenOf r.ls X + r.ls.getD a 0 + lenOf r.ls Y:=by
  rw [eT,Jl _ _ bX,Ji _ n3,Js _ _ bY];lia
 have pTa:posR r.ls r.top a=lenOf r.ls X:=by rw [eT,Js _ _ aX]
 have pBa:posR r.ls r.bot a=lenOf r.ls B:=by rw [eB,Js _ _ aB]
 have lX:lenOf ((Stp.under a b).behind r).ls X=lenOf r.ls X:=Jd _ _ aX
 have pB:∀ {j},j∈r.top→posR ((Stp.under a b).behind r).ls ((Stp.under a b).behind r).bot j=posR r.ls r.bot j:=fun {j} hj=>by
  have hj:=h.perm.mem_iff.mpr hj
  rw [lb]
  rw [eB] at hj ⊢
  exact J1q _ _ aB hj
 have tp:((Stp.under a b).behind r).top.Perm r.top:=J2o h.row.nd bIn _
 refine ⟨fun y j o A hj=>?_,fun y j o A hj=>?_⟩
 ·have jb:j≠b:=fun e=>hj (List.mem_singleton.mpr e)
  have g:=go_at okl A
  obtain ⟨A1,A2,A3,A4⟩:=A
  have B1:=tp.mem_iff.mp A1
  rw [pB B1] at g
  rw [lt] at A4
  by_cases ja:j=a
  ·subst ja
   rw [e1a] at A3
   unfold offT at g
   rw [e1a,e2,if_neg jb] at g
   by_cases ct:r.ts.getD j false=true
   ·rw [if_pos ct,Jl _ _ aX,Ji _ (Ne.symm n3),J1r,lX,e1 b (Ne.symm n3)] at A4
    have A':LetAt r y j (r.ls.getD b 0 + o):=⟨B1,by lia,by lia,by rw [pTa];lia⟩
    refine ⟨⟨_,A'⟩,?_⟩
    rw [go_at h A',g]
    unfold offT
    rw [if_pos ct,if_pos ct];lia
   ·rw [if_neg ct,Js _ _ aX,lX] at A4
    have A':LetAt r y j o:=⟨B1,by lia,by lia,by rw [pTa];lia⟩
    refine ⟨⟨_,A'⟩,?_⟩
    rw [go_at h A',g]
    unfold offT
    rw [if_neg ct,if_neg ct]
  ·have eo:offT ((Stp.under a b).behind r) j o=offT r j o:=by unfold offT;rw [e1 j ja,e2 j,if_neg jb]
   rw [e1 j ja] at A3
   have A':LetAt r y j o:=by
    refine ⟨B1,A2,A3,?_⟩
    rw [A4]
    congr 1
    have jT:j∈X ++ a :: (Y ++ [b]):=by rw [← eT];exact B1
    rw [eT]
    by_cases c:j∈X
    ·rw [Ju _ _ c,Ju _ _ c]
     show posR (r.ls.set a _) X j=_
     rw [Jk _ _ aX]
    ·have jY:j∈Y:=by simpa [c,ja,jb] using jT
     have pY:posR ((Stp.under a b).behind r).ls Y j=posR r.ls Y j:=Jk _ _ aY _
     rw [Jl _ _ c,Jl _ _ c,Ji _ (Ne.symm ja),Ju _ _ jY,lX]
     split
     ·rw [Ji _ (Ne.symm jb),Ji _ (Ne.symm ja),pY,e1 b (Ne.symm n3),e1a];lia
     ·rw [Ji _ (Ne.symm ja),Ji _ (Ne.symm jb),pY,e1 b (Ne.symm n3),e1a];lia
   refine ⟨⟨_,A'⟩,?_⟩
   rw [go_at h A',g,eo]
 ·cases List.mem_singleton.mp hj
  have ba:=Ne.symm n3
  have g:=go_at okl A
  obtain ⟨A1,A2,A3,A4⟩:=A
  have A1:=tp.mem_iff.mp A1
  rw [pB A1] at g
  rw [lt] at A4
  rw [e1 b ba] at A3
  unfold offT at g
  rw [e1 b ba,e2 b,if_pos rfl] at g
  by_cases ct:r.ts.getD a false=true
  ·rw [if_pos ct,Js _ _ bX,lX] at A4
   have A':LetAt r y a o:=⟨aIn,A2,by lia,by rw [pTa];exact A4⟩
   have g1:=go_at h A'
   unfold offT at g1
   rw [if_pos ct,pBa] at g1
   have m:LetAt r (go r y) b (r.ls.getD b 0 - 1 - o):=⟨bIn,by lia,by lia,by rw [g1,pTb];lia⟩
   refine ⟨⟨_,A'⟩,by rw [szl,g1];lia,⟨_,m⟩,?_⟩
   rw [go_at h m,g,ct]
   unfold offT
   cases r.ts.getD b false <;> simp <;> lia
  ·rw [if_neg ct,Jl _ _ bX,Ji _ n3,J1r,lX,e1a] at A4
   have A':LetAt r y a (r.ls.getD a 0 - r.ls.getD b 0 + o):=⟨aIn,by lia,by lia,by rw [pTa];lia⟩
   have g1:=go_at h A'
   unfold offT at g1
   rw [if_neg ct,pBa] at g1
   have m:LetAt r (go r y) b o:=⟨bIn,A2,A3,by rw [g1,pTb];lia⟩
   refine ⟨⟨_,A'⟩,by rw [szl,g1];lia,⟨_,m⟩,?_⟩
   have cf:r.ts.getD a false=false:=by simpa using ct
   rw [go_at h m,g,cf]
   unfold offT
   cases r.ts.getD b false <;> simp
theorem ret_overs {r:Rst} (h:r.Ok) (ne:r.top≠[]) {a:Nat} {t:Int} (n:NextP r (.overs a t)) (okl:((Stp.overs a t).behind r).Ok):RetOf r (.overs a t):=by
 obtain ⟨n1,n2,n3,n4,n5,n6⟩:=n
 obtain ⟨T,eT⟩:=J1u ne
 have eT:r.top=T ++ [a]:=by rw [n1];exact eT
 have aIn:a∈r.top:=by rw [eT];simp
 obtain ⟨X,Y,eB,aX⟩:=J5o (h.perm.mem_iff.mpr aIn)
 have aT:=J2l (eT ▸ h.row.nd)
 have ndB:(X ++ a :: Y).Nodup:=eB ▸ h.rowB.nd
 obtain ⟨_,aY,XY⟩:=nd_mid ndB
 have eY:J3 r.bot a=Y:=by rw [eB];exact J4b aX
 rw [eY] at n5 n6
 have la:=h.row.lt a aIn
 have lt:((Stp.overs a t).behind r).top=T ++ [a]:=eT
 have lb:((Stp.overs a t).behind r).bot=X ++ a :: Y:=eB
 have e1:∀ j,j≠a→((Stp.overs a t).behind r).ls.getD j 0=r.ls.getD j 0:=fun j ja=>by show (r.ls.set a _).getD j 0=_;rw [Jt _ _ _ _ la,if_neg ja]
 have e1a:((Stp.overs a t).behind r).ls.getD a 0=r.ls.getD a 0 - t * lenOf r.ls Y:=by show (r.ls.set a (_ - t * lenOf r.ls (J3 r.bot a))).getD a 0=_;rw [Jt _ _ _ _ la,if_pos rfl,eY]
 have tS:1≤t * lenOf r.ls Y:=by
  have:=Int.mul_le_mul n4 n5 (by decide) (by lia)
  lia
 have sz:r.size=lenOf r.ls T + r.ls.getD a 0:=by show lenOf r.ls r.top=_;rw [eT,Jh,J18]
 have szl:((Stp.overs a t).behind r).size=lenOf r.ls T + r.ls.getD a 0 - t * lenOf r.ls Y:=by
  show lenOf ((Stp.overs a t).behind r).ls ((Stp.overs a t).behind r).top=_
  rw [lt,Jh,J18,e1a,show lenOf ((Stp.overs a t).behind r).ls T=lenOf r.ls T from Jd _ _ aT];lia
 have szB:r.size=lenOf r.ls X + r.ls.getD a 0 + lenOf r.ls Y:=by rw [← h.sizeB,eB,Jh,Jg];lia
 have pBa:posR r.ls r.bot a=lenOf r.ls X:=by rw [eB,Js _ _ aX]
 have pTa:posR r.ls r.top a=lenOf r.ls T:=by rw [eT,Js _ _ aT]
 have lX:lenOf ((Stp.overs a t).behind r).ls X=lenOf r.ls X:=Jd _ _ aX
 have up:∀ {y o:Int} {j:Nat},LetAt ((Stp.overs a t).behind r) y j o→LetAt r y j o:=fun {y o j} A=>by
  obtain ⟨A1,A2,A3,A4⟩:=A
  rw [lt] at A1 A4
  refine ⟨by rw [eT];exact A1,A2,?_,?_⟩
  ·by_cases ja:j=a
   ·subst ja;rw [e1a] at A3;lia
   ·rw [← e1 j ja];exact A3
  ·rw [A4,eT]
   congr 1
   exact J1q _ _ aT A1
 refine ⟨fun y j o A hj=>?_,fun y j o A hj=>?_⟩
 ·have jY:j ∉ Y:=fun q=>hj (by show j∈J3 r.bot a;rw [eY];exact q)
  have g:=go_at okl A
  have A':=up A
  refine ⟨⟨o,A'⟩,?_⟩
  rw [go_at h A',g,lb]
  by_cases ja:j=a
  ·subst ja
   rw [pBa,Js _ _ aX,lX]
   unfold offT
   rw [show ((Stp.overs j t).behind r).ts=r.ts from rfl,n3,if_neg (by decide),if_neg (by decide)]
  ·have eo:offT ((Stp.overs a t).behind r) j o=offT r j o:=by unfold offT;rw [e1 j ja];rfl
   have jB:j∈X ++ a :: Y:=by rw [← eB];exact h.perm.mem_iff.mpr A'.1
   have c:j∈X:=by simpa [jY,ja] using jB
   rw [eB,eo,Ju _ _ c,Ju _ _ c]
   congr 1
   exact (Jk _ _ aX _).symm
 ·have jY:j∈Y:=by
   have:j∈J3 r.bot a:=hj
   rw [eY] at this;exact this
  have ja:j≠a:=fun e=>aY (e ▸ jY)
  have jX:j ∉ X:=fun q=>XY j q jY
  have g:=go_at okl A
  have A':=up A
  have g':=go_at h A'
  have of:=A'.off
  have p0:=J43 (ls:=r.ls) (row:=Y) (fun i hi=>by have:=h.rowB.pos i (by rw [eB];simp [hi]);lia) j
  have p1:=posR_le (ls:=r.ls) (row:=Y) (fun i hi=>by have:=h.rowB.pos i (by rw [eB];simp [hi]);lia) jY
  have eg:go r y=lenOf r.ls X + r.ls.getD a 0 + posR r.ls Y j + offT r j o:=by rw [g',eB,Jl _ _ jX,Ji _ (Ne.symm ja)];lia
  show (∃ o',LetAt r y j o')∧(∀ k:Int,0≤k→k < t→_)∧_
  rw [eY]
  refine ⟨⟨o,A'⟩,fun k k0 k1=>?_,?_⟩
  ·have m1:k * lenOf r.ls Y + lenOf r.ls Y≤t * lenOf r.ls Y:=by
    have:=Int.mul_le_mul_of_nonneg_right (show k + 1≤t by lia) (show 0≤lenOf r.ls Y by lia)
    rw [Int.add_mul,Int.one_mul] at this
    exact this
   have m0:0≤k * lenOf r.ls Y:=Int.mul_nonneg k0 (by lia)
   have m:LetAt r (go r y - k * lenOf r.ls Y) a (go r y - k * lenOf r.ls Y - lenOf r.ls T):=⟨aIn,by lia,by lia,by rw [pTa];lia⟩
   refine ⟨by rw [szl];lia,⟨_,m⟩,?_⟩
   rw [go_at h m,pBa]
   unfold offT
   rw [n3,if_neg (by decide)]
   lia
  ·rw [g,lb,Jl _ _ jX,Ji _ (Ne.symm ja),lX,e1a]
   have eo:offT ((Stp.overs a t).behind r) j o=offT r j o:=by unfold offT;rw [e1 j ja];rfl
   rw [eo,show posR ((Stp.overs a t).behind r).ls Y j=posR r.ls Y j from Jk _ _ aY _,eg]
   lia
theorem ret_unders {r:Rst} (h:r.Ok) (ne:r.top≠[]) {a:Nat} {t:Int} (n:NextP r (.unders a t)) (okl:((Stp.unders a t).behind r).Ok):RetOf r (.unders a t):=by
 obtain ⟨n1,n2,n3,n4,n5,n6⟩:=n
 have neb:r.bot≠[]:=fun e=>ne (by have:=h.perm;rw [e] at this;exact this.symm.eq_nil)
 obtain ⟨B,eB⟩:=J1u neb
 have eB:r.bot=B ++ [a]:=by rw [n1];exact eB
 have aInB:a∈r.bot:=by rw [eB];simp
 have aIn:=h.perm.mem_iff.mp aInB
 obtain ⟨X,Y,eT,aX⟩:=J5o aIn
 have aB:=J2l (eB ▸ h.rowB.nd)
 have ndT:(X ++ a :: Y).Nodup:=eT ▸ h.row.nd
 obtain ⟨_,aY,XY⟩:=nd_mid ndT
 have eY:J3 r.top a=Y:=by rw [eT];exact J4b aX
 rw [eY] at n5 n6
 have la:=h.row.lt a aIn
 have lt:((Stp.unders a t).behind r).top=X ++ a :: Y:=eT
 have lb:((Stp.unders a t).behind r).bot=B ++ [a]:=eB
 have e1:∀ j,j≠a→((Stp.unders a t).behind r).ls.getD j 0=r.ls.getD j 0:=fun j ja=>by show (r.ls.set a _).getD j 0=_;rw [Jt _ _ _ _ la,if_neg ja]
 have e1a:((Stp.unders a t).behind r).ls.getD a 0=r.ls.getD a 0 - t * lenOf r.ls Y:=by show (r.ls.set a (_ - t * lenOf r.ls (J3 r.top a))).getD a 0=_;rw [Jt _ _ _ _ la,if_pos rfl,eY]
 have tS:1≤t * lenOf r.ls Y:=by
  have:=Int.mul_le_mul n4 n5 (by decide) (by lia)
  lia
 have sz:r.size=lenOf r.ls B + r.ls.getD a 0:=by rw [← h.sizeB,eB,Jh,J18]
 have szl:((Stp.unders a t).behind r).size=lenOf r.ls B + r.ls.getD a 0 - t * lenOf r.ls Y:=by
  rw [← okl.sizeB,lb,Jh,J18,e1a,show lenOf ((Stp.unders a t).behind r).ls B=lenOf r.ls B from Jd _ _ aB];lia
 have szT:r.size=lenOf r.ls X + r.ls.getD a 0 + lenOf r.ls Y:=by show lenOf r.ls r.top=_;rw [eT,Jh,Jg];lia
 have pTa:posR r.ls r.top a=lenOf r.ls X:=by rw [eT,Js _ _ aX]
 have pBa:posR r.ls r.bot a=lenOf r.ls B:=by rw [eB,Js _ _ aB]
 have lX:lenOf ((Stp.unders a t).behind r).ls X=lenOf r.ls X:=Jd _ _ aX
 have pB:∀ {j},j∈r.top→posR ((Stp.unders a t).behind r).ls ((Stp.unders a t).behind r).bot j=posR r.ls r.bot j:=fun {j} hj=>by
  have hj:=h.perm.mem_iff.mpr hj
  rw [lb]
  rw [eB] at hj ⊢
  exact J1q _ _ aB hj
 refine ⟨fun y j o A hj=>?_,fun y j o A hj=>?_⟩
 ·have jY:j ∉ Y:=fun q=>hj (by show j∈J3 r.top a;rw [eY];exact q)
  have g:=go_at okl A
  obtain ⟨A1,A2,A3,A4⟩:=A
  have A1:j∈r.top:=A1
  rw [pB A1] at g
  rw [lt] at A4
  have jT:j∈X ++ a :: Y:=by rw [← eT];exact A1
  by_cases ja:j=a
  ·subst ja
   rw [e1a] at A3
   rw [Js _ _ aX,lX] at A4
   have A':LetAt r y j o:=⟨A1,A2,by lia,by rw [pTa];exact A4⟩
   refine ⟨⟨o,A'⟩,?_⟩
   rw [go_at h A',g]
   unfold offT
   rw [show ((Stp.unders j t).behind r).ts=r.ts from rfl,n3,if_neg (by decide),if_neg (by decide)]
  ·have eo:offT ((Stp.unders a t).behind r) j o=offT r j o:=by unfold offT;rw [e1 j ja];rfl
   have c:j∈X:=by simpa [jY,ja] using jT
   rw [e1 j ja] at A3
   rw [Ju _ _ c,show posR ((Stp.unders a t).behind r).ls X j=posR r.ls X j from Jk _ _ aX _] at A4
   have A':LetAt r y j o:=⟨A1,A2,A3,by rw [eT,Ju _ _ c];exact A4⟩
   refine ⟨⟨o,A'⟩,?_⟩
   rw [go_at h A',g,eo]
 ·have jY:j∈Y:=by
   have:j∈J3 r.top a:=hj
   rw [eY] at this;exact this
  have ja:j≠a:=fun e=>aY (e ▸ jY)
  have jX:j ∉ X:=fun q=>XY j q jY
  have g:=go_at okl A
  obtain ⟨A1,A2,A3,A4⟩:=A
  have A1:j∈r.top:=A1
  rw [pB A1] at g
  rw [lt,Jl _ _ jX,Ji _ (Ne.symm ja),lX,e1a,show posR ((Stp.unders a t).behind r).ls Y j=posR r.ls Y j from Jk _ _ aY _] at A4
  rw [e1 j ja] at A3
  have p0:=J43 (ls:=r.ls) (row:=Y) (fun i hi=>by have:=h.row.pos i (by rw [eT];simp [hi]);lia) j
  have p1:=posR_le (ls:=r.ls) (row:=Y) (fun i hi=>by have:=h.row.pos i (by rw [eT];simp [hi]);lia) jY
  show (∀ k:Int,0≤k→k < t→_)∧_
  rw [eY]
  have fin:LetAt r (y + t * lenOf r.ls Y) j o:=⟨A1,A2,A3,by rw [eT,Jl _ _ jX,Ji _ (Ne.symm ja)];lia⟩
  refine ⟨fun k k0 k1=>?_,⟨_,fin⟩,?_⟩
  ·have m1:k * lenOf r.ls Y + lenOf r.ls Y≤t * lenOf r.ls Y:=by
    have:=Int.mul_le_mul_of_nonneg_right (show k + 1≤t by lia) (show 0≤lenOf r.ls Y by lia)
    rw [Int.add_mul,Int.one_mul] at this
    exact this
   have m0:0≤k * lenOf r.ls Y:=Int.mul_nonneg k0 (by lia)
   have m:LetAt r (y + k * lenOf r.ls Y) a (y + k * lenOf r.ls Y - lenOf r.ls X):=⟨aIn,by lia,by lia,by rw [pTa];lia⟩
   refine ⟨⟨_,m⟩,?_,by rw [szl];lia⟩
   rw [go_at h m,pBa]
   unfold offT
   rw [n3,if_neg (by decide)]
   lia
  ·rw [go_at h fin,g]
   unfold offT
   rw [e1 j ja]
   rfl
theorem ret_of {r:Rst} (h:r.Ok) (ne:r.top≠[]) {s:Stp} (n:NextP r s) (okl:(s.behind r).Ok):RetOf r s:=by
 cases s with
 | home a=>exact ret_home h ne n okl
 | even a b=>exact ret_even h ne n okl
 | over a b=>exact ret_over h ne n okl
 | under a b=>exact ret_under h ne n okl
 | overs a t=>exact ret_overs h ne n okl
 | unders a t=>exact ret_unders h ne n okl
end Rl
namespace Rl
def itN (f:Int→Int):Nat→Int→Int
 | 0,y=>y
 | n + 1,y=>f (itN f n y)
theorem J1o (f:Int→Int) (n:Nat):∀ (m:Nat) (y:Int),itN f (n + m) y=itN f m (itN f n y)
 | 0,_=>rfl
 | m + 1,y=>by show f (itN f (n + m) y)=f (itN f m (itN f n y));rw [J1o f n m y]
structure First (f:Int→Int) (lo:Int) (n:Nat) (y z:Int):Prop where
 pos:0 < n
 last:itN f n y=z
 mid:∀ i,0 < i→i < n→lo≤itN f i y
theorem First.one {f:Int→Int} {lo y z:Int} (e:f y=z):First f lo 1 y z:=⟨by decide,e,fun i h0 h1=>by lia⟩
theorem First.trans {f:Int→Int} {lo y z z':Int} {n m:Nat} (a:First f lo n y z) (hz:lo≤z) (b:First f lo m z z'):First f lo (n + m) y z':=by
 refine ⟨by have:=a.pos;lia,?_,fun i h0 h1=>?_⟩
 ·rw [J1o,a.last,b.last]
 ·rcases Nat.lt_trichotomy i n with q | q | q
  ·exact a.mid i h0 q
  ·rw [q,a.last];exact hz
  ·obtain ⟨k,rfl⟩:∃ k,i=n + k:=⟨i - n,by lia⟩
   rw [J1o,a.last]
   exact b.mid k (by lia) (by lia)
theorem First.low {f:Int→Int} {lo lo' y z:Int} {n:Nat} (a:First f lo n y z) (h:lo'≤lo):First f lo' n y z:=⟨a.pos,a.last,fun i h0 h1=>by have:=a.mid i h0 h1;lia⟩
def retN (r:Rst) (s:Stp) (j:Nat):Nat:=if j∈s.losers r then 1 + s.times.toNat else 1
theorem J2t {r:Rst} {s:Stp} (n:NextP r s):1≤s.times:=by
 cases s with
 | overs a t=>exact n.2.2.2.1
 | unders a t=>exact n.2.2.2.1
 | home a=>exact Int.le_refl _
 | even a b=>exact Int.le_refl _
 | over a b=>exact Int.le_refl _
 | under a b=>exact Int.le_refl _
theorem J5f {f:Int→Int} {lo m S:Int} {t:Int} (h:∀ k:Int,0≤k→k < t→lo≤m - k * S∧f (m - k * S)=m - k * S - S):∀ n:Nat,(n:Int) < t→First f lo (n + 1) m (m - ((n:Int) + 1) * S)
 | 0,h0=>by
  have:=(h 0 (by lia) (by lia)).2
  refine First.one ?_
  rw [Int.zero_mul,Int.sub_zero] at this
  rw [this]
  show m - S=m - (0 + 1) * S
  rw [Int.zero_add,Int.one_mul]
 | n + 1,h0=>by
  have a:=J5f h n (by lia)
  have q:=h ((n:Int) + 1) (by lia) (by lia)
  refine a.trans q.1 (First.one ?_)
  rw [q.2]
  rw [show (((n + 1:Nat):Int) + 1)=((n:Int) + 1) + 1 by lia,Int.add_mul ((n:Int) + 1) 1 S,Int.one_mul]
  lia
theorem up_steps {f:Int→Int} {lo y S:Int} {t:Int} (h:∀ k:Int,0≤k→k < t→f (y + k * S)=y + k * S + S∧lo≤y + k * S + S):∀ n:Nat,(n:Int) < t→First f lo (n + 1) y (y + ((n:Int) + 1) * S)
 | 0,h0=>by
  have:=(h 0 (by lia) (by lia)).1
  refine First.one ?_
  rw [Int.zero_mul,Int.add_zero] at this
  rw [this]
  show y + S=y + (0 + 1) * S
  rw [Int.zero_add,Int.one_mul]
 | n + 1,h0=>by
  have a:=up_steps h n (by lia)
  have p:=h (n:Int) (by lia) (by lia)
  have q:=h ((n:Int) + 1) (by lia) (by lia)
  have e:y + ((n:Int) + 1) * S=y + (n:Int) * S + S:=by rw [Int.add_mul,Int.one_mul];lia
  refine a.trans (by rw [e];exact p.2) (First.one ?_)
  rw [q.1]
  rw [show (((n + 1:Nat):Int) + 1)=((n:Int) + 1) + 1 by lia,Int.add_mul ((n:Int) + 1) 1 S,Int.one_mul]
  lia
theorem RetOf.first {r:Rst} {s:Stp} (n:NextP r s) (R:RetOf r s) {y o:Int} {j:Nat} (A:LetAt (s.behind r) y j o):First (go r) (s.behind r).size (retN r s j) y (go (s.behind r) y):=by
 unfold retN
 have t1:=J2t n
 by_cases c:j∈s.losers r
 ·rw [if_pos c]
  have L:=R.lose y j o A c
  cases s with
  | home a=>exact L.elim
  | even a b=>exact (First.one rfl).trans L.2.1 (First.one L.2.2.2)
  | over a b=>exact (First.one rfl).trans L.2.1 (First.one L.2.2.2)
  | under a b=>exact (First.one rfl).trans L.2.1 (First.one L.2.2.2)
  | overs a t =>
   obtain ⟨_,L2,L3⟩:=L
   have t1:1≤t:=t1
   have q:=L2 0 (by lia) (by lia)
   rw [Int.zero_mul,Int.sub_zero] at q
   obtain ⟨m,hm⟩:∃ m:Nat,t=(m:Int) + 1:=⟨(t - 1).toNat,by lia⟩
   have d:=J5f (f:=go r) (lo:=((Stp.overs a t).behind r).size) (m:=go r y) (S:=lenOf r.ls (J3 r.bot a)) (t:=t) (fun k k0 k1=>⟨(L2 k k0 k1).1,(L2 k k0 k1).2.2⟩) m (by lia)
   rw [← hm,L3] at d
   have e:1 + (Stp.overs a t).times.toNat=1 + (m + 1):=by show 1 + t.toNat=_;lia
   rw [e]
   exact (First.one rfl).trans q.1 d
  | unders a t =>
   obtain ⟨L1,_,L3⟩:=L
   have t1:1≤t:=t1
   obtain ⟨m,hm⟩:∃ m:Nat,t=(m:Int) + 1:=⟨(t - 1).toNat,by lia⟩
   have d:=up_steps (f:=go r) (lo:=((Stp.unders a t).behind r).size) (y:=y) (S:=lenOf r.ls (J3 r.top a)) (t:=t) (fun k k0 k1=>(L1 k k0 k1).2) m (by lia)
   have p:=(L1 (m:Int) (by lia) (by lia)).2.2
   have e:1 + (Stp.unders a t).times.toNat=(m + 1) + 1:=by show 1 + t.toNat=_;lia
   rw [e]
   rw [← hm] at d
   refine d.trans ?_ (First.one L3)
   have e3:t * lenOf r.ls (J3 r.top a)=(m:Int) * lenOf r.ls (J3 r.top a) + lenOf r.ls (J3 r.top a):=by rw [hm,Int.add_mul,Int.one_mul]
   rw [e3]
   lia
 ·rw [if_neg c]
  exact First.one (R.plain y j o A c).2
theorem J3r {f:Int→Int} {r:Rst} {lo m S t:Int} {w:Nat} {N:Nat→Nat} (hlo:lo≤r.size) (F:∀ y j o,LetAt r y j o→First f r.size (N j) y (go r y))
  (h:∀ k:Int,0≤k→k < t→lo≤m - k * S∧(∃ o',LetAt r (m - k * S) w o')∧go r (m - k * S)=m - k * S - S):∀ n:Nat,(n:Int) < t→First f lo ((n + 1) * N w) m (m - ((n:Int) + 1) * S)
 | 0,h0=>by
  obtain ⟨q1,⟨o',q2⟩,q3⟩:=h 0 (by lia) (by lia)
  have a:=(F _ _ _ q2).low hlo
  rw [q3] at a
  rw [Int.zero_mul,Int.sub_zero] at a
  rw [Nat.zero_add,Nat.one_mul]
  show First f lo (N w) m (m - (0 + 1) * S)
  rw [Int.zero_add,Int.one_mul]
  exact a
 | n + 1,h0=>by
  have a:=J3r hlo F h n (by lia)
  obtain ⟨q1,⟨o',q2⟩,q3⟩:=h ((n:Int) + 1) (by lia) (by lia)
  have b:=(F _ _ _ q2).low hlo
  rw [q3] at b
  have c:=a.trans q1 b
  have e1:(n + 1) * N w + N w=(n + 1 + 1) * N w:=by rw [Nat.add_mul (n + 1) 1,Nat.one_mul]
  rw [e1] at c
  have e2:m - ((n:Int) + 1) * S - S=m - (((n + 1:Nat):Int) + 1) * S:=by
   rw [show (((n + 1:Nat):Int) + 1)=((n:Int) + 1) + 1 by lia,Int.add_mul ((n:Int) + 1) 1 S,Int.one_mul];lia
  rw [e2] at c
  exact c
theorem J6a {f:Int→Int} {r:Rst} {lo y S t:Int} {w:Nat} {N:Nat→Nat} (hlo:lo≤r.size) (F:∀ y j o,LetAt r y j o→First f r.size (N j) y (go r y))
  (h:∀ k:Int,0≤k→k < t→(∃ o',LetAt r (y + k * S) w o')∧go r (y + k * S)=y + k * S + S∧lo≤y + k * S + S):∀ n:Nat,(n:Int) < t→First f lo ((n + 1) * N w) y (y + ((n:Int) + 1) * S)
 | 0,h0=>by
  obtain ⟨⟨o',q2⟩,q3,q1⟩:=h 0 (by lia) (by lia)
  have a:=(F _ _ _ q2).low hlo
  rw [q3] at a
  rw [Int.zero_mul,Int.add_zero] at a
  rw [Nat.zero_add,Nat.one_mul]
  show First f lo (N w) y (y + (0 + 1) * S)
  rw [Int.zero_add,Int.one_mul]
  exact a
 | n + 1,h0=>by
  have a:=J6a hlo F h n (by lia)
  obtain ⟨_,p3,p1⟩:=h (n:Int) (by lia) (by lia)
  obtain ⟨⟨o',q2⟩,q3,q1⟩:=h ((n:Int) + 1) (by lia) (by lia)
  have b:=(F _ _ _ q2).low hlo
  rw [q3] at b
  have e:y + ((n:Int) + 1) * S=y + (n:Int) * S + S:=by rw [Int.add_mul,Int.one_mul];lia
  have c:=a.trans (by rw [e];exact p1) b
  have e1:(n + 1) * N w + N w=(n + 1 + 1) * N w:=by rw [Nat.add_mul (n + 1) 1,Nat.one_mul]
  rw [e1] at c
  have e2:y + ((n:Int) + 1) * S + S=y + (((n + 1:Nat):Int) + 1) * S:=by
   rw [show (((n + 1:Nat):Int) + 1)=((n:Int) + 1) + 1 by lia,Int.add_mul ((n:Int) + 1) 1 S,Int.one_mul];lia
  rw [e2] at c
  exact c
def sumT (r:Rst) (s:Stp) (N:Nat→Nat) (j:Nat):Nat:=if j∈s.losers r then N j + s.times.toNat * N s.winner else N j
theorem RetOf.tower {f:Int→Int} {r:Rst} {s:Stp} {N:Nat→Nat} (n:NextP r s) (R:RetOf r s) (hs:(s.behind r).size≤r.size) (F:∀ y j o,LetAt r y j o→First f r.size (N j) y (go r y)) {y o:Int} {j:Nat} (A:LetAt (s.behind r) y j o) :
  First f (s.behind r).size (sumT r s N j) y (go (s.behind r) y):=by
 unfold sumT
 have t1:=J2t n
 by_cases c:j∈s.losers r
 ·rw [if_pos c]
  have L:=R.lose y j o A c
  have two:∀ {a b:Nat} {o1 o2:Int},LetAt r y a o1→LetAt r (go r y) b o2→(s.behind r).size≤go r y→go r (go r y)=go (s.behind r) y→First f (s.behind r).size (N a + N b) y (go (s.behind r) y):=fun {a b o1 o2} q1 q2 q3 q4=>by
   have x:=(F _ _ _ q1).low hs
   have z:=(F _ _ _ q2).low hs
   rw [q4] at z
   exact x.trans q3 z
  cases s with
  | home a=>exact L.elim
  | even a b =>
   obtain ⟨⟨_,l1⟩,l2,⟨_,l3⟩,l4⟩:=L
   have:=two l1 l3 l2 l4
   show First f _ (N j + 1 * N a) _ _
   rw [Nat.one_mul];exact this
  | over a b =>
   obtain ⟨⟨_,l1⟩,l2,⟨_,l3⟩,l4⟩:=L
   have:=two l1 l3 l2 l4
   show First f _ (N j + 1 * N a) _ _
   rw [Nat.one_mul];exact this
  | under a b =>
   obtain ⟨⟨_,l1⟩,l2,⟨_,l3⟩,l4⟩:=L
   have:=two l1 l3 l2 l4
   show First f _ (N j + 1 * N a) _ _
   rw [Nat.one_mul,Nat.add_comm];exact this
  | overs a t =>
   obtain ⟨⟨_,l1⟩,L2,L3⟩:=L
   have t1:1≤t:=t1
   obtain ⟨m,hm⟩:∃ m:Nat,t=(m:Int) + 1:=⟨(t - 1).toNat,by lia⟩
   have d:=J3r (S:=lenOf r.ls (J3 r.bot a)) (w:=a) hs F L2 m (by lia)
   rw [← hm,L3] at d
   have q:=L2 0 (by lia) (by lia)
   rw [Int.zero_mul,Int.sub_zero] at q
   have e:(Stp.overs a t).times.toNat=m + 1:=by show t.toNat=_;lia
   rw [e]
   exact ((F _ _ _ l1).low hs).trans q.1 d
  | unders a t =>
   obtain ⟨L1,⟨_,l2⟩,L3⟩:=L
   have t1:1≤t:=t1
   obtain ⟨m,hm⟩:∃ m:Nat,t=(m:Int) + 1:=⟨(t - 1).toNat,by lia⟩
   have d:=J6a (S:=lenOf r.ls (J3 r.top a)) (w:=a) hs F L1 m (by lia)
   rw [← hm] at d
   have p:=(L1 (m:Int) (by lia) (by lia)).2.2
   have z:=(F _ _ _ l2).low hs
   rw [L3] at z
   have e:N j + (Stp.unders a t).times.toNat * N (Stp.unders a t).winner=(m + 1) * N a + N j:=by
    show N j + t.toNat * N a=_
    rw [show t.toNat=m + 1 by lia];lia
   rw [e]
   refine d.trans ?_ z
   have e3:t * lenOf r.ls (J3 r.top a)=(m:Int) * lenOf r.ls (J3 r.top a) + lenOf r.ls (J3 r.top a):=by rw [hm,Int.add_mul,Int.one_mul]
   rw [e3]
   lia
 ·rw [if_neg c]
  obtain ⟨⟨_,p1⟩,p2⟩:=R.plain y j o A c
  rw [← p2]
  exact (F _ _ _ p1).low hs
theorem Cok.tower {p:Cst} (h:Cok p) (one:∀ j∈p.1.top,p.2.getD j 0=1):∀ {k:Nat},Long p k→∀ y j o,LetAt (chN p k).1 y j o→First (go p.1) (chN p k).1.size ((chN p k).2.getD j 0).toNat y (go (chN p k).1 y)
 | 0,_,y,j,o,A=>by
  show First (go p.1) p.1.size (p.2.getD j 0).toNat y (go p.1 y)
  rw [one j A.1]
  exact First.one rfl
 | k + 1,l,y,j,o,A=>by
  have l':Long p k:=fun i hi=>l i (by lia)
  have ne:=l k (by lia)
  have c:=h.at_ l'
  have np:=nextP c.ok ne
  have okl:=c.ok.next ne
  have R:=ret_of c.ok ne np okl
  have F:=Cok.tower h one l'
  have A':LetAt ((nextN (chN p k).1).behind (chN p k).1) y j o:=A
  have d:=c.ok.down ne
  have t:=R.tower (N:=fun j=>((chN p k).2.getD j 0).toNat) np (Int.le_of_lt d.less) F A'
  have e:sumT (chN p k).1 (nextN (chN p k).1) (fun j=>((chN p k).2.getD j 0).toNat) j=((chN p (k + 1)).2.getD j 0).toNat:=by
   have ti:=J3u c.ok ne c.tow.len A'.1
   have ti':(chN p (k + 1)).2.getD j 0=(chN p k).2.getD j 0 + (if j∈(nextN (chN p k).1).losers (chN p k).1 then (chN p k).2.getD (nextN (chN p k).1).winner 0 * (nextN (chN p k).1).times else 0):=ti
   have w:=np.win c.ok ne
   have pw:=c.tow.pos _ w
   have pj:=c.tow.pos j (d.sub j A'.1)
   have t1:=J2t np
   rw [ti']
   unfold sumT
   dsimp only
   split
   ·rename_i cj
    generalize (chN p k).2.getD (nextN (chN p k).1).winner 0=W at *
    generalize (nextN (chN p k).1).times=t at *
    obtain ⟨W',rfl⟩:∃ W':Nat,W=W':=⟨W.toNat,by lia⟩
    obtain ⟨t',rfl⟩:∃ t':Nat,t=t':=⟨t.toNat,by lia⟩
    have e1:((W':Int) * (t':Int))=((t' * W':Nat):Int):=by rw [Int.natCast_mul,Int.mul_comm]
    rw [e1]
    rw [Int.toNat_natCast,Int.toNat_natCast]
    lia
   ·lia
  rw [e] at t
  exact t
end Rl
namespace Rl
end Rl
namespace Rl
abbrev bz0:Band:=(0,0,0,false)
def flipB (b:Band) (o:Int):Int:=if b.2.2.2=true then b.2.1 - 1 - o else o
def Bnd (f:Int→Int) (b:Band):Prop:=1≤b.2.1∧1≤b.2.2.1∧∀ o,0≤o→o < b.2.1→First f (b.1 + b.2.1) b.2.2.1.toNat (b.1 + o) (b.1 + flipB b o)
theorem flipB_in {b:Band} {o:Int} (h0:0≤o) (h1:o < b.2.1):0≤flipB b o∧flipB b o < b.2.1:=by unfold flipB;split <;> lia
structure Sys (f:Int→Int) (N:Int) (bs:List Band):Prop where
 inn:∀ y,0≤y→y < N→0≤f y∧f y < N
 inj:∀ y z,0≤y→y < N→0≤z→z < N→f y=f z→y=z
 bnd:∀ b∈bs,Bnd f b
 lo:∀ b∈bs,0≤b.1∧b.1 + b.2.1≤N
 ord:bs.Pairwise fun b c=>c.1 + c.2.1≤b.1
 sum:(bs.map fun b=>b.2.1 * b.2.2.1).sum=N
theorem Sys.itin {f:Int→Int} {N:Int} {bs:List Band} (S:Sys f N bs) {y:Int} (h0:0≤y) (h1:y < N):∀ n,0≤itN f n y∧itN f n y < N
 | 0=>⟨h0,h1⟩
 | n + 1=>by have:=S.itin h0 h1 n;exact S.inn _ this.1 this.2
theorem Sys.itinj {f:Int→Int} {N:Int} {bs:List Band} (S:Sys f N bs) {y z:Int} (h0:0≤y) (h1:y < N) (k0:0≤z) (k1:z < N):∀ n,itN f n y=itN f n z→y=z
 | 0,e=>e
 | n + 1,e=>by
  have a:=S.itin h0 h1 n
  have b:=S.itin k0 k1 n
  exact S.itinj h0 h1 k0 k1 n (S.inj _ _ a.1 a.2 b.1 b.2 e)
theorem Bnd.stays {f:Int→Int} {b:Band} (B:Bnd f b):∀ (n:Nat) (o:Int),0≤o→o < b.2.1→b.1≤itN f n (b.1 + o):=by
 obtain ⟨w1,h1,F⟩:=B
 intro n
 induction n using Nat.strongRecOn with
 | _ n ih =>
  intro o o0 o1
  have Fo:=F o o0 o1
  by_cases c0:n=0
  ·subst c0;show b.1≤b.1 + o;lia
  by_cases c:n < b.2.2.1.toNat
  ·have:=Fo.mid n (by lia) c;lia
  ·obtain ⟨k,rfl⟩:∃ k,n=b.2.2.1.toNat + k:=⟨n - b.2.2.1.toNat,by lia⟩
   rw [J1o,Fo.last]
   have fi:=flipB_in o0 o1
   exact ih k (by lia) _ fi.1 fi.2
theorem Bnd.back {f:Int→Int} {b:Band} (B:Bnd f b) {o:Int} (h0:0≤o) (h1:o < b.2.1):itN f b.2.2.1.toNat (b.1 + o)=b.1 + flipB b o:=(B.2.2 o h0 h1).last
theorem Bnd.high {f:Int→Int} {b:Band} (B:Bnd f b) {o:Int} (h0:0≤o) (h1:o < b.2.1) {l:Nat} (l0:0 < l) (l1:(l:Int) < b.2.2.1):b.1 + b.2.1≤itN f l (b.1 + o):=(B.2.2 o h0 h1).mid l l0 (by lia)
theorem Sys.meet {f:Int→Int} {N:Int} {bs:List Band} (S:Sys f N bs) {b c:Band} (hb:b∈bs) (hc:c∈bs) (bc:b=c∨c.1 + c.2.1≤b.1∨b.1 + b.2.1≤c.1) {o o':Int} (o0:0≤o) (o1:o < b.2.1) (p0:0≤o') (p1:o' < c.2.1)
  {l l':Nat} (hl:(l:Int) < b.2.2.1) (hl':(l':Int) < c.2.2.1) (le:l≤l') (e:itN f l (b.1 + o)=itN f l' (c.1 + o')):b=c∧o=o'∧l=l':=by
 have Bb:=S.bnd b hb
 have Bc:=S.bnd c hc
 have lb:=S.lo b hb
 have lc:=S.lo c hc
 obtain ⟨d,rfl⟩:∃ d,l'=d + l:=⟨l' - l,by lia⟩
 rw [J1o] at e
 have in2:=S.itin (y:=c.1 + o') (by lia) (by lia) d
 have e1:=S.itinj (by lia) (by lia) in2.1 in2.2 l e
 by_cases d0:d=0
 ·subst d0
  have e1:b.1 + o=c.1 + o':=e1
  rcases bc with rfl | q | q
  ·exact ⟨rfl,by lia,by lia⟩
  ·lia
  ·lia
 ·have hi:=Bc.high p0 p1 (l:=d) (by lia) (by lia)
  rw [← e1] at hi
  rcases bc with rfl | q | q
  ·lia
  ·exfalso
   have hc2:=Bc.back p0 p1
   have fi:=flipB_in p0 p1
   obtain ⟨k,hk⟩:∃ k,c.2.2.1.toNat=d + k:=⟨c.2.2.1.toNat - d,by lia⟩
   rw [hk,J1o,← e1] at hc2
   have:=Bb.stays k o o0 o1
   lia
  ·lia
theorem bz_mem {bs:List Band} {b:Nat} (h:b < bs.length):bs.getD b bz0∈bs:=by
 rw [List.getD_eq_getElem?_getD,List.getElem?_eq_getElem h];exact List.getElem_mem h
structure Adr (bs:List Band) (b:Nat) (o lv:Int):Prop where
 hb:b < bs.length
 o0:0≤o
 o1:o < (bs.getD b bz0).2.1
 l0:0≤lv
 l1:lv < (bs.getD b bz0).2.2.1
def plOf (f:Int→Int) (bs:List Band) (b:Nat) (o lv:Int):Int:=itN f lv.toNat ((bs.getD b bz0).1 + o)
theorem Sys.apart {f:Int→Int} {N:Int} {bs:List Band} (S:Sys f N bs) {b c:Nat} (hb:b < bs.length) (hc:c < bs.length) (h:b < c):(bs.getD c bz0).1 + (bs.getD c bz0).2.1≤(bs.getD b bz0).1:=by
 have:=(List.pairwise_iff_getElem.mp S.ord) b c hb hc h
 have eb:bs.getD b bz0=bs[b]:=by rw [List.getD_eq_getElem?_getD,List.getElem?_eq_getElem hb];rfl
 have ec:bs.getD c bz0=bs[c]:=by rw [List.getD_eq_getElem?_getD,List.getElem?_eq_getElem hc];rfl
 rw [eb,ec]
 exact this
theorem Sys.pl_in {f:Int→Int} {N:Int} {bs:List Band} (S:Sys f N bs) {b:Nat} {o lv:Int} (A:Adr bs b o lv):0≤plOf f bs b o lv∧plOf f bs b o lv < N:=by
 have l:=S.lo _ (bz_mem A.hb)
 have:=A.o0
 have:=A.o1
 exact S.itin (by lia) (by lia) _
def rowPl (f:Int→Int) (b:Band) (o:Nat):List Int:=(List.range b.2.2.1.toNat).map fun l=>itN f l (b.1 + (o:Int))
def bandPl (f:Int→Int) (b:Band):List Int:=(List.range b.2.1.toNat).flatMap (rowPl f b)
def allPl (f:Int→Int) (bs:List Band):List Int:=bs.flatMap (bandPl f)
theorem mem_rowPl {f:Int→Int} {b:Band} {o:Nat} {x:Int}:x∈rowPl f b o↔∃ l:Nat,(l:Int) < b.2.2.1∧x=itN f l (b.1 + (o:Int)):=by
 unfold rowPl
 rw [List.mem_map]
 constructor
 ·rintro ⟨l,hl,rfl⟩;exact ⟨l,by have:=List.mem_range.mp hl;lia,rfl⟩
 ·rintro ⟨l,hl,rfl⟩;exact ⟨l,List.mem_range.mpr (by lia),rfl⟩
theorem mem_bandPl {f:Int→Int} {b:Band} {x:Int}:x∈bandPl f b↔∃ o l:Nat,(o:Int) < b.2.1∧(l:Int) < b.2.2.1∧x=itN f l (b.1 + (o:Int)):=by
 unfold bandPl
 rw [List.mem_flatMap]
 constructor
 ·rintro ⟨o,ho,hx⟩
  obtain ⟨l,hl,rfl⟩:=mem_rowPl.mp hx
  exact ⟨o,l,by have:=List.mem_range.mp ho;lia,hl,rfl⟩
 ·rintro ⟨o,l,ho,hl,rfl⟩
  exact ⟨o,List.mem_range.mpr (by lia),mem_rowPl.mpr ⟨l,hl,rfl⟩⟩
theorem Sys.eq_of {f:Int→Int} {N:Int} {bs:List Band} (S:Sys f N bs) {b c:Band} (hb:b∈bs) (hc:c∈bs) (bc:b=c∨c.1 + c.2.1≤b.1∨b.1 + b.2.1≤c.1) {o o' l l':Nat} (o1:(o:Int) < b.2.1) (p1:(o':Int) < c.2.1)
  (hl:(l:Int) < b.2.2.1) (hl':(l':Int) < c.2.2.1) (e:itN f l (b.1 + (o:Int))=itN f l' (c.1 + (o':Int))):b=c∧o=o'∧l=l':=by
 by_cases le:l≤l'
 ·obtain ⟨q1,q2,q3⟩:=S.meet hb hc bc (by lia) o1 (by lia) p1 hl hl' le e
  exact ⟨q1,by lia,q3⟩
 ·obtain ⟨q1,q2,q3⟩:=S.meet hc hb (bc.elim (fun q=>.inl q.symm) fun q=>.inr q.symm) (by lia) p1 (by lia) o1 hl' hl (by lia) e.symm
  exact ⟨q1.symm,by lia,q3.symm⟩
theorem Sys.nodup {f:Int→Int} {N:Int} {bs:List Band} (S:Sys f N bs):(allPl f bs).Nodup:=by
 unfold allPl
 refine List.pairwise_flatMap.mpr ⟨fun b hb=>?_,S.ord.imp_of_mem fun {b c} hb hc q x hx y hy e=>?_⟩
 ·unfold bandPl
  refine List.pairwise_flatMap.mpr ⟨fun o ho=>?_,List.pairwise_lt_range.imp_of_mem fun {o o'} ho ho' q x hx y hy e=>?_⟩
  ·unfold rowPl
   rw [List.pairwise_map]
   have o1:=List.mem_range.mp ho
   refine List.pairwise_lt_range.imp_of_mem fun {l l'} hl hl' q e=>?_
   have:=(S.eq_of hb hb (.inl rfl) (by lia) (by lia) (by have:=List.mem_range.mp hl;lia) (by have:=List.mem_range.mp hl';lia) e).2.2
   lia
  ·obtain ⟨l,hl,rfl⟩:=mem_rowPl.mp hx
   obtain ⟨l',hl',rfl⟩:=mem_rowPl.mp hy
   have:=(S.eq_of hb hb (.inl rfl) (by have:=List.mem_range.mp ho;lia) (by have:=List.mem_range.mp ho';lia) hl hl' e).2.1
   lia
 ·obtain ⟨o,l,ho,hl,rfl⟩:=mem_bandPl.mp hx
  obtain ⟨o',l',ho',hl',rfl⟩:=mem_bandPl.mp hy
  have w:=(S.bnd c hc).1
  obtain ⟨rfl,_,_⟩:=S.eq_of hb hc (.inr (.inl q)) ho ho' hl hl' e
  lia
theorem len_bandPl {f:Int→Int} {b:Band} (h1:0≤b.2.1) (h2:0≤b.2.2.1):((bandPl f b).length:Int)=b.2.1 * b.2.2.1:=by
 have:∀ n:Nat,((List.range n).flatMap (rowPl f b)).length=n * b.2.2.1.toNat:=fun n=>by
  induction n with
  | zero=>simp
  | succ n ih =>
   rw [List.range_succ,List.flatMap_append,List.length_append,ih]
   have:([n].flatMap (rowPl f b)).length=b.2.2.1.toNat:=by
    rw [List.flatMap_singleton];unfold rowPl;rw [List.length_map,List.length_range]
   rw [this,Nat.succ_mul]
 unfold bandPl
 rw [this,Int.natCast_mul]
 rw [show ((b.2.1.toNat:Nat):Int)=b.2.1 by lia,show ((b.2.2.1.toNat:Nat):Int)=b.2.2.1 by lia]
theorem len_allPl {f:Int→Int}:∀ {bs:List Band},(∀ b∈bs,Bnd f b)→((allPl f bs).length:Int)=(bs.map fun b=>b.2.1 * b.2.2.1).sum
 | [],_=>rfl
 | b :: bs,h=>by
  have ih:=len_allPl (bs:=bs) fun c hc=>h c (List.mem_cons_of_mem _ hc)
  have B:=h b List.mem_cons_self
  have w:=B.1
  have hh:=B.2.1
  rw [List.map_cons,List.sum_cons,← ih,← len_bandPl (f:=f) (b:=b) (by lia) (by lia)]
  unfold allPl
  rw [List.flatMap_cons,List.length_append]
  lia
theorem Sys.len {f:Int→Int} {N:Int} {bs:List Band} (S:Sys f N bs):((allPl f bs).length:Int)=N:=by rw [len_allPl S.bnd,S.sum]
theorem mem_allPl {f:Int→Int} {bs:List Band} {x:Int}:x∈allPl f bs↔∃ b o lv,Adr bs b o lv∧plOf f bs b o lv=x:=by
 unfold allPl
 rw [List.mem_flatMap]
 constructor
 ·rintro ⟨c,hc,hx⟩
  obtain ⟨o,l,ho,hl,rfl⟩:=mem_bandPl.mp hx
  obtain ⟨b,hb,rfl⟩:=List.getElem_of_mem hc
  have e:bs.getD b bz0=bs[b]:=by rw [List.getD_eq_getElem?_getD,List.getElem?_eq_getElem hb];rfl
  refine ⟨b,o,l,⟨hb,by lia,by rw [e];exact ho,by lia,by rw [e];exact hl⟩,?_⟩
  unfold plOf
  rw [e];rfl
 ·rintro ⟨b,o,lv,A,rfl⟩
  refine ⟨_,bz_mem A.hb,mem_bandPl.mpr ⟨o.toNat,lv.toNat,?_,?_,?_⟩⟩
  ·have:=A.o0;have:=A.o1;lia
  ·have:=A.l0;have:=A.l1;lia
  ·have:=A.o0
   unfold plOf
   rw [show ((o.toNat:Nat):Int)=o by lia]
theorem Sys.all_in {f:Int→Int} {N:Int} {bs:List Band} (S:Sys f N bs) {x:Int} (h:x∈allPl f bs):0≤x∧x < N:=by
 obtain ⟨b,o,lv,A,rfl⟩:=mem_allPl.mp h
 exact S.pl_in A
theorem Sys.exists {f:Int→Int} {N:Int} {bs:List Band} (S:Sys f N bs) {x:Int} (h0:0≤x) (h1:x < N):∃ b o lv,Adr bs b o lv∧plOf f bs b o lv=x:=by
 refine mem_allPl.mp ?_
 apply Classical.byContradiction
 intro c
 have nd:((x :: allPl f bs).map Int.toNat).Nodup:=by
  refine List.pairwise_map.mpr ((List.nodup_cons.mpr ⟨c,S.nodup⟩).imp_of_mem fun {a b} ha hb ne e=>?_)
  have hin:∀ {z},z∈x :: allPl f bs→0≤z∧z < N:=fun {z} hz=>by
   rcases List.mem_cons.mp hz with rfl | hz
   ·exact ⟨h0,h1⟩
   ·exact S.all_in hz
  have:=hin ha
  have:=hin hb
  exact ne (by lia)
 have lt:∀ j∈(x :: allPl f bs).map Int.toNat,j < N.toNat:=fun j hj=>by
  obtain ⟨z,hz,rfl⟩:=List.mem_map.mp hj
  rcases List.mem_cons.mp hz with rfl | hz
  ·lia
  ·have:=S.all_in hz;lia
 have le:=J4o N.toNat _ nd lt
 have ln:=S.len
 rw [List.length_map,List.length_cons] at le
 lia
end Rl
namespace Rl
structure Reach (f:Int→Int) (lo:Int) (n:Nat) (y z:Int):Prop where
 last:itN f n y=z
 mid:∀ i,0 < i→i≤n→lo≤itN f i y
theorem Reach.zero {f:Int→Int} {lo y:Int}:Reach f lo 0 y y:=⟨rfl,fun i h0 h1=>by lia⟩
theorem Reach.trans {f:Int→Int} {lo y z w:Int} {n m:Nat} (a:Reach f lo n y z) (b:Reach f lo m z w):Reach f lo (n + m) y w:=by
 refine ⟨by rw [J1o,a.last,b.last],fun i h0 h1=>?_⟩
 by_cases c:i≤n
 ·exact a.mid i h0 c
 ·obtain ⟨k,rfl⟩:∃ k,i=n + k:=⟨i - n,by lia⟩
  rw [J1o,a.last]
  exact b.mid k (by lia) (by lia)
theorem Reach.low {f:Int→Int} {lo lo' y z:Int} {n:Nat} (a:Reach f lo n y z) (h:lo'≤lo):Reach f lo' n y z:=⟨a.last,fun i h0 h1=>by have:=a.mid i h0 h1;lia⟩
theorem Reach.lt {f:Int→Int} {lo y z w:Int} {n m:Nat} (a:Reach f lo n y z) (F:First f lo m y w) (hw:w < lo):n < m:=by
 apply Classical.byContradiction
 intro c
 have:=a.mid m F.pos (by lia)
 rw [F.last] at this
 lia
end Rl
namespace Rl
structure Twr (f:Int→Int) (r:Rst) (T:List Int):Prop where
 pos:∀ j∈r.top,1≤T.getD j 0
 fst:∀ y j o,LetAt r y j o→First f r.size (T.getD j 0).toNat y (go r y)
theorem Cok.twr {p:Cst} (h:Cok p) (one:∀ j∈p.1.top,p.2.getD j 0=1) {k:Nat} (l:Long p k):Twr (go p.1) (chN p k).1 (chN p k).2:=⟨(h.at_ l).tow.pos,fun y j o A=>h.tower one l y j o A⟩
theorem mul_nat {a b:Int} (ha:0≤a) (hb:0≤b):(a * b).toNat=a.toNat * b.toNat:=by
 obtain ⟨m,rfl⟩:∃ m:Nat,a=m:=⟨a.toNat,by lia⟩
 obtain ⟨n,rfl⟩:∃ n:Nat,b=n:=⟨b.toNat,by lia⟩
 rw [← Int.natCast_mul,Int.toNat_natCast,Int.toNat_natCast,Int.toNat_natCast]
theorem add_nat {a b:Int} (ha:0≤a) (hb:0≤b):(a + b).toNat=a.toNat + b.toNat:=by lia
section
variable {f:Int→Int} {r:Rst} {T:List Int} {s:Stp}
theorem J3o (np:NextP r s) (R:RetOf r s) {y o:Int} {j:Nat} (A:LetAt (s.behind r) y j o) (c:j ∉ s.losers r):∃ o',LetAt r y j o':=(R.plain y j o A c).1
theorem J59 {y o due:Int} {j:Nat} (h:r.Ok) (ne:r.top≠[]) (np:NextP r s) (okl:(s.behind r).Ok) (R:RetOf r s) (W:Twr f r T) (own:s.own=true) (A:LetAt (s.behind r) y j o) (c:j∈s.losers r) (d0:0≤due) (d1:due < T.getD j 0 + T.getD s.winner 0 * s.times) :
  (∃ o',LetAt r y j o')∧(T.getD j 0≤due→∀ t':Int,t'=(due - T.getD j 0) / T.getD s.winner 0→0≤t'∧t' < s.times∧(∃ o',LetAt r (go r y - t' * lenOf r.ls (s.losers r)) s.winner o')∧
   (0≤due - T.getD j 0 - t' * T.getD s.winner 0∧due - T.getD j 0 - t' * T.getD s.winner 0 < T.getD s.winner 0)∧itN f (due - T.getD j 0 - t' * T.getD s.winner 0).toNat (go r y - t' * lenOf r.ls (s.losers r))=itN f due.toNat y):=by
 have w:=np.win h ne
 have pw:=W.pos _ w
 have L:=R.lose y j o A c
 have own':∃ o',LetAt r y j o':=by
  cases s with
  | home a=>cases own
  | under a b=>cases own
  | unders a t=>cases own
  | even a b=>exact L.1
  | over a b=>exact L.1
  | overs a t=>exact L.1
 refine ⟨own',fun hd t' ht=>?_⟩
 obtain ⟨o',A'⟩:=own'
 have pj:=W.pos j A'.1
 have e1:=Int.ediv_mul_le (due - T.getD j 0) (show T.getD s.winner 0≠0 by lia)
 have e2:=Int.lt_ediv_add_one_mul_self (due - T.getD j 0) (show 0 < T.getD s.winner 0 by lia)
 have q0:0≤t':=by rw [ht];exact Int.ediv_nonneg (by lia) (by lia)
 rw [← ht] at e1 e2
 rw [Int.add_mul,Int.one_mul] at e2
 have q1:t' < s.times:=by
  apply Classical.byContradiction
  intro c
  have:s.times * T.getD s.winner 0≤t' * T.getD s.winner 0:=Int.mul_le_mul_of_nonneg_right (by lia) (by lia)
  rw [Int.mul_comm (T.getD s.winner 0) s.times] at d1
  lia
 have base:itN f (T.getD j 0).toNat y=go r y:=(W.fst _ _ _ A').last
 have fin:∀ {m:Int},itN f (t' * T.getD s.winner 0).toNat (go r y)=m→itN f (due - T.getD j 0 - t' * T.getD s.winner 0).toNat m=itN f due.toNat y:=fun {m} hm=>by
  rw [← hm,← base,← J1o,← J1o]
  congr 1
  have:0≤t' * T.getD s.winner 0:=Int.mul_nonneg q0 (by lia)
  lia
 refine ⟨q0,q1,?_,⟨by lia,by lia⟩,?_⟩
 ·cases s with
  | home a=>cases own
  | under a b=>cases own
  | unders a t=>cases own
  | even a b =>
   have q1:t' < 1:=q1
   obtain rfl:t'=0:=by lia
   rw [Int.zero_mul,Int.sub_zero]
   exact L.2.2.1
  | over a b =>
   have q1:t' < 1:=q1
   obtain rfl:t'=0:=by lia
   rw [Int.zero_mul,Int.sub_zero]
   exact L.2.2.1
  | overs a t=>exact (L.2.1 t' q0 q1).2.1
 ·refine fin ?_
  by_cases c0:t'=0
  ·subst c0
   rw [Int.zero_mul,Int.zero_mul,Int.sub_zero];rfl
  ·cases s with
   | home a=>cases own
   | under a b=>cases own
   | unders a t=>cases own
   | even a b =>
    have q1:t' < 1:=q1
    lia
   | over a b =>
    have q1:t' < 1:=q1
    lia
   | overs a t =>
    obtain ⟨n,hn⟩:∃ n:Nat,t'=(n:Int) + 1:=⟨(t' - 1).toNat,by lia⟩
    have q1:t' < t:=q1
    have C:=J3r (f:=f) (r:=r) (N:=fun j=>(T.getD j 0).toNat) (lo:=min r.size ((Stp.overs a t).behind r).size) (Int.min_le_left _ _) W.fst (fun k k0 k1=>⟨Int.le_trans (Int.min_le_right _ _) (L.2.1 k k0 k1).1,(L.2.1 k k0 k1).2⟩) n (by lia)
    rw [← hn] at C
    have e:(n + 1) * (T.getD a 0).toNat=(t' * T.getD (Stp.overs a t).winner 0).toNat:=by
     show _=(t' * T.getD a 0).toNat
     have pw:1≤T.getD a 0:=pw
     rw [mul_nat (by lia) (by lia),show t'.toNat=n + 1 by lia]
    rw [← e]
    exact C.last
theorem lift_last {y o due:Int} {j:Nat} (h:r.Ok) (ne:r.top≠[]) (np:NextP r s) (okl:(s.behind r).Ok) (R:RetOf r s) (W:Twr f r T) (hh:s.isHome=false) (own:s.own=false) (A:LetAt (s.behind r) y j o) (c:j∈s.losers r) (d0:0≤due) (d1:due < T.getD j 0 + T.getD s.winner 0 * s.times) :
  (∃ o',LetAt r y s.winner o')∧∀ t':Int,1≤t'→t'≤s.times→t' * T.getD s.winner 0≤due→(t' < s.times→due < (t' + 1) * T.getD s.winner 0)→
   (∃ o',LetAt r (go r y + (t' - 1) * lenOf r.ls (s.losers r)) (if t'=s.times then j else s.winner) o')∧(0≤due - t' * T.getD s.winner 0∧due - t' * T.getD s.winner 0 < T.getD (if t'=s.times then j else s.winner) 0)∧
   itN f (due - t' * T.getD s.winner 0).toNat (go r y + (t' - 1) * lenOf r.ls (s.losers r))=itN f due.toNat y:=by
 have w:=np.win h ne
 have pw:=W.pos _ w
 have L:=R.lose y j o A c
 have t1:=J2t np
 have fin:∀ {t' m:Int},0≤t'→t' * T.getD s.winner 0≤due→itN f (t' * T.getD s.winner 0).toNat y=m→itN f (due - t' * T.getD s.winner 0).toNat m=itN f due.toNat y:=fun {t' m} q0 q1 hm=>by
  rw [← hm,← J1o]
  congr 1
  have:0≤t' * T.getD s.winner 0:=Int.mul_nonneg q0 (by lia)
  lia
 have bound:∀ {t':Int},(t' < s.times→due < (t' + 1) * T.getD s.winner 0)→t'≤s.times→due - t' * T.getD s.winner 0 < T.getD (if t'=s.times then j else s.winner) 0:=fun {t'} hlt hle=>by
  by_cases e:t'=s.times
  ·rw [if_pos e,e]
   rw [Int.mul_comm (T.getD s.winner 0) s.times] at d1
   lia
  ·rw [if_neg e]
   have:=hlt (by lia)
   rw [Int.add_mul,Int.one_mul] at this
   lia
 cases s with
 | home a=>cases hh
 | even a b=>cases own
 | over a b=>cases own
 | overs a t=>cases own
 | under a b =>
  obtain ⟨⟨o1,l1⟩,l2,l3,l4⟩:=L
  refine ⟨⟨o1,l1⟩,fun t' h1 h2 h3 h4=>?_⟩
  have h2':t'≤1:=h2
  obtain rfl:t'=1:=by lia
  have ei:(1:Int)=(Stp.under a b).times:=rfl
  refine ⟨?_,⟨by lia,bound h4 h2⟩,?_⟩
  ·rw [if_pos ei,Int.sub_self,Int.zero_mul,Int.add_zero];exact l3
  ·refine fin (by lia) h3 ?_
   rw [Int.sub_self,Int.zero_mul,Int.add_zero,Int.one_mul]
   exact (W.fst _ _ _ l1).last
 | unders a t =>
  obtain ⟨L1,l2,l3⟩:=L
  have t1:1≤t:=t1
  have z0:=L1 0 (by lia) (by lia)
  rw [Int.zero_mul,Int.add_zero] at z0
  refine ⟨z0.1,fun t' h1 h2 h3 h4=>?_⟩
  have h2':t'≤t:=h2
  show (∃ o',LetAt r (go r y + (t' - 1) * lenOf r.ls (J3 r.top a)) _ o')∧_∧itN f _ (go r y + (t' - 1) * lenOf r.ls (J3 r.top a))=_
  have ey:go r y + (t' - 1) * lenOf r.ls (J3 r.top a)=y + t' * lenOf r.ls (J3 r.top a):=by
   rw [z0.2.1,Int.sub_mul,Int.one_mul];lia
  rw [ey]
  refine ⟨?_,⟨by lia,bound h4 h2⟩,?_⟩
  ·by_cases e:t'=t
   ·rw [if_pos (show t'=(Stp.unders a t).times from e),e];exact l2
   ·rw [if_neg (show ¬ t'=(Stp.unders a t).times from e)]
    exact (L1 t' (by lia) (by lia)).1
  ·refine fin (by lia) h3 ?_
   obtain ⟨n,hn⟩:∃ n:Nat,t'=(n:Int) + 1:=⟨(t' - 1).toNat,by lia⟩
   have C:=J6a (f:=f) (r:=r) (w:=a) (N:=fun j=>(T.getD j 0).toNat) (lo:=min r.size ((Stp.unders a t).behind r).size) (Int.min_le_left _ _) W.fst (fun k k0 k1=>⟨(L1 k k0 k1).1,(L1 k k0 k1).2.1,Int.le_trans (Int.min_le_right _ _) (L1 k k0 k1).2.2⟩) n (by lia)
   rw [← hn] at C
   have e:(n + 1) * (T.getD a 0).toNat=(t' * T.getD (Stp.unders a t).winner 0).toNat:=by
    show _=(t' * T.getD a 0).toNat
    have pw:1≤T.getD a 0:=pw
    rw [mul_nat (by lia) (by lia),show t'.toNat=n + 1 by lia]
   rw [← e]
   exact C.last
end
end Rl
namespace Rl
theorem idx_of {ns:List Int} (nd:ns.Nodup) {b:Nat} (hb:b < ns.length) {v:Int} (e:ns[b]=v):ns.idxOf v=b:=by
 have h1:v∈ns:=e ▸ List.getElem_mem hb
 have h2:ns.idxOf v < ns.length:=List.idxOf_lt_length_iff.mpr h1
 have h3:ns[ns.idxOf v]=v:=List.getElem_idxOf h2
 exact (List.getElem_inj nd).mp (h3.trans e.symm)
abbrev J52 (bs:List Band):List Int:=(List.range bs.length).map fun i=>(bs.getD i bz0).1
theorem Sys.starts {f:Int→Int} {N:Int} {bs:List Band} (S:Sys f N bs) {b:Nat} (hb:b < bs.length):(bs.getD b bz0).1∈J52 bs∧(J52 bs).idxOf (bs.getD b bz0).1=b:=by
 have nd:(J52 bs).Nodup:=by
  refine List.pairwise_map.mpr (List.pairwise_lt_range.imp_of_mem fun {i j} hi hj h e=>?_)
  have hi:=List.mem_range.mp hi
  have hj:=List.mem_range.mp hj
  have ap:=S.apart hi hj h
  have w:=(S.bnd _ (bz_mem hj)).1
  lia
 have hl:b < (J52 bs).length:=by rw [List.length_map,List.length_range];exact hb
 have e:(J52 bs)[b]=(bs.getD b bz0).1:=by rw [List.getElem_map,List.getElem_range]
 exact ⟨e ▸ List.getElem_mem hl,idx_of nd hl e⟩
structure StepF (f:Int→Int) (r:Rst) (T:List Int) (s:Stp):Prop where
 ok:r.Ok
 ne:r.top≠[]
 np:NextP r s
 okl:(s.behind r).Ok
 down:Down r s
 ret:RetOf r s
 twr:Twr f r T
 len:T.length=r.ls.length
 sz:r.size≤10 ^ 30
 big:∀ j∈r.top,T.getD j 0≤10 ^ 30
theorem StepF.tms {f:Int→Int} {r:Rst} {T:List Int} {s:Stp} (F:StepF f r T s):1≤s.times∧s.times≤10 ^ 30:=by
 have h1:=J2t F.np
 have h2:=F.np.times F.ok F.ne F.sz
 lia
theorem StepF.win {f:Int→Int} {r:Rst} {T:List Int} {s:Stp} (F:StepF f r T s):s.winner∈r.top∧1≤T.getD s.winner 0∧T.getD s.winner 0≤10 ^ 30:=by
 have w:=F.np.win F.ok F.ne
 exact ⟨w,F.twr.pos _ w,F.big _ w⟩
end Rl
namespace Rl
def vis (f:Int→Int) (pc:Int→Nat) (p:Nat):Nat→Int→Int
 | 0,_=>0
 | n + 1,y=>vis f pc p n y + (if pc (itN f n y)=p then 1 else 0)
section
variable {f:Int→Int} {pc:Int→Nat} {p:Nat}
theorem vis_add (n:Nat) (y:Int):∀ m,vis f pc p (n + m) y=vis f pc p n y + vis f pc p m (itN f n y)
 | 0=>by show vis f pc p n y=_;unfold vis;lia
 | m + 1=>by
  show vis f pc p (n + m) y + (if pc (itN f (n + m) y)=p then 1 else 0)=vis f pc p n y + (vis f pc p m (itN f n y) + (if pc (itN f m (itN f n y))=p then 1 else 0))
  rw [vis_add n y m,J1o];lia
end
def Uni (f:Int→Int) (pc:Int→Nat) (r:Rst) (T:List Int):Prop:=∀ (p j:Nat) (y o y' o':Int) (n:Nat),LetAt r y j o→LetAt r y' j o'→(n:Int)≤T.getD j 0→vis f pc p n y=vis f pc p n y'
def Vv (f:Int→Int) (pc:Int→Nat) (r:Rst) (T:List Int) (p j:Nat):Int:=vis f pc p (T.getD j 0).toNat (posR r.ls r.top j)
theorem J4t {r:Rst} (h:r.Ok) {j:Nat} (hj:j∈r.top):LetAt r (posR r.ls r.top j) j 0:=⟨hj,by lia,by have:=h.row.pos j hj;lia,by lia⟩
section
variable {f:Int→Int} {pc:Int→Nat} {r:Rst} {s:Stp} {T:List Int}
theorem Uni.all (U:Uni f pc r T) (h:r.Ok) {j:Nat} {y o:Int} (A:LetAt r y j o) (hT:0≤T.getD j 0) (p:Nat):vis f pc p (T.getD j 0).toNat y=Vv f pc r T p j :=
 U p j y o _ 0 _ A (J4t h A.1) (by lia)
theorem Uni.chain (U:Uni f pc r T) (h:r.Ok) {w:Nat} (hT:0≤T.getD w 0) {y:Int} {a:Nat} (p:Nat):∀ t:Nat,(∀ i:Nat,i < t→∃ o,LetAt r (itN f (a + i * (T.getD w 0).toNat) y) w o)→
  vis f pc p (a + t * (T.getD w 0).toNat) y=vis f pc p a y + (t:Int) * Vv f pc r T p w
 | 0,_=>by rw [Nat.zero_mul,Nat.add_zero];simp
 | t + 1,c=>by
  obtain ⟨o,A⟩:=c t (by lia)
  have e:a + (t + 1) * (T.getD w 0).toNat=(a + t * (T.getD w 0).toNat) + (T.getD w 0).toNat:=by rw [Nat.add_mul,Nat.one_mul];lia
  rw [e,vis_add,Uni.chain U h hT p t (fun i hi=>c i (by lia)),U.all h A hT,show ((t + 1:Nat):Int) * Vv f pc r T p w=(t:Int) * Vv f pc r T p w + Vv f pc r T p w by rw [show ((t + 1:Nat):Int)=(t:Int) + 1 by lia,Int.add_mul,Int.one_mul]]
  lia
variable {y o:Int} {j:Nat}
theorem J4d (F:StepF f r T s) (own:s.own=true) (A:LetAt (s.behind r) y j o) (c:j∈s.losers r) :
  (∃ o',LetAt r y j o')∧∀ t:Nat,(t:Int) < s.times→∃ o',LetAt r (itN f ((T.getD j 0).toNat + t * (T.getD s.winner 0).toNat) y) s.winner o':=by
 have w2:=F.win.2.1
 have t1:=F.tms.1
 have pj:(∃ o',LetAt r y j o'):=(J59 F.ok F.ne F.np F.okl F.ret F.twr own A c (due:=0) (by lia) (by
  have jp:=(F.twr.pos j (F.down.sub j A.1))
  have:=Int.mul_nonneg (show 0≤T.getD s.winner 0 by lia) (show 0≤s.times by lia)
  lia)).1
 refine ⟨pj,fun t ht=>?_⟩
 obtain ⟨o0,A0⟩:=pj
 have jp:=F.twr.pos j A0.1
 have m1:(t:Int) * T.getD s.winner 0 < T.getD s.winner 0 * s.times:=by
  rw [Int.mul_comm];exact Int.mul_lt_mul_of_pos_left ht (by lia)
 have m0:0≤(t:Int) * T.getD s.winner 0:=Int.mul_nonneg (by lia) (by lia)
 obtain ⟨_,up⟩:=J59 F.ok F.ne F.np F.okl F.ret F.twr own A c (due:=T.getD j 0 + (t:Int) * T.getD s.winner 0) (by lia) (by lia)
 obtain ⟨_,_,⟨o',B⟩,_,e⟩:=up (by lia) (t:Int) (by rw [show T.getD j 0 + (t:Int) * T.getD s.winner 0 - T.getD j 0=(t:Int) * T.getD s.winner 0 by lia,Int.mul_ediv_cancel _ (by lia)])
 rw [show T.getD j 0 + (t:Int) * T.getD s.winner 0 - T.getD j 0 - (t:Int) * T.getD s.winner 0=0 by lia] at e
 have e:go r y - (t:Int) * lenOf r.ls (s.losers r)=itN f (T.getD j 0 + (t:Int) * T.getD s.winner 0).toNat y:=e
 rw [e,add_nat (by lia) m0,mul_nat (by lia) (by lia),Int.toNat_natCast] at B
 exact ⟨o',B⟩
theorem J4c (F:StepF f r T s) (hh:s.isHome=false) (own:s.own=false) (A:LetAt (s.behind r) y j o) (c:j∈s.losers r) :
  (∀ t:Nat,(t:Int) < s.times→∃ o',LetAt r (itN f (t * (T.getD s.winner 0).toNat) y) s.winner o')∧∃ o',LetAt r (itN f (s.times.toNat * (T.getD s.winner 0).toNat) y) j o':=by
 have w2:=F.win.2.1
 have t1:=F.tms.1
 have jp:=F.twr.pos j (F.down.sub j A.1)
 have go1:∀ t:Nat,1≤t→(t:Int)≤s.times→∃ o',LetAt r (itN f (t * (T.getD s.winner 0).toNat) y) (if (t:Int)=s.times then j else s.winner) o':=fun t h1 h2=>by
  have m0:0≤(t:Int) * T.getD s.winner 0:=Int.mul_nonneg (by lia) (by lia)
  have m1:(t:Int) * T.getD s.winner 0≤T.getD s.winner 0 * s.times:=by
   rw [Int.mul_comm];exact Int.mul_le_mul_of_nonneg_left h2 (by lia)
  obtain ⟨_,up⟩:=lift_last F.ok F.ne F.np F.okl F.ret F.twr hh own A c (due:=(t:Int) * T.getD s.winner 0) m0 (by lia)
  obtain ⟨⟨o',B⟩,_,e⟩:=up (t:Int) (by lia) h2 (Int.le_refl _) (fun _=>by rw [Int.add_mul,Int.one_mul];lia)
  rw [show (t:Int) * T.getD s.winner 0 - (t:Int) * T.getD s.winner 0=0 by lia] at e
  have e:go r y + ((t:Int) - 1) * lenOf r.ls (s.losers r)=itN f ((t:Int) * T.getD s.winner 0).toNat y:=e
  rw [e,mul_nat (by lia) (by lia),Int.toNat_natCast] at B
  exact ⟨o',B⟩
 have m2:=Int.mul_nonneg (show 0≤T.getD s.winner 0 by lia) (show 0≤s.times by lia)
 refine ⟨fun t ht=>?_,?_⟩
 ·by_cases c0:t=0
  ·subst c0
   rw [Nat.zero_mul]
   exact (lift_last F.ok F.ne F.np F.okl F.ret F.twr hh own A c (due:=0) (by lia) (by lia)).1
  ·obtain ⟨o',B⟩:=go1 t (by lia) (by lia)
   rw [if_neg (by lia)] at B
   exact ⟨o',B⟩
 ·obtain ⟨o',B⟩:=go1 s.times.toNat (by lia) (by lia)
  rw [if_pos (by lia)] at B
  exact ⟨o',B⟩
theorem times_nat (F:StepF f r T s):(s.times.toNat:Int)=s.times:=by have:=F.tms.1;lia
theorem J3m (F:StepF f r T s) (U:Uni f pc r T) (own:s.own=true) (A:LetAt (s.behind r) y j o) (c:j∈s.losers r) {n:Nat} (h0:T.getD j 0≤n) (h1:(n:Int)≤T.getD j 0 + T.getD s.winner 0 * s.times) :
  ∃ t d:Nat,(n:Int)=T.getD j 0 + (t:Int) * T.getD s.winner 0 + d∧(d:Int) < T.getD s.winner 0∧(t:Int)≤s.times∧((t:Int)=s.times→d=0)∧∀ p,vis f pc p n y=Vv f pc r T p j + (t:Int) * Vv f pc r T p s.winner + vis f pc p d (itN f ((T.getD j 0).toNat + t * (T.getD s.winner 0).toNat) y):=by
 obtain ⟨⟨o0,A0⟩,wf⟩:=J4d F own A c
 have w2:=F.win.2.1
 have t1:=F.tms.1
 have jp:=F.twr.pos j A0.1
 generalize hW:T.getD s.winner 0=W at *
 generalize hJ:T.getD j 0=J at *
 obtain ⟨q,hq⟩:∃ q:Nat,(q:Int)=((n:Int) - J) / W:=⟨(((n:Int) - J) / W).toNat,by have:=Int.ediv_nonneg (show 0≤(n:Int) - J by lia) (show 0≤W by lia);lia⟩
 obtain ⟨d,hd⟩:∃ d:Nat,(d:Int)=((n:Int) - J) % W:=⟨(((n:Int) - J) % W).toNat,by have:=Int.emod_nonneg ((n:Int) - J) (show W≠0 by lia);lia⟩
 have e:=Int.mul_ediv_add_emod ((n:Int) - J) W
 have dl:=Int.emod_lt_of_pos ((n:Int) - J) (show 0 < W by lia)
 rw [← hq,← hd,Int.mul_comm] at e
 rw [← hd] at dl
 have ql:(q:Int)≤s.times:=by
  apply Classical.byContradiction
  intro hc
  have:=Int.mul_le_mul_of_nonneg_right (show s.times + 1≤(q:Int) by lia) (show 0≤W by lia)
  rw [Int.add_mul,Int.one_mul,Int.mul_comm s.times] at this
  lia
 refine ⟨q,d,by lia,dl,ql,fun h=>?_,fun p=>?_⟩
 ·rw [h,Int.mul_comm] at e;lia
 ·have en:n=(J.toNat + q * W.toNat) + d:=by
   have e2:((q * W.toNat:Nat):Int)=(q:Int) * W:=by rw [Int.natCast_mul,Int.toNat_of_nonneg (show 0≤W by lia)]
   lia
  have ch:=U.chain F.ok (w:=s.winner) (y:=y) (a:=J.toNat) (by lia) p q (fun i hi=>by rw [hW];exact wf i (by lia))
  rw [hW] at ch
  rw [en,vis_add,ch]
  have ea:=U.all F.ok A0 (by lia) p
  rw [hJ] at ea
  rw [ea]
theorem J2z (F:StepF f r T s) (U:Uni f pc r T) (hh:s.isHome=false) (own:s.own=false) (A:LetAt (s.behind r) y j o) (c:j∈s.losers r) {n t:Nat} (ht:(t:Int)≤s.times) (h0:(t:Int) * T.getD s.winner 0≤n) {d:Nat} (hd:(n:Int)=(t:Int) * T.getD s.winner 0 + d) (p:Nat) :
  vis f pc p n y=(t:Int) * Vv f pc r T p s.winner + vis f pc p d (itN f (t * (T.getD s.winner 0).toNat) y):=by
 obtain ⟨wf,_⟩:=J4c F hh own A c
 have w2:=F.win.2.1
 have en:n=t * (T.getD s.winner 0).toNat + d:=by
  have e2:((t * (T.getD s.winner 0).toNat:Nat):Int)=(t:Int) * T.getD s.winner 0:=by rw [Int.natCast_mul,Int.toNat_of_nonneg (show 0≤T.getD s.winner 0 by lia)]
  lia
 have ch:=U.chain F.ok (w:=s.winner) (y:=y) (a:=0) (by lia) p t (fun i hi=>by rw [Nat.zero_add];exact wf i (by lia))
 rw [Nat.zero_add] at ch
 rw [en,vis_add,ch]
 show (0:Int) + _ + _=_
 lia
end
section
variable {f:Int→Int} {pc:Int→Nat} {r:Rst} {T:List Int}
theorem home_los0 {s:Stp} {r:Rst} {j:Nat} (h:j∈s.losers r):s.isHome=false:=by
 cases s with
 | home a=>cases h
 | even a b=>rfl
 | over a b=>rfl
 | under a b=>rfl
 | overs a t=>rfl
 | unders a t=>rfl
theorem Uni.next (F:StepF f r T (nextN r)) (U:Uni f pc r T):Uni f pc ((nextN r).behind r) (towB (nextN r) r T):=by
 intro p j y o y' o' n A A' hn
 rw [J3u F.ok F.ne F.len A.1] at hn
 by_cases c:j∈(nextN r).losers r
 ·rw [if_pos c] at hn
  have hh:=home_los0 c
  have w2:=F.win.2.1
  have t1:=F.tms.1
  cases own:(nextN r).own with
  | true =>
   obtain ⟨⟨o0,A0⟩,wf⟩:=J4d F own A c
   obtain ⟨⟨o0',A0'⟩,wf'⟩:=J4d F own A' c
   by_cases h0:(n:Int)≤T.getD j 0
   ·exact U p j y _ y' _ n A0 A0' h0
   ·obtain ⟨t,d,e1,e2,e3,e4,e5⟩:=J3m F U own A c (n:=n) (by lia) hn
    obtain ⟨t',d',e1',e2',e3',e4',e5'⟩:=J3m F U own A' c (n:=n) (by lia) hn
    have g1:((n:Int) - T.getD j 0) / T.getD (nextN r).winner 0=t:=by
     rw [show (n:Int) - T.getD j 0=(d:Int) + T.getD (nextN r).winner 0 * t by rw [Int.mul_comm];lia,Int.add_mul_ediv_left _ _ (by lia),Int.ediv_eq_zero_of_lt (by lia) e2];lia
    have g2:((n:Int) - T.getD j 0) / T.getD (nextN r).winner 0=t':=by
     rw [show (n:Int) - T.getD j 0=(d':Int) + T.getD (nextN r).winner 0 * t' by rw [Int.mul_comm];lia,Int.add_mul_ediv_left _ _ (by lia),Int.ediv_eq_zero_of_lt (by lia) e2'];lia
    obtain rfl:t=t':=by lia
    obtain rfl:d=d':=by lia
    rw [e5,e5']
    by_cases ct:(t:Int)=(nextN r).times
    ·rw [e4 ct];rfl
    ·obtain ⟨o1,B⟩:=wf t (by lia)
     obtain ⟨o1',B'⟩:=wf' t (by lia)
     rw [U p _ _ _ _ _ d B B' (by lia)]
  | false =>
   obtain ⟨wf,⟨oe,E⟩⟩:=J4c F hh own A c
   obtain ⟨wf',⟨oe',E'⟩⟩:=J4c F hh own A' c
   generalize hW:T.getD (nextN r).winner 0=W at *
   by_cases ct:(nextN r).times * W≤n
   ·obtain ⟨d,hd⟩:∃ d:Nat,(n:Int)=(nextN r).times * W + d:=⟨((n:Int) - (nextN r).times * W).toNat,by lia⟩
    have tn:=times_nat F
    have g1:=J2z F U hh own A c (n:=n) (t:=(nextN r).times.toNat) (d:=d) (by lia) (by rw [tn,hW];exact ct) (by rw [tn,hW];exact hd) p
    have g2:=J2z F U hh own A' c (n:=n) (t:=(nextN r).times.toNat) (d:=d) (by lia) (by rw [tn,hW];exact ct) (by rw [tn,hW];exact hd) p
    rw [hW] at g1 g2
    rw [Int.mul_comm] at hd
    rw [g1,g2,U p _ _ _ _ _ d E E' (by lia)]
   ·obtain ⟨q,hq⟩:∃ q:Nat,(q:Int)=(n:Int) / W:=⟨((n:Int) / W).toNat,by have:=Int.ediv_nonneg (show 0≤(n:Int) by lia) (show 0≤W by lia);lia⟩
    obtain ⟨d,hd⟩:∃ d:Nat,(d:Int)=(n:Int) % W:=⟨((n:Int) % W).toNat,by have:=Int.emod_nonneg (n:Int) (show W≠0 by lia);lia⟩
    have e:=Int.mul_ediv_add_emod (n:Int) W
    have dl:=Int.emod_lt_of_pos (n:Int) (show 0 < W by lia)
    rw [← hq,← hd,Int.mul_comm] at e
    have ql:(q:Int) < (nextN r).times:=by
     apply Classical.byContradiction
     intro hc
     have:=Int.mul_le_mul_of_nonneg_right (show (nextN r).times≤(q:Int) by lia) (show 0≤W by lia)
     lia
    have g1:=J2z F U hh own A c (n:=n) (t:=q) (d:=d) (by lia) (by rw [hW];lia) (by rw [hW];lia) p
    have g2:=J2z F U hh own A' c (n:=n) (t:=q) (d:=d) (by lia) (by rw [hW];lia) (by rw [hW];lia) p
    obtain ⟨o1,B⟩:=wf q (by lia)
    obtain ⟨o1',B'⟩:=wf' q (by lia)
    rw [hW] at g1 g2
    rw [g1,g2,U p _ _ _ _ _ d B B' (by lia)]
 ·rw [if_neg c,Int.add_zero] at hn
  obtain ⟨o1,B⟩:=J3o F.np F.ret A c
  obtain ⟨o1',B'⟩:=J3o F.np F.ret A' c
  exact U p j y _ y' _ n B B' hn
theorem Vv_next (F:StepF f r T (nextN r)) (U:Uni f pc r T) (p:Nat) {j:Nat} (hj:j∈((nextN r).behind r).top) :
  Vv f pc ((nextN r).behind r) (towB (nextN r) r T) p j=Vv f pc r T p j + (if j∈(nextN r).losers r then Vv f pc r T p (nextN r).winner * (nextN r).times else 0):=by
 have A:=J4t F.okl hj
 have w2:=F.win.2.1
 have t1:=F.tms.1
 have tn:=times_nat F
 unfold Vv
 rw [J3u F.ok F.ne F.len hj]
 by_cases c:j∈(nextN r).losers r
 ·rw [if_pos c,if_pos c]
  have hh:=home_los0 c
  have jp:=F.twr.pos j (F.down.sub j hj)
  have mp:=Int.mul_nonneg (show 0≤T.getD (nextN r).winner 0 by lia) (show 0≤(nextN r).times by lia)
  obtain ⟨n,hn⟩:∃ n:Nat,(n:Int)=T.getD j 0 + T.getD (nextN r).winner 0 * (nextN r).times:=⟨(T.getD j 0 + T.getD (nextN r).winner 0 * (nextN r).times).toNat,by lia⟩
  rw [← hn,Int.toNat_natCast]
  cases own:(nextN r).own with
  | true =>
   obtain ⟨t,d,e1,e2,e3,e4,e5⟩:=J3m F U own A c (n:=n) (by lia) (by lia)
   have:(t:Int)=(nextN r).times:=by
    apply Classical.byContradiction
    intro hc
    have:=Int.mul_le_mul_of_nonneg_right (show (t:Int) + 1≤(nextN r).times by lia) (show 0≤T.getD (nextN r).winner 0 by lia)
    rw [Int.add_mul,Int.one_mul,Int.mul_comm (nextN r).times] at this
    lia
   rw [e5 p,e4 this,this,Int.mul_comm (nextN r).times]
   show Vv f pc r T p j + Vv f pc r T p (nextN r).winner * _ + 0=_
   unfold Vv;lia
  | false =>
   obtain ⟨_,⟨oe,E⟩⟩:=J4c F hh own A c
   have g1:=J2z F U hh own A c (n:=n) (t:=(nextN r).times.toNat) (d:=(T.getD j 0).toNat) (by lia) (by rw [tn,Int.mul_comm];lia) (by rw [tn,Int.mul_comm];lia) p
   rw [g1,U.all F.ok E (by lia),tn,Int.mul_comm]
   unfold Vv;lia
 ·rw [if_neg c,if_neg c,Int.add_zero,Int.add_zero]
  obtain ⟨o1,B⟩:=J3o F.np F.ret A c
  exact U p j _ _ _ _ _ B (J4t F.ok B.1) (by have:=F.twr.pos j B.1;lia)
end
def sumV (c:List Int) (X:Nat→Int):Int:=((List.range c.length).map fun i=>c.getD i 0 * X i).sum
theorem J2x (X Y:Nat→Int):∀ l:List Nat,(l.map fun i=>X i + Y i).sum=(l.map X).sum + (l.map Y).sum
 | []=>rfl
 | a :: l=>by simp only [List.map_cons,List.sum_cons,J2x X Y l];lia
theorem J2w {X Y:Nat→Int}:∀ {l:List Nat},(∀ i∈l,X i=Y i)→(l.map X).sum=(l.map Y).sum
 | [],_=>rfl
 | a :: l,h=>by simp only [List.map_cons,List.sum_cons];rw [h a List.mem_cons_self,J2w fun i hi=>h i (List.mem_cons_of_mem _ hi)]
theorem J34 {X:Nat→Int}:∀ {l:List Nat},(∀ i∈l,X i=0)→(l.map X).sum=0
 | [],_=>rfl
 | a :: l,h=>by simp only [List.map_cons,List.sum_cons];rw [h a List.mem_cons_self,J34 fun i hi=>h i (List.mem_cons_of_mem _ hi)];rfl
theorem J4f {z:Int} {w:Nat}:∀ {l:List Nat},l.Nodup→w∈l→(l.map fun i=>if i=w then z else 0).sum=z
 | a :: l,nd,hw=>by
  have n:=List.nodup_cons.mp nd
  simp only [List.map_cons,List.sum_cons]
  by_cases e:a=w
  ·rw [if_pos e,J34 fun i hi=>if_neg fun (q:i=w)=>n.1 (by rw [e,← q];exact hi)];lia
  ·rw [if_neg e,J4f n.2 (by rcases List.mem_cons.mp hw with q | q;exact absurd q.symm e;exact q)];lia
theorem sumV_set {c:List Int} {X:Nat→Int} {j:Nat} {a:Int} (hj:j < c.length):sumV (c.set j (c.getD j 0 + a)) X=sumV c X + a * X j:=by
 unfold sumV
 rw [List.length_set]
 rw [← J4f (z:=a * X j) (w:=j) (List.nodup_range (n:=c.length)) (List.mem_range.mpr hj),← J2x]
 refine J2w fun i hi=>?_
 rw [List.getD_eq_getElem?_getD,List.getElem?_set]
 by_cases e:j=i
 ·subst e
  rw [if_pos rfl,if_pos hj,if_pos rfl]
  show (c.getD j 0 + a) * X j=_
  rw [Int.add_mul]
 ·rw [if_neg e,if_neg (fun q=>e q.symm),← List.getD_eq_getElem?_getD];lia
theorem sumL_mul (c:List Int) (z:Int):∀ {L l:List Nat},L.Nodup→l.Nodup→(∀ i∈L,i∈l)→(l.map fun i=>c.getD i 0 * (if i∈L then z else 0)).sum=(L.map fun i=>c.getD i 0).sum * z
 | [],l,_,_,_=>by rw [J34 fun i _=>by simp];simp
 | a :: L,l,nd,nl,h=>by
  have n:=List.nodup_cons.mp nd
  have ih:=sumL_mul c z (L:=L) (l:=l) n.2 nl fun i hi=>h i (List.mem_cons_of_mem _ hi)
  simp only [List.map_cons,List.sum_cons]
  rw [Int.add_mul,← ih,← J4f (z:=c.getD a 0 * z) (w:=a) nl (h a List.mem_cons_self),← J2x]
  refine J2w fun i hi=>?_
  by_cases e:i=a
  ·subst e
   rw [if_pos List.mem_cons_self,if_pos rfl,if_neg n.1];lia
  ·rw [if_neg e]
   by_cases q:i∈L
   ·rw [if_pos (List.mem_cons_of_mem _ q),if_pos q];lia
   ·rw [if_neg q,if_neg (fun m=>by rcases List.mem_cons.mp m with x | x;exact e x;exact q x)];lia
theorem sumV_up {c:List Int} {X X':Nat→Int} {top L:List Nat} {w:Nat} {t:Int} (zr:∀ i,i < c.length→i ∉ top→c.getD i 0=0) (nd:L.Nodup) (hL:∀ i∈L,i∈top∧i < c.length) (hX:∀ i∈top,X' i=X i + (if i∈L then X w * t else 0)) :
  sumV c X'=sumV c X + (L.map fun i=>c.getD i 0).sum * (X w * t):=by
 unfold sumV
 rw [← sumL_mul c (X w * t) nd (List.nodup_range (n:=c.length)) (fun i hi=>List.mem_range.mpr (hL i hi).2),← J2x]
 refine J2w fun i hi=>?_
 by_cases e:i∈top
 ·rw [hX i e,Int.mul_add]
 ·rw [zr i (List.mem_range.mp hi) e];simp
theorem sumV_le {c:List Int} {X:Nat→Int} (h0:∀ i,i < c.length→0≤c.getD i 0) (x0:∀ i,i < c.length→0≤X i) {j:Nat} (hj:j < c.length):c.getD j 0 * X j≤sumV c X:=by
 unfold sumV
 have:∀ l:List Nat,(∀ i∈l,i < c.length)→0≤(l.map fun i=>c.getD i 0 * X i).sum∧(j∈l→c.getD j 0 * X j≤(l.map fun i=>c.getD i 0 * X i).sum):=by
  intro l
  induction l with
  | nil=>exact fun _=>⟨Int.le_refl _,fun h=>by cases h⟩
  | cons a l ih =>
   intro h
   have ⟨i1,i2⟩:=ih fun i hi=>h i (List.mem_cons_of_mem _ hi)
   have a0:=Int.mul_nonneg (h0 a (h a List.mem_cons_self)) (x0 a (h a List.mem_cons_self))
   simp only [List.map_cons,List.sum_cons]
   refine ⟨by lia,fun hm=>?_⟩
   rcases List.mem_cons.mp hm with e | e
   ·subst e;lia
   ·have:=i2 e;lia
 exact (this _ fun i hi=>List.mem_range.mp hi).2 (List.mem_range.mpr hj)
structure PartP (f:Int→Int) (pc:Int→Nat) (r:Rst) (T:List Int) (s:Stp) (y:Int) (j:Nat) (due own tms:Int) (j':Nat) (due' y':Int):Prop where
 at_:∃ o,LetAt r y' j' o
 d:0≤due'∧due' < T.getD j' 0
 it:itN f due'.toNat y'=itN f due.toNat y
 vs:∀ p,vis f pc p due.toNat y=own * Vv f pc r T p j + tms * Vv f pc r T p s.winner + vis f pc p due'.toNat y'
 sum:due=own * T.getD j 0 + tms * T.getD s.winner 0 + due'
 o:own=0∨own=1
 t:0≤tms∧tms≤s.times
 nh:(own=0∧tms=0)∨s.isHome=false
 own1:own=1→s.own=true
 go_:y'=if own=0∧tms=0 then y else if s.own=true then go r y - tms * lenOf r.ls (s.losers r) else go r y + (tms - 1) * lenOf r.ls (s.losers r)
structure Tal (f:Int→Int) (pc:Int→Nat) (r:Rst) (T:List Int) (tot:Nat→Int) (g:Int) (c:List Int) (j:Nat) (due y:Int):Prop where
 len:c.length=T.length
 zr:∀ i,i < c.length→i ∉ r.top→c.getD i 0=0
 nn:∀ i,i < c.length→0≤c.getD i 0
 at_:∃ o,LetAt r y j o
 d:0≤due∧due < T.getD j 0
 sum:sumV c (fun i=>T.getD i 0) + due=g
 vs:∀ p,sumV c (Vv f pc r T p) + vis f pc p due.toNat y=tot p
section
variable {f:Int→Int} {pc:Int→Nat} {r:Rst} {T:List Int} {tot:Nat→Int} {g due y:Int} {c:List Int} {j:Nat}
theorem J3d {c:List Int} {w:Nat} {a:Int} (h:w < c.length):(c.set w a).getD w 0=a:=by rw [List.getD_eq_getElem?_getD,List.getElem?_set,if_pos rfl,if_pos h];rfl
theorem J2f {c:List Int} {w i:Nat} {a:Int} (h:i≠w):(c.set w a).getD i 0=c.getD i 0:=by rw [List.getD_eq_getElem?_getD,List.getElem?_set,if_neg (Ne.symm h),List.getD_eq_getElem?_getD]
theorem Tal.le (h:Tal f pc r T tot g c j due y) (W:Twr f r T) (tz:∀ i,i < T.length→0≤T.getD i 0) {i:Nat} (hi:i < c.length):c.getD i 0≤g:=by
 have g0:=sumV_le (X:=fun i=>T.getD i 0) h.nn (fun i hi=>tz i (by have:=h.len;lia)) hi
 have n0:=h.nn i hi
 have s:=h.sum
 have d:=h.d.1
 by_cases e:i∈r.top
 ·have:=Int.mul_le_mul_of_nonneg_left (W.pos i e) n0
  have g0:c.getD i 0 * T.getD i 0≤_:=g0
  lia
 ·have:=h.zr i hi e
  have g0:c.getD i 0 * T.getD i 0≤_:=g0
  rw [this,Int.zero_mul] at g0
  lia
theorem lost_le {L:List Nat} (h0:∀ i∈L,0≤c.getD i 0∧c.getD i 0≤g):0≤(L.map fun i=>c.getD i 0).sum∧(L.map fun i=>c.getD i 0).sum≤L.length * g:=by
 induction L with
 | nil=>simp
 | cons a L ih =>
  have:=ih fun i hi=>h0 i (List.mem_cons_of_mem _ hi)
  have a1:=h0 a List.mem_cons_self
  simp only [List.map_cons,List.sum_cons,List.length_cons]
  rw [show ((L.length + 1:Nat):Int)=(L.length:Int) + 1 by lia,Int.add_mul,Int.one_mul]
  lia
theorem Tal.up (F:StepF f r T (nextN r)) (U:Uni f pc r T) (hL:∀ i∈(nextN r).losers r,i∈((nextN r).behind r).top) (nd:((nextN r).losers r).Nodup) (h:Tal f pc ((nextN r).behind r) (towB (nextN r) r T) tot g c j due y)
  {own tms due' y':Int} {j':Nat} (Pt:PartP f pc r T (nextN r) y j due own tms j' due' y') {c1 c2:List Int} (e1:c1=c.set j (c.getD j 0 + own)) (e2:c2=c1.set (nextN r).winner (c1.getD (nextN r).winner 0 + (nextN r).times * (((nextN r).losers r).map fun i=>c.getD i 0).sum + tms)) :
  Tal f pc r T tot g c2 j' due' y':=by
 have w1:=F.win.1
 have t1:=F.tms.1
 have wl:=F.ok.row.lt _ w1
 have hlen:=h.len
 rw [towB_len] at hlen
 obtain ⟨o,A⟩:=h.at_
 have jt:=F.down.sub j A.1
 have jl:=F.ok.row.lt _ jt
 have tl:=F.len
 have l1:c1.length=c.length:=by rw [e1,List.length_set]
 have l2:c2.length=c.length:=by rw [e2,List.length_set,l1]
 have lo:=(lost_le (c:=c) (g:=g) (L:=(nextN r).losers r) fun i hi=>⟨h.nn i (by have:=F.ok.row.lt _ (F.down.sub i (hL i hi));lia),?_⟩).1
 rotate_left
 ·have ib:=hL i hi
  have il:=F.ok.row.lt _ (F.down.sub i ib)
  have g0:=sumV_le (X:=fun i=>(towB (nextN r) r T).getD i 0) h.nn (fun q hq=>?_) (show i < c.length by lia)
  ·have n0:=h.nn i (by lia)
   have tp:1≤(towB (nextN r) r T).getD i 0:=by
    rw [J3u F.ok F.ne F.len ib]
    have:=F.twr.pos i (F.down.sub i ib)
    have w2:=F.win.2.1
    have:=Int.mul_nonneg (show 0≤T.getD (nextN r).winner 0 by lia) (show 0≤(nextN r).times by lia)
    split <;> lia
   have:=Int.mul_le_mul_of_nonneg_left tp n0
   have s:=h.sum
   have d:=h.d.1
   have g0:c.getD i 0 * (towB (nextN r) r T).getD i 0≤_:=g0
   lia
  ·rw [towB_get _ _ _ (by lia)]
   by_cases q2:q∈((nextN r).behind r).top
   ·rw [if_pos q2]
    have:=F.twr.pos q (F.down.sub q q2)
    have w2:=F.win.2.1
    have:=Int.mul_nonneg (show 0≤T.getD (nextN r).winner 0 by lia) (show 0≤(nextN r).times by lia)
    split <;> lia
   ·rw [if_neg q2];exact Int.le_refl _
 generalize hlo:(((nextN r).losers r).map fun i=>c.getD i 0).sum=lost at *
 have lt0:0≤(nextN r).times * lost:=Int.mul_nonneg (by lia) lo
 have sums:∀ (X X':Nat→Int),(∀ i∈((nextN r).behind r).top,X' i=X i + (if i∈(nextN r).losers r then X (nextN r).winner * (nextN r).times else 0))→sumV c2 X=sumV c X' + own * X j + tms * X (nextN r).winner:=fun X X' hX=>by
  have u:=sumV_up (c:=c) (X:=X) (X':=X') (top:=((nextN r).behind r).top) (L:=(nextN r).losers r) (w:=(nextN r).winner) (t:=(nextN r).times) h.zr nd (fun i hi=>⟨hL i hi,by have:=F.ok.row.lt _ (F.down.sub i (hL i hi));lia⟩) hX
  rw [hlo] at u
  rw [e2,Int.add_assoc,sumV_set (by rw [l1];lia),e1,sumV_set (by lia),u,Int.add_mul,show (nextN r).times * lost * X (nextN r).winner=lost * (X (nextN r).winner * (nextN r).times) by rw [Int.mul_comm (nextN r).times,Int.mul_assoc,Int.mul_comm (nextN r).times]]
  lia
 refine ⟨by lia,fun i hi hn=>?_,fun i hi=>?_,Pt.at_,Pt.d,?_,fun p=>?_⟩
 ·have iw:i≠(nextN r).winner:=fun e=>hn (e ▸ w1)
  have ij:i≠j:=fun e=>hn (e ▸ jt)
  rw [e2,J2f iw,e1,J2f ij]
  exact h.zr i (by lia) fun q=>hn (F.down.sub i q)
 ·have n1:∀ q,q < c.length→0≤c1.getD q 0:=fun q hq=>by
   rw [e1]
   have n0:=h.nn q hq
   by_cases e:q=j
   ·subst e
    rw [J3d hq]
    rcases Pt.o with e | e <;> lia
   ·rw [J2f e];exact n0
  rw [e2]
  by_cases e:i=(nextN r).winner
  ·subst e
   rw [J3d (by lia)]
   have:=n1 (nextN r).winner (by lia)
   have:=Pt.t.1
   lia
  ·rw [J2f e];exact n1 i (by lia)
 ·rw [sums (fun i=>T.getD i 0) (fun i=>(towB (nextN r) r T).getD i 0) fun i hi=>J3u F.ok F.ne F.len hi]
  have:=h.sum
  have:=Pt.sum
  lia
 ·rw [sums (Vv f pc r T p) (Vv f pc ((nextN r).behind r) (towB (nextN r) r T) p) fun i hi=>Vv_next F U p hi]
  have:=h.vs p
  have:=Pt.vs p
  lia
end
end Rl
namespace Rl
section
variable {f:Int→Int} {N:Int} {bs:List Band}
structure RndOf (f:Int→Int) (x:Int) (n:Nat):Prop where
 pos:0 < n
 back:itN f n x=x
 least:∀ i,0 < i→i < n→itN f i x≠x
theorem RndOf.mul {x:Int} {n:Nat} (R:RndOf f x n):∀ k,itN f (k * n) x=x
 | 0=>by rw [Nat.zero_mul];rfl
 | k + 1=>by rw [Nat.succ_mul,J1o,R.mul k,R.back]
theorem RndOf.mod {x:Int} {n:Nat} (R:RndOf f x n) (m:Nat):itN f m x=itN f (m % n) x:=by
 have e:m=(m / n) * n + m % n:=by rw [Nat.mul_comm];exact (Nat.div_add_mod m n).symm
 conv=>lhs;rw [e]
 rw [J1o,R.mul]
end
end Rl
namespace Rl
theorem high_sum {f:Int→Int}:∀ {bs:List Band},(∀ b∈bs,Bnd f b)→∀ b∈bs,b.2.1 * b.2.2.1≤(bs.map fun b=>b.2.1 * b.2.2.1).sum
 | c :: bs,h,b,hb=>by
  have nn:∀ d∈c :: bs,0≤d.2.1 * d.2.2.1:=fun d hd=>Int.mul_nonneg (by have:=(h d hd).1;lia) (by have:=(h d hd).2.1;lia)
  have ns:0≤(bs.map fun b=>b.2.1 * b.2.2.1).sum:=by
   clear hb
   have h2:∀ d∈bs,0≤d.2.1 * d.2.2.1:=fun d hd=>nn d (List.mem_cons_of_mem _ hd)
   clear nn h
   induction bs with
   | nil=>exact Int.le_refl _
   | cons d bs ih =>
    rw [List.map_cons,List.sum_cons]
    have:=h2 d List.mem_cons_self
    have:=ih fun e he=>h2 e (List.mem_cons_of_mem _ he)
    lia
  rw [List.map_cons,List.sum_cons]
  rcases List.mem_cons.mp hb with rfl | hb
  ·lia
  ·have:=high_sum (bs:=bs) (fun d hd=>h d (List.mem_cons_of_mem _ hd)) b hb
   have:=nn c List.mem_cons_self
   lia
theorem Sys.high {f:Int→Int} {N:Int} {bs:List Band} (S:Sys f N bs) {b:Nat} (hb:b < bs.length):1≤(bs.getD b bz0).2.2.1∧(bs.getD b bz0).2.2.1≤N:=by
 have B:=S.bnd _ (bz_mem hb)
 have h:=high_sum S.bnd _ (bz_mem hb)
 rw [S.sum] at h
 have w:=B.1
 have h1:=B.2.1
 have:1 * (bs.getD b bz0).2.2.1≤(bs.getD b bz0).2.1 * (bs.getD b bz0).2.2.1:=Int.mul_le_mul_of_nonneg_right w (by lia)
 exact ⟨h1,by lia⟩
end Rl
namespace Rl
def Rch (f:Int→Int) (x y:Int):Prop:=∃ n,itN f n x=y
theorem Rch.trans {f:Int→Int} {x y z:Int} (h:Rch f x y) (k:Rch f y z):Rch f x z:=by
 obtain ⟨n,rfl⟩:=h
 obtain ⟨m,rfl⟩:=k
 exact ⟨n + m,J1o ..⟩
end Rl
namespace PySem
namespace F
end F
end PySem
namespace L2
open PySem PyProof.Rows
end L2
namespace R48
open PySem L2 Rl
def top (i:Nat):Stmt:=PySem.Challenge.pw_relaid_k48_joins_refused.main.body.getD i (.Pass ⟨0,0,0,0⟩)
abbrev sRefL:Stmt:=top 15
abbrev sRefO:Stmt:=top 16
abbrev sRefT:Stmt:=top 17
abbrev sTold:Stmt:=top 18
abbrev sFirst:Stmt:=top 19
abbrev sStrOf:Stmt:=top 23
abbrev sFirstG:Stmt:=top 24
abbrev sLastG:Stmt:=top 25
abbrev sGoTog:Stmt:=top 26
abbrev sMade1:Stmt:=top 27
abbrev J5s:Stmt:=top 28
abbrev sLineOf:Stmt:=top 29
abbrev sPartsB:Stmt:=top 31
abbrev sJoinS:Stmt:=top 32
abbrev sLineW:Stmt:=top 33
abbrev sJoined:Stmt:=top 34
abbrev sCell:Stmt:=top 36
abbrev sDrawn:Stmt:=top 37
abbrev sLGoes:Stmt:=top 38
abbrev sLComes:Stmt:=top 39
abbrev sLLine:Stmt:=top 40
abbrev sFitted:Stmt:=top 41
abbrev sStarts:Stmt:=top 42
abbrev sAlone:Stmt:=top 43
abbrev sParted:Stmt:=top 44
abbrev sLaw:Stmt:=top 45
abbrev sInit:Stmt:=inClass (top 20) 0
abbrev sSrInit:Stmt:=inClass (top 22) 0
abbrev iV (ns:List Int):List V:=ns.map V.int
abbrev nV (os:List Nat):List V:=(natI os).map V.int
abbrev bV (bs:List Bool):List V:=bs.map V.bl
def SqH (H:Hp) (p:Addr) (xs:List V):Prop:=H p=some (.lst xs)∨H p=some (.tup xs)
theorem SqH.sq {K:PySem.W.Frag} {H:Hp} {p:Addr} {xs:List V} (h:SqH H p xs):SqL K H p xs∨SqT K H p xs:=h.elim (fun h=>.inl (SqL.of h)) fun h=>.inr (SqT.of h)
theorem SqH.same {H H':Hp} {p:Addr} {xs:List V} (h:SqH H p xs) (s:Same H H'):SqH H' p xs:=h.elim (fun h=>.inl (s _ _ h)) fun h=>.inr (s _ _ h)
theorem J6 {H:Hp} {l:Addr} {o:HO} (h:H l=none):Same H (upd H l o):=fun b u e=>by rw [Jf (J9 e h)];exact e
theorem iteD {c A B:Prop} [Decidable c] (hc:¬ c) (h:B):if decide c=true then A else B:=by
 rw [decide_eq_false hc];exact iteF h
theorem iteDT {c A B:Prop} [Decidable c] (hc:c) (h:A):if decide c=true then A else B:=by
 rw [decide_eq_true hc];exact iteT h
theorem iteBT {c:Bool} {A B:Prop} (h:c=true) (q:A):if c=true then A else B:=by rw [if_pos h];exact q
theorem iteBF {c:Bool} {A B:Prop} (h:¬ c=true) (q:B):if c=true then A else B:=by rw [if_neg h];exact q
theorem iteND {c A B:Prop} [Decidable c] (hc:¬ c) (h:A):if (!decide c)=true then A else B:=by
 rw [decide_eq_false hc];exact iteT h
theorem J4j {K:PySem.W.Frag} {H:Hp} {p:Addr} {xs:List V} {Q:VK} (h:SqH H p xs) (k:∀ l H',Same H H'→H' l=some (.tup xs)→Q (.ref l) H'):rTup K [V.ref p] H Q:=by
 unfold rTup
 rcases h with h | h
 ·exact ⟨p,xs,rfl,.inl ⟨SqL.of h,fun l hl=>k l _ (J6 hl) J1⟩⟩
 ·exact ⟨p,xs,rfl,.inr ⟨SqT.of h,k p H (Same.refl _) h⟩⟩
theorem vint_ne {i j:Int} (h:i≠j):¬ V.int i=V.int j:=fun e=>h (V.int.inj e)
theorem ixN_nat {n o:Nat} (h:o < n):ixN n (o:Int)=some o:=by
 unfold ixN
 rw [if_pos (by lia),if_pos (by lia)]
 simp
theorem J1z {ns:List Int} {j:Nat} (h:j < ns.length):(iV ns)[j]?=some (V.int (ns.getD j 0)):=by
 rw [List.getElem?_map,List.getElem?_eq_getElem h,List.getD_eq_getElem?_getD,List.getElem?_eq_getElem h];rfl
theorem iV_set (ns:List Int) (j:Nat) (z:Int):(iV ns).set j (V.int z)=iV (ns.set j z):=by
 show (ns.map V.int).set j (V.int z)=(ns.set j z).map V.int
 rw [List.map_set]
theorem nV_get {os:List Nat} {j:Nat} {y:V} (h:(nV os)[j]?=some y):j < os.length∧y=V.int (os.getD j 0:Nat)∧os.getD j 0∈os:=by
 have hj:j < os.length:=by
  have:=(List.getElem?_eq_some_iff.mp h).1
  simpa [natI] using this
 refine ⟨hj,?_,?_⟩
 ·rw [List.getElem?_map] at h
  unfold natI at h
  rw [List.getElem?_map,List.getElem?_eq_getElem hj] at h
  rw [List.getD_eq_getElem?_getD,List.getElem?_eq_getElem hj]
  exact (Option.some.inj h).symm
 ·rw [List.getD_eq_getElem?_getD,List.getElem?_eq_getElem hj]
  exact List.getElem_mem hj
theorem flat_zero (n:Nat):(List.replicate n [V.int 0]).flatten=iV (List.replicate n 0):=by
 induction n with
 | zero=>rfl
 | succ n ih=>rw [List.replicate_succ,List.flatten_cons,ih,List.replicate_succ];rfl
theorem flat_false (n:Nat):(List.replicate n [V.bl false]).flatten=bV (List.replicate n false):=by
 induction n with
 | zero=>rfl
 | succ n ih=>rw [List.replicate_succ,List.flatten_cons,ih,List.replicate_succ];rfl
theorem J2m {f:Str} {v:V} {fs:List (Str × V)}:(putF f v fs).lookup f=some v:=by rw [J2d,if_pos rfl]
theorem lk_ne {f g:Str} {v:V} {fs:List (Str × V)} (h:¬ g=f):(putF f v fs).lookup g=fs.lookup g:=by rw [J2d,if_neg h]
theorem J66 (ls:List Int):(iV ls).length=ls.length:=List.length_map ..
def KeepX (x:Addr) (H H':Hp):Prop:=∀ b o,H b=some o→b≠x→H' b=some o
theorem KeepX.of {x:Addr} {H H':Hp} (s:Same H H'):KeepX x H H':=fun b o e _=>s b o e
theorem KeepX.trans {x:Addr} {H H1 H2:Hp} (a:KeepX x H H1) (b:KeepX x H1 H2):KeepX x H H2:=fun c o e n=>b c o (a c o e n) n
theorem KeepX.upd {x:Addr} {H:Hp} {o:HO}:KeepX x H (upd H x o):=fun b u e n=>by rw [Jf n];exact e
theorem KeepX.sqH {x p:Addr} {H H':Hp} {xs:List V} (k:KeepX x H H') (h:SqH H p xs) (n:p≠x):SqH H' p xs:=h.elim (fun h=>.inl (k _ _ h n)) fun h=>.inr (k _ _ h n)
theorem SqH.ne {H:Hp} {p x C dx:Addr} {xs:List V} {fs:List (Str × V)} (h:SqH H p xs) (hx:H x=some (.ins C dx fs)):p≠x:=h.elim (fun h=>ne_of h hx (by intro z;cases z)) fun h=>ne_of h hx (by intro z;cases z)
theorem bV_get {ts:List Bool} {j:Nat} (h:j < ts.length):(bV ts)[j]?=some (V.bl (ts.getD j false)):=by
 rw [List.getElem?_map,List.getElem?_eq_getElem h,List.getD_eq_getElem?_getD,List.getElem?_eq_getElem h];rfl
structure TxtX (K:PySem.W.Frag) (mg:Str→Option Value) (x:Str) (CO:Addr):Prop where
 mg:mg x=some (.ref CO)
 ex:PySem.W.excIn K CO bmV "ValueError.__new__"=true
structure TxtR (mg:Str→Option Value):Prop where
 len:mg "len"=none
 sum:mg "sum"=none
 tuple:mg "tuple"=none
 list:mg "list"=none
 range:mg "range"=none
theorem nV_eq (row:List Nat):nV row=row.map fun (j:Nat)=>V.int (j:Int):=by
 show (row.map fun (n:Nat)=>(n:Int)).map V.int=_
 rw [List.map_map];rfl
theorem len_nV (row:List Nat):(nV row).length=row.length:=by rw [nV_eq,List.length_map]
theorem nV_at {row:List Nat} {i:Nat} (h:i < row.length):(nV row)[i]?=some (V.int (row.getD i 0:Nat)):=by
 rw [nV_eq,List.getElem?_map,List.getD_eq_getElem?_getD,List.getElem?_eq_getElem h];rfl
section
variable {P:Program} {w:World} {K:PySem.W.Frag} {mg:Str→Option Value} {base:Heap}
def spFirst:Sp:=fun vs H Q _=>∃ (p q:Addr) (ls:List Int) (os:List Nat),vs=[.ref p,.ref q]∧H p=some (.tup (iV ls))∧SqH H q (nV os)∧(∀ o∈os,o < ls.length)∧ls.length≤24∧
 ∀ l H',Same H H'→H' l=some (.tup (iV (firsts ls os)))→Q (.ref l) H'
theorem scFirst:FnScope ["lengths","order","firsts","place","piece"] ["lengths","order"] (Ja sFirst):=⟨rfl,rfl,rfl,by decide +kernel,rfl,by decide +kernel,by decide +kernel⟩
def PvF (p q fl:Addr) (ls:List Int) (os:List Nat) (H:Hp) (i:Nat) (σ:St) (H2:Hp):Prop :=
 ∃ v,σ=[some (.ref p),some (.ref q),some (.ref fl),some (.int (sumsF ls os i).2),v]∧H2 fl=some (.lst (iV (sumsF ls os i).1))∧H fl=none∧Same H H2
theorem ok_first {f:Addr} {fd:FuncData} (F:Fun K "first_places" "first_places" sFirst f fd) (T:TxtR mg):FnOk P w K mg base CX0 1 f fd ["lengths","order"] spFirst:=by
 refine F.ok scFirst (fun vs H Q E h=>?_) (fun cdv A outer s H vs Q E hr h=>?_)
 ·obtain ⟨p,q,ls,os,rfl,_⟩:=h
  rfl
 ·obtain ⟨p,q,ls,os,rfl,hp,hq,hlt,hn,k⟩:=h
  have hl:(iV ls).length=ls.length:=List.length_map ..
  have turn:∀ (fl:Addr) (i:Nat) (y:V) (σ:St) (H2:Hp) (D:Ends),(nV os)[i]?=some y→PvF p q fl ls os H i σ H2→D.nx=PvF p q fl ls os H (i + 1)→
    gName 4 y σ H2 fun σ2 H2=>tSeq (tAsg (tVar 3) (gSub (tVar 2) (tVar 4) rSetL)) (tAsg (tOp (rI0 fun i j=>.int (i + j)) (tVar 3) (tOp (rIxT K) (tVar 0) (tVar 4))) (gName 3)) D σ2 H2:=by
   rintro fl i y σ H2 D hy ⟨v,rfl,h1,h2,h3⟩ hD
   obtain ⟨hi,rfl,hm⟩:=nV_get hy
   have ho:=hlt _ hm
   refine ⟨_,rfl,_,rfl,_,rfl,fl,_,_,os.getD i 0,rfl,rfl,h1,ixN_nat (by rw [List.length_map,J2v];exact ho),?_⟩
   refine ⟨_,rfl,_,rfl,_,rfl,p,_,_,_,rfl,rfl,SqT.of (xs:=iV ls) ?_,Jn (J1z ho),_,_,rfl,rfl,?_⟩
   ·rw [Jf (ne_of (h3 _ _ hp) h1 (by intro z;cases z))]
    exact h3 _ _ hp
   ·show D.nx _ _
    rw [hD]
    refine ⟨_,rfl,?_,h2,fun b o e=>?_⟩
    ·rw [J1,iV_set];rfl
    ·rw [Jf (J9 e h2)];exact h3 _ _ e
  have start0:∀ fl,H fl=none→∀ H1,Same H H1→H1 fl=some (.lst (iV (List.replicate ls.length 0)))→PvF p q fl ls os H 0 [some (.ref p),some (.ref q),some (.ref fl),some (.int 0),none] H1:=fun fl h1 H1 h2 h3=>⟨none,rfl,h3,h1,h2⟩
  have done:∀ fl (σ:St) (H2:Hp),PvF p q fl ls os H (nV os).length σ H2→tRet (tCB (rTup K) (tCons (tVar 2) tNil)) { nx:=fun _ H'=>Q .non H',rt:=Q } σ H2:=by
   rintro fl σ H2 ⟨v,rfl,h1,h2,h3⟩
   have e:(nV os).length=os.length:=by simp [natI]
   rw [e] at h1
   exact ⟨_,rfl,J4j (.inl h1) fun l H' s hl=>k l _ (h3.trans s) hl⟩
  have rep:∀ fl,H fl=none→∀ l2,(upd H fl (.lst [V.int 0])) l2=none→PvF p q l2 ls os H 0 [some (.ref p),some (.ref q),some (.ref l2),some (.int 0),none] (upd (upd H fl (.lst [V.int 0])) l2 (.lst (List.replicate ((iV ls).length:Int).toNat [V.int 0]).flatten)):=fun fl hf l2 h2 =>
   start0 l2 ((J6 hf).free h2) _ ((J6 hf).trans (J6 h2)) (by rw [J1,flat_zero,hl];rfl)
  rcases hq with hq | hq
  ·refine ⟨_,J2 (Jq (i:=2) scFirst.nd rfl (Or.inl rfl) (pe_op op_rep (J1w (J0 Je J4)) (J7 Jj (by rfl) T.len PySem.boot_len (J0 (pv 0) J4))))
    (J2 (Jq (i:=3) scFirst.nd rfl (Or.inl rfl) Je)
    (J2 (J3v PassesOwn.never rfl (J24 (pv 1)) (J1e (i:=4) scFirst.nd rfl (Or.inl rfl)) (J2 (J55 (pv 3) (pg_sub (pv 2) (pv 4) J36)) (Jc (Jq (i:=3) scFirst.nd rfl (Or.inl rfl) (pe_op J15 (pv 3) (pe_ix J2a (pv 0) (pv 4) (fun _ _=>rfl)))))))
    (Jc (J1a (J11 J3s (by rfl) T.tuple PyProof.Rows.boot_tuple (J0 (pv 2) J4)))))),?_⟩
   refine ⟨by show 1≤sizeLine;decide,fun fl hf=>⟨_,rfl,p,_,rfl,.inr (SqT.of (J6 hf _ _ hp)),fl,_,[V.int 0],rfl,rfl,J1,by lia,by lia,?_,fun l2 h2=>?_⟩⟩
   ·show 1 * ((iV ls).length:Int).toNat≤sizeLine
    have:=Jx (n:=ls.length) (by lia)
    lia
   ·have p0:=rep fl hf l2 h2
    exact ⟨_,rfl,q,rfl,⟨_,SqL.of (((J6 hf).trans (J6 h2)) _ _ hq)⟩,J2b (K:=K) (a:=q) (xs:=nV os) (PvF p q l2 ls os H) p0 (fun i σ H2 _ ⟨_,_,_,_,s⟩=>SqL.of (s _ _ hq)) (fun i y σ H2 hi pv=>turn l2 i y σ H2 _ hi pv rfl) (fun σ H2 pv=>done l2 σ H2 pv)⟩
  ·refine ⟨_,J2 (Jq (i:=2) scFirst.nd rfl (Or.inl rfl) (pe_op op_rep (J1w (J0 Je J4)) (J7 Jj (by rfl) T.len PySem.boot_len (J0 (pv 0) J4))))
    (J2 (Jq (i:=3) scFirst.nd rfl (Or.inl rfl) Je)
    (J2 (J3v PassesOwn.never rfl (pi_tup (pv 1)) (J1e (i:=4) scFirst.nd rfl (Or.inl rfl)) (J2 (J55 (pv 3) (pg_sub (pv 2) (pv 4) J36)) (Jc (Jq (i:=3) scFirst.nd rfl (Or.inl rfl) (pe_op J15 (pv 3) (pe_ix J2a (pv 0) (pv 4) (fun _ _=>rfl)))))))
    (Jc (J1a (J11 J3s (by rfl) T.tuple PyProof.Rows.boot_tuple (J0 (pv 2) J4)))))),?_⟩
   refine ⟨by show 1≤sizeLine;decide,fun fl hf=>⟨_,rfl,p,_,rfl,.inr (SqT.of (J6 hf _ _ hp)),fl,_,[V.int 0],rfl,rfl,J1,by lia,by lia,?_,fun l2 h2=>?_⟩⟩
   ·show 1 * ((iV ls).length:Int).toNat≤sizeLine
    have:=Jx (n:=ls.length) (by lia)
    lia
   ·have p0:=rep fl hf l2 h2
    exact ⟨_,rfl,q,rfl,⟨_,SqT.of (((J6 hf).trans (J6 h2)) _ _ hq)⟩,for_tup (K:=K) (a:=q) (xs:=nV os) (PvF p q l2 ls os H) p0 (fun i σ H2 _ ⟨_,_,_,_,s⟩=>SqT.of (s _ _ hq)) (fun i y σ H2 hi pv=>turn l2 i y σ H2 _ hi pv rfl) (fun σ H2 pv=>done l2 σ H2 pv)⟩
end
end R48
namespace R48
open PySem L2 Rl
structure Good (ls:List Int) (os:List Nat):Prop where
 lo:1≤ls.length
 hi:ls.length≤24
 pos:∀ a∈ls,1≤a
 sum:ls.sum≤10 ^ 30
 perm:os.Perm (List.range ls.length)
theorem Good.olt {ls:List Int} {os:List Nat} (g:Good ls os):∀ o∈os,o < ls.length:=fun o h=>List.mem_range.mp (g.perm.mem_iff.mp h)
structure Txt (K:PySem.W.Frag) (mg:Str→Option Value):Prop where
 len:mg "len"=none
 min:mg "min"=none
 sum:mg "sum"=none
 sorted:mg "sorted"=none
 list:mg "list"=none
 range:mg "range"=none
 tuple:mg "tuple"=none
 most:∃ t,mg "MOST_PIECES"=some (.int 24 t)
section
variable {P:Program} {w:World} {K:PySem.W.Frag} {mg:Str→Option Value} {base:Heap}
def spRefL:Sp:=fun vs H Q _=>∃ (p:Addr) (ls:List Int) (os:List Nat),vs=[.ref p]∧SqH H p (iV ls)∧Good ls os∧Q .non H
theorem scRefL:FnScope ["lengths"] ["lengths"] (Ja sRefL):=⟨rfl,rfl,rfl,by decide +kernel,rfl,by decide +kernel,by decide +kernel⟩
theorem ok_refL {f:Addr} {fd:FuncData} (F:Fun K "refuse_lengths" "refuse_lengths" sRefL f fd) (T:Txt K mg):FnOk P w K mg base CX0 1 f fd ["lengths"] spRefL:=by
 refine F.ok scRefL (fun vs H Q E h=>?_) (fun cdv A outer s H vs Q E hr h=>?_)
 ·obtain ⟨p,ls,os,rfl,_⟩:=h
  rfl
 ·obtain ⟨p,ls,os,rfl,hp,g,k⟩:=h
  obtain ⟨t24,h24⟩:=T.most
  have g1:=g.lo
  have g2:=g.hi
  refine ⟨_,J2 (ps_if (J13 op_eq (J7 Jj (by rfl) T.len PySem.boot_len (J0 (pv 0) J4)) Je (J16 _)) (Jc J38) J14)
   (J2 (ps_if (J13 op_gt (J7 Jj (by rfl) T.len PySem.boot_len (J0 (pv 0) J4)) (Jw (v:=.int 24) rfl h24 ⟨_,rfl⟩) (J16 _)) (Jc J38) J14)
   (J2 (ps_if (J13 op_lt (J7 (call_min rfl) (by rfl) T.min PyProof.Rows.boot_min (J0 (pv 0) J4)) Je (J16 _)) (Jc J38) J14)
   (Jc (ps_if (J13 op_gt (J7 (J2r rfl) (by rfl) T.sum PyProof.Rows.boot_sum (J0 (pv 0) J4)) (pe_op op_pow Je Je) (J16 _)) (Jc J38) J14)))),?_⟩
  have hl:(iV ls).length=ls.length:=List.length_map ..
  refine ⟨_,rfl,p,_,rfl,hp.sq,rfl,_,rfl,iteD (vint_ne (by rw [hl];lia)) ?_⟩
  refine ⟨_,rfl,p,_,rfl,hp.sq,_,_,rfl,rfl,_,rfl,iteD (by rw [hl];lia) ?_⟩
  refine ⟨_,rfl,p,ls,rfl,hp.sq,by lia,fun M hM hall=>⟨_,_,rfl,rfl,_,rfl,iteD (by have:=g.pos M hM;lia) ?_⟩⟩
  refine ⟨_,rfl,p,ls,rfl,hp.sq,_,_,rfl,rfl,⟨by decide,by decide,by decide⟩,_,_,rfl,rfl,_,rfl,iteD ?_ ?_⟩
  ·have:=g.sum
   show ¬ (10:Int) ^ 30 < ls.sum
   lia
  ·exact k
def spRefO:Sp:=fun vs H Q _=>∃ (q:Addr) (os:List Nat) (n:Nat),vs=[.ref q,.int n]∧SqH H q (nV os)∧os.Perm (List.range n)∧n≤24∧∀ H',Same H H'→Q .non H'
theorem scRefO:FnScope ["order","pieces"] ["order","pieces"] (Ja sRefO):=⟨rfl,rfl,rfl,by decide +kernel,rfl,by decide +kernel,by decide +kernel⟩
theorem ok_refO {f:Addr} {fd:FuncData} (F:Fun K "refuse_order" "refuse_order" sRefO f fd) (T:Txt K mg):FnOk P w K mg base CX0 1 f fd ["order","pieces"] spRefO:=by
 refine F.ok scRefO (fun vs H Q E h=>?_) (fun cdv A outer s H vs Q E hr h=>?_)
 ·obtain ⟨q,os,n,rfl,_⟩:=h
  rfl
 ·obtain ⟨q,os,n,rfl,hq,hp,hn,k⟩:=h
  have hu:=hr.units0
  refine ⟨_,Jc (ps_if (J13 (op_neL hu) (J7 call_sorted (by rfl) T.sorted PyProof.Rows.boot_sorted (J0 (pv 0) J4))
   (J11 (J3e rfl) (by rfl) T.list PyProof.Rows.boot_list (J0 (J11 J6b (by rfl) T.range PyProof.Rows.boot_range (J0 (pv 1) J4)) J4)) (J16 _)) (Jc J38) J14),?_⟩
  have ho:(natI os).length < 64:=by
   unfold natI
   rw [List.length_map,hp.length_eq,List.length_range];lia
  refine ⟨_,rfl,q,natI os,rfl,hq.sq,ho,fun l ns' hl h1 h2=>?_⟩
  refine ⟨_,rfl,(n:Int),rfl,fun r hr'=>⟨r,n,rfl,J1,by lia,fun l2 hl2=>?_⟩⟩
  have e:=J5p hp h1 h2
  have n1:l≠r:=J9 (H:=upd H l (.lst (ns'.map V.int))) J1 hr'
  have s1:Same (upd H l (.lst (ns'.map V.int))) (upd (upd (upd H l (.lst (ns'.map V.int))) r (.rng 0 n)) l2 (.lst (((List.range n).map fun (i:Nat)=>(i:Int)).map V.int))):=(J6 hr').trans (J6 hl2)
  refine ⟨l,l2,_,_,rfl,rfl,SqL.of (s1 _ _ J1),SqL.of J1,Kin.ints _ _,_,rfl,iteNS (by rw [e];rfl) ?_⟩
  exact k _ ((J6 hl).trans s1)
def spRefT:Sp:=fun vs H Q _=>∃ (q:Addr) (xs:List V) (n:Nat),vs=[.ref q,.int n]∧SqH H q xs∧xs.length=n∧Q .non H
theorem scRefT:FnScope ["turned","pieces"] ["turned","pieces"] (Ja sRefT):=⟨rfl,rfl,rfl,by decide +kernel,rfl,by decide +kernel,by decide +kernel⟩
theorem ok_refT {f:Addr} {fd:FuncData} (F:Fun K "refuse_turned" "refuse_turned" sRefT f fd) (T:Txt K mg):FnOk P w K mg base CX0 1 f fd ["turned","pieces"] spRefT:=by
 refine F.ok scRefT (fun vs H Q E h=>?_) (fun cdv A outer s H vs Q E hr h=>?_)
 ·obtain ⟨q,xs,n,rfl,_⟩:=h
  rfl
 ·obtain ⟨q,xs,n,rfl,hq,hn,k⟩:=h
  refine ⟨_,Jc (ps_if (J13 op_ne (J7 Jj (by rfl) T.len PySem.boot_len (J0 (pv 0) J4)) (pv 1) (J16 _)) (Jc J38) J14),?_⟩
  refine ⟨_,rfl,q,_,rfl,hq.sq,_,rfl,rfl,_,rfl,iteNS (by rw [hn]) ?_⟩
  exact k
def TurnsOf (H:Hp) (tv:V) (n:Nat) (ts:List Bool):Prop:=ts.length=n∧((tv=.non∧ts=List.replicate n false)∨∃ t,tv=.ref t∧SqH H t (bV ts))
theorem TurnsOf.same {H H':Hp} {tv:V} {n:Nat} {ts:List Bool} (h:TurnsOf H tv n ts) (s:Same H H'):TurnsOf H' tv n ts:=⟨h.1,h.2.elim .inl fun ⟨t,e,q⟩=>.inr ⟨t,e,q.same s⟩⟩
def spTold:Sp:=fun vs H Q _=>∃ (tv:V) (n:Nat) (ts:List Bool),vs=[tv,.int n]∧1≤n∧n≤24∧TurnsOf H tv n ts∧∀ p H',Same H H'→H' p=some (.tup (bV ts))→Q (.ref p) H'
theorem scTold:FnScope ["turned","pieces"] ["turned","pieces"] (Ja sTold):=⟨rfl,rfl,rfl,by decide +kernel,rfl,by decide +kernel,by decide +kernel⟩
theorem ok_told {f fT:Addr} {fd fdT:FuncData} (F:Fun K "turns_told" "turns_told" sTold f fd) (T:Txt K mg) (FT:Fun K "refuse_turned" "refuse_turned" sRefT fT fdT) (bT:Binds K fdT ["turned","pieces"] []) (mT:mg "refuse_turned"=some (.ref fT)):FnOk P w K mg base CX0 2 f fd ["turned","pieces"] spTold:=by
 have GT:FnOk P w K mg base CX0 1 fT fdT ["turned","pieces"] spRefT:=ok_refT FT T
 refine F.ok scTold (fun vs H Q E h=>?_) (fun cdv A outer s H vs Q E hr h=>?_)
 ·obtain ⟨tv,n,ts,rfl,_⟩:=h
  rfl
 ·obtain ⟨tv,n,ts,rfl,h1,h2,⟨ht,h3⟩,k⟩:=h
  refine ⟨_,J2 (ps_if (pt_cmp (pc_isN (pv 0))) (Jc (J1a (pe_op op_repT (pe_tup (J0 pe_bl J4)) (pv 1)))) J14)
   (J2 (J2k (Jp GT hr rfl mT FT.kp bT .nil pass0 (J0 (pv 0) (J0 (pv 1) J4))))
   (Jc (J1a (J11 J3s (by rfl) T.tuple PyProof.Rows.boot_tuple (J0 (pv 0) J4))))),?_⟩
  rcases h3 with ⟨rfl,rfl⟩ | ⟨t,rfl,hq⟩
  ·refine ⟨_,rfl,_,rfl,iteDT rfl ?_⟩
   refine ⟨by show 1≤sizeLine;decide,fun p hp=>⟨_,rfl,p,(n:Int),[V.bl false],rfl,rfl,J1,by simp,by lia,by lia,?_,fun e=>?_,fun hk p2 hp2=>?_⟩⟩
   ·show 1 * (n:Int).toNat≤sizeLine
    have:=Jx (n:=n) (by lia)
    lia
   ·have en:n=1:=by lia
    subst en
    exact k p _ (J6 hp) J1
   ·refine k p2 _ ((J6 hp).trans (J6 hp2)) ?_
    rw [J1,← flat_false]
    rfl
  ·refine ⟨_,rfl,_,rfl,iteD (by intro e;cases e) ?_⟩
   refine ⟨_,rfl,_,rfl,t,bV ts,n,rfl,hq,by rw [List.length_map];exact ht,?_⟩
   exact ⟨_,rfl,J4j hq k⟩
end
section
variable {P:Program} {w:World} {K:PySem.W.Frag} {mg:Str→Option Value} {base:Heap}
def tCut (t:TS):TS:=fun D σ H=>∃ post:St→Hp→Prop,t { D with nx:=post } σ H∧∀ σ' H',post σ' H'→D.nx σ' H'
theorem J2y {X:Cx} {st:Stmt} {t:TS} (h:PS X st t):PS X st (tCut t):=by
 intro pins s σ H D I ⟨post,q,m⟩
 refine thn (h pins s σ H _ I q) fun f s' z=>?_
 cases f with
 | next=>obtain ⟨σ',H',I',z⟩:=z;exact ⟨σ',H',I',m σ' H' z⟩
 | brk=>exact z
 | cont=>exact z
 | ret u=>exact z
structure LineAt (C:Addr) (H:Hp) (x:Addr) (ls:List Int) (os:List Nat) (ts:List Bool):Prop where
 ex:∃ (dx:Addr) (fs:List (Str × V)) (pl po pt ps pd:Addr),H x=some (.ins C dx fs)∧(fs.lookup ("lengths":Str)=some (.ref pl)∧fs.lookup ("order":Str)=some (.ref po)∧fs.lookup ("turned":Str)=some (.ref pt)∧
  fs.lookup ("starts":Str)=some (.ref ps)∧fs.lookup ("laid":Str)=some (.ref pd)∧fs.lookup ("size":Str)=some (.int ls.sum))∧
  H pl=some (.tup (iV ls))∧H po=some (.tup (nV os))∧H pt=some (.tup (bV ts))∧H ps=some (.tup (iV (firsts ls (List.range ls.length))))∧H pd=some (.tup (iV (firsts ls os)))
theorem LineAt.same {C:Addr} {H H':Hp} {x:Addr} {ls:List Int} {os:List Nat} {ts:List Bool} (h:LineAt C H x ls os ts) (s:Same H H'):LineAt C H' x ls os ts:=by
 obtain ⟨dx,fs,pl,po,pt,ps,pd,h0,hl,h1,h2,h3,h4,h5⟩:=h.ex
 exact ⟨dx,fs,pl,po,pt,ps,pd,s _ _ h0,hl,s _ _ h1,s _ _ h2,s _ _ h3,s _ _ h4,s _ _ h5⟩
structure TxtC (K:PySem.W.Frag) (mg:Str→Option Value) (C:Addr):Prop where
 cl:Cls K C
 nL:NoAttr K C "lengths"
 nO:NoAttr K C "order"
 nT:NoAttr K C "turned"
 nS:NoAttr K C "starts"
 nD:NoAttr K C "laid"
 nZ:NoAttr K C "size"
structure FunD (K:PySem.W.Frag) (x qual:Str) (st:Stmt) (f:Addr) (fd:FuncData) (TD:Addr):Prop where
 ex:∃ (oc:Value) (od:Option Addr) (kV doc pm:Value) (an:Option Addr) (cdv ct:Value) (osl:Array (Option Value)),
  fd=PySem.W.fnOf x qual (J2c st) (J1k st) (Ja st) (.ref TD) kV doc pm an cdv ct∧K.lookup f=some ⟨oc,od,.func fd,osl⟩∧PySem.W.codeIn K cdv qual=true
 kp:PySem.W.keepIn K (.ref f)=true
theorem FunD.ok {x qual:Str} {st:Stmt} {f TD:Addr} {fd:FuncData} {N ps:List Str} {k:Nat} {sp:Sp} (F:FunD K x qual st f fd TD) (S:FnScope N ps (Ja st)) (len:∀ vs H Q E,sp vs H Q E→vs.length=ps.length)
  (hbody:∀ (cdv:Value) (A:Around) (outer:List Env) (s:Shared) (H:Hp) (vs:List V) (Q:VK) (E:XK),Room k (A.deeper (PyProof.Rows.envOfC qual (Ja st) s.heap.objs.size f cdv))→sp vs H Q E→
   ∃ t,PSs (cxOf CX0 P w K mg base N qual (Ja st) f cdv A outer s H E).nox (J1k st) t∧t { nx:=fun _ H'=>Q .non H',rt:=Q } (start N vs) H):FnOk P w K mg base CX0 (k + 1) f fd ps sp:=by
 obtain ⟨oc,od,kV,doc,pm,an,cdv,ct,osl,rfl,lk,hcd⟩:=F.ex
 refine fn_of lk hcd S len fun A outer s H vs Q E hr hsp=>?_
 obtain ⟨t,h,q⟩:=hbody cdv A outer s H vs Q E hr hsp
 exact ⟨t,h.nox,q⟩
def spInit (C:Addr):Sp:=fun vs H Q _=>∃ (x dx p q:Addr) (tv:V) (ls:List Int) (os:List Nat) (ts:List Bool),vs=[.ref x,.ref p,.ref q,tv]∧H x=some (.ins C dx [])∧SqH H p (iV ls)∧SqH H q (nV os)∧Good ls os∧TurnsOf H tv ls.length ts∧
 ∀ H',LineAt C H' x ls os ts→(∀ b o,H b=some o→b≠x→H' b=some o)→Q .non H'
theorem scInit:FnScope ["self","lengths","order","turned"] ["self","lengths","order","turned"] (Ja sInit):=⟨rfl,rfl,rfl,by decide +kernel,rfl,by decide +kernel,by decide +kernel⟩
theorem ok_init {f fL fO fT fF TD C:Addr} {fd fdL fdO fdT fdF:FuncData} (F:FunD K "__init__" "Line.__init__" sInit f fd TD) (T:Txt K mg) (TC:TxtC K mg C)
  (GL:FnOk P w K mg base CX0 1 fL fdL ["lengths"] spRefL) (bL:Binds K fdL ["lengths"] []) (mL:mg "refuse_lengths"=some (.ref fL)) (kL:PySem.W.keepIn K (.ref fL)=true)
  (GO:FnOk P w K mg base CX0 1 fO fdO ["order","pieces"] spRefO) (bO:Binds K fdO ["order","pieces"] []) (mO:mg "refuse_order"=some (.ref fO)) (kO:PySem.W.keepIn K (.ref fO)=true)
  (GT:FnOk P w K mg base CX0 2 fT fdT ["turned","pieces"] spTold) (bT:Binds K fdT ["turned","pieces"] []) (mT:mg "turns_told"=some (.ref fT)) (kT:PySem.W.keepIn K (.ref fT)=true)
  (GF:FnOk P w K mg base CX0 1 fF fdF ["lengths","order"] spFirst) (bF:Binds K fdF ["lengths","order"] []) (mF:mg "first_places"=some (.ref fF)) (kF:PySem.W.keepIn K (.ref fF)=true) :
  FnOk P w K mg base CX0 3 f fd ["self","lengths","order","turned"] (spInit C):=by
 refine F.ok scInit (fun vs H Q E h=>?_) (fun cdv A outer s H vs Q E hr h=>?_)
 ·obtain ⟨x,dx,p,q,tv,ls,os,ts,rfl,_⟩:=h
  rfl
 ·obtain ⟨x,dx,p,q,tv,ls,os,ts,rfl,hx,hp,hq,g,ht,k⟩:=h
  have hr1:Room 1 _:=hr.mono (by decide)
  have g1:=g.lo
  have g2:=g.hi
  have npx:=hp.ne hx
  have nqx:=hq.ne hx
  refine ⟨_,J2 (J2k (Jp GL hr1 rfl mL kL bL .nil pass0 (J0 (pv 1) J4)))
   (J2 (J2k (Jp GO hr1 rfl mO kO bO .nil pass0 (J0 (pv 2) (J0 (J7 Jj (by rfl) T.len PySem.boot_len (J0 (pv 1) J4)) J4))))
   (J2 (J3w (pv 0) (Jp GT hr rfl mT kT bT .nil pass0 (J0 (pv 3) (J0 (J7 Jj (by rfl) T.len PySem.boot_len (J0 (pv 1) J4)) J4))) rfl)
   (J2 (J3w (pv 0) (J11 J3s (by rfl) T.tuple PyProof.Rows.boot_tuple (J0 (pv 1) J4)) rfl)
   (J2 (J3w (pv 0) (J11 J3s (by rfl) T.tuple PyProof.Rows.boot_tuple (J0 (pv 2) J4)) rfl)
   (J2 (J3w (pv 0) (Jp GF hr1 rfl mF kF bF .nil pass0 (J0 (Jy (pv 0) rfl) (J0 (J11 (J3e rfl) (by rfl) T.list PyProof.Rows.boot_list (J0 (J11 J6b (by rfl) T.range PyProof.Rows.boot_range (J0 (J7 Jj (by rfl) T.len PySem.boot_len (J0 (pv 1) J4)) J4)) J4)) J4))) rfl)
   (J2 (J3w (pv 0) (Jp GF hr1 rfl mF kF bF .nil pass0 (J0 (Jy (pv 0) rfl) (J0 (Jy (pv 0) rfl) J4))) rfl)
   (Jc (J3w (pv 0) (J7 (J2r rfl) (by rfl) T.sum PyProof.Rows.boot_sum (J0 (Jy (pv 0) rfl) J4)) rfl)))))))),?_⟩
  refine ⟨_,rfl,p,ls,os,rfl,hp,g,?_⟩
  refine ⟨_,rfl,_,rfl,p,_,rfl,hp.sq,q,os,ls.length,(by rw [J66];rfl),hq,g.perm,g2,fun H1 s1=>?_⟩
  refine ⟨_,rfl,_,rfl,p,_,rfl,(hp.same s1).sq,tv,ls.length,ts,(by rw [J66];rfl),g1,g2,ht.same s1,fun pt H2 s2 hpt=>?_⟩
  have s12:=s1.trans s2
  refine ⟨_,rfl,x,C,dx,[],rfl,s12 _ _ hx,TC.cl,TC.nT,(by show 0 < 1000;decide),?_⟩
  generalize hfs1:putF ("turned":Str) (.ref pt) []=fs1
  generalize hH3:upd H2 x (.ins C dx fs1)=H3
  have l1:fs1.length≤1:=by rw [← hfs1];exact Jz ..
  have k3:KeepX x H H3:=by rw [← hH3];exact (KeepX.of s12).trans KeepX.upd
  have hx3:H3 x=some (.ins C dx fs1):=by rw [← hH3];exact J1
  have ptx:pt≠x:=ne_of hpt (s12 _ _ hx) (by intro z;cases z)
  have hpt3:H3 pt=some (.tup (bV ts)):=by rw [← hH3,Jf ptx];exact hpt
  refine ⟨_,rfl,J4j (k3.sqH hp npx) fun pl H4 s4 hpl=>⟨_,rfl,x,C,dx,fs1,rfl,s4 _ _ hx3,TC.cl,TC.nL,(by lia),?_⟩⟩
  generalize hfs2:putF ("lengths":Str) (.ref pl) fs1=fs2
  generalize hH5:upd H4 x (.ins C dx fs2)=H5
  have l2:fs2.length≤2:=by rw [← hfs2];have:=Jz ("lengths":Str) (.ref pl) fs1;lia
  have k35:KeepX x H3 H5:=by rw [← hH5];exact (KeepX.of s4).trans KeepX.upd
  have k5:KeepX x H H5:=k3.trans k35
  have hx5:H5 x=some (.ins C dx fs2):=by rw [← hH5];exact J1
  have plx:pl≠x:=ne_of hpl (s4 _ _ hx3) (by intro z;cases z)
  have hpl5:H5 pl=some (.tup (iV ls)):=by rw [← hH5,Jf plx];exact hpl
  refine ⟨_,rfl,J4j (k5.sqH hq nqx) fun po H6 s6 hpo=>⟨_,rfl,x,C,dx,fs2,rfl,s6 _ _ hx5,TC.cl,TC.nO,(by lia),?_⟩⟩
  generalize hfs3:putF ("order":Str) (.ref po) fs2=fs3
  generalize hH7:upd H6 x (.ins C dx fs3)=H7
  have l3:fs3.length≤3:=by rw [← hfs3];have:=Jz ("order":Str) (.ref po) fs2;lia
  have k57:KeepX x H5 H7:=by rw [← hH7];exact (KeepX.of s6).trans KeepX.upd
  have k7:KeepX x H H7:=k5.trans k57
  have hx7:H7 x=some (.ins C dx fs3):=by rw [← hH7];exact J1
  have pox:po≠x:=ne_of hpo (s6 _ _ hx5) (by intro z;cases z)
  have hpo7:H7 po=some (.tup (nV os)):=by rw [← hH7,Jf pox];exact hpo
  have hpl7:H7 pl=some (.tup (iV ls)):=k57 _ _ hpl5 plx
  have lkL:fs3.lookup ("lengths":Str)=some (.ref pl):=by rw [← hfs3,lk_ne (by decide +kernel),← hfs2,J2m]
  have lkO:fs3.lookup ("order":Str)=some (.ref po):=by rw [← hfs3,J2m]
  have lkT:fs3.lookup ("turned":Str)=some (.ref pt):=by rw [← hfs3,lk_ne (by decide +kernel),← hfs2,lk_ne (by decide +kernel),← hfs1,J2m]
  refine ⟨_,rfl,x,C,dx,fs3,_,rfl,hx7,TC.cl,TC.nL,lkL,_,rfl,p,_,rfl,(k7.sqH hp npx).sq,_,rfl,fun r hr'=>⟨r,_,rfl,J1,(by rw [J66];lia),fun l hl=>?_⟩⟩
  have s8:Same H7 (upd (upd H7 r (.rng 0 ((iV ls).length:Nat))) l (.lst (((List.range (iV ls).length).map fun (i:Nat)=>(i:Int)).map V.int))):=(J6 hr').trans (J6 hl)
  refine ⟨pl,l,ls,List.range ls.length,rfl,s8 _ _ hpl7,.inl (by rw [J1,J66];rfl),fun o ho=>List.mem_range.mp ho,g2,fun ps H9 s9 hps=>?_⟩
  have s79:=s8.trans s9
  refine ⟨_,rfl,x,C,dx,fs3,rfl,s79 _ _ hx7,TC.cl,TC.nS,(by lia),?_⟩
  generalize hfs4:putF ("starts":Str) (.ref ps) fs3=fs4
  generalize hHa:upd H9 x (.ins C dx fs4)=Ha
  have l4:fs4.length≤4:=by rw [← hfs4];have:=Jz ("starts":Str) (.ref ps) fs3;lia
  have k7a:KeepX x H7 Ha:=by rw [← hHa];exact (KeepX.of s79).trans KeepX.upd
  have hxa:Ha x=some (.ins C dx fs4):=by rw [← hHa];exact J1
  have psx:ps≠x:=ne_of hps (s79 _ _ hx7) (by intro z;cases z)
  have hpsa:Ha ps=some (.tup (iV (firsts ls (List.range ls.length)))):=by rw [← hHa,Jf psx];exact hps
  have hpla:=k7a _ _ hpl7 plx
  have hpoa:=k7a _ _ hpo7 pox
  have lkL4:fs4.lookup ("lengths":Str)=some (.ref pl):=by rw [← hfs4,lk_ne (by decide +kernel),lkL]
  have lkO4:fs4.lookup ("order":Str)=some (.ref po):=by rw [← hfs4,lk_ne (by decide +kernel),lkO]
  have lkT4:fs4.lookup ("turned":Str)=some (.ref pt):=by rw [← hfs4,lk_ne (by decide +kernel),lkT]
  have lkS4:fs4.lookup ("starts":Str)=some (.ref ps):=by rw [← hfs4,J2m]
  refine ⟨_,rfl,x,C,dx,fs4,_,rfl,hxa,TC.cl,TC.nL,lkL4,_,rfl,x,C,dx,fs4,_,rfl,hxa,TC.cl,TC.nO,lkO4,pl,po,ls,os,rfl,hpla,.inr hpoa,g.olt,g2,fun pd Hb sb hpd=>?_⟩
  refine ⟨_,rfl,x,C,dx,fs4,rfl,sb _ _ hxa,TC.cl,TC.nD,(by lia),?_⟩
  generalize hfs5:putF ("laid":Str) (.ref pd) fs4=fs5
  generalize hHc:upd Hb x (.ins C dx fs5)=Hc
  have l5:fs5.length≤5:=by rw [← hfs5];have:=Jz ("laid":Str) (.ref pd) fs4;lia
  have kac:KeepX x Ha Hc:=by rw [← hHc];exact (KeepX.of sb).trans KeepX.upd
  have hxc:Hc x=some (.ins C dx fs5):=by rw [← hHc];exact J1
  have pdx:pd≠x:=ne_of hpd (sb _ _ hxa) (by intro z;cases z)
  have hpdc:Hc pd=some (.tup (iV (firsts ls os))):=by rw [← hHc,Jf pdx];exact hpd
  have lkL5:fs5.lookup ("lengths":Str)=some (.ref pl):=by rw [← hfs5,lk_ne (by decide +kernel),lkL4]
  refine ⟨_,rfl,x,C,dx,fs5,_,rfl,hxc,TC.cl,TC.nL,lkL5,pl,ls,rfl,.inr (SqT.of (kac _ _ hpla plx)),_,rfl,x,C,dx,fs5,rfl,hxc,TC.cl,TC.nZ,(by lia),?_⟩
  have kz:KeepX x Hc (upd Hc x (.ins C dx (putF ("size":Str) (.int ls.sum) fs5))):=KeepX.upd
  refine k _ ⟨dx,_,pl,po,pt,ps,pd,J1,⟨?_,?_,?_,?_,?_,J2m⟩,kz _ _ (kac _ _ hpla plx) plx,kz _ _ (kac _ _ hpoa pox) pox,kz _ _ (kac _ _ (k7a _ _ (k57 _ _ (k35 _ _ hpt3 ptx) ptx) ptx) ptx) ptx,kz _ _ (kac _ _ hpsa psx) psx,kz _ _ hpdc pdx⟩ (k7.trans (k7a.trans (kac.trans kz)))
  ·rw [lk_ne (by decide +kernel),lkL5]
  ·rw [lk_ne (by decide +kernel),← hfs5,lk_ne (by decide +kernel),lkO4]
  ·rw [lk_ne (by decide +kernel),← hfs5,lk_ne (by decide +kernel),lkT4]
  ·rw [lk_ne (by decide +kernel),← hfs5,lk_ne (by decide +kernel),lkS4]
  ·rw [lk_ne (by decide +kernel),← hfs5,J2m]
end
theorem Good.ord {ls:List Int} {os:List Nat} (g:Good ls os):Ord ls os:=⟨g.pos,g.perm⟩
theorem Good.pos_sum {ls:List Int} {os:List Nat} (g:Good ls os):0 < ls.sum:=by
 have h:=g.ord.range.mono (i:=0) (k:=ls.length) (Nat.zero_le _) (Nat.le_refl _)
 have h1:Jb ls (List.range ls.length) 0 < Jb ls (List.range ls.length) 1:=g.ord.range.step (i:=0) g.lo
 have h2:=g.ord.range.mono (i:=1) (k:=ls.length) g.lo (Nat.le_refl _)
 rw [g.ord.range.whole] at h2
 rw [Jo] at h1
 lia
end R48
namespace R48
open PySem L2 Rl
section
variable {P:Program} {w:World} {K:PySem.W.Frag} {mg:Str→Option Value} {base:Heap}
structure TxtSr (K:PySem.W.Frag) (CW:Addr):Prop where
 cl:Cls K CW
 nF:NoAttr K CW "first"
 nL:NoAttr K CW "length"
 nA:NoAttr K CW "laid"
 nT:NoAttr K CW "turned"
structure SrAt (CW:Addr) (H:Hp) (x:Addr) (s:Sr):Prop where
 ex:∃ (dx:Addr) (fs:List (Str × V)),H x=some (.ins CW dx fs)∧fs.lookup ("first":Str)=some (.int s.fi)∧fs.lookup ("length":Str)=some (.int s.le)∧fs.lookup ("laid":Str)=some (.int s.la)∧fs.lookup ("turned":Str)=some (.bl s.tu)
theorem SrAt.same {CW:Addr} {H H':Hp} {x:Addr} {s:Sr} (h:SrAt CW H x s) (k:Same H H'):SrAt CW H' x s :=
 let ⟨dx,fs,h0,r⟩:=h.ex;⟨dx,fs,k _ _ h0,r⟩
theorem SrAt.keep {CW d:Addr} {H H':Hp} {x:Addr} {s:Sr} (h:SrAt CW H x s) (hd:x≠d) (k:∀ b u,H b=some u→b≠d→H' b=some u):SrAt CW H' x s :=
 let ⟨dx,fs,h0,r⟩:=h.ex;⟨dx,fs,k _ _ h0 hd,r⟩
def spSr (CW:Addr):Sp:=fun vs H Q _=>∃ (x dx:Addr) (f l a:Int) (t:Bool),vs=[.ref x,.int f,.int l,.int a,.bl t]∧H x=some (.ins CW dx [])∧∀ H',SrAt CW H' x ⟨f,l,a,t && decide (1 < l)⟩→KeepX x H H'→Q .non H'
theorem scSrInit:FnScope ["self","first","length","laid","turned"] ["self","first","length","laid","turned"] (Ja sSrInit):=⟨rfl,rfl,rfl,by decide +kernel,rfl,by decide +kernel,by decide +kernel⟩
theorem ok_sr {f  CW : Addr} {fd  : FuncData}  (F : Fun K "__init__" "Stretch.__init__" sSrInit f fd) (TW : TxtSr K CW)
 :
    FnOk P w K mg base CX0 1 f fd ["self", "first", "length", "laid", "turned"] (spSr CW) := by
  refine F.ok scSrInit (fun vs H Q E h => ?_) (fun cdv A outer s H vs Q E hr h => ?_)
  · obtain ⟨x, dx, f, l, a, t, rfl, _⟩ := h
    rfl
  · obtain ⟨x, dx, f, l, a, t, rfl, hx, k⟩ := h
    refine ⟨_, (J2 (J3w (pv 0) (pv 1) rfl)
      (J2 (J3w (pv 0) (pv 2) rfl)
      (J2 (J3w (pv 0) (pv 3) rfl)
      (Jc (J3w (pv 0) (pe_and (pv 4) (pe_one (J26 op_gt (pv 2) Je (J16 _)))) rfl))))), ?_⟩
    refine ⟨_, rfl, _, rfl, x, CW, dx, [], rfl, hx, TW.cl, TW.nF, (by show 0 < 1000; decide), ?_⟩
    generalize hfs1 : putF ("first" : Str) (.int f) [] = fs1
    generalize hH1 : upd H x (.ins CW dx fs1) = H1
    have l1 : fs1.length ≤ 1 := by rw [← hfs1]; exact Jz ..
    have k1 : KeepX x H H1 := by rw [← hH1]; exact KeepX.upd
    have hx1 : H1 x = some (.ins CW dx fs1) := by rw [← hH1]; exact J1
    refine ⟨_, rfl, _, rfl, x, CW, dx, fs1, rfl, hx1, TW.cl, TW.nL, (by lia), ?_⟩
    generalize hfs2 : putF ("length" : Str) (.int l) fs1 = fs2
    generalize hH2 : upd H1 x (.ins CW dx fs2) = H2
    have l2 : fs2.length ≤ 2 := by rw [← hfs2]; have := Jz ("length" : Str) (.int l) fs1; lia
    have k2 : KeepX x H1 H2 := by rw [← hH2]; exact KeepX.upd
    have hx2 : H2 x = some (.ins CW dx fs2) := by rw [← hH2]; exact J1
    refine ⟨_, rfl, _, rfl, x, CW, dx, fs2, rfl, hx2, TW.cl, TW.nA, (by lia), ?_⟩
    generalize hfs3 : putF ("laid" : Str) (.int a) fs2 = fs3
    generalize hH3 : upd H2 x (.ins CW dx fs3) = H3
    have l3 : fs3.length ≤ 3 := by rw [← hfs3]; have := Jz ("laid" : Str) (.int a) fs2; lia
    have k3 : KeepX x H2 H3 := by rw [← hH3]; exact KeepX.upd
    have hx3 : H3 x = some (.ins CW dx fs3) := by rw [← hH3]; exact J1
    have fin : ∀ b : Bool, b = (t && decide (1 < l)) → sFld K (tVar 0) (tC (.bl b)) "turned" { nx := fun _ H' => Q .non H', rt := Q } (start ["self", "first", "length", "laid", "turned"] [.ref x, .int f, .int l, .int a, .bl t]) H3 := fun b eb => by
      refine ⟨_, rfl, x, CW, dx, fs3, rfl, hx3, TW.cl, TW.nT, (by lia), ?_⟩
      refine k _ ⟨dx, _, J1, ?_, ?_, ?_, by rw [J2m, eb]⟩ (k1.trans (k2.trans (k3.trans KeepX.upd)))
      · rw [lk_ne (by decide +kernel), ← hfs3, lk_ne (by decide +kernel), ← hfs2, lk_ne (by decide +kernel), ← hfs1, J2m]
      · rw [lk_ne (by decide +kernel), ← hfs3, lk_ne (by decide +kernel), ← hfs2, J2m]
      · rw [lk_ne (by decide +kernel), ← hfs3, J2m]
    refine ⟨_, rfl, t, rfl, ?_⟩
    cases t with
    | true =>
      rw [if_pos rfl]
      exact ⟨_, rfl, _, _, rfl, rfl, fin _ (by simp)⟩
    | false =>
      rw [if_neg (by decide)]
      exact fin false rfl
theorem sr_made {CW:Addr} {H:Hp} {f l a:Int} {t:Bool} {Q:VK} (k:∀ p H',Same H H'→SrAt CW H' p ⟨f,l,a,t && decide (1 < l)⟩→(∀ b u,H b=some u→p≠b)→Q (.ref p) H') :
  ∀ x dx,H x=none→H dx=none→dx≠x→spSr CW (.ref x :: ([.int f,.int l,.int a,.bl t] ++ [])) (upd (upd H dx (.own x)) x (.ins CW dx [])) (fun v H2=>v=.non∧Q (.ref x) H2) E0:=fun x dx hx hdx hne=>by
 have sx:=(J6 (o:=.own x) hdx).trans (J6 (l:=x) (o:=.ins CW dx []) (by rw [Jf (Ne.symm hne)];exact hx))
 exact ⟨x,dx,f,l,a,t,rfl,J1,fun H' S kp=>⟨rfl,k x H' (fun b u e=>kp _ _ (sx _ _ e) (J9 e hx)) S fun b u e z=>J9 e hx z.symm⟩⟩
def spFirstG (CW:Addr):Sp:=fun vs H Q _=>∃ (q:Addr) (s:Sr),vs=[.ref q]∧SrAt CW H q s∧Q (.int (fgo s)) H
def spLastG (CW:Addr):Sp:=fun vs H Q _=>∃ (q:Addr) (s:Sr),vs=[.ref q]∧SrAt CW H q s∧Q (.int (lgo s)) H
def spGoTog (CW:Addr):Sp:=fun vs H Q _=>∃ (p q:Addr) (a b:Sr),vs=[.ref p,.ref q]∧SrAt CW H p a∧SrAt CW H q b∧Q (.bl (gtog a b)) H
def spMade1 (CW:Addr):Sp:=fun vs H Q _=>∃ (p q:Addr) (a b:Sr),vs=[.ref p,.ref q]∧SrAt CW H p a∧SrAt CW H q b∧∀ r H',Same H H'→SrAt CW H' r (mk1 a b)→(∀ b u,H b=some u→r≠b)→Q (.ref r) H'
theorem scFirstG:FnScope ["stretch"] ["stretch"] (Ja sFirstG):=⟨rfl,rfl,rfl,by decide +kernel,rfl,by decide +kernel,by decide +kernel⟩
theorem ok_firstG {f  CW : Addr} {fd  : FuncData}  (F : Fun K "first_goes" "first_goes" sFirstG f fd) (TW : TxtSr K CW)
 :
    FnOk P w K mg base CX0 1 f fd ["stretch"] (spFirstG CW) := by
  refine F.ok scFirstG (fun vs H Q E h => ?_) (fun cdv A outer s H vs Q E hr h => ?_)
  · obtain ⟨q, s0, rfl, _⟩ := h
    rfl
  · obtain ⟨q, s0, rfl, A0, k⟩ := h
    refine ⟨_, (Jc (J1a (J4m (J5w (Jy (pv 0) rfl)) (pe_op J1x (pe_op J15 (Jy (pv 0) rfl) (Jy (pv 0) rfl)) Je) (Jy (pv 0) rfl)))), ?_⟩
    obtain ⟨da, fa, a0, aF, aL, aA, aT⟩ := A0.ex
    refine ⟨_, rfl, q, CW, da, fa, _, rfl, a0, TW.cl, TW.nT, aT, s0.tu, rfl, ?_⟩
    unfold fgo at k
    by_cases e : s0.tu = true
    · rw [if_pos e] at k ⊢
      exact ⟨_, rfl, q, CW, da, fa, _, rfl, a0, TW.cl, TW.nA, aA, _, rfl, q, CW, da, fa, _, rfl, a0, TW.cl, TW.nL, aL, _, _, rfl, rfl, _, _, rfl, rfl, k⟩
    · rw [if_neg e] at k ⊢
      exact ⟨_, rfl, q, CW, da, fa, _, rfl, a0, TW.cl, TW.nA, aA, k⟩
theorem scLastG:FnScope ["stretch"] ["stretch"] (Ja sLastG):=⟨rfl,rfl,rfl,by decide +kernel,rfl,by decide +kernel,by decide +kernel⟩
theorem ok_lastG {f  CW : Addr} {fd  : FuncData}  (F : Fun K "last_goes" "last_goes" sLastG f fd) (TW : TxtSr K CW)
 :
    FnOk P w K mg base CX0 1 f fd ["stretch"] (spLastG CW) := by
  refine F.ok scLastG (fun vs H Q E h => ?_) (fun cdv A outer s H vs Q E hr h => ?_)
  · obtain ⟨q, s0, rfl, _⟩ := h
    rfl
  · obtain ⟨q, s0, rfl, A0, k⟩ := h
    refine ⟨_, (Jc (J1a (J4m (J5w (Jy (pv 0) rfl)) (Jy (pv 0) rfl) (pe_op J1x (pe_op J15 (Jy (pv 0) rfl) (Jy (pv 0) rfl)) Je)))), ?_⟩
    obtain ⟨da, fa, a0, aF, aL, aA, aT⟩ := A0.ex
    refine ⟨_, rfl, q, CW, da, fa, _, rfl, a0, TW.cl, TW.nT, aT, s0.tu, rfl, ?_⟩
    unfold lgo at k
    by_cases e : s0.tu = true
    · rw [if_pos e] at k ⊢
      exact ⟨_, rfl, q, CW, da, fa, _, rfl, a0, TW.cl, TW.nA, aA, k⟩
    · rw [if_neg e] at k ⊢
      exact ⟨_, rfl, q, CW, da, fa, _, rfl, a0, TW.cl, TW.nA, aA, _, rfl, q, CW, da, fa, _, rfl, a0, TW.cl, TW.nL, aL, _, _, rfl, rfl, _, _, rfl, rfl, k⟩
theorem scGoTog:FnScope ["one","two"] ["one","two"] (Ja sGoTog):=⟨rfl,rfl,rfl,by decide +kernel,rfl,by decide +kernel,by decide +kernel⟩
theorem ok_goTog {f fFG fLG CW:Addr} {fd fdFG fdLG:FuncData}  (F:Fun K "go_together" "go_together" sGoTog f fd) (habs:mg "abs"=none)
  (GFG:FnOk P w K mg base CX0 1 fFG fdFG ["stretch"] (spFirstG CW)) (bFG:Binds K fdFG ["stretch"] []) (mFG:mg "first_goes"=some (.ref fFG)) (kFG:PySem.W.keepIn K (.ref fFG)=true)
  (GLG:FnOk P w K mg base CX0 1 fLG fdLG ["stretch"] (spLastG CW)) (bLG:Binds K fdLG ["stretch"] []) (mLG:mg "last_goes"=some (.ref fLG)) (kLG:PySem.W.keepIn K (.ref fLG)=true) :
  FnOk P w K mg base CX0 2 f fd ["one","two"] (spGoTog CW):=by
 refine F.ok scGoTog (fun vs H Q E h=>?_) (fun cdv A outer s H vs Q E hr h=>?_)
 ·obtain ⟨p,q,a,b,rfl,_⟩:=h
  rfl
 ·obtain ⟨p,q,a,b,rfl,A0,B0,k⟩:=h
  have hr1:Room 1 _:=hr.mono (by decide)
  refine ⟨_,(Jc (J1a (J26 op_eq (J7 J6c (by rfl) habs PyProof.Rows.boot_abs (J0 (pe_op J1x (Jp GFG hr1 rfl mFG kFG bFG .nil pass0 (J0 (pv 1) J4)) (Jp GLG hr1 rfl mLG kLG bLG .nil pass0 (J0 (pv 0) J4))) J4)) Je (J16 _)))),?_⟩
  refine ⟨_,rfl,q,b,rfl,B0,_,rfl,p,a,rfl,A0,_,_,rfl,rfl,_,rfl,?_⟩
  have e:decide (V.int (if fgo b - lgo a < 0 then -(fgo b - lgo a) else fgo b - lgo a)=V.int 1)=gtog a b:=by unfold gtog;simp only [V.int.injEq]
  exact ⟨rfl,by rw [e];exact k⟩
theorem scMade1:FnScope ["one","two"] ["one","two"] (Ja sMade1):=⟨rfl,rfl,rfl,by decide +kernel,rfl,by decide +kernel,by decide +kernel⟩
theorem ok_made1 {f fSR CW:Addr} {fd fdSR:FuncData}  (F:Fun K "made_one" "made_one" sMade1 f fd) (TW:TxtSr K CW) (hmin:mg "min"=none)
  (MSR:Mk K CW fSR) (GSR:FnOk P w K mg base CX0 1 fSR fdSR ["self","first","length","laid","turned"] (spSr CW)) (bSR:Binds K fdSR ["self","first","length","laid","turned"] []) (mgSR:mg "Stretch"=some (.ref CW)) :
  FnOk P w K mg base CX0 3 f fd ["one","two"] (spMade1 CW):=by
 refine F.ok scMade1 (fun vs H Q E h=>?_) (fun cdv A outer s H vs Q E hr h=>?_)
 ·obtain ⟨p,q,a,b,rfl,_⟩:=h
  rfl
 ·obtain ⟨p,q,a,b,rfl,A0,B0,k⟩:=h
  have hr2:Room 2 _:=hr.mono (by decide)
  refine ⟨_,(Jc (J1a (J56 MSR GSR hr2 rfl mgSR bSR .nil pass0 (J0 (Jy (pv 0) rfl) (J0 (pe_op J15 (Jy (pv 0) rfl) (Jy (pv 1) rfl)) (J0 (J7 (call_min2 rfl) (by rfl) hmin PyProof.Rows.boot_min (J0 (Jy (pv 0) rfl) (J0 (Jy (pv 1) rfl) J4))) (J0 (J26 op_lt (Jy (pv 1) rfl) (Jy (pv 0) rfl) (J16 _)) J4))))))),?_⟩
  obtain ⟨da,fa,a0,aF,aL,aA,aT⟩:=A0.ex
  obtain ⟨db,fb,b0,bF,bL,bA,bT⟩:=B0.ex
  exact ⟨_,rfl,p,CW,da,fa,_,rfl,a0,TW.cl,TW.nF,aF,_,rfl,p,CW,da,fa,_,rfl,a0,TW.cl,TW.nL,aL,_,rfl,q,CW,db,fb,_,rfl,b0,TW.cl,TW.nL,bL,_,_,rfl,rfl,_,rfl,p,CW,da,fa,_,rfl,a0,TW.cl,TW.nA,aA,_,rfl,q,CW,db,fb,_,rfl,b0,TW.cl,TW.nA,bA,_,_,rfl,_,rfl,q,CW,db,fb,_,rfl,b0,TW.cl,TW.nA,bA,_,rfl,p,CW,da,fa,_,rfl,a0,TW.cl,TW.nA,aA,_,_,rfl,rfl,sr_made fun r H' s' R fr=>k r H' s' R fr⟩
def spStrOf (C CW:Addr):Sp:=fun vs H Q _=>∃ (x:Addr) (ls:List Int) (os:List Nat) (ts:List Bool),vs=[.ref x]∧LineAt C H x ls os ts∧ls.length≤24∧ts.length=ls.length∧∀ d ys H',Same H H'→H' d=some (.lst ys)→Refs (fun q i=>SrAt CW H' q (srO ls os ts i)) ys ls.length→Q (.ref d) H'
theorem scStrOf:FnScope ["line"] ["line"] (Ja sStrOf):=⟨rfl,rfl,rfl,by decide +kernel,rfl,by decide +kernel,by decide +kernel⟩
theorem ok_strOf {f fSR C CW:Addr} {fd fdSR:FuncData}  (F:Fun K "stretches_of" "stretches_of" sStrOf f fd) (TC:TxtC K mg C) (henum:mg "enumerate"=none)
  (MSR:Mk K CW fSR) (GSR:FnOk P w K mg base CX0 1 fSR fdSR ["self","first","length","laid","turned"] (spSr CW)) (bSR:Binds K fdSR ["self","first","length","laid","turned"] []) (mgSR:mg "Stretch"=some (.ref CW)) :
  FnOk P w K mg base CX0 3 f fd ["line"] (spStrOf C CW):=by
 refine F.ok scStrOf (fun vs H Q E h=>?_) (fun cdv A outer s H vs Q E hr h=>?_)
 ·obtain ⟨x,ls,os,ts,rfl,_⟩:=h
  rfl
 ·obtain ⟨x,ls,os,ts,rfl,L0,hn,ht,k⟩:=h
  have hr2:Room 2 _:=hr.mono (by decide)
  refine ⟨_,(Jc (J1a (pe_lc2 (caps:=["line"]) (js:=[0]) rfl (pi_enum rfl henum (J0 (Jy (pv 0) rfl) J4)) rfl (fun _ _ _ _=>J42) (fun C fp s H=>(J56 MSR GSR hr2 rfl mgSR bSR .nil pass0 (J0 (J5z (ix_tupK K) (J60 K (pv 2)) (pv 0)) (J0 (pv 1) (J0 (J5z (ix_tupK K) (J60 K (pv 2)) (pv 0)) (J0 (J5z (ix_tupK K) (J60 K (pv 2)) (pv 0)) J4)))))) (by decide +kernel) (by decide +kernel) (by decide +kernel) (by intro p hp;simp only [List.mem_cons,List.not_mem_nil,or_false] at hp;rcases hp with rfl;rfl)))),?_⟩
  obtain ⟨dx,fl,pl,po,pt,ps,pd,h0,⟨k1,k2,k3,k4,k5,k6⟩,e1,e2,e3,e4,e5⟩:=L0.ex
  refine ⟨_,rfl,x,C,dx,fl,_,rfl,h0,TC.cl,TC.nL,k1,pl,rfl,⟨_,SqT.of e1⟩,fun d hd=>lc_enumR (iV ls) (fun H q i=>SrAt CW H q (srO ls os ts i)) (SqT.of e1) (by rw [J66];exact Nat.le_of_lt (Jx (by lia))) hd (fun H H' q i kd hq A=>A.keep hq kd) (fun i v hv H1 Qe s1 hex ke=>?_) (fun ys H' s' hd' rf=>k d ys H' s' hd' (by rw [J66] at rf;exact rf))⟩
  have hi:i < ls.length:=by have:=(List.getElem?_eq_some_iff.mp hv).1;rwa [J66] at this
  obtain rfl:V.int (ls.getD i 0)=v:=Option.some.inj ((J1z hi).symm.trans hv)
  obtain ⟨yd,hyd⟩:=hex
  exact ⟨_,rfl,x,C,dx,fl,_,rfl,s1 _ _ h0,TC.cl,TC.nS,k4,_,rfl,ps,_,_,_,rfl,rfl,SqT.of (s1 _ _ e4),Jn (J1z (by rw [J5d];exact hi)),_,rfl,_,rfl,x,C,dx,fl,_,rfl,s1 _ _ h0,TC.cl,TC.nD,k5,_,rfl,pd,_,_,_,rfl,rfl,SqT.of (s1 _ _ e5),Jn (J1z (by rw [J5d];exact hi)),_,rfl,x,C,dx,fl,_,rfl,s1 _ _ h0,TC.cl,TC.nT,k3,_,rfl,pt,_,_,_,rfl,rfl,SqT.of (s1 _ _ e3),Jn (bV_get (by rw [ht];exact hi)),sr_made fun r H' s' R fr=>ke r H' s' (fr _ _ hyd) R⟩
end
end R48
namespace R48
open PySem L2 Rl
section
variable {P:Program} {w:World} {K:PySem.W.Frag} {mg:Str→Option Value} {base:Heap}
structure SrsAt (CW:Addr) (H:Hp) (ys:List V) (ss:List Sr):Prop where
 len:ys.length=ss.length
 at_:∀ (i:Nat) (s:Sr),ss[i]?=some s→∃ q,ys[i]?=some (.ref q)∧SrAt CW H q s
theorem SrsAt.same {CW:Addr} {H H':Hp} {ys:List V} {ss:List Sr} (h:SrsAt CW H ys ss) (k:Same H H'):SrsAt CW H' ys ss:=⟨h.len,fun i s e=>let ⟨q,e1,e2⟩:=h.at_ i s e;⟨q,e1,e2.same k⟩⟩
theorem SrsAt.keepD {CW d:Addr} {H H':Hp} {ys xs:List V} {ss:List Sr} (h:SrsAt CW H ys ss) (hl:H d=some (.lst xs)) (k:∀ b u,H b=some u→b≠d→H' b=some u):SrsAt CW H' ys ss :=
 ⟨h.len,fun i s e=>let ⟨q,e1,e2⟩:=h.at_ i s e;⟨q,e1,e2.keep (by
  intro z
  obtain ⟨_,_,h0,_⟩:=e2.ex
  rw [z,hl] at h0
  cases h0) k⟩⟩
theorem SrsAt.snoc {CW:Addr} {H:Hp} {ys:List V} {ss:List Sr} {q:Addr} {s:Sr} (h:SrsAt CW H ys ss) (A:SrAt CW H q s):SrsAt CW H (ys ++ [.ref q]) (ss ++ [s]):=by
 have hl:=h.len
 refine ⟨by simp [hl],fun i t e=>?_⟩
 rcases Nat.lt_or_ge i ss.length with hi | hi
 ·rw [List.getElem?_append_left hi] at e
  obtain ⟨p,e1,e2⟩:=h.at_ i t e
  exact ⟨p,by rw [List.getElem?_append_left (by lia)];exact e1,e2⟩
 ·rw [List.getElem?_append_right hi] at e
  obtain ⟨h0,e0⟩:=List.getElem?_eq_some_iff.mp e
  have h1:i - ss.length=0:=by simpa using h0
  rw [h1] at e
  cases e
  exact ⟨q,by rw [List.getElem?_append_right (by lia),hl,h1];rfl,A⟩
theorem SrsAt.init {CW:Addr} {H:Hp} {ys:List V} {ss:List Sr} (h:SrsAt CW H ys ss):SrsAt CW H ys.dropLast ss.dropLast:=by
 have hl:=h.len
 refine ⟨by simp [hl],fun i t e=>?_⟩
 rw [List.getElem?_dropLast] at e
 by_cases hi:i < ss.length - 1
 ·rw [if_pos hi] at e
  obtain ⟨p,e1,e2⟩:=h.at_ i t e
  exact ⟨p,by rw [List.getElem?_dropLast,if_pos (by lia)];exact e1,e2⟩
 ·rw [if_neg hi] at e;cases e
theorem set_last {α:Type} {ys:List α} {x:α} (h:ys≠[]):ys.set (ys.length - 1) x=ys.dropLast ++ [x]:=by
 rcases List.eq_nil_or_concat ys with rfl | ⟨l,b,rfl⟩
 ·exact absurd rfl h
 ·rw [List.concat_eq_append,List.dropLast_concat,List.length_append,List.set_append_right _ _ (by simp)]
  simp
theorem J4w {n:Nat} (h:1≤n):ixN n (-1)=some (n - 1):=by
 unfold ixN
 rw [if_neg (by decide),if_pos (by lia)]
 congr 1
 lia
theorem J2u {α:Type} {xs:List α} {j:Nat} {x:α} (h:xs[j]?=some x):xs.take (j + 1)=xs.take j ++ [x]:=by
 obtain ⟨hj,e⟩:=List.getElem?_eq_some_iff.mp h
 rw [← e]
 exact (List.take_append_getElem hj).symm
theorem lgst_snoc {ss:List Sr} {i:Nat} {s:Sr} (h:ss[i]?=some s):lgst (ss.take (i + 1))=lstp (lgst (ss.take i)) s:=by
 unfold lgst
 rw [J2u h,List.foldl_append];rfl
theorem lstp_len (acc:List Sr) (s:Sr):(lstp acc s).length≤acc.length + 1:=by
 unfold lstp
 cases e:acc.getLast? with
 | none=>simp
 | some a=>dsimp only;split <;> simp
theorem fold_len:∀ (ss acc:List Sr),(ss.foldl lstp acc).length≤acc.length + ss.length
 | [],acc=>Nat.le_refl _
 | s :: r,acc=>by
  have h1:=fold_len r (lstp acc s)
  have h2:=lstp_len acc s
  rw [List.foldl_cons,List.length_cons]
  lia
theorem lgst_len (ss:List Sr):(lgst ss).length≤ss.length:=by
 have:=fold_len ss []
 rw [List.length_nil,Nat.zero_add] at this
 exact this
def PvL (CW l d:Addr) (ss:List Sr) (H:Hp) (i:Nat) (σ:St) (H2:Hp):Prop:=∃ v zs,σ=[some (.ref l),some (.ref d),v]∧H2 d=some (.lst zs)∧SrsAt CW H2 zs (lgst (ss.take i))∧Same H H2
def spLongest (CW:Addr):Sp:=fun vs H Q _=>∃ (l:Addr) (ys:List V) (ss:List Sr),vs=[.ref l]∧H l=some (.lst ys)∧SrsAt CW H ys ss∧ss.length≤1000∧∀ d zs H',Same H H'→H' d=some (.lst zs)→SrsAt CW H' zs (lgst ss)→Q (.ref d) H'
theorem scLongest:FnScope ["stretches","told","stretch"] ["stretches"] (Ja J5s):=⟨rfl,rfl,rfl,by decide +kernel,rfl,by decide +kernel,by decide +kernel⟩
theorem ok_longest {f fGT fMO CW:Addr} {fd fdGT fdMO:FuncData}  (F:Fun K "longest" "longest" J5s f fd)
  (GGT:FnOk P w K mg base CX0 2 fGT fdGT ["one","two"] (spGoTog CW)) (bGT:Binds K fdGT ["one","two"] []) (mGT:mg "go_together"=some (.ref fGT)) (kGT:PySem.W.keepIn K (.ref fGT)=true)
  (GMO:FnOk P w K mg base CX0 3 fMO fdMO ["one","two"] (spMade1 CW)) (bMO:Binds K fdMO ["one","two"] []) (mMO:mg "made_one"=some (.ref fMO)) (kMO:PySem.W.keepIn K (.ref fMO)=true) :
  FnOk P w K mg base CX0 4 f fd ["stretches"] (spLongest CW):=by
 refine F.ok scLongest (fun vs H Q E h=>?_) (fun cdv A outer s H vs Q E hr h=>?_)
 ·obtain ⟨l,ys,ss,rfl,_⟩:=h
  rfl
 ·obtain ⟨l,ys,ss,rfl,hl,B,hn,k⟩:=h
  have hr2:Room 2 _:=hr.mono (by decide)
  have hr3:Room 3 _:=hr.mono (by decide)
  refine ⟨_,(J2 (Jq (i:=1) scLongest.nd rfl (Or.inl rfl) (J1w J4))
   (J2 (J3v PassesOwn.never rfl (J24 (pv 0)) (J1e (i:=2) scLongest.nd rfl (Or.inl rfl))
    (Jc (ps_if (PW.pt (pw_and (pt_truth (pv 1) (fun _=>rfl)) (pw_and1 (J5w (Jp GGT hr2 rfl mGT kGT bGT .nil pass0 (J0 (pe_ix J17 (pv 1) (pe_un un_neg Je) (fun _ _=>rfl)) (J0 (pv 2) J4))))))) (Jc (J55 (Jp GMO hr3 rfl mMO kMO bMO .nil pass0 (J0 (pe_ix J17 (pv 1) (pe_un un_neg Je) (fun _ _=>rfl)) (J0 (pv 2) J4))) (pg_sub (pv 1) (pe_un un_neg Je) J36))) (Jc (J2k (pe_bm PySem.F.plainAttrs_list PySem.F.slot_list_append PySem.F.type_list_append J1s (pv 1) (J0 (pv 2) J4)))))))
   (Jc (J1a (pv 1))))),?_⟩
  refine ⟨by show 0≤sizeLine;exact Nat.zero_le _,fun d hd=>?_⟩
  have s0:=J6 (o:=.lst []) hd
  refine ⟨_,rfl,l,rfl,⟨_,SqL.of (s0 _ _ hl)⟩,J2b (K:=K) (a:=l) (xs:=ys) (PvL CW l d ss H) ⟨none,[],rfl,J1,⟨rfl,fun i s e=>by simp [lgst] at e⟩,s0⟩ (fun i σ H2 _ ⟨_,_,_,_,_,s⟩=>SqL.of (s _ _ hl)) (fun i y σ H2 hy pv=>?_) (fun σ H2 ⟨v,zs,e,h,A2,s⟩=>?_)⟩
  ·obtain ⟨v,zs,rfl,h2,A2,s2⟩:=pv
   have hi:i < ss.length:=by rw [← B.len];exact (List.getElem?_eq_some_iff.mp hy).1
   have es:ss[i]?=some ss[i]:=List.getElem?_eq_getElem hi
   obtain ⟨q,eq,As⟩:=B.at_ i _ es
   obtain rfl:V.ref q=y:=Option.some.inj (eq.symm.trans hy)
   generalize ss[i]=t0 at *
   have As2:=As.same s2
   have nx:=lgst_snoc es
   have zl:(lgst (ss.take i)).length≤1000:=Nat.le_trans (lgst_len _) (by rw [List.length_take];lia)
   generalize lgst (ss.take i)=acc at *
   have al:=A2.len
   have nd:∀ b u,H b=some u→b≠d:=fun b u e=>J9 e hd
   have app:lstp acc t0=acc ++ [t0]→PvL CW l d ss H (i + 1) [some (.ref l),some (.ref d),some (.ref q)] (upd H2 d (.lst (zs ++ [.ref q]))):=fun e=>by
    refine ⟨_,_,rfl,J1,?_,fun b u x=>by rw [Jf (nd b u x)];exact s2 _ _ x⟩
    rw [nx,e]
    have kp:∀ b u,H2 b=some u→b≠d→upd H2 d (.lst (zs ++ [.ref q])) b=some u:=fun b u x n=>by rw [Jf n];exact x
    exact (A2.keepD h2 kp).snoc (As2.keep (by
     intro z
     obtain ⟨_,_,h0,_⟩:=As2.ex
     rw [z,h2] at h0
     cases h0) kp)
   by_cases ze:zs=[]
   ·have ae:acc=[]:=List.eq_nil_of_length_eq_zero (by rw [← al,ze];rfl)
    refine ⟨_,rfl,false,.inl ⟨zs,SqL.of h2,by rw [ze];rfl⟩,iteF (iteF ⟨_,rfl,.inl ⟨rfl,_,SqL.of h2⟩,_,rfl,d,zs,_,rfl,rfl,h2,Nat.lt_of_le_of_lt (by lia) (Jx (Nat.le_refl _)),app (by rw [ae];rfl)⟩)⟩
   ·have zn:1≤zs.length:=by cases zs with | nil=>exact absurd rfl ze | cons a r=>simp
    have ea:acc[acc.length - 1]?=some (acc[acc.length - 1]'(by lia)):=List.getElem?_eq_getElem _
    obtain ⟨pa,epa,Aa⟩:=A2.at_ _ _ ea
    have gl:acc.getLast?=some (acc[acc.length - 1]'(by lia)):=by rw [List.getLast?_eq_getElem?];exact ea
    generalize acc[acc.length - 1]'(by lia)=a0 at *
    have lst:atI zs (-1)=some (.ref pa):=by
     unfold atI
     rw [J4w zn,al]
     exact epa
    refine ⟨_,rfl,true,.inl ⟨zs,SqL.of h2,by cases zs with | nil=>exact absurd rfl ze | cons a r=>rfl⟩,iteT ⟨_,rfl,1,rfl,d,zs,_,_,rfl,rfl,SqL.of h2,lst,_,rfl,pa,q,a0,t0,rfl,Aa,As2,gtog a0 t0,rfl,?_⟩⟩
    by_cases g:gtog a0 t0=true
    ·show if gtog a0 t0=true then _ else _
     rw [if_pos g]
     refine ⟨_,rfl,1,rfl,d,zs,_,_,rfl,rfl,SqL.of h2,lst,_,rfl,pa,q,a0,t0,rfl,Aa,As2,fun r H3 s3 R fr=>⟨_,rfl,1,rfl,d,zs,_,zs.length - 1,rfl,rfl,s3 _ _ h2,J4w zn,?_⟩⟩
     refine ⟨_,_,rfl,J1,?_,fun b u x=>by rw [Jf (nd b u x)];exact s3 _ _ (s2 _ _ x)⟩
     have el:lstp acc t0=acc.dropLast ++ [mk1 a0 t0]:=by unfold lstp;rw [gl];exact if_pos g
     have kp:∀ b u,H3 b=some u→b≠d→upd H3 d (.lst (zs.set (zs.length - 1) (.ref r))) b=some u:=fun b u x n=>by rw [Jf n];exact x
     have R':=R.keep (fr _ _ h2) kp
     have A3:=((A2.same s3).keepD (s3 _ _ h2) kp).init.snoc R'
     rw [nx,el]
     rw [← set_last ze] at A3
     exact A3
    ·show if gtog a0 t0=true then _ else _
     rw [if_neg g]
     exact ⟨_,rfl,.inl ⟨rfl,_,SqL.of h2⟩,_,rfl,d,zs,_,rfl,rfl,h2,Nat.lt_of_le_of_lt (by lia) (Jx (Nat.le_refl _)),app (by unfold lstp;rw [gl];exact if_neg g)⟩
  ·subst e
   rw [B.len,List.take_length] at A2
   exact ⟨_,rfl,k d zs H2 s h A2⟩
end
end R48
namespace R48
open PySem L2 Rl
section
variable {P:Program} {w:World} {K:PySem.W.Frag} {mg:Str→Option Value} {base:Heap}
def lamP:Stmt→Pos
 | .Assign _ (.Call _ _ [⟨_,.Lambda _ _ _ p,_⟩] _) _=>p
 | _=>⟨0,0,0,0⟩
abbrev lpLO:Pos:=lamP ((J1k sLineOf).getD 0 (.Pass ⟨0,0,0,0⟩))
theorem SrsAt.sameT {CW:Addr} {H H':Hp} {ys:List V} {ss:List Sr} (h:SrsAt CW H ys ss) (k:SameT H H'):SrsAt CW H' ys ss:=⟨h.len,fun i s e=>let ⟨q,e1,e2⟩:=h.at_ i s e;⟨q,e1,let ⟨dx,fs,h0,r⟩:=e2.ex;⟨dx,fs,k _ _ h0 rfl,r⟩⟩⟩
theorem Same.t {H H':Hp} (s:Same H H'):SameT H H':=fun b u e _=>s b u e
theorem SameT.trans {H H1 H2:Hp} (a:SameT H H1) (b:SameT H1 H2):SameT H H2:=fun c u e z=>b c u (a c u e z) z
theorem J1f {H H':Hp} {P:Addr} {pos:Pos} {q:Str} (h:TabOk H P pos q) (s:Same H H'):TabOk H' P pos q :=
 let ⟨ps,h1,h2,h3⟩:=h.ex;⟨ps,s _ _ h1,h2,fun cv e=>let ⟨c,oc,vs,t,r1,r2,r3⟩:=h3 cv e;⟨c,oc,vs,t,r1,s _ _ r2,r3⟩⟩
theorem lc_idx {K:PySem.W.Frag} {a d:Addr} {H1:Hp} {te:TE} {σ:St} {js:List Nat} {Q:VK} (ys:List V) (f:Nat→V) (hx:SqL K H1 a ys) (hn:ys.length≤1000) (hd:H1 d=none)
  (he:∀ (i:Nat) (v:V),ys[i]?=some v→∀ H Qe,Same H1 H→(∀ H',Same H H'→Qe (f i) H')→te (some v :: capv σ js) H Qe)
  (hq:∀ H',Same H1 H'→H' d=some (.lst ((List.range ys.length).map f))→Q (.ref d) H'):LCW (Itl K a) tYes te σ js Q H1 d :=
 lc_over ys.length (fun _=>true) f hd hn (fun i H hi s=>⟨_,_,s.seq hx,List.getElem?_eq_getElem hi⟩) (fun H s=>⟨_,s.seq hx,Nat.le_refl _⟩) (fun i=>(ys[i]?).getD .non)
  (fun i H v H' hi s y=>⟨y.1,by rw [y.2 _ (s.seq hx)];rfl⟩) (fun i H Qt hi s k=>k H (Same.refl _))
  (fun i H Qe hi _ s k=>by
   show te (some ((ys[i]?).getD .non) :: capv σ js) H Qe
   rw [List.getElem?_eq_getElem hi]
   exact he i _ (List.getElem?_eq_getElem hi) H Qe s k) (fun H' s h=>hq H' s (by rw [J31] at h;exact h))
theorem range_map {α β:Type} (xs:List α) (g:α→β) (f:Nat→β) (h:∀ i x,xs[i]?=some x→f i=g x):(List.range xs.length).map f=xs.map g:=by
 apply List.ext_getElem?
 intro i
 rw [List.getElem?_map,List.getElem?_map]
 by_cases hi:i < xs.length
 ·rw [List.getElem?_range hi,List.getElem?_eq_getElem hi]
  exact congrArg some (h i _ (List.getElem?_eq_getElem hi))
 ·rw [List.getElem?_eq_none (by simpa using hi),List.getElem?_eq_none (by simpa using hi)]
  rfl
theorem zip_range (ks:List Int):ks.zip ((List.range ks.length).map fun (i:Nat)=>V.int (i:Int))=(List.range ks.length).map fun (i:Nat)=>(ks.getD i 0,V.int (i:Int)):=by
 apply List.ext_getElem?
 intro i
 by_cases hi:i < ks.length
 ·have e1:ks[i]?=some (ks.getD i 0):=by rw [List.getD_eq_getElem?_getD,List.getElem?_eq_getElem hi];rfl
  have e2:((List.range ks.length).map fun (i:Nat)=>V.int (i:Int))[i]?=some (V.int (i:Int)):=by rw [List.getElem?_map,List.getElem?_range hi];rfl
  rw [List.getElem?_map,List.getElem?_range hi]
  have:=(List.getElem?_zip_eq_some (l₁:=ks) (l₂:=(List.range ks.length).map fun (i:Nat)=>V.int (i:Int)) (i:=i) (z:=(ks.getD i 0,V.int (i:Int)))).mpr ⟨e1,e2⟩
  exact this
 ·rw [List.getElem?_eq_none (by simp;lia),List.getElem?_eq_none (by simpa using hi)]
def TKeep (P:Addr) (H H':Hp):Prop:=∀ (Q:Addr) (pos:Pos) (q:Str),Q≠P→TabOk H Q pos q→TabOk H' Q pos q
theorem TKeep.same {P:Addr} {H H':Hp} (s:Same H H'):TKeep P H H':=fun _ _ _ _ t=>J1f t s
theorem TKeep.trans {P:Addr} {H H1 H2:Hp} (a:TKeep P H H1) (b:TKeep P H1 H2):TKeep P H H2:=fun Q p q n t=>b Q p q n (a Q p q n t)
def spLineOf (C CW TB:Addr) (qq:Str):Sp:=fun vs H Q _=>∃ (l:Addr) (ys:List V) (ss:List Sr),vs=[.ref l]∧H l=some (.lst ys)∧SrsAt CW H ys ss∧TabOk H TB lpLO qq∧ss.length < 64∧
 (∀ os:List Nat,os.Perm (List.range ss.length)→os.Pairwise (fun i j=>(ss.map Sr.la).getD i 0≤(ss.map Sr.la).getD j 0)→Good (ss.map Sr.le) os∧
  ∀ x H',SameT H H'→TabOk H' TB lpLO qq→TKeep TB H H'→LineAt C H' x (ss.map Sr.le) os (ss.map Sr.tu)→Q (.ref x) H')
theorem scLineOf:FnScope ["stretches","order","lengths"] ["stretches"] (Ja sLineOf):=⟨rfl,rfl,rfl,by decide +kernel,rfl,by decide +kernel,by decide +kernel⟩
theorem ok_lineOf {f fI C CW TB cc:Addr} {fd fdI:FuncData}  (F:Fun K "line_of" "line_of" sLineOf f fd) (T:TxtR mg) (hsorted:mg "sorted"=none) (TW:TxtSr K CW) (hcode:fd.code=.ref cc) (CD:PySem.W.codeHdIn K cc TB=true) (BL:BltAt base mg TB)
  (MI:Mk K C fI) (GI:FnOk P w K mg base CX0 3 fI fdI ["self","lengths","order","turned"] (spInit C)) (bI:Binds K fdI ["self","lengths","order","turned"] []) (mgI:mg "Line"=some (.ref C)) :
  FnOk P w K mg base CX0 5 f fd ["stretches"] (spLineOf C CW TB "line_of.<locals>.<lambda>"):=by
 refine F.okK hcode scLineOf (fun vs H Q E h=>?_) (fun A outer s H vs Q E hr h=>?_)
 ·obtain ⟨l,ys,ss,rfl,_⟩:=h
  rfl
 ·obtain ⟨l,ys,ss,rfl,hl,B,TT,hn,k⟩:=h
  have hr4:Room 4 _:=hr.mono (by decide)
  refine ⟨_,(J2 (Jq (i:=1) scLineOf.nd rfl (Or.inl rfl) (pe_sortK (x:="piece") (caps:=["stretches"]) (js:=[0]) rfl (hr.mono (by decide)) (by rfl) hsorted rfl rfl rfl CD BL ⟨rfl,rfl,rfl,by decide +kernel,rfl,(by intro p hp;simp only [List.mem_cons,List.not_mem_nil,or_false] at hp;rcases hp with rfl;rfl),freeOk.get rfl,rfl,fun k c e=>match k,e with | 0,e=>by cases e;exact ⟨0,_,rfl,rfl,rfl,rfl,rfl⟩ | k + 1,e=>by simp at e⟩ (fun _ _ _ _=>rfl) (fun A f c s H=>(J60 K (J5z (J4v K) (pv 1) (pv 0)))) (J11 J6b (by rfl) T.range PyProof.Rows.boot_range (J0 (J7 Jj (by rfl) T.len PySem.boot_len (J0 (pv 0) J4)) J4))))
   (J2 (ps_lc (i:=2) (caps:=[]) (js:=[]) scLineOf.nd rfl (Or.inl rfl) rfl (J24 (pv 0)) rfl (fun _ _ _ _=>J42) (fun C fp s H=>(J60 K (pv 0))) (by decide +kernel) (by decide +kernel) (by decide +kernel) (by intro p hp;cases hp))
   (Jc (J1a (J56 MI GI hr4 rfl mgI bI .nil pass0 (J0 (pv 2) (J0 (pv 1) (J0 (pe_lc (caps:=[]) (js:=[]) rfl (J24 (pv 0)) rfl (fun _ _ _ _=>J42) (fun C fp s H=>(J60 K (pv 0))) (by decide +kernel) (by decide +kernel) (by decide +kernel) (by intro p hp;cases hp)) J4)))))))),?_⟩
  have bl:=B.len
  refine ⟨_,rfl,l,ys,rfl,.inl (SqL.of hl),_,rfl,fun r hr'=>?_⟩
  have s1:=J6 (o:=.rng 0 (ys.length:Int)) hr'
  refine ⟨r,(List.range ss.length).map fun (i:Nat)=>V.int (i:Int),ss.map Sr.la,rfl,.inr ⟨ys.length,J1,by rw [bl]⟩,(by rw [List.length_map,List.length_range];exact hn),(by simp),J1f TT s1,fun H2 sT i y z ey ek=>?_,fun H2 lo zs sT T2 TQ hlo pm pw=>?_⟩
  ·have hi:i < ss.length:=by have:=(List.getElem?_eq_some_iff.mp ey).1;simpa using this
   rw [List.getElem?_map,List.getElem?_range hi] at ey
   cases ey
   obtain ⟨q,eq,Aq⟩:=B.at_ i _ (List.getElem?_eq_getElem hi)
   rw [List.getElem?_map,List.getElem?_eq_getElem hi] at ek
   cases ek
   obtain ⟨dx,fs,h0,lF,lL,lA,lT⟩:=Aq.ex
   exact ⟨_,rfl,_,rfl,l,ys,_,_,rfl,rfl,SqL.of (sT _ _ (s1 _ _ hl) rfl),Jn eq,q,CW,dx,fs,_,rfl,sT _ _ (s1 _ _ h0) rfl,TW.cl,TW.nA,lA,rfl,rfl⟩
  have zr:(ss.map Sr.la).zip ((List.range ss.length).map fun (i:Nat)=>V.int (i:Int))=(List.range ss.length).map fun (i:Nat)=>((ss.map Sr.la).getD i 0,V.int (i:Int)):=by
   have:=zip_range (ss.map Sr.la)
   rwa [List.length_map] at this
  rw [zr] at pm
  obtain ⟨os,po,rfl⟩:=J5y pm rfl
  rw [List.pairwise_map] at pw
  obtain ⟨gd,k⟩:=k os po pw
  have en:(os.map fun (i:Nat)=>((ss.map Sr.la).getD i 0,V.int (i:Int))).map Prod.snd=nV os:=by rw [List.map_map,nV_eq];rfl
  rw [en]
  have s2:=J6 (o:=.lst (nV os)) hlo
  have h3l:=s2 _ _ (sT _ _ (s1 _ _ hl) rfl)
  have B3:SrsAt CW (upd H2 lo (.lst (nV os))) ys ss:=((B.same s1).sameT sT).same s2
  have T3:=J1f T2 s2
  have TK3:TKeep TB H (upd H2 lo (.lst (nV os))):=(TKeep.same s1).trans (TKeep.trans (fun Q p q n t=>TQ Q p q n t) (TKeep.same s2))
  have ho:upd H2 lo (.lst (nV os)) lo=some (.lst (nV os)):=J1
  have sT3:SameT H (upd H2 lo (.lst (nV os))):=SameT.trans (SameT.trans (Same.t s1) sT) (Same.t s2)
  generalize upd H2 lo (.lst (nV os))=H3 at *
  have lc:∀ (H4:Hp) (σ:St) (d:Addr) (g:Sr→V) (nm:Str) (QQ:VK),SrsAt CW H4 ys ss→H4 l=some (.lst ys)→H4 d=none→NoAttr K CW nm→(∀ (fs:List (Str × V)) (s:Sr),fs.lookup ("first":Str)=some (.int s.fi)∧fs.lookup ("length":Str)=some (.int s.le)∧fs.lookup ("laid":Str)=some (.int s.la)∧fs.lookup ("turned":Str)=some (.bl s.tu)→fs.lookup nm=some (g s))→
    (∀ H',Same H4 H'→H' d=some (.lst (ss.map g))→QQ (.ref d) H')→LCW (Itl K l) tYes (tFld K (tVar 0) nm) σ [] QQ H4 d:=fun H4 σ d g nm QQ B4 h4 hd na lk q=>by
   refine lc_idx ys (fun i=>((ss[i]?).map g).getD .non) (SqL.of h4) (by lia) hd (fun i v hv H5 Qe s5 ke=>?_) (fun H' s' h'=>q H' s' ?_)
   ·have hi:i < ss.length:=by have:=(List.getElem?_eq_some_iff.mp hv).1;lia
    obtain ⟨q',eq,Aq⟩:=B4.at_ i _ (List.getElem?_eq_getElem hi)
    obtain rfl:V.ref q'=v:=Option.some.inj (eq.symm.trans hv)
    obtain ⟨dx,fs,h0,lF,lL,lA,lT⟩:=Aq.ex
    refine ⟨_,rfl,q',CW,dx,fs,_,rfl,s5 _ _ h0,TW.cl,na,lk fs _ ⟨lF,lL,lA,lT⟩,?_⟩
    have:=ke H5 (Same.refl _)
    rw [List.getElem?_eq_getElem hi] at this
    exact this
   ·rw [h',bl]
    exact congrArg (fun x=>some (HO.lst x)) (range_map ss g _ fun i x e=>by show ((ss[i]?).map g).getD .non=g x;rw [e];rfl)
  refine ⟨_,rfl,l,rfl,⟨_,SqL.of h3l⟩,fun d1 hd1=>lc H3 _ d1 (fun s=>.int s.le) "length" _ B3 h3l hd1 TW.nL (fun fs s h=>h.2.1) (fun H4 s4 e4=>?_)⟩
  refine ⟨_,rfl,_,rfl,_,rfl,l,rfl,⟨_,SqL.of (s4 _ _ h3l)⟩,fun d2 hd2=>lc H4 _ d2 (fun s=>.bl s.tu) "turned" _ (B3.same s4) (s4 _ _ h3l) hd2 TW.nT (fun fs s h=>h.2.2.2) (fun H5 s5 e5=>?_)⟩
  have e4':H4 d1=some (.lst (iV (ss.map Sr.le))):=by rw [e4];exact congrArg (fun x=>some (HO.lst x)) (by show _=List.map V.int (ss.map Sr.le);rw [List.map_map];rfl)
  have e5':H5 d2=some (.lst (bV (ss.map Sr.tu))):=by rw [e5];exact congrArg (fun x=>some (HO.lst x)) (by show _=List.map V.bl (ss.map Sr.tu);rw [List.map_map];rfl)
  intro x dx hx hdx hne
  have s6:=(J6 (o:=.own x) hdx).trans (J6 (l:=x) (o:=.ins C dx []) (by rw [Jf (Ne.symm hne)];exact hx))
  refine ⟨x,dx,d1,lo,.ref d2,ss.map Sr.le,os,ss.map Sr.tu,rfl,J1,.inl (s6 _ _ (s5 _ _ e4')),.inl (s6 _ _ (s5 _ _ (s4 _ _ ho))),gd,⟨by simp,.inr ⟨d2,rfl,.inl (s6 _ _ e5')⟩⟩,fun H' L kp=>⟨rfl,?_⟩⟩
  have s7:Same H3 H':=fun b u e=>kp _ _ (s6 _ _ (s5 _ _ (s4 _ _ e))) (J9 (s5 _ _ (s4 _ _ e)) hx)
  exact k x H' (SameT.trans sT3 (Same.t s7)) (J1f T3 s7) (TK3.trans (TKeep.same s7)) L
end
end R48
namespace R48
open PySem L2 Rl
section
variable {P:Program} {w:World} {K:PySem.W.Frag} {mg:Str→Option Value} {base:Heap}
theorem Refs.srs {CW:Addr} {H:Hp} {ys:List V} {ls:List Int} {os:List Nat} {ts:List Bool} (h:Refs (fun q i=>SrAt CW H q (srO ls os ts i)) ys ls.length):SrsAt CW H ys (srsL ls os ts):=by
 refine ⟨by unfold srsL;rw [h.len];simp,fun i s e=>?_⟩
 have hi:i < ls.length:=by have:=(List.getElem?_eq_some_iff.mp e).1;simpa [srsL] using this
 unfold srsL at e
 rw [List.getElem?_map,List.getElem?_range hi] at e
 cases e
 exact h.at_ i hi
theorem J4i (ls:List Int) (os:List Nat) (ts:List Bool):(srsL ls os ts).length=ls.length:=by unfold srsL;simp
end
end R48
namespace R48
open PySem L2 Rl
section
variable {P:Program} {w:World} {K:PySem.W.Frag} {mg:Str→Option Value} {base:Heap}
def spPartsB (CW:Addr):Sp:=fun vs H Q _=>∃ (p q:Addr) (o t:Sr),vs=[.ref p,.ref q]∧SrAt CW H p o∧SrAt CW H q t∧∀ d ys H',H d=none→Same H H'→H' d=some (.lst ys)→SrsAt CW H' ys (part1 o t)→Q (.ref d) H'
theorem scPartsB:FnScope ["one","two","begin","one_end","two_end","end","first","laid"] ["one","two"] (Ja sPartsB):=⟨rfl,rfl,rfl,by decide +kernel,rfl,by decide +kernel,by decide +kernel⟩
theorem ok_partsB {f fSR CW:Addr} {fd fdSR:FuncData}  (F:Fun K "parts_between" "parts_between" sPartsB f fd) (TW:TxtSr K CW) (hmax:mg "max"=none) (hmin:mg "min"=none)
  (MSR:Mk K CW fSR) (GSR:FnOk P w K mg base CX0 1 fSR fdSR ["self","first","length","laid","turned"] (spSr CW)) (bSR:Binds K fdSR ["self","first","length","laid","turned"] []) (mgSR:mg "Stretch"=some (.ref CW)) :
  FnOk P w K mg base CX0 3 f fd ["one","two"] (spPartsB CW):=by
 refine F.ok scPartsB (fun vs H Q E h=>?_) (fun cdv A outer s H vs Q E hr h=>?_)
 ·obtain ⟨p,q,o,t,rfl,_⟩:=h
  rfl
 ·obtain ⟨p,q,o,t,rfl,A0,B0,k⟩:=h
  have hr2:Room 2 _:=hr.mono (by decide)
  refine ⟨_,(J2 (J2y (Jq (i:=2) scPartsB.nd rfl (Or.inl rfl) (J7 (call_max2 rfl) (by rfl) hmax PyProof.Rows.boot_max (J0 (Jy (pv 0) rfl) (J0 (Jy (pv 1) rfl) J4)))))
   (J2 (J2y (Jq (i:=3) scPartsB.nd rfl (Or.inl rfl) (pe_op J15 (Jy (pv 0) rfl) (Jy (pv 0) rfl))))
   (J2 (J2y (Jq (i:=4) scPartsB.nd rfl (Or.inl rfl) (pe_op J15 (Jy (pv 1) rfl) (Jy (pv 1) rfl))))
   (J2 (J2y (Jq (i:=5) scPartsB.nd rfl (Or.inl rfl) (J7 (call_min2 rfl) (by rfl) hmin PyProof.Rows.boot_min (J0 (pv 3) (J0 (pv 4) J4)))))
   (J2 (ps_if (J13 op_ge (pv 2) (pv 5) (J16 _)) (Jc (J1a (J1w J4))) J14)
   (J2 (J2y (Jq (i:=6) scPartsB.nd rfl (Or.inl rfl) (pe_op J15 (Jy (pv 0) rfl) (J4m (J5w (Jy (pv 0) rfl)) (pe_op J1x (pv 3) (pv 5)) (pe_op J1x (pv 2) (Jy (pv 0) rfl))))))
   (J2 (J2y (Jq (i:=7) scPartsB.nd rfl (Or.inl rfl) (pe_op J15 (Jy (pv 1) rfl) (J4m (J5w (Jy (pv 1) rfl)) (pe_op J1x (pv 4) (pv 5)) (pe_op J1x (pv 2) (Jy (pv 1) rfl))))))
   (Jc (J1a (J1w (J0 (J56 MSR GSR hr2 rfl mgSR bSR .nil pass0 (J0 (pv 6) (J0 (pe_op J1x (pv 5) (pv 2)) (J0 (pv 7) (J0 (J26 op_ne (Jy (pv 0) rfl) (Jy (pv 1) rfl) (J16 _)) J4))))) J4))))))))))),?_⟩
  obtain ⟨da,fa,a0,aF,aL,aA,aT⟩:=A0.ex
  obtain ⟨db,fb,b0,bF,bL,bA,bT⟩:=B0.ex
  refine ⟨fun σ' H'=>σ'=[some (.ref p),some (.ref q),some (.int (jb o t)),none,none,none,none,none]∧H=H',?_,?_⟩
  ·exact ⟨_,rfl,p,CW,da,fa,_,rfl,a0,TW.cl,TW.nA,aA,_,rfl,q,CW,db,fb,_,rfl,b0,TW.cl,TW.nF,bF,_,_,rfl,rfl,rfl⟩
  rintro σ _ ⟨rfl,rfl⟩
  refine ⟨fun σ' H'=>σ'=[some (.ref p),some (.ref q),some (.int (jb o t)),some (.int (o.la + o.le)),none,none,none,none]∧H=H',?_,?_⟩
  ·exact ⟨_,rfl,p,CW,da,fa,_,rfl,a0,TW.cl,TW.nA,aA,_,rfl,p,CW,da,fa,_,rfl,a0,TW.cl,TW.nL,aL,_,_,rfl,rfl,rfl,rfl⟩
  rintro σ _ ⟨rfl,rfl⟩
  refine ⟨fun σ' H'=>σ'=[some (.ref p),some (.ref q),some (.int (jb o t)),some (.int (o.la + o.le)),some (.int (t.fi + t.le)),none,none,none]∧H=H',?_,?_⟩
  ·exact ⟨_,rfl,q,CW,db,fb,_,rfl,b0,TW.cl,TW.nF,bF,_,rfl,q,CW,db,fb,_,rfl,b0,TW.cl,TW.nL,bL,_,_,rfl,rfl,rfl,rfl⟩
  rintro σ _ ⟨rfl,rfl⟩
  refine ⟨fun σ' H'=>σ'=[some (.ref p),some (.ref q),some (.int (jb o t)),some (.int (o.la + o.le)),some (.int (t.fi + t.le)),some (.int (je o t)),none,none]∧H=H',?_,?_⟩
  ·exact ⟨_,rfl,_,rfl,_,_,rfl,rfl,rfl⟩
  rintro σ _ ⟨rfl,rfl⟩
  refine ⟨_,rfl,_,rfl,_,_,rfl,rfl,_,rfl,?_⟩
  by_cases c:je o t≤jb o t
  ·refine iteDT c ⟨by show 0≤sizeLine;exact Nat.zero_le _,fun d hd=>k d [] _ hd (J6 hd) J1 ?_⟩
   have e:part1 o t=[]:=by unfold part1;exact if_pos c
   rw [e]
   exact ⟨rfl,fun i s z=>by simp at z⟩
  refine iteD c ?_
  have ep:part1 o t=[jpart o t]:=by unfold part1;exact if_neg c
  refine ⟨fun σ' H'=>σ'=[some (.ref p),some (.ref q),some (.int (jb o t)),some (.int (o.la + o.le)),some (.int (t.fi + t.le)),some (.int (je o t)),some (.int (jpart o t).fi),none]∧H=H',?_,?_⟩
  ·refine ⟨_,rfl,p,CW,da,fa,_,rfl,a0,TW.cl,TW.nF,aF,_,rfl,p,CW,da,fa,_,rfl,a0,TW.cl,TW.nT,aT,o.tu,rfl,?_⟩
   by_cases e:o.tu=true
   ·refine iteBT e ⟨_,rfl,_,rfl,_,_,rfl,rfl,_,_,rfl,rfl,?_,rfl⟩
    rw [show (jpart o t).fi=o.fi + (o.la + o.le - je o t) by unfold jpart;rw [if_pos e]];rfl
   ·refine iteBF e ⟨_,rfl,_,rfl,p,CW,da,fa,_,rfl,a0,TW.cl,TW.nA,aA,_,_,rfl,rfl,_,_,rfl,rfl,?_,rfl⟩
    rw [show (jpart o t).fi=o.fi + (jb o t - o.la) by unfold jpart;rw [if_neg e]];rfl
  rintro σ _ ⟨rfl,rfl⟩
  refine ⟨fun σ' H'=>σ'=[some (.ref p),some (.ref q),some (.int (jb o t)),some (.int (o.la + o.le)),some (.int (t.fi + t.le)),some (.int (je o t)),some (.int (jpart o t).fi),some (.int (jpart o t).la)]∧H=H',?_,?_⟩
  ·refine ⟨_,rfl,q,CW,db,fb,_,rfl,b0,TW.cl,TW.nA,bA,_,rfl,q,CW,db,fb,_,rfl,b0,TW.cl,TW.nT,bT,t.tu,rfl,?_⟩
   by_cases e:t.tu=true
   ·refine iteBT e ⟨_,rfl,_,rfl,_,_,rfl,rfl,_,_,rfl,rfl,?_,rfl⟩
    rw [show (jpart o t).la=t.la + (t.fi + t.le - je o t) by unfold jpart;dsimp only;rw [if_pos e]];rfl
   ·refine iteBF e ⟨_,rfl,_,rfl,q,CW,db,fb,_,rfl,b0,TW.cl,TW.nF,bF,_,_,rfl,rfl,_,_,rfl,rfl,?_,rfl⟩
    rw [show (jpart o t).la=t.la + (jb o t - t.fi) by unfold jpart;dsimp only;rw [if_neg e]];rfl
  rintro σ _ ⟨rfl,rfl⟩
  refine ⟨_,rfl,_,rfl,_,rfl,_,_,rfl,rfl,_,rfl,_,rfl,p,CW,da,fa,_,rfl,a0,TW.cl,TW.nT,aT,_,rfl,q,CW,db,fb,_,rfl,b0,TW.cl,TW.nT,bT,rfl,fun x dx hx hdx hne=>sr_made (CW:=CW) (H:=H) (f:=(jpart o t).fi) (l:=je o t - jb o t) (a:=(jpart o t).la) (t:=!decide (V.bl o.tu=V.bl t.tu)) (Q:=fun v H1=>1≤sizeLine∧∀ p,H1 p=none→Q (V.ref p) (upd H1 p (.lst [v]))) (fun r H1 s1 R fr=>⟨by show 1≤sizeLine;decide,fun d hd=>k d [.ref r] _ (s1.free hd) (s1.trans (J6 hd)) J1 ?_⟩) x dx hx hdx hne⟩
  have et:(!decide (V.bl o.tu=V.bl t.tu))=(o.tu != t.tu):=by cases o.tu <;> cases t.tu <;> rfl
  rw [et] at R
  have R':SrAt CW H1 r (jpart o t):=R
  rw [ep]
  refine ⟨rfl,fun i s z=>?_⟩
  match i,z with
  | 0,z=>cases Option.some.inj z;exact ⟨r,rfl,R'.same (J6 hd)⟩
  | n + 1,z=>simp at z
end
end R48
namespace R48
open PySem L2 Rl
section
variable {P:Program} {w:World} {K:PySem.W.Frag} {mg:Str→Option Value} {base:Heap}
def lamPR:Stmt→Pos
 | .Return (some (.Call _ [.Call _ _ [⟨_,.Lambda _ _ _ p,_⟩] _] _ _)) _=>p
 | .Return (some (.Call _ _ [⟨_,.Lambda _ _ _ p,_⟩] _)) _=>p
 | _=>⟨0,0,0,0⟩
abbrev lpJS:Pos:=lamPR ((J1k sJoinS).getD 2 (.Pass ⟨0,0,0,0⟩))
theorem SrsAt.app {CW:Addr} {H:Hp} {ys zs:List V} {ss tt:List Sr} (a:SrsAt CW H ys ss) (b:SrsAt CW H zs tt):SrsAt CW H (ys ++ zs) (ss ++ tt):=by
 have hl:=a.len
 refine ⟨by rw [List.length_append,List.length_append,a.len,b.len],fun i s e=>?_⟩
 rcases Nat.lt_or_ge i ss.length with hi | hi
 ·rw [List.getElem?_append_left hi] at e
  obtain ⟨q,e1,e2⟩:=a.at_ i s e
  exact ⟨q,by rw [List.getElem?_append_left (by lia)];exact e1,e2⟩
 ·rw [List.getElem?_append_right hi] at e
  obtain ⟨q,e1,e2⟩:=b.at_ _ s e
  exact ⟨q,by rw [List.getElem?_append_right (by lia),hl];exact e1,e2⟩
theorem zip_idx {J:List Sr} {xs:List V} (h:xs.length=J.length):(J.map Sr.fi).zip xs=(List.range J.length).map fun i=>((J.getD i s0).fi,xs.getD i .non):=by
 apply List.ext_getElem?
 intro i
 by_cases hi:i < J.length
 ·rw [List.getElem?_map,List.getElem?_range hi]
  refine (List.getElem?_zip_eq_some (z:=((J.getD i s0).fi,xs.getD i .non))).mpr ⟨?_,?_⟩
  ·rw [List.getElem?_map,List.getElem?_eq_getElem hi,List.getD_eq_getElem?_getD,List.getElem?_eq_getElem hi];rfl
  ·show xs[i]?=some (xs.getD i .non)
   rw [List.getD_eq_getElem?_getD,List.getElem?_eq_getElem (by lia:i < xs.length)];rfl
 ·rw [List.getElem?_eq_none (by simp;lia),List.getElem?_eq_none (by simpa using hi)]
theorem map_getD_sr (J:List Sr):(List.range J.length).map (fun i=>J.getD i s0)=J:=by
 refine List.ext_getElem (by simp) fun i h1 h2=>?_
 rw [List.getElem_map,List.getElem_range,List.getD_eq_getElem?_getD,List.getElem?_eq_getElem h2];rfl
theorem srt_srs {CW:Addr} {H:Hp} {xs:List V} {J:List Sr} (B:SrsAt CW H xs J) {ys:List (Int × V)} (pm:ys.Perm ((J.map Sr.fi).zip xs)) (pw:ys.Pairwise (fun a b=>a.1≤b.1)) :
  ∃ L,L.Perm J∧L.Pairwise (fun s t=>s.fi≤t.fi)∧SrsAt CW H (ys.map Prod.snd) L:=by
 rw [zip_idx B.len] at pm
 obtain ⟨ix,po,rfl⟩:=J5y pm rfl
 rw [List.pairwise_map] at pw
 refine ⟨ix.map fun i=>J.getD i s0,?_,?_,?_⟩
 ·have:=po.map fun i=>J.getD i s0
  rwa [map_getD_sr] at this
 ·rw [List.pairwise_map];exact pw
 ·refine ⟨by simp,fun i s e=>?_⟩
  rw [List.getElem?_map] at e
  cases q:ix[i]? with
  | none=>rw [q] at e;cases e
  | some j =>
   rw [q] at e
   cases e
   have hj:j < J.length:=List.mem_range.mp (po.mem_iff.mp (List.mem_of_getElem? q))
   obtain ⟨a,e1,e2⟩:=B.at_ j (J.getD j s0) (getL hj)
   refine ⟨a,?_,e2⟩
   rw [List.getElem?_map,List.getElem?_map,q]
   show some (xs.getD j .non)=_
   rw [List.getD_eq_getElem?_getD,e1];rfl
theorem SrsAt.sub {CW:Addr} {H H':Hp} {ys:List V} {ss:List Sr} (h:SrsAt CW H ys ss) (k:SameT H H'):SrsAt CW H' ys ss:=h.sameT k
def spJoinS (CW TJ:Addr):Sp:=fun vs H Q _=>∃ (a b:Addr) (xs ys:List V) (os ts:List Sr),vs=[.ref a,.ref b]∧H a=some (.lst xs)∧H b=some (.lst ys)∧SrsAt CW H xs os∧SrsAt CW H ys ts∧(jn os ts).length < 64∧os.length≤1000∧ts.length≤1000∧TabOk H TJ lpJS "joined_stretches.<locals>.<lambda>"∧
 ∀ L d zs H',L.Perm (jn os ts)→L.Pairwise (fun s t=>s.fi≤t.fi)→SameT H H'→TabOk H' TJ lpJS "joined_stretches.<locals>.<lambda>"→TKeep TJ H H'→H' d=some (.lst zs)→SrsAt CW H' zs (lgst L)→Q (.ref d) H'
theorem jn_snoc {os ts:List Sr} {i:Nat} {o:Sr} (h:os[i]?=some o):jn (os.take (i + 1)) ts=jn (os.take i) ts ++ ts.flatMap (part1 o):=by
 unfold jn
 rw [J2u h,List.flatMap_append,List.flatMap_cons,List.flatMap_nil,List.append_nil]
theorem fm_snoc {ts:List Sr} {o:Sr} {j:Nat} {t:Sr} (h:ts[j]?=some t):(ts.take (j + 1)).flatMap (part1 o)=(ts.take j).flatMap (part1 o) ++ part1 o t:=by
 rw [J2u h,List.flatMap_append,List.flatMap_cons,List.flatMap_nil,List.append_nil]
theorem fm_le {ts:List Sr} {o:Sr} (j:Nat):((ts.take j).flatMap (part1 o)).length≤(ts.flatMap (part1 o)).length:=by
 have:ts.flatMap (part1 o)=(ts.take j).flatMap (part1 o) ++ (ts.drop j).flatMap (part1 o):=by rw [← List.flatMap_append,List.take_append_drop]
 rw [this,List.length_append];lia
theorem jn_le {os ts:List Sr} (i:Nat):(jn (os.take i) ts).length≤(jn os ts).length:=by
 have:jn os ts=jn (os.take i) ts ++ jn (os.drop i) ts:=by unfold jn;rw [← List.flatMap_append,List.take_append_drop]
 rw [this,List.length_append];lia
theorem scJoinS:FnScope ["ones","twos","parts","one","two"] ["ones","twos"] (Ja sJoinS):=⟨rfl,rfl,rfl,by decide +kernel,rfl,by decide +kernel,by decide +kernel⟩
theorem ok_joinS {f fPB fLN CW TJ cc:Addr} {fd fdPB fdLN:FuncData}  (F:Fun K "joined_stretches" "joined_stretches" sJoinS f fd) (T:TxtR mg) (hsorted:mg "sorted"=none) (TW:TxtSr K CW) (hcode:fd.code=.ref cc) (CD:PySem.W.codeHdIn K cc TJ=true) (BL:BltAt base mg TJ)
  (GPB:FnOk P w K mg base CX0 3 fPB fdPB ["one","two"] (spPartsB CW)) (bPB:Binds K fdPB ["one","two"] []) (mPB:mg "parts_between"=some (.ref fPB)) (kPB:PySem.W.keepIn K (.ref fPB)=true)
  (GLN:FnOk P w K mg base CX0 4 fLN fdLN ["stretches"] (spLongest CW)) (bLN:Binds K fdLN ["stretches"] []) (mLN:mg "longest"=some (.ref fLN)) (kLN:PySem.W.keepIn K (.ref fLN)=true) :
  FnOk P w K mg base CX0 5 f fd ["ones","twos"] (spJoinS CW TJ):=by
 refine F.okK hcode scJoinS (fun vs H Q E h=>?_) (fun A outer s H vs Q E hr h=>?_)
 ·obtain ⟨a,b,xs,ys,os,ts,rfl,_⟩:=h
  rfl
 ·obtain ⟨a,b,xs,ys,os,ts,rfl,ha,hb,A,B,h64,n1,n2,TT,k⟩:=h
  have hr3:Room 3 _:=hr.mono (by decide)
  have hr4:Room 4 _:=hr.mono (by decide)
  refine ⟨_,(J2 (Jq (i:=2) scJoinS.nd rfl (Or.inl rfl) (J1w J4))
   (J2 (J3v PassesOwn.never rfl (J24 (pv 0)) (J1e (i:=3) scJoinS.nd rfl (Or.inl rfl))
    (Jc (J3v PassesOwn.never rfl (J24 (pv 1)) (J1e (i:=4) scJoinS.nd rfl (Or.inl rfl))
     (Jc (J2k (pe_bm PySem.F.plainAttrs_list PySem.F.slot_list_extend PySem.F.type_list_extend mt_extend (pv 2) (J0 (Jp GPB hr3 rfl mPB kPB bPB .nil pass0 (J0 (pv 3) (J0 (pv 4) J4))) J4)))))))
   (Jc (J1a (Jp GLN hr4 rfl mLN kLN bLN .nil pass0 (J0 (pe_sortK (x:="part") (caps:=[]) (js:=[]) rfl (hr.mono (by decide)) (by rfl) hsorted rfl rfl rfl CD BL ⟨rfl,rfl,rfl,by decide +kernel,rfl,(by intro p hp;cases hp),freeOk.get rfl,rfl,fun k c e=>by simp at e⟩ (fun _ _ _ _=>rfl) (fun A f c s H=>(J60 K (pv 0))) (pv 2)) J4)))))),?_⟩
  refine ⟨by show 0≤sizeLine;exact Nat.zero_le _,fun d hd=>?_⟩
  have s0':=J6 (o:=.lst []) hd
  have nd:∀ {b':Addr} {u:HO},H b'=some u→b'≠d:=fun {b' u} e=>J9 e hd
  have sm:=Jx (n:=100) (by decide)
  refine ⟨_,rfl,a,rfl,⟨_,SqL.of (s0' _ _ ha)⟩,J2b (K:=K) (a:=a) (xs:=xs) (fun i σ Hw=>∃ v3 v4 zs,σ=[some (.ref a),some (.ref b),some (.ref d),v3,v4]∧Hw d=some (.lst zs)∧SrsAt CW Hw zs (jn (os.take i) ts)∧Same H Hw)
   ⟨none,none,[],rfl,J1,⟨rfl,fun i s e=>by simp [jn] at e⟩,s0'⟩ (fun i σ Hw _ ⟨_,_,_,_,_,_,s⟩=>SqL.of (s _ _ ha)) (fun i y σ Hw hy pv=>?_) (fun σ Hw ⟨v3,v4,zs,e,hdw,Z,s⟩=>?_)⟩
  ·obtain ⟨v3,v4,zs,rfl,hdw,Z,sw⟩:=pv
   have hi:i < os.length:=by rw [← A.len];exact (List.getElem?_eq_some_iff.mp hy).1
   have eo:os[i]?=some os[i]:=List.getElem?_eq_getElem hi
   obtain ⟨p,ep,Ap⟩:=A.at_ i _ eo
   obtain rfl:V.ref p=y:=Option.some.inj (ep.symm.trans hy)
   generalize os[i]=o at eo Ap
   have sj:=jn_snoc (ts:=ts) eo
   have j64:=jn_le (ts:=ts) (os:=os) (i + 1)
   rw [sj,List.length_append] at j64
   refine ⟨_,rfl,b,rfl,⟨_,SqL.of (sw _ _ hb)⟩,J2b (K:=K) (a:=b) (xs:=ys) (fun j σ Hx=>∃ v4 zs,σ=[some (.ref a),some (.ref b),some (.ref d),some (.ref p),v4]∧Hx d=some (.lst zs)∧SrsAt CW Hx zs (jn (os.take i) ts ++ (ts.take j).flatMap (part1 o))∧Same H Hx)
    ⟨v4,zs,rfl,hdw,by rw [show (ts.take 0).flatMap (part1 o)=[] from rfl,List.append_nil];exact Z,sw⟩ (fun j σ Hx _ ⟨_,_,_,_,_,s⟩=>SqL.of (s _ _ hb)) (fun j y σ Hx hy pv=>?_) (fun σ Hx ⟨v4,zs,e,hdx,Z,s⟩=>?_)⟩
   ·obtain ⟨v4,zs,rfl,hdx,Z,sx⟩:=pv
    have hj:j < ts.length:=by rw [← B.len];exact (List.getElem?_eq_some_iff.mp hy).1
    have et:ts[j]?=some ts[j]:=List.getElem?_eq_getElem hj
    obtain ⟨q,eq,Bq⟩:=B.at_ j _ et
    obtain rfl:V.ref q=y:=Option.some.inj (eq.symm.trans hy)
    generalize ts[j]=t at et Bq
    have zl:=Z.len
    rw [List.length_append] at zl
    have f1:=fm_le (ts:=ts) (o:=o) (j + 1)
    rw [fm_snoc et,List.length_append] at f1
    refine ⟨_,rfl,.inl ⟨rfl,_,SqL.of hdx⟩,_,rfl,_,rfl,p,q,o,t,rfl,Ap.same sx,Bq.same sx,fun e ws Hy he sy hy' W=>⟨d,e,zs,ws,rfl,rfl,sy _ _ hdx,hy',(by rw [W.len];lia),?_⟩⟩
    have ned:e≠d:=fun z=>by rw [z,hdx] at he;cases he
    have kp:∀ b' u,Hy b'=some u→b'≠d→upd Hy d (.lst (zs ++ ws)) b'=some u:=fun b' u e' n=>by rw [Jf n];exact e'
    refine ⟨_,_,rfl,J1,?_,fun b' u e'=>kp _ _ (sy _ _ (sx _ _ e')) (nd e')⟩
    rw [fm_snoc et,← List.append_assoc]
    exact ((Z.same sy).keepD (sy _ _ hdx) kp).app (W.keepD (sy _ _ hdx) kp)
   ·subst e
    rw [B.len,List.take_length,← sj] at Z
    exact ⟨_,_,_,rfl,hdx,Z,s⟩
  subst e
  rw [A.len,List.take_length] at Z
  have zl:=Z.len
  refine ⟨_,rfl,d,zs,(jn os ts).map Sr.fi,rfl,.inl hdw,(by rw [zl];exact h64),(by rw [List.length_map,zl]),J1f TT s,fun H2 sT i y z ey ek=>?_,fun H2 l us sT T2 TQ hl pm pw=>?_⟩
  ·have hi:i < (jn os ts).length:=by rw [← zl];exact (List.getElem?_eq_some_iff.mp ey).1
   obtain ⟨q,eq,Aq⟩:=Z.at_ i _ (List.getElem?_eq_getElem hi)
   obtain rfl:V.ref q=y:=Option.some.inj (eq.symm.trans ey)
   rw [List.getElem?_map,List.getElem?_eq_getElem hi] at ek
   cases ek
   obtain ⟨dx,fs,h0,lF,lL,lA,lT⟩:=Aq.ex
   exact ⟨_,rfl,q,CW,dx,fs,_,rfl,sT _ _ h0 rfl,TW.cl,TW.nF,lF,rfl,rfl⟩
  obtain ⟨L,p1,p2,S⟩:=srt_srs (Z.sameT sT) pm pw
  have s2:=J6 (o:=.lst (us.map Prod.snd)) hl
  have ll:=p1.length_eq
  refine ⟨l,_,L,rfl,J1,S.same s2,(by lia),fun d2 ws H3 s3 e3 W=>?_⟩
  exact k L d2 ws H3 p1 p2 (SameT.trans (Same.t s) (SameT.trans sT (Same.t (s2.trans s3)))) (J1f T2 (s2.trans s3)) ((TKeep.same s).trans (TKeep.trans (fun Q p q n t=>TQ Q p q n t) (TKeep.same (s2.trans s3)))) e3 W
end
end R48
namespace R48
open PySem L2 Rl
section
variable {P:Program} {w:World} {K:PySem.W.Frag} {mg:Str→Option Value} {base:Heap}
theorem repS_good {g:Int→Int} {N:Int} {L:List Sr} {os:List Nat} (R:RepS g 0 L N) (h1:1≤N) (h2:N≤10 ^ 30) (hl:L.length≤24) (p:os.Perm (List.range L.length)):Good (L.map Sr.le) os:=by
 have O:=R.ord p
 have t:=R.tot
 refine ⟨?_,by rw [List.length_map];exact hl,O.pos,by lia,O.perm⟩
 rw [List.length_map]
 cases L with
 | nil=>have:(0:Int)=N:=R;lia
 | cons a r=>simp
def spLineWX (C CW TB CM:Addr):Sp:=fun vs H Q E=>∃ (l:Addr) (ys:List V) (ss:List Sr),vs=[.ref l]∧H l=some (.lst ys)∧SrsAt CW H ys ss∧TabOk H TB lpLO "line_of.<locals>.<lambda>"∧(24 < ss.length→E (.ref CM) none H)∧
 (ss.length≤24→∀ os:List Nat,os.Perm (List.range ss.length)→os.Pairwise (fun i j=>(ss.map Sr.la).getD i 0≤(ss.map Sr.la).getD j 0)→Good (ss.map Sr.le) os∧
  ∀ x H',SameT H H'→TabOk H' TB lpLO "line_of.<locals>.<lambda>"→TKeep TB H H'→LineAt C H' x (ss.map Sr.le) os (ss.map Sr.tu)→Q (.ref x) H')
theorem scLineW:FnScope ["stretches"] ["stretches"] (Ja sLineW):=⟨rfl,rfl,rfl,by decide +kernel,rfl,by decide +kernel,by decide +kernel⟩
theorem ok_lineWX {f fLO C CW TB CM:Addr} {fd fdLO:FuncData} {t24:Tok} (F:Fun K "line_within" "line_within" sLineW f fd) (T:TxtR mg) (h24:mg "MOST_PIECES"=some (.int 24 t24)) (TM:TxtX K mg "TooMany" CM)
  (GLO:FnOk P w K mg base CX0 5 fLO fdLO ["stretches"] (spLineOf C CW TB "line_of.<locals>.<lambda>")) (bLO:Binds K fdLO ["stretches"] []) (mLO:mg "line_of"=some (.ref fLO)) (kLO:PySem.W.keepIn K (.ref fLO)=true) :
  FnOk P w K mg base (Exc1 P w) 6 f fd ["stretches"] (spLineWX C CW TB CM):=by
 refine F.okX scLineW (fun vs H Q E h=>?_) (fun cdv A outer s H vs Q E hr h=>?_)
 ·obtain ⟨l,ys,ss,rfl,_⟩:=h
  rfl
 ·obtain ⟨l,ys,ss,rfl,hl,B,TT,kx,k⟩:=h
  have hr5:Room 5 _:=hr.mono (by decide)
  refine ⟨_,(J2 (ps_if (J13 op_gt (J7 Jj (by rfl) T.len PySem.boot_len (J0 (pv 0) J4)) (Jw (v:=.int 24) rfl h24 ⟨_,rfl⟩) (J16 _)) (Jc (ps_raise rfl TM.mg TM.ex)) J14)
   (Jc (J1a (Jp GLO hr5 rfl mLO kLO bLO .nil pass0 (J0 (pv 0) J4))))),?_⟩
  have bl:=B.len
  refine ⟨_,rfl,l,ys,rfl,.inl (SqL.of hl),_,_,rfl,rfl,_,rfl,?_⟩
  by_cases c:(24:Int) < (ys.length:Int)
  ·exact iteDT c (kx (by lia))
  ·exact iteD c ⟨_,rfl,l,ys,ss,rfl,hl,B,TT,by lia,k (by lia)⟩
def spJoinedX (C CW TB TJ CU CM:Addr):Sp:=fun vs H Q E=>∃ (x y:Addr) (ls ls':List Int) (os os':List Nat) (ts ts':List Bool),vs=[.ref x,.ref y]∧LineAt C H x ls os ts∧LineAt C H y ls' os' ts'∧Good ls os∧Good ls' os'∧ts.length=ls.length∧ts'.length=ls'.length∧ls.length + ls'.length < 64∧TabOk H TB lpLO "line_of.<locals>.<lambda>"∧TabOk H TJ lpJS "joined_stretches.<locals>.<lambda>"∧
 (ls'.sum≠ls.sum→E (.ref CU) none H)∧
 (ls'.sum=ls.sum→∀ S,RepS (fun x=>gL ls' os' ts' (gL ls os ts x)) 0 S ls.sum→(24 < S.length→∀ H',SameT H H'→E (.ref CM) none H')∧
  (S.length≤24→∀ z l o t H',SameT H H'→l.length=S.length→LineAt C H' z l o t→Q (.ref z) H'))
theorem scJoined:FnScope ["one","two"] ["one","two"] (Ja sJoined):=⟨rfl,rfl,rfl,by decide +kernel,rfl,by decide +kernel,by decide +kernel⟩
theorem ok_joinedX {f fLW fJS fSO C CW TB TJ CU CM:Addr} {fd fdLW fdJS fdSO:FuncData}  (F:Fun K "joined" "joined" sJoined f fd) (TC:TxtC K mg C) (TBJ:TB≠TJ) (TU:TxtX K mg "Unlike" CU)
  (GLW:FnOk P w K mg base (Exc1 P w) 6 fLW fdLW ["stretches"] (spLineWX C CW TB CM)) (bLW:Binds K fdLW ["stretches"] []) (mLW:mg "line_within"=some (.ref fLW)) (kLW:PySem.W.keepIn K (.ref fLW)=true)
  (GJS:FnOk P w K mg base CX0 5 fJS fdJS ["ones","twos"] (spJoinS CW TJ)) (bJS:Binds K fdJS ["ones","twos"] []) (mJS:mg "joined_stretches"=some (.ref fJS)) (kJS:PySem.W.keepIn K (.ref fJS)=true)
  (GSO:FnOk P w K mg base CX0 3 fSO fdSO ["line"] (spStrOf C CW)) (bSO:Binds K fdSO ["line"] []) (mSO:mg "stretches_of"=some (.ref fSO)) (kSO:PySem.W.keepIn K (.ref fSO)=true) :
  FnOk P w K mg base (Exc1 P w) 7 f fd ["one","two"] (spJoinedX C CW TB TJ CU CM):=by
 refine F.okX scJoined (fun vs H Q E h=>?_) (fun cdv A outer s H vs Q E hr h=>?_)
 ·obtain ⟨x,y,ls,ls',os,os',ts,ts',rfl,_⟩:=h
  rfl
 ·obtain ⟨x,y,ls,ls',os,os',ts,ts',rfl,L1,L2,G1,G2,t1,t2,h64,Tb,Tj,ku,k⟩:=h
  have hr3:Room 3 _:=hr.mono (by decide)
  have hr5:Room 5 _:=hr.mono (by decide)
  have hr6:Room 6 _:=hr.mono (by decide)
  refine ⟨_,(J2 (ps_if (J13 op_ne (Jy (pv 0) rfl) (Jy (pv 1) rfl) (J16 _)) (Jc (ps_raise rfl TU.mg TU.ex)) J14)
   (Jc (J1a (Jp GLW hr6 rfl mLW kLW bLW .nil pass1 (J0 (Jp GJS hr5 rfl mJS kJS bJS .nil pass0 (J0 (Jp GSO hr3 rfl mSO kSO bSO .nil pass0 (J0 (pv 0) J4)) (J0 (Jp GSO hr3 rfl mSO kSO bSO .nil pass0 (J0 (pv 1) J4)) J4))) J4))))),?_⟩
  obtain ⟨dx,fl,pl,po,pt,ps,pd,h0,⟨k1,k2,k3,k4,k5,k6⟩,e1,e2,e3,e4,e5⟩:=L1.ex
  obtain ⟨dy,fy,ql,qo,qt,qs,qd,g0,⟨j1,j2,j3,j4,j5,j6⟩,f1,f2,f3,f4,f5⟩:=L2.ex
  have O1:=G1.ord
  have O2:=G2.ord
  refine ⟨_,rfl,x,C,dx,fl,_,rfl,h0,TC.cl,TC.nZ,k6,_,rfl,y,C,dy,fy,_,rfl,g0,TC.cl,TC.nZ,j6,rfl,_,rfl,?_⟩
  by_cases hz:ls'.sum=ls.sum
  case neg=>exact iteND (fun e=>hz (V.int.inj e).symm) (ku hz)
  refine iteNS (by rw [hz]) ?_
  have b1:=J28 (ts:=ts) O1
  have b2:=J28 (ts:=ts') O2
  rw [hz] at b2
  have r1:=srs_rep (ts:=ts) O1
  have r2:=srs_rep (ts:=ts') O2
  rw [hz] at r2
  have jl:=jn_len r1 r2 b1.inj
  rw [J4i,J4i] at jl
  have p1:=G1.pos_sum
  have hi1:=G1.hi
  have hi2:=G2.hi
  refine ⟨_,rfl,x,ls,os,ts,rfl,L1,G1.hi,t1,fun d1 ys1 H1 s1 q1 rf1=>⟨_,rfl,y,ls',os',ts',rfl,L2.same s1,G2.hi,t2,fun d2 ys2 H2 s2 q2 rf2=>?_⟩⟩
  have s12:=s1.trans s2
  refine ⟨d1,d2,ys1,ys2,srsL ls os ts,srsL ls' os' ts',rfl,s2 _ _ q1,q2,(Refs.srs rf1).same s2,Refs.srs rf2,(by lia),(by rw [J4i];lia),(by rw [J4i];lia),J1f Tj s12,fun L d zs H3 pm pw sT T4 TK4 e S=>?_⟩
  have R:=jn_repS b1 b2 r1 r2 (by lia) pm pw
  obtain ⟨kx,kq⟩:=k hz _ R
  have sT3:=SameT.trans (Same.t s12) sT
  refine ⟨d,zs,lgst L,rfl,e,S,TK4 _ _ _ TBJ (J1f Tb s12),fun c=>kx c H3 sT3,fun c o po' pw'=>⟨repS_good R p1 G1.sum c po',fun z H4 sT4 T6 TK6 LZ=>?_⟩⟩
  exact kq c z _ o _ H4 (SameT.trans sT3 sT4) (List.length_map ..) LZ
end
end R48
namespace R48
open PySem L2 Rl
section
variable {P:Program} {w:World} {K:PySem.W.Frag} {mg:Str→Option Value} {base:Heap}
def spCell (K:PySem.W.Frag):Sp:=fun vs H Q _=>∃ (a:Addr) (ns:List Int) (j:Nat),vs=[.ref a,.int j]∧SqL K H a (iV ns)∧Q (.int (cellN ns j)) H
theorem scCell:FnScope ["script","k"] ["script","k"] (Ja sCell):=⟨rfl,rfl,rfl,by decide +kernel,rfl,by decide +kernel,by decide +kernel⟩
theorem ok_cell {f:Addr} {fd:FuncData} (F:Fun K "_law_cell" "_law_cell" sCell f fd) (T:TxtR mg):FnOk P w K mg base CX0 1 f fd ["script","k"] (spCell K):=by
 refine F.ok scCell (fun vs H Q E h=>?_) (fun cdv A outer s H vs Q E hr h=>?_)
 ·obtain ⟨a,ns,j,rfl,_⟩:=h
  rfl
 ·obtain ⟨a,ns,j,rfl,hS,k⟩:=h
  refine ⟨_,J2 (ps_if (J13 op_lt (pv 1) (J7 Jj (by rfl) T.len PySem.boot_len (J0 (pv 0) J4)) (J16 _)) (Jc (J1a (pe_ix J17 (pv 0) (pv 1) (fun _ _=>rfl)))) J14) (Jc (J1a Je)),?_⟩
  refine ⟨_,rfl,_,rfl,a,_,rfl,.inl hS,_,_,rfl,rfl,_,rfl,?_⟩
  have hl:(iV ns).length=ns.length:=List.length_map ..
  by_cases hj:j < ns.length
  ·refine iteDT (by rw [hl];lia) ?_
   exact ⟨_,rfl,_,rfl,a,_,_,_,rfl,rfl,hS,Jn (J1z hj),k⟩
  ·refine iteD (by rw [hl];lia) ?_
   have e:cellN ns j=0:=by
    unfold cellN
    rw [List.getD_eq_getElem?_getD,List.getElem?_eq_none (by lia)];rfl
   rw [e] at k
   exact k
end
section
def bitsN (ns:List Int):Int:=cellN ns 1 % (1 * 2 ^ (24:Int).toNat)
def turnB (ns:List Int) (k:Nat):Bool:=decide (V.int (Builtin.bitAnd (bitsN ns / 2 ^ k) 1)=V.int 1)
def drawT (ns:List Int) (many:Nat):List Bool:=(List.range many).map (turnB ns)
theorem drawT_len (ns:List Int) (many:Nat):(drawT ns many).length=many:=by simp [drawT]
structure DrawnAt (H:Hp) (p:Addr) (ls:List Int) (os:List Nat) (ts:List Bool):Prop where
 ex:∃ l o t:Addr,H p=some (.tup [.ref l,.ref o,.ref t])∧H l=some (.lst (iV ls))∧H o=some (.lst (nV os))∧H t=some (.lst (bV ts))
theorem DrawnAt.same {H H':Hp} {p:Addr} {ls:List Int} {os:List Nat} {ts:List Bool} (h:DrawnAt H p ls os ts) (s:Same H H'):DrawnAt H' p ls os ts:=by
 obtain ⟨l,o,t,h0,h1,h2,h3⟩:=h.ex
 exact ⟨l,o,t,s _ _ h0,s _ _ h1,s _ _ h2,s _ _ h3⟩
theorem insV (os:List Nat) (i y:Nat):(nV os).take i ++ V.int (y:Int) :: (nV os).drop i=nV (insAt os i y):=by
 show ((os.map fun (n:Nat)=>(n:Int)).map V.int).take i ++ V.int (y:Int) :: ((os.map fun (n:Nat)=>(n:Int)).map V.int).drop i=((insAt os i y).map fun (n:Nat)=>(n:Int)).map V.int
 unfold insAt
 simp only [List.map_append,List.map_cons,List.map_take,List.map_drop]
end
section
variable {P:Program} {w:World} {K:PySem.W.Frag} {mg:Str→Option Value} {base:Heap}
def spDrawn9 (K:PySem.W.Frag):Sp:=fun vs H Q _=>∃ (a:Addr) (ns ms:List Int) (t many:Nat) (top:Int),vs=[.ref a,.int (t:Nat),.int many,.int top]∧SqL K H a (iV ns)∧(∀ k,cellN ms (1 + k)=cellN ns (t + k))∧1≤many∧many≤24∧0 < top∧
 ∀ p H',Same H H'→DrawnAt H' p (drawL ms many top) (drawO ms many many) (drawT ms many)→Q (.ref p) H'
theorem scDrawn9:FnScope ["script","at","many","top","lengths","order","k","bits"] ["script","at","many","top"] (Ja sDrawn):=⟨rfl,rfl,rfl,by decide +kernel,rfl,by decide +kernel,by decide +kernel⟩
theorem ok_drawn9 {f fc:Addr} {fd fdc:FuncData} (F:Fun K "_law_drawn" "_law_drawn" sDrawn f fd) (T:TxtR mg) (GC:FnOk P w K mg base CX0 1 fc fdc ["script","k"] (spCell K)) (bC:Binds K fdc ["script","k"] []) (mC:mg "_law_cell"=some (.ref fc)) (kC:PySem.W.keepIn K (.ref fc)=true) :
  FnOk P w K mg base CX0 2 f fd ["script","at","many","top"] (spDrawn9 K):=by
 refine F.ok scDrawn9 (fun vs H Q E h=>?_) (fun cdv A outer s H vs Q E hr h=>?_)
 ·obtain ⟨a,ns,ms,t,many,top,rfl,_⟩:=h
  rfl
 ·obtain ⟨a,ns,ms,t,many,top,rfl,hS,hm,h1,h2,h3,k⟩:=h
  refine ⟨_,J2 (ps_compB (i:=4) ["script","at","top"] [0,1,3] scDrawn9.nd rfl (Or.inl rfl) rfl (J3g rfl T.range (J0 (pv 2) J4)) rfl
    (fun C fp s H=>pe_op J15 Je (pe_op J4n (Jp GC hr rfl mC kC bC .nil pass0 (J0 (pv 1) (J0 (pe_op J15 (pe_op J15 (pv 2) Je) (pv 0)) J4))) (pv 3)))
    (by decide +kernel) (by decide +kernel) (by decide +kernel) (by intro p hp;simp only [List.mem_cons,List.not_mem_nil,or_false] at hp;rcases hp with rfl | rfl | rfl <;> rfl))
   (J2 (Jq (i:=5) scDrawn9.nd rfl (Or.inl rfl) (J1w J4))
   (J2 (J3v PassesOwn.never rfl (J3g rfl T.range (J0 (pv 2) J4)) (J1e (i:=6) scDrawn9.nd rfl (Or.inl rfl))
    (Jc (J2k (pe_bm PySem.F.plainAttrs_list PySem.F.slot_list_insert PySem.F.type_list_insert mt_insert (pv 5)
     (J0 (pe_op J4n (Jp GC hr rfl mC kC bC .nil pass0 (J0 (pv 0) (J0 (pe_op J15 (pe_op J15 (pe_op J15 (pv 1) Je) (pv 2)) (pv 6)) J4))) (pe_op J15 (pv 6) Je)) (J0 (pv 6) J4))))))
   (J2 (Jq (i:=7) scDrawn9.nd rfl (Or.inr rfl) (pe_op J4n (Jp GC hr rfl mC kC bC .nil pass0 (J0 (pv 0) (J0 (pv 1) J4))) (pe_op op_shl Je Je)))
   (Jc (J1a (pe_tup (J0 (pv 4) (J0 (pv 5) (J0
    (pe_lc (caps:=["bits"]) (js:=[7]) rfl (J3g rfl T.range (J0 (pv 2) J4)) rfl (fun _ _ _ _=>J42)
     (fun C fp s H=>J26 op_eq (pe_op op_and (pe_op op_shr (pv 1) (pv 0)) Je) Je (J16 _))
     (by decide +kernel) (by decide +kernel) (by decide +kernel) (by intro p hp;simp only [List.mem_cons,List.not_mem_nil,or_false] at hp;rcases hp with rfl;rfl)) J4))))))))),?_⟩
  refine ⟨_,rfl,(many:Int),rfl,by lia,by lia,0,many,fun k=>V.int (1 + cellN ns (t + 1 + k) % top),rfl,by lia,?_,fun d hd=>?_⟩
  ·rintro d H2 j hd hj rfl
   have e:((t:Int) + 1 + (0 + (j:Int)))=((t + 1 + j:Nat):Int):=by lia
   exact ⟨_,rfl,_,rfl,_,_,rfl,rfl,_,rfl,_,_,rfl,rfl,a,ns,t + 1 + j,(by rw [← e];rfl),(J6 hd).seq hS,_,rfl,_,_,rfl,rfl,h3,_,_,rfl,rfl,rfl,rfl⟩
  have eL:(List.range many).map (fun k=>V.int (1 + cellN ns (t + 1 + k) % top))=iV (drawL ms many top):=by
   show _=(drawL ms many top).map V.int
   unfold drawL
   rw [List.map_map]
   refine List.map_congr_left fun k _=>?_
   show V.int (1 + cellN ns (t + 1 + k) % top)=V.int (1 + cellN ms (2 + k) % top)
   rw [show 2 + k=1 + (1 + k) by lia,hm (1 + k),show t + (1 + k)=t + 1 + k by lia]
  rw [eL]
  have s1:Same H (upd H d (.lst (iV (drawL ms many top)))):=J6 hd
  generalize hH1:upd H d (.lst (iV (drawL ms many top)))=H1 at s1
  have hd1:H1 d=some (.lst (iV (drawL ms many top))):=by rw [← hH1];exact J1
  refine ⟨Nat.zero_le _,fun ol hol=>?_⟩
  refine ⟨_,rfl,(many:Int),rfl,by lia,by lia,for_range (lo:=0) (n:=many) (fun i σ H2=>∃ v,σ=[some (.ref a),some (.int (t:Nat)),some (.int many),some (.int top),some (.ref d),some (.ref ol),v,none]∧H2 ol=some (.lst (nV (drawO ms many i)))∧Same H1 H2)
   ⟨none,rfl,J1,J6 hol⟩ ?_ ?_⟩
  ·rintro i σ H2 hi ⟨v,rfl,ho,s2⟩
   rw [Int.zero_add]
   obtain ⟨q1,q2⟩:=spotO_le ms many i
   have e:((t:Int) + 1 + (many:Int) + (i:Int))=((t + 1 + many + i:Nat):Int):=by lia
   have hlen:(nV (drawO ms many i)).length=i:=by rw [len_nV,drawO_len]
   refine ⟨_,rfl,.inl ⟨rfl,_,SqL.of ho⟩,_,rfl,_,rfl,_,_,rfl,rfl,_,rfl,_,_,rfl,rfl,_,rfl,_,_,rfl,rfl,a,ns,t + 1 + many + i,(by rw [← e];rfl),(s1.trans s2).seq hS,_,rfl,_,_,rfl,rfl,_,_,rfl,rfl,(by lia),_,rfl,
    ol,_,spotO ms many i,V.int (i:Int),rfl,(by rw [q2,show 2 + many + i=1 + (1 + many + i) by lia,hm,show t + (1 + many + i)=t + 1 + many + i by lia]),ho,(by rw [hlen];exact q1),(by rw [hlen];exact Jx (by lia)),?_⟩
   refine ⟨_,rfl,?_,fun b o z=>?_⟩
   ·rw [J1,insV];rfl
   ·rw [Jf (J9 z hol)]
    exact s2 _ _ z
  ·rintro σ H2 ⟨v,rfl,ho,s2⟩
   have s3:=s1.trans s2
   refine ⟨_,rfl,_,rfl,a,ns,t,rfl,s3.seq hS,_,_,rfl,rfl,⟨by decide,by decide,by decide⟩,_,_,rfl,rfl,(by show (0:Int) < 1 * 2 ^ 24;decide),?_⟩
   refine ⟨_,rfl,_,rfl,_,rfl,(many:Int),rfl,by lia,by lia,fun tl htl=>lc_rng 0 many (fun _=>true) (fun k=>V.bl (turnB ms k)) (by lia) htl (fun _ _ H _ _ q=>q H (Same.refl _)) (fun j hj H3 Qe _ s3' q=>?_) (fun H3 s3' htl'=>?_)⟩
   ·have e:(0 + (j:Int)).toNat=j:=by lia
    refine ⟨_,rfl,_,rfl,_,_,rfl,rfl,(by lia),_,_,rfl,rfl,rfl,?_⟩
    have:=q H3 (Same.refl _)
    unfold turnB bitsN at this
    rw [show (1:Nat)=1 + 0 from rfl,hm 0,Nat.add_zero] at this
    rw [e]
    exact this
   rw [J31] at htl'
   have eT:(List.range many).map (fun k=>V.bl (turnB ms k))=bV (drawT ms many):=by
    show _=(drawT ms many).map V.bl
    unfold drawT
    rw [List.map_map];rfl
   rw [eT] at htl'
   refine ⟨(by show 3≤sizeLine;rw [sizeLine_eq];decide),fun p hp=>?_⟩
   have s4:=s3'.trans (J6 (o:=.tup [.ref d,.ref ol,.ref tl]) hp)
   exact k p _ (s3.trans s4) ⟨d,ol,tl,J1,s4 _ _ (s2 _ _ hd1),s4 _ _ ho,J6 hp _ _ htl'⟩
theorem J4a (ns:List Int) {many:Nat} {top:Int} (h1:1≤many) (h2:many≤24) (h3:0 < top) (h4:top≤10 ^ 28):Good (drawL ns many top) (drawO ns many many):=by
 have hl:=J2h ns many top
 refine ⟨by lia,by lia,fun a ha=>(J4z h3 a ha).1,?_,by rw [hl];exact J3q ns many many⟩
 have e1:=sum_le (drawL ns many top) fun a ha=>(J4z h3 a ha).2
 rw [hl] at e1
 have e2:=mul_top h2 (Int.le_of_lt h3)
 have e3:(24:Int) * top≤10 ^ 30:=by
  have:(24:Int) * top≤24 * 10 ^ 28:=by lia
  exact Int.le_trans this (by decide)
 lia
end
section
structure DrGood (H:Hp) (p:Addr) (ls:List Int) (os:List Nat) (ts:List Bool):Prop where
 at_:DrawnAt H p ls os ts
 good:Good ls os
 len:ts.length=ls.length
theorem DrGood.same {H H':Hp} {p:Addr} {ls:List Int} {os:List Nat} {ts:List Bool} (h:DrGood H p ls os ts) (s:Same H H'):DrGood H' p ls os ts:=⟨h.at_.same s,h.good,h.len⟩
theorem cutV_to (xs:List V) (n:Nat) (h:n≤xs.length):cutV xs none (some (n:Int))=xs.take n:=by
 unfold cutV
 rw [HT.sIx_nat,HT.sIx_none,Nat.min_eq_left h,List.drop_zero,Nat.sub_zero]
end
section
variable {P:Program} {w:World} {K:PySem.W.Frag} {mg:Str→Option Value} {base:Heap}
def spLGoes:Sp:=fun vs H Q _=>∃ (p:Addr) (ls:List Int) (os:List Nat) (ts:List Bool) (x:Int),vs=[.ref p,.int x]∧DrawnAt H p ls os ts∧Good ls os∧ts.length=ls.length∧(0≤x∧x < ls.sum)∧∀ H',Same H H'→Q (.int (gL ls os ts x)) H'
theorem idx_nat:∀ (os:List Nat) (i:Nat),(natI os).idxOf (i:Int)=os.idxOf i
 | [],i=>rfl
 | a :: r,i=>by
  show ((a:Int) :: natI r).idxOf (i:Int)=_
  rw [List.idxOf_cons,List.idxOf_cons,idx_nat r i]
  by_cases h:a=i
  ·subst h;simp
  ·rw [show (((a:Int)) == (i:Int))=false by simpa using (fun e=>h (by lia):¬ ((a:Int)=(i:Int))),show (a == i)=false by simpa using h]
theorem idx_sum {ls:List Int} {os:List Nat} (O:Ord ls os) {j:Nat} (hj:j < ls.length):((List.range (os.idxOf j)).map fun k=>ls.getD (os.getD k 0) 0).sum=(firsts ls os).getD j 0:=by
 have hm:j∈os:=O.perm.mem_iff.mpr (List.mem_range.mpr hj)
 have hi:os.idxOf j < os.length:=List.idxOf_lt_length_of_mem hm
 have e:os.getD (os.idxOf j) 0=j:=by
  rw [List.getD_eq_getElem?_getD,List.getElem?_eq_getElem hi]
  exact List.getElem_idxOf hi
 have h1:=O.first (i:=os.idxOf j) (by rw [← O.len];exact hi)
 rw [e] at h1
 rw [h1,J1m _ _ _ (Nat.le_of_lt hi)]
 congr 1
 refine List.ext_getElem (by simp;lia) fun k k1 k2=>?_
 have hk:k < os.idxOf j:=by simpa using k1
 rw [List.getElem_map,List.getElem_map,List.getElem_range,List.getElem_take,List.getD_eq_getElem?_getD (l:=os),List.getElem?_eq_getElem (by lia)]
 rfl
theorem scLGoes:FnScope ["drawn","x","lengths","order","turned","piece","laid"] ["drawn","x"] (Ja sLGoes):=⟨rfl,rfl,rfl,by decide +kernel,rfl,by decide +kernel,by decide +kernel⟩
theorem ok_lgoes {f   : Addr} {fd  : FuncData}  (F : Fun K "_law_goes" "_law_goes" sLGoes f fd) (T : TxtR mg)
 :
    FnOk P w K mg base CX0 1 f fd ["drawn", "x"] spLGoes := by
  refine F.ok scLGoes (fun vs H Q E h => ?_) (fun cdv A outer s H vs Q E hr h => ?_)
  · obtain ⟨p, ls, os, ts, x, rfl, _⟩ := h
    rfl
  · obtain ⟨p, ls, os, ts, x, rfl, D, G, hts, hx, q⟩ := h
    refine ⟨_, (J2 (J55 (pv 0) (pg_tup rfl (J25 (J1e (i := 2) scLGoes.nd rfl (Or.inr rfl)) (J25 (J1e (i := 3) scLGoes.nd rfl (Or.inr rfl)) (J25 (J1e (i := 4) scLGoes.nd rfl (Or.inl rfl)) pgs_nil)))))
      (J2 (Jq (i := 5) scLGoes.nd rfl (Or.inl rfl) Je)
      (J2 (ps_while PassesOwn.never (J13 op_ge (pv 1) (pe_ix J17 (pv 2) (pv 5) (fun _ _ => rfl)) (J16 _))
        (J2 (Jq (i := 1) scLGoes.nd rfl (Or.inl rfl) (pe_op J1x (pv 1) (pe_ix J17 (pv 2) (pv 5) (fun _ _ => rfl))))
        (Jc (Jq (i := 5) scLGoes.nd rfl (Or.inl rfl) (pe_op J15 (pv 5) Je)))))
      (J2 (Jq (i := 6) scLGoes.nd rfl (Or.inl rfl) (J7 (J2r rfl) (by rfl) T.sum PyProof.Rows.boot_sum (J0 (pe_lc (caps := ["lengths", "order"]) (js := [2, 3]) rfl (J3g rfl T.range (J0 (pe_bm PySem.F.plainAttrs_list PySem.F.slot_list_index PySem.F.type_list_index mt_indexL (pv 3) (J0 (pv 5) J4)) J4)) rfl (fun _ _ _ _ => J42) (fun C fp s H => (J5z (J4v K) (pv 1) (J5z (J4v K) (pv 2) (pv 0)))) (by decide +kernel) (by decide +kernel) (by decide +kernel) (by intro p hp; simp only [List.mem_cons, List.not_mem_nil, or_false] at hp; rcases hp with rfl | rfl <;> rfl)) J4)))
      (J2 (ps_if (J5w (pe_ix J17 (pv 4) (pv 5) (fun _ _ => rfl))) (Jc (J1a (pe_op J1x (pe_op J1x (pe_op J15 (pv 6) (pe_ix J17 (pv 2) (pv 5) (fun _ _ => rfl))) Je) (pv 1)))) J14)
      (Jc (J1a (pe_op J15 (pv 6) (pv 1))))))))), ?_⟩
    obtain ⟨dl, ol, dt, d0, d1, d2, d3⟩ := D.ex
    have O := G.ord
    have wh : Jb ls (List.range ls.length) ls.length = ls.sum := O.range.whole
    have rg : ∀ {i : Nat}, i < ls.length → (List.range ls.length).getD i 0 = i := fun {i} h => by rw [List.getD_eq_getElem?_getD, List.getElem?_range h]; rfl
    have l1 := G.lo
    refine ⟨_, rfl, p, _, rfl, SqT.of d0, rfl, _, _, rfl, _, _, rfl, _, _, rfl, rfl, ?_⟩
    refine ⟨fun m σ Hw => ∃ i : Nat, i < ls.length ∧ Jb ls (List.range ls.length) i ≤ x ∧ m = ls.length - i ∧ σ = [some (.ref p), some (.int (x - Jb ls (List.range ls.length) i)), some (.ref dl), some (.ref ol), some (.ref dt), some (.int (i : Nat)), none] ∧ H = Hw, ⟨_, 0, by lia, by rw [Jo]; exact hx.1, rfl, by rw [Jo, Int.sub_zero]; rfl, rfl⟩, ?_⟩
    rintro m σ _ ⟨i, hi, ha, rfl, rfl, rfl⟩
    have es : Jb ls (List.range ls.length) (i + 1) = Jb ls (List.range ls.length) i + ls.getD i 0 := by rw [Jm, rg hi]
    refine ⟨_, rfl, _, rfl, _, rfl, dl, _, _, _, rfl, rfl, SqL.of d1, Jn (J1z hi), _, _, rfl, rfl, _, rfl, ?_⟩
    by_cases c : x - Jb ls (List.range ls.length) i ≥ ls.getD i 0
    · refine iteDT c ?_
      refine ⟨_, fun σ' H' h => h, ?_⟩
      have hi1 : i + 1 < ls.length := by
        apply Classical.byContradiction
        intro k
        obtain e : i + 1 = ls.length := by lia
        rw [e, wh] at es
        lia
      refine ⟨_, rfl, _, rfl, _, rfl, dl, _, _, _, rfl, rfl, SqL.of d1, Jn (J1z hi), _, _, rfl, rfl, ?_⟩
      refine ⟨_, rfl, _, _, rfl, rfl, ls.length - (i + 1), by lia, i + 1, hi1, by lia, rfl, ?_, rfl⟩
      rw [es, show (((i + 1 : Nat) : Int)) = (i : Int) + 1 by lia, show x - (Jb ls (List.range ls.length) i + ls.getD i 0) = x - Jb ls (List.range ls.length) i - ls.getD i 0 by lia]; rfl
    · refine iteD c ?_
      have q1 : Lies (firsts ls (List.range ls.length)) ls x i := by
        have := O.range.lies (x := x) hi ha (by lia)
        rwa [rg hi] at this
      have fi : (firsts ls (List.range ls.length)).getD i 0 = Jb ls (List.range ls.length) i := by
        have := O.range.first hi
        rwa [rg hi] at this
      have ge := gL_eq (ts := ts) O q1
      rw [fi] at ge
      have hmem : (i : Int) ∈ natI os := List.mem_map.mpr ⟨i, O.perm.mem_iff.mpr (List.mem_range.mpr hi), rfl⟩
      have hidx : (natI os).idxOf (i : Int) = os.idxOf i := idx_nat os i
      have hil : os.idxOf i < os.length := List.idxOf_lt_length_of_mem (O.perm.mem_iff.mpr (List.mem_range.mpr hi))
      have hol := O.len
      have hhi := G.hi
      refine ⟨_, rfl, .inl ⟨rfl, _, SqL.of d2⟩, _, rfl, ol, natI os, (i : Int), rfl, rfl, SqL.of d2, hmem, ?_⟩
      rw [hidx]
      refine ⟨(os.idxOf i : Nat), rfl, by lia, by lia, fun e he => lc_rng 0 (os.idxOf i) (fun _ => true) (fun k => V.int (ls.getD (os.getD k 0) 0)) (by lia) he (fun _ _ H _ _ q => q H (Same.refl _)) (fun j hj H3 Qe _ s3 ke => ?_) (fun H3 s3 he3 => ?_)⟩
      · rw [Int.zero_add]
        have hlt : os.getD j 0 < ls.length := List.mem_range.mp (O.perm.mem_iff.mp (J19 (by lia)))
        exact ⟨_, rfl, _, rfl, _, rfl, ol, _, _, _, rfl, rfl, SqL.of (s3 _ _ d2), Jn (nV_at (by lia)), dl, _, _, _, rfl, rfl, SqL.of (s3 _ _ d1), Jn (J1z hlt), ke H3 (Same.refl _)⟩
      rw [J31] at he3
      have he3 : H3 e = some (.lst (((List.range (os.idxOf i)).map fun k => ls.getD (os.getD k 0) 0).map V.int)) := by rw [he3, List.map_map]; rfl
      refine ⟨e, _, rfl, .inl (SqL.of he3), ?_⟩
      rw [idx_sum O hi]
      refine ⟨_, rfl, _, rfl, dt, _, _, _, rfl, rfl, SqL.of (s3 _ _ d3), Jn (bV_get (by rw [hts]; exact hi)), _, rfl, ?_⟩
      have qq := q H3 s3
      rw [ge] at qq
      unfold moveN at qq
      by_cases ct : ts.getD i false = true
      · rw [if_pos ct] at qq
        exact iteBT ct ⟨_, rfl, _, rfl, _, rfl, dl, _, _, _, rfl, rfl, SqL.of (s3 _ _ d1), Jn (J1z hi), _, _, rfl, rfl, _, _, rfl, rfl, _, rfl, _, _, rfl, rfl, qq⟩
      · rw [if_neg ct] at qq
        exact iteBF ct ⟨_, rfl, _, rfl, _, _, rfl, rfl, qq⟩
end
section
variable {P:Program} {w:World} {K:PySem.W.Frag} {mg:Str→Option Value} {base:Heap}
def spLLine (C:Addr):Sp:=fun vs H Q _=>∃ (p:Addr) (ls:List Int) (os:List Nat) (ts:List Bool),vs=[.ref p]∧DrGood H p ls os ts∧∀ x H',Same H H'→LineAt C H' x ls os ts→Q (.ref x) H'
theorem scLLine:FnScope ["drawn"] ["drawn"] (Ja sLLine):=⟨rfl,rfl,rfl,by decide +kernel,rfl,by decide +kernel,by decide +kernel⟩
theorem ok_lline {f fI C:Addr} {fd fdI:FuncData}  (F:Fun K "_law_line" "_law_line" sLLine f fd) (T:TxtR mg)
  (MI:Mk K C fI) (GI:FnOk P w K mg base CX0 3 fI fdI ["self","lengths","order","turned"] (spInit C)) (bI:Binds K fdI ["self","lengths","order","turned"] []) (mgI:mg "Line"=some (.ref C)) :
  FnOk P w K mg base CX0 5 f fd ["drawn"] (spLLine C):=by
 refine F.ok scLLine (fun vs H Q E h=>?_) (fun cdv A outer s H vs Q E hr h=>?_)
 ·obtain ⟨dp,ls,os,ts,rfl,_⟩:=h
  rfl
 ·obtain ⟨dp,ls,os,ts,rfl,D,k⟩:=h
  have hr4:Room 4 _:=hr.mono (by decide)
  refine ⟨_,(Jc (J1a (J56 MI GI hr4 rfl mgI bI .nil pass0 (J0 (J11 J2s (by rfl) T.list PyProof.Rows.boot_list (J0 (pe_ix J2a (pv 0) Je (fun _ _=>rfl)) J4)) (J0 (J11 J2s (by rfl) T.list PyProof.Rows.boot_list (J0 (pe_ix J2a (pv 0) Je (fun _ _=>rfl)) J4)) (J0 (J11 J2s (by rfl) T.list PyProof.Rows.boot_list (J0 (pe_ix J2a (pv 0) Je (fun _ _=>rfl)) J4)) J4)))))),?_⟩
  obtain ⟨dl,ol,dt,d0,d1,d2,d3⟩:=D.at_.ex
  refine ⟨_,rfl,dp,_,_,_,rfl,rfl,SqT.of d0,Jn (j:=0) rfl,dl,_,rfl,.inl (SqL.of d1),fun l1 hl1=>?_⟩
  have w1:=J6 (o:=.lst (iV ls)) hl1
  refine ⟨_,rfl,dp,_,_,_,rfl,rfl,SqT.of (w1 _ _ d0),Jn (j:=1) rfl,ol,_,rfl,.inl (SqL.of (w1 _ _ d2)),fun l2 hl2=>?_⟩
  have w2:=w1.trans (J6 (o:=.lst (nV os)) hl2)
  refine ⟨_,rfl,dp,_,_,_,rfl,rfl,SqT.of (w2 _ _ d0),Jn (j:=2) rfl,dt,_,rfl,.inl (SqL.of (w2 _ _ d3)),fun l3 hl3=>?_⟩
  have w3:=J6 (o:=.lst (bV ts)) hl3
  have w23:=(J6 (o:=.lst (nV os)) hl2).trans w3
  have e1:=w23 l1 _ J1
  have e2:=w3 l2 _ J1
  have e3:upd (upd (upd H l1 (.lst (iV ls))) l2 (.lst (nV os))) l3 (.lst (bV ts)) l3=_:=J1
  have w0:=w2.trans w3
  generalize upd (upd (upd H l1 (.lst (iV ls))) l2 (.lst (nV os))) l3 (.lst (bV ts))=Hc at *
  refine fun x dx hx hdx hne=>?_
  have s6:=(J6 (o:=.own x) hdx).trans (J6 (l:=x) (o:=.ins C dx []) (by rw [Jf (Ne.symm hne)];exact hx))
  refine ⟨x,dx,l1,l2,.ref l3,ls,os,ts,rfl,J1,.inl (s6 _ _ e1),.inl (s6 _ _ e2),D.good,⟨D.len,.inr ⟨l3,rfl,.inl (s6 _ _ e3)⟩⟩,fun H' L kp=>⟨rfl,?_⟩⟩
  exact k x H' (fun b u e=>kp _ _ (s6 _ _ (w0 _ _ e)) (J9 (w0 _ _ e) hx)) L
end
section
variable {P:Program} {w:World} {K:PySem.W.Frag} {mg:Str→Option Value} {base:Heap}
def spFitted:Sp:=fun vs H Q _=>∃ (p:Addr) (N:Int) (ls:List Int) (os:List Nat) (ts:List Bool),vs=[.ref p,.int N]∧DrGood H p ls os ts∧1≤N∧N≤10 ^ 30∧
 ∀ p' l o t H',Same H H'→DrGood H' p' l o t→(∀ x y z,H' p'=some (.tup [.ref x,.ref y,.ref z])→H x=none)→l.sum=N→l.length≤ls.length→Q (.ref p') H'
theorem filt_perm {os:List Nat} {n m:Nat} (p:os.Perm (List.range n)) (h:m≤n):(os.filter fun i=>decide (i < m)).Perm (List.range m):=by
 have:=p.filter fun i=>decide (i < m)
 refine this.trans ?_
 obtain ⟨d,rfl⟩:∃ d,n=m + d:=⟨n - m,by lia⟩
 rw [List.range_add,List.filter_append]
 have e1:(List.range m).filter (fun i=>decide (i < m))=List.range m:=List.filter_eq_self.mpr fun a ha=>by simpa using List.mem_range.mp ha
 have e2:((List.range d).map (m + ·)).filter (fun i=>decide (i < m))=[]:=List.filter_eq_nil_iff.mpr fun a ha=>by
  obtain ⟨b,_,rfl⟩:=List.mem_map.mp ha
  simp
 rw [e1,e2,List.append_nil]
theorem last_app {α:Type} (l:List α) (a:α):(l ++ [a]).dropLast=l:=List.dropLast_concat
theorem sum_set9 (ls:List Int):∀ (i:Nat) (v:Int),i < ls.length→(ls.set i v).sum=ls.sum + (v - ls.getD i 0):=by
 induction ls with
 | nil=>intro i v h;exact absurd h (Nat.not_lt_zero _)
 | cons a r ih =>
  intro i v h
  cases i with
  | zero=>rw [List.set_cons_zero,List.sum_cons,List.sum_cons];show v + r.sum=a + r.sum + (v - a);lia
  | succ i =>
   rw [List.set_cons_succ,List.sum_cons,List.sum_cons,ih i v (by simpa using h)]
   show a + (r.sum + (v - r.getD i 0))=a + r.sum + (v - r.getD i 0)
   lia
theorem sum_setLast {l:List Int} {v:Int} (h:1≤l.length):(l.set (l.length - 1) (l.getD (l.length - 1) 0 + v)).sum=l.sum + v:=by
 rw [sum_set9 l (l.length - 1) _ (by lia)];lia
theorem scFitted:FnScope ["drawn","size","lengths","total","length","last","many"] ["drawn","size"] (Ja sFitted):=⟨rfl,rfl,rfl,by decide +kernel,rfl,by decide +kernel,by decide +kernel⟩
theorem ok_fitted {f   : Addr} {fd  : FuncData}  (F : Fun K "_law_fitted" "_law_fitted" sFitted f fd) (T : TxtR mg)
 :
    FnOk P w K mg base CX0 1 f fd ["drawn", "size"] spFitted := by
  refine F.ok scFitted (fun vs H Q E h => ?_) (fun cdv A outer s H vs Q E hr h => ?_)
  · obtain ⟨p, N, ls, os, ts, rfl, _⟩ := h
    rfl
  · obtain ⟨p, N, ls, os, ts, rfl, D, n1, n2, q⟩ := h
    refine ⟨_, (J2 (Jq (i := 2) scFitted.nd rfl (Or.inl rfl) (J1w J4))
      (J2 (Jq (i := 3) scFitted.nd rfl (Or.inl rfl) Je)
      (J2 (J3v PassesOwn.never rfl (J24 (pe_ix J2a (pv 0) Je (fun _ _ => rfl))) (J1e (i := 4) scFitted.nd rfl (Or.inl rfl))
        (Jc (ps_if (J13 op_lt (pe_op J15 (pv 3) (pv 4)) (pv 1) (J16 _)) (J2 (J2k (pe_bm PySem.F.plainAttrs_list PySem.F.slot_list_append PySem.F.type_list_append J1s (pv 2) (J0 (pv 4) J4)))
          (Jc (Jq (i := 3) scFitted.nd rfl (Or.inl rfl) (pe_op J15 (pv 3) (pv 4))))) J14)))
      (J2 (J2k (pe_bm PySem.F.plainAttrs_list PySem.F.slot_list_append PySem.F.type_list_append J1s (pv 2) (J0 (pe_op J1x (pv 1) (pv 3)) J4)))
      (J2 (J2y (ps_if (J13 op_gt (J7 Jj (by rfl) T.len PySem.boot_len (J0 (pv 2) J4)) (J7 Jj (by rfl) T.len PySem.boot_len (J0 (pe_ix J2a (pv 0) Je (fun _ _ => rfl)) J4)) (J16 _)) (J2 (Jq (i := 5) scFitted.nd rfl (Or.inl rfl) (pe_bm0 PySem.F.plainAttrs_list PySem.F.slot_list_pop PySem.F.type_list_pop mt_pop (pv 2)))
        (Jc (J55 (pe_op J15 (pe_ix J17 (pv 2) (pe_un un_neg Je) (fun _ _ => rfl)) (pv 5)) (pg_sub (pv 2) (pe_un un_neg Je) J36)))) J14))
      (J2 (Jq (i := 6) scFitted.nd rfl (Or.inr rfl) (J7 Jj (by rfl) T.len PySem.boot_len (J0 (pv 2) J4)))
      (Jc (J1a (pe_tup (J0 (pv 2) (J0 (pe_lc (caps := ["many"]) (js := [6]) rfl (J24 (pe_ix J2a (pv 0) Je (fun _ _ => rfl))) rfl (fun _ _ _ _ => (pts_one (J13 op_lt (pv 0) (pv 1) (J16 _)))) (fun C fp s H => (pv 0)) (by decide +kernel) (by decide +kernel) (by decide +kernel) (by intro p hp; simp only [List.mem_cons, List.not_mem_nil, or_false] at hp; rcases hp with rfl; rfl)) (J0 (J4l sl_list (pe_ix J2a (pv 0) Je (fun _ _ => rfl)) po_none (po_some (pv 6))) J4)))))))))))), ?_⟩
    obtain ⟨dl, ol, dt, d0, d1, d2, d3⟩ := D.at_.ex
    have G := D.good
    have O := G.ord
    have l1 := G.lo
    have l2 := G.hi
    have sm := Jx (n := 100) (by decide)
    have ll : (iV ls).length = ls.length := List.length_map ..
    refine ⟨by show 0 ≤ sizeLine; exact Nat.zero_le _, fun a ha => ?_⟩
    have s0' := J6 (o := .lst []) ha
    have nd : ∀ {b' : Addr} {u : HO}, H b' = some u → b' ≠ a := fun {b' u} e => J9 e ha
    have keep : ∀ {Hx : Hp} {o : HO}, Same H Hx → Same H (upd Hx a o) := fun {Hx o} s b u e => by rw [Jf (nd e)]; exact s _ _ e
    refine ⟨_, rfl, p, _, _, _, rfl, rfl, SqT.of (s0' _ _ d0), Jn (j := 0) rfl, dl, rfl, ⟨_, SqL.of (s0' _ _ d1)⟩, J2b (K := K) (a := dl) (xs := iV ls) (fun i σ Hw => ∃ (acc : List Int) (v4 : Option V), σ = [some (.ref p), some (.int N), some (.ref a), some (.int acc.sum), v4, none, none] ∧ Hw a = some (.lst (iV acc)) ∧ acc.sum < N ∧ (∀ z ∈ acc, 1 ≤ z) ∧ acc.length ≤ i ∧ Same H Hw)
      ⟨[], none, rfl, J1, (by show (0 : Int) < N; lia), (fun z hz => by cases hz), Nat.le_refl _, s0'⟩ (fun i σ Hw _ ⟨_, _, _, _, _, _, _, s⟩ => SqL.of (s _ _ d1)) (fun i y σ Hw hy pv => ?_) (fun σ Hw ⟨acc, v4, e, hw, hsm, hp, hl, s⟩ => ?_)⟩
    · obtain ⟨acc, v4, rfl, hw, hsm, hp, hl, s⟩ := pv
      have hi : i < ls.length := by have := (List.getElem?_eq_some_iff.mp hy).1; rwa [ll] at this
      obtain rfl : V.int (ls.getD i 0) = y := Option.some.inj ((J1z hi).symm.trans hy)
      have gp := G.pos _ (J3i hi)
      refine ⟨_, rfl, _, rfl, _, _, rfl, rfl, _, rfl, _, _, rfl, rfl, _, rfl, ?_⟩
      by_cases c : acc.sum + ls.getD i 0 < N
      · refine iteDT c ⟨_, rfl, .inl ⟨rfl, _, SqL.of hw⟩, _, rfl, a, _, _, rfl, rfl, hw, (by rw [List.length_map]; lia), ?_⟩
        refine ⟨_, rfl, _, rfl, _, _, rfl, rfl, acc ++ [ls.getD i 0], some (.int (ls.getD i 0)), ?_, ?_, ?_, ?_, ?_, keep s⟩
        · rw [List.sum_append, List.sum_cons, List.sum_nil, Int.add_zero]; rfl
        · rw [J1]; exact congrArg (fun z => some (HO.lst z)) (by show _ = (acc ++ [ls.getD i 0]).map V.int; rw [List.map_append]; rfl)
        · rw [List.sum_append, List.sum_cons, List.sum_nil]; lia
        · intro z hz
          rcases List.mem_append.mp hz with hz | hz
          · exact hp z hz
          · rw [List.mem_singleton.mp hz]; exact gp
        · rw [List.length_append]; simp; lia
      · exact iteD c ⟨acc, _, rfl, hw, hsm, hp, by lia, s⟩
    subst e
    rw [ll] at hl
    refine ⟨_, rfl, .inl ⟨rfl, _, SqL.of hw⟩, _, rfl, _, rfl, _, _, rfl, rfl, a, _, _, rfl, rfl, hw, (by rw [List.length_map]; lia), ?_⟩
    have e1 : iV acc ++ [V.int (N - acc.sum)] = iV (acc ++ [N - acc.sum]) := by show _ = (acc ++ [N - acc.sum]).map V.int; rw [List.map_append]; rfl
    have p1 : ∀ z ∈ acc ++ [N - acc.sum], 1 ≤ z := fun z hz => by
      rcases List.mem_append.mp hz with hz | hz
      · exact hp z hz
      · rw [List.mem_singleton.mp hz]; lia
    have su : (acc ++ [N - acc.sum]).sum = N := by rw [List.sum_append, List.sum_cons, List.sum_nil]; lia
    have d0w := keep (o := .lst (iV acc ++ [V.int (N - acc.sum)])) s _ _ d0
    have d1w := keep (o := .lst (iV acc ++ [V.int (N - acc.sum)])) s _ _ d1
    refine ⟨fun σ' H' => ∃ (l : List Int) (v5 : Option V), σ' = [some (.ref p), some (.int N), some (.ref a), some (.int acc.sum), v4, v5, none] ∧ H' a = some (.lst (iV l)) ∧ l.sum = N ∧ (∀ z ∈ l, 1 ≤ z) ∧ l.length ≤ ls.length ∧ Same H H', ?_, ?_⟩
    · refine ⟨_, rfl, a, _, rfl, .inl (SqL.of J1), _, rfl, p, _, _, _, rfl, rfl, SqT.of d0w, Jn (j := 0) rfl, dl, _, rfl, .inl (SqL.of d1w), _, _, rfl, rfl, _, rfl, ?_⟩
      rw [ll, e1, List.length_map]
      by_cases c : (ls.length : Int) < ((acc ++ [N - acc.sum]).length : Int)
      · have al : acc.length = ls.length := by rw [List.length_append] at c; simp at c; lia
        refine iteDT c ⟨_, rfl, .inl ⟨rfl, _, SqL.of J1⟩, a, _, .int (N - acc.sum), rfl, rfl, J1, ?_, ?_⟩
        · rw [List.length_map, List.length_append]
          show (iV (acc ++ [N - acc.sum]))[acc.length]? = _
          rw [← e1, List.getElem?_append_right (by rw [List.length_map]; exact Nat.le_refl _), List.length_map, Nat.sub_self]; rfl
        rw [upd_upd, ← e1, last_app]
        have hx : upd Hw a (.lst (iV acc)) a = some (.lst (iV acc)) := J1
        have av : atI (iV acc) (-1) = some (.int (acc.getD (acc.length - 1) 0)) := by
          unfold atI
          rw [List.length_map, J4w (by lia)]
          exact J1z (by lia)
        refine ⟨_, rfl, 1, rfl, a, _, _, _, rfl, rfl, SqL.of hx, av, _, rfl, _, _, rfl, rfl, _, rfl, 1, rfl, a, _, _, acc.length - 1, rfl, rfl, hx, (by rw [List.length_map]; exact J4w (by lia)), ?_⟩
        have gp : 1 ≤ acc.getD (acc.length - 1) 0 := hp _ (J3i (by lia))
        refine ⟨acc.set (acc.length - 1) (acc.getD (acc.length - 1) 0 + (N - acc.sum)), _, rfl, ?_, ?_, ?_, ?_, ?_⟩
        · rw [J1]; exact congrArg (fun z => some (HO.lst z)) (List.map_set ..).symm
        · rw [sum_setLast (by lia)]; lia
        · intro z hz
          rcases List.mem_or_eq_of_mem_set hz with hz | hz
          · exact hp z hz
          · rw [hz]; lia
        · rw [List.length_set]; lia
        · exact keep (keep s)
      · refine iteD c ⟨acc ++ [N - acc.sum], none, rfl, ?_, su, p1, by lia, keep s⟩
        rw [J1]
    rintro σ H3 ⟨l, v5, rfl, hl3, sl, pl, lel, s3⟩
    have lo : 1 ≤ l.length := by
      cases l with
      | nil => have : (0 : Int) = N := sl; lia
      | cons a r => simp
    have hol := O.len
    refine ⟨_, rfl, a, _, rfl, .inl (SqL.of hl3), ?_⟩
    have eN : nV os = os.map fun (j : Nat) => V.int (j : Int) := by
      show (os.map fun (j : Nat) => (j : Int)).map V.int = _
      rw [List.map_map]; rfl
    have ml : (iV l).length = l.length := List.length_map ..
    refine ⟨_, rfl, _, rfl, p, _, _, _, rfl, rfl, SqT.of (s3 _ _ d0), Jn (j := 1) rfl, ol, rfl, ⟨_, SqL.of (s3 _ _ d2)⟩, fun e he => lc_lst (fun (j : Nat) => V.int (j : Int)) os (fun j => decide (j < l.length)) (fun (j : Nat) => V.int (j : Int)) (SqL.of (by rw [← eN]; exact s3 _ _ d2)) (by lia) he (fun j hj Hx Qt sx ke => ?_) (fun j hj Hx Qe hg sx ke => ?_) (fun H4 s4 he4 => ?_)⟩
    · refine ⟨_, rfl, _, rfl, _, _, rfl, rfl, _, rfl, ?_⟩
      have := ke Hx (Same.refl _)
      rw [show decide (j < l.length) = decide ((j : Int) < ((iV l).length : Int)) by rw [decide_eq_decide, ml]; lia] at this
      exact this
    · exact ⟨_, rfl, ke Hx (Same.refl _)⟩
    have he4' : H4 e = some (.lst (nV (os.filter fun j => decide (j < l.length)))) := by
      rw [he4]
      refine congrArg (fun z => some (HO.lst z)) ?_
      show _ = ((os.filter fun j => decide (j < l.length)).map fun (j : Nat) => (j : Int)).map V.int
      rw [List.map_map]; rfl
    have s34 := s3.trans s4
    refine ⟨_, rfl, p, _, _, _, rfl, rfl, SqT.of (s34 _ _ d0), Jn (j := 2) rfl, _, rfl, _, rfl, dt, _, rfl, SqL.of (s34 _ _ d3), fun b hb => ?_⟩
    rw [ml, cutV_to _ _ (by rw [List.length_map, D.len]; exact lel), show (bV ts).take l.length = bV (ts.take l.length) from (List.map_take ..).symm]
    have u5 := J6 (o := .lst (bV (ts.take l.length))) hb
    refine ⟨(by show 3 ≤ sizeLine; lia), fun t0 ht0 => ?_⟩
    have u6 := J6 (o := .tup [.ref a, .ref e, .ref b]) ht0
    have u56 := u5.trans u6
    refine q t0 l (os.filter fun j => decide (j < l.length)) (ts.take l.length) _ (s34.trans u56) ⟨⟨a, e, b, J1, u56 _ _ (s4 _ _ hl3), u56 _ _ he4', u6 _ _ J1⟩, ⟨lo, by lia, pl, by rw [sl]; exact n2, filt_perm G.perm lel⟩, by rw [List.length_take, D.len]; lia⟩ (fun x y z e => by rw [J1] at e; cases e; exact ha) sl lel
end
end R48
namespace R48
open PySem L2 Rl
section
variable {P:Program} {w:World} {K:PySem.W.Frag} {mg:Str→Option Value} {base:Heap}
def spLComes:Sp:=fun vs H Q _=>∃ (p:Addr) (ls:List Int) (os:List Nat) (ts:List Bool) (y:Int),vs=[.ref p,.int y]∧DrGood H p ls os ts∧(0≤y∧y < ls.sum)∧∀ H',Same H H'→Q (.int (kL ls os ts y)) H'
theorem kL_eq {ls:List Int} {os:List Nat} {ts:List Bool} (O:Ord ls os) {i:Nat} (hi:i < ls.length) {y:Int} (h1:Jb ls os i≤y) (h2:y < Jb ls os (i + 1)):kL ls os ts y=(ls.take (os.getD i 0)).sum + (if ts.getD (os.getD i 0) false=true then ls.getD (os.getD i 0) 0 - 1 - (y - Jb ls os i) else y - Jb ls os i):=by
 have q:=O.lies hi h1 h2
 obtain ⟨m1,m2⟩:=J4r (gs:=firsts ls (List.range ls.length)) (ts:=ts) q
 have ins:=O.range.inside m1
 have hy:=O.inside q
 have b:=J28 (ts:=ts) O
 have e:=gL_eq (ts:=ts) O m1
 rw [m2] at e
 have hj:os.getD i 0 < ls.length:=q.1
 have fj:(firsts ls (List.range ls.length)).getD (os.getD i 0) 0=(ls.take (os.getD i 0)).sum:=by
  rw [J2g O hj,J1m _ _ _ (by rw [List.length_range];lia)]
  congr 1
  refine List.ext_getElem (by simp) fun k k1 k2=>?_
  rw [List.getElem_map,List.getElem_take,List.getElem_take,List.getElem_range,List.getD_eq_getElem?_getD,List.getElem?_eq_getElem (by simp at k2;lia)];rfl
 have fi:=O.first hi
 have:kL ls os ts y=moveN ls ts (os.getD i 0) (y - (firsts ls os).getD (os.getD i 0) 0) (firsts ls (List.range ls.length)):=by
  rw [← b.kg _ ins.1 ins.2,e]
 rw [this,fi]
 unfold moveN
 rw [fj]
 split <;> lia
theorem scLComes:FnScope ["drawn","y","lengths","order","turned","at","piece"] ["drawn","y"] (Ja sLComes):=⟨rfl,rfl,rfl,by decide +kernel,rfl,by decide +kernel,by decide +kernel⟩
theorem ok_lcomes {f   : Addr} {fd  : FuncData}  (F : Fun K "_law_comes" "_law_comes" sLComes f fd) (T : TxtR mg)
 :
    FnOk P w K mg base CX0 1 f fd ["drawn", "y"] spLComes := by
  refine F.ok scLComes (fun vs H Q E h => ?_) (fun cdv A outer s H vs Q E hr h => ?_)
  · obtain ⟨p, ls, os, ts, y, rfl, _⟩ := h
    rfl
  · obtain ⟨p, ls, os, ts, y, rfl, D, hy, q⟩ := h
    refine ⟨_, (J2 (J55 (pv 0) (pg_tup rfl (J25 (J1e (i := 2) scLComes.nd rfl (Or.inl rfl)) (J25 (J1e (i := 3) scLComes.nd rfl (Or.inl rfl)) (J25 (J1e (i := 4) scLComes.nd rfl (Or.inl rfl)) pgs_nil)))))
      (J2 (Jq (i := 5) scLComes.nd rfl (Or.inl rfl) Je)
      (J2 (ps_while PassesOwn.never (J13 op_ge (pv 1) (pe_ix J17 (pv 2) (pe_ix J17 (pv 3) (pv 5) (fun _ _ => rfl)) (fun _ _ => rfl)) (J16 _))
        (J2 (Jq (i := 1) scLComes.nd rfl (Or.inl rfl) (pe_op J1x (pv 1) (pe_ix J17 (pv 2) (pe_ix J17 (pv 3) (pv 5) (fun _ _ => rfl)) (fun _ _ => rfl))))
        (Jc (Jq (i := 5) scLComes.nd rfl (Or.inl rfl) (pe_op J15 (pv 5) Je)))))
      (J2 (Jq (i := 6) scLComes.nd rfl (Or.inl rfl) (pe_ix J17 (pv 3) (pv 5) (fun _ _ => rfl)))
      (J2 (J2y (ps_if (J5w (pe_ix J17 (pv 4) (pv 6) (fun _ _ => rfl))) (Jc (Jq (i := 1) scLComes.nd rfl (Or.inl rfl) (pe_op J1x (pe_op J1x (pe_ix J17 (pv 2) (pv 6) (fun _ _ => rfl)) Je) (pv 1)))) J14))
      (Jc (J1a (pe_op J15 (J7 (J2r rfl) (by rfl) T.sum PyProof.Rows.boot_sum (J0 (J4l sl_list (pv 2) po_none (po_some (pv 6))) J4)) (pv 1))))))))), ?_⟩
    obtain ⟨dl, ol, dt, d0, d1, d2, d3⟩ := D.at_.ex
    have G := D.good
    have hts := D.len
    have O := G.ord
    have hol := O.len
    have l1 := G.lo
    have hhi := G.hi
    have wh := O.whole
    refine ⟨_, rfl, p, _, rfl, SqT.of d0, rfl, _, _, rfl, _, _, rfl, _, _, rfl, rfl, ?_⟩
    refine ⟨fun m σ Hw => ∃ i : Nat, i < ls.length ∧ Jb ls os i ≤ y ∧ m = ls.length - i ∧ σ = [some (.ref p), some (.int (y - Jb ls os i)), some (.ref dl), some (.ref ol), some (.ref dt), some (.int (i : Nat)), none] ∧ H = Hw, ⟨_, 0, by lia, by rw [Jo]; exact hy.1, rfl, by rw [Jo, Int.sub_zero]; rfl, rfl⟩, ?_⟩
    rintro m σ _ ⟨i, hi, ha, rfl, rfl, rfl⟩
    have es := Jm ls os i
    have hj : os.getD i 0 < ls.length := List.mem_range.mp (O.perm.mem_iff.mp (J19 (by lia)))
    refine ⟨_, rfl, _, rfl, _, rfl, _, rfl, ol, _, _, _, rfl, rfl, SqL.of d2, Jn (nV_at (by lia)), dl, _, _, _, rfl, rfl, SqL.of d1, Jn (J1z hj), _, _, rfl, rfl, _, rfl, ?_⟩
    by_cases c : y - Jb ls os i ≥ ls.getD (os.getD i 0) 0
    · refine iteDT c ?_
      refine ⟨_, fun σ' H' h => h, ?_⟩
      have hi1 : i + 1 < ls.length := by
        apply Classical.byContradiction
        intro k
        obtain e : i + 1 = ls.length := by lia
        rw [e, wh] at es
        lia
      refine ⟨_, rfl, _, rfl, _, rfl, _, rfl, ol, _, _, _, rfl, rfl, SqL.of d2, Jn (nV_at (by lia)), dl, _, _, _, rfl, rfl, SqL.of d1, Jn (J1z hj), _, _, rfl, rfl, ?_⟩
      refine ⟨_, rfl, _, _, rfl, rfl, ls.length - (i + 1), by lia, i + 1, hi1, by lia, rfl, ?_, rfl⟩
      rw [es, show (((i + 1 : Nat) : Int)) = (i : Int) + 1 by lia, show y - (Jb ls os i + ls.getD (os.getD i 0) 0) = y - Jb ls os i - ls.getD (os.getD i 0) 0 by lia]; rfl
    refine iteD c ?_
    have ke := kL_eq (ts := ts) O hi ha (by lia)
    refine ⟨_, rfl, _, rfl, ol, _, _, _, rfl, rfl, SqL.of d2, Jn (nV_at (by lia)), ?_⟩
    refine ⟨fun σ' H' => σ' = [some (.ref p), some (.int (if ts.getD (os.getD i 0) false = true then ls.getD (os.getD i 0) 0 - 1 - (y - Jb ls os i) else y - Jb ls os i)), some (.ref dl), some (.ref ol), some (.ref dt), some (.int (i : Nat)), some (.int (os.getD i 0 : Nat))] ∧ H = H', ?_, ?_⟩
    · refine ⟨_, rfl, _, rfl, dt, _, _, _, rfl, rfl, SqL.of d3, Jn (bV_get (by rw [hts]; exact hj)), _, rfl, ?_⟩
      by_cases ct : ts.getD (os.getD i 0) false = true
      · refine iteBT ct ⟨_, rfl, _, rfl, dl, _, _, _, rfl, rfl, SqL.of d1, Jn (J1z hj), _, _, rfl, rfl, _, rfl, _, _, rfl, rfl, ?_, rfl⟩
        rw [if_pos ct]; rfl
      · refine iteBF ct ⟨?_, rfl⟩
        rw [if_neg ct]; rfl
    rintro σ _ ⟨rfl, rfl⟩
    refine ⟨_, rfl, _, rfl, _, rfl, dl, _, rfl, SqL.of d1, fun e he => ?_⟩
    rw [cutV_to _ _ (by rw [List.length_map]; lia)]
    have s1 := J6 (o := .lst ((iV ls).take (os.getD i 0))) he
    have he1 : upd H e (.lst ((iV ls).take (os.getD i 0))) e = some (.lst ((ls.take (os.getD i 0)).map V.int)) := by rw [J1, List.map_take]
    refine ⟨e, _, rfl, .inl (SqL.of he1), _, rfl, _, _, rfl, rfl, ?_⟩
    have := q _ s1
    rw [ke] at this
    exact this
end
section
variable {P:Program} {w:World} {K:PySem.W.Frag} {mg:Str→Option Value} {base:Heap}
def J23 (ls:List Int) (n:Nat):List Int:=(List.range n).map (Jb ls (List.range ls.length))
def spStarts:Sp:=fun vs H Q _=>∃ (l:Addr) (ls:List Int),vs=[.ref l]∧H l=some (.lst (iV ls))∧ls.length≤100∧∀ d H',Same H H'→H' d=some (.lst (iV (J23 ls ls.length)))→Q (.ref d) H'
theorem scStarts:FnScope ["lengths","found","total","length"] ["lengths"] (Ja sStarts):=⟨rfl,rfl,rfl,by decide +kernel,rfl,by decide +kernel,by decide +kernel⟩
theorem ok_starts {f   : Addr} {fd  : FuncData}  (F : Fun K "_law_starts" "_law_starts" sStarts f fd) 
 :
    FnOk P w K mg base CX0 1 f fd ["lengths"] spStarts := by
  refine F.ok scStarts (fun vs H Q E h => ?_) (fun cdv A outer s H vs Q E hr h => ?_)
  · obtain ⟨l, ls, rfl, _⟩ := h
    rfl
  · obtain ⟨l, ls, rfl, hl, hn, k⟩ := h
    refine ⟨_, (J2 (Jq (i := 1) scStarts.nd rfl (Or.inl rfl) (J1w J4))
      (J2 (Jq (i := 2) scStarts.nd rfl (Or.inl rfl) Je)
      (J2 (J3v PassesOwn.never rfl (J24 (pv 0)) (J1e (i := 3) scStarts.nd rfl (Or.inl rfl))
        (J2 (J2k (pe_bm PySem.F.plainAttrs_list PySem.F.slot_list_append PySem.F.type_list_append J1s (pv 1) (J0 (pv 2) J4)))
        (Jc (Jq (i := 2) scStarts.nd rfl (Or.inl rfl) (pe_op J15 (pv 2) (pv 3))))))
      (Jc (J1a (pv 1)))))), ?_⟩
    have sm := Jx (n := 200) (by decide)
    refine ⟨by show 0 ≤ sizeLine; exact Nat.zero_le _, fun d hd => ?_⟩
    have s0' := J6 (o := .lst []) hd
    refine ⟨_, rfl, l, rfl, ⟨_, SqL.of (s0' _ _ hl)⟩, J2b (K := K) (a := l) (xs := iV ls) (fun i σ Hw => ∃ v, σ = [some (.ref l), some (.ref d), some (.int (Jb ls (List.range ls.length) i)), v] ∧ Hw d = some (.lst (iV (J23 ls i))) ∧ Same H Hw)
      ⟨none, rfl, J1, s0'⟩ (fun i σ Hw _ ⟨_, _, _, s⟩ => SqL.of (s _ _ hl)) (fun i y σ Hw hy pv => ?_) (fun σ Hw ⟨v, e, h, s⟩ => ?_)⟩
    · obtain ⟨v, rfl, hw, s⟩ := pv
      have hi : i < ls.length := by have := (List.getElem?_eq_some_iff.mp hy).1; rwa [List.length_map] at this
      obtain rfl : V.int (ls.getD i 0) = y := Option.some.inj ((J1z hi).symm.trans hy)
      have rg : (List.range ls.length).getD i 0 = i := by rw [List.getD_eq_getElem?_getD, List.getElem?_range hi]; rfl
      have es : Jb ls (List.range ls.length) (i + 1) = Jb ls (List.range ls.length) i + ls.getD i 0 := by rw [Jm, rg]
      refine ⟨_, rfl, .inl ⟨rfl, _, SqL.of hw⟩, _, rfl, d, _, _, rfl, rfl, hw, (by rw [List.length_map]; unfold J23; rw [List.length_map, List.length_range]; lia), ?_⟩
      refine ⟨_, rfl, _, rfl, _, _, rfl, rfl, some (.int (ls.getD i 0)), ?_, ?_, fun b u e => by rw [Jf (J9 e hd)]; exact s _ _ e⟩
      · rw [es]; rfl
      · rw [J1]
        refine congrArg (fun z => some (HO.lst z)) ?_
        show (J23 ls i).map V.int ++ [V.int (Jb ls (List.range ls.length) i)] = (J23 ls (i + 1)).map V.int
        unfold J23
        rw [List.range_succ, List.map_append, List.map_append]; rfl
    · subst e
      rw [List.length_map] at h
      exact ⟨_, rfl, k d Hw s h⟩
end
end R48
namespace R48
open PySem L2 Rl
section
variable {P:Program} {w:World} {K:PySem.W.Frag} {mg:Str→Option Value} {base:Heap}
def spParted:Sp:=fun vs H Q _=>∃ (p q:Addr) (ls ls':List Int) (os os':List Nat) (ts ts':List Bool) (S:List Sr),vs=[.ref p,.ref q]∧DrGood H p ls os ts∧DrGood H q ls' os' ts'∧ls'.sum=ls.sum∧RepS (fun x=>gL ls' os' ts' (gL ls os ts x)) 0 S ls.sum∧∀ H',Same H H'→Q (.int ((S.length:Int) - 1)) H'
theorem cutV_from9 (xs:List V) (n:Nat) (h:n≤xs.length):cutV xs (some (n:Int)) none=xs.drop n:=by
 unfold cutV
 rw [HT.sIx_nat,HT.sIx_none,Nat.min_eq_left h,List.take_of_length_le (by simp)]
theorem J40 (ls:List Int) (h:1≤ls.length):cutV (iV (J23 ls ls.length)) (some 1) none=iV ((List.range (ls.length - 1)).map fun j=>Jb ls (List.range ls.length) (j + 1)):=by
 have e:J23 ls ls.length=0 :: (List.range (ls.length - 1)).map fun j=>Jb ls (List.range ls.length) (j + 1):=by
  unfold J23
  obtain ⟨n,e⟩:∃ n,ls.length=n + 1:=⟨ls.length - 1,by lia⟩
  rw [e,List.range_succ_eq_map,List.map_cons,List.map_map,Jo]
  rfl
 have:=cutV_from9 (iV (J23 ls ls.length)) 1 (by rw [List.length_map];unfold J23;rw [List.length_map,List.length_range];exact h)
 rw [show ((1:Nat):Int)=1 from rfl] at this
 rw [this,e];rfl
theorem J6d (a b:Int):((if a - b < 0 then -(a - b) else a - b)=1)↔near a b:=by
 unfold near
 split <;> lia
theorem put_nodup {D:List Int} {x:Int}:∃ D':List Int,putK (D.map fun c=>((Sum.inl c:Key),V.bl true)) (Sum.inl x) (V.bl true)=D'.map (fun c=>((Sum.inl c:Key),V.bl true))∧(D.Nodup→D'.Nodup)∧(∀ y,y∈D'↔y∈D∨y=x)∧D'.length≤D.length + 1:=by
 have ha:((D.map fun c=>((Sum.inl c:Key),V.bl true)).any fun kv=>decide (kv.1=Sum.inl x))=decide (x∈D):=by
  rw [Bool.eq_iff_iff,List.any_eq_true,decide_eq_true_iff]
  constructor
  ·rintro ⟨kv,hm,e⟩
   obtain ⟨c,hc,rfl⟩:=List.mem_map.mp hm
   have e:=of_decide_eq_true e
   have e:(Sum.inl c:Key)=Sum.inl x:=e
   cases e
   exact hc
  ·intro h
   exact ⟨(Sum.inl x,V.bl true),List.mem_map.mpr ⟨x,h,rfl⟩,decide_eq_true rfl⟩
 unfold putK
 rw [ha]
 by_cases c:x∈D
 ·rw [if_pos (decide_eq_true c)]
  refine ⟨D,?_,fun h=>h,fun y=>⟨.inl,?_⟩,by lia⟩
  ·rw [List.map_map]
   refine List.map_congr_left fun a _=>?_
   show (if (Sum.inl a:Key)=Sum.inl x then ((Sum.inl a:Key),V.bl true) else (Sum.inl a,V.bl true))=_
   split <;> rfl
  ·rintro (h | rfl)
   ·exact h
   ·exact c
 ·rw [if_neg (by rw [decide_eq_true_iff];exact c)]
  refine ⟨D ++ [x],by rw [List.map_append];rfl,fun h=>?_,fun y=>by rw [List.mem_append,List.mem_singleton],by rw [List.length_append];simp⟩
  rw [List.nodup_append]
  refine ⟨h,by simp,fun a ha b hb=>?_⟩
  rw [List.mem_singleton.mp hb]
  intro e;exact c (e ▸ ha)
theorem scParted:FnScope ["one","two","cuts","start","ends","told","cut"] ["one","two"] (Ja sParted):=⟨rfl,rfl,rfl,by decide +kernel,rfl,by decide +kernel,by decide +kernel⟩
theorem ok_parted {f fSt fLC9 fLG9 :Addr} {fd fdSt fdLC9 fdLG9:FuncData}  (F:Fun K "_law_parted" "_law_parted" sParted f fd) (T:TxtR mg) (hmax:mg "max"=none) (habs:mg "abs"=none)
  (GSt:FnOk P w K mg base CX0 1 fSt fdSt ["lengths"] spStarts) (bSt:Binds K fdSt ["lengths"] []) (mSt:mg "_law_starts"=some (.ref fSt)) (kSt:PySem.W.keepIn K (.ref fSt)=true)
  (GLC9:FnOk P w K mg base CX0 1 fLC9 fdLC9 ["drawn","y"] spLComes) (bLC9:Binds K fdLC9 ["drawn","y"] []) (mLC9:mg "_law_comes"=some (.ref fLC9)) (kLC9:PySem.W.keepIn K (.ref fLC9)=true)
  (GLG9:FnOk P w K mg base CX0 1 fLG9 fdLG9 ["drawn","x"] spLGoes) (bLG9:Binds K fdLG9 ["drawn","x"] []) (mLG9:mg "_law_goes"=some (.ref fLG9)) (kLG9:PySem.W.keepIn K (.ref fLG9)=true) :
  FnOk P w K mg base CX0 2 f fd ["one","two"] spParted:=by
 refine F.ok scParted (fun vs H Q E h=>?_) (fun cdv A outer s H vs Q E hr h=>?_)
 ·obtain ⟨p,q,ls,ls',os,os',ts,ts',S,rfl,_⟩:=h
  rfl
 ·obtain ⟨p,q,ls,ls',os,os',ts,ts',S,rfl,D,D',hz,R,k⟩:=h
  have hr1:Room 1 _:=hr.mono (by decide)
  have hu1:=hu_of hr
  refine ⟨_,(J2 (J2y (Jq (i:=2) scParted.nd rfl (Or.inl rfl) (J4l sl_list (Jp GSt hr1 rfl mSt kSt bSt .nil pass0 (J0 (pe_ix J2a (pv 0) Je (fun _ _=>rfl)) J4)) (po_some Je) po_none)))
   (J2 (J3v PassesOwn.never rfl (J24 (J4l sl_list (Jp GSt hr1 rfl mSt kSt bSt .nil pass0 (J0 (pe_ix J2a (pv 1) Je (fun _ _=>rfl)) J4)) (po_some Je) po_none)) (J1e (i:=3) scParted.nd rfl (Or.inl rfl))
    (J2 (Jq (i:=4) scParted.nd rfl (Or.inl rfl) (J1w (J0 (Jp GLC9 hr1 rfl mLC9 kLC9 bLC9 .nil pass0 (J0 (pv 0) (J0 (pe_op J1x (pv 3) Je) J4))) (J0 (Jp GLC9 hr1 rfl mLC9 kLC9 bLC9 .nil pass0 (J0 (pv 0) (J0 (pv 3) J4))) J4))))
    (Jc (ps_if (J13 op_eq (J7 J6c (by rfl) habs PyProof.Rows.boot_abs (J0 (pe_op J1x (pe_ix J17 (pv 4) Je (fun _ _=>rfl)) (pe_ix J17 (pv 4) Je (fun _ _=>rfl))) J4)) Je (J16 _)) (Jc (J2k (pe_bm PySem.F.plainAttrs_list PySem.F.slot_list_append PySem.F.type_list_append J1s (pv 2) (J0 (J7 (call_max rfl) (by rfl) hmax PyProof.Rows.boot_max (J0 (pv 4) J4)) J4)))) J14))))
   (J2 (Jq (i:=5) scParted.nd rfl (Or.inl rfl) pe_dnewK)
   (J2 (J3v PassesOwn.never rfl (J24 (pv 2)) (J1e (i:=6) scParted.nd rfl (Or.inl rfl))
    (Jc (ps_if (J13 op_ne (J7 J6c (by rfl) habs PyProof.Rows.boot_abs (J0 (pe_op J1x (Jp GLG9 hr1 rfl mLG9 kLG9 bLG9 .nil pass0 (J0 (pv 1) (J0 (Jp GLG9 hr1 rfl mLG9 kLG9 bLG9 .nil pass0 (J0 (pv 0) (J0 (pv 6) J4))) J4))) (Jp GLG9 hr1 rfl mLG9 kLG9 bLG9 .nil pass0 (J0 (pv 1) (J0 (Jp GLG9 hr1 rfl mLG9 kLG9 bLG9 .nil pass0 (J0 (pv 0) (J0 (pe_op J1x (pv 6) Je) J4))) J4)))) J4)) Je (J16 _)) (Jc (ps_dput hu1 (pv 5) (pv 6) pe_bl rfl)) J14)))
   (Jc (J1a (J7 call_lenD (by rfl) T.len PySem.boot_len (J0 (pv 5) J4)))))))),?_⟩
  obtain ⟨dl,ol,dt,d0,d1,d2,d3⟩:=D.at_.ex
  obtain ⟨el,eo,et,e0,e1,e2,e3⟩:=D'.at_.ex
  have O:=D.good.ord
  have O':=D'.good.ord
  have lo1:=D.good.lo
  have hi1:=D.good.hi
  have lo2:=D'.good.lo
  have hi2:=D'.good.hi
  have sm:=Jx (n:=300) (by decide)
  have b:=J28 (ts:=ts) O
  have b':=J28 (ts:=ts') O'
  rw [hz] at b'
  refine ⟨fun σ' H'=>∃ cu cs,σ'=[some (.ref p),some (.ref q),some (.ref cu),none,none,none,none]∧H' cu=some (.lst (iV cs))∧H cu=none∧cs.length < 30∧(∀ x,x∈cs↔∃ j,1≤j∧j < ls.length∧x=Jb ls (List.range ls.length) j)∧Same H H',?_,?_⟩
  ·refine ⟨_,rfl,p,_,_,_,rfl,rfl,SqT.of d0,Jn (j:=0) rfl,dl,ls,rfl,d1,by lia,fun st H1 s1 hst=>?_⟩
   refine ⟨_,rfl,st,_,rfl,SqL.of hst,fun cu hcu=>?_⟩
   rw [J40 ls lo1]
   refine ⟨cu,_,rfl,J1,s1.free hcu,by rw [List.length_map,List.length_range];lia,fun x=>?_,s1.trans (J6 hcu)⟩
   rw [List.mem_map]
   constructor
   ·rintro ⟨j,hj,rfl⟩
    exact ⟨j + 1,by lia,by have:=List.mem_range.mp hj;lia,rfl⟩
   ·rintro ⟨j,j1,j2,rfl⟩
    exact ⟨j - 1,List.mem_range.mpr (by lia),by rw [show j - 1 + 1=j by lia]⟩
  rintro σ H1 ⟨cu,cs,rfl,hcu,ncu,csl,csm,s1⟩
  have e0:=s1 _ _ e0
  have e1:=s1 _ _ e1
  have D1:=D.same s1
  have keep:∀ {Hx:Hp} {o:HO},Same H Hx→Same H (upd Hx cu o):=fun {Hx o} s b u e=>by rw [Jf (J9 e ncu)];exact s _ _ e
  refine ⟨_,rfl,q,_,_,_,rfl,rfl,SqT.of e0,Jn (j:=0) rfl,el,ls',rfl,e1,by lia,fun st H2 s2 hst=>?_⟩
  refine ⟨_,rfl,st,_,rfl,SqL.of hst,fun sd hsd=>?_⟩
  rw [J40 ls' lo2]
  have u3:=J6 (o:=.lst (iV ((List.range (ls'.length - 1)).map fun j=>Jb ls' (List.range ls'.length) (j + 1)))) hsd
  have hsd3:upd H2 sd (.lst (iV ((List.range (ls'.length - 1)).map fun j=>Jb ls' (List.range ls'.length) (j + 1)))) sd=some (.lst (iV ((List.range (ls'.length - 1)).map fun j=>Jb ls' (List.range ls'.length) (j + 1)))):=J1
  generalize upd H2 sd (.lst (iV ((List.range (ls'.length - 1)).map fun j=>Jb ls' (List.range ls'.length) (j + 1))))=H3 at u3 hsd3 ⊢
  have s13:=s2.trans u3
  have ncs:sd≠cu:=fun e=>by
   have:=s2 _ _ hcu
   rw [e] at hsd
   rw [this] at hsd;cases hsd
  obtain ⟨kk,ekk⟩:∃ kk,kk=kL ls os ts:=⟨_,rfl⟩
  refine ⟨sd,rfl,⟨_,SqL.of hsd3⟩,J2b (K:=K) (a:=sd) (xs:=iV ((List.range (ls'.length - 1)).map fun j=>Jb ls' (List.range ls'.length) (j + 1))) (fun i σ Hw=>∃ v3 v4 cs',σ=[some (.ref p),some (.ref q),some (.ref cu),v3,v4,none,none]∧Hw cu=some (.lst (iV cs'))∧cs'.length < 30 + i∧(∀ x,x∈cs'↔(∃ j,1≤j∧j < ls.length∧x=Jb ls (List.range ls.length) j)∨∃ j,1≤j∧j≤i∧near (kk (Jb ls' (List.range ls'.length) j - 1)) (kk (Jb ls' (List.range ls'.length) j))∧x=max (kk (Jb ls' (List.range ls'.length) j - 1)) (kk (Jb ls' (List.range ls'.length) j)))∧Hw sd=some (.lst (iV ((List.range (ls'.length - 1)).map fun j=>Jb ls' (List.range ls'.length) (j + 1))))∧Same H Hw)
   ⟨none,none,cs,rfl,s13 _ _ hcu,by lia,(fun x=>by rw [csm x];exact ⟨.inl,fun h=>h.resolve_right (by rintro ⟨j,j1,j2,_⟩;lia)⟩),hsd3,s1.trans s13⟩ (fun i σ Hw _ ⟨_,_,_,_,_,_,_,h,_⟩=>SqL.of h) (fun i y σ Hw hy pv=>?_) (fun σ Hw ⟨v3,v4,cs',e,hw,cl,cm,hsw,s⟩=>?_)⟩
  ·obtain ⟨v3,v4,cs',rfl,hw,cl,cm,hsw,s⟩:=pv
   have hi:i < ls'.length - 1:=by have:=(List.getElem?_eq_some_iff.mp hy).1;simpa using this
   obtain ⟨c,ec⟩:∃ c,c=Jb ls' (List.range ls'.length) (i + 1):=⟨_,rfl⟩
   obtain rfl:V.int c=y:=by
    rw [List.getElem?_map,List.getElem?_map,List.getElem?_range hi] at hy
    rw [ec];exact Option.some.inj hy
   obtain ⟨c0,c1⟩:=J5n O' (j:=i + 1) (by lia) (by lia)
   rw [← ec,hz] at c1
   rw [← ec] at c0
   refine ⟨_,rfl,_,rfl,_,_,rfl,rfl,p,ls,os,ts,c - 1,rfl,D.same s,⟨by lia,by lia⟩,fun H4 s4=>⟨_,rfl,_,rfl,p,ls,os,ts,c,rfl,(D.same s).same s4,⟨by lia,by lia⟩,fun H5 s5=>⟨by show 2≤sizeLine;lia,fun en hen=>?_⟩⟩⟩
   rw [← ekk]
   have u6:=J6 (o:=.lst [V.int (kk (c - 1)),V.int (kk c)]) hen
   have hen6:upd H5 en (.lst [V.int (kk (c - 1)),V.int (kk c)]) en=some (.lst [V.int (kk (c - 1)),V.int (kk c)]):=J1
   generalize upd H5 en (.lst [V.int (kk (c - 1)),V.int (kk c)])=H6 at u6 hen6 ⊢
   have s46:=s4.trans (s5.trans u6)
   refine ⟨_,rfl,en,_,_,_,rfl,rfl,SqL.of hen6,Jn (j:=0) rfl,_,rfl,en,_,_,_,rfl,rfl,SqL.of hen6,Jn (j:=1) rfl,_,_,rfl,rfl,_,rfl,rfl,_,rfl,?_⟩
   by_cases cn:near (kk (c - 1)) (kk c)
   ·refine iteDT (by rw [(J6d _ _).mpr cn]) ?_
    refine ⟨_,rfl,.inl ⟨rfl,_,SqL.of (s46 _ _ hw)⟩,_,rfl,en,[kk (c - 1),kk c],rfl,.inl (SqL.of hen6),by simp,fun M mM hM=>⟨cu,_,_,rfl,rfl,s46 _ _ hw,(by rw [List.length_map];lia),?_⟩⟩
    have eM:M=max (kk (c - 1)) (kk c):=by
     have h1:=hM (kk (c - 1)) (by simp)
     have h2:=hM (kk c) (by simp)
     simp only [List.mem_cons,List.not_mem_nil,or_false] at mM
     lia
    have nsc:sd≠cu:=ncs
    refine ⟨_,_,cs' ++ [M],rfl,?_,?_,fun x=>?_,?_,keep (s.trans s46)⟩
    ·rw [J1];exact congrArg (fun z=>some (HO.lst z)) (by show _=(cs' ++ [M]).map V.int;rw [List.map_append];rfl)
    ·rw [List.length_append];simp;lia
    ·rw [List.mem_append,List.mem_singleton,cm x]
     constructor
     ·rintro ((h | ⟨j,j1,j2,h⟩) | rfl)
      ·exact .inl h
      ·exact .inr ⟨j,j1,by lia,h⟩
      ·exact .inr ⟨i + 1,by lia,Nat.le_refl _,by rw [← ec];exact ⟨cn,eM⟩⟩
     ·rintro (h | ⟨j,j1,j2,h⟩)
      ·exact .inl (.inl h)
      ·rcases Nat.lt_or_ge i j with z | z
       ·obtain rfl:j=i + 1:=by lia
        rw [← ec] at h
        exact .inr (by rw [h.2,eM])
       ·exact .inl (.inr ⟨j,j1,z,h⟩)
    ·rw [Jf nsc];exact s46 _ _ hsw
   ·refine iteD (fun e=>cn ((J6d _ _).mp (V.int.inj e))) ⟨_,_,cs',rfl,s46 _ _ hw,by lia,fun x=>?_,s46 _ _ hsw,s.trans s46⟩
    rw [cm x]
    constructor
    ·rintro (h | ⟨j,j1,j2,h⟩)
     ·exact .inl h
     ·exact .inr ⟨j,j1,by lia,h⟩
    ·rintro (h | ⟨j,j1,j2,h⟩)
     ·exact .inl h
     ·rcases Nat.lt_or_ge i j with z | z
      ·obtain rfl:j=i + 1:=by lia
       rw [← ec] at h
       exact absurd h.1 cn
      ·exact .inr ⟨j,j1,z,h⟩
  subst e
  have cm:∀ x,x∈cs'↔CandC ls ls' (kL ls os ts) x:=fun x=>by
   rw [cm x,ekk]
   unfold CandC
   rw [List.length_map,List.length_map,List.length_range]
   constructor
   ·rintro (h | ⟨j,j1,j2,h⟩)
    ·exact .inl h
    ·exact .inr ⟨j,j1,by lia,h⟩
   ·rintro (h | ⟨j,j1,j2,h⟩)
    ·exact .inl h
    ·exact .inr ⟨j,j1,by lia,h⟩
  have cl:cs'.length < 60:=by rw [List.length_map,List.length_map,List.length_range] at cl;lia
  intro td htd
  have u7:=J6 (o:=.dK []) htd
  obtain ⟨f,ef⟩:∃ f:Int→Int,f=fun x=>gL ls' os' ts' (gL ls os ts x):=⟨_,rfl⟩
  rw [← ef] at R
  refine ⟨_,rfl,cu,rfl,⟨_,SqL.of (u7 _ _ hw)⟩,J2b (K:=K) (a:=cu) (xs:=iV cs') (fun i σ Hx=>∃ v6 E,σ=[some (.ref p),some (.ref q),some (.ref cu),v3,v4,some (.ref td),v6]∧Hx td=some (.dK (E.map fun c=>((Sum.inl c:Key),V.bl true)))∧E.Nodup∧E.length≤i∧(∀ x,x∈E↔x∈cs'.take i∧¬ near (f x) (f (x - 1)))∧Same Hw Hx)
   ⟨none,[],rfl,J1,List.nodup_nil,Nat.le_refl _,(fun x=>by simp),u7⟩ (fun i σ Hx _ ⟨_,_,_,_,_,_,_,s⟩=>SqL.of (s _ _ hw)) (fun i y σ Hx hy pv=>?_) (fun σ Hx ⟨v6,E,e,hx,nd,el',em,sx⟩=>?_)⟩
  ·obtain ⟨v6,E,rfl,hx,nd,el',em,sx⟩:=pv
   have hi:i < cs'.length:=by have:=(List.getElem?_eq_some_iff.mp hy).1;rwa [List.length_map] at this
   obtain ⟨c,ec⟩:∃ c,cs'[i]?=some c:=⟨_,List.getElem?_eq_getElem hi⟩
   obtain rfl:V.int c=y:=by
    rw [List.getElem?_map,ec] at hy
    exact Option.some.inj hy
   obtain ⟨c0,c1⟩:=cand_in O O' hz ((cm c).mp (List.mem_of_getElem? ec))
   have i1:=b.inn c (by lia) c1
   have i2:=b.inn (c - 1) (by lia) (by lia)
   have sH:=s.trans sx
   have tk:=J2u ec
   refine ⟨_,rfl,_,rfl,_,rfl,p,ls,os,ts,c,rfl,(D.same sH).at_,D.good,D.len,⟨by lia,c1⟩,fun H4 s4=>⟨q,ls',os',ts',gL ls os ts c,rfl,((D'.same sH).same s4).at_,D'.good,D'.len,⟨i1.1,by lia⟩,fun H5 s5=>?_⟩⟩
   refine ⟨_,rfl,_,rfl,_,rfl,_,_,rfl,rfl,p,ls,os,ts,c - 1,rfl,((D.same sH).same (s4.trans s5)).at_,D.good,D.len,⟨by lia,by lia⟩,fun H6 s6=>⟨q,ls',os',ts',gL ls os ts (c - 1),rfl,((D'.same sH).same (s4.trans (s5.trans s6))).at_,D'.good,D'.len,⟨i2.1,by lia⟩,fun H7 s7=>?_⟩⟩
   have s47:=s4.trans (s5.trans (s6.trans s7))
   refine ⟨_,_,rfl,rfl,_,rfl,rfl,_,rfl,?_⟩
   have an:=J6d (gL ls' os' ts' (gL ls os ts c)) (gL ls' os' ts' (gL ls os ts (c - 1)))
   have fc:near (gL ls' os' ts' (gL ls os ts c)) (gL ls' os' ts' (gL ls os ts (c - 1)))↔near (f c) (f (c - 1)):=by rw [ef]
   by_cases cn:near (gL ls' os' ts' (gL ls os ts c)) (gL ls' os' ts' (gL ls os ts (c - 1)))
   ·refine iteNS (by rw [an.mpr cn]) ⟨_,E,rfl,s47 _ _ hx,nd,by lia,fun x=>?_,sx.trans s47⟩
    rw [em x,tk,List.mem_append,List.mem_singleton]
    constructor
    ·rintro ⟨h1,h2⟩;exact ⟨.inl h1,h2⟩
    ·rintro ⟨h1 | rfl,h2⟩
     ·exact ⟨h1,h2⟩
     ·exact absurd (fc.mp cn) h2
   ·refine iteND (fun e=>cn (an.mp (V.int.inj e))) ?_
    obtain ⟨E',ee,nd',mm,ll'⟩:=put_nodup (D:=E) (x:=c)
    refine ⟨_,rfl,_,rfl,td,_,rfl,DPut.k (k:=Sum.inl c) (s47 _ _ hx) (by rw [List.length_map];lia),?_⟩
    rw [ee]
    refine ⟨_,E',rfl,J1,nd' nd,by lia,fun x=>?_,fun b' u e=>by rw [Jf (J9 e htd)];exact s47 _ _ (sx _ _ e)⟩
    rw [mm x,em x,tk,List.mem_append,List.mem_singleton]
    constructor
    ·rintro (⟨h1,h2⟩ | rfl)
     ·exact ⟨.inl h1,h2⟩
     ·exact ⟨.inr rfl,fun z=>cn (fc.mpr z)⟩
    ·rintro ⟨h1 | rfl,h2⟩
     ·exact .inl ⟨h1,h2⟩
     ·exact .inr rfl
  subst e
  rw [List.length_map,List.take_length] at em
  have cnt:=R.count nd fun x=>by
   rw [em x,cm x]
   constructor
   ·rintro ⟨h1,h2⟩;exact ⟨cand_in O O' hz h1,h2⟩
   ·rintro ⟨h1,h2⟩
    refine ⟨cand_all (ts':=ts') O O' hz h1.1 h1.2 ?_,h2⟩
    rw [ef] at h2
    exact h2
  have sl:1≤S.length:=by
   cases S with
   | nil=>have:(0:Int)=ls.sum:=R;have:=D.good.pos_sum;lia
   | cons a r=>simp
  refine ⟨_,rfl,td,_,rfl,hx,?_⟩
  have:=k Hx (s.trans sx)
  rw [show ((S.length:Int) - 1)=((E.map fun c=>((Sum.inl c:Key),V.bl true)).length:Int) by rw [List.length_map,cnt];lia] at this
  exact this
end
end R48
namespace R48
open PySem L2 Rl
section
variable {P:Program} {w:World} {K:PySem.W.Frag} {mg:Str→Option Value} {base:Heap}
def kinds11:List Str:=["BadLengths","BadOrder","BadTurned","Outside","BadText","TooMany","Unlike","BadAddress","BadArches","Loose","BadRow"]
structure AloneK (K:PySem.W.Frag) (C CL:Addr) (cs:Nat→Addr) (bs:Nat→Bool):Prop where
 w:XCls K C
 k:∀ i,i < 11→PySem.W.kitOne K (.ref C) (.ref (cs i))=some (bs i)
 kl:PySem.W.kitOne K (.ref C) (.ref CL)=some true
 kv:PySem.W.kitOne K (.ref C) (.type "ValueError")=some true
 one:((List.range 11).map bs).count true=1
structure TxtA (mg:Str→Option Value) (CL:Addr) (cs:Nat→Addr):Prop where
 mc:∀ i,i < 11→mg (kinds11.getD i "")=some (.ref (cs i))
 ml:mg "LineError"=some (.ref CL)
 mv:mg "ValueError"=none
 isi:mg "isinstance"=none
theorem boot_VE:bootBuiltins "ValueError"=some (.type "ValueError"):=by boot_by_name
structure NoneK (K:PySem.W.Frag) (cs:Nat→Addr):Prop where
 k:∀ i,i < 11→PySem.W.kitOne K (.type "NoneType") (.ref (cs i))=some false
def spAlone (K:PySem.W.Frag) (CL:Addr) (cs:Nat→Addr):Sp:=fun vs H Q _=>(∃ (ea C:Addr) (bs:Nat→Bool),vs=[.ref ea]∧H ea=some (excO ea (.ref C))∧AloneK K C CL cs bs∧∀ H',Same H H'→Q (.bl true) H')∨(vs=[.non]∧∀ H',Same H H'→Q (.bl false) H')
theorem scAlone:FnScope ["e","kinds"] ["e"] (Ja sAlone):=⟨rfl,rfl,rfl,by decide +kernel,rfl,by decide +kernel,by decide +kernel⟩
theorem ok_alone {f CL:Addr} {cs:Nat→Addr} {fd:FuncData} (F:Fun K "_law_alone" "_law_alone" sAlone f fd) (TA:TxtA mg CL cs) (NK:NoneK K cs):FnOk P w K mg base CX0 1 f fd ["e"] (spAlone K CL cs):=by
 refine F.ok scAlone (fun vs H Q E h=>?_) (fun cdv A outer s H vs Q E hr h=>?_)
 ·rcases h with ⟨ea,C,bs,rfl,_⟩ | ⟨rfl,_⟩ <;> rfl
 ·rcases h with ⟨ea,C,bs,rfl,he,A,k⟩ | ⟨rfl,k⟩
  ·have hisi:=TA.isi
   have g0:mg "BadLengths"=some (.ref (cs 0)):=TA.mc 0 (by decide)
   have q0:=A.k 0 (by decide)
   have g1:mg "BadOrder"=some (.ref (cs 1)):=TA.mc 1 (by decide)
   have q1:=A.k 1 (by decide)
   have g2:mg "BadTurned"=some (.ref (cs 2)):=TA.mc 2 (by decide)
   have q2:=A.k 2 (by decide)
   have g3:mg "Outside"=some (.ref (cs 3)):=TA.mc 3 (by decide)
   have q3:=A.k 3 (by decide)
   have g4:mg "BadText"=some (.ref (cs 4)):=TA.mc 4 (by decide)
   have q4:=A.k 4 (by decide)
   have g5:mg "TooMany"=some (.ref (cs 5)):=TA.mc 5 (by decide)
   have q5:=A.k 5 (by decide)
   have g6:mg "Unlike"=some (.ref (cs 6)):=TA.mc 6 (by decide)
   have q6:=A.k 6 (by decide)
   have g7:mg "BadAddress"=some (.ref (cs 7)):=TA.mc 7 (by decide)
   have q7:=A.k 7 (by decide)
   have g8:mg "BadArches"=some (.ref (cs 8)):=TA.mc 8 (by decide)
   have q8:=A.k 8 (by decide)
   have g9:mg "Loose"=some (.ref (cs 9)):=TA.mc 9 (by decide)
   have q9:=A.k 9 (by decide)
   have g10:mg "BadRow"=some (.ref (cs 10)):=TA.mc 10 (by decide)
   have q10:=A.k 10 (by decide)
   refine ⟨_,J2 (Jq (i:=1) scAlone.nd rfl (Or.inl rfl) (J1w (J0 (J7 (Jv rfl) (by rfl) hisi PyProof.Rows.boot_isinstance (J0 (pv 0) (J0 (Jw (v:=.ref (cs 0)) rfl g0 rfl) J4))) (J0 (J7 (Jv rfl) (by rfl) hisi PyProof.Rows.boot_isinstance (J0 (pv 0) (J0 (Jw (v:=.ref (cs 1)) rfl g1 rfl) J4))) (J0 (J7 (Jv rfl) (by rfl) hisi PyProof.Rows.boot_isinstance (J0 (pv 0) (J0 (Jw (v:=.ref (cs 2)) rfl g2 rfl) J4))) (J0 (J7 (Jv rfl) (by rfl) hisi PyProof.Rows.boot_isinstance (J0 (pv 0) (J0 (Jw (v:=.ref (cs 3)) rfl g3 rfl) J4))) J4))))))
    (J2 (Jq (i:=1) scAlone.nd rfl (Or.inl rfl) (pe_op op_cat (pv 1) (J1w (J0 (J7 (Jv rfl) (by rfl) hisi PyProof.Rows.boot_isinstance (J0 (pv 0) (J0 (Jw (v:=.ref (cs 4)) rfl g4 rfl) J4))) (J0 (J7 (Jv rfl) (by rfl) hisi PyProof.Rows.boot_isinstance (J0 (pv 0) (J0 (Jw (v:=.ref (cs 5)) rfl g5 rfl) J4))) (J0 (J7 (Jv rfl) (by rfl) hisi PyProof.Rows.boot_isinstance (J0 (pv 0) (J0 (Jw (v:=.ref (cs 6)) rfl g6 rfl) J4))) (J0 (J7 (Jv rfl) (by rfl) hisi PyProof.Rows.boot_isinstance (J0 (pv 0) (J0 (Jw (v:=.ref (cs 7)) rfl g7 rfl) J4))) J4)))))))
    (J2 (Jq (i:=1) scAlone.nd rfl (Or.inl rfl) (pe_op op_cat (pv 1) (J1w (J0 (J7 (Jv rfl) (by rfl) hisi PyProof.Rows.boot_isinstance (J0 (pv 0) (J0 (Jw (v:=.ref (cs 8)) rfl g8 rfl) J4))) (J0 (J7 (Jv rfl) (by rfl) hisi PyProof.Rows.boot_isinstance (J0 (pv 0) (J0 (Jw (v:=.ref (cs 9)) rfl g9 rfl) J4))) (J0 (J7 (Jv rfl) (by rfl) hisi PyProof.Rows.boot_isinstance (J0 (pv 0) (J0 (Jw (v:=.ref (cs 10)) rfl g10 rfl) J4))) J4))))))
    (Jc (J1a (pe_and (J26 op_eq (pe_bm PySem.F.plainAttrs_list PySem.F.slot_list_count PySem.F.type_list_count mt_countB (pv 1) (J0 pe_bl J4)) Je (J16 _))
     (pe_and (J7 (Jv rfl) (by rfl) hisi PyProof.Rows.boot_isinstance (J0 (pv 0) (J0 (Jw (v:=.ref CL) rfl TA.ml rfl) J4)))
     (pe_one (J7 (Jv rfl) (by rfl) hisi PyProof.Rows.boot_isinstance (J0 (pv 0) (J0 (pe_bltn (v:=.ty "ValueError") rfl TA.mv boot_VE rfl) J4)))))))))),?_⟩
   refine ⟨_,rfl,ea,C,.ref (cs 0),_,bs 0,rfl,rfl,fun v h=>h,he,A.w,q0,_,rfl,ea,C,.ref (cs 1),_,bs 1,rfl,rfl,fun v h=>h,he,A.w,q1,_,rfl,ea,C,.ref (cs 2),_,bs 2,rfl,rfl,fun v h=>h,he,A.w,q2,_,rfl,ea,C,.ref (cs 3),_,bs 3,rfl,rfl,fun v h=>h,he,A.w,q3,(by show 4≤sizeLine;decide),fun l1 h1=>?_⟩
   have s1:=J6 (o:=.lst [V.bl (bs 0),V.bl (bs 1),V.bl (bs 2),V.bl (bs 3)]) h1
   have he1:=s1 _ _ he
   refine ⟨_,rfl,_,rfl,ea,C,.ref (cs 4),_,bs 4,rfl,rfl,fun v h=>h,he1,A.w,q4,_,rfl,ea,C,.ref (cs 5),_,bs 5,rfl,rfl,fun v h=>h,he1,A.w,q5,_,rfl,ea,C,.ref (cs 6),_,bs 6,rfl,rfl,fun v h=>h,he1,A.w,q6,_,rfl,ea,C,.ref (cs 7),_,bs 7,rfl,rfl,fun v h=>h,he1,A.w,q7,(by show 4≤sizeLine;decide),fun l2 h2=>?_⟩
   have s2:=J6 (o:=.lst [V.bl (bs 4),V.bl (bs 5),V.bl (bs 6),V.bl (bs 7)]) h2
   refine ⟨l1,l2,_,_,rfl,rfl,s2 _ _ J1,J1,(by show 8≤sizeLine;decide),fun l3 h3=>?_⟩
   have s3:=J6 (o:=.lst [V.bl (bs 0),V.bl (bs 1),V.bl (bs 2),V.bl (bs 3),V.bl (bs 4),V.bl (bs 5),V.bl (bs 6),V.bl (bs 7)]) h3
   have he3:=s3 _ _ (s2 _ _ he1)
   refine ⟨_,rfl,_,rfl,ea,C,.ref (cs 8),_,bs 8,rfl,rfl,fun v h=>h,he3,A.w,q8,_,rfl,ea,C,.ref (cs 9),_,bs 9,rfl,rfl,fun v h=>h,he3,A.w,q9,_,rfl,ea,C,.ref (cs 10),_,bs 10,rfl,rfl,fun v h=>h,he3,A.w,q10,(by show 3≤sizeLine;decide),fun l4 h4=>?_⟩
   have s4:=J6 (o:=.lst [V.bl (bs 8),V.bl (bs 9),V.bl (bs 10)]) h4
   refine ⟨l3,l4,_,_,rfl,rfl,s4 _ _ J1,J1,(by show 11≤sizeLine;decide),fun l5 h5=>?_⟩
   have s5:=J6 (o:=.lst (((List.range 11).map bs).map V.bl)) h5
   have he5:=s5 _ _ (s4 _ _ he3)
   have e11:HO.lst ([V.bl (bs 0),V.bl (bs 1),V.bl (bs 2),V.bl (bs 3)] ++ [V.bl (bs 4),V.bl (bs 5),V.bl (bs 6),V.bl (bs 7)] ++ [V.bl (bs 8),V.bl (bs 9),V.bl (bs 10)])=HO.lst (((List.range 11).map bs).map V.bl):=rfl
   refine ⟨_,rfl,.inl ⟨rfl,_,SqL.of J1⟩,l5,(List.range 11).map bs,rfl,rfl,J1,rfl,true,?_,iteT ?_⟩
   ·rw [A.one];rfl
   refine ⟨_,rfl,ea,C,.ref CL,_,true,rfl,rfl,fun v h=>h,he5,A.w,A.kl,true,rfl,iteT ?_⟩
   exact ⟨_,rfl,ea,C,.ty "ValueError",.type "ValueError",true,rfl,rfl,fun v h=>h,he5,A.w,A.kv,k _ ((s1.trans s2).trans (s3.trans (s4.trans s5)))⟩
  ·have hisi:=TA.isi
   have g0:mg "BadLengths"=some (.ref (cs 0)):=TA.mc 0 (by decide)
   have q0:=NK.k 0 (by decide)
   have g1:mg "BadOrder"=some (.ref (cs 1)):=TA.mc 1 (by decide)
   have q1:=NK.k 1 (by decide)
   have g2:mg "BadTurned"=some (.ref (cs 2)):=TA.mc 2 (by decide)
   have q2:=NK.k 2 (by decide)
   have g3:mg "Outside"=some (.ref (cs 3)):=TA.mc 3 (by decide)
   have q3:=NK.k 3 (by decide)
   have g4:mg "BadText"=some (.ref (cs 4)):=TA.mc 4 (by decide)
   have q4:=NK.k 4 (by decide)
   have g5:mg "TooMany"=some (.ref (cs 5)):=TA.mc 5 (by decide)
   have q5:=NK.k 5 (by decide)
   have g6:mg "Unlike"=some (.ref (cs 6)):=TA.mc 6 (by decide)
   have q6:=NK.k 6 (by decide)
   have g7:mg "BadAddress"=some (.ref (cs 7)):=TA.mc 7 (by decide)
   have q7:=NK.k 7 (by decide)
   have g8:mg "BadArches"=some (.ref (cs 8)):=TA.mc 8 (by decide)
   have q8:=NK.k 8 (by decide)
   have g9:mg "Loose"=some (.ref (cs 9)):=TA.mc 9 (by decide)
   have q9:=NK.k 9 (by decide)
   have g10:mg "BadRow"=some (.ref (cs 10)):=TA.mc 10 (by decide)
   have q10:=NK.k 10 (by decide)
   refine ⟨_,J2 (Jq (i:=1) scAlone.nd rfl (Or.inl rfl) (J1w (J0 (J7 (Jr rfl) (by rfl) hisi PyProof.Rows.boot_isinstance (J0 (pv 0) (J0 (Jw (v:=.ref (cs 0)) rfl g0 rfl) J4))) (J0 (J7 (Jr rfl) (by rfl) hisi PyProof.Rows.boot_isinstance (J0 (pv 0) (J0 (Jw (v:=.ref (cs 1)) rfl g1 rfl) J4))) (J0 (J7 (Jr rfl) (by rfl) hisi PyProof.Rows.boot_isinstance (J0 (pv 0) (J0 (Jw (v:=.ref (cs 2)) rfl g2 rfl) J4))) (J0 (J7 (Jr rfl) (by rfl) hisi PyProof.Rows.boot_isinstance (J0 (pv 0) (J0 (Jw (v:=.ref (cs 3)) rfl g3 rfl) J4))) J4))))))
    (J2 (Jq (i:=1) scAlone.nd rfl (Or.inl rfl) (pe_op op_cat (pv 1) (J1w (J0 (J7 (Jr rfl) (by rfl) hisi PyProof.Rows.boot_isinstance (J0 (pv 0) (J0 (Jw (v:=.ref (cs 4)) rfl g4 rfl) J4))) (J0 (J7 (Jr rfl) (by rfl) hisi PyProof.Rows.boot_isinstance (J0 (pv 0) (J0 (Jw (v:=.ref (cs 5)) rfl g5 rfl) J4))) (J0 (J7 (Jr rfl) (by rfl) hisi PyProof.Rows.boot_isinstance (J0 (pv 0) (J0 (Jw (v:=.ref (cs 6)) rfl g6 rfl) J4))) (J0 (J7 (Jr rfl) (by rfl) hisi PyProof.Rows.boot_isinstance (J0 (pv 0) (J0 (Jw (v:=.ref (cs 7)) rfl g7 rfl) J4))) J4)))))))
    (J2 (Jq (i:=1) scAlone.nd rfl (Or.inl rfl) (pe_op op_cat (pv 1) (J1w (J0 (J7 (Jr rfl) (by rfl) hisi PyProof.Rows.boot_isinstance (J0 (pv 0) (J0 (Jw (v:=.ref (cs 8)) rfl g8 rfl) J4))) (J0 (J7 (Jr rfl) (by rfl) hisi PyProof.Rows.boot_isinstance (J0 (pv 0) (J0 (Jw (v:=.ref (cs 9)) rfl g9 rfl) J4))) (J0 (J7 (Jr rfl) (by rfl) hisi PyProof.Rows.boot_isinstance (J0 (pv 0) (J0 (Jw (v:=.ref (cs 10)) rfl g10 rfl) J4))) J4))))))
    (Jc (J1a (pe_and (J26 op_eq (pe_bm PySem.F.plainAttrs_list PySem.F.slot_list_count PySem.F.type_list_count mt_countB (pv 1) (J0 pe_bl J4)) Je (J16 _))
     (pe_and (J7 (Jr rfl) (by rfl) hisi PyProof.Rows.boot_isinstance (J0 (pv 0) (J0 (Jw (v:=.ref CL) rfl TA.ml rfl) J4)))
     (pe_one (J7 (Jr rfl) (by rfl) hisi PyProof.Rows.boot_isinstance (J0 (pv 0) (J0 (pe_bltn (v:=.ty "ValueError") rfl TA.mv boot_VE rfl) J4)))))))))),?_⟩
   refine ⟨_,rfl,_,.ref (cs 0),.type "NoneType",.ref (cs 0),false,rfl,rfl,fun v h=>h,.non,q0,_,rfl,_,.ref (cs 1),.type "NoneType",.ref (cs 1),false,rfl,rfl,fun v h=>h,.non,q1,_,rfl,_,.ref (cs 2),.type "NoneType",.ref (cs 2),false,rfl,rfl,fun v h=>h,.non,q2,_,rfl,_,.ref (cs 3),.type "NoneType",.ref (cs 3),false,rfl,rfl,fun v h=>h,.non,q3,(by show 4≤sizeLine;decide),fun l1 h1=>?_⟩
   have s1:=J6 (o:=.lst [V.bl (false),V.bl (false),V.bl (false),V.bl (false)]) h1
   refine ⟨_,rfl,_,rfl,_,.ref (cs 4),.type "NoneType",.ref (cs 4),false,rfl,rfl,fun v h=>h,.non,q4,_,rfl,_,.ref (cs 5),.type "NoneType",.ref (cs 5),false,rfl,rfl,fun v h=>h,.non,q5,_,rfl,_,.ref (cs 6),.type "NoneType",.ref (cs 6),false,rfl,rfl,fun v h=>h,.non,q6,_,rfl,_,.ref (cs 7),.type "NoneType",.ref (cs 7),false,rfl,rfl,fun v h=>h,.non,q7,(by show 4≤sizeLine;decide),fun l2 h2=>?_⟩
   have s2:=J6 (o:=.lst [V.bl (false),V.bl (false),V.bl (false),V.bl (false)]) h2
   refine ⟨l1,l2,_,_,rfl,rfl,s2 _ _ J1,J1,(by show 8≤sizeLine;decide),fun l3 h3=>?_⟩
   have s3:=J6 (o:=.lst [V.bl (false),V.bl (false),V.bl (false),V.bl (false),V.bl (false),V.bl (false),V.bl (false),V.bl (false)]) h3
   refine ⟨_,rfl,_,rfl,_,.ref (cs 8),.type "NoneType",.ref (cs 8),false,rfl,rfl,fun v h=>h,.non,q8,_,rfl,_,.ref (cs 9),.type "NoneType",.ref (cs 9),false,rfl,rfl,fun v h=>h,.non,q9,_,rfl,_,.ref (cs 10),.type "NoneType",.ref (cs 10),false,rfl,rfl,fun v h=>h,.non,q10,(by show 3≤sizeLine;decide),fun l4 h4=>?_⟩
   have s4:=J6 (o:=.lst [V.bl (false),V.bl (false),V.bl (false)]) h4
   refine ⟨l3,l4,_,_,rfl,rfl,s4 _ _ J1,J1,(by show 11≤sizeLine;decide),fun l5 h5=>?_⟩
   have s5:=J6 (o:=.lst ((List.replicate 11 false).map V.bl)) h5
   have e11:HO.lst ([V.bl (false),V.bl (false),V.bl (false),V.bl (false)] ++ [V.bl (false),V.bl (false),V.bl (false),V.bl (false)] ++ [V.bl (false),V.bl (false),V.bl (false)])=HO.lst ((List.replicate 11 false).map V.bl):=rfl
   refine ⟨_,rfl,.inl ⟨rfl,_,SqL.of J1⟩,l5,List.replicate 11 false,rfl,rfl,J1,rfl,false,?_,iteF ?_⟩
   ·rfl
   exact k _ ((s1.trans s2).trans (s3.trans (s4.trans s5)))
end
end R48
namespace R48
open PySem L2 Rl
section
variable {P:Program} {w:World} {K:PySem.W.Frag} {mg:Str→Option Value} {base:Heap}
def spLaw (K:PySem.W.Frag) (TB TJ:Addr):Sp:=fun vs H Q _=>∃ (a:Addr) (ns:List Int),vs=[.ref a]∧SqL K H a (ns.map V.int)∧ns.length≤63∧TabOk H TB lpLO "line_of.<locals>.<lambda>"∧TabOk H TJ lpJS "joined_stretches.<locals>.<lambda>"∧∀ H',Q (.bl true) H'
theorem call_isFN {X:Cx} {f:Value} (hf:f=.builtin "isinstance"):CallR X f (fun xs H Q=>(∃ (ea D:Addr) (c:V) (cv:Value) (b:Bool),xs=[.ref ea,c]∧RelV c cv∧(∀ v,RelV c v→v=cv)∧H ea=some (excO ea (.ref D))∧XCls X.K D∧PySem.W.kitOne X.K (.ref D) cv=some b∧Q (.bl b) H)∨
  (∃ (x c:V) (t cv:Value) (b:Bool),xs=[x,c]∧RelV c cv∧(∀ v,RelV c v→v=cv)∧TyOf X.K H x t∧PySem.W.kitOne X.K t cv=some b∧Q (.bl b) H)):=by
 intro pins s σ H xs us Q I r h
 rcases h with h | h
 ·exact Jv hf pins s σ H xs us Q I r h
 ·exact Jr hf pins s σ H xs us Q I r h
structure Tx48 (K:PySem.W.Frag) (mg:Str→Option Value) (CL CU CM:Addr) (cs:Nat→Addr):Prop where
 isi:mg "isinstance"=none
 ml:mg "LineError"=some (.ref CL)
 mu:mg "Unlike"=some (.ref CU)
 mm:mg "TooMany"=some (.ref CM)
 xu:PySem.W.exmOne K (.ref CU) (.ref CL)=some true
 xm:PySem.W.exmOne K (.ref CM) (.ref CL)=some true
 au:∃ bs,AloneK K CU CL cs bs
 am:∃ bs,AloneK K CM CL cs bs
 uu:PySem.W.kitOne K (.ref CU) (.ref CU)=some true
 um:PySem.W.kitOne K (.ref CU) (.ref CM)=some false
 mu':PySem.W.kitOne K (.ref CM) (.ref CU)=some false
 mm':PySem.W.kitOne K (.ref CM) (.ref CM)=some true
 nu:PySem.W.kitOne K (.type "NoneType") (.ref CU)=some false
 nm:PySem.W.kitOne K (.type "NoneType") (.ref CM)=some false
theorem menu9 {m:Int} (h0:0≤m) (h1:m < 3):∃ top:Int,atI [V.int 3,V.int (10 ^ (28:Int).toNat),V.int 50] m=some (V.int top)∧0 < top∧top≤10 ^ 28:=by
 have h:m=0∨m=1∨m=2:=by lia
 rcases h with rfl | rfl | rfl
 ·exact ⟨3,rfl,by decide,by decide⟩
 ·exact ⟨10 ^ (28:Int).toNat,rfl,by decide,by decide⟩
 ·exact ⟨50,rfl,by decide,by decide⟩
theorem many20 (z:Int):∃ m:Nat,1 + z % 20=(m:Int)∧1≤m∧m≤20:=by
 have b0:0≤z % 20:=Int.emod_nonneg _ (by decide)
 have b1:z % 20 < 20:=Int.emod_lt_of_pos _ (by decide)
 exact ⟨(1 + z % 20).toNat,by lia,by lia,by lia⟩
theorem draw_sum20 (ns:List Int) {many:Nat} {top:Int} (h2:many≤20) (h3:0 < top) (h4:top≤10 ^ 28):(drawL ns many top).sum≤20 * 10 ^ 28:=by
 have e1:=sum_le (drawL ns many top) fun a ha=>(J4z h3 a ha).2
 rw [J2h] at e1
 have e2:(many:Int) * top≤20 * 10 ^ 28:=Int.mul_le_mul (by lia) h4 (by lia) (by decide)
 lia
theorem DrGood.sameT {H H':Hp} {p:Addr} {ls:List Int} {os:List Nat} {ts:List Bool} (h:DrGood H p ls os ts) (s:SameT H H'):DrGood H' p ls os ts:=by
 obtain ⟨l,o,t,h0,h1,h2,h3⟩:=h.at_.ex
 exact ⟨⟨l,o,t,s _ _ h0 rfl,s _ _ h1 rfl,s _ _ h2 rfl,s _ _ h3 rfl⟩,h.good,h.len⟩
theorem DrGood.put {H:Hp} {p x l o t:Addr} {ls:List Int} {os:List Nat} {ts:List Bool} {xs:List Int} {ob:HO} (h:DrGood H p ls os ts) (h0:H p=some (.tup [.ref l,.ref o,.ref t])) (hx:H x=some (.lst (iV xs))) (hp:∀ a∈xs,1≤a) (n:l≠x):DrGood (upd H x ob) p ls os ts:=by
 obtain ⟨l',o',t',h0',h1,h2,h3⟩:=h.at_.ex
 rw [h0] at h0'
 cases h0'
 have lo:=h.good.lo
 have no:o≠x:=fun e=>by
  rw [e,hx] at h2
  have q:=HO.lst.inj (Option.some.inj h2)
  have m0:0∈os:=h.good.perm.mem_iff.mpr (List.mem_range.mpr (by lia))
  have:V.int 0∈iV xs:=by rw [q];exact List.mem_map.mpr ⟨0,List.mem_map.mpr ⟨0,m0,rfl⟩,rfl⟩
  obtain ⟨a,ha,e⟩:=List.mem_map.mp this
  have:=hp a ha
  have:=V.int.inj e
  lia
 have nt:t≠x:=fun e=>by
  rw [e,hx] at h3
  have q:=HO.lst.inj (Option.some.inj h3)
  have hl:=h.len
  have:(iV xs).length=(bV ts).length:=by rw [q]
  rw [List.length_map,List.length_map] at this
  have e0:(iV xs)[0]?=(bV ts)[0]?:=by rw [q]
  rw [J1z (by lia),bV_get (by lia)] at e0
  cases e0
 exact ⟨⟨l,o,t,by rw [Jf (fun e=>by rw [e,hx] at h0;cases h0)];exact h0,by rw [Jf n];exact h1,by rw [Jf no];exact h2,by rw [Jf nt];exact h3⟩,h.good,h.len⟩
theorem DrGood.set0 {H:Hp} {p l o t:Addr} {ls:List Int} {os:List Nat} {ts:List Bool} {r:Int} (h:DrGood H p ls os ts) (h0:H p=some (.tup [.ref l,.ref o,.ref t])) (hr:0≤r) (hs:ls.sum + r≤10 ^ 30):DrGood (upd H l (.lst ((iV ls).set 0 (.int (ls.getD 0 0 + r))))) p (ls.set 0 (ls.getD 0 0 + r)) os ts∧(ls.set 0 (ls.getD 0 0 + r)).sum=ls.sum + r:=by
 obtain ⟨l',o',t',h0',h1,h2,h3⟩:=h.at_.ex
 rw [h0] at h0'
 cases h0'
 have G:=h.good
 have lo:=G.lo
 have e:=sum_set9 ls 0 (ls.getD 0 0 + r) (by lia)
 have ep:(iV ls).set 0 (.int (ls.getD 0 0 + r))=iV (ls.set 0 (ls.getD 0 0 + r)):=(List.map_set ..).symm
 have gp:1≤ls.getD 0 0:=G.pos _ (J3i (by lia))
 rw [ep]
 have no:o≠l:=fun e=>by
  rw [e,h1] at h2
  have q:=HO.lst.inj (Option.some.inj h2)
  have m0:0∈os:=G.perm.mem_iff.mpr (List.mem_range.mpr (by lia))
  have:V.int 0∈iV ls:=by rw [q];exact List.mem_map.mpr ⟨0,List.mem_map.mpr ⟨0,m0,rfl⟩,rfl⟩
  obtain ⟨a,ha,e⟩:=List.mem_map.mp this
  have:=G.pos a ha
  have:=V.int.inj e
  lia
 have nt:t≠l:=fun e=>by
  rw [e,h1] at h3
  have q:=HO.lst.inj (Option.some.inj h3)
  have hl:=h.len
  have e0:(iV ls)[0]?=(bV ts)[0]?:=by rw [q]
  rw [J1z (by lia),bV_get (by lia)] at e0
  cases e0
 refine ⟨⟨⟨l,o,t,by rw [Jf (fun e=>by rw [e,h1] at h0;cases h0)];exact h0,J1,by rw [Jf no];exact h2,by rw [Jf nt];exact h3⟩,⟨by rw [List.length_set];exact lo,by rw [List.length_set];exact G.hi,fun a ha=>?_,by rw [e];lia,by rw [List.length_set];exact G.perm⟩,by rw [List.length_set];exact h.len⟩,by rw [e];lia⟩
 rcases List.mem_or_eq_of_mem_set ha with z | z
 ·exact G.pos a z
 ·rw [z];lia
theorem scLaw:FnScope ["script","first","top","one","spare","two","more","found","refused","e","kinds","count"] ["script"] (Ja sLaw):=⟨rfl,rfl,rfl,by decide +kernel,rfl,by decide +kernel,by decide +kernel⟩
theorem ok_law {f fC fD fFi fLn fJD fAL fPd C CW TB TJ CL CU CM:Addr} {fd fdC fdD fdFi fdLn fdJD fdAL fdPd:FuncData} {cs:Nat→Addr} (F:Fun K "law" "law" sLaw f fd) (T:TxtR mg) (TC:TxtC K mg C) (TX:Tx48 K mg CL CU CM cs)
  (GC:FnOk P w K mg base CX0 1 fC fdC ["script","k"] (spCell K)) (bC:Binds K fdC ["script","k"] []) (mC:mg "_law_cell"=some (.ref fC)) (kC:PySem.W.keepIn K (.ref fC)=true)
  (GD:FnOk P w K mg base CX0 2 fD fdD ["script","at","many","top"] (spDrawn9 K)) (bD:Binds K fdD ["script","at","many","top"] []) (mD:mg "_law_drawn"=some (.ref fD)) (kD:PySem.W.keepIn K (.ref fD)=true)
  (GFi:FnOk P w K mg base CX0 1 fFi fdFi ["drawn","size"] spFitted) (bFi:Binds K fdFi ["drawn","size"] []) (mFi:mg "_law_fitted"=some (.ref fFi)) (kFi:PySem.W.keepIn K (.ref fFi)=true)
  (GLn:FnOk P w K mg base CX0 5 fLn fdLn ["drawn"] (spLLine C)) (bLn:Binds K fdLn ["drawn"] []) (mLn:mg "_law_line"=some (.ref fLn)) (kLn:PySem.W.keepIn K (.ref fLn)=true)
  (GJD:FnOk P w K mg base (Exc1 P w) 7 fJD fdJD ["one","two"] (spJoinedX C CW TB TJ CU CM)) (bJD:Binds K fdJD ["one","two"] []) (mJD:mg "joined"=some (.ref fJD)) (kJD:PySem.W.keepIn K (.ref fJD)=true)
  (GAL:FnOk P w K mg base CX0 1 fAL fdAL ["e"] (spAlone K CL cs)) (bAL:Binds K fdAL ["e"] []) (mAL:mg "_law_alone"=some (.ref fAL)) (kAL:PySem.W.keepIn K (.ref fAL)=true)
  (GPd:FnOk P w K mg base CX0 2 fPd fdPd ["one","two"] spParted) (bPd:Binds K fdPd ["one","two"] []) (mPd:mg "_law_parted"=some (.ref fPd)) (kPd:PySem.W.keepIn K (.ref fPd)=true) :
  FnOk P w K mg base CX0 8 f fd ["script"] (spLaw K TB TJ):=by
 refine F.ok scLaw (fun vs H Q E h=>?_) (fun cdv A outer s H vs Q E hr h=>?_)
 ·obtain ⟨a,ns,rfl,_⟩:=h
  rfl
 ·obtain ⟨a,ns,rfl,hS,hlen,Tb,Tj,k⟩:=h
  have hr1:Room 1 _:=hr.mono (by decide)
  have hr2:Room 2 _:=hr.mono (by decide)
  have hr5:Room 5 _:=hr.mono (by decide)
  have hr7:Room 7 _:=hr.mono (by decide)
  have hu:=hr.units0
  refine ⟨_,(J2 (Jq (i:=1) scLaw.nd rfl (Or.inl rfl) (Jp GC hr1 rfl mC kC bC .nil pass0 (J0 (pv 0) (J0 Je J4))))
   (J2 (Jq (i:=2) scLaw.nd rfl (Or.inl rfl) (pe_ix J17 (J1w (J0 Je (J0 (pe_op op_pow Je Je) (J0 Je J4)))) (pe_op J4n (pe_op op_fdiv (pv 1) Je) Je) (fun _ _=>rfl)))
   (J2 (Jq (i:=3) scLaw.nd rfl (Or.inl rfl) (Jp GD hr2 rfl mD kD bD .nil pass0 (J0 (pv 0) (J0 Je (J0 (pe_op J15 Je (pe_op J4n (pv 1) Je)) (J0 (pv 2) J4))))))
   (J2 (J2y (ps_lc (i:=4) (caps:=["script"]) (js:=[0]) scLaw.nd rfl (Or.inl rfl) rfl (pi_down0 rfl T.range (J0 (pe_op J1x (J7 Jj (by rfl) T.len PySem.boot_len (J0 (pv 0) J4)) Je) (J0 Je (J0 (pe_un un_neg Je) J4)))) rfl (fun _ _ _ _=>J42) (fun C fp s H=>(J5z (J4v K) (pv 1) (pv 0))) (by decide +kernel) (by decide +kernel) (by decide +kernel) (by intro p hp;simp only [List.mem_cons,List.not_mem_nil,or_false] at hp;rcases hp with rfl;rfl)))
   (J2 (Jq (i:=5) scLaw.nd rfl (Or.inl rfl) (Jp GFi hr1 rfl mFi kFi bFi .nil pass0 (J0 (Jp GD hr2 rfl mD kD bD .nil pass0 (J0 (pv 4) (J0 Je (J0 (pe_op J15 Je (pe_op J4n (pe_op op_fdiv (pv 1) Je) Je)) (J0 (pv 2) J4))))) (J0 (J7 (J2r rfl) (by rfl) T.sum PyProof.Rows.boot_sum (J0 (pe_ix J2a (pv 3) Je (fun _ _=>rfl)) J4)) J4))))
   (J2 (J2y (Jq (i:=6) scLaw.nd rfl (Or.inl rfl) (pe_op J4n (pe_op op_fdiv (pv 1) Je) Je)))
   (J2 (J2y (ps_if (J13 op_eq (pv 6) Je (J16 _)) (Jc (J55 (pe_op J15 (pe_op J15 (pe_ix J17 (pe_ix J2a (pv 5) Je (fun _ _=>rfl)) Je (fun _ _=>rfl)) Je) (pe_op J4n (J7 (J2r rfl) (by rfl) T.sum PyProof.Rows.boot_sum (J0 (pv 0) J4)) (pe_op op_pow Je Je))) (pg_sub (pe_ix J2a (pv 5) Je (fun _ _=>rfl)) Je J36))) J14))
   (J2 (J2y (ps_if (J13 op_eq (pv 6) Je (J16 _)) (Jc (J55 (pe_op J15 (pe_op J15 (pe_ix J17 (pe_ix J2a (pv 3) Je (fun _ _=>rfl)) Je (fun _ _=>rfl)) Je) (pe_op J4n (J7 (J2r rfl) (by rfl) T.sum PyProof.Rows.boot_sum (J0 (pv 0) J4)) (pe_op op_pow Je Je))) (pg_sub (pe_ix J2a (pv 3) Je (fun _ _=>rfl)) Je J36))) J14))
   (J2 (Jq (i:=7) scLaw.nd rfl (Or.inl rfl) pe_non)
   (J2 (Jq (i:=8) scLaw.nd rfl (Or.inl rfl) pe_non)
   (J2 (J2y (ps_trya (i:=9) (j:=7) GJD hr7 rfl mJD kJD bJD .nil (J0 (Jp GLn hr5 rfl mLn kLn bLn .nil pass0 (J0 (pv 3) J4)) (J0 (Jp GLn hr5 rfl mLn kLn bLn .nil pass0 (J0 (pv 5) J4)) J4)) rfl rfl rfl TX.ml scLaw.nd rfl rfl rfl (Or.inl rfl) (fun ea=>Jc (Jq (i:=8) scLaw.nd rfl (Or.inl rfl) (pv 9)))))
   (J2 (Jq (i:=10) scLaw.nd rfl (Or.inl rfl) (J1w (J0 (J7 (call_isFN rfl) (by rfl) TX.isi PyProof.Rows.boot_isinstance (J0 (pv 8) (J0 (Jw (v:=.ref CU) rfl TX.mu rfl) J4))) (J0 (J7 (call_isFN rfl) (by rfl) TX.isi PyProof.Rows.boot_isinstance (J0 (pv 8) (J0 (Jw (v:=.ref CM) rfl TX.mm rfl) J4))) (J0 (Jp GAL hr1 rfl mAL kAL bAL .nil pass0 (J0 (pv 8) J4)) J4)))))
   (J2 (ps_if (J13 op_gt (pv 6) Je (J16 _)) (Jc (J1a (J26 (op_eqL hu) (pv 10) (J1w (J0 pe_bl (J0 pe_bl (J0 pe_bl J4)))) (J16 _)))) J14)
   (J2 (Jq (i:=11) scLaw.nd rfl (Or.inl rfl) (Jp GPd hr2 rfl mPd kPd bPd .nil pass0 (J0 (pv 3) (J0 (pv 5) J4))))
   (J2 (ps_if (J13 op_gt (pv 11) Je (J16 _)) (Jc (J1a (J26 (op_eqL hu) (pv 10) (J1w (J0 pe_bl (J0 pe_bl (J0 pe_bl J4)))) (J16 _)))) J14)
   (Jc (J1a (pe_and (J26 op_isN (pv 8) pe_non (J16 _)) (pe_one (J26 op_eq (J7 Jj (by rfl) T.len PySem.boot_len (J0 (Jy (pv 7) rfl) J4)) (pe_op J15 (pv 11) Je) (J16 _))))))))))))))))))))),?_⟩
  obtain ⟨top,at1,t1,t2⟩:=menu9 (m:=cellN ns 0 / 400 % 3) (Int.emod_nonneg _ (by decide)) (Int.emod_lt_of_pos _ (by decide))
  obtain ⟨m0,em0,m01,m02⟩:=many20 (cellN ns 0)
  obtain ⟨m1,em1,m11,m12⟩:=many20 (cellN ns 0 / 20)
  refine ⟨_,rfl,a,ns,0,rfl,hS,?_⟩
  refine ⟨_,_,rfl,rfl,⟨by decide,by decide,by decide⟩,(by show 3≤sizeLine;decide),fun l hl=>?_⟩
  have s1:=J6 (o:=.lst [V.int 3,V.int (10 ^ (28:Int).toNat),V.int 50]) hl
  have hl1:upd H l (.lst [V.int 3,V.int (10 ^ (28:Int).toNat),V.int 50]) l=some (.lst [V.int 3,V.int (10 ^ (28:Int).toNat),V.int 50]):=J1
  refine ⟨_,rfl,_,_,rfl,rfl,⟨by decide,by decide⟩,_,_,rfl,rfl,(by show (0:Int) < 3;decide),l,_,_,_,rfl,rfl,SqL.of hl1,at1,?_⟩
  refine ⟨_,rfl,_,rfl,_,_,rfl,rfl,(by show (0:Int) < 20;decide),_,_,rfl,rfl,_,rfl,a,ns,ns,1,m0,top,(by rw [← em0];rfl),s1.seq hS,(fun k=>rfl),m01,by lia,t1,fun pa H4 s4 D=>?_⟩
  have DA:DrGood H4 pa (drawL ns m0 top) (drawO ns m0 m0) (drawT ns m0):=⟨D,J4a ns m01 (by lia) t1 t2,by rw [drawT_len,J2h]⟩
  have la5:(drawL ns m0 top).length≤20:=by rw [J2h];exact m02
  have sa:=draw_sum20 ns (many:=m0) m02 t1 t2
  generalize drawL ns m0 top=la at *
  generalize drawO ns m0 m0=oa at *
  generalize drawT ns m0=ta at *
  obtain ⟨al,ao,at',a0,a1,a2,a3⟩:=D.ex
  have s14:=s1.trans s4
  have pN:=DA.good.pos_sum
  refine ⟨fun σ' H'=>∃ sp xs,σ'=[some (.ref a),some (.int (cellN ns 0)),some (.int top),some (.ref pa),some (.ref sp),none,none,none,none,none,none,none]∧H' sp=some (.lst (iV xs))∧Same H4 H',?_,?_⟩
  ·have nl:(ns.map V.int).length=ns.length:=List.length_map ..
   refine ⟨_,rfl,a,_,rfl,.inl (s14.seq hS),_,_,rfl,rfl,1,rfl,?_⟩
   refine ⟨((ns.map V.int).length:Int) - 1,rfl,⟨by lia,by rw [nl];lia⟩,fun sp hsp=>lc_stp (((ns.map V.int).length:Int) - 1) (-1) (((ns.map V.int).length:Int) - 1).toNat (fun i=>V.int (ns.getD (ns.length - 1 - i) 0)) (by rw [nl];lia) hsp (fun _ _ H _ _ q=>q H (Same.refl _)) (fun i hi Hx Qe sx ke=>?_) (fun H5 s5 h5=>⟨sp,(List.range (((ns.map V.int).length:Int) - 1).toNat).map fun i=>ns.getD (ns.length - 1 - i) 0,rfl,?_,s5⟩)⟩
   ·rw [nl] at hi
    have ei:((ns.map V.int).length:Int) - 1 + (i:Nat) * (-1)=((ns.length - 1 - i:Nat):Int):=by rw [nl];lia
    rw [ei]
    exact ⟨_,rfl,_,rfl,a,_,_,_,rfl,rfl,sx.seq (s14.seq hS),Jn (J1z (by lia)),ke Hx (Same.refl _)⟩
   ·rw [h5];exact congrArg (fun z=>some (HO.lst z)) (by show _=List.map V.int _;rw [List.map_map];rfl)
  rintro σ H5 ⟨sp,xs,rfl,hsp,s5⟩
  refine ⟨_,rfl,_,rfl,_,_,rfl,rfl,⟨by decide,by decide⟩,_,_,rfl,rfl,(by show (0:Int) < 20;decide),_,_,rfl,rfl,_,rfl,sp,xs,0 :: xs,0,m1,top,(by rw [← em1];rfl),SqL.of hsp,(fun k=>by show cellN (0 :: xs) (1 + k)=cellN xs (0 + k);rw [Nat.zero_add,Nat.add_comm 1 k];rfl),m11,by lia,t1,fun pd H6 s6 D6=>?_⟩
  have DD:DrGood H6 pd _ _ _:=⟨D6,J4a (0 :: xs) m11 (by lia) t1 t2,by rw [drawT_len,J2h]⟩
  have s56:=s5.trans s6
  refine ⟨_,rfl,pa,_,_,_,rfl,rfl,SqT.of (s56 _ _ a0),Jn (j:=0) rfl,al,la,rfl,.inl (SqL.of (s56 _ _ a1)),?_⟩
  have q30:(20:Int) * 10 ^ 28 + (1 + 10 ^ 28)≤10 ^ 30:=by decide
  refine ⟨pd,la.sum,_,_,_,rfl,DD,pN,by lia,fun pb lb ob tb H7 s7 DB fb eb nb=>?_⟩
  rw [J2h] at nb
  obtain ⟨bl,bo,bt,b0,b1,b2,b3⟩:=DB.at_.ex
  have fbl:H6 bl=none:=fb _ _ _ b0
  have a07:=s7 _ _ (s56 _ _ a0)
  have a17:=s7 _ _ (s56 _ _ a1)
  have nab:al≠bl:=J9 (s56 _ _ a1) fbl
  have DA7:=DA.same (s56.trans s7)
  have s17:=s14.trans (s56.trans s7)
  have Tb7:=J1f Tb s17
  have Tj7:=J1f Tj s17
  have hS7:=s17.seq hS
  obtain ⟨mo,emo⟩:∃ mo,mo=cellN ns 0 / 1200 % 3:=⟨_,rfl⟩
  have mo0:0≤mo:=by rw [emo];exact Int.emod_nonneg _ (by decide)
  have mo1:mo < 3:=by rw [emo];exact Int.emod_lt_of_pos _ (by decide)
  refine ⟨fun σ' H'=>σ'=[some (.ref a),some (.int (cellN ns 0)),some (.int top),some (.ref pa),some (.ref sp),some (.ref pb),some (.int mo),none,none,none,none,none]∧H7=H',?_,?_⟩
  ·exact ⟨_,rfl,_,_,rfl,rfl,⟨by decide,by decide⟩,_,_,rfl,rfl,(by show (0:Int) < 3;decide),by rw [emo];rfl,rfl⟩
  rintro σ _ ⟨rfl,rfl⟩
  have r0:0≤ns.sum % (10 ^ (28:Int).toNat):=Int.emod_nonneg _ (by decide)
  have r1:ns.sum % (10 ^ (28:Int).toNat) < 10 ^ (28:Int).toNat:=Int.emod_lt_of_pos _ (by decide)
  have r2:(10:Int) ^ (28:Int).toNat=10 ^ 28:=rfl
  obtain ⟨r,er⟩:∃ r,r=1 + ns.sum % (10 ^ (28:Int).toNat):=⟨_,rfl⟩
  have lbp:0 < lb.length:=DB.good.lo
  have lap:0 < la.length:=DA.good.lo
  refine ⟨fun σ' H'=>∃ lb',σ'=[some (.ref a),some (.int (cellN ns 0)),some (.int top),some (.ref pa),some (.ref sp),some (.ref pb),some (.int mo),none,none,none,none,none]∧DrGood H' pb lb' ob tb∧H' pb=some (.tup [.ref bl,.ref bo,.ref bt])∧Same H6 H'∧lb'.length≤20∧(mo=1→lb'.sum≠la.sum)∧(mo≠1→lb'.sum=la.sum),?_,?_⟩
  ·by_cases c:mo=1
   ·refine ⟨_,rfl,rfl,_,rfl,iteDT (by rw [c]) ?_⟩
    refine ⟨_,rfl,pb,_,_,_,rfl,rfl,SqT.of b0,Jn (j:=0) rfl,bl,_,_,_,rfl,rfl,SqL.of b1,Jn (j:=0) (J1z lbp),_,_,rfl,rfl,_,rfl,a,ns,rfl,.inl hS7,_,_,rfl,rfl,⟨by decide,by decide,by decide⟩,_,_,rfl,rfl,(by show (0:Int) < 10 ^ (28:Int).toNat;decide),_,_,rfl,rfl,_,rfl,pb,_,_,_,rfl,rfl,SqT.of b0,Jn (j:=0) rfl,bl,_,_,0,rfl,rfl,b1,ixN_nat (by rw [List.length_map];exact lbp),?_⟩
    obtain ⟨D2,e2⟩:=DB.set0 (r:=r) b0 (by lia) (by lia)
    rw [er,← Int.add_assoc] at D2 e2
    refine ⟨_,rfl,D2,?_,fun b u e=>?_,by rw [List.length_set];lia,fun _=>by rw [e2];lia,fun n=>absurd c n⟩
    ·rw [Jf (fun e=>by rw [e,b1] at b0;cases b0)];exact b0
    ·rw [Jf (J9 e fbl)];exact s7 _ _ e
   ·exact ⟨_,rfl,rfl,_,rfl,iteD (fun e=>c (V.int.inj e)) ⟨lb,rfl,DB,b0,s7,by lia,fun z=>absurd z c,fun _=>eb⟩⟩
  rintro σ H8 ⟨lb8,rfl,DB8,b08,s8,nb8,ne8,eq8⟩
  have DA8:=DA.same (s56.trans s8)
  have a08:=s8 _ _ (s56 _ _ a0)
  have a18:=s8 _ _ (s56 _ _ a1)
  have s18:=s14.trans (s56.trans s8)
  have Tb8:=J1f Tb s18
  have Tj8:=J1f Tj s18
  have tput:∀ {TX:Addr} {pos:Pos} {q:Str} {ob:HO},TabOk H8 TX pos q→TabOk (upd H8 al ob) TX pos q:=fun {TX pos q ob} t=>by
   obtain ⟨ps,h1,h2,h3⟩:=t.ex
   refine ⟨ps,by rw [Jf (fun e=>by rw [e,a18] at h1;cases h1)];exact h1,h2,fun cv e=>?_⟩
   obtain ⟨c,oc,vs,t,r1,r2,r3⟩:=h3 cv e
   exact ⟨c,oc,vs,t,r1,by rw [Jf (fun e=>by rw [e,a18] at r2;cases r2)];exact r2,r3⟩
  refine ⟨fun σ' H'=>∃ la' lb',σ'=[some (.ref a),some (.int (cellN ns 0)),some (.int top),some (.ref pa),some (.ref sp),some (.ref pb),some (.int mo),none,none,none,none,none]∧DrGood H' pa la' oa ta∧DrGood H' pb lb' ob tb∧la'.length≤20∧lb'.length≤20∧(0 < mo→lb'.sum≠la'.sum)∧(mo=0→lb'.sum=la'.sum)∧TabOk H' TB lpLO "line_of.<locals>.<lambda>"∧TabOk H' TJ lpJS "joined_stretches.<locals>.<lambda>",?_,?_⟩
  ·by_cases c:mo=2
   ·refine ⟨_,rfl,rfl,_,rfl,iteDT (by rw [c]) ?_⟩
    refine ⟨_,rfl,pa,_,_,_,rfl,rfl,SqT.of a08,Jn (j:=0) rfl,al,_,_,_,rfl,rfl,SqL.of a18,Jn (j:=0) (J1z lap),_,_,rfl,rfl,_,rfl,a,ns,rfl,.inl (s18.seq hS),_,_,rfl,rfl,⟨by decide,by decide,by decide⟩,_,_,rfl,rfl,(by show (0:Int) < 10 ^ (28:Int).toNat;decide),_,_,rfl,rfl,_,rfl,pa,_,_,_,rfl,rfl,SqT.of a08,Jn (j:=0) rfl,al,_,_,0,rfl,rfl,a18,ixN_nat (by rw [List.length_map];exact lap),?_⟩
    obtain ⟨D2,e2⟩:=DA8.set0 (r:=r) a08 (by lia) (by lia)
    rw [er,← Int.add_assoc] at D2 e2
    have e8:=eq8 (by lia)
    exact ⟨_,lb8,rfl,D2,DB8.put b08 a18 DA8.good.pos (Ne.symm nab),by rw [List.length_set];lia,nb8,fun _=>by rw [e2];lia,fun z=>by lia,tput Tb8,tput Tj8⟩
   ·exact ⟨_,rfl,rfl,_,rfl,iteD (fun e=>c (V.int.inj e)) ⟨la,lb8,rfl,DA8,DB8,la5,nb8,fun z=>ne8 (by lia),fun z=>eq8 (by lia),Tb8,Tj8⟩⟩
  rintro σ H9 ⟨la9,lb9,rfl,DA9,DB9,na9,nb9,ne9,eq9,Tb9,Tj9⟩
  have ba:=J28 (ts:=ta) DA9.good.ord
  have ra:=srs_rep (ts:=ta) DA9.good.ord
  obtain ⟨f,ef⟩:∃ f:Int→Int,f=fun x=>gL lb9 ob tb (gL la9 oa ta x):=⟨_,rfl⟩
  refine ⟨fun σ' H'=>SameT H9 H'∧((lb9.sum≠la9.sum∧∃ ea,σ'=[some (.ref a),some (.int (cellN ns 0)),some (.int top),some (.ref pa),some (.ref sp),some (.ref pb),some (.int mo),some .non,some (.ref ea),none,none,none]∧H' ea=some (excO ea (.ref CU)))∨
   (lb9.sum=la9.sum∧∃ S,RepS f 0 S la9.sum∧24 < S.length∧∃ ea,σ'=[some (.ref a),some (.int (cellN ns 0)),some (.int top),some (.ref pa),some (.ref sp),some (.ref pb),some (.int mo),some .non,some (.ref ea),none,none,none]∧H' ea=some (excO ea (.ref CM)))∨
   (lb9.sum=la9.sum∧∃ S,RepS f 0 S la9.sum∧S.length≤24∧∃ z l o t,σ'=[some (.ref a),some (.int (cellN ns 0)),some (.int top),some (.ref pa),some (.ref sp),some (.ref pb),some (.int mo),some (.ref z),some .non,none,none,none]∧LineAt C H' z l o t∧l.length=S.length)),?_,?_⟩
  ·refine ⟨_,rfl,pa,la9,oa,ta,rfl,DA9,fun x1 H10 s10 L1=>⟨_,rfl,pb,lb9,ob,tb,rfl,DB9.same s10,fun x2 H11 s11 L2=>?_⟩⟩
   have s911:=s10.trans s11
   refine ⟨x1,x2,la9,lb9,oa,ob,ta,tb,rfl,L1.same s11,L2,DA9.good,DB9.good,DA9.len,DB9.len,by lia,J1f Tb9 s911,J1f Tj9 s911,fun n=>?_,fun hz S R=>⟨fun c H12 s12=>?_,fun c z l o t H12 s12 el LZ=>?_⟩⟩
   ·exact ⟨TX.xu,fun ea hea=>⟨_,rfl,fun b u e z=>J6 hea _ _ (s911 _ _ e),.inl ⟨n,ea,rfl,J1⟩⟩⟩
   ·exact ⟨TX.xm,fun ea hea=>⟨_,rfl,fun b u e z=>J6 hea _ _ (s12 _ _ (s911 _ _ e) z),.inr (.inl ⟨hz,S,by rw [ef];exact R,c,ea,rfl,J1⟩)⟩⟩
   ·exact ⟨SameT.trans (Same.t s911) s12,.inr (.inr ⟨hz,S,by rw [ef];exact R,c,z,l,o,t,rfl,LZ,el⟩)⟩
  have z3:3≤sizeLine:=by decide
  rintro σ H12 ⟨s12,c | c | c⟩
  ·obtain ⟨nz,ea,rfl,hea⟩:=c
   obtain ⟨bs,AU⟩:=TX.au
   refine ⟨_,rfl,.inl ⟨ea,CU,.ref CU,.ref CU,true,rfl,rfl,fun v h=>h,hea,AU.w,TX.uu,_,rfl,.inl ⟨ea,CU,.ref CM,.ref CM,false,rfl,rfl,fun v h=>h,hea,AU.w,TX.um,_,rfl,.inl ⟨ea,CU,bs,rfl,hea,AU,fun H13 s13=>⟨z3,fun kl hkl=>?_⟩⟩⟩⟩⟩
   have s14':=J6 (o:=.lst (bV [true,false,true])) hkl
   have hkl':upd H13 kl (.lst (bV [true,false,true])) kl=some (.lst (bV [true,false,true])):=J1
   have mp:0 < mo:=by
    apply Classical.byContradiction
    intro z
    exact nz (eq9 (by lia))
   refine ⟨_,rfl,_,_,rfl,rfl,_,rfl,iteDT mp ?_⟩
   refine ⟨_,rfl,z3,fun k2 hk2=>?_⟩
   have s15:=J6 (o:=.lst (bV [true,false,true])) hk2
   refine ⟨kl,k2,_,_,rfl,rfl,SqL.of (s15 _ _ hkl'),SqL.of J1,Kin.bls [true,false,true] [true,false,true],?_⟩
   have hq:=fun H'=>k H'
   rw [show true=decide (bV [true,false,true]=bV [true,false,true]) from (decide_eq_true rfl).symm] at hq
   exact hq _
  ·obtain ⟨hz,S,R,c,ea,rfl,hea⟩:=c
   obtain ⟨bs,AM⟩:=TX.am
   refine ⟨_,rfl,.inl ⟨ea,CM,.ref CU,.ref CU,false,rfl,rfl,fun v h=>h,hea,AM.w,TX.mu',_,rfl,.inl ⟨ea,CM,.ref CM,.ref CM,true,rfl,rfl,fun v h=>h,hea,AM.w,TX.mm',_,rfl,.inl ⟨ea,CM,bs,rfl,hea,AM,fun H13 s13=>⟨z3,fun kl hkl=>?_⟩⟩⟩⟩⟩
   have s14':=J6 (o:=.lst (bV [false,true,true])) hkl
   have hkl':upd H13 kl (.lst (bV [false,true,true])) kl=some (.lst (bV [false,true,true])):=J1
   have mp:¬ 0 < mo:=fun z=>ne9 z hz
   have sT:=SameT.trans s12 (Same.t (s13.trans s14'))
   rw [ef] at R
   refine ⟨_,rfl,_,_,rfl,rfl,_,rfl,iteD mp ?_⟩
   refine ⟨_,rfl,_,rfl,pa,pb,la9,lb9,oa,ob,ta,tb,S,rfl,DA9.sameT sT,DB9.sameT sT,hz,R,fun H15 s15=>?_⟩
   refine ⟨_,rfl,_,_,rfl,rfl,_,rfl,iteDT (by lia) ?_⟩
   refine ⟨_,rfl,z3,fun k2 hk2=>?_⟩
   have s16:=J6 (o:=.lst (bV [false,true,true])) hk2
   refine ⟨kl,k2,_,_,rfl,rfl,SqL.of (s16 _ _ (s15 _ _ hkl')),SqL.of J1,Kin.bls [false,true,true] [false,true,true],?_⟩
   have hq:=fun H'=>k H'
   rw [show true=decide (bV [false,true,true]=bV [false,true,true]) from (decide_eq_true rfl).symm] at hq
   exact hq _
  ·obtain ⟨hz,S,R,c,z,l,o,t,rfl,LZ,el⟩:=c
   refine ⟨_,rfl,.inr ⟨.non,.ref CU,.type "NoneType",.ref CU,false,rfl,rfl,fun v h=>h,.non,TX.nu,_,rfl,.inr ⟨.non,.ref CM,.type "NoneType",.ref CM,false,rfl,rfl,fun v h=>h,.non,TX.nm,_,rfl,.inr ⟨rfl,fun H13 s13=>⟨z3,fun kl hkl=>?_⟩⟩⟩⟩⟩
   have s14':=J6 (o:=.lst (bV [false,false,false])) hkl
   have mp:¬ 0 < mo:=fun z=>ne9 z hz
   have sT:=SameT.trans s12 (Same.t (s13.trans s14'))
   rw [ef] at R
   refine ⟨_,rfl,_,_,rfl,rfl,_,rfl,iteD mp ?_⟩
   refine ⟨_,rfl,_,rfl,pa,pb,la9,lb9,oa,ob,ta,tb,S,rfl,DA9.sameT sT,DB9.sameT sT,hz,R,fun H15 s15=>?_⟩
   refine ⟨_,rfl,_,_,rfl,rfl,_,rfl,iteD (by lia) ?_⟩
   obtain ⟨dx,fs,xl,xo,xt,xs',xd,h0,⟨k1,k2,k3,k4,k5,k6⟩,e1,e2,e3,e4,e5⟩:=((LZ.same (s13.trans s14')).same s15).ex
   refine ⟨_,rfl,rfl,_,rfl,iteDT rfl ?_⟩
   refine ⟨_,rfl,z,C,dx,fs,_,rfl,h0,TC.cl,TC.nL,k1,xl,_,rfl,.inr (SqT.of e1),_,rfl,_,_,rfl,rfl,rfl,?_⟩
   have ee:V.int ((iV l).length:Int)=V.int ((S.length:Int) - 1 + 1):=by rw [List.length_map,el];congr 1;lia
   have:=k H15
   rw [show true=decide (V.int ((iV l).length:Int)=V.int ((S.length:Int) - 1 + 1)) from (decide_eq_true ee).symm] at this
   exact this
end
end R48
namespace R48
open PySem L2 Rl
theorem dflt_binds {K:PySem.W.Frag} {x qual:Str} {st:Stmt} {f TD:Addr} {fd:FuncData} {cT:Value} {dT:Option Addr} {nT:Nat} {slT:Array (Option Value)} (F:FunD K x qual st f fd TD) (lT:K.lookup TD=some ⟨cT,dT,.seq #[.none] nT,slT⟩) (ps:List Str)
  (h0:∀ (kV doc pm:Value) (an:Option Addr) (cdv ct:Value) (us:List Value),us.length=ps.length→∃ k,bindArgs (PySem.W.fnOf x qual (J2c st) (J1k st) (Ja st) (.ref TD) kV doc pm an cdv ct) ⟨us,[]⟩=seqItems? (.ref TD) >>= k∧k (some #[.none])=pure (ps.zip us))
  (h1:∀ (kV doc pm:Value) (an:Option Addr) (cdv ct:Value) (us:List Value),(us ++ [Value.none]).length=ps.length→∃ k,bindArgs (PySem.W.fnOf x qual (J2c st) (J1k st) (Ja st) (.ref TD) kV doc pm an cdv ct) ⟨us,[]⟩=seqItems? (.ref TD) >>= k∧k (some #[.none])=pure (ps.zip (us ++ [Value.none]))) :
  Binds K fd ps []∧Binds K fd ps [.none]:=by
 obtain ⟨oc,od,kV,doc,pm,an,cdv,ct,osl,rfl,lk,hcd⟩:=F.ex
 refine ⟨fun s us X hl=>?_,fun s us X hl=>?_⟩
 ·rw [List.append_nil] at hl ⊢
  obtain ⟨k,e1,e2⟩:=h0 kV doc pm an cdv ct us hl
  exact BindsTo.of_defaults (T:=TD) rfl (X _ _ lT) rfl e1 e2
 ·obtain ⟨k,e1,e2⟩:=h1 kV doc pm an cdv ct us hl
  exact BindsTo.of_defaults (T:=TD) rfl (X _ _ lT) rfl e1 e2
abbrev DfI (K:PySem.W.Frag) (x:Str) (st:Stmt) (f:Addr) (od an:Option Addr) (sl:Array (Option Value)) (oc kV dc pm cd ct:Value):Prop:=PySem.W.nsIn K mainGlobals x=some (some (.ref f))∧K.lookup f=some ⟨oc,od,.func (PySem.W.fnOf x x (J2c st) (J1k st) (Ja st) .none kV dc pm an cd ct),sl⟩∧PySem.W.codeIn K cd x=true∧PySem.W.keepIn K (.ref f)=true
abbrev MeI (K:PySem.W.Frag) (C:Addr) (x q:Str) (st:Stmt) (D:Value) (f:Addr) (od an:Option Addr) (sl:Array (Option Value)) (oc kV dc pm cd ct:Value):Prop:=PySem.W.findIn K (.ref C) x=some (some (.ref f))∧PySem.W.isFn K (.ref f)=true∧K.lookup f=some ⟨oc,od,.func (PySem.W.fnOf x q (J2c st) (J1k st) (Ja st) D kV dc pm an cd ct),sl⟩∧PySem.W.codeIn K cd q=true∧PySem.W.keepIn K (.ref f)=true
abbrev NaI (K:PySem.W.Frag) (x:Str) (C:Addr):Prop:=PySem.W.nsIn K mainGlobals x=some (some (.ref C))
abbrev NzI (K:PySem.W.Frag) (x:Str):Prop:=PySem.W.nsIn K mainGlobals x=some none
abbrev FnI (K:PySem.W.Frag) (C:Addr) (x:Str):Prop:=PySem.W.findIn K (.ref C) x=some none
abbrev ClI (K:PySem.W.Frag) (C:Addr):Prop:=PySem.W.plainGet K C Str.empty=true∧PySem.W.hasDictIn K C=true∧PySem.W.plainOver K C=true∧PySem.W.findIn K (.ref C) "__setattr__"=some (some (.builtin "object.__setattr__"))
abbrev MkI (K:PySem.W.Frag) (C:Addr):Prop:=PySem.W.makesIn K C=true∧PySem.W.keepIn K (.ref C)=true
theorem dfn {K:PySem.W.Frag} {h:Heap} {mg:Str→Option Value} (X:K.In h) (G:h.Ns mainGlobals mg) {x:Str} {st:Stmt} {f:Addr} {od an:Option Addr} {sl:Array (Option Value)} {oc kV dc pm cd ct:Value} (d:DfI K x st f od an sl oc kV dc pm cd ct) :
  Fun K x x st f (PySem.W.fnOf x x (J2c st) (J1k st) (Ja st) .none kV dc pm an cd ct)∧mg x=some (.ref f)∧PySem.W.keepIn K (.ref f)=true:=⟨fun_mk d.2.1 d.2.2.1 d.2.2.2,PySem.W.mg_of X G d.1,d.2.2.2⟩
theorem clf {K:PySem.W.Frag} {C:Addr} (d:ClI K C):Cls K C:=⟨d.1,d.2.1,d.2.2.1,d.2.2.2⟩
theorem all_mk {l : PySem.W.OpenLaw} {w : World} {K : PySem.W.Frag} {h : Heap} {mg : Str → Option Value} {fa  CL q0 q1 q2 q3 q4 q7 q8 q9 q10 TB TJ cc cj CTooMany CUnlike C CW : Addr} (X : K.In h) (G : h.Ns mainGlobals mg) (hfa : mg "law" = some (.ref fa))
    {f0 f1 f2 f3 f4 f5 f6 f7 f8 f9 f10 f11 f12 f13 f14 f15 f16 f17 f18 f19 f20 f21 f22 f23 f24 f25 f_LI f_WI : Addr} {od0 an0 od1 an1 od2 an2 od3 an3 od4 an4 od5 an5 od6 an6 od7 an7 od8 an8 od9 an9 od10 an10 od11 an11 od12 an12 od13 an13 od14 an14 od15 an15 od16 an16 od17 an17 od18 an18 od19 an19 od20 an20 od21 an21 od22 an22 od23 an23 od24 an24 od25 an25 od_LI an_LI od_WI an_WI : Option Addr} {sl0 sl1 sl2 sl3 sl4 sl5 sl6 sl7 sl8 sl9 sl10 sl11 sl12 sl13 sl14 sl15 sl16 sl17 sl18 sl19 sl20 sl21 sl22 sl23 sl24 sl25 sl_LI sl_WI : Array (Option Value)} {oc0 kV0 dc0 pm0 cd0 ct0 oc1 kV1 dc1 pm1 cd1 ct1 oc2 kV2 dc2 pm2 cd2 ct2 oc3 kV3 dc3 pm3 cd3 ct3 oc4 kV4 dc4 pm4 cd4 ct4 oc5 kV5 dc5 pm5 cd5 ct5 oc6 kV6 dc6 pm6 cd6 ct6 oc7 kV7 dc7 pm7 cd7 ct7 oc8 kV8 dc8 pm8 cd8 ct8 oc9 kV9 dc9 pm9 cd9 ct9 oc10 kV10 dc10 pm10 cd10 ct10 oc11 kV11 dc11 pm11 cd11 ct11 oc12 kV12 dc12 pm12 cd12 ct12 oc13 kV13 dc13 pm13 cd13 ct13 oc14 kV14 dc14 pm14 cd14 ct14 oc15 kV15 dc15 pm15 cd15 ct15 oc16 kV16 dc16 pm16 cd16 ct16 oc17 kV17 dc17 pm17 cd17 ct17 oc18 kV18 dc18 pm18 cd18 ct18 oc19 kV19 dc19 pm19 cd19 ct19 oc20 kV20 dc20 pm20 cd20 ct20 oc21 kV21 dc21 pm21 cd21 ct21 oc22 kV22 dc22 pm22 cd22 ct22 oc23 kV23 dc23 pm23 cd23 ct23 oc24 kV24 dc24 pm24 cd24 ct24 oc25 kV25 dc25 pm25 cd25 ct25 oc_LI kV_LI dc_LI pm_LI cd_LI ct_LI oc_WI kV_WI dc_WI pm_WI cd_WI ct_WI : Value} {TD : Addr} {dT : Option Addr} {slT : Array (Option Value)} {cT : Value} {nT : Nat}
     {t_MOST_PIECES : Tok}
    (a_L : NaI K "Line" C) (a_W : NaI K "Stretch" CW) (d0 : DfI K "refuse_lengths" sRefL f0 od0 an0 sl0 oc0 kV0 dc0 pm0 cd0 ct0) (d1 : DfI K "refuse_order" sRefO f1 od1 an1 sl1 oc1 kV1 dc1 pm1 cd1 ct1) (d2 : DfI K "refuse_turned" sRefT f2 od2 an2 sl2 oc2 kV2 dc2 pm2 cd2 ct2) (d3 : DfI K "turns_told" sTold f3 od3 an3 sl3 oc3 kV3 dc3 pm3 cd3 ct3) (d4 : DfI K "first_places" sFirst f4 od4 an4 sl4 oc4 kV4 dc4 pm4 cd4 ct4) (d5 : DfI K "stretches_of" sStrOf f5 od5 an5 sl5 oc5 kV5 dc5 pm5 cd5 ct5) (d6 : DfI K "first_goes" sFirstG f6 od6 an6 sl6 oc6 kV6 dc6 pm6 cd6 ct6) (d7 : DfI K "last_goes" sLastG f7 od7 an7 sl7 oc7 kV7 dc7 pm7 cd7 ct7) (d8 : DfI K "go_together" sGoTog f8 od8 an8 sl8 oc8 kV8 dc8 pm8 cd8 ct8) (d9 : DfI K "made_one" sMade1 f9 od9 an9 sl9 oc9 kV9 dc9 pm9 cd9 ct9) (d10 : DfI K "longest" J5s f10 od10 an10 sl10 oc10 kV10 dc10 pm10 cd10 ct10) (d11 : DfI K "line_of" sLineOf f11 od11 an11 sl11 oc11 kV11 dc11 pm11 cd11 ct11) (d12 : DfI K "parts_between" sPartsB f12 od12 an12 sl12 oc12 kV12 dc12 pm12 cd12 ct12) (d13 : DfI K "joined_stretches" sJoinS f13 od13 an13 sl13 oc13 kV13 dc13 pm13 cd13 ct13) (d14 : DfI K "line_within" sLineW f14 od14 an14 sl14 oc14 kV14 dc14 pm14 cd14 ct14) (d15 : DfI K "joined" sJoined f15 od15 an15 sl15 oc15 kV15 dc15 pm15 cd15 ct15) (d16 : DfI K "_law_cell" sCell f16 od16 an16 sl16 oc16 kV16 dc16 pm16 cd16 ct16) (d17 : DfI K "_law_drawn" sDrawn f17 od17 an17 sl17 oc17 kV17 dc17 pm17 cd17 ct17) (d18 : DfI K "_law_goes" sLGoes f18 od18 an18 sl18 oc18 kV18 dc18 pm18 cd18 ct18) (d19 : DfI K "_law_comes" sLComes f19 od19 an19 sl19 oc19 kV19 dc19 pm19 cd19 ct19) (d20 : DfI K "_law_line" sLLine f20 od20 an20 sl20 oc20 kV20 dc20 pm20 cd20 ct20) (d21 : DfI K "_law_fitted" sFitted f21 od21 an21 sl21 oc21 kV21 dc21 pm21 cd21 ct21) (d22 : DfI K "_law_starts" sStarts f22 od22 an22 sl22 oc22 kV22 dc22 pm22 cd22 ct22) (d23 : DfI K "_law_alone" sAlone f23 od23 an23 sl23 oc23 kV23 dc23 pm23 cd23 ct23) (d24 : DfI K "_law_parted" sParted f24 od24 an24 sl24 oc24 kV24 dc24 pm24 cd24 ct24) (d25 : DfI K "law" sLaw f25 od25 an25 sl25 oc25 kV25 dc25 pm25 cd25 ct25) (me_LI : MeI K C "__init__" "Line.__init__" sInit (.ref TD) f_LI od_LI an_LI sl_LI oc_LI kV_LI dc_LI pm_LI cd_LI ct_LI) (lT : K.lookup TD = some ⟨cT, dT, .seq #[.none] nT, slT⟩) (me_WI : MeI K CW "__init__" "Stretch.__init__" sSrInit .none f_WI od_WI an_WI sl_WI oc_WI kV_WI dc_WI pm_WI cd_WI ct_WI) (pg_L : ClI K C) (mk_L : MkI K C) (n_L_lengths : FnI K C "lengths") (n_L_order : FnI K C "order") (n_L_turned : FnI K C "turned") (n_L_starts : FnI K C "starts") (n_L_laid : FnI K C "laid") (n_L_size : FnI K C "size") (pg_W : ClI K CW) (mk_W : MkI K CW) (n_W_first : FnI K CW "first") (n_W_length : FnI K CW "length") (n_W_laid : FnI K CW "laid") (n_W_turned : FnI K CW "turned") (z_len : NzI K "len") (z_min : NzI K "min") (z_max : NzI K "max") (z_sum : NzI K "sum") (z_sorted : NzI K "sorted") (z_list : NzI K "list") (z_range : NzI K "range") (z_tuple : NzI K "tuple") (z_isinstance : NzI K "isinstance") (z_enumerate : NzI K "enumerate") (z_abs : NzI K "abs") (z_ValueError : NzI K "ValueError") (v_MOST_PIECES : PySem.W.nsIn K mainGlobals "MOST_PIECES" = some (some (.int 24 t_MOST_PIECES))) (aTooMany : PySem.W.nsIn K mainGlobals "TooMany" = some (some (.ref CTooMany))) (xTooMany : PySem.W.excIn K CTooMany bmV "ValueError.__new__" = true) (aUnlike : PySem.W.nsIn K mainGlobals "Unlike" = some (some (.ref CUnlike))) (xUnlike : PySem.W.excIn K CUnlike bmV "ValueError.__new__" = true) (hcc0 : cd11 = .ref cc) (hcd0 : PySem.W.codeHdIn K cc TB = true) (hcc1 : cd13 = .ref cj) (hcd1 : PySem.W.codeHdIn K cj TJ = true) (aLE : PySem.W.nsIn K mainGlobals "LineError" = some (some (.ref CL))) (sget : PySem.W.specialIn K (.builtin "object.__class__") "__get__" = some (some (.builtin "getset_descriptor.__get__"))) (stk : PySem.W.takesIn K (.builtin "object.__class__") = some true) (aK0 : PySem.W.nsIn K mainGlobals "BadLengths" = some (some (.ref q0))) (aK1 : PySem.W.nsIn K mainGlobals "BadOrder" = some (some (.ref q1))) (aK2 : PySem.W.nsIn K mainGlobals "BadTurned" = some (some (.ref q2))) (aK3 : PySem.W.nsIn K mainGlobals "Outside" = some (some (.ref q3))) (aK4 : PySem.W.nsIn K mainGlobals "BadText" = some (some (.ref q4))) (aK7 : PySem.W.nsIn K mainGlobals "BadAddress" = some (some (.ref q7))) (aK8 : PySem.W.nsIn K mainGlobals "BadArches" = some (some (.ref q8))) (aK9 : PySem.W.nsIn K mainGlobals "Loose" = some (some (.ref q9))) (aK10 : PySem.W.nsIn K mainGlobals "BadRow" = some (some (.ref q10))) (oga : PySem.W.findIn K (.ref CTooMany) "__getattribute__" = some (some (.builtin "BaseException.__getattribute__"))) (ono : PySem.W.findIn K (.ref CTooMany) "__getattr__" = some none) (ocl : PySem.W.findIn K (.ref CTooMany) "__class__" = some (some (.builtin "object.__class__"))) (omo : PySem.W.mroIn K CTooMany (.type "object") = some true) (omb : PySem.W.mroIn K CTooMany (.type "BaseException") = some true) (ohd : PySem.W.hasDictIn K CTooMany = true) (oxm : PySem.W.exmOne K (.ref CTooMany) (.ref CL) = some true) (ok0 : PySem.W.kitOne K (.ref CTooMany) (.ref q0) = some false) (ok1 : PySem.W.kitOne K (.ref CTooMany) (.ref q1) = some false) (ok2 : PySem.W.kitOne K (.ref CTooMany) (.ref q2) = some false) (ok3 : PySem.W.kitOne K (.ref CTooMany) (.ref q3) = some false) (ok4 : PySem.W.kitOne K (.ref CTooMany) (.ref q4) = some false) (ok5 : PySem.W.kitOne K (.ref CTooMany) (.ref CTooMany) = some true) (ok6 : PySem.W.kitOne K (.ref CTooMany) (.ref CUnlike) = some false) (ok7 : PySem.W.kitOne K (.ref CTooMany) (.ref q7) = some false) (ok8 : PySem.W.kitOne K (.ref CTooMany) (.ref q8) = some false) (ok9 : PySem.W.kitOne K (.ref CTooMany) (.ref q9) = some false) (ok10 : PySem.W.kitOne K (.ref CTooMany) (.ref q10) = some false) (okl : PySem.W.kitOne K (.ref CTooMany) (.ref CL) = some true) (okv : PySem.W.kitOne K (.ref CTooMany) (.type "ValueError") = some true) (uga : PySem.W.findIn K (.ref CUnlike) "__getattribute__" = some (some (.builtin "BaseException.__getattribute__"))) (uno : PySem.W.findIn K (.ref CUnlike) "__getattr__" = some none) (ucl : PySem.W.findIn K (.ref CUnlike) "__class__" = some (some (.builtin "object.__class__"))) (umo : PySem.W.mroIn K CUnlike (.type "object") = some true) (umb : PySem.W.mroIn K CUnlike (.type "BaseException") = some true) (uhd : PySem.W.hasDictIn K CUnlike = true) (uxm : PySem.W.exmOne K (.ref CUnlike) (.ref CL) = some true) (uk0 : PySem.W.kitOne K (.ref CUnlike) (.ref q0) = some false) (uk1 : PySem.W.kitOne K (.ref CUnlike) (.ref q1) = some false) (uk2 : PySem.W.kitOne K (.ref CUnlike) (.ref q2) = some false) (uk3 : PySem.W.kitOne K (.ref CUnlike) (.ref q3) = some false) (uk4 : PySem.W.kitOne K (.ref CUnlike) (.ref q4) = some false) (uk5 : PySem.W.kitOne K (.ref CUnlike) (.ref CTooMany) = some false) (uk6 : PySem.W.kitOne K (.ref CUnlike) (.ref CUnlike) = some true) (uk7 : PySem.W.kitOne K (.ref CUnlike) (.ref q7) = some false) (uk8 : PySem.W.kitOne K (.ref CUnlike) (.ref q8) = some false) (uk9 : PySem.W.kitOne K (.ref CUnlike) (.ref q9) = some false) (uk10 : PySem.W.kitOne K (.ref CUnlike) (.ref q10) = some false) (ukl : PySem.W.kitOne K (.ref CUnlike) (.ref CL) = some true) (ukv : PySem.W.kitOne K (.ref CUnlike) (.type "ValueError") = some true) (nk0 : PySem.W.kitOne K (.type "NoneType") (.ref q0) = some false) (nk1 : PySem.W.kitOne K (.type "NoneType") (.ref q1) = some false) (nk2 : PySem.W.kitOne K (.type "NoneType") (.ref q2) = some false) (nk3 : PySem.W.kitOne K (.type "NoneType") (.ref q3) = some false) (nk4 : PySem.W.kitOne K (.type "NoneType") (.ref q4) = some false) (nk5 : PySem.W.kitOne K (.type "NoneType") (.ref CTooMany) = some false) (nk6 : PySem.W.kitOne K (.type "NoneType") (.ref CUnlike) = some false) (nk7 : PySem.W.kitOne K (.type "NoneType") (.ref q7) = some false) (nk8 : PySem.W.kitOne K (.type "NoneType") (.ref q8) = some false) (nk9 : PySem.W.kitOne K (.type "NoneType") (.ref q9) = some false) (nk10 : PySem.W.kitOne K (.type "NoneType") (.ref q10) = some false) (nt : (TB != TJ) = true)
    : (∀ P ∈ [TB, TJ], ∃ c, PySem.W.codeHdIn K c P = true) ∧ ∃ fd : FuncData, (∀ (s : Shared) (v : Value), BindsTo s fd ⟨[v], []⟩ [("script", v)]) ∧ ∀ base : Heap, K.In base → base.Ns mainGlobals mg → (∀ P ∈ [TB, TJ], BltAt base mg P) → FnOk l.prog w K mg base CX0 8 fa fd ["script"] (spLaw K TB TJ) := by
  refine ⟨fun P hP => by
    simp only [List.mem_cons, List.not_mem_nil, or_false] at hP
    rcases hP with rfl | rfl
    · exact ⟨_, hcd0⟩
    · exact ⟨_, hcd1⟩, ?_⟩
  have e := hfa.symm.trans (PySem.W.mg_of X G d25.1)
  cases e
  obtain ⟨F0, m0, k0⟩ := dfn X G d0
  have b0 := F0.binds (ps := ["lengths"]) fun | _, _, _, _, _, _, [_], _ => rfl
  obtain ⟨F1, m1, k1⟩ := dfn X G d1
  have b1 := F1.binds (ps := ["order", "pieces"]) fun | _, _, _, _, _, _, [_, _], _ => rfl
  obtain ⟨F2, m2, k2⟩ := dfn X G d2
  have b2 := F2.binds (ps := ["turned", "pieces"]) fun | _, _, _, _, _, _, [_, _], _ => rfl
  obtain ⟨F3, m3, k3⟩ := dfn X G d3
  have b3 := F3.binds (ps := ["turned", "pieces"]) fun | _, _, _, _, _, _, [_, _], _ => rfl
  obtain ⟨F4, m4, k4⟩ := dfn X G d4
  have b4 := F4.binds (ps := ["lengths", "order"]) fun | _, _, _, _, _, _, [_, _], _ => rfl
  obtain ⟨F5, m5, k5⟩ := dfn X G d5
  have b5 := F5.binds (ps := ["line"]) fun | _, _, _, _, _, _, [_], _ => rfl
  obtain ⟨F6, m6, k6⟩ := dfn X G d6
  have b6 := F6.binds (ps := ["stretch"]) fun | _, _, _, _, _, _, [_], _ => rfl
  obtain ⟨F7, m7, k7⟩ := dfn X G d7
  have b7 := F7.binds (ps := ["stretch"]) fun | _, _, _, _, _, _, [_], _ => rfl
  obtain ⟨F8, m8, k8⟩ := dfn X G d8
  have b8 := F8.binds (ps := ["one", "two"]) fun | _, _, _, _, _, _, [_, _], _ => rfl
  obtain ⟨F9, m9, k9⟩ := dfn X G d9
  have b9 := F9.binds (ps := ["one", "two"]) fun | _, _, _, _, _, _, [_, _], _ => rfl
  obtain ⟨F10, m10, k10⟩ := dfn X G d10
  have b10 := F10.binds (ps := ["stretches"]) fun | _, _, _, _, _, _, [_], _ => rfl
  obtain ⟨F11, m11, k11⟩ := dfn X G d11
  have b11 := F11.binds (ps := ["stretches"]) fun | _, _, _, _, _, _, [_], _ => rfl
  obtain ⟨F12, m12, k12⟩ := dfn X G d12
  have b12 := F12.binds (ps := ["one", "two"]) fun | _, _, _, _, _, _, [_, _], _ => rfl
  obtain ⟨F13, m13, k13⟩ := dfn X G d13
  have b13 := F13.binds (ps := ["ones", "twos"]) fun | _, _, _, _, _, _, [_, _], _ => rfl
  obtain ⟨F14, m14, k14⟩ := dfn X G d14
  have b14 := F14.binds (ps := ["stretches"]) fun | _, _, _, _, _, _, [_], _ => rfl
  obtain ⟨F15, m15, k15⟩ := dfn X G d15
  have b15 := F15.binds (ps := ["one", "two"]) fun | _, _, _, _, _, _, [_, _], _ => rfl
  obtain ⟨F16, m16, k16⟩ := dfn X G d16
  have b16 := F16.binds (ps := ["script", "k"]) fun | _, _, _, _, _, _, [_, _], _ => rfl
  obtain ⟨F17, m17, k17⟩ := dfn X G d17
  have b17 := F17.binds (ps := ["script", "at", "many", "top"]) fun | _, _, _, _, _, _, [_, _, _, _], _ => rfl
  obtain ⟨F18, m18, k18⟩ := dfn X G d18
  have b18 := F18.binds (ps := ["drawn", "x"]) fun | _, _, _, _, _, _, [_, _], _ => rfl
  obtain ⟨F19, m19, k19⟩ := dfn X G d19
  have b19 := F19.binds (ps := ["drawn", "y"]) fun | _, _, _, _, _, _, [_, _], _ => rfl
  obtain ⟨F20, m20, k20⟩ := dfn X G d20
  have b20 := F20.binds (ps := ["drawn"]) fun | _, _, _, _, _, _, [_], _ => rfl
  obtain ⟨F21, m21, k21⟩ := dfn X G d21
  have b21 := F21.binds (ps := ["drawn", "size"]) fun | _, _, _, _, _, _, [_, _], _ => rfl
  obtain ⟨F22, m22, k22⟩ := dfn X G d22
  have b22 := F22.binds (ps := ["lengths"]) fun | _, _, _, _, _, _, [_], _ => rfl
  obtain ⟨F23, m23, k23⟩ := dfn X G d23
  have b23 := F23.binds (ps := ["e"]) fun | _, _, _, _, _, _, [_], _ => rfl
  obtain ⟨F24, m24, k24⟩ := dfn X G d24
  have b24 := F24.binds (ps := ["one", "two"]) fun | _, _, _, _, _, _, [_, _], _ => rfl
  obtain ⟨F25, m25, k25⟩ := dfn X G d25
  have b25 := F25.binds (ps := ["script"]) fun | _, _, _, _, _, _, [_], _ => rfl
  have mg_L := PySem.W.mg_of X G a_L
  have cl_L := clf pg_L
  have F_LI : FunD K "__init__" "Line.__init__" sInit f_LI _ TD := ⟨⟨oc_LI, od_LI, kV_LI, dc_LI, pm_LI, an_LI, cd_LI, ct_LI, sl_LI, rfl, me_LI.2.2.1, me_LI.2.2.2.1⟩, me_LI.2.2.2.2⟩
  obtain ⟨b_LI, b1_LI⟩ := dflt_binds F_LI lT ["self", "lengths", "order", "turned"] (fun _ _ _ _ _ _ us hl => match us, hl with | [_, _, _, _], _ => ⟨_, rfl, rfl⟩) (fun _ _ _ _ _ _ us hl => match us, (show us.length = 3 by simpa using hl) with | [_, _, _], _ => ⟨_, rfl, rfl⟩)
  have mg_W := PySem.W.mg_of X G a_W
  have cl_W := clf pg_W
  have F_WI := fun_mk me_WI.2.2.1 me_WI.2.2.2.1 me_WI.2.2.2.2
  have b_WI := F_WI.binds (ps := ["self", "first", "length", "laid", "turned"]) fun | _, _, _, _, _, _, [_, _, _, _, _], _ => rfl
  have T0 : Txt K mg := ⟨PySem.W.mg_none_of X G z_len, PySem.W.mg_none_of X G z_min, PySem.W.mg_none_of X G z_sum, PySem.W.mg_none_of X G z_sorted, PySem.W.mg_none_of X G z_list, PySem.W.mg_none_of X G z_range, PySem.W.mg_none_of X G z_tuple, ⟨_, PySem.W.mg_of X G v_MOST_PIECES⟩⟩
  have T : TxtR mg := ⟨PySem.W.mg_none_of X G z_len, PySem.W.mg_none_of X G z_sum, PySem.W.mg_none_of X G z_tuple, PySem.W.mg_none_of X G z_list, PySem.W.mg_none_of X G z_range⟩
  have TC : TxtC K mg C := ⟨cl_L, n_L_lengths, n_L_order, n_L_turned, n_L_starts, n_L_laid, n_L_size⟩
  have TTooMany : TxtX K mg "TooMany" CTooMany := ⟨PySem.W.mg_of X G aTooMany, xTooMany⟩
  have TUnlike : TxtX K mg "Unlike" CUnlike := ⟨PySem.W.mg_of X G aUnlike, xUnlike⟩
  refine ⟨PySem.W.fnOf "law" "law" (J2c sLaw) (J1k sLaw) (Ja sLaw) .none kV25 dc25 pm25 an25 cd25 ct25, fun s v => .of_eq rfl, fun base _ _ hBL => ?_⟩
  have GF := ok_first (P := l.prog) (w := w) (base := base) F4 T
  have GI := ok_init (P := l.prog) (w := w) (base := base) F_LI T0 TC (ok_refL F0 T0) b0 m0 k0 (ok_refO F1 T0) b1 m1 k1 (ok_told F3 T0 F2 b2 m2) b3 m3 k3 GF b4 m4 k4
  have ML : Mk K C f_LI := ⟨mk_L.1, me_LI.1, me_LI.2.1, mk_L.2⟩
  have GC := ok_cell (P := l.prog) (w := w) (base := base) F16 T
  have TW : TxtSr K CW := ⟨cl_W, n_W_first, n_W_length, n_W_laid, n_W_turned⟩
  have GSR := ok_sr (P := l.prog) (w := w) (mg := mg) (base := base) F_WI TW
  have MSR : Mk K CW f_WI := ⟨mk_W.1, me_WI.1, me_WI.2.1, mk_W.2⟩
  have GFG := ok_firstG (P := l.prog) (w := w) (mg := mg) (base := base) F6 TW
  have GLG := ok_lastG (P := l.prog) (w := w) (mg := mg) (base := base) F7 TW
  have GGT := ok_goTog F8 (PySem.W.mg_none_of X G z_abs) GFG b6 m6 k6 GLG b7 m7 k7
  have GMO := ok_made1 F9 TW (PySem.W.mg_none_of X G z_min) MSR GSR b_WI mg_W
  have GSO := ok_strOf F5 TC (PySem.W.mg_none_of X G z_enumerate) MSR GSR b_WI mg_W
  have GLN := ok_longest F10 GGT b8 m8 k8 GMO b9 m9 k9
  have BL0 := hBL TB (by simp)
  have BL1 := hBL TJ (by simp)
  have GLO := ok_lineOf F11 T (PySem.W.mg_none_of X G z_sorted) TW hcc0 hcd0 BL0 ML GI b_LI mg_L
  have TBJ : TB ≠ TJ := by intro e; rw [e] at nt; simp at nt
  have GPB := ok_partsB F12 TW (PySem.W.mg_none_of X G z_max) (PySem.W.mg_none_of X G z_min) MSR GSR b_WI mg_W
  have GJS := ok_joinS F13 T (PySem.W.mg_none_of X G z_sorted) TW hcc1 hcd1 BL1 GPB b12 m12 k12 GLN b10 m10 k10
  have GLW := ok_lineWX F14 T (PySem.W.mg_of X G v_MOST_PIECES) TTooMany GLO b11 m11 k11
  have GJD := ok_joinedX F15 TC TBJ TUnlike GLW b14 m14 k14 GJS b13 m13 k13 GSO b5 m5 k5
  have GD := ok_drawn9 F17 T GC b16 m16 k16
  have GLg := ok_lgoes (P := l.prog) (w := w) (base := base) F18 T
  have GLc := ok_lcomes (P := l.prog) (w := w) (base := base) F19 T
  have GLn := ok_lline F20 T ML GI b_LI mg_L
  have GFi := ok_fitted (P := l.prog) (w := w) (base := base) F21 T
  have GSt := ok_starts (P := l.prog) (w := w) (mg := mg) (base := base) F22
  have GPd := ok_parted F24 T (PySem.W.mg_none_of X G z_max) (PySem.W.mg_none_of X G z_abs) GSt b22 m22 k22 GLc b19 m19 k19 GLg b18 m18 k18
  obtain ⟨cs, hcs⟩ : ∃ cs : Nat → Addr, cs = fun i => [q0, q1, q2, q3, q4, CTooMany, CUnlike, q7, q8, q9, q10].getD i 0 := ⟨_, rfl⟩
  have TA : TxtA mg CL cs := by
    subst hcs
    refine ⟨fun i hi => ?_, PySem.W.mg_of X G aLE, PySem.W.mg_none_of X G z_ValueError, PySem.W.mg_none_of X G z_isinstance⟩
    match i, hi with
    | 0, _ => exact PySem.W.mg_of X G aK0
    | 1, _ => exact PySem.W.mg_of X G aK1
    | 2, _ => exact PySem.W.mg_of X G aK2
    | 3, _ => exact PySem.W.mg_of X G aK3
    | 4, _ => exact PySem.W.mg_of X G aK4
    | 5, _ => exact PySem.W.mg_of X G aTooMany
    | 6, _ => exact PySem.W.mg_of X G aUnlike
    | 7, _ => exact PySem.W.mg_of X G aK7
    | 8, _ => exact PySem.W.mg_of X G aK8
    | 9, _ => exact PySem.W.mg_of X G aK9
    | 10, _ => exact PySem.W.mg_of X G aK10
    | n + 11, h => exact absurd h (by omega)
  have A5 : AloneK K CTooMany CL cs (fun i => i == 5) := by
    subst hcs
    refine ⟨⟨oga, ono, ocl, sget, stk, omo, omb, ohd⟩, fun i hi => ?_, okl, okv, by decide⟩
    match i, hi with
    | 0, _ => exact ok0
    | 1, _ => exact ok1
    | 2, _ => exact ok2
    | 3, _ => exact ok3
    | 4, _ => exact ok4
    | 5, _ => exact ok5
    | 6, _ => exact ok6
    | 7, _ => exact ok7
    | 8, _ => exact ok8
    | 9, _ => exact ok9
    | 10, _ => exact ok10
    | n + 11, h => exact absurd h (by omega)
  have A6 : AloneK K CUnlike CL cs (fun i => i == 6) := by
    subst hcs
    refine ⟨⟨uga, uno, ucl, sget, stk, umo, umb, uhd⟩, fun i hi => ?_, ukl, ukv, by decide⟩
    match i, hi with
    | 0, _ => exact uk0
    | 1, _ => exact uk1
    | 2, _ => exact uk2
    | 3, _ => exact uk3
    | 4, _ => exact uk4
    | 5, _ => exact uk5
    | 6, _ => exact uk6
    | 7, _ => exact uk7
    | 8, _ => exact uk8
    | 9, _ => exact uk9
    | 10, _ => exact uk10
    | n + 11, h => exact absurd h (by omega)
  have NK : NoneK K cs := by
    subst hcs
    refine ⟨fun i hi => ?_⟩
    match i, hi with
    | 0, _ => exact nk0
    | 1, _ => exact nk1
    | 2, _ => exact nk2
    | 3, _ => exact nk3
    | 4, _ => exact nk4
    | 5, _ => exact nk5
    | 6, _ => exact nk6
    | 7, _ => exact nk7
    | 8, _ => exact nk8
    | 9, _ => exact nk9
    | 10, _ => exact nk10
    | n + 11, h => exact absurd h (by omega)
  have GAL := ok_alone (P := l.prog) (w := w) (base := base) F23 TA NK
  have TX : Tx48 K mg CL CUnlike CTooMany cs := ⟨(PySem.W.mg_none_of X G z_isinstance), PySem.W.mg_of X G aLE, TUnlike.mg, TTooMany.mg, uxm, oxm, ⟨_, A6⟩, ⟨_, A5⟩, uk6, uk5, ok6, ok5, nk6, nk5⟩
  exact ok_law F25 T TC TX GC b16 m16 k16 GD b17 m17 k17 GFi b21 m21 k21 GLn b20 m20 k20 GJD b15 m15 k15 GAL b23 m23 k23 GPd b24 m24 k24
theorem walk {l:PySem.W.OpenLaw} {q:Program} {loose:List Str} {XP:(Str→Option Value)→Heap→Prop} {YP:World→Heap→Prop} {d:DefRec} {K:Params→PySem.W.Frag} {TB TJ:Addr} (hn:l.most=some 63) (hdf:d.params.defaults=[])
  (hY:∀ (w:World) (h:Heap),YP w h→(K w.params).In h∧∀ P∈[TB,TJ],h.get? P=some (PySem.W.tabObj #[]))
  (hP:∀ (w:World),∀ P∈[TB,TJ],(K w.params).lookup P=none)
  (F:∀ (w:World) (mg:Str→Option Value) (fa:Addr) (h:Heap),(K w.params).In h→h.Ns mainGlobals mg→mg d.name=some (.ref fa)→
   (∀ P∈[TB,TJ],∃ c,PySem.W.codeHdIn (K w.params) c P=true)∧∃ fd:FuncData,(∀ (s:Shared) (u:Value),BindsTo s fd ⟨[u],[]⟩ [("script",u)])∧∀ base:Heap,(K w.params).In base→base.Ns mainGlobals mg→(∀ P∈[TB,TJ],BltAt base mg P)→FnOk l.prog w (K w.params) mg base CX0 8 fa fd ["script"] (spLaw (K w.params) TB TJ)) :
  PySem.W.WalkO q loose XP YP l.row.toRowW d [] (fun f vs=>PySem.call f vs) :=
 L2.walk_ofU (n:=63) (k:=8) (x:="script") (CX:=fun _=>CX0) (sp:=fun w=>spLaw (K w.params) TB TJ) (Ps:=[TB,TJ]) hn (by decide) hdf ⟨rfl,by decide,by decide⟩ hY hP F (fun _ _ a ns hl hT hS=>⟨a,ns,rfl,hS,hl,TabOk.empty (hT TB (by simp)),TabOk.empty (hT TJ (by simp)),fun _=>rfl⟩) fun _ _ _ _ _ z=>z
end R48
open PySem PySem.W PyProof.Rows
namespace PySem.W.Fast
def tw17959407252480137685:=()
def tw11095859109633324699:=()
def tw2625850196710647468:=()
def tw2285640111646210882:=()
def tw12733145000448904872:=()
def tw4314220856027244445:=()
def tw16231094118974233623:=()
def tw7051786043890798690:=()
def tw11701243230562089435:=()
def tw6462914777746567637:=()
def tw15180550408088748022:=()
def tw18058534903622955438:=()
def tw11909239793231276335:=()
def tw9735080606533191558:=()
def tw12297136354821906447:=()
def tw18426781433089898690:=()
end PySem.W.Fast
namespace PySem.W.Fast
def tw829526424520937030:=()
def tw5154013133730502742:=()
def tw12974765236375231280:=()
def tw8428306150713039142:=()
def tw7397457159019178571:=()
def tw366758015953070249:=()
def tw8130928222886360251:=()
def tw16494574454322135517:=()
def tw17261896166784079752:=()
def tw15935440447142561622:=()
def tw5935762358412433638:=()
def tw808789384971123206:=()
def tw1132952219699489761:=()
def tw3775093144825078808:=()
def tw6903985863124183355:=()
def tw17436097137293540321:=()
def tw6114052900282394864:=()
def tw6272231448386684422:=()
def tw15242645665715351113:=()
def tw13775344877901326418:=()
def tw5113757900739712494:=()
def tw10169210909599466831:=()
def tw190322308421760526:=()
def tw15095872928524752757:=()
def tw11873644266772532381:=()
def tw11534032777138247713:=()
def tw17189164496776666358:=()
def tw7739872861396022658:=()
def tw3587385431479086334:=()
def tw15447100696109114233:=()
def tw8789717550203902111:=()
def tw11235449998124607219:=()
def tw9231237897061885317:=()
def tw14587036896633845702:=()
def tw17525284737655555731:=()
def tw18078329128308809145:=()
def tw10631903830332558830:=()
def tw6172466537480147652:=()
def tw3435534463668147959:=()
def tw10781288966580773816:=()
def tw14642730039864826568:=()
def tw102509948608800536:=()
def tw13867573566567181880:=()
def tw9643271685120742175:=()
def tw9403703433784988827:=()
def tw13795153879373728422:=()
def tw15135623208698386515:=()
def tw13025279040657233450:=()
def tw5171793929364419731:=()
def tw3254604890259449502:=()
def tw6110653512226250469:=()
def tw17469826272717521562:=()
def tw8553816172966572119:=()
def tw16308568188752428760:=()
def tw5087761496833518737:=()
def tw9509061585097750631:=()
def tw13866842826215107323:=()
def tw513157834680341595:=()
def tw5553537914499189542:=()
def tw13403296569568514308:=()
def tw9547463687394541714:=()
def tw17964415516326996628:=()
def tw17905518274107993069:=()
def tw13316773084549488513:=()
def tw9458313764002100367:=()
def tw14318462572984136016:=()
def tw4483290409149124883:=()
def tw4170396697026925661:=()
def tw12207031892192466575:=()
def tw16711582966593114434:=()
def tw7129574954422231837:=()
def tw2914703206100741566:=()
def tw16026823211565756466:=()
def tw3901867202382859267:=()
def tw15599351589807710830:=()
def tw3292611882228680114:=()
def tw1749837668856121896:=()
def tw12411183384949394421:=()
def tw5172163400995888118:=()
def tw8594726625652982323:=()
def tw4920517397767170790:=()
def tw15248456011243239862:=()
def tw17110725460754956343:=()
def tw9650135391947492155:=()
def tw15822660911628610823:=()
def tw7707478414960807425:=()
def tw7889667946744522431:=()
def tw15492662480335996736:=()
def tw7845617760258706784:=()
def tw12169884734959623248:=()
def tw18185551834683318290:=()
def tw18261470640278731826:=()
def tw1367789761390746656:=()
def tw15440496729773643167:=()
def tw1070623679151546733:=()
def tw8549512366300188746:=()
def tw4246082409147607733:=()
def tw4255018251250412079:=()
def tw5586187930343734397:=()
def tw3837980895703282008:=()
def tw9979864087331287948:=()
def tw13995550486779876669:=()
def tw16208985087509148473:=()
def tw17405639504864507580:=()
def tw14899191471210924607:=()
def tw3687373451950995084:=()
def tw12497989804063934374:=()
def tw14730996173696902189:=()
def tw13027972769446998969:=()
def tw2764918839650520944:=()
def tw14092378408613017782:=()
def tw2308159138990704028:=()
def tw2448628067894339775:=()
def tw1677306380510366889:=()
def tw12278273568743744093:=()
def tw6025321936389223360:=()
def tw9058359534591965936:=()
def tw627806828446874847:=()
def tw17401669556369093923:=()
def tw6022852419962408540:=()
def tw1401616985525876550:=()
def tw3112313155818205349:=()
def tw12040204569167258852:=()
def tw6063931174636660646:=()
def tw6617742795605264946:=()
def tw8154041589774495639:=()
def tw436832604255910588:=()
def tw14975271890773812719:=()
def tw8730884881593597737:=()
def tw13391621228553448547:=()
def tw6872922337978251606:=()
def tw683234911842909934:=()
def tw3915857715176904782:=()
def tw3519341224125272165:=()
def tw12270348442626748644:=()
def tw14282217521757617654:=()
def tw10288533759974022693:=()
def tw6186358450648053684:=()
def tw8292966759435983434:=()
def tw2911718827456207888:=()
def tw17729367502050763528:=()
def tw9128631159184951625:=()
def tw2585877295062981761:=()
def tw10329780459489298666:=()
def tw162303619429675709:=()
def tw9412995265411529296:=()
def tw1999439323467333005:=()
def tw3268913378065449171:=()
def tw13504367444745916786:=()
def tw7835927591435841579:=()
def tw3162651262950485611:=()
def tw1286605647971688149:=()
def tw2070844988907571715:=()
def tw5230112122775877958:=()
def tw4472617399599701316:=()
def tw4732090675649951817:=()
def tw475445887219693416:=()
def tw3465033505469480120:=()
def tw1586810833420902247:=()
def tw1373189401954925945:=()
def tw17932150688743338160:=()
def tw11746146149663240689:=()
def tw5975980415671128327:=()
def tw15253699790682476841:=()
def tw11545761949996080117:=()
def tw6260450331956606213:=()
def tw12855576639014631863:=()
def tw12165666168922105688:=()
def tw15973851378972419346:=()
def tw341353255802687375:=()
def tw2510510952585639609:=()
def tw15357209955120833717:=()
def tw15323963998645365481:=()
def tw6127569660950017907:=()
def tw13576164961731073497:=()
def tw7476472511978077707:=()
def tw3201085188791949172:=()
def tw4123966742046230749:=()
def tw18396080593972201030:=()
def tw14689075395054958636:=()
def tw4665710664368840678:=()
def tw15993642034731183831:=()
def tw2424425904504462871:=()
def tw14169192612219326796:=()
def tw17786863908311488946:=()
def tw3899727209292915311:=()
def tw13797399318969813448:=()
def tw11982640018899792756:=()
def tw11039256374927672155:=()
def tw6298352204084705061:=()
def tw8152181656067878764:=()
def tw13231717002638868934:=()
def tw9047049235220718668:=()
def tw155445628178770857:=()
def tw16325373020844446561:=()
def tw6644720417340538027:=()
def tw10218539400446021862:=()
def tw14674673129721365054:=()
def tw13441078691967252333:=()
def tw13605186800057505169:=()
def tw15315048441484880263:=()
def tw2153671511787577721:=()
def tw14734133278519425547:=()
def tw5832143095721956620:=()
def tw8423946237269716484:=()
def tw4040051445977507128:=()
def tw18413968106894239876:=()
def tw8145497026007164188:=()
def tw15071606845435591272:=()
def tw8576408794206903827:=()
def tw17941072839088434173:=()
def tw10625838260544597912:=()
end PySem.W.Fast
set_option maxRecDepth 100000 in
set_option maxHeartbeats 0 in
theorem PySem.Challenge.cw_relaid_k48_joins_refused_holds : PySem.Challenge.rw_relaid_k48_joins_refused.Holds := by
  w_on; o_law; k_head; (case hw => w_witness2)
  k_fill
  refine R48.walk (l := PySem.Challenge.rw_relaid_k48_joins_refused) rfl rfl (fun w h Y => ⟨PySem.W.km_in_of Y, PySem.W.km_tabs_of Y⟩) ?P ?F
  case P =>
    intro w P hP
    simp only [List.mem_cons, List.not_mem_nil, or_false] at hP
    rcases hP with rfl | rfl
    all_goals kernel_rfl
  case F =>
    intro w mg fa h KX G hmg
    refine' R48.all_mk KX G hmg ?a_L ?a_W ?d0 ?d1 ?d2 ?d3 ?d4 ?d5 ?d6 ?d7 ?d8 ?d9 ?d10 ?d11 ?d12 ?d13 ?d14 ?d15 ?d16 ?d17 ?d18 ?d19 ?d20 ?d21 ?d22 ?d23 ?d24 ?d25 ?me_LI ?lT ?me_WI ?pg_L ?mk_L ?n_L_lengths ?n_L_order ?n_L_turned ?n_L_starts ?n_L_laid ?n_L_size ?pg_W ?mk_W ?n_W_first ?n_W_length ?n_W_laid ?n_W_turned ?z_len ?z_min ?z_max ?z_sum ?z_sorted ?z_list ?z_range ?z_tuple ?z_isinstance ?z_enumerate ?z_abs ?z_ValueError ?v_MOST_PIECES ?aTooMany ?xTooMany ?aUnlike ?xUnlike ?hcc0 ?hcd0 ?hcc1 ?hcd1 ?aLE ?sget ?stk ?aK0 ?aK1 ?aK2 ?aK3 ?aK4 ?aK7 ?aK8 ?aK9 ?aK10 ?oga ?ono ?ocl ?omo ?omb ?ohd ?oxm ?ok0 ?ok1 ?ok2 ?ok3 ?ok4 ?ok5 ?ok6 ?ok7 ?ok8 ?ok9 ?ok10 ?okl ?okv ?uga ?uno ?ucl ?umo ?umb ?uhd ?uxm ?uk0 ?uk1 ?uk2 ?uk3 ?uk4 ?uk5 ?uk6 ?uk7 ?uk8 ?uk9 ?uk10 ?ukl ?ukv ?nk0 ?nk1 ?nk2 ?nk3 ?nk4 ?nk5 ?nk6 ?nk7 ?nk8 ?nk9 ?nk10 ?nt
    case a_L | a_W => (show _ = _; k_is)
    case d0 | d1 | d2 | d3 | d4 | d5 | d6 | d7 | d8 | d9 | d10 | d11 | d12 | d13 | d14 | d15 | d16 | d17 | d18 | d19 | d20 | d21 | d22 | d23 | d24 | d25 => (refine ⟨?_, ?_, ?_, ?_⟩; k_is; k_is; k_is; k_is)
    case me_LI => (refine ⟨?_, ?_, ?_, ?_, ?_⟩; k_is; k_is; k_is; k_is; k_is)
    case lT => k_is
    case me_WI => (refine ⟨?_, ?_, ?_, ?_, ?_⟩; k_is; k_is; k_is; k_is; k_is)
    case pg_L => (refine ⟨?_, ?_, ?_, ?_⟩; k_is; k_is; k_is; k_is)
    case mk_L => (refine ⟨?_, ?_⟩; k_is; k_is)
    case n_L_lengths | n_L_order | n_L_turned | n_L_starts | n_L_laid | n_L_size => (show _ = _; k_is)
    case pg_W => (refine ⟨?_, ?_, ?_, ?_⟩; k_is; k_is; k_is; k_is)
    case mk_W => (refine ⟨?_, ?_⟩; k_is; k_is)
    case n_W_first | n_W_length | n_W_laid | n_W_turned | z_len | z_min | z_max | z_sum | z_sorted | z_list | z_range | z_tuple | z_isinstance | z_enumerate | z_abs | z_ValueError => (show _ = _; k_is)
    case v_MOST_PIECES | aTooMany => k_is
    case xTooMany => k_exc
    case aUnlike => k_is
    case xUnlike => k_exc
    case hcc0 => rfl
    case hcd0 => kernel_rfl
    case hcc1 => rfl
    case hcd1 => kernel_rfl
    case aLE | sget | stk | aK0 | aK1 | aK2 | aK3 | aK4 | aK7 | aK8 | aK9 | aK10 | oga | ono | ocl | omo | omb | ohd => k_is
    case oxm => kts_exm
    case ok0 | ok1 | ok2 | ok3 | ok4 | ok5 | ok6 | ok7 | ok8 | ok9 | ok10 | okl | okv => kit_is
    case uga | uno | ucl | umo | umb | uhd => k_is
    case uxm => kts_exm
    case uk0 | uk1 | uk2 | uk3 | uk4 | uk5 | uk6 | uk7 | uk8 | uk9 | uk10 | ukl | ukv | nk0 | nk1 | nk2 | nk3 | nk4 | nk5 | nk6 | nk7 | nk8 | nk9 | nk10 => kit_is
    case nt => rfl
#print axioms PySem.Challenge.cw_relaid_k48_joins_refused_holds
